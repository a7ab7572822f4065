/- Texts of this seat, one behind the other: TrieC, TrieR. -/
import Derived.Test.YtncpokioagpclaaGreatDoorZ27
import Derived.Test.YtncpokioagpclaaGreatDoorZ6
import Derived.Test.YtncpokioagpclaaGreatDoorZ2
import Derived.Test.YtncpokioagpclaaGreatDoorZ4
import Derived.Test.YtncpokioagpclaaGreatDoorZ10
namespace Go.Proofs.YtncpokioagpclaaGreatDoor
set_option linter.unusedVariables false
open Go.RowKit
theorem infoints : (Tryz.prog.info? 34).map (fun i => (i.zero, i.size, i.bytes)) = some (some (.slice none 0 0), 1, 24) := by kernel_rfl
theorem OwnTx.off_new {base T : Nat} {w : World} {ns : List NodeM} {outs : List (List Int)} {nV oV : Value} {xs ys : List Value} {V : Nat → Value} (h : OwnTx base w T ns outs nV oV xs ys V) {b : Nat} (hb : w.heap.size ≤ b) : Off T nV oV V ns.length b := by
  refine ⟨by have := h.size; omega, fun e => by have := own_lt h.nodes e; omega, fun e => by have := own_lt h.orow e; omega, fun i hi e => ?_⟩
  obtain ⟨zs, hz⟩ := h.row hi
  have := own_lt hz e; omega
theorem OwnTx.new (base : Nat) (w : World) (hb : base ≤ w.heap.size) (T : Nat) (hT : T = w.heap.size + 1) :
    OwnTx base ((w.alloc (.cells #[.int .i64 (-1), .slice none 0 0, .slice none 0 0] 243)).alloc (.cells #[.slice (some ⟨w.heap.size, 0, none⟩) 1 1, .slice none 0 0] 108)) T [⟨-1, [], []⟩] [] (.slice (some ⟨w.heap.size, 0, none⟩) 1 1) (.slice none 0 0) [.int .i64 (-1), .slice none 0 0, .slice none 0 0] [] (fun _ => .slice none 0 0) := by
  subst hT
  have hn := (World.ownsRow_lit (base := base) (e := 243) (size := 3) w #[.int .i64 (-1), .slice none 0 0, .slice none 0 0] 1 hb (by simp [maxLen]) rfl).alloc (.cells #[.slice (some ⟨w.heap.size, 0, none⟩) 1 1, .slice none 0 0] 108)
  refine ⟨by omega, ?_, hn, ?_, ?_, World.ownsRow_nil _ _ _ _, ?_⟩
  · have := heap_alloc_new (w.alloc (.cells #[.int .i64 (-1), .slice none 0 0, .slice none 0 0] 243)) (.cells #[.slice (some ⟨w.heap.size, 0, none⟩) 1 1, .slice none 0 0] 108)
    rw [show (w.alloc (.cells #[.int .i64 (-1), .slice none 0 0, .slice none 0 0] 243)).heap.size = w.heap.size + 1 from by simp] at this
    exact this
  · intro k nd hk
    match k with
    | 0 =>
      simp at hk
      subst hk
      exact ⟨rfl, rfl, rfl, World.ownsRow_nil _ _ _ _, World.ownsRow_nil _ _ _ _⟩
    | k + 1 => simp at hk
  · intro i j g _ _ _ e; cases e
  · intro k o hk; simp at hk

set_option maxHeartbeats 6400000 in
theorem of_good (n : Nat) (A : Option Addr) (c : Nat) (rs : List Rl) (B : Nat) (w : World) (hr : RsAt w B A n c rs) (hB : B ≤ w.heap.size) (hv : checkR rs = (-1, 0)) :
    Calls Tryz.prog 114 #[.slice A n c] w fun en w' => ∃ T ns nV oV xs ys V, en = .returned (.tuple #[.pointer (some ⟨T, 0, none⟩), .int .i64 0]) ∧ OwnTx w.heap.size w' T ns (rs.map (·.2)) nV oV xs ys V ∧ TI (pathsR rs) ns (findR rs) ∧ Below w.heap.size w w' := by
  have hgood := good_of hv
  have hn512 : n ≤ 512 := by rw [hr.len]; exact hgood.many
  have HR := Lib.hid hr
  have HV := Lib.hid hv
  have HG := Lib.hid hgood
  have hn1 := hr.fits
  have hn2 := hr.small
  unfold maxLen at hn2
  clear hr hv hgood
  go_enter Tryz.func114, Tryz.ntmps114
  go_wp2_with fail
  refine (check_any n A c rs B w HR.out hB (-1) 0 HV.out).mono ?_
  rintro en w1 ⟨rfl, hb1⟩
  have hs1 := hb1.size
  obtain ⟨T, hT⟩ : ∃ T, T = w1.heap.size + 1 := ⟨_, rfl⟩
  have hs2 : w.heap.size ≤ w1.heap.size := hs1
  have H0 := Lib.hid (OwnTx.new w.heap.size w1 hs1 T hT)
  have hbT : w.heap.size ≤ T := by omega
  have HT := Lib.hid hT
  have HS1 := Lib.hid hs1
  have HB1 := Lib.hid hb1
  clear hs2
  go_wp2
  rw [← HT.out]
  clear hT
  go_loopw [26] (fun i wr => ∃ (K : Nat) (ns : List NodeM) (nV oV : Value) (xs ys : List Value) (V : Nat → Value), K ≤ n ∧ i = .int .i64 K ∧ Hid (OwnTx w.heap.size wr T ns ((rs.take K).map (·.2)) nV oV xs ys V) ∧ Hid (TI (pathsR (rs.take K)) ns (findR (rs.take K))) ∧ Below w.heap.size w wr) (fun i _ => n - (intOf i).toNat)
  case atStart => exact ⟨0, _, _, _, _, _, _, by omega, rfl, H0, TI.new, (HB1.out.alloc HS1.out _).alloc (by simp; have := HS1.out; omega) _⟩
  case round =>
    obtain ⟨K, ns, nV, oV, xs, ys, V, hK, rfl, ho, ht, hb⟩ := hrel
    by_cases hKn : K = n
    · have hK' : ¬ K < n := by omega
      have hlr := HR.out.len
      have HE : Hid (∃ ns nV oV xs ys V, OwnTx w.heap.size wr T ns (rs.map (·.2)) nV oV xs ys V ∧ TI (pathsR rs) ns (findR rs) ∧ Below w.heap.size w wr) := by
        have e : rs.take K = rs := List.take_of_length_le (by omega)
        rw [e] at ho ht
        exact ⟨ns, nV, oV, xs, ys, V, ho.out, ht.out, hb⟩
      clear hKn ho ht hb hlr
      go_wp2
      go_ret2
      obtain ⟨ns, nV, oV, xs, ys, V, q2, q3, q4⟩ := HE.out
      exact ⟨T, ns, nV, oV, xs, ys, V, rfl, q2, q3, q4⟩
    have hK' : K < n := by omega
    have hK1 : K < rs.length := by rw [← HR.out.len]; exact hK'
    have hsd := HG.out.side _ (List.getElem_mem hK1)
    obtain ⟨b, o, rfl, hbB, A1, n1, c1, A2, n2, c2, g1, g2, e1, e2, e3, e4, f1, f2, f3, f4⟩ := HR.out.at hK1
    have k1 := (hb.cell (p := ⟨b, o + K * 2, none⟩) (by show b < _; omega)).trans g1
    have k2 := (hb.cell (p := ⟨b, o + K * 2 + 1, none⟩) (by show b < _; omega)).trans g2
    have k3 : (0 : Int) ≤ K := by omega
    have k4 : (K : Int) < n := by omega
    have hl1 : n1 ≤ 8 := by rw [e1]; exact hsd.2.1
    have hl2 : n2 ≤ 8 := by rw [f1]; exact hsd.2.2.2.1
    obtain ⟨In, hIn⟩ : ∃ In, In = rs[K].1 := ⟨_, rfl⟩
    obtain ⟨Out, hOut⟩ : ∃ Out, Out = rs[K].2 := ⟨_, rfl⟩
    rw [← hIn] at e1 e4
    rw [← hOut] at f1 f4
    have HIn := Lib.hid hIn
    have HOut := Lib.hid hOut
    have E1 := Lib.hid e1
    have F1 := Lib.hid f1
    have E4 := Lib.hid e4
    have F4 := Lib.hid f4
    unfold maxLen at e3 f3
    have hPs : (pathsR (rs.take K)).length ≤ 4097 := by
      have := paths_small (K := K) (by omega) (fun r hr => (HG.out.side r hr).2.1)
      omega
    have HPs := Lib.hid hPs
    clear g1 g2 e1 e4 f1 f4 hsd hIn hOut hPs
    obtain ⟨g8, hg8⟩ : ∃ g8, g8 = wr.heap.size := ⟨_, rfl⟩
    obtain ⟨P0, hP0⟩ : ∃ P0, P0 = pathsR (rs.take K) := ⟨_, rfl⟩
    obtain ⟨f, hf⟩ : ∃ f, f = findR (rs.take K) := ⟨_, rfl⟩
    obtain ⟨outs, houts⟩ : ∃ outs, outs = (rs.take K).map (·.2) := ⟨_, rfl⟩
    rw [← hP0, ← hf] at ht
    rw [← houts] at ho
    rw [← hP0] at HPs
    have HP0 := Lib.hid hP0
    have HF := Lib.hid hf
    have HOU := Lib.hid houts
    have HG8 := Lib.hid hg8
    have hroot : [] ∈ P0 := List.mem_of_getElem? ht.out.root
    have HRT := Lib.hid hroot
    obtain ⟨wo, rfl⟩ : ∃ wo : World, wo = wr := ⟨_, rfl⟩
    have hsW : Below wo.heap.size wo (wo.alloc (.cells #[.slice A1 n1 c1, .slice A2 n2 c2] 104)) := (Below.refl _ _).alloc (Nat.le_refl _) _
    have HSW := Lib.hid hsW
    have HO1 := Lib.hid (ho.out.below hsW (Nat.le_refl _))
    have HOF := Lib.hid (ho.out.off_new (Nat.le_refl wo.heap.size))
    have hq : (wo.alloc (.cells #[.slice A1 n1 c1, .slice A2 n2 c2] 104)).heap[wo.heap.size]? = some (.cells #[.slice A1 n1 c1, .slice A2 n2 c2] 104 (0, 0)) := heap_alloc_new wo _
    have HQ := Lib.hid hq
    have hso := hb.size
    clear hP0 hf houts hroot hsW hq hg8
    go_wp2
    rw [← HG8.out]
    go_loopw [9, 34] (fun at_ i wr => ∃ (J : Nat) (ns' : List NodeM) (nV' : Value) (xs' : List Value) (V' : Nat → Value), J ≤ n1 ∧ i = .int .i64 J ∧ at_ = .int .i64 (idxP (growP P0 [] (In.take J)) (In.take J) : Nat) ∧ Hid (OwnTx w.heap.size wr T ns' outs nV' oV xs' ys V') ∧ Hid (TI (growP P0 [] (In.take J)) ns' f) ∧ Below w.heap.size w wr ∧
        Hid (wr.heap[g8]? = some (.cells #[.slice A1 n1 c1, .slice A2 n2 c2] 104 (0, 0)) ∧ Off T nV' oV V' ns'.length g8)) (fun _ i _ => n1 - (intOf i).toNat)
    case atStart =>
      refine ⟨0, ns, nV, xs, V, by omega, rfl, ?_, HO1, by simpa [growP] using ht, hb.trans (HSW.out.mono hso), by rw [HG8.out]; exact HQ.out, by rw [HG8.out]; exact HOF.out⟩
      have : idxP P0 [] = 0 := idxP_of ht.out.nodup ht.out.root
      simp [growP, this]
    case round =>
      obtain ⟨J, ns', nV', xs', V', hJ, rfl, rfl, ho', ht', hb', hq'⟩ := hrel
      by_cases hJn : J = n1
      · have hJ' : ¬ J < n1 := by omega
        have hall : In.take J = In := List.take_of_length_le (by rw [← E1.out]; omega)
        rw [hall] at ht' ⊢
        obtain ⟨P1, hP1⟩ : ∃ P1, P1 = growP P0 [] In := ⟨_, rfl⟩
        rw [← hP1] at ht' ⊢
        have hin : In ∈ P1 := by rw [hP1, ← hall]; exact grow_in HRT.out (by rw [← E1.out]; omega)
        obtain ⟨ka, hka⟩ : ∃ ka, ka = idxP P1 In := ⟨_, rfl⟩
        have hkx : P1[ka]? = some In := by rw [hka]; exact (idxP_lt hin).2
        rw [← hka]
        have hkal : ka < ns'.length := by rw [ht'.out.len]; exact lt_of_some hkx
        obtain ⟨nd, hnd⟩ : ∃ nd, ns'[ka]? = some nd := ⟨_, List.getElem?_eq_getElem hkal⟩
        obtain ⟨g, cN, rfl, hc1, hc2⟩ := ho'.out.nform (by omega)
        obtain ⟨N, hN⟩ : ∃ N, N = ns'.length := ⟨_, rfl⟩
        rw [← hN] at ho' hq' hkal hc1
        obtain ⟨b0, bb1, bf⟩ := ho'.out.boxes
        obtain ⟨d0, d1, d2, df⟩ := ho'.out.cells hnd
        have df0 := df (ka * 3)
        have k7 : (0 : Int) ≤ ka := by omega
        have k8 : (ka : Int) < N := by omega
        unfold maxLen at hc2
        have HND := Lib.hid hnd
        have HKX := Lib.hid hkx
        have HP1 := Lib.hid hP1
        have HIN := Lib.hid hin
        have hgT : g ≠ T := fun e => absurd (own_type ho'.out.nodes (show (Value.slice (some ⟨g, 0, none⟩) N cN).ownBlock = some T by rw [← e]; rfl) ho'.out.box) (by decide)
        have HO2 := Lib.hid (ho'.out.setRule rfl (K : Int) HND.out)
        have hgl : w.heap.size ≤ g := (ho'.out.nodes.lt g rfl).1
        have hgs : g < wr.heap.size := own_lt ho'.out.nodes rfl
        have hq8 := hq'.out.1
        have hoff := hq'.out.2
        have HT2 : Hid (TI (pathsR (rs.take (K + 1))) (ns'.set ka ⟨(K : Int), nd.units, nd.next⟩) (findR (rs.take (K + 1)))) := by
          have h := ht'.out.put (K : Int) HND.out HKX.out
          rw [HF.out, HIn.out, put_find hK1 (HG.out.first hK1)] at h
          rw [paths_take hK1, ← HP0.out, ← HIn.out, ← HP1.out]
          exact h
        clear hJn hall hka hnd hkx hP1 hin bb1 bf d1 d2 df ht'
        obtain ⟨Ao, co, rfl, hco, hco2⟩ := own_form ho'.out.orow
        obtain ⟨M, hM⟩ : ∃ M, M = outs.length := ⟨_, rfl⟩
        have hM512 : M ≤ 512 := by rw [hM, HOU.out]; simp; omega
        have HM := Lib.hid hM
        rw [← hM] at HO2 hoff ho'
        clear hM hco
        go_wp2_with fail
        obtain ⟨w2, hw2⟩ : ∃ w2, w2 = wr.setCell ⟨g, ka * 3, none⟩ (.int .i64 K) := ⟨_, rfl⟩
        have hz2 : w2.heap.size = wr.heap.size := by rw [hw2]; simp
        rw [← hw2] at HO2 ⊢
        have hg8g : g8 ≠ g := fun e => hoff.2.1 (by rw [e]; rfl)
        have hq2 : w2.heap[g8]? = some (.cells #[.slice A1 n1 c1, .slice A2 n2 c2] 104 (0, 0)) := by rw [hw2, heap_setCell_other wr _ g8 _ hg8g]; exact hq8
        have hb2 : Below w.heap.size w w2 := by rw [hw2]; exact hb'.setCell hgl _
        have hg8l : g8 < w2.heap.size := heap_lt0 hq2
        have hTl : T < w2.heap.size := HO2.out.size
        have hBx := HO2.out.box
        have x1 : w2.cell? ⟨T, 1, none⟩ = some (.slice Ao M co) := HO2.out.boxes.2.1
        have x2 : w2.cell? ⟨g8, 1, none⟩ = some (.slice A2 n2 c2) := by rw [cell_of_row _ _ _ _ _ _ hq2]; rfl
        have HOFF := Lib.hid hoff
        have HQ2 := Lib.hid hq2
        have HBX := Lib.hid hBx
        have X1 := Lib.hid x1
        have X2 := Lib.hid x2
        have hs2 := hb2.size
        obtain ⟨ns2, hns2⟩ : ∃ ns2, ns2 = ns'.set ka ⟨(K : Int), nd.units, nd.next⟩ := ⟨_, rfl⟩
        rw [← hns2] at HO2 HT2
        have hl2 : ns2.length = N := by rw [hns2, hN]; simp
        have HL2 := Lib.hid hl2
        have hoT : (Value.slice Ao M co).ownBlock ≠ some T := fun e => absurd (own_type HO2.out.orow e HO2.out.box) (by decide)
        have HOT := Lib.hid hoT
        obtain ⟨i0, hi, hz0, HZ1, HZ2⟩ := info_parts infoints
        clear hw2 hq8 hoff hq2 hBx x1 x2 hns2 hl2 b0 d0 df0 ho' hq' hoT hN
        refine wp_region_fork (G := SameB g8) (.soft 0 (.soft 1 (.soft 2 (.soft 3 (.soft 5 (.soft 6 (.two 4 7 (.one 7 (.one 8 (.one 9 (.soft 10 (.soft 11 (.one 12 .done)))))) (.two 4 8 (.one 8 (.one 9 (.soft 10 (.soft 11 (.one 12 .done))))) (.one 4 (.one 9 (.soft 10 (.soft 11 (.one 12 .done)))))))))))))
          (SameB.refl _) (SameB.trans _) (by kernel_rfl) rfl (by kernel_rfl) (by kernel_rfl) ?_
        iterate 5 (refine fork_soft rfl rfl ?_; go_big_quiet_step ((intro _; rfl)); refine wpQuiet_nil ?_)
        refine fork_soft rfl rfl ?_
        go_big_quiet_step ((intro hh; rw [hh.cell, World.cell?_drew, X2.out]; exact ⟨rfl, rfl⟩))
        refine wpQuiet_nil ?_
        have hclone := clone_any n2 A2 c2 Out B w2.drew F1.out (F4.out.below (hb2.drew.mono hB) (Nat.le_refl _)) (by show B ≤ w2.heap.size; omega) (by omega)
        -- FORK
        refine fork_two rfl rfl ?_ ?_
        · have x3 := X1.out
          go_wp2_with fail
          refine ⟨SameB.refl _ _, ?_⟩
          clear x3
          refine fork_one rfl ?_
          go_wp2_with fail
          refine hclone.mono ?_
          rintro e w3 ⟨A4, c4, rfl, hu4, hb3⟩
          have HU4 := Lib.hid hu4
          have hb3' : Below w2.heap.size w2 w3 := (Below.refl w2.heap.size w2).drew.trans hb3
          have hz3 : w2.heap.size ≤ w3.heap.size := hb3'.size
          have x3 : w3.cell? ⟨T, 1, none⟩ = some (.slice Ao M co) := (hb3'.cell (p := ⟨T, 1, none⟩) hTl).trans X1.out
          clear hu4
          go_wp2_with fail
          refine ⟨SameB.of hb3 (by show g8 < w2.heap.size; omega), ?_⟩
          refine fork_one rfl ?_
          go_wp2_with fail
          refine ⟨SameB.of ((Below.refl w3.heap.size w3).alloc (Nat.le_refl _) _) (by omega), ?_⟩
          have x4 : (w3.alloc (.cells #[.slice A4 n2 c4] 34)).cell? ⟨T, 1, none⟩ = some (.slice Ao M co) := (((Below.refl w3.heap.size w3).alloc (Nat.le_refl _) (.cells #[.slice A4 n2 c4] 34)).cell (p := ⟨T, 1, none⟩) (by show T < w3.heap.size; omega)).trans x3
          refine fork_one rfl ?_
          clear x3 x4
          obtain ⟨W, hW⟩ : ∃ W, W = w3.alloc (.cells #[.slice A4 n2 c4] 34) := ⟨_, rfl⟩
          have hbW : Below w3.heap.size w3 W := by rw [hW]; exact (Below.refl _ _).alloc (Nat.le_refl _) _
          have hsW : W.heap.size = w3.heap.size + 1 := by rw [hW]; simp
          have hrW : Rd W (w3.heap.size + 1) (some ⟨w3.heap.size, 0, none⟩) [.slice A4 n2 c4] := by rw [hW]; exact Rd_new w3 _ _
          have hb2W : Below w2.heap.size w2 W := hb3'.trans (hbW.mono hz3)
          have HOW := Lib.hid (HO2.out.below hb2W (Nat.le_refl _))
          have hown := HOW.out.orow
          rw [← HM.out] at hown
          have HRW := Lib.hid hrW
          have HSW := Lib.hid hsW
          have HBW := Lib.hid hbW
          have HB2W := Lib.hid hb2W
          rw [← hW]
          clear hW hrW hsW hbW hb2W hb3 hb3'
          go_wp2_with (at_builtin; refine wpList_appB _ rfl _ _ 106 rfl w.heap.size 34 i0 _ 1 24 Tryz.underlying106 hi hz0 HZ1 HZ2 rfl (by decide) _ _ _ rfl hown (w3.heap.size + 1) _ 1 1 [.slice A4 n2 c4] rfl rfl HRW.out ?c2 ?c3 ?c4 ?c5 ?_)
          case c2 => intro u hu; simp at hu; subst hu; rfl
          case c3 => simp only [maxLen]; omega
          case c4 => omega
          case c5 => rw [HSW.out]; omega
          intro v5 w5 ho5 hg5 hn5
          have hy : Us (fun b => (b ≠ T ∧ w.heap.size ≤ b) ∧ (Value.slice (some ⟨g, 0, none⟩) N cN).ownBlock ≠ some b ∧ (Value.slice Ao M co).ownBlock ≠ some b ∧ ∀ i, i < ns2.length * 2 → (V' i).ownBlock ≠ some b) W (.slice A4 n2 c4) Out :=
            HU4.out.step (by rw [HSW.out]; omega) fun b hb hle => ⟨⟨⟨(HO2.out.off_new hle).1, by have h9 : w2.heap.size ≤ b := hle; have h8 := hb2.size; omega⟩, (HO2.out.off_new hle).2⟩, HBW.out.block b hb⟩
          have hbox5 : w5.heap[T]? = some (.cells #[.slice (some ⟨g, 0, none⟩) N cN, .slice Ao M co] 108 (0, 0)) := (hg5.block T (by rw [HSW.out]; omega) (fun e => HOT.out e.symm)).trans HOW.out.box
          have y1 : w5.cell? ⟨T, 1, none⟩ = some (.slice Ao M co) := by rw [cell_of_row _ _ _ _ _ _ hbox5]; rfl
          have y2 : w5.frozen? ⟨T, 1, none⟩ = false := frozen_of_row _ _ _ _ _ hbox5
          have hsg : SameB g8 W w5 := SameB.grown hg5 (by rw [HSW.out]; omega) (fun e => HOFF.out.2.2.1 e)
          have H5 := Lib.hid (HOW.out.addOut hy (by rw [← HM.out]; exact ho5) hg5 (fun g' e => by
            rcases hn5 with h | h
            · left; rw [← h]; exact e
            · right; rw [h] at e; injection e with e; omega))
          have hoe : outs ++ [Out] = (rs.take (K + 1)).map (·.2) := by rw [HOU.out, HOut.out, List.take_succ_eq_append_getElem hK1, List.map_append]; rfl
          rw [hoe] at H5
          have hbE : Below w.heap.size w w5 := (hb2.trans (HB2W.out.mono hs2)).grown hg5 (by rw [HSW.out]; omega) (fun k' hk' => (hown.lt k' hk').1)
          obtain ⟨A5, c5, ev5, _, _⟩ := own_form ho5
          subst ev5
          have HSG := Lib.hid hsg
          clear ho5 hg5 hn5 hy hbox5 hoe hown hsg
          go_wp2_with fail
          refine ⟨HSG.out, ?_⟩
          iterate 2 (refine fork_soft rfl rfl ?_; go_big_quiet_step ((intro _; rfl)); refine wpQuiet_nil ?_)
          refine fork_one rfl ?_
          go_wp2_with fail
          refine ⟨⟨heap_setCell_other w5 ⟨T, 1, none⟩ g8 _ HOFF.out.1, by simp⟩, ?_⟩
          refine fork_done (NoPanic.normal ?_)
          go_wp2
          exact ⟨⟨K + 1, ns2, _, _, _, _, _, by omega, by go_num, H5, HT2, hbE.setCell hbT _⟩, by simp [intOf]; omega⟩
        · skip
          go_wp2_with fail
          refine hclone.mono ?_
          rintro e w3 ⟨A4, c4, rfl, hu4, hb3⟩
          have HU4 := Lib.hid hu4
          have hb3' : Below w2.heap.size w2 w3 := (Below.refl w2.heap.size w2).drew.trans hb3
          have hz3 : w2.heap.size ≤ w3.heap.size := hb3'.size
          have x3 : w3.cell? ⟨T, 1, none⟩ = some (.slice Ao M co) := (hb3'.cell (p := ⟨T, 1, none⟩) hTl).trans X1.out
          clear hu4
          go_wp2_with fail
          refine ⟨SameB.of hb3 (by show g8 < w2.heap.size; omega), ?_⟩
          refine fork_two rfl rfl ?_ ?_
          · skip
            go_wp2_with fail
            refine ⟨SameB.refl _ _, ?_⟩
            refine fork_one rfl ?_
            go_wp2_with fail
            refine ⟨SameB.of ((Below.refl w3.heap.size w3).alloc (Nat.le_refl _) _) (by omega), ?_⟩
            have x4 : (w3.alloc (.cells #[.slice A4 n2 c4] 34)).cell? ⟨T, 1, none⟩ = some (.slice Ao M co) := (((Below.refl w3.heap.size w3).alloc (Nat.le_refl _) (.cells #[.slice A4 n2 c4] 34)).cell (p := ⟨T, 1, none⟩) (by show T < w3.heap.size; omega)).trans x3
            refine fork_one rfl ?_
            clear x3 x4
            obtain ⟨W, hW⟩ : ∃ W, W = w3.alloc (.cells #[.slice A4 n2 c4] 34) := ⟨_, rfl⟩
            have hbW : Below w3.heap.size w3 W := by rw [hW]; exact (Below.refl _ _).alloc (Nat.le_refl _) _
            have hsW : W.heap.size = w3.heap.size + 1 := by rw [hW]; simp
            have hrW : Rd W (w3.heap.size + 1) (some ⟨w3.heap.size, 0, none⟩) [.slice A4 n2 c4] := by rw [hW]; exact Rd_new w3 _ _
            have hb2W : Below w2.heap.size w2 W := hb3'.trans (hbW.mono hz3)
            have HOW := Lib.hid (HO2.out.below hb2W (Nat.le_refl _))
            have hown := HOW.out.orow
            rw [← HM.out] at hown
            have HRW := Lib.hid hrW
            have HSW := Lib.hid hsW
            have HBW := Lib.hid hbW
            have HB2W := Lib.hid hb2W
            rw [← hW]
            clear hW hrW hsW hbW hb2W hb3 hb3'
            go_wp2_with (at_builtin; refine wpList_appB _ rfl _ _ 106 rfl w.heap.size 34 i0 _ 1 24 Tryz.underlying106 hi hz0 HZ1 HZ2 rfl (by decide) _ _ _ rfl hown (w3.heap.size + 1) _ 1 1 [.slice A4 n2 c4] rfl rfl HRW.out ?c2 ?c3 ?c4 ?c5 ?_)
            case c2 => intro u hu; simp at hu; subst hu; rfl
            case c3 => simp only [maxLen]; omega
            case c4 => omega
            case c5 => rw [HSW.out]; omega
            intro v5 w5 ho5 hg5 hn5
            have hy : Us (fun b => (b ≠ T ∧ w.heap.size ≤ b) ∧ (Value.slice (some ⟨g, 0, none⟩) N cN).ownBlock ≠ some b ∧ (Value.slice Ao M co).ownBlock ≠ some b ∧ ∀ i, i < ns2.length * 2 → (V' i).ownBlock ≠ some b) W (.slice A4 n2 c4) Out :=
              HU4.out.step (by rw [HSW.out]; omega) fun b hb hle => ⟨⟨⟨(HO2.out.off_new hle).1, by have h9 : w2.heap.size ≤ b := hle; have h8 := hb2.size; omega⟩, (HO2.out.off_new hle).2⟩, HBW.out.block b hb⟩
            have hbox5 : w5.heap[T]? = some (.cells #[.slice (some ⟨g, 0, none⟩) N cN, .slice Ao M co] 108 (0, 0)) := (hg5.block T (by rw [HSW.out]; omega) (fun e => HOT.out e.symm)).trans HOW.out.box
            have y1 : w5.cell? ⟨T, 1, none⟩ = some (.slice Ao M co) := by rw [cell_of_row _ _ _ _ _ _ hbox5]; rfl
            have y2 : w5.frozen? ⟨T, 1, none⟩ = false := frozen_of_row _ _ _ _ _ hbox5
            have hsg : SameB g8 W w5 := SameB.grown hg5 (by rw [HSW.out]; omega) (fun e => HOFF.out.2.2.1 e)
            have H5 := Lib.hid (HOW.out.addOut hy (by rw [← HM.out]; exact ho5) hg5 (fun g' e => by
              rcases hn5 with h | h
              · left; rw [← h]; exact e
              · right; rw [h] at e; injection e with e; omega))
            have hoe : outs ++ [Out] = (rs.take (K + 1)).map (·.2) := by rw [HOU.out, HOut.out, List.take_succ_eq_append_getElem hK1, List.map_append]; rfl
            rw [hoe] at H5
            have hbE : Below w.heap.size w w5 := (hb2.trans (HB2W.out.mono hs2)).grown hg5 (by rw [HSW.out]; omega) (fun k' hk' => (hown.lt k' hk').1)
            obtain ⟨A5, c5, ev5, _, _⟩ := own_form ho5
            subst ev5
            have HSG := Lib.hid hsg
            clear ho5 hg5 hn5 hy hbox5 hoe hown hsg
            go_wp2_with fail
            refine ⟨HSG.out, ?_⟩
            iterate 2 (refine fork_soft rfl rfl ?_; go_big_quiet_step ((intro _; rfl)); refine wpQuiet_nil ?_)
            refine fork_one rfl ?_
            go_wp2_with fail
            refine ⟨⟨heap_setCell_other w5 ⟨T, 1, none⟩ g8 _ HOFF.out.1, by simp⟩, ?_⟩
            refine fork_done (NoPanic.normal ?_)
            go_wp2
            exact ⟨⟨K + 1, ns2, _, _, _, _, _, by omega, by go_num, H5, HT2, hbE.setCell hbT _⟩, by simp [intOf]; omega⟩
          · skip
            go_wp2_with fail
            refine ⟨SameB.of ((Below.refl w3.heap.size w3).alloc (Nat.le_refl _) _) (by omega), ?_⟩
            have x4 : (w3.alloc (.cells #[.slice A4 n2 c4] 34)).cell? ⟨T, 1, none⟩ = some (.slice Ao M co) := (((Below.refl w3.heap.size w3).alloc (Nat.le_refl _) (.cells #[.slice A4 n2 c4] 34)).cell (p := ⟨T, 1, none⟩) (by show T < w3.heap.size; omega)).trans x3
            refine fork_one rfl ?_
            go_wp2_with fail
            refine ⟨SameB.refl _ _, ?_⟩
            refine fork_one rfl ?_
            clear x3 x4
            obtain ⟨W, hW⟩ : ∃ W, W = w3.alloc (.cells #[.slice A4 n2 c4] 34) := ⟨_, rfl⟩
            have hbW : Below w3.heap.size w3 W := by rw [hW]; exact (Below.refl _ _).alloc (Nat.le_refl _) _
            have hsW : W.heap.size = w3.heap.size + 1 := by rw [hW]; simp
            have hrW : Rd W (w3.heap.size + 1) (some ⟨w3.heap.size, 0, none⟩) [.slice A4 n2 c4] := by rw [hW]; exact Rd_new w3 _ _
            have hb2W : Below w2.heap.size w2 W := hb3'.trans (hbW.mono hz3)
            have HOW := Lib.hid (HO2.out.below hb2W (Nat.le_refl _))
            have hown := HOW.out.orow
            rw [← HM.out] at hown
            have HRW := Lib.hid hrW
            have HSW := Lib.hid hsW
            have HBW := Lib.hid hbW
            have HB2W := Lib.hid hb2W
            rw [← hW]
            clear hW hrW hsW hbW hb2W hb3 hb3'
            go_wp2_with (at_builtin; refine wpList_appB _ rfl _ _ 106 rfl w.heap.size 34 i0 _ 1 24 Tryz.underlying106 hi hz0 HZ1 HZ2 rfl (by decide) _ _ _ rfl hown (w3.heap.size + 1) _ 1 1 [.slice A4 n2 c4] rfl rfl HRW.out ?c2 ?c3 ?c4 ?c5 ?_)
            case c2 => intro u hu; simp at hu; subst hu; rfl
            case c3 => simp only [maxLen]; omega
            case c4 => omega
            case c5 => rw [HSW.out]; omega
            intro v5 w5 ho5 hg5 hn5
            have hy : Us (fun b => (b ≠ T ∧ w.heap.size ≤ b) ∧ (Value.slice (some ⟨g, 0, none⟩) N cN).ownBlock ≠ some b ∧ (Value.slice Ao M co).ownBlock ≠ some b ∧ ∀ i, i < ns2.length * 2 → (V' i).ownBlock ≠ some b) W (.slice A4 n2 c4) Out :=
              HU4.out.step (by rw [HSW.out]; omega) fun b hb hle => ⟨⟨⟨(HO2.out.off_new hle).1, by have h9 : w2.heap.size ≤ b := hle; have h8 := hb2.size; omega⟩, (HO2.out.off_new hle).2⟩, HBW.out.block b hb⟩
            have hbox5 : w5.heap[T]? = some (.cells #[.slice (some ⟨g, 0, none⟩) N cN, .slice Ao M co] 108 (0, 0)) := (hg5.block T (by rw [HSW.out]; omega) (fun e => HOT.out e.symm)).trans HOW.out.box
            have y1 : w5.cell? ⟨T, 1, none⟩ = some (.slice Ao M co) := by rw [cell_of_row _ _ _ _ _ _ hbox5]; rfl
            have y2 : w5.frozen? ⟨T, 1, none⟩ = false := frozen_of_row _ _ _ _ _ hbox5
            have hsg : SameB g8 W w5 := SameB.grown hg5 (by rw [HSW.out]; omega) (fun e => HOFF.out.2.2.1 e)
            have H5 := Lib.hid (HOW.out.addOut hy (by rw [← HM.out]; exact ho5) hg5 (fun g' e => by
              rcases hn5 with h | h
              · left; rw [← h]; exact e
              · right; rw [h] at e; injection e with e; omega))
            have hoe : outs ++ [Out] = (rs.take (K + 1)).map (·.2) := by rw [HOU.out, HOut.out, List.take_succ_eq_append_getElem hK1, List.map_append]; rfl
            rw [hoe] at H5
            have hbE : Below w.heap.size w w5 := (hb2.trans (HB2W.out.mono hs2)).grown hg5 (by rw [HSW.out]; omega) (fun k' hk' => (hown.lt k' hk').1)
            obtain ⟨A5, c5, ev5, _, _⟩ := own_form ho5
            subst ev5
            have HSG := Lib.hid hsg
            clear ho5 hg5 hn5 hy hbox5 hoe hown hsg
            go_wp2_with fail
            refine ⟨HSG.out, ?_⟩
            iterate 2 (refine fork_soft rfl rfl ?_; go_big_quiet_step ((intro _; rfl)); refine wpQuiet_nil ?_)
            refine fork_one rfl ?_
            go_wp2_with fail
            refine ⟨⟨heap_setCell_other w5 ⟨T, 1, none⟩ g8 _ HOFF.out.1, by simp⟩, ?_⟩
            refine fork_done (NoPanic.normal ?_)
            go_wp2
            exact ⟨⟨K + 1, ns2, _, _, _, _, _, by omega, by go_num, H5, HT2, hbE.setCell hbT _⟩, by simp [intOf]; omega⟩
      · have hJ' : J < n1 := by omega
        have hJ1 : J < In.length := by rw [← E1.out]; exact hJ'
        obtain ⟨b1, o1, rfl, hb1B, hcell⟩ := rd_ints E4.out (by omega)
        have hc := (hb'.cell (p := ⟨b1, o1 + J, none⟩) (by show b1 < _; omega)).trans (hcell J hJ1)
        have hgd : In.getD J 0 = In[J] := by simp [List.getD_eq_getElem?_getD, hJ1]
        obtain ⟨u, hu⟩ : ∃ u, u = In[J] := ⟨_, rfl⟩
        rw [hgd, ← hu] at hc
        have k5 : (0 : Int) ≤ J := by omega
        have k6 : (J : Int) < n1 := by omega
        obtain ⟨ka, hka⟩ : ∃ ka, ka = idxP (growP P0 [] (In.take J)) (In.take J) := ⟨_, rfl⟩
        have hkx : (growP P0 [] (In.take J))[ka]? = some (In.take J) := by rw [hka]; exact (idxP_lt (grow_in HRT.out (by omega))).2
        rw [← hka]
        have hlen : (growP P0 [] (In.take J)).length ≤ 5000 := by
          have := (growP_len (In.take J) P0 []).2
          have := HPs.out
          simp at *
          omega
        have HKX := Lib.hid hkx
        have HLEN := Lib.hid hlen
        have HU := Lib.hid hu
        clear hJn hcell hgd hu hka hkx hlen
        go_wp2_with fail
        refine (grow_any w.heap.size wr T ns' outs nV' oV xs' ys V' _ f ho'.out ht'.out ka (In.take J) HKX.out u HLEN.out _ rfl _ rfl).mono ?_
        rintro e w3 ⟨ns3, nV3, xs3, V3, rfl, ho3, ht3, hb3, hf3⟩
        have ho3' := Lib.hid ho3
        have ht3' : Hid (TI (growP P0 [] (In.take (J + 1))) ns3 f) := by rw [growP_take hJ1, ← HU.out]; exact ht3
        have heq : addP (growP P0 [] (In.take J)) (In.take J ++ [u]) = growP P0 [] (In.take (J + 1)) := by rw [growP_take hJ1, ← HU.out]
        have heq2 : In.take J ++ [u] = In.take (J + 1) := by rw [HU.out, List.take_succ_eq_append_getElem hJ1]
        rw [heq, heq2]
        have hq3 : Hid (w3.heap[g8]? = some (.cells #[.slice (some ⟨b1, o1, none⟩) n1 c1, .slice A2 n2 c2] 104 (0, 0)) ∧ Off T nV3 oV V3 ns3.length g8) := by
          obtain ⟨q1, q2⟩ := hf3.2 g8 (heap_lt0 hq'.out.1) hq'.out.2
          exact ⟨q2.trans hq'.out.1, q1⟩
        have hbE := hb'.trans hb3
        clear ho3 ht3 hf3 heq heq2 hb3
        go_wp2
        go_roundw
        case rel => exact ⟨J + 1, ns3, nV3, xs3, V3, by omega, by go_num, rfl, ho3', ht3', hbE, hq3⟩
        case measure => simp [intOf]; omega
end Go.Proofs.YtncpokioagpclaaGreatDoor
namespace Go.Proofs.YtncpokioagpclaaGreatDoor
set_option linter.unusedVariables false
open Go.RowKit
/-- the trie at cell O of block T, all of it below block B -/
structure TrAtO (w : World) (B T O : Nat) (ns : List NodeM) (outs : List (List Int)) : Prop where
  inb : T < B
  lies : ∃ A c xs A' c' ys, ∃ V : Nat → Value, w.cell? ⟨T, O, none⟩ = some (.slice A ns.length c) ∧ ns.length ≤ c ∧ c ≤ maxLen ∧ Rd w B A xs ∧ xs.length = ns.length * 3 ∧
    w.cell? ⟨T, O + 1, none⟩ = some (.slice A' outs.length c') ∧ outs.length ≤ c' ∧ c' ≤ maxLen ∧ Rd w B A' ys ∧ ys.length = outs.length ∧
    (∀ (k : Nat) nd, ns[k]? = some nd → xs[k * 3]? = some (.int .i64 nd.rule) ∧ xs[k * 3 + 1]? = some (V (k * 2)) ∧ xs[k * 3 + 2]? = some (V (k * 2 + 1)) ∧ Us (· < B) w (V (k * 2)) nd.units ∧ Us (· < B) w (V (k * 2 + 1)) nd.next) ∧
    (∀ (k : Nat) o, outs[k]? = some o → ∃ y, ys[k]? = some y ∧ Us (· < B) w y o)
/-- a trie that begins its block -/
abbrev TrAt (w : World) (B T : Nat) (ns : List NodeM) (outs : List (List Int)) : Prop := TrAtO w B T 0 ns outs
theorem us_of_own {w : World} {base : Nat} {v : Value} {zs : List Int} (h : OwnI .i64 3 w base v zs) : Us (· < w.heap.size) w v zs := by
  obtain ⟨A, c, e, h1, h2⟩ := own_form h
  have h3 : Rd w w.heap.size A (zs.map (Value.int .i64)) := Rd.own (by have h' := h; unfold OwnI at h'; rw [e] at h'; exact h')
  exact ⟨A, c, e, h1, h2, h3.rdx⟩
theorem OwnTx.at {base T : Nat} {w : World} {ns : List NodeM} {outs : List (List Int)} {nV oV : Value} {xs ys : List Value} {V : Nat → Value} (h : OwnTx base w T ns outs nV oV xs ys V) : TrAtO w w.heap.size T 0 ns outs := by
  obtain ⟨A, c, e1, h1, h2⟩ := own_form h.nodes
  obtain ⟨A', c', e2, h3, h4⟩ := own_form h.orow
  subst e1 e2
  refine ⟨h.size, A, c, xs, A', c', ys, V, h.boxes.1, h1, h2, Rd.own h.nodes, h.xlen, h.boxes.2.1, h3, h4, Rd.own h.orow, by have := h.orow.1; omega, ?_, ?_⟩
  · intro k nd hk
    obtain ⟨g1, g2, g3, g4, g5⟩ := h.node k nd hk
    exact ⟨g1, g2, g3, us_of_own g4, us_of_own g5⟩
  · intro k o hk
    obtain ⟨y, g1, g2⟩ := h.out k o hk
    exact ⟨y, g1, g2.step (Nat.le_refl _) fun b hb _ => ⟨hb, rfl⟩⟩
theorem TrAtO.below {w w' : World} {B B' T O : Nat} {ns : List NodeM} {outs : List (List Int)} (h : TrAtO w B T O ns outs) (hb : Below B w w') (hB : B ≤ B') : TrAtO w' B' T O ns outs := by
  obtain ⟨h0, A, c, xs, A', c', ys, V, h1, h2, h3, h4, h5, h6, h7, h8, h9, h10, h11, h12⟩ := h
  have st : ∀ {v : Value} {zs : List Int}, Us (· < B) w v zs → Us (· < B') w' v zs := fun h => h.step hb.size fun b _ hl => ⟨Nat.lt_of_lt_of_le hl hB, hb.block b hl⟩
  refine ⟨by omega, A, c, xs, A', c', ys, V, (hb.cell (p := ⟨T, O, none⟩) h0).trans h1, h2, h3, h4.below hb hB, h5, (hb.cell (p := ⟨T, O + 1, none⟩) h0).trans h6, h7, h8, h9.below hb hB, h10, ?_, ?_⟩
  · intro k nd hk
    obtain ⟨g1, g2, g3, g4, g5⟩ := h11 k nd hk
    exact ⟨g1, g2, g3, st g4, st g5⟩
  · intro k o hk
    obtain ⟨y, g1, g2⟩ := h12 k o hk
    exact ⟨y, g1, st g2⟩
/-- the same two cells elsewhere are the same trie -/
theorem TrAtO.copy {w w' : World} {B B' T O R Q : Nat} {ns : List NodeM} {outs : List (List Int)} (h : TrAtO w B T O ns outs) (hb : Below B w w') (hB : B ≤ B') (hR : R < B') (h0 : ∀ v, w.cell? ⟨T, O, none⟩ = some v → w'.cell? ⟨R, Q, none⟩ = some v) (h1 : ∀ v, w.cell? ⟨T, O + 1, none⟩ = some v → w'.cell? ⟨R, Q + 1, none⟩ = some v) : TrAtO w' B' R Q ns outs := by
  obtain ⟨k0, A, c, xs, A', c', ys, V, k1, k2, k3, k4, k5, k6, k7, k8, k9, k10, k11, k12⟩ := h
  have st : ∀ {v : Value} {zs : List Int}, Us (· < B) w v zs → Us (· < B') w' v zs := fun h => h.step hb.size fun b _ hl => ⟨Nat.lt_of_lt_of_le hl hB, hb.block b hl⟩
  refine ⟨hR, A, c, xs, A', c', ys, V, h0 _ k1, k2, k3, k4.below hb hB, k5, h1 _ k6, k7, k8, k9.below hb hB, k10, ?_, ?_⟩
  · intro k nd hk
    obtain ⟨g1, g2, g3, g4, g5⟩ := k11 k nd hk
    exact ⟨g1, g2, g3, st g4, st g5⟩
  · intro k o hk
    obtain ⟨y, g1, g2⟩ := k12 k o hk
    exact ⟨y, g1, st g2⟩
theorem TrAtO.head {w : World} {B T O : Nat} {ns : List NodeM} {outs : List (List Int)} (h : TrAtO w B T O ns outs) : ∃ A c, w.cell? ⟨T, O, none⟩ = some (.slice A ns.length c) ∧ ns.length ≤ c ∧ c ≤ maxLen := by
  obtain ⟨h0, A, c, xs, A', c', ys, V, h1, h2, h3, _⟩ := h
  exact ⟨A, c, h1, h2, h3⟩
theorem TrAtO.at {w : World} {B T O : Nat} {ns : List NodeM} {outs : List (List Int)} (h : TrAtO w B T O ns outs) {k : Nat} {nd : NodeM} (hk : ns[k]? = some nd) :
    ∃ b o c, w.cell? ⟨T, O, none⟩ = some (.slice (some ⟨b, o, none⟩) ns.length c) ∧ b < B ∧ ns.length ≤ c ∧ c ≤ maxLen ∧ ∃ A1 c1 A2 c2, w.cell? ⟨b, o + k * 3, none⟩ = some (.int .i64 nd.rule) ∧ w.cell? ⟨b, o + k * 3 + 1, none⟩ = some (.slice A1 nd.units.length c1) ∧ w.cell? ⟨b, o + k * 3 + 2, none⟩ = some (.slice A2 nd.next.length c2) ∧
      Us (· < B) w (.slice A1 nd.units.length c1) nd.units ∧ Us (· < B) w (.slice A2 nd.next.length c2) nd.next := by
  obtain ⟨h0, A, c, xs, A', c', ys, V, h1, h2, h3, h4, h5, h6, h7, h8, h9, h10, h11, h12⟩ := h
  have hkl := lt_of_some hk
  obtain ⟨g1, g2, g3, g4, g5⟩ := h11 k nd hk
  obtain ⟨A1, c1, e1, _⟩ := id g4
  obtain ⟨A2, c2, e2, _⟩ := id g5
  rcases h4 with h | ⟨b, off, k1, k2, k3⟩
  · rw [h] at h5; simp only [List.length_nil] at h5; omega
  · subst k1
    refine ⟨b, off, c, h1, k2, h2, h3, A1, c1, A2, c2, (k3 _ (by omega)).trans g1, ?_, ?_, by rw [← e1]; exact g4, by rw [← e2]; exact g5⟩
    · rw [Nat.add_assoc, k3 _ (by omega), g2, e1]
    · rw [Nat.add_assoc, k3 _ (by omega), g3, e2]
theorem TrAtO.outAt {w : World} {B T O : Nat} {ns : List NodeM} {outs : List (List Int)} (h : TrAtO w B T O ns outs) : ∃ A' c', w.cell? ⟨T, O + 1, none⟩ = some (.slice A' outs.length c') ∧ outs.length ≤ c' ∧ c' ≤ maxLen ∧
    ∀ (k : Nat) us, outs[k]? = some us → ∃ b o A1 c1, A' = some ⟨b, o, none⟩ ∧ b < B ∧ w.cell? ⟨b, o + k, none⟩ = some (.slice A1 us.length c1) ∧ Us (· < B) w (.slice A1 us.length c1) us := by
  obtain ⟨h0, A, c, xs, A', c', ys, V, h1, h2, h3, h4, h5, h6, h7, h8, h9, h10, h11, h12⟩ := h
  refine ⟨A', c', h6, h7, h8, fun k us hk => ?_⟩
  have hkl := lt_of_some hk
  obtain ⟨y, g1, g2⟩ := h12 k us hk
  obtain ⟨A1, c1, e1, _⟩ := id g2
  rcases h9 with h | ⟨b, off, k1, k2, k3⟩
  · rw [h] at h10; simp only [List.length_nil] at h10; omega
  · exact ⟨b, off, A1, c1, k1, k2, by rw [k3 _ (by omega), g1, e1], by rw [← e1]; exact g2⟩

set_option maxHeartbeats 800000 in
theorem has_anyO (w : World) (B T O : Nat) (ns : List NodeM) (outs : List (List Int)) (h : TrAtO w B T O ns outs) (k : Int) (b : Bool) (hb : decide (0 ≤ k ∧ k < ns.length) = b) :
    Calls Tryz.prog 160 #[.pointer (some ⟨T, O, none⟩), .int .i64 k] w fun e w' => e = .returned (.bool b) ∧ w' = w := by
  obtain ⟨A, c, h1, h2, h3⟩ := h.head
  obtain ⟨N, hN⟩ : ∃ N, N = ns.length := ⟨_, rfl⟩
  rw [← hN] at h1 h2 hb
  unfold maxLen at h3
  have HB := Lib.hid hb
  clear h hN hb
  go_enter Tryz.func160, Tryz.ntmps160
  by_cases hk0 : 0 ≤ k
  · have hg : decide (k ≥ 0) = true := by simp; omega
    by_cases hk1 : k < N
    · have hd : decide (k < (N : Int)) = true := by simp; omega
      go_wp2
      go_ret
      exact ⟨ret_bool (by rw [← HB.out]; simp [hk0, hk1]), rfl⟩
    · have hd : decide (k < (N : Int)) = false := by simp; omega
      go_wp2
      go_ret
      exact ⟨ret_bool (by rw [← HB.out]; simp [hk1]), rfl⟩
  · have hg : decide (k ≥ 0) = false := by simp; omega
    go_wp2
    go_ret
    exact ⟨ret_bool (by rw [← HB.out]; simp; omega), rfl⟩

set_option maxHeartbeats 800000 in
theorem rule_atO (w : World) (B T O : Nat) (ns : List NodeM) (outs : List (List Int)) (h : TrAtO w B T O ns outs) (k : Nat) (nd : NodeM) (hk : ns[k]? = some nd) (r : Int) (hr : nd.rule = r) :
    Calls Tryz.prog 147 #[.pointer (some ⟨T, O, none⟩), .int .i64 k] w fun e w' => e = .returned (.int .i64 r) ∧ w' = w := by
  have hkl := lt_of_some hk
  obtain ⟨b, o, c, h1, h2, h3, h4, A1, c1, A2, c2, g1, _⟩ := h.at hk
  obtain ⟨N, hN⟩ : ∃ N, N = ns.length := ⟨_, rfl⟩
  rw [hr] at g1
  have H := Lib.hid h
  have hd : decide (0 ≤ (k : Int) ∧ (k : Int) < ns.length) = true := by simp; omega
  rw [← hN] at h1 h3 hkl
  unfold maxLen at h4
  have HD := Lib.hid hd
  have k3 : (0 : Int) ≤ k := by omega
  have k4 : (k : Int) < N := by omega
  clear h hd hk hr hN
  go_enter Tryz.func147, Tryz.ntmps147
  go_wp2_with fail
  refine (has_anyO w B T O ns outs H.out k true HD.out).mono ?_
  rintro e w1 ⟨rfl, rfl⟩
  go_wp2
  go_ret
  exact ⟨rfl, rfl⟩
set_option maxHeartbeats 800000 in
theorem leaf_atO (w : World) (B T O : Nat) (ns : List NodeM) (outs : List (List Int)) (h : TrAtO w B T O ns outs) (k : Nat) (nd : NodeM) (hk : ns[k]? = some nd) (v : Bool) (hv : decide (nd.units.length = 0) = v) :
    Calls Tryz.prog 151 #[.pointer (some ⟨T, O, none⟩), .int .i64 k] w fun e w' => e = .returned (.bool v) ∧ w' = w := by
  have hkl := lt_of_some hk
  obtain ⟨b, o, c, h1, h2, h3, h4, A1, c1, A2, c2, g1, g2, g3, g4, g5⟩ := h.at hk
  obtain ⟨N, hN⟩ : ∃ N, N = ns.length := ⟨_, rfl⟩
  obtain ⟨M, hM⟩ : ∃ M, M = nd.units.length := ⟨_, rfl⟩
  rw [← hM] at g2 hv
  have H := Lib.hid h
  have hd : decide (0 ≤ (k : Int) ∧ (k : Int) < ns.length) = true := by simp; omega
  rw [← hN] at h1 h3 hkl
  unfold maxLen at h4
  have HD := Lib.hid hd
  have HV := Lib.hid hv
  have k3 : (0 : Int) ≤ k := by omega
  have k4 : (k : Int) < N := by omega
  clear h hd hk hN hv hM g1 g3 g4 g5
  go_enter Tryz.func151, Tryz.ntmps151
  go_wp2_with fail
  refine (has_anyO w B T O ns outs H.out k true HD.out).mono ?_
  rintro e w1 ⟨rfl, rfl⟩
  go_wp2
  go_ret
  exact ⟨ret_bool (by first | exact HV.out | exact HV.out.symm | (rw [← HV.out]; apply decide_eq_decide.2; omega)), rfl⟩
set_option maxHeartbeats 1600000 in
theorem step_atO (w : World) (B T O : Nat) (P : List (List Int)) (f : List Int → Int) (ns : List NodeM) (outs : List (List Int)) (h : TrAtO w B T O ns outs) (ht : TI P ns f) (hB : B ≤ w.heap.size) (k : Nat) (x : List Int) (hx : P[k]? = some x) (u : Int) (m : Nat) (v : Bool)
    (hv : decide (x ++ [u] ∈ P) = v) (hm : (if x ++ [u] ∈ P then idxP P (x ++ [u]) else 0) = m) (hP : P.length ≤ 5000) :
    Calls Tryz.prog 146 #[.pointer (some ⟨T, O, none⟩), .int .i64 k, .int .i64 u] w fun e w' => e = .returned (.tuple #[.int .i64 m, .bool v]) ∧ Below w.heap.size w w' := by
  have hkP := lt_of_some hx
  have hkl : k < ns.length := by rw [ht.len]; exact hkP
  obtain ⟨nd, hk⟩ : ∃ nd, ns[k]? = some nd := ⟨_, List.getElem?_eq_getElem hkl⟩
  obtain ⟨b, o, c, h1, h2, h3, h4, A1, c1, A2, c2, g1, g2, g3, g4, g5⟩ := h.at hk
  have hni := ht.node k nd x hk hx
  obtain ⟨N, hN⟩ : ∃ N, N = ns.length := ⟨_, rfl⟩
  obtain ⟨M, hM⟩ : ∃ M, M = nd.units.length := ⟨_, rfl⟩
  have hM2 : nd.next.length = M := by rw [hni.lens, hM]
  rw [hM2] at g3 g5
  rw [← hM] at g2 g4
  obtain ⟨q1, q2, q3, q4⟩ := g4.rd
  obtain ⟨r1, r2, r3, r4⟩ := g5.rd
  have hMs : M ≤ 5000 := by have := hni.small; omega
  obtain ⟨p, hp⟩ : ∃ p, posN nd.units u = p := ⟨_, rfl⟩
  have hpl : p ≤ M := by rw [← hp, hM]; exact posN_le _ _
  have H := Lib.hid h
  have hd : decide (0 ≤ (k : Int) ∧ (k : Int) < ns.length) = true := by simp; omega
  rw [← hN] at h1 h3 hkl
  unfold maxLen at h4 q3 r3
  have HD := Lib.hid hd
  have HNI := Lib.hid hni
  have HT := Lib.hid ht
  have HX := Lib.hid hx
  have HND := Lib.hid hk
  have HMM := Lib.hid hm
  have HP := Lib.hid hp
  have HMu := Lib.hid hM
  have HM2 := Lib.hid hM2
  have HR1 := Lib.hid (q4.rdB)
  have HR2 := Lib.hid (r4.rdB)
  have k3 : (0 : Int) ≤ k := by omega
  have k4 : (k : Int) < N := by omega
  have hb0 : b < w.heap.size := by omega
  have hbs : Below w.heap.size w (w.alloc (.cells #[.int .i64 nd.rule, .slice A1 M c1, .slice A2 M c2] 243)) := (Below.refl _ _).alloc (Nat.le_refl _) _
  have HBS := Lib.hid hbs
  clear h hd hk hN ht hni hM hM2 hp g4 g5 q1 q4 r1 r4 hx hm hbs
  go_enter Tryz.func146, Tryz.ntmps146
  go_wp2_with fail
  refine (has_anyO w B T O ns outs H.out k true HD.out).mono ?_
  rintro e w1 ⟨rfl, rfl⟩
  go_wp2_with fail
  by_cases hu : u ∈ nd.units
  · have hin : x ++ [u] ∈ P := (HNI.out.units u).1 hu
    have hv' : v = true := by rw [← hv]; simpa using hin
    have hmm : idxP P (x ++ [u]) = m := by rw [← HMM.out, if_pos hin]
    have hkid := HT.out.kid HND.out HX.out hu
    rw [HP.out, hmm] at hkid
    have hpM : p < M := by rw [← HM2.out]; exact lt_of_some hkid
    subst hv'
    refine (bsearch_any M A1 c1 nd.units B _ HMu.out (HR1.out.below (HBS.out.mono hB) (Nat.le_refl _)) HNI.out.sorted (by omega) u p true HP.out (by simp [hu])).mono ?_
    rintro e w2 ⟨rfl, hq⟩
    obtain ⟨b2, o2, rfl, hb2B, hcell⟩ := rd_ints HR2.out (by rw [HM2.out]; omega)
    have hc := hcell p (by rw [HM2.out]; exact hpM)
    have hgd : nd.next.getD p 0 = m := by rw [List.getD_eq_getElem?_getD, hkid]; rfl
    rw [hgd] at hc
    have hbE := HBS.out.trans (by obtain ⟨q, rfl⟩ := hq; exact below_drewN q : Below w1.heap.size _ w2)
    have hc' : w2.cell? ⟨b2, o2 + p, none⟩ = some (.int .i64 m) := (hbE.cell (p := ⟨b2, o2 + p, none⟩) (by show b2 < _; omega)).trans hc
    have g8 : w2.cell? ⟨w1.heap.size, 2, none⟩ = some (.slice (some ⟨b2, o2, none⟩) M c2) := by
      obtain ⟨q, rfl⟩ := hq
      exact World.cell?_alloc_new (w := w1) _ _ 2
    have k5 : (0 : Int) ≤ p := by omega
    have k6 : (p : Int) < M := by omega
    have HBE := Lib.hid hbE
    clear hcell hgd hc hkid hq hin hmm hbE
    go_wp2
    go_ret2
    exact ⟨rfl, HBE.out⟩
  · have hin : x ++ [u] ∉ P := fun e => hu ((HNI.out.units u).2 e)
    have hv' : v = false := by rw [← hv]; simpa using hin
    have hmm : m = 0 := by rw [← HMM.out, if_neg hin]
    subst hv' hmm
    refine (bsearch_any M A1 c1 nd.units B _ HMu.out (HR1.out.below (HBS.out.mono hB) (Nat.le_refl _)) HNI.out.sorted (by omega) u p false HP.out (by simp [hu])).mono ?_
    rintro e w2 ⟨rfl, hq⟩
    have hbE := HBS.out.trans (by obtain ⟨q, rfl⟩ := hq; exact below_drewN q : Below w1.heap.size _ w2)
    have HBE := Lib.hid hbE
    clear hq hbE hin
    go_wp2
    go_ret2
    exact ⟨rfl, HBE.out⟩
theorem rule_at (w : World) (B T : Nat) : ∀ (ns : List NodeM) (outs : List (List Int)) (h : TrAt w B T ns outs) (k : Nat) (nd : NodeM) (hk : ns[k]? = some nd) (r : Int) (hr : nd.rule = r),
    Calls Tryz.prog 147 #[.pointer (some ⟨T, 0, none⟩), .int .i64 k] w fun e w' => e = .returned (.int .i64 r) ∧ w' = w := rule_atO w B T 0
theorem step_at (w : World) (B T : Nat) : ∀ (P : List (List Int)) (f : List Int → Int) (ns : List NodeM) (outs : List (List Int)) (h : TrAt w B T ns outs) (ht : TI P ns f) (hB : B ≤ w.heap.size) (k : Nat) (x : List Int) (hx : P[k]? = some x) (u : Int) (m : Nat) (v : Bool)
    (hv : decide (x ++ [u] ∈ P) = v) (hm : (if x ++ [u] ∈ P then idxP P (x ++ [u]) else 0) = m) (hP : P.length ≤ 5000),
    Calls Tryz.prog 146 #[.pointer (some ⟨T, 0, none⟩), .int .i64 k, .int .i64 u] w fun e w' => e = .returned (.tuple #[.int .i64 m, .bool v]) ∧ Below w.heap.size w w' := step_atO w B T 0
end Go.Proofs.YtncpokioagpclaaGreatDoor
