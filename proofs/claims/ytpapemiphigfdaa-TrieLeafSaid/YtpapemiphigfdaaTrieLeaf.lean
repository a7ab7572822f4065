/- TrieLeaf: the walk. -/
import Derived.Test.YtpapemiphigfdaaTrieQ
namespace Go.Proofs.Ytpapemiphigfdaa
set_option linter.unusedVariables false
open Go.RowKit
theorem inforow : (Try.prog.info? 52).map (fun i => (i.zero, i.size, i.bytes)) = some (some (.agg #[.slice none 0 0, .slice none 0 0, .bool false, .slice none 0 0, .slice none 0 0]), 5, 104) := by kernel_rfl
def plainR (r : RowL) : RowL := { r with odd := false }
def fewR (rows : List RowL) : List RowL := rows.map plainR
/-- a row of rows of the call's own, from block base on; what they hold lies below it -/
def OwnRw (base : Nat) (w : World) (v : Value) (rows : List RowL) : Prop := ∃ xs, w.ownsRow base 52 5 v rows.length xs ∧ Rws (· < base) w xs rows
theorem Rws.app {X : Nat → Prop} {w : World} : ∀ {xs ys : List Value} {rs ss : List RowL}, Rws X w xs rs → Rws X w ys ss → Rws X w (xs ++ ys) (rs ++ ss)
  | [], _, [], _, _, h => h
  | a :: b :: o :: c :: d :: xs, _, r :: rs, _, ⟨h1, h2, h3, h4, h5, h6⟩, h => ⟨h1, h2, h3, h4, h5, Rws.app h6 h⟩
theorem OwnRw.nil (base : Nat) (w : World) : OwnRw base w (.slice none 0 0) [] := ⟨[], World.ownsRow_nil _ _ _ _, trivial⟩
theorem OwnRw.below {base B : Nat} {w w' : World} {v : Value} {rows : List RowL} (h : OwnRw base w v rows) (hb : Below B w w') (hB : w.heap.size ≤ B) : OwnRw base w' v rows := by
  obtain ⟨xs, h1, h2⟩ := h
  exact ⟨xs, own_below h1 hb hB, h2.step hb.size fun b hl hx => ⟨hx, hb.block b (by omega)⟩⟩
theorem OwnRw.push {base : Nat} {w w1 : World} {v v' : Value} {rows : List RowL} {xs news : List Value} {r : RowL} (h1 : w.ownsRow base 52 5 v rows.length xs) (h2 : Rws (· < base) w xs rows) (hy : Rws (· < base) w news [r])
    (ho : w1.ownsRow base 52 5 v' (rows.length + 1) (xs ++ news)) (hg : w.grownBy w1 v.ownBlock) : OwnRw base w1 v' (rows ++ [r]) :=
  ⟨xs ++ news, by rw [List.length_append]; exact ho, (h2.app hy).step hg.size fun b hb hx => ⟨hx, hg.block b hb fun e => by have h3 := (h1.lt b e.symm).1; have h4 : b < base := hx; omega⟩⟩
theorem OwnRw.at {base : Nat} {w : World} {v : Value} {rows : List RowL} (h : OwnRw base w v rows) (hb : base ≤ w.heap.size) : ∃ A c, v = .slice A rows.length c ∧ RwAt w w.heap.size A rows.length c rows := by
  obtain ⟨xs, h1, h2⟩ := h
  obtain ⟨A, c, rfl, h3, h4⟩ := own_form h1
  exact ⟨A, c, rfl, rfl, h3, h4, xs, Rd.own h1, h2.step (Nat.le_refl _) fun b hl hx => ⟨hl, rfl⟩⟩
/-- how many of the first units that the law tries lead on from a path -/
def cntN (P : List (List Int)) (x : List Int) : Nat → Nat
  | 0 => 0
  | k + 1 => cntN P x k + if x ++ [97 + (k : Int)] ∈ P then 1 else 0
theorem cntN_zero {P : List (List Int)} {x : List Int} : ∀ {k : Nat}, cntN P x k = 0 ↔ ∀ j, j < k → x ++ [97 + (j : Int)] ∉ P
  | 0 => by simp [cntN]
  | k + 1 => by
    simp only [cntN]
    constructor
    · intro h j hj hm
      by_cases hjk : j = k
      · subst hjk; rw [if_pos hm] at h; omega
      · exact cntN_zero.1 (show cntN P x k = 0 by omega) j (by omega) hm
    · intro h
      rw [if_neg (h k (by omega)), cntN_zero.2 (fun j hj => h j (by omega))]
theorem cntN_le (P : List (List Int)) (x : List Int) : ∀ k, cntN P x k ≤ k
  | 0 => by simp [cntN]
  | k + 1 => by have := cntN_le P x k; simp only [cntN]; split <;> omega
theorem units_small {zs : List Int} (h : ∀ z ∈ zs, 0 ≤ z ∧ z ≤ 255) : ∀ u ∈ unitsR zs 97, 97 ≤ u ∧ u ≤ 101 := by
  intro u hu
  unfold unitsR at hu
  split at hu
  · simp at hu; omega
  · obtain ⟨z, hz, rfl⟩ := List.mem_map.1 hu
    have := h z (List.mem_of_mem_take hz)
    omega
theorem rightFrom_sub : ∀ (rs acc : List (List Int × List Int)), ∀ r ∈ rightFrom acc rs, r ∈ acc ∨ r ∈ rs
  | [], acc, r, h => .inl h
  | s :: rs, acc, r, h => by
    simp only [rightFrom] at h; split at h
    · rcases rightFrom_sub rs _ r h with h | h
      · rcases List.mem_append.1 h with h | h
        · exact .inl h
        · exact .inr (by simp at h; simp [h])
      · exact .inr (by simp [h])
    · rcases rightFrom_sub rs acc r h with h | h
      · exact .inl h
      · exact .inr (by simp [h])
/-- all units of the rules are small -/
theorem few_small {rows : List RowL} (h : ∀ r ∈ rows, ∀ z ∈ r.inp, 0 ≤ z ∧ z ≤ 255) : ∀ r ∈ rightR (rulesR (fewR rows)), ∀ u ∈ r.1, 97 ≤ u ∧ u ≤ 101 := by
  intro r hr
  rcases rightFrom_sub _ [] r hr with h1 | h1
  · cases h1
  · unfold rulesR at h1
    obtain ⟨q, hq, rfl⟩ := List.mem_map.1 h1
    obtain ⟨p, hp, rfl⟩ := List.mem_map.1 (List.mem_of_mem_take hq)
    exact units_small (h p hp)
theorem kid_small {rs : List (List Int × List Int)} (h : ∀ r ∈ rs, ∀ u ∈ r.1, 97 ≤ u ∧ u ≤ 101) {x : List Int} {u : Int} (hx : x ++ [u] ∈ pathsR rs) : 97 ≤ u ∧ u ≤ 101 := by
  rcases mem_paths.1 hx with e | ⟨r, hr, j, _, _, e⟩
  · simp at e
  · refine h r hr u ?_
    have : u ∈ x ++ [u] := by simp
    rw [e] at this
    exact List.mem_of_mem_take this
theorem Rws.bytes {X : Nat → Prop} {w : World} : ∀ {xs : List Value} {rs : List RowL}, Rws X w xs rs → ∀ r ∈ rs, ∀ z ∈ r.inp, 0 ≤ z ∧ z ≤ 255
  | [], [], _, r, hr => by cases hr
  | a :: b :: o :: c :: d :: xs, r :: rs, ⟨h1, h2, h3, h4, h5, h6⟩, s, hs => by
    rcases List.mem_cons.1 hs with rfl | hs
    · obtain ⟨_, _, _, _, _, _, h⟩ := h1; exact h
    · exact Rws.bytes h6 s hs

set_option maxRecDepth 100000 in
set_option maxHeartbeats 12800000 in
theorem trieLeaf_any (n : Nat) (A : Option Addr) (c : Nat) (rows : List RowL) (A' : Option Addr) (c' : Nat) (zs : List Int) (w : World) (hr : RwAt w w.heap.size A n c rows) (hby : n * 104 ≤ 140737488355328) :
    Calls Try.prog 6 #[.slice A n c, .slice A' zs.length c'] w fun e w' => e = .returned (.bool true) ∧ Below w.heap.size w w' := by
  obtain ⟨i0, hi, hz0, HZ1, hz2⟩ := info_parts inforow
  have hbytes : ∀ r ∈ rows, ∀ z ∈ r.inp, 0 ≤ z ∧ z ≤ 255 := by obtain ⟨_, _, _, xs, _, h⟩ := hr; exact h.bytes
  obtain ⟨Z, hZ⟩ : ∃ Z, Z = zs.length := ⟨_, rfl⟩
  rw [← hZ]
  have hn1 := hr.fits
  have hn2 := hr.small
  unfold maxLen at hn2
  have HR := Lib.hid hr
  have HBY := Lib.hid hbytes
  clear hr hbytes hZ
  go_enter Try.func6, Try.ntmps6
  go_wp2_with fail
  refine (tawake_any _).mono ?_
  rintro e w1 ⟨rfl, hb1⟩
  have hs1 := hb1.size
  have HR1 := Lib.hid (HR.out.below hb1 hs1)
  go_wp2
  go_loopw [5, 19] (fun v i wr => ∃ (K : Nat), K ≤ n ∧ i = .int .i64 K ∧ Hid (OwnRw w1.heap.size wr v (fewR (rows.take K))) ∧ Below w1.heap.size w1 wr) (fun _ i _ => n - (intOf i).toNat)
  case atStart => exact ⟨0, by omega, rfl, OwnRw.nil _ _, Below.refl _ _⟩
  case round =>
    obtain ⟨K, hK, rfl, ho, hb⟩ := hrel
    have hsz := hb.size
    by_cases hKn : K = n
    · have hK' : ¬ K < n := by omega
      have hF : rows.take K = rows := List.take_of_length_le (by rw [← HR.out.len]; omega)
      rw [hF] at ho
      obtain ⟨A2, c2, rfl, hat2⟩ := ho.out.at hsz
      obtain ⟨rs, hrs⟩ : ∃ rs, rightR (rulesR (fewR rows)) = rs := ⟨_, rfl⟩
      have hck := (right_rules (fewR rows)).1
      have h40 := (right_rules (fewR rows)).2
      have hsm := few_small HBY.out
      rw [hrs] at hck h40 hsm
      obtain ⟨N, hN⟩ : ∃ N, N = rs.length := ⟨_, rfl⟩
      obtain ⟨L, hL⟩ : ∃ L, L = (fewR rows).length := ⟨_, rfl⟩
      rw [← hL] at hat2 ⊢
      have HRS := Lib.hid hrs
      have HCK := Lib.hid hck
      have HG := Lib.hid (good_of hck)
      have HN := Lib.hid hN
      have HSM := Lib.hid hsm
      have HA2 := Lib.hid hat2
      have hbE2 := hb1.trans (hb.mono hs1)
      have hsE2 := hbE2.size
      clear hKn hF ho hrs hck h40 hsm hN hL hat2
      go_wp2_with fail
      refine (right_any L A2 c2 (fewR rows) wr.heap.size _ HA2.out (Nat.le_refl _) rs HRS.out).mono ?_
      rintro e w2 ⟨v3, rfl, ho3, hb2⟩
      have hs2 := hb2.size
      obtain ⟨A3, c3, rfl, hat3⟩ := ho3.form
      rw [← HN.out] at hat3 ⊢
      have HAT2 := Lib.hid hat3
      clear ho3 hat3
      go_wp2_with fail
      refine (of_good N A3 c3 rs w2.heap.size _ HAT2.out (Nat.le_refl _) HCK.out).mono ?_
      rintro e w3 ⟨T, ns, nV, oV, xs, ys, V, rfl, ho, ht, hb3⟩
      have hs3 := hb3.size
      have HTR := Lib.hid ho.at
      have hbE3 : Below w.heap.size w w3 := hbE2.trans ((hb2.trans (hb3.mono hs2)).mono hsE2)
      have hsE := hbE3.size
      obtain ⟨P, hPe⟩ : ∃ P, P = pathsR rs := ⟨_, rfl⟩
      have hP5 : P.length ≤ 5000 := by rw [hPe]; exact paths_le HG.out
      have HTP : Hid (TI P ns (findR rs)) := by rw [hPe]; exact ht
      have hkid : ∀ (x : List Int) (u : Int), x ++ [u] ∈ P → 97 ≤ u ∧ u ≤ 101 := by intro x u hx; rw [hPe] at hx; exact kid_small HSM.out hx
      obtain ⟨Nn, hNn⟩ : ∃ Nn, Nn = ns.length := ⟨_, rfl⟩
      have hNP : Nn = P.length := by rw [hNn, HTP.out.len]
      have HNn := Lib.hid hNn
      have HNP := Lib.hid hNP
      have HKID := Lib.hid hkid
      have hNn5 : Nn ≤ 5000 := by rw [hNP]; exact hP5
      clear ho ht hb1 hb2 hb3 hb hbE2 hPe hNn hNP hP5 hkid
      go_wp2
      go_loopw [10] (fun i wr => ∃ (J : Nat), J ≤ Nn ∧ i = .int .i64 J ∧ Below w3.heap.size w3 wr) (fun i _ => Nn - (intOf i).toNat)
      case atStart => exact ⟨0, by omega, rfl, Below.refl _ _⟩
      case round =>
        obtain ⟨J, hJ, rfl, hb⟩ := hrel
        have hsz3 := hb.size
        by_cases hJn : J = Nn
        · have hJ' : ¬ J < Nn := by omega
          have hbE := hbE3.trans (hb.mono hsE)
          clear hJn
          go_wp2_with fail
          refine (size_any wr w3.heap.size T ns _ (HTR.out.below hb (Nat.le_refl _)) Nn HNn.out.symm).mono ?_
          rintro e w4 ⟨rfl, rfl⟩
          go_wp2
          go_ret
          exact ⟨rfl, hbE⟩
        have hJ' : J < Nn := by omega
        have hJl : J < ns.length := by rw [← HNn.out]; exact hJ'
        obtain ⟨nd, hnd⟩ : ∃ nd, ns[J]? = some nd := ⟨_, List.getElem?_eq_getElem hJl⟩
        obtain ⟨x, hx⟩ : ∃ x, P[J]? = some x := ⟨_, List.getElem?_eq_getElem (by rw [← HNP.out]; exact hJ')⟩
        have hni := HTP.out.node J nd x hnd hx
        have hzero : nd.units.length = 0 ↔ cntN P x 7 = 0 := by
          rw [cntN_zero]
          constructor
          · intro h j _ hm
            have := (hni.units _).2 hm
            rw [List.eq_nil_of_length_eq_zero h] at this; cases this
          · intro h
            rcases Nat.eq_zero_or_pos nd.units.length with h0 | h0
            · exact h0
            · have hm := (hni.units nd.units[0]).1 (List.getElem_mem h0)
              obtain ⟨u, hu⟩ : ∃ u, u = nd.units[0] := ⟨_, rfl⟩
              rw [← hu] at hm
              have h1 := HKID.out x u hm
              have := h (u - 97).toNat (by omega)
              rw [show (97 : Int) + ((u - 97).toNat : Int) = u from by omega] at this
              exact absurd hm this
        have HND := Lib.hid hnd
        have HX := Lib.hid hx
        have HZ := Lib.hid hzero
        clear hJn hJl hnd hx hni hzero
        go_wp2_with fail
        refine (size_any wr w3.heap.size T ns _ (HTR.out.below hb (Nat.le_refl _)) Nn HNn.out.symm).mono ?_
        rintro e w4 ⟨rfl, rfl⟩
        obtain ⟨wo, rfl⟩ : ∃ wo : World, wo = w4 := ⟨_, rfl⟩
        have k8 : (J : Int) < Nn := by omega
        go_wp2
        go_loopw [11, 12] (fun s i wr => ∃ (U : Nat), U ≤ 7 ∧ i = .int .i32 (97 + (U : Int)) ∧ s = .int .i64 (cntN P x U : Nat) ∧ Below w3.heap.size w3 wr) (fun _ i _ => 104 - (intOf i).toNat)
        case atStart => exact ⟨0, by omega, rfl, rfl, hb⟩
        case round =>
          obtain ⟨U, hU, rfl, rfl, hb'⟩ := hrel
          have hsz' := hb'.size
          have hcl := cntN_le P x U
          obtain ⟨cn, hcn⟩ : ∃ cn, cn = cntN P x U := ⟨_, rfl⟩
          rw [← hcn] at hcl ⊢
          by_cases hUn : U = 7
          · have hU' : decide (97 + (U : Int) < 104) = false := by simp; omega
            obtain ⟨v, hv⟩ : ∃ v, decide (nd.units.length = 0) = v := ⟨_, rfl⟩
            have hvc : v = decide ((cn : Int) = 0) := by
              rw [← hv, hcn, hUn]
              apply decide_eq_decide.2
              rw [HZ.out]; omega
            have HV := Lib.hid hv
            clear hUn hcn hv
            go_wp2_with fail
            refine (leaf_at wr w3.heap.size T ns _ (HTR.out.below hb' (Nat.le_refl _)) J nd HND.out v HV.out).mono ?_
            rintro e w5 ⟨rfl, rfl⟩
            by_cases hc0 : (cn : Int) = 0
            · have hd : decide ((cn : Int) = 0) = true := by simpa using hc0
              have hvv : v = true := by rw [hvc, hd]
              subst hvv
              clear hvc HV
              go_wp2
              go_roundw
              case rel => exact ⟨J + 1, by omega, by go_num, hb'⟩
              case measure => simp [intOf]; omega
            · have hd : decide ((cn : Int) = 0) = false := by simpa using hc0
              have hvv : v = false := by rw [hvc, hd]
              subst hvv
              clear hvc HV
              go_wp2
              go_roundw
              case rel => exact ⟨J + 1, by omega, by go_num, hb'⟩
              case measure => simp [intOf]; omega
          have hU' : decide (97 + (U : Int) < 104) = true := by simp; omega
          have hU7 : U < 7 := by omega
          by_cases hm : x ++ [97 + (U : Int)] ∈ P
          · have hcs : cntN P x (U + 1) = cn + 1 := by simp only [cntN]; rw [if_pos hm, hcn]
            obtain ⟨m, hmm⟩ : ∃ m, m = idxP P (x ++ [97 + (U : Int)]) := ⟨_, rfl⟩
            have HCS := Lib.hid hcs
            have hst : (if x ++ [97 + (U : Int)] ∈ P then idxP P (x ++ [97 + (U : Int)]) else 0) = m := by rw [if_pos hm, hmm]
            have hst2 : decide (x ++ [97 + (U : Int)] ∈ P) = true := by simpa using hm
            have HST := Lib.hid hst
            have HST2 := Lib.hid hst2
            clear hm hcs hmm hst hst2 hUn hcn
            go_wp2_with fail
            refine (step_at wr w3.heap.size T P (findR rs) ns _ (HTR.out.below hb' (Nat.le_refl _)) HTP.out hsz' J x HX.out (97 + (U : Int)) m true HST2.out HST.out (by rw [← HNP.out]; exact hNn5)).mono ?_
            rintro e w6 ⟨rfl, hb6⟩
            have hb36 := hb'.trans (hb6.mono hsz')
            clear hb6
            go_wp2
            go_roundw
            case rel => exact ⟨U + 1, by omega, by go_num, by rw [HCS.out]; go_num, hb36⟩
            case measure => simp [intOf]; omega
          · have hcs : cntN P x (U + 1) = cn := by simp only [cntN]; rw [if_neg hm, hcn]; rfl
            have HCS := Lib.hid hcs
            have hst : (if x ++ [97 + (U : Int)] ∈ P then idxP P (x ++ [97 + (U : Int)]) else 0) = 0 := by rw [if_neg hm]
            have hst2 : decide (x ++ [97 + (U : Int)] ∈ P) = false := by simpa using hm
            have HST := Lib.hid hst
            have HST2 := Lib.hid hst2
            clear hm hcs hst hst2 hUn hcn
            go_wp2_with fail
            refine (step_at wr w3.heap.size T P (findR rs) ns _ (HTR.out.below hb' (Nat.le_refl _)) HTP.out hsz' J x HX.out (97 + (U : Int)) 0 false HST2.out HST.out (by rw [← HNP.out]; exact hNn5)).mono ?_
            rintro e w6 ⟨rfl, hb6⟩
            have hb36 := hb'.trans (hb6.mono hsz')
            clear hb6
            go_wp2
            go_roundw
            case rel => exact ⟨U + 1, by omega, by go_num, by rw [HCS.out], hb36⟩
            case measure => simp [intOf]; omega
    have hK' : K < n := by omega
    have hK1 : K < rows.length := by rw [← HR.out.len]; exact hK'
    obtain ⟨b, o, rfl, hbB, A1, c1, A2, c2, A3, c3, A4, c4, g1, g2, g3, g4, g5, e1, e2, e3, e4⟩ := HR1.out.at hK1
    obtain ⟨r, hr⟩ : ∃ r, rows[K] = r := ⟨_, rfl⟩
    rw [hr] at g1 g2 g3 g4 g5 e1 e2 e3 e4
    obtain ⟨n1, hn1'⟩ : ∃ n1, n1 = r.inp.length := ⟨_, rfl⟩
    obtain ⟨n2, hn2'⟩ : ∃ n2, n2 = r.out.length := ⟨_, rfl⟩
    obtain ⟨n3, hn3'⟩ : ∃ n3, n3 = r.ain.length := ⟨_, rfl⟩
    obtain ⟨n4, hn4'⟩ : ∃ n4, n4 = r.aout.length := ⟨_, rfl⟩
    obtain ⟨od, hod⟩ : ∃ od, od = r.odd := ⟨_, rfl⟩
    rw [← hn1'] at g1 e1
    rw [← hn2'] at g2 e2
    rw [← hod] at g3
    rw [← hn3'] at g4 e3
    rw [← hn4'] at g5 e4
    have k1 := (hb.cell (p := ⟨b, o + K * 5, none⟩) (by show b < _; omega)).trans g1
    have k2 := (hb.cell (p := ⟨b, o + K * 5 + 1, none⟩) (by show b < _; omega)).trans g2
    have k3 := (hb.cell (p := ⟨b, o + K * 5 + 2, none⟩) (by show b < _; omega)).trans g3
    have k4 := (hb.cell (p := ⟨b, o + K * 5 + 3, none⟩) (by show b < _; omega)).trans g4
    have k5 := (hb.cell (p := ⟨b, o + K * 5 + 4, none⟩) (by show b < _; omega)).trans g5
    have k6 : (0 : Int) ≤ K := by omega
    have k7 : (K : Int) < n := by omega
    have hrw : Hid (Rws (· < w1.heap.size) w1 [.slice A1 n1 c1, .slice A2 n2 c2, .bool false, .slice A3 n3 c3, .slice A4 n4 c4] [plainR r]) := ⟨e1, e2, rfl, e3, e4, trivial⟩
    have hsn : fewR (rows.take (K + 1)) = fewR (rows.take K) ++ [plainR r] := by rw [List.take_succ_eq_append_getElem hK1, hr]; simp [fewR]
    have HSN := Lib.hid hsn
    obtain ⟨F, hF⟩ : ∃ F, F = fewR (rows.take K) := ⟨_, rfl⟩
    have hFl : F.length = K := by rw [hF]; simp [fewR]; omega
    rw [← hF] at ho HSN
    have HFL := Lib.hid hFl
    obtain ⟨xs6, hown, hels⟩ := ho.out
    rw [hFl] at hown
    have HELS := Lib.hid hels
    clear g1 g2 g3 g4 g5 e1 e2 e3 e4 hr hn1' hn2' hn3' hn4' hod hsn hF hFl hels
    obtain ⟨R5, hR5⟩ : ∃ R5 : Array Value, R5 = #[.slice A1 n1 c1, .slice A2 n2 c2, .bool false, .slice A3 n3 c3, .slice A4 n4 c4] := ⟨_, rfl⟩
    have hba : Below wr.heap.size wr ((wr.alloc (.cells #[.slice A1 n1 c1, .slice A2 n2 c2, .bool false, .slice A3 n3 c3, .slice A4 n4 c4] 52)).alloc (.cells #[.slice A1 n1 c1, .slice A2 n2 c2, .bool false, .slice A3 n3 c3, .slice A4 n4 c4] 52)) := ((Below.refl _ _).alloc (Nat.le_refl _) _).alloc (by simp) _
    have HBA := Lib.hid hba
    have hown2 := (hown.alloc (.cells #[.slice A1 n1 c1, .slice A2 n2 c2, .bool false, .slice A3 n3 c3, .slice A4 n4 c4] 52)).alloc (.cells #[.slice A1 n1 c1, .slice A2 n2 c2, .bool false, .slice A3 n3 c3, .slice A4 n4 c4] 52)
    clear hba hR5
    go_wp2_with (at_builtin; refine wpList_appB _ rfl _ _ 22 rfl w1.heap.size 52 i0 _ 5 104 Try.underlying22 hi hz0 HZ1 hz2 rfl (by decide) _ _ _ rfl hown2 (wr.heap.size + 2) _ 1 1 [.slice A1 n1 c1, .slice A2 n2 c2, .bool false, .slice A3 n3 c3, .slice A4 n4 c4] rfl rfl ?a1 ?a2 ?a3 ?a4 ?a5 ?_)
    case a1 => exact Rd_newR _ _ _ _ (by simp)
    case a2 => intro u hu; simp at hu; rcases hu with rfl | rfl | rfl | rfl | rfl <;> rfl
    case a3 => simp only [maxLen]; omega
    case a4 => omega
    case a5 => simp; omega
    intro v7 w7 ho7 hg7 hn7
    have hO7 : Hid (OwnRw w1.heap.size w7 v7 (F ++ [plainR r])) := by
      have hx := HBA.out
      refine OwnRw.push (w := (wr.alloc (.cells #[.slice A1 n1 c1, .slice A2 n2 c2, .bool false, .slice A3 n3 c3, .slice A4 n4 c4] 52)).alloc (.cells #[.slice A1 n1 c1, .slice A2 n2 c2, .bool false, .slice A3 n3 c3, .slice A4 n4 c4] 52)) (by rw [HFL.out]; exact hown2) (HELS.out.step hx.size fun b hl hb => ⟨hb, hx.block b hl⟩) (hrw.out.step ((hb.trans (hx.mono hsz)).size) fun b hl hb' => ⟨hb', (hb.trans (hx.mono hsz)).block b hl⟩) (by rw [HFL.out]; exact ho7) hg7
    rw [← HSN.out] at hO7
    have hbE7 : Below w1.heap.size w1 w7 := below_own (hb.trans (HBA.out.mono hsz)) hg7 hown2 (Nat.le_refl _) (by simp; omega)
    clear ho7 hg7 hn7 hown hown2
    go_wp2
    go_roundw
    case rel => exact ⟨K + 1, by omega, by go_num, hO7, hbE7⟩
    case measure => simp [intOf]; omega
end Go.Proofs.Ytpapemiphigfdaa
