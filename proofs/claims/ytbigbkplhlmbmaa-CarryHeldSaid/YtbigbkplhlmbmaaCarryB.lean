/- Layer 2: Put. -/
import Derived.Test.YtbigbkplhlmbmaaCarryA
import Derived.Test.YtbigbkplhlmbmaaCarryM
namespace Go.Proofs.Ytbigbkplhlmbmaa
set_option linter.unusedVariables false
open Go.RowKit

theorem grown_drew {w w' : World} {p : Option Nat} (h : w.grownBy w' p) : w.grownBy w'.drew p := ⟨h.os, h.tape, h.output, h.size, h.block⟩
theorem RdrAt.below {w w' : World} {p : Nat} {q : List Int} {at_ : Int} (h : RdrAt w p q at_) (hb : Below w.heap.size w w') : RdrAt w' p q at_ := by
  obtain ⟨x0, x1, x2, x3, h1, h2⟩ := h
  exact ⟨x0, x1, x2, x3, (hb.block p (heap_lt h1)).trans h1, h2⟩
theorem RdrAt.lt {w : World} {p : Nat} {q : List Int} {at_ : Int} (h : RdrAt w p q at_) : p < w.heap.size := by
  obtain ⟨x0, x1, x2, x3, h1, h2⟩ := h
  exact heap_lt h1
theorem RdrAt.put {w : World} {p : Nat} {q : List Int} {c at_ : Int} (h : RdrAt w p q at_) (hq : q.length ≤ 3) :
    RdrAt ((w.setCell ⟨p, q.length, none⟩ (.int .u8 c)).setCell ⟨p, 4, none⟩ (.int .i64 (q.length + 1))) p (q ++ [c]) at_ := by
  obtain ⟨x0, x1, x2, x3, h1, h2⟩ := h
  have hs := heap_setCell_same _ p 4 _ _ (.int .i64 (q.length + 1)) (heap_setCell_same w p q.length _ _ (.int .u8 c) h1)
  match q, hq with
  | [], _ => exact ⟨c, x1, x2, x3, hs, rfl⟩
  | [a], _ => exact ⟨x0, c, x2, x3, hs, by simp at h2 ⊢; exact h2⟩
  | [a, b], _ => exact ⟨x0, x1, c, x3, hs, by simp at h2 ⊢; exact h2⟩
  | [a, b, d], _ => exact ⟨x0, x1, x2, c, hs, by simp at h2 ⊢; exact h2⟩
theorem RdrAt.rd {w : World} {p : Nat} {q : List Int} {at_ : Int} (h : RdrAt w p q at_) : Rd w w.heap.size (some ⟨p, 0, none⟩) (q.map (Value.int .u8)) := by
  obtain ⟨x0, x1, x2, x3, h1, h2⟩ := h
  refine .inr ⟨p, 0, rfl, heap_lt h1, fun j hj => ?_⟩
  have hq : q.length ≤ 4 := by rw [← h2]; simp; omega
  rw [List.length_map] at hj
  rw [cell_of_row _ _ _ _ _ _ h1, ← h2, List.getElem?_map, List.getElem?_take, if_pos hj, Nat.zero_add]
  have : j = 0 ∨ j = 1 ∨ j = 2 ∨ j = 3 := by omega
  rcases this with rfl | rfl | rfl | rfl <;> rfl
theorem RdrAt.cells {w : World} {p : Nat} {q : List Int} {at_ : Int} (h : RdrAt w p q at_) : w.cell? ⟨p, 4, none⟩ = some (.int .i64 q.length) ∧ w.cell? ⟨p, 5, none⟩ = some (.int .i64 at_) ∧ (∀ o, w.frozen? ⟨p, o, none⟩ = false) ∧ q.length ≤ 4 ∧ ∀ j, j < 4 → ∃ x, w.cell? ⟨p, j, none⟩ = some (.int .u8 x) := by
  obtain ⟨x0, x1, x2, x3, h1, h2⟩ := h
  obtain ⟨c0, c1, c2, c3, c4, c5, cf⟩ := RdrB.cells h1
  refine ⟨c4, c5, cf, by rw [← h2]; simp; omega, fun j hj => ?_⟩
  have : j = 0 ∨ j = 1 ∨ j = 2 ∨ j = 3 := by omega
  rcases this with rfl | rfl | rfl | rfl
  · exact ⟨_, c0⟩
  · exact ⟨_, c1⟩
  · exact ⟨_, c2⟩
  · exact ⟨_, c3⟩

def RetPut (w : World) (p : Nat) (kn : List Tok) (n : Nat) (hd : List Int) (at' : Int) (e : Ending) (w' : World) : Prop :=
  ∃ v xs, e = .returned v ∧ w'.ownsRow w.heap.size 41 4 v n xs ∧ Toks w' w'.heap.size xs kn ∧ RdrAt w' p hd at' ∧ w.grownBy w' (some p)

theorem toks_atT {w : World} {B : Nat} {A : Option Addr} {xs : List Value} {ts : List Tok} (hr : Rd w B A xs) (ht : Toks w B xs ts) {k : Nat} (hk : k < ts.length) :
    ∃ b off, A = some ⟨b, off, none⟩ ∧ b < B ∧ w.cell? ⟨b, off + k * 4, none⟩ = some (.int .i64 ts[k].pos) ∧ w.cell? ⟨b, off + k * 4 + 1, none⟩ = some (.int .i64 ts[k].size) ∧
      (∃ A' c', w.cell? ⟨b, off + k * 4 + 2, none⟩ = some (.slice A' ts[k].out.length c') ∧ ts[k].out.length ≤ c' ∧ c' ≤ maxLen ∧ RdT w B 3 A' (ts[k].out.map (Value.int .i64))) ∧ w.cell? ⟨b, off + k * 4 + 3, none⟩ = some (.int .i64 ts[k].err) := by
  have hlen := Toks.length ht
  rcases hr with h | ⟨b, off, h1, h2, h3⟩
  · rw [h] at hlen; simp only [List.length_nil] at hlen; omega
  · obtain ⟨g1, g2, ⟨A', c', g3, g4, g5, g6⟩, g7⟩ := Toks.cell ht k _ (List.getElem?_eq_getElem hk)
    refine ⟨b, off, h1, h2, (h3 (k * 4) (by omega)).trans g1, ?_, ⟨A', c', ?_, g4, g5, g6⟩, ?_⟩
    · rw [Nat.add_assoc]; exact (h3 (k * 4 + 1) (by omega)).trans g2
    · rw [Nat.add_assoc]; exact (h3 (k * 4 + 2) (by omega)).trans g3
    · rw [Nat.add_assoc]; exact (h3 (k * 4 + 3) (by omega)).trans g7
theorem Toks.grownP {w w' : World} {p : Nat} {q : List Int} {at_ : Int} {xs : List Value} {ts : List Tok} (h : Toks w w.heap.size xs ts) (hp : RdrAt w p q at_) (hg : w.grownBy w' (some p)) : Toks w' w'.heap.size xs ts :=
  h.keep hg.size fun b c fr hl hc => hg.block b hl fun e => by
    injection e with e
    subst e
    obtain ⟨x0, x1, x2, x3, h1, _⟩ := hp
    rw [h1] at hc
    injection hc with hc
    injection hc with _ hc
    exact absurd hc (by decide)
theorem put_fin {w w5 wr Wb w6 : World} {p n P : Nat} {v : Value} {xs : List Value} {done kn : List Tok} {zs hd : List Int} {at_ at' : Int} (hlt : p < w5.heap.size) (h5 : w.grownBy w5 (some p)) (hbr : Below w5.heap.size w5 wr) (hb : Below wr.heap.size wr Wb)
    (hg : Wb.grownBy w6 (some p)) (hown : wr.ownsRow w5.heap.size 41 4 v done.length xs) (ht : Toks wr wr.heap.size xs done) (hr0 : RdrAt Wb p zs at_) (hr : RdrAt w6 p (zs.drop P) (at_ + P)) (hdone : done = kn) (hn : kn.length = n)
    (hhd : zs.drop P = hd) (hat : at_ + P = at') : RetPut w p kn n hd at' (.returned v) w6 := by
  subst hdone hn hhd hat
  have ho := own_below hown hb (Nat.le_refl _)
  refine ⟨v, xs, rfl, own_low (ho.kept hg ?_) h5.size, (ht.below hb hb.size).grownP hr0 hg, hr, grown_seq (grown_seq (grown_seq h5 (grown_below hbr)) (grown_below hb)) hg⟩
  cases hv : v.ownBlock with
  | none => exact .inl rfl
  | some k =>
    refine .inr fun e => ?_
    have := (ho.lt k hv).1
    injection e with e
    omega

set_option maxHeartbeats 1600000 in
theorem put_rdr (p : Nat) (q : List Int) (at_ c : Int) (w : World) (hp : RdrAt w p q at_) (hq : q.length ≤ 3) (h0 : 0 ≤ at_) (h1 : at_ ≤ 2251799813685248) (hc : 0 ≤ c ∧ c ≤ 255) (hb : ∀ z ∈ q, 0 ≤ z ∧ z ≤ 255)
    (kn : List Tok) (n : Nat) (hd : List Int) (hk : KN at_ (q ++ [c]) = kn) (hn : kn.length = n) (hh : HD (q ++ [c]) = hd) :
    Calls Try.prog 26 #[.pointer (some ⟨p, 0, none⟩), .int .u8 c] w (RetPut w p kn n hd (at_ + q.length + 1 - hd.length)) := by
  obtain ⟨i0, hi, hz0, hz1, hz2⟩ := info_parts info44
  obtain ⟨c4, c5, cf, _, cx⟩ := hp.cells
  obtain ⟨x, cx⟩ := cx q.length (by omega)
  have hlt := hp.lt
  have HP := Lib.hid hp
  have HB := Lib.hid hb
  have HK := Lib.hid hk
  have HN := Lib.hid hn
  have HH := Lib.hid hh
  have e1 : ¬ q.length = 4 := by omega
  have e2 : ¬ 4 = q.length := by omega
  have e3 : (0 : Int) ≤ q.length := by omega
  have e4 : (q.length : Int) < 4 := by omega
  clear hp hb hk hn hh
  go_enter Try.func26, Try.ntmps26
  go_wp2
  go_region
  go_wp2
  obtain ⟨W2, hW2⟩ : ∃ W2, W2 = ((w.setCell ⟨p, q.length, none⟩ (.int .u8 c)).setCell ⟨p, 4, none⟩ (.int .i64 (q.length + 1))).drew := ⟨_, rfl⟩
  rw [← hW2]
  have hp2 : RdrAt W2 p (q ++ [c]) at_ := by rw [hW2]; exact HP.out.put hq
  have hg2 : w.grownBy W2 (some p) := by rw [hW2]; exact grown_drew (grown_set (grown_set (World.grownBy.refl w _) _ _) _ _)
  obtain ⟨d4, d5, df, _, _⟩ := hp2.cells
  have hl2 : ((q ++ [c]).length : Int) = q.length + 1 := by simp
  rw [hl2] at d4
  obtain ⟨zs, hzs⟩ : ∃ zs, zs = q ++ [c] := ⟨_, rfl⟩
  have hzl : zs.length = q.length + 1 := by rw [hzs]; simp
  have hzb : ∀ z ∈ zs, 0 ≤ z ∧ z ≤ 255 := by
    rw [hzs]; intro z hz
    rcases List.mem_append.1 hz with h | h
    · exact HB.out z h
    · obtain rfl : z = c := by simpa using h
      exact hc
  rw [← hzs] at hp2 HK HH
  obtain ⟨ts, hts⟩ : ∃ ts, allF zs.length 0 zs = ts := ⟨_, rfl⟩
  obtain ⟨m, hm⟩ : ∃ m, ts.length = m := ⟨_, rfl⟩
  have hml : m ≤ zs.length := by have := allF_len zs.length 0 zs; rw [hts, hm] at this; exact this
  have HZL := Lib.hid hzl
  have HZB := Lib.hid hzb
  have HTS := Lib.hid hts
  have HM := Lib.hid hm
  have HP2 := Lib.hid hp2
  have HD5 := Lib.hid d5
  have hlt2 : p < W2.heap.size := hp2.lt
  clear hW2 hzs hzl hzb hts hm hp2 d5 hl2 c4 c5 cf cx HP HB
  have hsl : ∀ W : World, (Instr.sliceAt 44 (.pointer (some ⟨p, 0, none⟩)) none (some (.int .i64 (q.length + 1))) none).run Try.prog W = .ok (.slice (some ⟨p, 0, none⟩) (q.length + 1) 4) W := by
    intro W
    have h1 : (0 : Int) ≤ q.length + 1 := by omega
    have h2 : (q.length : Int) + 1 ≤ 4 := by omega
    go_simp
  refine wp_region_mix (G := fun w w' => Below w.heap.size w w') [(0, false), (1, false), (2, false), (3, false), (4, false), (5, false), (6, false), (7, false), (10, false), (8, true), (9, false)]
    below_refl below_trans (by kernel_rfl) rfl (by kernel_rfl) (by kernel_rfl) (below_refl _).drew ?_
  iterate 6 (refine mix_one rfl rfl ?_; go_big_quiet_step ((intro _; rfl)); refine wpQuiet_nil ?_)
  refine mix_one rfl rfl ?_
  go_big_quiet_step ((intro hh; rw [(hh.cell (p := ⟨p, 4, none⟩) hlt2).trans d4]; exact ⟨rfl, rfl⟩))
  refine wpQuiet_nil ?_
  iterate 2 (refine mix_one rfl rfl ?_; go_big_quiet_step ((intro _; rfl)); refine wpQuiet_nil ?_)
  refine mix_call rfl ?_
  intro w3 hb3
  go_wp2_with fail
  refine (all_own (q.length + 1) _ 4 zs _ HZL.out.symm (HP2.out.rd.below hb3 hb3.size) (by have := HZL.out; omega) (by have := HZL.out; omega) HZB.out ts m HTS.out HM.out).mono ?_
  rintro e w4 ⟨A4, c4, xs4, rfl, hr4, ht4, hc4, hm4, hb4⟩
  have HR4 := Lib.hid hr4
  have HT4 := Lib.hid ht4
  clear hr4 ht4
  unfold maxLen at hm4
  go_wp2_with fail
  refine ⟨hb4, ?_⟩
  iterate 1 (refine mix_one rfl rfl ?_; go_big_quiet_step ((intro _; rfl)); refine wpQuiet_nil ?_)
  refine mix_nil ?_
  intro w5 hb5
  refine NoPanic.normal ?_
  have hbA := below_trans _ _ _ (below_trans _ _ _ hb3 hb4) hb5
  have HP5 := Lib.hid (HP2.out.below hbA)
  have HR5 := Lib.hid (HR4.out.below hb5 hb5.size)
  have HT5 := Lib.hid (HT4.out.below hb5 hb5.size)
  have g5 := (hbA.cell (p := ⟨p, 5, none⟩) hlt2).trans HD5.out
  have hg5 := grown_seq hg2 (grown_below (p := some p) hbA)
  have hlt5 := HP5.out.lt
  have HG5 := Lib.hid hg5
  clear hb3 hb4 hb5 hbA HR4 HT4 HP2 HD5 hg2 hg5 d4 df hsl hlt2
  go_wp2_with fail
  go_loopw [5, 6, 35] (fun v u i wr => ∃ (K P f : Nat) (done : List Tok) (xs : List Value), K ≤ m ∧ P ≤ zs.length ∧ zs.length - P ≤ f ∧ ts.drop K = allF f P (zs.drop P) ∧ i = .int .i64 K ∧ u = .int .i64 P ∧ wr.ownsRow w5.heap.size 41 4 v done.length xs ∧
      Toks wr wr.heap.size xs done ∧ done ++ knownF f (at_ + P) (zs.drop P) = kn ∧ heldF f (zs.drop P) = hd ∧ done.length ≤ K ∧ Below w5.heap.size w5 wr) (fun _ _ i _ => m - (intOf i).toNat)
  case atStart => exact ⟨0, 0, zs.length, [], [], by omega, by omega, by omega, by simpa using HTS.out.symm, rfl, rfl, World.ownsRow_nil _ _ _ _, trivial, by simpa [KN] using HK.out, by simpa [HD] using HH.out, by simp, Below.refl _ _⟩
  case round =>
    obtain ⟨K, P, f, done, xs, hK, hP, hf, hdr, rfl, rfl, hown, htok, hkn, hhd, hdK, hbr⟩ := hrel
    have HDR := Lib.hid hdr
    have HOW := Lib.hid hown
    have HTO := Lib.hid htok
    have HKN := Lib.hid hkn
    have HHD := Lib.hid hhd
    clear hdr hown htok hkn hhd
    have hzq := HZL.out
    have HZQ : zs.length ≤ 4 := by omega
    clear hzq
    by_cases hKm : K = m
    · have hz0 : zs.drop P = [] := by
        have h1 := HDR.out
        rw [List.drop_of_length_le (by rw [HM.out]; omega)] at h1
        cases hzd : zs.drop P with
        | nil => rfl
        | cons a l =>
          rw [hzd] at h1
          cases f with
          | zero =>
            have := congrArg List.length hzd
            simp only [List.length_drop, List.length_cons] at this
            omega
          | succ f => cases h1
      have hfin1 : done = kn := by rw [← HKN.out, hz0, knownF_nil]; simp
      have hfin2 : zs.drop P = hd := by rw [← HHD.out, hz0, heldF_nil]
      have HF1 := Lib.hid hfin1
      have HF2 := Lib.hid hfin2
      have hKm' : ¬ K < m := by omega
      clear hz0 hfin1 hfin2 hKm
      go_wp2_with fail
      refine (drop_any p zs at_ P _ (HP5.out.below (hbr)) (by have := HZL.out; omega) HZQ hP h0 (by omega)).mono ?_
      rintro e w6 ⟨rfl, hr6, hg6⟩
      go_wp2
      go_ret
      exact put_fin (P := P) hlt5 HG5.out hbr (Below.refl _ _) hg6 HOW.out HTO.out (HP5.out.below hbr) hr6 HF1.out HN.out HF2.out (by have h := HZL.out; rw [← HF2.out, List.length_drop]; omega)
    have hKm' : K < m := by omega
    have hKt : K < ts.length := by rw [HM.out]; exact hKm'
    obtain ⟨s, n1, e, f', hPl, ho, ht, hn1, hn2, he0, he2, hsh, hf', htl⟩ := allF_step (by rw [← List.drop_eq_getElem_cons hKt]; exact HDR.out) hf
    obtain ⟨b, o, rfl, hbl, k1, k2, ⟨A9, c9, k3, hc9, hm9, hA9⟩, k4⟩ := toks_atT (HR5.out.below hbr hbr.size) (HT5.out.below hbr hbr.size) hKt
    obtain ⟨O, hO⟩ : ∃ O, O = (if e = 0 then [s] else []) := ⟨_, rfl⟩
    rw [← hO] at ht
    rw [ht] at k1 k2 k3 k4 hA9 hc9
    simp only at k1 k2 k3 k4 hA9 hc9
    obtain ⟨L, hL⟩ : ∃ L, L = O.length := ⟨_, rfl⟩
    rw [← hL] at k3 hc9
    have HO' := Lib.hid hO
    have HL := Lib.hid hL
    clear hO hL
    unfold maxLen at hm9
    have kg := (hbr.cell (p := ⟨p, 5, none⟩) hlt5).trans g5
    have HO := Lib.hid ho
    have HTL := Lib.hid htl
    have HA9 := Lib.hid hA9
    have hlr : p < wr.heap.size := Nat.lt_of_lt_of_le hlt5 hbr.size
    have hne : ¬ p = wr.heap.size := by omega
    clear ho ht htl hA9
    by_cases he : e = 2
    · subst he
      have hks := known_short hPl hf HO.out
      have hfin1 : done = kn := by rw [← HKN.out, hks.1]; simp
      have hfin2 : zs.drop P = hd := by rw [← HHD.out, hks.2]
      have HF1 := Lib.hid hfin1
      have HF2 := Lib.hid hfin2
      have hba := (Below.refl wr.heap.size wr).alloc (Nat.le_refl _) (.cells #[.int .i64 P, .int .i64 n1, .slice A9 L c9, .int .i64 2] 41)
      have HRA := Lib.hid ((HP5.out.below hbr).below hba)
      clear hks hfin1 hfin2
      go_wp2_with fail
      refine (drop_any p zs at_ P _ HRA.out (by have := HZL.out; omega) HZQ hP h0 (by omega)).mono ?_
      rintro e w6 ⟨rfl, hr6, hg6⟩
      go_wp2
      go_ret
      exact put_fin (P := P) hlt5 HG5.out hbr hba hg6 HOW.out HTO.out HRA.out hr6 HF1.out HN.out HF2.out (by have h := HZL.out; rw [← HF2.out, List.length_drop]; omega)
    · have hze : (e == 2) = false := beq_eq_false_iff_ne.2 he
      go_wp2_with fail
      go_region
      go_wp2_with (at_builtin; refine wpList_app _ rfl _ _ 38 rfl w5.heap.size 41 i0 _ 4 48 Try.underlying38 hi hz0 hz1 hz2 rfl (by decide) _ done.length xs rfl ?c0 (wr.heap.size + 1 + 1) _ 1 1 [.int .i64 (P + at_), .int .i64 n1, .slice A9 L c9, .int .i64 e] rfl rfl ?c1 ?c2 ?c3 ?c4 ?c5 ?_)
      case c0 => exact ((HOW.out.alloc _).alloc _).drew
      case c1 => exact Rd_new' _ _ _ _ (by simp)
      case c2 => intro u hu; simp at hu; rcases hu with rfl | rfl | rfl | rfl <;> rfl
      case c3 => simp only [maxLen]; omega
      case c4 => omega
      case c5 => have h1 := hbr.size; simp; omega
      intro v1 w6 hown6 hg6
      have hbW : Below wr.heap.size wr (((wr.alloc (.cells #[.int .i64 (P + at_), .int .i64 n1, .slice A9 L c9, .int .i64 e] 41)).alloc (.cells #[.int .i64 (P + at_), .int .i64 n1, .slice A9 L c9, .int .i64 e] 41)).drew) :=
        (((Below.refl _ _).alloc (Nat.le_refl _) _).alloc (by simp) _).drew
      have hks := known_step (p := at_ + P) hPl hf HO.out he f' hf'
      have hT6 := toks_push (t := ⟨P + at_, n1, e, O⟩) HTO.out hbW (HA9.out.keep hbW.size fun b _ _ hl _ => hbW.block b hl) (by rw [← HL.out]; exact hc9) (by unfold maxLen; exact hm9) (((HOW.out.alloc _).alloc _).drew) hg6
      have hb6 := hbr.trans (below_own (B := w5.heap.size) (hbW.mono hbr.size) hg6 (((HOW.out.alloc _).alloc _).drew) (Nat.le_refl _) (by have := hbr.size; simp; omega))
      rw [← HL.out] at hT6
      have HT6 := Lib.hid hT6
      have hkn6 : (done ++ [⟨P + at_, n1, e, O⟩]) ++ knownF f' (at_ + (P + n1.toNat : Nat)) (zs.drop (P + n1.toNat)) = kn := by
        rw [← HKN.out, hks.1, HO'.out, show (at_ + ((P + n1.toNat : Nat) : Int)) = at_ + P + n1 from by omega, Int.add_comm (P : Int) at_]
        simp
      have hhd6 := HHD.out
      rw [hks.2] at hhd6
      have HKN6 := Lib.hid hkn6
      have HHD6 := Lib.hid hhd6
      clear hT6 hkn6 hhd6 hks
      go_wp2
      go_roundw
      case rel => exact ⟨K + 1, P + n1.toNat, f', done ++ [⟨P + at_, n1, e, O⟩], _, by omega, by omega, hf', HTL.out, by go_num, by rw [show (((P + n1.toNat : Nat)) : Int) = P + n1 from by omega], by simpa using hown6, HT6.out, HKN6.out, HHD6.out, by simp; omega, hb6⟩
      case measure => simp [intOf]; omega
end Go.Proofs.Ytbigbkplhlmbmaa
