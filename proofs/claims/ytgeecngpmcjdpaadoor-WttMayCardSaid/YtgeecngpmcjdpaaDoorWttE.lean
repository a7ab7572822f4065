/- Layer 8: the document's examples hold. -/
import Derived.Test.YtgeecngpmcjdpaaDoorWttC
import Derived.Test.YtgeecngpmcjdpaaDoorFork
namespace Go.Proofs.YtgeecngpmcjdpaaDoor
set_option linter.unusedVariables false
open Go.RowKit
theorem aw8_1 : chkF ([] ++ [161]) 1 = -1 := by decide +kernel
theorem aw8_2 : chkF ([] ++ [161] ++ [232]) 1 = -1 := by decide +kernel
theorem aw8_3 : chkF ([] ++ [161] ++ [232] ++ [232]) 1 = 2 := by decide +kernel
theorem aw8_k : kdF 2 10 = 67 := by decide +kernel
theorem infou8 : (Tryd.prog.info? 5).map (fun i => (i.zero, i.size, i.bytes)) = some (some (.int .u8 0), 1, 1) := by kernel_rfl
theorem level_range (l : Int) (h : -128 ≤ l ∧ l ≤ 127) : -2 ≤ l.tmod 3 ∧ l.tmod 3 ≤ 2 := by
  have h1 := Int.tmod_lt_of_pos l (show (0 : Int) < 3 by decide)
  have h2 := Int.tmod_lt_of_pos (-l) (show (0 : Int) < 3 by decide)
  rw [Int.neg_tmod] at h2
  omega
theorem below_nil {w w' : World} (hg : w.grownBy w' (Value.slice none 0 0).ownBlock) : Below w.heap.size w w' := below_own (Below.refl _ _) hg (World.ownsRow_nil w w.heap.size 0 1) (Nat.le_refl _) (Nat.le_refl _)
theorem RetCk.wt {w w' : World} {p : Nat} {l : Int} {ys : List Int} {e : Ending} (h : RetCk w p l ys e w') (hw : Wt w) (hp : 1 ≠ p ∧ 0 ≠ p) : Wt w' := by
  obtain ⟨_, _, hg⟩ := h
  have hl := hw.lt
  exact ⟨tab_block hw.hi (by kernel_rfl) (hg.block _ hl.1 (by intro e; injection e with e; exact hp.1 e)), strs_block hw.ro (by kernel_rfl) (hg.block _ hl.2 (by intro e; injection e with e; exact hp.2 e))⟩
theorem below_up {B p : Nat} {w w1 w2 : World} (hb : Below B w w1) (hg : w1.grownBy w2 (some p)) (hp : B ≤ p) (hB : B ≤ w1.heap.size) : Below B w w2 :=
  hb.trans ⟨hg.os, hg.tape, hg.output, hg.size, fun k hk => hg.block k (by omega) (by intro e; injection e with e; omega)⟩
set_option maxHeartbeats 1600000 in
theorem tawake8_any (w : World) (hw : Wt w) : Calls Tryd.prog 10 #[] w fun e w' => e = .returned (.bool true) ∧ Below w.heap.size w w' := by
  have HW := Lib.hid hw
  have HL := hw.lt
  clear hw
  go_enter Tryd.func10, Tryd.ntmps10
  go_wp2_with fail
  refine (wof_any 1 w).mono ?_
  rintro e w1 ⟨rfl, hc1, hb1⟩
  obtain ⟨p, hp⟩ : ∃ p, p = w.heap.size := ⟨_, rfl⟩
  rw [← hp] at hc1 ⊢
  have hne : 1 ≠ p ∧ 0 ≠ p := by omega
  have HW1 := Lib.hid (HW.out.below hb1)
  have hs1 := hb1.size
  have hpl : w.heap.size ≤ p := by omega
  clear hp
  go_wp2_with fail
  refine (wput_any p 1 _ 161 w1 hc1 HW1.out (by decide) (by decide) (by simp)).mono ?_
  intro e w2 h2
  have HW2 := Lib.hid (h2.wt HW1.out hne)
  obtain ⟨rfl, hc2, hg2⟩ := h2
  have hb2 := below_up hb1 hg2 (by omega) hs1
  have hs2 := hb2.size
  rw [aw8_1]
  clear hg2 hc1
  go_wp2_with fail
  refine (wput_any p 1 _ 232 w2 hc2 HW2.out (by decide) (by decide) (by simp)).mono ?_
  intro e w3 h3
  have HW3 := Lib.hid (h3.wt HW2.out hne)
  obtain ⟨rfl, hc3, hg3⟩ := h3
  have hb3 := below_up hb2 hg3 (by omega) hs2
  have hs3 := hb3.size
  rw [aw8_2]
  clear hg3 hc2
  go_wp2_with fail
  refine (wput_any p 1 _ 232 w3 hc3 HW3.out (by decide) (by decide) (by simp)).mono ?_
  intro e w4 h4
  have HW4 := Lib.hid (h4.wt HW3.out hne)
  obtain ⟨rfl, hc4, hg4⟩ := h4
  have hb4 := below_up hb3 hg4 (by omega) hs3
  have hs4 := hb4.size
  rw [aw8_3]
  clear hg4 hc3
  go_wp2_with fail
  refine (bad_any p 1 _ w4 hc4 2 aw8_3).mono ?_
  rintro e w' ⟨rfl, h⟩
  subst h
  go_wp2_with fail
  refine (kind_any 2 10 _ (by decide) (by decide) HW4.out.ro).mono ?_
  rintro e w' ⟨rfl, h⟩
  subst h
  rw [aw8_k]
  go_wp2_with fail
  obtain ⟨W, hW⟩ : ∃ W : World, W = w' := ⟨_, rfl⟩
  rw [← hW] at hb4 ⊢
  have HWW := Lib.hid (show Wt W by rw [hW]; exact HW4.out)
  have hsW := hb4.size
  clear hW HW4 hc4 hs4
  have hbN : Below W.heap.size W (W.alloc (.cells #[.int .u8 161, .int .u8 232, .int .u8 232] 5)) := (Below.refl _ _).alloc (Nat.le_refl _) _
  refine (check_any 3 (some ⟨W.heap.size, 0, none⟩) 3 [161, 232, 232] 0 _ _ rfl (rd_new_ints W .u8 [161, 232, 232] 5 #[.int .u8 161, .int .u8 232, .int .u8 232] rfl) (by decide) (by decide) (by decide) (HWW.out.below hbN)).mono ?_
  rintro e w9 ⟨rfl, m, rfl⟩
  rw [chk_pass]
  have HBF := Lib.hid (below_drewN (hb4.trans (hbN.mono hsW)) m)
  go_wp2
  go_ret
  exact ⟨rfl, HBF.out⟩
end Go.Proofs.YtgeecngpmcjdpaaDoor
