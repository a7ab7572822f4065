/- Layer 5: the document's examples hold. -/
import Derived.Test.YtfbncepkmhfbmaaRewA
import Derived.Test.YtfbncepkmhfbmaaRewC
import Derived.Test.YtfbncepkmhfbmaaUsNew
namespace Go.Proofs.Ytfbncepkmhfbmaa
set_option linter.unusedVariables false
open Go.RowKit
def awR : List Rl := [([1], [7]), ([1, 2], [8, 9])]
def awTs : List Tk := [⟨0, 2, [8, 9], 0⟩, ⟨2, 1, [7], 0⟩, ⟨3, 1, [], 3⟩]
theorem awR_rew : rewA awR 0 [1, 2, 1, 3] = awTs := by
  rw [rewA_cons (o := [8, 9]) (s := 2) (e := 0) (by simp) (by decide) (by omega)]
  show _ :: rewA awR 2 [1, 3] = _
  rw [rewA_cons (o := [7]) (s := 1) (e := 0) (by simp) (by decide) (by omega)]
  show _ :: _ :: rewA awR 3 [3] = _
  rw [rewA_cons (o := []) (s := 1) (e := 3) (by simp) (by decide) (by omega)]
  show _ :: _ :: _ :: rewA awR 4 [] = _
  rw [rewA_nil]; rfl
theorem awR_at (w : World) (s : Nat) (hs : w.heap.size = s) :
    RsAt (((((w.alloc (.cells #[.int .i64 1] 3)).alloc (.cells #[.int .i64 7] 3)).alloc (.cells #[.int .i64 1, .int .i64 2] 3)).alloc (.cells #[.int .i64 8, .int .i64 9] 3)).alloc (.cells #[.slice (some ⟨s, 0, none⟩) 1 1, .slice (some ⟨s + 1, 0, none⟩) 1 1, .slice (some ⟨s + 2, 0, none⟩) 2 2, .slice (some ⟨s + 3, 0, none⟩) 2 2] 51)) (s + 5) (some ⟨s + 4, 0, none⟩) 2 2 awR := by
  have u1 := (((((us_newL w s hs [1] #[.int .i64 1] rfl 1 rfl (by simp [maxLen])).up (.cells #[.int .i64 7] 3) (Y := (· < s + 5)) (fun b _ h => by omega)).up (.cells #[.int .i64 1, .int .i64 2] 3) (Y := (· < s + 5)) (fun b _ h => h)).up (.cells #[.int .i64 8, .int .i64 9] 3) (Y := (· < s + 5)) (fun b _ h => h)).up (.cells #[.slice (some ⟨s, 0, none⟩) 1 1, .slice (some ⟨s + 1, 0, none⟩) 1 1, .slice (some ⟨s + 2, 0, none⟩) 2 2, .slice (some ⟨s + 3, 0, none⟩) 2 2] 51) (Y := (· < s + 5)) (fun b _ h => h))
  have u2 := ((((us_newL (w.alloc (.cells #[.int .i64 1] 3)) (s + 1) (by simp [hs]) [7] #[.int .i64 7] rfl 1 rfl (by simp [maxLen])).up (.cells #[.int .i64 1, .int .i64 2] 3) (Y := (· < s + 5)) (fun b _ h => by omega)).up (.cells #[.int .i64 8, .int .i64 9] 3) (Y := (· < s + 5)) (fun b _ h => h)).up (.cells #[.slice (some ⟨s, 0, none⟩) 1 1, .slice (some ⟨s + 1, 0, none⟩) 1 1, .slice (some ⟨s + 2, 0, none⟩) 2 2, .slice (some ⟨s + 3, 0, none⟩) 2 2] 51) (Y := (· < s + 5)) (fun b _ h => h))
  have u3 := (((us_newL ((w.alloc (.cells #[.int .i64 1] 3)).alloc (.cells #[.int .i64 7] 3)) (s + 2) (by simp [hs]) [1, 2] #[.int .i64 1, .int .i64 2] rfl 2 rfl (by simp [maxLen])).up (.cells #[.int .i64 8, .int .i64 9] 3) (Y := (· < s + 5)) (fun b _ h => by omega)).up (.cells #[.slice (some ⟨s, 0, none⟩) 1 1, .slice (some ⟨s + 1, 0, none⟩) 1 1, .slice (some ⟨s + 2, 0, none⟩) 2 2, .slice (some ⟨s + 3, 0, none⟩) 2 2] 51) (Y := (· < s + 5)) (fun b _ h => h))
  have u4 := ((us_newL (((w.alloc (.cells #[.int .i64 1] 3)).alloc (.cells #[.int .i64 7] 3)).alloc (.cells #[.int .i64 1, .int .i64 2] 3)) (s + 3) (by simp [hs]) [8, 9] #[.int .i64 8, .int .i64 9] rfl 2 rfl (by simp [maxLen])).up (.cells #[.slice (some ⟨s, 0, none⟩) 1 1, .slice (some ⟨s + 1, 0, none⟩) 1 1, .slice (some ⟨s + 2, 0, none⟩) 2 2, .slice (some ⟨s + 3, 0, none⟩) 2 2] 51) (Y := (· < s + 5)) (fun b _ h => by omega))
  refine ⟨rfl, Nat.le_refl _, by simp [maxLen], _, Rd_newR _ _ _ (s + 4) (by simp [hs]), ?_⟩
  exact ⟨u1, u2, u3, u4, trivial⟩

set_option maxHeartbeats 3200000 in
theorem rawake5_any (w : World) : Calls Try.prog 9 #[] w fun e w' => e = .returned (.bool true) ∧ Below w.heap.size w w' := by
  go_enter Try.func9, Try.ntmps9
  go_wp2_with fail
  refine (of_ok 2 _ 2 awR (w.heap.size + 5) _ (awR_at w _ rfl) (by simp) (by decide)).mono ?_
  rintro e w1 ⟨T, rfl, ho, hb1⟩
  have hbl1 : Below w.heap.size w w1 := (((((Below.refl _ _).alloc (Nat.le_refl _) _).alloc (by simp) _).alloc (by simp; omega) _).alloc (by simp; omega) _).alloc (by simp; omega) _ |>.trans (hb1.mono (by simp; omega))
  have HO := Lib.hid ho
  have hs1 := hbl1.size
  have hbA : ∀ o, Below w1.heap.size w1 (w1.alloc o) := fun o => (Below.refl _ _).alloc (Nat.le_refl _) _
  have HBA := Lib.hid hbA
  clear ho hb1 hbA
  go_wp2_with fail
  refine (rew_any _ w1.heap.size T awR (HO.out.below (HBA.out _) (Nat.le_refl _)) (by simp) 4 _ 4 [1, 2, 1, 3] (w1.heap.size + 1) rfl (Rd_newR w1 _ _ _ rfl) (by simp) (Nat.le_refl _) (by simp [maxLen]) (by omega) awTs awR_rew).mono ?_
  rintro e w2 ⟨v, rfl, ho2, hb2⟩
  have hbl2 : Below w.heap.size w w2 := hbl1.trans ((HBA.out _).mono hs1 |>.trans (hb2.mono (by simp; omega)))
  obtain ⟨A3, c3, rfl, hat⟩ := ho2.form
  have HAT := Lib.hid hat
  have hs2 := hbl2.size
  clear ho2 hat hb2
  go_wp2_with fail
  refine (unitsT_any 3 A3 c3 awTs w2.heap.size w2 HAT.out (Nat.le_refl _) (by decide) [8, 9, 7] ⟨3, 1, [], 3⟩ 3 0 rfl rfl rfl rfl).mono ?_
  rintro e w3 ⟨A1, c1, A2, c2, rfl, hu1, hu2, hb3⟩
  have hbl3 := hbl2.trans (hb3.mono hs2)
  have hs3 := hbl3.size
  obtain ⟨q1, q2, q3, q4⟩ := hu1.rd
  obtain ⟨b, o, rfl, hbb, hc⟩ := rd_ints (q4.rd (Nat.le_refl w3.heap.size)) (by simp)
  have z0 := hc 0 (by simp)
  have z2 := hc 2 (by simp)
  have hbE : ∀ o, Below w.heap.size w (w3.alloc o) := fun o => hbl3.alloc hs3 o
  have HBE := Lib.hid hbE
  simp only [Nat.add_zero] at z0
  change w3.cell? _ = some (.int .i64 8) at z0
  change w3.cell? _ = some (.int .i64 7) at z2
  clear hc q1 q4 hu1 hu2 hbE
  go_wp2
  go_ret
  exact ⟨rfl, HBE.out _⟩
end Go.Proofs.Ytfbncepkmhfbmaa
