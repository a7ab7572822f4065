/- ThaiRound: the walk. -/
import Derived.Test.YtbegfdlkhmiilaaDoorThaiL
namespace Go.Proofs.YtbegfdlkhmiilaaDoor
set_option linter.unusedVariables false
open Go.RowKit
theorem ec_sc {c t d : Int} {is : Bool} (h0 : 0 ≤ c) (h1 : c ≤ 255) (hs : scF c = (t, true)) (he : ecF t = (d, is)) : is = true ∧ d = c := by
  unfold scF at hs
  unfold ecF at he
  (repeat' split at hs) <;> (repeat' split at he) <;> simp only [Prod.mk.injEq, Bool.false_eq_true, and_false, and_true] at hs he <;> (try (obtain ⟨e1, rfl⟩ := he; refine ⟨rfl, ?_⟩; omega)) <;> (try (obtain ⟨e1, rfl⟩ := he; omega)) <;> omega
theorem sc_ec {s x y : Int} {back : Bool} (he : ecF s = (x, true)) (hs : scF x = (y, back)) : back = true ∧ y = s := by
  unfold scF at hs
  unfold ecF at he
  (repeat' split at hs) <;> (repeat' split at he) <;> simp only [Prod.mk.injEq, Bool.false_eq_true, and_false, and_true] at hs he <;> (try (obtain ⟨e1, rfl⟩ := hs; refine ⟨rfl, ?_⟩; omega)) <;> (try (obtain ⟨e1, rfl⟩ := hs; omega)) <;> omega
theorem ecF_range (s : Int) : 0 ≤ (ecF s).1 ∧ (ecF s).1 ≤ 255 := by unfold ecF; (repeat' split) <;> simp only [] <;> omega
theorem scF_range (c : Int) (h0 : 0 ≤ c) (h1 : c ≤ 255) : 0 ≤ (scF c).1 ∧ (scF c).1 ≤ 4000 := by unfold scF; (repeat' split) <;> simp only [] <;> omega
set_option maxHeartbeats 1600000 in
theorem thaiRound_any (c s : Int) (w : World) (h0 : 0 ≤ c ∧ c ≤ 255) (h1 : 0 ≤ s ∧ s ≤ 65535) (hh : HighAt w) :
    Calls Tryd.prog 6 #[.int .u8 c, .int .u16 s] w fun e w' => e = .returned (.bool true) ∧ Below w.heap.size w w' := by
  have A1 := Lib.hid (tawake7_any w hh)
  have r1 := scF_range c h0.1 h0.2
  have r2 := ecF_range s
  obtain ⟨t, ok, hs⟩ : ∃ t ok, scF c = (t, ok) := ⟨_, _, rfl⟩
  obtain ⟨x, has, he⟩ : ∃ x has, ecF s = (x, has) := ⟨_, _, rfl⟩
  rw [hs] at r1
  rw [he] at r2
  obtain ⟨d, is, he2⟩ : ∃ d is, ecF t = (d, is) := ⟨_, _, rfl⟩
  obtain ⟨y, back, hs2⟩ : ∃ y back, scF x = (y, back) := ⟨_, _, rfl⟩
  have D1 := Lib.hid (decode_any c w h0.1 h0.2)
  have E1 := Lib.hid (encode_any t w (by have := r1.1; simp at this; omega) (by have := r1.2; simp at this; omega))
  have E2 := Lib.hid (encode_any s w (by omega) (by omega))
  have D2 := Lib.hid (decode_any x w r2.1 r2.2)
  rw [hs] at D1
  rw [he2] at E1
  rw [he] at E2
  rw [hs2] at D2
  have F1 : Hid (ok = true → is = true ∧ d = c) := fun h => ec_sc h0.1 h0.2 (h ▸ hs) he2
  have F2 : Hid (has = true → back = true ∧ y = s) := fun h => sc_ec (h ▸ he) hs2
  have k1 := h1.1
  have k2 := h1.2
  have W1 : IntKind.i64.wrap s = s := by rw [IntKind.wrap_i64]; omega
  clear hs he he2 hs2 hh h0 h1 r1 r2
  go_enter Tryd.func6, Tryd.ntmps6
  go_wp2_with fail
  refine A1.out.mono ?_
  rintro e w' ⟨rfl, rfl⟩
  go_wp2_with fail
  refine D1.out.mono ?_
  rintro e w' ⟨rfl, rfl⟩
  go_wp2_with fail
  refine E1.out.mono ?_
  rintro e w' ⟨rfl, rfl⟩
  cases ok with
  | true =>
    obtain ⟨rfl, rfl⟩ := F1.out rfl
    go_wp2_with fail
    refine E2.out.mono ?_
    rintro e w' ⟨rfl, rfl⟩
    go_wp2_with fail
    refine D2.out.mono ?_
    rintro e w' ⟨rfl, rfl⟩
    cases has with
    | true =>
      obtain ⟨rfl, rfl⟩ := F2.out rfl
      go_wp2_with fail
      go_ret
      exact ⟨ret_bool (by simp), Below.refl _ _⟩
    | false =>
      go_wp2_with fail
      go_ret
      exact ⟨ret_bool (by simp), Below.refl _ _⟩
  | false =>
    go_wp2_with fail
    refine E2.out.mono ?_
    rintro e w' ⟨rfl, rfl⟩
    go_wp2_with fail
    refine D2.out.mono ?_
    rintro e w' ⟨rfl, rfl⟩
    cases has with
    | true =>
      obtain ⟨rfl, rfl⟩ := F2.out rfl
      go_wp2_with fail
      go_ret
      exact ⟨ret_bool (by simp), Below.refl _ _⟩
    | false =>
      go_wp2_with fail
      go_ret
      exact ⟨ret_bool (by simp), Below.refl _ _⟩
end Go.Proofs.YtbegfdlkhmiilaaDoor
