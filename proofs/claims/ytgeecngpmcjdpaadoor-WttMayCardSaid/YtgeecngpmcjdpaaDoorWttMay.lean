/- WttMay: the walk. -/
import Derived.Test.YtgeecngpmcjdpaaDoorWttE
namespace Go.Proofs.YtgeecngpmcjdpaaDoor
set_option linter.unusedVariables false
open Go.RowKit
set_option maxHeartbeats 1600000 in
theorem wttMay_any (a b l : Int) (w : World) (h0 : 0 ≤ a ∧ a ≤ 255) (h1 : 0 ≤ b ∧ b ≤ 255) (hl : -128 ≤ l ∧ l ≤ 127) (hw : Wt w) :
    Calls Tryd.prog 4 #[.int .u8 a, .int .u8 b, .int .i8 l] w fun e w' => e = .returned (.bool true) ∧ Below w.heap.size w w' := by
  have A0 := Lib.hid (tawake8_any w hw)
  have HW := Lib.hid hw
  obtain ⟨l0, l1⟩ := hl
  have M := fun (w' : World) (hw' : Wt w') => may_any a b l w' h0 h1 (by omega) hw'
  have ML := fun w' : World => mayL_any a b l w' h0 h1 (by omega)
  have MP := fun (w' : World) (hw' : Wt w') => may_any a b 0 w' h0 h1 (by decide) hw'
  have MB := fun (w' : World) (hw' : Wt w') => may_any a b 1 w' h0 h1 (by decide) hw'
  have MT := fun (w' : World) (hw' : Wt w') => may_any a b 2 w' h0 h1 (by decide) hw'
  have hmono : mayF a b 2 = true → mayF a b 1 = true := fun h => mayF_mono h (by decide)
  rw [mayF_pass] at MP
  obtain ⟨r, hr⟩ : ∃ r, mayF a b l = r := ⟨_, rfl⟩
  obtain ⟨s, hs⟩ : ∃ r, mayF a b 1 = r := ⟨_, rfl⟩
  obtain ⟨t, ht⟩ : ∃ r, mayF a b 2 = r := ⟨_, rfl⟩
  rw [hr] at M ML
  rw [hs] at MB hmono
  rw [ht] at MT hmono
  have M := Lib.hid M
  have ML := Lib.hid ML
  have MP := Lib.hid MP
  have MB := Lib.hid MB
  have MT := Lib.hid MT
  have b0 : (r == r) = true := by simp
  clear hw hr hs ht
  cases t with
  | false =>
    clear hmono
    go_enter Tryd.func4, Tryd.ntmps4
    go_wp2_with fail
    refine A0.out.mono ?_
    rintro e w1 ⟨rfl, hb1⟩
    have HW1 := Lib.hid (HW.out.below hb1)
    have hs1 := hb1.size
    go_wp2_with fail
    refine (M.out _ HW1.out).mono ?_
    rintro e w' ⟨rfl, h⟩
    subst h
    go_wp2_with fail
    refine (ML.out _).mono ?_
    rintro e w2 ⟨rfl, hb2⟩
    have HW2 := Lib.hid (HW1.out.below hb2)
    have HBF := Lib.hid (hb1.trans (hb2.mono hs1))
    clear hb1 hb2
    go_wp2_with fail
    refine (MP.out _ HW2.out).mono ?_
    rintro e w' ⟨rfl, h⟩
    subst h
    go_wp2_with fail
    refine (MT.out _ HW2.out).mono ?_
    rintro e w' ⟨rfl, h⟩
    subst h
    go_wp2
    go_ret
    exact ⟨ret_bool (by simp), HBF.out⟩
  | true =>
    obtain rfl := hmono rfl
    clear hmono
    go_enter Tryd.func4, Tryd.ntmps4
    go_wp2_with fail
    refine A0.out.mono ?_
    rintro e w1 ⟨rfl, hb1⟩
    have HW1 := Lib.hid (HW.out.below hb1)
    have hs1 := hb1.size
    go_wp2_with fail
    refine (M.out _ HW1.out).mono ?_
    rintro e w' ⟨rfl, h⟩
    subst h
    go_wp2_with fail
    refine (ML.out _).mono ?_
    rintro e w2 ⟨rfl, hb2⟩
    have HW2 := Lib.hid (HW1.out.below hb2)
    have HBF := Lib.hid (hb1.trans (hb2.mono hs1))
    clear hb1 hb2
    go_wp2_with fail
    refine (MP.out _ HW2.out).mono ?_
    rintro e w' ⟨rfl, h⟩
    subst h
    go_wp2_with fail
    refine (MT.out _ HW2.out).mono ?_
    rintro e w' ⟨rfl, h⟩
    subst h
    go_wp2_with fail
    refine (MB.out _ HW2.out).mono ?_
    rintro e w' ⟨rfl, h⟩
    subst h
    go_wp2
    go_ret
    exact ⟨ret_bool (by simp), HBF.out⟩
end Go.Proofs.YtgeecngpmcjdpaaDoor
