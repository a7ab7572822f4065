/- VietSplit: the walk. -/
import Derived.Test.YtigpmnpfkgopnaaDoorVietE
namespace Go.Proofs.YtigpmnpfkgopnaaDoor
set_option linter.unusedVariables false
set_option linter.unusedSimpArgs false
set_option linter.unnecessarySimpa false
open Go.RowKit Go.Shelf
attribute [local go_sem] run_store_complex

theorem fl_zero : fl 0 = 0 := by decide +kernel
theorem lv_same {k : Option Nat} (hk : ∀ j, k = some j → j < 148) : ∃ b r i, lV k = #[.int .i64 b, .complex .f64 r i] ∧ feq r r = true ∧ feq i i = true := by
  cases k with
  | none => exact ⟨0, 0, 0, rfl, by decide +kernel, by decide +kernel⟩
  | some j =>
    have h := letter_small j (hk j rfl)
    exact ⟨LB j, fl (LM j), fl (LT j), rfl, feq_fl_self _ (by omega), feq_fl_self _ (by omega)⟩
theorem split_lt {s : Int} {j : Nat} (h : splitF s = some j) : j < 148 := (findP_lt h).1

set_option maxHeartbeats 3200000 in
theorem vietSplit_any (s n : Int) (w : World) (hn : 0 ≤ n ∧ n ≤ 65535) (hR : RowsV w) :
    Calls Tryd.prog 4 #[.int .i64 s, .int .u16 n] w fun e w' => e = .returned (.bool true) ∧ Below w.heap.size w w' := by
  have A0 := Lib.hid (tawake9_any w hR)
  have HR := Lib.hid hR
  obtain ⟨a, ha⟩ : ∃ a, n % 544 = a := ⟨_, rfl⟩
  obtain ⟨c, hc⟩ : ∃ a, n % 112 = a := ⟨_, rfl⟩
  have a0 : 0 ≤ a := by omega
  have a1 : a < 544 := by omega
  have c0 : 0 ≤ c := by omega
  have c1 : c < 112 := by omega
  have hw : IntKind.i64.wrap (7824 + c) = 7824 + c := by rw [IntKind.wrap_i64]; omega
  clear hR
  go_enter Tryd.func4, Tryd.ntmps4
  go_wp2_with fail
  refine A0.out.mono ?_
  rintro e w1 ⟨rfl, hb1⟩
  have HR1 := Lib.hid (HR.out.below hb1)
  have hs1 := hb1.size
  have HB1 := Lib.hid hb1
  clear hb1
  go_wp2_with fail
  obtain ⟨d, hd⟩ : ∃ d, 7824 + c = d := ⟨_, rfl⟩
  rw [hd]
  have q := Held.new w1 #[.int .i64 s, .int .i64 a, .int .i64 d] 3
  have hb2 := HB1.out.alloc hs1 (.cells #[.int .i64 s, .int .i64 a, .int .i64 d] 3)
  have hR2 := HR1.out.below ((Below.refl _ w1).alloc (Nat.le_refl _) (.cells #[.int .i64 s, .int .i64 a, .int .i64 d] 3))
  obtain ⟨W2, hW2⟩ : ∃ W2, w1.alloc (.cells #[.int .i64 s, .int .i64 a, .int .i64 d] 3) = W2 := ⟨_, rfl⟩
  obtain ⟨g, hg⟩ : ∃ g, w1.heap.size = g := ⟨_, rfl⟩
  rw [hW2] at q hb2 hR2 ⊢
  rw [hg] at q ⊢
  have HQ := Lib.hid q
  have HB2 := Lib.hid hb2
  have HR2 := Lib.hid hR2
  have hcell : ∀ k, k < 3 → ∃ x, (#[Value.int .i64 s, .int .i64 a, .int .i64 d])[k]? = some (.int .i64 x) := by
    intro k hk
    match k, hk with
    | 0, _ => exact ⟨s, rfl⟩
    | 1, _ => exact ⟨a, rfl⟩
    | 2, _ => exact ⟨d, rfl⟩
  have HC := Lib.hid hcell
  clear hW2 hg q hb2 hR2 hs1 HR1 HB1 hcell hw hd ha hc A0 HR
  go_loopw [23] (fun i wr => ∃ I : Nat, I ≤ 3 ∧ i = .int .i64 I ∧ Hid (Held wr g #[.int .i64 s, .int .i64 a, .int .i64 d] 3) ∧ Hid (RowsV wr) ∧ Hid (Below w.heap.size w wr)) (fun i _ => 3 - (intOf i).toNat)
  case atStart => exact ⟨0, by omega, rfl, HQ, HR2, HB2⟩
  case round =>
    clear HQ HR2 HB2
    obtain ⟨I, hI, rfl, HQ, HR, HB⟩ := hrel
    by_cases hI3 : I = 3
    · subst hI3
      go_wp2
      go_ret
      exact ⟨rfl, HB.out⟩
    have hI' : I < 3 := by omega
    have hIi : (I : Int) < 3 := by omega
    have hIi0 : (0 : Int) ≤ I := by omega
    obtain ⟨x, hx⟩ := HC.out I hI'
    have cx := (HQ.out.cell I).trans hx
    obtain ⟨b, r, i, hv, e1, e2⟩ := lv_same (k := splitF x) (fun j h => split_lt h)
    have heq := fun W => eq_letters b b r i r i W
    rw [e1, e2] at heq
    simp only [Bool.and_self, Bool.and_true, beq_self_eq_true] at heq
    have hbb : ∀ z : Bool, (z != z) = false := fun z => by simp
    obtain ⟨z, hz⟩ : ∃ z, (splitF x).isSome = z := ⟨_, rfl⟩
    have HS1 := Lib.hid (split_any x wr HR.out)
    have HS2 := Lib.hid (fun W => lsplit_any x W)
    rw [hv, hz] at HS1 HS2
    have hbz := hbb z
    have hlt := HQ.out.lt
    clear hx e1 e2 hv hz hbb
    go_wp2_with fail
    refine HS1.out.mono ?_
    rintro e w2 ⟨rfl, hb2⟩
    have HQ2 := Lib.hid (HQ.out.below hb2 hlt)
    have HR2 := Lib.hid (HR.out.below hb2)
    have HB2 := Lib.hid (HB.out.trans (hb2.mono HB.out.size))
    have hlt2 := HQ2.out.lt
    have hsz2 := HB2.out.size
    clear hb2
    go_wp2_with fail
    have q3 := Held.new w2 #[.int .i64 b, .complex .f64 r i] 29
    have hb3 : Below w2.heap.size w2 (w2.alloc (.cells #[.int .i64 b, .complex .f64 r i] 29)) := (Below.refl _ w2).alloc (Nat.le_refl _) _
    obtain ⟨W3, hW3⟩ : ∃ W3, w2.alloc (.cells #[.int .i64 b, .complex .f64 r i] 29) = W3 := ⟨_, rfl⟩
    rw [hW3] at q3 hb3 ⊢
    have HQ3 := Lib.hid (HQ2.out.below hb3 hlt2)
    have HR3 := Lib.hid (HR2.out.below hb3)
    have HB3 := Lib.hid (HB2.out.trans (hb3.mono hsz2))
    have hlt3 := HQ3.out.lt
    have hsz3 := HB3.out.size
    obtain ⟨h, hh⟩ : ∃ h, w2.heap.size = h := ⟨_, rfl⟩
    rw [hh] at q3 ⊢
    have HP3 := Lib.hid q3
    have hltp := q3.lt
    clear hW3 hb3 hh q3 HQ2 HR2 HB2 hlt2 hsz2
    clear w2
    refine (HS2.out W3).mono ?_
    rintro e w4 ⟨rfl, hb4⟩
    have HQ4 := Lib.hid (HQ3.out.below hb4 hlt3)
    have HR4 := Lib.hid (HR3.out.below hb4)
    have HB4 := Lib.hid (HB3.out.trans (hb4.mono hsz3))
    have hP4 := HP3.out.below hb4 hltp
    have p0 := hP4.cell 0
    have p1 := hP4.cell 1
    have hl4 := hP4.lt
    have hsz4 := HB4.out.size
    clear hb4 hP4
    go_wp2
    go_roundw
    case rel => exact ⟨I + 1, by omega, by go_num, Lib.hid (HQ4.out.alloc _), Lib.hid (HR4.out.below ((Below.refl _ _).alloc (Nat.le_refl _) _)), Lib.hid (HB4.out.alloc hsz4 _)⟩
    case measure => simp [intOf]; omega
end Go.Proofs.YtigpmnpfkgopnaaDoor
