/- Layer 8: the tables; contracts of known, Kind, May; the law's Rows and may. -/
import Derived.Test.YtgeecngpmcjdpaaDoorWttM
import Derived.Test.YtgeecngpmcjdpaaDoorThaiC
import Derived.Test.YtgeecngpmcjdpaaDoorStrs
namespace Go.Proofs.YtgeecngpmcjdpaaDoor
set_option linter.unusedVariables false
open Go.RowKit
def RowsAt (w : World) : Prop := StrsIs Tryd.prog w "lontar/wtt.rows" kdR
theorem RowsAt.cell {w : World} (h : RowsAt w) (a : Nat) (ha : a < 17) : w.cell? ⟨0, a, none⟩ = some (.string (rowB a)) := StrsIs.cell h (by kernel_rfl) a ha
/-- both tables, as a world holds them -/
structure Wt (w : World) : Prop where
  hi : HighAt w
  ro : RowsAt w
theorem Wt.lt {w : World} (h : Wt w) : 1 < w.heap.size ∧ 0 < w.heap.size := ⟨h.hi.lt, World.block_lt_of_cell? w _ (h.ro.cell 0 (by decide))⟩
theorem Wt.below {w w' : World} (h : Wt w) (hb : Below w.heap.size w w') : Wt w' :=
  ⟨h.hi.stay (Stay.of hb h.lt.1), strs_block h.ro (by kernel_rfl) (hb.block _ h.lt.2)⟩

set_option maxHeartbeats 400000 in
theorem known_any (a : Int) (w : World) : Calls Tryd.prog 20 #[.int .i64 a] w fun e w' => e = .returned (.bool (decide (0 ≤ a ∧ a < 17))) ∧ w' = w := by
  by_cases h0 : 0 ≤ a
  · by_cases h1 : a < 17
    · go_enter Tryd.func20, Tryd.ntmps20
      go_wp2
      go_ret
      exact ⟨ret_bool (by simp; omega), rfl⟩
    · go_enter Tryd.func20, Tryd.ntmps20
      go_wp2
      go_ret
      exact ⟨ret_bool (by simp; omega), rfl⟩
  · go_enter Tryd.func20, Tryd.ntmps20
    go_wp2
    go_ret
    exact ⟨ret_bool (by simp; omega), rfl⟩

set_option maxHeartbeats 800000 in
theorem kind_any (a b : Int) (w : World) (h0 : -9223372036854775808 ≤ a ∧ a ≤ 9223372036854775807) (h1 : -9223372036854775808 ≤ b ∧ b ≤ 9223372036854775807) (hw : RowsAt w) :
    Calls Tryd.prog 11 #[.int .i64 a, .int .i64 b] w fun e w' => e = .returned (.int .u8 (kdF a b)) ∧ w' = w := by
  have KA := known_any a w
  have KB := known_any b w
  by_cases ha : 0 ≤ a ∧ a < 17
  · by_cases hb : 0 ≤ b ∧ b < 17
    · rw [decide_eq_true ha] at KA
      rw [decide_eq_true hb] at KB
      have KA := Lib.hid KA
      have KB := Lib.hid KB
      have hrun := fun W : World => row_index (P := Tryd.prog) W 9 .i64 a b (by kernel_rfl) ha hb
      have hcell := hw.cell a.toNat (by omega)
      obtain ⟨a0, a1⟩ := ha
      obtain ⟨K, rfl⟩ : ∃ K : Nat, a = K := ⟨a.toNat, by omega⟩
      have hK : K < 17 := by omega
      rw [show ((K : Int)).toNat = K from by omega] at hrun hcell
      obtain ⟨r, hr⟩ : ∃ r, kdF K b = r := ⟨_, rfl⟩
      obtain ⟨S, hS⟩ : ∃ S, rowB K = S := ⟨_, rfl⟩
      rw [hr, hS] at hrun
      rw [hS] at hcell
      rw [hr]
      clear hr hS hw hb
      go_enter Tryd.func11, Tryd.ntmps11
      go_wp2_with fail
      refine KA.out.mono ?_
      rintro e w' ⟨rfl, rfl⟩
      go_wp2_with fail
      refine KB.out.mono ?_
      rintro e w' ⟨rfl, rfl⟩
      go_wp2
      go_ret
      exact ⟨rfl, rfl⟩
    · rw [decide_eq_true ha] at KA
      rw [decide_eq_false hb] at KB
      have KA := Lib.hid KA
      have KB := Lib.hid KB
      have HR := Lib.hid (kdF_out (a := a) (b := b) (fun h => hb h.2))
      clear ha hb hw
      go_enter Tryd.func11, Tryd.ntmps11
      go_wp2_with fail
      refine KA.out.mono ?_
      rintro e w' ⟨rfl, rfl⟩
      go_wp2_with fail
      refine KB.out.mono ?_
      rintro e w' ⟨rfl, rfl⟩
      go_wp2
      go_ret
      exact ⟨ret_int HR.out, rfl⟩
  · rw [decide_eq_false ha] at KA
    have KA := Lib.hid KA
    have HR := Lib.hid (kdF_out (a := a) (b := b) (fun h => ha h.1))
    clear ha hw KB
    go_enter Tryd.func11, Tryd.ntmps11
    go_wp2_with fail
    refine KA.out.mono ?_
    rintro e w' ⟨rfl, rfl⟩
    go_wp2
    go_ret
    exact ⟨ret_int HR.out, rfl⟩

set_option maxHeartbeats 800000 in
theorem may_any (a b l : Int) (w : World) (h0 : 0 ≤ a ∧ a ≤ 255) (h1 : 0 ≤ b ∧ b ≤ 255) (hl : -9223372036854775808 ≤ l ∧ l ≤ 9223372036854775807) (hw : Wt w) :
    Calls Tryd.prog 13 #[.int .u8 a, .int .u8 b, .int .i64 l] w fun e w' => e = .returned (.bool (mayF a b l)) ∧ w' = w := by
  obtain ⟨ra0, ra1⟩ := clF_range a
  obtain ⟨rb0, rb1⟩ := clF_range b
  have OA := of_any a w h0.1 h0.2 hw.hi
  have OB := of_any b w h1.1 h1.2 hw.hi
  have KK := kind_any (clF a) (clF b) w (by omega) (by omega) hw.ro
  obtain ⟨r, hr⟩ : ∃ r, mayF a b l = r := ⟨_, rfl⟩
  have hr' := hr
  rw [hr]
  unfold mayF at hr'
  obtain ⟨ca, hca⟩ : ∃ x, clF a = x := ⟨_, rfl⟩
  obtain ⟨cb, hcb⟩ : ∃ x, clF b = x := ⟨_, rfl⟩
  rw [hca] at OA KK hr'
  rw [hcb] at OB KK hr'
  obtain ⟨k, hk⟩ : ∃ x, kdF ca cb = x := ⟨_, rfl⟩
  rw [hk] at KK hr'
  have OA := Lib.hid OA
  have OB := Lib.hid OB
  have KK := Lib.hid KK
  clear hca hcb hk hr ra0 ra1 rb0 rb1 hw
  by_cases k1 : k = 82
  · subst k1
    have HR := Lib.hid (show decide (l ≤ 0) = r by simpa [mayK] using hr')
    clear hr'
    go_enter Tryd.func13, Tryd.ntmps13
    go_wp2_with fail
    refine OA.out.mono ?_
    rintro e w' ⟨rfl, rfl⟩
    go_wp2_with fail
    refine OB.out.mono ?_
    rintro e w' ⟨rfl, rfl⟩
    go_wp2_with fail
    refine KK.out.mono ?_
    rintro e w' ⟨rfl, rfl⟩
    go_wp2
    go_ret
    exact ⟨ret_bool HR.out.symm, rfl⟩
  · by_cases k2 : k = 83
    · subst k2
      have HR := Lib.hid (show decide (l ≤ 1) = r by simpa [mayK] using hr')
      clear hr' k1
      go_enter Tryd.func13, Tryd.ntmps13
      go_wp2_with fail
      refine OA.out.mono ?_
      rintro e w' ⟨rfl, rfl⟩
      go_wp2_with fail
      refine OB.out.mono ?_
      rintro e w' ⟨rfl, rfl⟩
      go_wp2_with fail
      refine KK.out.mono ?_
      rintro e w' ⟨rfl, rfl⟩
      go_wp2
      go_ret
      exact ⟨ret_bool HR.out.symm, rfl⟩
    · have HR := Lib.hid (show true = r by simpa [mayK, k1, k2] using hr')
      clear hr'
      go_enter Tryd.func13, Tryd.ntmps13
      go_wp2_with fail
      refine OA.out.mono ?_
      rintro e w' ⟨rfl, rfl⟩
      go_wp2_with fail
      refine OB.out.mono ?_
      rintro e w' ⟨rfl, rfl⟩
      go_wp2_with fail
      refine KK.out.mono ?_
      rintro e w' ⟨rfl, rfl⟩
      go_wp2
      go_ret
      exact ⟨ret_bool HR.out.symm, rfl⟩

theorem rowsL_any (w : World) : Calls Tryd.prog 12 #[] w fun e w' => e = .returned (.string allB) ∧ w' = w := by
  go_enter Tryd.func12, Tryd.ntmps12
  go_wp2
  go_ret
  exact ⟨ret_str (by kernel_rfl), rfl⟩
end Go.Proofs.YtgeecngpmcjdpaaDoor
