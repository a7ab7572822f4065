/- WttKind: the walk. -/
import Derived.Test.YtgeecngpmcjdpaaDoorWttE
namespace Go.Proofs.YtgeecngpmcjdpaaDoor
set_option linter.unusedVariables false
open Go.RowKit
set_option maxHeartbeats 3200000 in
theorem wttKind_any (a b x y : Int) (w : World) (h0 : 0 ≤ a ∧ a ≤ 255) (h1 : 0 ≤ b ∧ b ≤ 255) (hx : -9223372036854775808 ≤ x ∧ x ≤ 9223372036854775807) (hy : -9223372036854775808 ≤ y ∧ y ≤ 9223372036854775807) (hw : Wt w) :
    Calls Tryd.prog 3 #[.int .u8 a, .int .u8 b, .int .i64 x, .int .i64 y] w fun e w' => e = .returned (.bool true) ∧ Below w.heap.size w w' := by
  have A0 := Lib.hid (tawake8_any w hw)
  have HW := Lib.hid hw
  obtain ⟨ca, hca⟩ : ∃ c, a % 17 = c := ⟨_, rfl⟩
  obtain ⟨cb, hcb⟩ : ∃ c, b % 17 = c := ⟨_, rfl⟩
  have a0 : 0 ≤ ca := by omega
  have a1 : ca < 17 := by omega
  have b0 : 0 ≤ cb := by omega
  have b1 : cb < 17 := by omega
  have hrun := fun W : World => all_index (P := Tryd.prog) W 9 .i64 ca cb (by kernel_rfl) ⟨a0, a1⟩ ⟨b0, b1⟩
  have KK := fun (W : World) (hW : RowsAt W) => kind_any ca cb W (by omega) (by omega) hW
  obtain ⟨k, hk⟩ : ∃ k, kdF ca cb = k := ⟨_, rfl⟩
  rw [hk] at hrun KK
  have RR := fun W : World => rowsL_any W
  obtain ⟨S, hS⟩ : ∃ S, allB = S := ⟨_, rfl⟩
  rw [hS] at hrun RR
  have KK := Lib.hid KK
  have RR := Lib.hid RR
  have HX := Lib.hid hx
  have HY := Lib.hid hy
  have k0 : (k != k) = false := by simp
  clear hw hk hS
  go_enter Tryd.func3, Tryd.ntmps3
  go_wp2_with fail
  refine A0.out.mono ?_
  rintro e w1 ⟨rfl, hb1⟩
  have HW1 := Lib.hid (HW.out.below hb1)
  have hs1 := hb1.size
  go_wp2_with fail
  refine (KK.out _ HW1.out.ro).mono ?_
  rintro e w' ⟨rfl, h⟩
  subst h
  go_wp2_with fail
  refine (RR.out _).mono ?_
  rintro e w2 ⟨rfl, h⟩
  subst h
  go_wp2_with fail
  obtain ⟨W3, hW3⟩ : ∃ W3, W3 = w2.alloc (.cells #[.int .i64 x, .int .i64 cb, .int .i64 ca, .int .i64 y, .int .i64 x, .int .i64 y] 26) := ⟨_, rfl⟩
  obtain ⟨g, hg⟩ : ∃ g, g = w2.heap.size := ⟨_, rfl⟩
  rw [← hW3, ← hg]
  have hnw : W3.heap[g]? = some (.cells #[.int .i64 x, .int .i64 cb, .int .i64 ca, .int .i64 y, .int .i64 x, .int .i64 y] 26 (0, 0)) := by rw [hW3, hg]; exact heap_alloc_new w2 _
  have hb23 : Below w2.heap.size w2 W3 := by rw [hW3]; exact (Below.refl _ _).alloc (Nat.le_refl _) _
  have hb3 := hb1.trans (hb23.mono hs1)
  have hs3 := hb3.size
  have hg3 : g < W3.heap.size := by rw [hW3, hg]; simp
  have HW3 := Lib.hid (HW1.out.below hb23)
  have hcells : ∀ k, k < 3 → ∃ p q : Int, W3.cell? ⟨g, k * 2, none⟩ = some (.int .i64 p) ∧ W3.cell? ⟨g, k * 2 + 1, none⟩ = some (.int .i64 q) ∧ (-9223372036854775808 ≤ p ∧ p ≤ 9223372036854775807) ∧ (-9223372036854775808 ≤ q ∧ q ≤ 9223372036854775807) := by
    intro k hk
    rw [cell_of_row _ _ _ _ _ _ hnw, cell_of_row _ _ _ _ _ _ hnw]
    match k, hk with
    | 0, _ => exact ⟨x, cb, rfl, rfl, HX.out, by omega⟩
    | 1, _ => exact ⟨ca, y, rfl, rfl, by omega, HY.out⟩
    | 2, _ => exact ⟨x, y, rfl, rfl, HX.out, HY.out⟩
  have HCS := Lib.hid hcells
  clear hW3 hg hnw hb23 hcells HW1 hb1 KK RR hrun hca hcb
  go_loopw [46] (fun i wr => ∃ I : Nat, I ≤ 3 ∧ i = .int .i64 I ∧ Below W3.heap.size W3 wr) (fun i _ => 3 - (intOf i).toNat)
  case atStart => exact ⟨0, by omega, rfl, Below.refl _ _⟩
  case round =>
    obtain ⟨I, hI, rfl, hbr⟩ := hrel
    by_cases hI3 : I = 3
    · subst hI3
      go_wp2
      go_ret
      exact ⟨rfl, hb3.trans (hbr.mono hs3)⟩
    have hI' : I < 3 := by omega
    have hI0 : (0 : Int) ≤ I := by omega
    have hI1 : (I : Int) < 3 := by omega
    obtain ⟨p, q, hp, hq, hpr, hqr⟩ := HCS.out I hI'
    have c1 := (hbr.cell (p := ⟨g, I * 2, none⟩) hg3).trans hp
    have c2 := (hbr.cell (p := ⟨g, I * 2 + 1, none⟩) hg3).trans hq
    have hsr := hbr.size
    have HWr := Lib.hid (HW3.out.below hbr)
    have HBN : ∀ o, Hid (Below W3.heap.size W3 (wr.alloc o)) := fun o => Lib.hid (hbr.trans (((Below.refl _ _).alloc (Nat.le_refl _) o).mono hsr))
    have KK : ∀ o, ¬ ((0 ≤ p ∧ p < 17) ∧ (0 ≤ q ∧ q < 17)) → Calls Tryd.prog 11 #[.int .i64 p, .int .i64 q] (wr.alloc o) fun e w' => e = .returned (.int .u8 82) ∧ w' = wr.alloc o := fun o hout => by
      rw [← kdF_out hout]
      exact kind_any p q _ hpr hqr (HWr.out.below ((Below.refl _ _).alloc (Nat.le_refl _) o)).ro
    have KK := Lib.hid KK
    clear hp hq
    by_cases t1 : p < 0
    · go_wp2_with fail
      refine (KK.out _ (by omega)).mono ?_
      rintro e w9 ⟨rfl, h⟩
      have HB9 : Hid (Below W3.heap.size W3 w9) := by rw [h]; exact HBN _
      clear h
      go_wp2
      go_roundw
      case rel => exact ⟨I + 1, by omega, by go_num, HB9.out⟩
      case measure => simp [intOf]; omega
    by_cases t2 : 16 < p
    · go_wp2_with fail
      refine (KK.out _ (by omega)).mono ?_
      rintro e w9 ⟨rfl, h⟩
      have HB9 : Hid (Below W3.heap.size W3 w9) := by rw [h]; exact HBN _
      clear h
      go_wp2
      go_roundw
      case rel => exact ⟨I + 1, by omega, by go_num, HB9.out⟩
      case measure => simp [intOf]; omega
    by_cases t3 : q < 0
    · go_wp2_with fail
      refine (KK.out _ (by omega)).mono ?_
      rintro e w9 ⟨rfl, h⟩
      have HB9 : Hid (Below W3.heap.size W3 w9) := by rw [h]; exact HBN _
      clear h
      go_wp2
      go_roundw
      case rel => exact ⟨I + 1, by omega, by go_num, HB9.out⟩
      case measure => simp [intOf]; omega
    by_cases t4 : 16 < q
    · go_wp2_with fail
      refine (KK.out _ (by omega)).mono ?_
      rintro e w9 ⟨rfl, h⟩
      have HB9 : Hid (Below W3.heap.size W3 w9) := by rw [h]; exact HBN _
      clear h
      go_wp2
      go_roundw
      case rel => exact ⟨I + 1, by omega, by go_num, HB9.out⟩
      case measure => simp [intOf]; omega
    go_wp2
    go_roundw
    case rel => exact ⟨I + 1, by omega, by go_num, (HBN _).out⟩
    case measure => simp [intOf]; omega
end Go.Proofs.YtgeecngpmcjdpaaDoor
