/- Layer 11: the contract of the law's Table. -/
import Derived.Test.YtlcplpjfkfnffaaDoorVisM
import Derived.Test.YtlcplpjfkfnffaaDoorIntR
namespace Go.Proofs.YtlcplpjfkfnffaaDoor
set_option linter.unusedVariables false
set_option linter.unusedSimpArgs false
set_option linter.unnecessarySimpa false
open Go.RowKit
def natL (n : Nat) : List Int := (List.range n).map fun k : Nat => (k : Int)
theorem natL_len (n : Nat) : (natL n).length = n := by simp [natL]
theorem natL_succ (n : Nat) : natL (n + 1) = natL n ++ [(n : Int)] := by simp [natL, List.range_succ]
def lowV : List Int := (((((natL 128).set 2 0x1eb2).set 5 0x1eb4).set 6 0x1eaa).set 20 0x1ef6).set 25 0x1ef8 |>.set 30 0x1ef4
theorem lowV_is : lowV ++ (hiVL.take 32) ++ ((hiVL.drop 32).take 32) ++ ((hiVL.drop 64).take 32) ++ (hiVL.drop 96) = visL := by decide +kernel
theorem lowV_len : lowV.length = 128 := by simp [lowV, natL]
theorem lowV_set {w : World} {base g n c : Nat} (h : IR w base (.slice (some ⟨g, 0, none⟩) n c) (natL 128)) : IR ((((((w.setCell ⟨g, 2, none⟩ (.int .i64 0x1eb2)).setCell ⟨g, 5, none⟩ (.int .i64 0x1eb4)).setCell ⟨g, 6, none⟩ (.int .i64 0x1eaa)).setCell ⟨g, 20, none⟩ (.int .i64 0x1ef6)).setCell ⟨g, 25, none⟩ (.int .i64 0x1ef8)).setCell ⟨g, 30, none⟩ (.int .i64 0x1ef4)) base (.slice (some ⟨g, 0, none⟩) n c) lowV :=
  (((((h.set 2 0x1eb2).set 5 0x1eb4).set 6 0x1eaa).set 20 0x1ef6).set 25 0x1ef8).set 30 0x1ef4

set_option maxRecDepth 100000 in
set_option maxHeartbeats 1600000 in
theorem vtab_any (w : World) :
    Calls Tryd.prog 11 #[] w fun e w' => ∃ v, e = .returned v ∧ IR w' w.heap.size v visL ∧ Below w.heap.size w w' := by
  go_enter Tryd.func11, Tryd.ntmps11
  go_wp2_with fail
  go_loopw [1, 2] (fun v i wr => ∃ K : Nat, K ≤ 128 ∧ i = .int .i64 K ∧ Hid (IR wr w.heap.size v (natL K)) ∧ Below w.heap.size w wr) (fun _ i _ => 128 - (intOf i).toNat)
  case atStart => exact ⟨0, by omega, rfl, IR.nil _ _, Below.refl _ _⟩
  case round =>
    obtain ⟨K, hK, rfl, ho, hb⟩ := hrel
    by_cases hKn : K = 128
    · subst hKn
      obtain ⟨g, c, rfl, hg1, hg2⟩ := ho.out.formG (by rw [natL_len]; omega)
      rw [natL_len] at ho ⊢
      have c2 := ho.out.cellAt 2 (by rw [natL_len]; omega)
      have c5 := ho.out.cellAt 5 (by rw [natL_len]; omega)
      have c6 := ho.out.cellAt 6 (by rw [natL_len]; omega)
      have c20 := ho.out.cellAt 20 (by rw [natL_len]; omega)
      have c25 := ho.out.cellAt 25 (by rw [natL_len]; omega)
      have c30 := ho.out.cellAt 30 (by rw [natL_len]; omega)
      have f2 := ho.out.frozenAt 2
      have f5 := ho.out.frozenAt 5
      have f6 := ho.out.frozenAt 6
      have f20 := ho.out.frozenAt 20
      have f25 := ho.out.frozenAt 25
      have f30 := ho.out.frozenAt 30
      have HI := Lib.hid (lowV_set ho.out)
      have HB := Lib.hid ((((((hb.setCell (p := ⟨g, 2, none⟩) hg1 (.int .i64 0x1eb2)).setCell (p := ⟨g, 5, none⟩) hg1 (.int .i64 0x1eb4)).setCell (p := ⟨g, 6, none⟩) hg1 (.int .i64 0x1eaa)).setCell (p := ⟨g, 20, none⟩) hg1 (.int .i64 0x1ef6)).setCell (p := ⟨g, 25, none⟩) hg1 (.int .i64 0x1ef8)).setCell (p := ⟨g, 30, none⟩) hg1 (.int .i64 0x1ef4))
      have hz := hb.size
      clear ho hb
      go_wp2_with (at_builtin; refine wpList_appIL rfl _ _ rfl w.heap.size (.slice (some ⟨g, 0, none⟩) 128 c) lowV (hiVL.take 32) rfl HI.out wr.heap.size 32 32 rfl ?s1 ?s2 ?s3 ?s4 ?s5 ?_)
      case s1 => simp
      case s2 => kernel_rfl
      case s3 => kernel_rfl
      case s4 => rw [lowV_len, List.length_take, hiVL_len]; decide
      case s5 => simpa using hz
      intro v1 w1 HI1 HG1
      have HB1 := Lib.hid (IR.keepsB HB.out HG1.out HI.out (Nat.le_refl _) (by simpa using hz))
      have hz1 := HB1.out.size
      clear HI HB HG1 c2 c5 c6 c20 c25 c30 f2 f5 f6 f20 f25 f30
      obtain ⟨z1, he1⟩ : ∃ z, lowV ++ hiVL.take 32 = z := ⟨_, rfl⟩
      rw [he1] at HI1
      have HE1 := Lib.hid he1
      have hl1 : Hid (z1.length ≤ 256) := by rw [← he1, List.length_append, lowV_len, List.length_take, hiVL_len]; exact Lib.hid (by decide)
      clear he1
      go_wp2_with (at_builtin; refine wpList_appIL rfl _ _ rfl w.heap.size v1 z1 ((hiVL.drop 32).take 32) rfl HI1.out w1.heap.size 32 32 rfl rfl ?s2 ?s3 ?s4 hz1 ?_)
      case s2 => kernel_rfl
      case s3 => kernel_rfl
      case s4 => have := hl1.out; rw [List.length_take, List.length_drop, hiVL_len]; omega
      intro v2 w2 HI2 HG2
      have HB2 := Lib.hid (IR.keepsB HB1.out HG2.out HI1.out (Nat.le_refl _) hz1)
      have hz2 := HB2.out.size
      clear HI1 HB1 HG2
      obtain ⟨z2, he2⟩ : ∃ z, z1 ++ (hiVL.drop 32).take 32 = z := ⟨_, rfl⟩
      rw [he2] at HI2
      have HE2 := Lib.hid he2
      have hl2 : Hid (z2.length ≤ 320) := Lib.hid (by have := hl1.out; rw [← he2, List.length_append, List.length_take, List.length_drop, hiVL_len]; omega)
      clear he2 hl1
      go_wp2_with (at_builtin; refine wpList_appIL rfl _ _ rfl w.heap.size v2 z2 ((hiVL.drop 64).take 32) rfl HI2.out w2.heap.size 32 32 rfl rfl ?s2 ?s3 ?s4 hz2 ?_)
      case s2 => kernel_rfl
      case s3 => kernel_rfl
      case s4 => have := hl2.out; rw [List.length_take, List.length_drop, hiVL_len]; omega
      intro v3 w3 HI3 HG3
      have HB3 := Lib.hid (IR.keepsB HB2.out HG3.out HI2.out (Nat.le_refl _) hz2)
      have hz3 := HB3.out.size
      clear HI2 HB2 HG3
      obtain ⟨z3, he3⟩ : ∃ z, z2 ++ (hiVL.drop 64).take 32 = z := ⟨_, rfl⟩
      rw [he3] at HI3
      have HE3 := Lib.hid he3
      have hl3 : Hid (z3.length ≤ 384) := Lib.hid (by have := hl2.out; rw [← he3, List.length_append, List.length_take, List.length_drop, hiVL_len]; omega)
      clear he3 hl2
      go_wp2_with (at_builtin; refine wpList_appIL rfl _ _ rfl w.heap.size v3 z3 (hiVL.drop 96) rfl HI3.out w3.heap.size 32 32 rfl rfl ?s2 ?s3 ?s4 hz3 ?_)
      case s2 => kernel_rfl
      case s3 => kernel_rfl
      case s4 => have := hl3.out; rw [List.length_drop, hiVL_len]; omega
      intro v4 w4 HI4 HG4
      have HB4 := Lib.hid (IR.keepsB HB3.out HG4.out HI3.out (Nat.le_refl _) hz3)
      have hz4 := HB4.out.size
      clear HI3 HB3 HG4
      go_wp2_with fail
      go_ret
      exact ⟨_, rfl, by have := HI4.out; rw [← HE3.out, ← HE2.out, ← HE1.out, lowV_is] at this; exact this, HB4.out⟩
    have hK' : K < 128 := by omega
    have k3 : (0 : Int) ≤ K := by omega
    have k4 : (K : Int) < 128 := by omega
    have HB := Lib.hid hb
    have hwr := hb.size
    have HS := Lib.hid (natL_succ K)
    have hl := natL_len K
    obtain ⟨acc, hacc⟩ : ∃ acc, natL K = acc := ⟨_, rfl⟩
    rw [hacc] at ho HS hl
    have HL := Lib.hid (show acc.length ≤ 17592186044415 by omega)
    obtain ⟨A3, c3, rfl, _⟩ := ho.out.form
    clear hacc hl hKn hb
    go_wp2_with (at_builtin; refine wpList_appI1 rfl _ _ rfl w.heap.size (.slice A3 acc.length c3) acc (K : Int) rfl ho.out wr.heap.size rfl rfl HL.out hwr ?_)
    intro v' w4 HI HG
    have HN : Hid (IR w4 w.heap.size v' (natL (K + 1))) := by rw [HS.out]; exact HI
    have HB2 := IR.keepsB HB.out HG.out ho.out (Nat.le_refl _) hwr
    clear HI HG
    go_wp2_with fail
    go_roundw
    case rel => exact ⟨K + 1, by omega, by go_num, HN, HB2⟩
    case measure => simp [intOf]; omega
/-- where a scalar lies in the law's table -/
theorem IR.vis {w : World} {base : Nat} {v : Value} (h : IR w base v visL) : ∃ g c, v = .slice (some ⟨g, 0, none⟩) 256 c ∧ base ≤ g ∧ g < w.heap.size ∧ ∀ k, k < 256 → w.cell? ⟨g, k, none⟩ = some (.int .i64 (vsD k)) := by
  obtain ⟨g, c, rfl, h1, h2⟩ := h.formG (by rw [visL_len]; decide)
  rw [visL_len] at h ⊢
  exact ⟨g, c, rfl, h1, h2, fun k hk => h.cellAt k (by rw [visL_len]; exact hk)⟩
end Go.Proofs.YtlcplpjfkfnffaaDoor
