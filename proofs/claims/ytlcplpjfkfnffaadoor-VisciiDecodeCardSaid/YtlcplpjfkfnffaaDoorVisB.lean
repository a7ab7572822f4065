/- Layer 11: the contract of Rules; Below keeps the table. -/
import Derived.Test.YtlcplpjfkfnffaaDoorVisA
import Derived.Test.YtlcplpjfkfnffaaDoorRowPush
import Derived.Test.YtlcplpjfkfnffaaDoorGlob
namespace Go.Proofs.YtlcplpjfkfnffaaDoor
set_option linter.unusedVariables false
set_option linter.unusedSimpArgs false
set_option linter.unnecessarySimpa false
open Go.RowKit
theorem HvAt.stay {w w' : World} (h : HvAt w) (hb : Stay 0 w w') : HvAt w' := tab_block h (by kernel_rfl) hb
theorem HvAt.lt {w : World} (h : HvAt w) : 0 < w.heap.size := World.block_lt_of_cell? w _ (h.cell 0 (by decide))
theorem HvAt.below {w w' : World} (h : HvAt w) (hb : Below w.heap.size w w') : HvAt w' := h.stay (hb.block _ h.lt)
theorem HvAt.belowB {w w' : World} {B : Nat} (h : HvAt w) (hg : 0 < B) (hb : Below B w w') : HvAt w' := h.stay (hb.block _ hg)
/-- the rules of the first n bytes -/
def vsR (n : Nat) : List Rl := (List.range n).map fun k : Nat => ([(k : Int)], [vsD k])
theorem vsR_len (n : Nat) : (vsR n).length = n := by simp [vsR]
theorem vsR_succ (n : Nat) : vsR (n + 1) = vsR n ++ [([(n : Int)], [vsD n])] := by simp [vsR, List.range_succ]

set_option maxRecDepth 100000 in
set_option maxHeartbeats 1600000 in
theorem vrules_any (w : World) (hh : HvAt w) :
    Calls Tryd.prog 13 #[] w fun e w' => ∃ v, e = .returned v ∧ OwnRs w.heap.size w' v (vsR 256) ∧ Below w.heap.size w w' := by
  have HH := Lib.hid hh
  have hlt := hh.lt
  clear hh
  go_enter Tryd.func13, Tryd.ntmps13
  go_wp2_with fail
  go_loopw [1, 3] (fun v i wr => ∃ K : Nat, K ≤ 256 ∧ i = .int .i64 K ∧ Hid (OwnRs w.heap.size wr v (vsR K)) ∧ Below w.heap.size w wr) (fun _ i _ => 256 - (intOf i).toNat)
  case atStart => exact ⟨0, by omega, rfl, OwnRs.nil _ _, Below.refl _ _⟩
  case round =>
    obtain ⟨K, hK, rfl, ho, hb⟩ := hrel
    by_cases hKn : K = 256
    · subst hKn
      go_wp2_with fail
      go_ret
      exact ⟨_, rfl, ho.out, hb⟩
    have hK' : K < 256 := by omega
    have k3 : (0 : Int) ≤ K := by omega
    have k4 : (K : Int) < 256 := by omega
    have k5 : IntKind.u8.wrap (K : Int) = K := by rw [IntKind.wrap_u8]; omega
    have k6 : (K : Int) % 256 = K := by omega
    have hwr := hb.size
    have D1 := Lib.hid (vdec_any K (wr.alloc (.cells #[.int .i64 (K : Int)] 3)) hK' ((HH.out.belowB hlt hb).below ((Below.refl _ wr).alloc (Nat.le_refl _) _)))
    have HS := Lib.hid (vsR_succ K)
    have HB := Lib.hid hb
    obtain ⟨acc, hacc⟩ : ∃ acc, vsR K = acc := ⟨_, rfl⟩
    have hal := vsR_len K
    obtain ⟨d, hd⟩ : ∃ d, vsD K = d := ⟨_, rfl⟩
    rw [hacc] at ho HS hal
    rw [hd] at D1 HS
    have HO := ho.out.form
    obtain ⟨A3, c3, rfl, _⟩ := HO
    have HAL := Lib.hid (show acc.length ≤ 1048576 by omega)
    clear hacc hd hal hKn hb
    go_wp2_with (first | (go_at_call 10; refine D1.out.mono ?_; rintro e w' ⟨rfl, rfl⟩) | (at_builtin; refine wpList_appRl rfl _ _ rfl w.heap.size (.slice A3 acc.length c3) acc (K : Int) d rfl ho.out rfl HAL.out hwr ?_))
    intro v' w4 HN HBB
    have HB4 := HBB.out w.heap.size w (Nat.le_refl _) HB.out
    have HN2 : Hid (OwnRs w.heap.size w4 v' (vsR (K + 1))) := by rw [HS.out]; exact HN
    clear HN
    go_wp2_with fail
    go_roundw
    case rel => exact ⟨K + 1, by omega, by go_num, HN2, HB4⟩
    case measure => simp [intOf]; omega
end Go.Proofs.YtlcplpjfkfnffaaDoor
