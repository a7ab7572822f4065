/- Texts of this seat, one behind the other: VnA. -/
import Derived.Test.YtncpokioagpclaaGreatDoorZ6
import Derived.Test.YtncpokioagpclaaGreatDoorZ15
import Derived.Test.YtncpokioagpclaaGreatDoorZ9
import Derived.Test.YtncpokioagpclaaGreatDoorZ12
namespace Go.Proofs.YtncpokioagpclaaGreatDoor
set_option linter.unusedVariables false
set_option linter.unusedSimpArgs false
set_option linter.unnecessarySimpa false
open Go.RowKit Go.Shelf
attribute [local go_sem] run_store_complex

/-- the table of signs, as memory holds it -/
def vnSgC : Array Value := (vnSg.map (Value.int .u8)).toArray
def SigN (w : World) : Prop := w.var? Tryz.prog "lontar/vni.signs" = some vnSgC
theorem SigN.block {w : World} (h : SigN w) : ∃ t fr, w.heap[4]? = some (.cells vnSgC t fr) := by
  have hg : Tryz.prog.globalNamed "lontar/vni.signs" = some 4 := by kernel_rfl
  unfold SigN World.var? at h
  rw [hg] at h
  simp only [Option.bind_some] at h
  split at h
  · rename_i cs t fr hb
    injection h with h
    subst h
    exact ⟨t, fr, hb⟩
  · cases h
theorem SigN.of {w w' : World} (h : SigN w) (hb : w'.heap[4]? = w.heap[4]?) : SigN w' := by
  have hg : Tryz.prog.globalNamed "lontar/vni.signs" = some 4 := by kernel_rfl
  unfold SigN World.var? at *
  rw [hg] at h ⊢
  simp only [Option.bind_some, hb] at *
  exact h
theorem SigN.lt {w : World} (h : SigN w) : 4 < w.heap.size := by
  obtain ⟨t, fr, hb⟩ := h.block
  exact (Array.getElem?_eq_some_iff.1 hb).1
theorem SigN.below {w w' : World} (h : SigN w) (hb : Below w.heap.size w w') : SigN w' := h.of (hb.block _ h.lt)
theorem vnSgC_at (M T : Nat) (hM : M ≤ 3) (hT : T ≤ 5) : vnSgC[M * 6 + T]? = some (.int .u8 (vnSg.getD (M * 6 + T) 0)) := by
  have := all_range (show (List.range 24).all (fun j => decide (vnSg[j]? = some (vnSg.getD j 0))) = true by decide +kernel) (M * 6 + T) (by omega)
  have := of_decide_eq_true this
  unfold vnSgC
  rw [List.getElem?_toArray, List.getElem?_map, this]
  rfl
theorem SigN.cell {w : World} (h : SigN w) (M T : Nat) (hM : M ≤ 3) (hT : T ≤ 5) : w.cell? ⟨4, M * 6 + T, none⟩ = some (.int .u8 (vnSg.getD (M * 6 + T) 0)) := by
  obtain ⟨t, fr, hb⟩ := h.block
  rw [cell_of_row w _ _ _ t _ hb]
  exact vnSgC_at M T hM hT
/-- both tables -/
structure TabN (w : World) : Prop where
  rows : RowsV w
  sigs : SigN w
theorem TabN.below {w w' : World} (h : TabN w) (hb : Below w.heap.size w w') : TabN w' := ⟨h.rows.below hb, h.sigs.below hb⟩
theorem flInt (a : Nat) (h : a < 6) : floatToIntVal .f64 (fl a) .i64 = some (a : Int) := by
  have := all_range (show (List.range 6).all (fun a => decide (floatToIntVal .f64 (fl a) .i64 = some (a : Int))) = true by decide +kernel) a h
  exact of_decide_eq_true this
theorem ord_eqN (a b : Nat) : (FloatKind.f64.format.order a b == some .eq) = feq a b := rfl

theorem vnwhole_any (s : Int) (w : World) : Calls Tryz.prog 149 #[.int .i64 s] w fun e w' => e = .returned (.int .i64 (vnW s)) ∧ w' = w := by
  have hv := vnW_range s
  obtain ⟨v, hv⟩ : ∃ v, vnW s = v := ⟨_, rfl⟩
  rw [hv]
  unfold vnW at hv
  by_cases h0 : s = 236
  · subst h0; rw [if_pos rfl] at hv; subst hv; go_enter Tryz.func149, Tryz.ntmps149; go_wp2; go_ret; exact ⟨rfl, rfl⟩
  rw [if_neg h0] at hv
  have q0 : (s == 236) = false := by simpa using h0
  by_cases h1 : s = 237
  · subst h1; rw [if_pos rfl] at hv; subst hv; go_enter Tryz.func149, Tryz.ntmps149; go_wp2; go_ret; exact ⟨rfl, rfl⟩
  rw [if_neg h1] at hv
  have q1 : (s == 237) = false := by simpa using h1
  by_cases h2 : s = 7881
  · subst h2; rw [if_pos rfl] at hv; subst hv; go_enter Tryz.func149, Tryz.ntmps149; go_wp2; go_ret; exact ⟨rfl, rfl⟩
  rw [if_neg h2] at hv
  have q2 : (s == 7881) = false := by simpa using h2
  by_cases h3 : s = 297
  · subst h3; rw [if_pos rfl] at hv; subst hv; go_enter Tryz.func149, Tryz.ntmps149; go_wp2; go_ret; exact ⟨rfl, rfl⟩
  rw [if_neg h3] at hv
  have q3 : (s == 297) = false := by simpa using h3
  by_cases h4 : s = 7883
  · subst h4; rw [if_pos rfl] at hv; subst hv; go_enter Tryz.func149, Tryz.ntmps149; go_wp2; go_ret; exact ⟨rfl, rfl⟩
  rw [if_neg h4] at hv
  have q4 : (s == 7883) = false := by simpa using h4
  by_cases h5 : s = 7925
  · subst h5; rw [if_pos rfl] at hv; subst hv; go_enter Tryz.func149, Tryz.ntmps149; go_wp2; go_ret; exact ⟨rfl, rfl⟩
  rw [if_neg h5] at hv
  have q5 : (s == 7925) = false := by simpa using h5
  by_cases h6 : s = 273
  · subst h6; rw [if_pos rfl] at hv; subst hv; go_enter Tryz.func149, Tryz.ntmps149; go_wp2; go_ret; exact ⟨rfl, rfl⟩
  rw [if_neg h6] at hv
  have q6 : (s == 273) = false := by simpa using h6
  subst hv
  go_enter Tryz.func149, Tryz.ntmps149
  go_wp2
  go_ret
  exact ⟨rfl, rfl⟩

theorem vnbase_any (k : Nat) (hk : k < 74) (w : World) :
    Calls Tryz.prog 150 #[.agg (letV k)] w fun e w' => e = .returned (.int .i64 (vnB k)) ∧ Below w.heap.size w w' := by
  have hls := letter_small k (by omega)
  have hv : letV k = #[.int .i64 (LB k), .complex .f64 (fl (LM k)) (fl (LT k))] := rfl
  have h3 : (FloatKind.f64.format.order (fl (LM k)) 4613937818241073152 == some .eq) = (LM k == 3) := by
    rw [ord_eqN, show (4613937818241073152 : Nat) = fl 3 by decide +kernel]; exact feq_fl _ _ (by omega) (by omega)
  obtain ⟨b, hb⟩ : ∃ b, vnB k = b := ⟨_, rfl⟩
  have hb' := hb
  unfold vnB at hb'
  rw [hv, hb]
  obtain ⟨bx, hbx⟩ : ∃ v, LB k = v := ⟨_, rfl⟩
  obtain ⟨rx, hrx⟩ : ∃ v, fl (LM k) = v := ⟨_, rfl⟩
  obtain ⟨ix, hix⟩ : ∃ v, fl (LT k) = v := ⟨_, rfl⟩
  obtain ⟨M, hM⟩ : ∃ v, LM k = v := ⟨_, rfl⟩
  rw [hrx, hM] at h3
  rw [hM, hbx] at hb'
  rw [hbx, hrx, hix]
  clear hv hbx hrx hix hls hM hb
  by_cases e3 : M = 3
  · rw [if_pos e3] at hb'
    have h3' : (FloatKind.f64.format.order rx 4613937818241073152 != some .eq) = false := by rw [bne, h3, e3]; rfl
    clear h3
    by_cases e4 : bx = 111
    · rw [if_pos e4] at hb'
      subst e4 hb' e3
      go_enter Tryz.func150, Tryz.ntmps150
      go_wp2
      go_ret
      exact ⟨rfl, (Below.refl _ w).alloc (Nat.le_refl _) _⟩
    · rw [if_neg e4] at hb'
      have q4 : (bx == 111) = false := by simpa using e4
      subst hb' e3
      go_enter Tryz.func150, Tryz.ntmps150
      go_wp2
      go_ret
      exact ⟨rfl, (Below.refl _ w).alloc (Nat.le_refl _) _⟩
  · rw [if_neg e3] at hb'
    have h3' : (FloatKind.f64.format.order rx 4613937818241073152 != some .eq) = true := by rw [bne, h3]; simpa using e3
    clear h3
    subst hb'
    go_enter Tryz.func150, Tryz.ntmps150
    go_wp2
    go_ret
    exact ⟨rfl, (Below.refl _ w).alloc (Nat.le_refl _) _⟩
end Go.Proofs.YtncpokioagpclaaGreatDoor
