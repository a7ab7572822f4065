/- Layer 9: the law's upper, Rows, Letter. -/
import Derived.Test.YtgjmclbcmfkhdaaDoorVietN
namespace Go.Proofs.YtgjmclbcmfkhdaaDoor
set_option linter.unusedVariables false
set_option linter.unusedSimpArgs false
set_option linter.unnecessarySimpa false
open Go.RowKit
attribute [local go_sem] run_store_complex

set_option maxHeartbeats 800000 in
theorem lupper_any (s : Int) (w : World) (h0 : 0 ≤ s) (h1 : s ≤ 9223372036854775807) : Calls Tryd.prog 27 #[.int .i64 s] w fun e w' => e = .returned (.int .i64 (upI s)) ∧ w' = w := by
  by_cases h : s < 256
  · have h2 : IntKind.i64.wrap (s - 32) = s - 32 := by rw [IntKind.wrap_i64]; omega
    go_enter Tryd.func27, Tryd.ntmps27
    go_wp2
    go_ret
    exact ⟨ret_int (by unfold upI; split <;> omega), rfl⟩
  · have h2 : IntKind.i64.wrap (s - 1) = s - 1 := by rw [IntKind.wrap_i64]; omega
    go_enter Tryd.func27, Tryd.ntmps27
    go_wp2
    go_ret
    exact ⟨ret_int (by unfold upI; split <;> omega), rfl⟩

/-- the law's rows, as its slice holds them -/
def lawTab (p : Nat) : Array Value := ((List.range 14).flatMap fun R => [.int .i64 (vrow R).1, .int .i64 ((vrow R).2.1 : Int), .slice (some ⟨p + R, 0, none⟩) (vrow R).2.2.length (vrow R).2.2.length]).toArray
structure LawRows (W : World) (p : Nat) : Prop where
  tab : Held W (p + 14) (lawTab p) 64
  row : ∀ R, R < 14 → Held W (p + R) ((vrow R).2.2.map (Value.int .i64)).toArray 3
theorem LawRows.below {W W' : World} {p n : Nat} (h : LawRows W p) (hb : Below n W W') (hn : p + 14 < n) : LawRows W' p := ⟨h.tab.below hb hn, fun R hR => (h.row R hR).below hb (by omega)⟩

/-- the world behind the first n rows -/
def lawW (w : World) : Nat → World
  | 0 => w
  | n + 1 => (lawW w n).alloc (.cells ((vrow n).2.2.map (Value.int .i64)).toArray 3)
theorem lawW_size (w : World) : ∀ n, (lawW w n).heap.size = w.heap.size + n
  | 0 => rfl
  | n + 1 => by rw [lawW, World.size_alloc, lawW_size w n]; rfl
theorem lawW_below (w : World) : ∀ n, Below w.heap.size w (lawW w n)
  | 0 => Below.refl _ _
  | n + 1 => (lawW_below w n).alloc (by rw [lawW_size]; omega) _
theorem lawW_row (w : World) (R : Nat) : ∀ n, R < n → Held (lawW w n) (w.heap.size + R) ((vrow R).2.2.map (Value.int .i64)).toArray 3
  | 0, h => absurd h (by omega)
  | n + 1, h => by
    by_cases hn : R = n
    · subst hn
      have := Held.new (lawW w R) ((vrow R).2.2.map (Value.int .i64)).toArray 3
      rw [lawW_size] at this
      exact this
    · exact (lawW_row w R n (by omega)).alloc _
theorem lawRows_of {w W : World} (h : W = (lawW w 14).alloc (.cells (lawTab w.heap.size) 64)) : LawRows W w.heap.size ∧ Below w.heap.size w W := by
  subst h
  refine ⟨⟨?_, fun R hR => (lawW_row w R 14 hR).alloc _⟩, (lawW_below w 14).alloc (by rw [lawW_size]; omega) _⟩
  have := Held.new (lawW w 14) (lawTab w.heap.size) 64
  rw [lawW_size] at this
  exact this

set_option maxHeartbeats 3200000 in
theorem lrows_any (w : World) : Calls Tryd.prog 26 #[] w fun e w' => e = .returned (.slice (some ⟨w.heap.size + 14, 0, none⟩) 14 14) ∧ LawRows w' w.heap.size ∧ Below w.heap.size w w' := by
  go_enter Tryd.func26, Tryd.ntmps26
  go_wp2
  go_ret
  exact ⟨by kernel_rfl, lawRows_of (by kernel_rfl)⟩
end Go.Proofs.YtgjmclbcmfkhdaaDoor
