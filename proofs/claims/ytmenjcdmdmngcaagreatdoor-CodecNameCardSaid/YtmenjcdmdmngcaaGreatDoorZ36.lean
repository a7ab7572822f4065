/- Texts of this seat, one behind the other: CdB. -/
import Derived.Test.YtmenjcdmdmngcaaGreatDoorZ35
import Derived.Lib.ConvBytes
import Derived.Laws.BytesArg
namespace Go.Proofs.YtmenjcdmdmngcaaGreatDoor
set_option linter.unusedVariables false
set_option linter.unusedSimpArgs false
set_option linter.unnecessarySimpa false
open Go.RowKit
/-- block g holds n bytes, f j at j -/
def Bx (w : World) (g n : Nat) (f : Nat → Int) : Prop := ∃ (arr : Array Value) (fz : Nat), w.heap[g]? = some (.cells arr 5 (fz, fz + 1)) ∧ arr.size = fz ∧ n ≤ fz ∧ ∀ j, j < n → arr[j]? = some (.int .u8 (f j))
theorem Bx.cell {w : World} {g n : Nat} {f : Nat → Int} (h : Bx w g n f) {j : Nat} (hj : j < n) : w.cell? ⟨g, j, none⟩ = some (.int .u8 (f j)) := by
  obtain ⟨arr, fz, h1, h2, h3, h4⟩ := h
  rw [cell_of_row w g j arr _ _ h1]
  exact h4 j hj
theorem Bx.frozen {w : World} {g n : Nat} {f : Nat → Int} (h : Bx w g n f) {j : Nat} (hj : j < n) : w.frozen? ⟨g, j, none⟩ = false := by
  obtain ⟨arr, fz, h1, h2, h3, h4⟩ := h
  unfold World.frozen?
  simp only [h1]
  simp; omega
theorem Bx.lt {w : World} {g n : Nat} {f : Nat → Int} (h : Bx w g n f) : g < w.heap.size := by
  obtain ⟨arr, fz, h1, _⟩ := h
  exact (Array.getElem?_eq_some_iff.1 h1).1
theorem Bx.congr {w : World} {g n : Nat} {f f' : Nat → Int} (h : Bx w g n f) (he : ∀ j, j < n → f j = f' j) : Bx w g n f' := by
  obtain ⟨arr, fz, h1, h2, h3, h4⟩ := h
  exact ⟨arr, fz, h1, h2, h3, fun j hj => by rw [← he j hj]; exact h4 j hj⟩
theorem Bx.set {w : World} {g n : Nat} {f f' : Nat → Int} (h : Bx w g n f) {K : Nat} (hK : K < n) {v : Int} (he : ∀ j, j < n → f' j = if j = K then v else f j) : Bx (w.setCell ⟨g, K, none⟩ (.int .u8 v)) g n f' := by
  obtain ⟨arr, fz, h1, h2, h3, h4⟩ := h
  refine ⟨arr.setIfInBounds K (.int .u8 v), fz, by simp [World.setCell, Array.getElem?_modify, h1], by simpa using h2, h3, fun j hj => ?_⟩
  rw [he j hj, Array.getElem?_setIfInBounds]
  by_cases e : K = j
  · subst e
    rw [if_pos rfl, if_pos (by omega), if_pos rfl]
  · rw [if_neg e, if_neg (fun h => e h.symm)]
    exact h4 j hj
def byB (s : ByteArray) (j : Nat) : Int := ((s.data.toList.getD j 0).toNat : Int)
theorem Bx.new (w : World) (s : ByteArray) : Bx (Lib.bytesWorld w 5 s) w.heap.size s.size (byB s) := by
  refine ⟨_, _, Lib.bytesWorld_at_new w 5 s, rfl, ?_, ?_⟩
  · simp [Lib.bytesCells]
  · intro j hj
    have h1 : j < s.data.toList.length := by simpa using hj
    simp only [Lib.bytesCells]
    rw [Array.getElem?_append_left (by simpa using hj), Array.getElem?_map]
    have h2 : s.data[j]? = some (s.data.toList.getD j 0) := by
      rw [List.getD_eq_getElem?_getD, List.getElem?_eq_getElem h1]
      simp
    rw [h2]; rfl
theorem below_bytes (w : World) (s : ByteArray) : Below w.heap.size w (Lib.bytesWorld w 5 s) :=
  ⟨rfl, rfl, rfl, by rw [Lib.bytesWorld_size]; omega, fun k hk => Lib.bytesWorld_at_old w _ s k hk⟩
/-- a letter made great, if so told -/
def upG (u : Bool) (b : Int) : Int := if u = true ∧ 97 ≤ b ∧ b ≤ 122 then b - 32 else b
theorem low_up (u : Bool) (m : Nat) (h : m < 256) (h2 : ¬ (65 ≤ m ∧ m ≤ 90)) : lowC (UInt8.ofNat (upG u (m : Int)).toNat) = UInt8.ofNat m := by
  have h3 := List.all_eq_true.1 (show ((List.range 256).all fun m => [true, false].all fun u => decide ((65 ≤ m ∧ m ≤ 90) ∨ lowC (UInt8.ofNat (upG u (m : Int)).toNat) = UInt8.ofNat m)) = true by decide +kernel) m (List.mem_range.2 h)
  have h4 := of_decide_eq_true (List.all_eq_true.1 h3 u (by cases u <;> simp))
  rcases h4 with h4 | h4
  · exact absurd h4 h2
  · exact h4
theorem asc_up (u : Bool) (m : Nat) (h : m < 128) : UInt8.ofNat (upG u (m : Int)).toNat < 128 := by
  have h3 := List.all_eq_true.1 (show ((List.range 128).all fun m => [true, false].all fun u => decide (UInt8.ofNat (upG u (m : Int)).toNat < 128)) = true by decide +kernel) m (List.mem_range.2 h)
  exact of_decide_eq_true (List.all_eq_true.1 h3 u (by cases u <;> simp))
/-- small letters, digits and the like -/
def smallB (s : ByteArray) : Bool := s.data.toList.all fun c => decide (c.toNat < 128 ∧ ¬ (65 ≤ c.toNat ∧ c.toNat ≤ 90))
def upX (ups : List Bool) (s : ByteArray) : List Int := (List.range s.size).map fun j => upG (ups.getD j false) (byB s j)
theorem upX_at (ups : List Bool) (s : ByteArray) (i : Nat) (h : i < s.size) : (upX ups s).getD i 0 = upG (ups.getD i false) (byB s i) := by
  unfold upX
  rw [List.getD_eq_getElem?_getD, List.getElem?_map, List.getElem?_range h]; rfl
theorem up_byte (s : ByteArray) (hs : smallB s = true) (ups : List Bool) (j : Nat) (hj : j < s.size) : lowC (UInt8.ofNat (upG (ups.getD j false) (byB s j)).toNat) = s.data.toList.getD j 0 ∧ UInt8.ofNat (upG (ups.getD j false) (byB s j)).toNat < 128 := by
  have h1 : j < s.data.toList.length := by simpa using hj
  have hm : s.data.toList.getD j 0 ∈ s.data.toList := by rw [List.getD_eq_getElem?_getD, List.getElem?_eq_getElem h1]; exact List.getElem_mem h1
  obtain ⟨h2, h3⟩ := of_decide_eq_true (List.all_eq_true.1 hs _ hm)
  unfold byB
  exact ⟨(low_up _ _ (by omega) h3).trans (by simp), asc_up _ _ h2⟩
theorem up_low (s : ByteArray) (hs : smallB s = true) (ups : List Bool) : lowB (strOfNums (upX ups s)) = s := by
  apply ByteArray.ext
  apply Array.toList_inj.1
  show (((strOfNums (upX ups s)).data.toList.map lowC).toArray).toList = _
  rw [strOfNums_data]
  unfold upX
  rw [List.map_map, List.map_map]
  apply List.ext_getElem
  · simp
  · intro j h1 h2
    have hj : j < s.size := by simpa using h1
    have := (up_byte s hs ups j hj).1
    simp only [List.getElem_map, List.getElem_range, Function.comp]
    rw [this, List.getD_eq_getElem?_getD, List.getElem?_eq_getElem h2]; rfl
theorem up_asc (s : ByteArray) (hs : smallB s = true) (ups : List Bool) : isAscii (strOfNums (upX ups s)) = true := by
  unfold isAscii
  rw [strOfNums_data]
  unfold upX
  rw [List.map_map, List.all_eq_true]
  intro c hc
  obtain ⟨j, hj, rfl⟩ := List.mem_map.1 hc
  exact decide_eq_true (up_byte s hs ups j (List.mem_range.1 hj)).2
end Go.Proofs.YtmenjcdmdmngcaaGreatDoor
