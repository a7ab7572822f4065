/- Layer 8: a Checker's block; Of, Bad, Put. -/
import Derived.Test.YtgeecngpmcjdpaaDoorWttB
import Derived.Test.YtgeecngpmcjdpaaDoorWttN
namespace Go.Proofs.YtgeecngpmcjdpaaDoor
set_option linter.unusedVariables false
open Go.RowKit

def ChkB (l x r : Int) (g : Bool) : Obj := .cells #[.int .i64 l, .int .u8 x, .int .i64 r, .bool g] 49 (0, 0)
theorem ChkB.cells {w : World} {p : Nat} {l x r : Int} {g : Bool} (hp : w.heap[p]? = some (ChkB l x r g)) : w.cell? ⟨p, 0, none⟩ = some (.int .i64 l) ∧ w.cell? ⟨p, 1, none⟩ = some (.int .u8 x) ∧ w.cell? ⟨p, 2, none⟩ = some (.int .i64 r) ∧ w.cell? ⟨p, 3, none⟩ = some (.bool g) ∧ ∀ o, w.frozen? ⟨p, o, none⟩ = false := by
  refine ⟨?_, ?_, ?_, ?_, fun o => frozen_of_row _ _ _ _ _ hp⟩ <;> (rw [cell_of_row _ _ _ _ _ _ hp]; rfl)
theorem blk_lt {w : World} {p : Nat} {o : Obj} (hp : w.heap[p]? = some o) : p < w.heap.size := by
  rcases Nat.lt_or_ge p w.heap.size with h | h
  · exact h
  · rw [Array.getElem?_eq_none h] at hp; cases hp
theorem grownB {w w' : World} {p : Option Nat} (h : Below w.heap.size w w') : w.grownBy w' p := ⟨h.os, h.tape, h.output, h.size, fun k hk _ => h.block k hk⟩
theorem grownS {w w' : World} {p : Nat} (h : w.grownBy w' (some p)) (j : Nat) (u : Value) : w.grownBy (w'.setCell ⟨p, j, none⟩ u) (some p) :=
  grown_seq h ⟨rfl, rfl, rfl, by simp, fun k _ hk => heap_setCell_other w' ⟨p, j, none⟩ k u (fun e => hk (by simp [e]))⟩

/-- a Checker of level l that has received xs -/
structure CkAt (w : World) (p : Nat) (l : Int) (xs : List Int) : Prop where
  ex : ∃ x r g, w.heap[p]? = some (ChkB l x r g) ∧ (0 ≤ x ∧ x ≤ 255) ∧
    (g = false ∧ chkF xs l = -1 ∧ r = xs.length ∧ (0 < xs.length → xs.getD (xs.length - 1) 0 = x) ∨ g = true ∧ chkF xs l = r ∧ 1 ≤ r)
theorem CkAt.lt {w : World} {p : Nat} {l : Int} {xs : List Int} (h : CkAt w p l xs) : p < w.heap.size := by obtain ⟨x, r, g, hp, _⟩ := h.ex; exact blk_lt hp
theorem CkAt.block {w w' : World} {p : Nat} {l : Int} {xs : List Int} (h : CkAt w p l xs) (hb : w'.heap[p]? = w.heap[p]?) : CkAt w' p l xs := by
  obtain ⟨x, r, g, hp, h'⟩ := h.ex
  exact ⟨x, r, g, hb.trans hp, h'⟩
theorem CkAt.below {w w' : World} {p B : Nat} {l : Int} {xs : List Int} (h : CkAt w p l xs) (hb : Below B w w') (hp : p < B) : CkAt w' p l xs := h.block (hb.block p hp)

theorem wof_any (l : Int) (w : World) : Calls Tryd.prog 17 #[.int .i64 l] w fun e w' => e = .returned (.pointer (some ⟨w.heap.size, 0, none⟩)) ∧ CkAt w' w.heap.size l [] ∧ Below w.heap.size w w' := by
  go_enter Tryd.func17, Tryd.ntmps17
  go_wp2
  go_ret
  exact ⟨rfl, ⟨0, 0, false, heap_alloc_new w _, by decide, .inl ⟨rfl, rfl, rfl, by simp⟩⟩, (Below.refl _ _).alloc (Nat.le_refl _) _⟩

theorem bad_any (p : Nat) (l : Int) (xs : List Int) (w : World) (h : CkAt w p l xs) (v : Int) (hv : chkF xs l = v) : Calls Tryd.prog 18 #[.pointer (some ⟨p, 0, none⟩)] w fun e w' => e = .returned (.int .i64 v) ∧ w' = w := by
  obtain ⟨x, r, g, hp, _, hs⟩ := h.ex
  obtain ⟨c0, c1, c2, c3, cf⟩ := ChkB.cells hp
  rcases hs with ⟨rfl, h1, h2, _⟩ | ⟨rfl, h1, h2⟩
  · have HE := Lib.hid (show v = -1 by omega)
    clear hp h h1 h2 hv
    go_enter Tryd.func18, Tryd.ntmps18
    go_wp2
    go_ret
    exact ⟨ret_int HE.out, rfl⟩
  · have HE := Lib.hid (show v = r by omega)
    clear hp h h1 h2 hv
    go_enter Tryd.func18, Tryd.ntmps18
    go_wp2
    go_ret
    exact ⟨ret_int HE.out, rfl⟩

def RetCk (w : World) (p : Nat) (l : Int) (ys : List Int) (e : Ending) (w' : World) : Prop := e = .returned (.bool (decide (chkF ys l < 0))) ∧ CkAt w' p l ys ∧ w.grownBy w' (some p)
theorem RetCk.of {w w' : World} {p : Nat} {l : Int} {ys : List Int} {b : Bool} (hb : decide (chkF ys l < 0) = b) (h : CkAt w' p l ys) (hg : w.grownBy w' (some p)) : RetCk w p l ys (.returned (.bool b)) w' := ⟨by rw [hb], h, hg⟩

theorem snoc_lt (xs : List Int) (c : Int) : (xs ++ [c]).getD ((xs ++ [c]).length - 1) 0 = c := by
  simp
theorem set_last {w : World} {p : Nat} {l x r : Int} {g : Bool} (hp : w.heap[p]? = some (ChkB l x r g)) (c r' : Int) : ((w.setCell ⟨p, 1, none⟩ (.int .u8 c)).setCell ⟨p, 2, none⟩ (.int .i64 r')).heap[p]? = some (ChkB l c r' g) :=
  heap_setCell_same _ p 2 _ _ _ (heap_setCell_same w p 1 _ _ _ hp)
theorem set_wrong {w : World} {p : Nat} {l x r : Int} {g : Bool} (hp : w.heap[p]? = some (ChkB l x r g)) (g' : Bool) : (w.setCell ⟨p, 3, none⟩ (.bool g')).heap[p]? = some (ChkB l x r g') :=
  heap_setCell_same w p 3 _ _ _ hp

set_option maxHeartbeats 1600000 in
theorem wput_any (p : Nat) (l : Int) (xs : List Int) (c : Int) (w : World) (h : CkAt w p l xs) (hw : Wt w) (hc : 0 ≤ c ∧ c ≤ 255) (hl : -9223372036854775808 ≤ l ∧ l ≤ 9223372036854775807) (hx : xs.length ≤ 4611686018427387904) :
    Calls Tryd.prog 19 #[.pointer (some ⟨p, 0, none⟩), .int .u8 c] w (RetCk w p l (xs ++ [c])) := by
  obtain ⟨x, r, g, hp, hxr, hs⟩ := h.ex
  have hlt := h.lt
  obtain ⟨c0, c1, c2, c3, cf⟩ := ChkB.cells hp
  rcases hs with ⟨rfl, h1, h2, h3⟩ | ⟨rfl, h1, h2⟩
  · obtain ⟨R, hR⟩ : ∃ R, R = xs.length := ⟨_, rfl⟩
    rw [← hR] at h2 h3 hx
    subst h2
    by_cases hR0 : R = 0
    · subst hR0
      have hx0 : xs = [] := List.eq_nil_of_length_eq_zero hR.symm
      have HCK := Lib.hid (show chkF (xs ++ [c]) l = -1 by rw [hx0]; exact chk_one c l)
      have HX := Lib.hid hx0
      have HP := Lib.hid hp
      have g1 : decide ((0 : Int) < ((0 : Nat) : Int)) = false := rfl
      clear h h1 h3 hR hx0 hp
      go_enter Tryd.func19, Tryd.ntmps19
      go_wp2_with fail
      go_quiet (fail)
      go_wp2
      go_ret
      refine RetCk.of (by rw [HCK.out]; rfl) ⟨c, 1, false, set_last HP.out _ _, hc, .inl ⟨rfl, HCK.out, by rw [HX.out]; rfl, fun _ => snoc_lt _ _⟩⟩ (grownS (grownS (grownB (below_drewN (Below.refl _ _) _)) _ _) _ _)
    · have hj : joinF xs [c] l = mayF x c l := by
        have hne : xs ≠ [] := by intro e; rw [e] at hR; exact hR0 hR
        unfold joinF; rw [← hR, h3 (by omega)]; simp [hne]
      have HR := Lib.hid hR
      obtain ⟨m, hm⟩ : ∃ m, mayF x c l = m := ⟨_, rfl⟩
      have HM := Lib.hid (show ∀ k, Calls Tryd.prog 13 #[.int .u8 x, .int .u8 c, .int .i64 l] (w.drewN k) fun e w' => e = .returned (.bool m) ∧ w' = w.drewN k from fun k => by rw [← hm]; exact may_any x c l _ hxr hc hl (hw.below (below_drewN (Below.refl _ _) k)))
      rw [hm] at hj
      have HP := Lib.hid hp
      have g1 : decide ((0 : Int) < (R : Int)) = true := by rw [decide_eq_true_iff]; omega
      have g0 : (0 : Int) ≤ R := by omega
      have g2 : decide (0 < R) = true := by rw [decide_eq_true_iff]; omega
      cases m with
      | true =>
        have HCK := Lib.hid (chk_snoc_good h1 hj)
        clear h h1 h3 hR hp hj hm hw
        go_enter Tryd.func19, Tryd.ntmps19
        go_wp2_with fail
        go_quiet ((go_at_call 13; exact Calls.quiet_of_same (HM.out _)))
        go_wp2
        go_ret
        refine RetCk.of (by rw [HCK.out]; rfl) ⟨c, R + 1, false, set_last HP.out _ _, hc, .inl ⟨rfl, HCK.out, by simp [HR.out], fun _ => snoc_lt _ _⟩⟩ (grownS (grownS (grownB (below_drewN (Below.refl _ _) _)) _ _) _ _)
      | false =>
        have HCK := Lib.hid (show chkF (xs ++ [c]) l = R by rw [hR]; exact chk_snoc_bad h1 hj)
        clear h h1 h3 hR hp hj hm hw
        go_enter Tryd.func19, Tryd.ntmps19
        go_wp2_with fail
        go_quiet ((go_at_call 13; exact Calls.quiet_of_same (HM.out _)))
        go_wp2
        go_ret
        refine RetCk.of (by rw [HCK.out]; exact decide_eq_false (by omega)) ⟨x, R, true, set_wrong HP.out _, hxr, .inr ⟨rfl, HCK.out, by omega⟩⟩ (grownS (grownB (below_drewN (Below.refl _ _) _)) _ _)
  · have HCK := Lib.hid ((chk_app_bad [c] (by omega : 0 ≤ chkF xs l)).trans h1)
    have HP := Lib.hid hp
    clear h h1 hp hw
    go_enter Tryd.func19, Tryd.ntmps19
    go_wp2
    go_ret
    refine RetCk.of (by rw [HCK.out]; exact decide_eq_false (by omega)) ⟨x, r, true, HP.out, hxr, .inr ⟨rfl, HCK.out, h2⟩⟩ (grownB (Below.refl _ _))
end Go.Proofs.YtgeecngpmcjdpaaDoor
