/- Layer 2: a new reader; the law's awake. -/
import Derived.Test.YtbigbkplhlmbmaaCarryC
namespace Go.Proofs.Ytbigbkplhlmbmaa
set_option linter.unusedVariables false
open Go.RowKit

theorem RdrAt.new (w : World) : RdrAt (w.alloc (.cells #[.int .u8 0, .int .u8 0, .int .u8 0, .int .u8 0, .int .i64 0, .int .i64 0] 46)) w.heap.size [] 0 :=
  ⟨0, 0, 0, 0, heap_alloc_new w _, rfl⟩
theorem below_grownP {B p : Nat} {w0 w w' : World} (h : Below B w0 w) (hg : w.grownBy w' (some p)) (hp : B ≤ p) (hB : B ≤ w.heap.size) : Below B w0 w' :=
  h.grown hg hB fun k e => by injection e with e; omega
theorem RetPut.own {w w' : World} {p n : Nat} {kn : List Tok} {hd : List Int} {at_ : Int} {e : Ending} (h : RetPut w p kn n hd at_ e w') :
    ∃ A c xs, e = .returned (.slice A n c) ∧ w'.ownsRow w.heap.size 41 4 (.slice A n c) n xs ∧ Toks w' w'.heap.size xs kn ∧ RdrAt w' p hd at_ ∧ w.grownBy w' (some p) ∧ n ≤ c ∧ c ≤ maxLen := by
  obtain ⟨v, xs, rfl, ho, ht, hr, hg⟩ := h
  obtain ⟨A, c, rfl, h1, h2⟩ := own_form ho
  exact ⟨A, c, xs, rfl, ho, ht, hr, hg, h1, h2⟩

set_option maxHeartbeats 800000 in
theorem awake2 (w : World) :
    Calls Try.prog 19 #[] w fun e w' => e = .returned (.bool true) ∧ Below w.heap.size w w' := by
  go_enter Try.func19, Try.ntmps19
  go_wp2_with fail
  have hr0 := RdrAt.new w
  have hb0 := (Below.refl w.heap.size w).alloc (Nat.le_refl _) (.cells #[.int .u8 0, .int .u8 0, .int .u8 0, .int .u8 0, .int .i64 0, .int .i64 0] 46)
  refine (put_rdr w.heap.size [] 0 224 _ hr0 (by simp) (by omega) (by omega) (by omega) (by simp) [] 0 [224] (by decide) (by decide) (by decide)).mono ?_
  rintro e w1 h
  obtain ⟨A1, c1, xs1, rfl, _, _, hr1, hg1, _, _⟩ := h.own
  have hb1 := below_grownP hb0 hg1 (Nat.le_refl _) hb0.size
  clear h hr0 hb0 hg1
  go_wp2_with fail
  refine (put_rdr w.heap.size [224] 0 184 _ (by simpa using hr1) (by simp) (by omega) (by omega) (by omega) (by simp) [] 0 [224, 184] (by decide) (by decide) (by decide)).mono ?_
  rintro e w2 h
  obtain ⟨A2, c2, xs2, rfl, _, _, hr2, hg2, _, _⟩ := h.own
  have hb2 := below_grownP hb1 hg2 (Nat.le_refl _) hb1.size
  have hr2' : RdrAt w2 w.heap.size [224, 184] 0 := by simpa using hr2
  clear h hr1 hb1 hg2 hr2
  go_wp2_with fail
  refine (held_rdr w.heap.size _ _ _ hr2').mono ?_
  rintro e w' ⟨rfl, rfl⟩
  go_wp2_with fail
  refine (put_rdr w.heap.size [224, 184] 0 129 _ hr2' (by simp) (by omega) (by omega) (by omega) (by simp) [⟨0, 3, 0, [3585]⟩] 1 [] rfl (by decide) (by decide)).mono ?_
  rintro e w3 h
  obtain ⟨A3, c3, xs3, rfl, ho3, ht3, hr3, hg3, _, _⟩ := h.own
  have hb3 := below_grownP hb2 hg3 (Nat.le_refl _) hb2.size
  obtain ⟨b, o, rfl, _, _, _, ⟨A9, c9, k3, _, _, hA9⟩, _⟩ := toks_atT (Rd.own ho3) ht3 (k := 0) (by simp)
  obtain ⟨b9, o9, rfl, _, hc9⟩ := rd_ints hA9.rd (by simp)
  have k4 := hc9 0 (by simp)
  have HR3 := Lib.hid hr3
  simp at k3 k4
  clear h hr2' hb2 hg3 ho3 ht3 hr3 hA9 hc9
  go_wp2_with (go_at_call 25; refine (held_rdr w.heap.size _ _ _ HR3.out).mono ?_; rintro e w' ⟨rfl, rfl⟩)
  go_ret
  exact ⟨rfl, hb3⟩
end Go.Proofs.Ytbigbkplhlmbmaa
