/- Layer 3: a copy of units. -/
import Derived.Test.YthgomhmalmmhlaaDoorRuleC
namespace Go.Proofs.YthgomhmalmmhlaaDoor
set_option linter.unusedVariables false
open Go.RowKit
theorem infoint : (Tryd.prog.info? 3).map (fun i => (i.zero, i.size, i.bytes)) = some (some (.int .i64 0), 1, 8) := by kernel_rfl

theorem us_own {base n : Nat} {w : World} {v : Value} {us : List Int} (h : w.ownsRow base 3 1 v n (us.map (Value.int .i64))) (hn : n = us.length) : ∃ A c, v = .slice A n c ∧ Us (fun b => base ≤ b) w (.slice A n c) us := by
  subst hn
  obtain ⟨A, c, rfl, h1, h2⟩ := own_form h
  refine ⟨A, c, rfl, A, c, rfl, h1, h2, ?_⟩
  rcases Rd.own h with h3 | ⟨b, o, rfl, h3, h4⟩
  · exact .inl h3
  · exact .inr ⟨b, o, rfl, h3, (h.lt b rfl).1, h4⟩

set_option maxHeartbeats 800000 in
theorem clone_any (n : Nat) (A : Option Addr) (c : Nat) (us : List Int) (B : Nat) (w : World) (hn : n = us.length) (hr : Rd w B A (us.map (Value.int .i64))) (hB : B ≤ w.heap.size) (hl : n ≤ 17592186044416) :
    Calls Tryd.prog 29 #[.slice A n c] w fun e w' => ∃ A' c', e = .returned (.slice A' n c') ∧ Us (fun b => w.heap.size ≤ b) w' (.slice A' n c') us ∧ Below w.heap.size w w' := by
  obtain ⟨i0, hi, hz0, hz1, hz2⟩ := info_parts infoint
  have HN := Lib.hid hn
  have HR := Lib.hid hr
  clear hn hr
  have hq : ∀ (w : World) (a : Option Addr) (n c n' c' : Nat), (binOp .eql 27 (.slice a n c) (.slice none n' c')).run Tryd.prog w = .ok (.bool a.isNone) w := fun w a n c n' c' => Lib.run_eql_slice_nil w _ _ a n c n' c' Tryd.underlying27
  cases A with
  | none =>
    have hu : us = [] := by
      rcases HR.out with h | ⟨_, _, h, _⟩
      · simpa using h
      · cases h
    subst hu
    obtain rfl : n = 0 := HN.out
    go_enter Tryd.func29, Tryd.ntmps29
    go_wp2
    go_ret
    exact ⟨none, 0, rfl, ⟨none, 0, rfl, by simp, by simp [maxLen], .inl rfl⟩, Below.refl _ _⟩
  | some ad =>
    go_enter Tryd.func29, Tryd.ntmps29
    go_wp2_with (at_builtin; refine wpList_appB _ rfl _ _ 27 rfl w.heap.size 3 i0 (.int .i64 0) 1 8 Tryd.underlying27 hi hz0 hz1 hz2 rfl (by decide) _ _ _ rfl (World.ownsRow_made w #[] 0 (Nat.le_refl _) (Nat.zero_le _) rfl) B (some ad) n c (us.map (Value.int .i64)) rfl ?c1 ?c2 (ints_one _ _) ?c3 ?c4 ?c5 ?_)
    case c1 => rw [List.length_map, HN.out]; omega
    case c2 => exact HR.out.below (((Below.refl _ _).alloc (Nat.le_refl _) _).mono hB) (Nat.le_refl _)
    case c3 => simp only [maxLen]; omega
    case c4 => omega
    case c5 => simp
    intro v' w1 hown hg hv
    obtain ⟨A', c', rfl, hu⟩ := us_own hown HN.out
    have HU := Lib.hid hu
    clear hu
    go_wp2
    go_ret
    exact ⟨A', c', rfl, HU.out, ((Below.refl _ w).alloc (Nat.le_refl _) _).grown hg (by simp) (by intro k hk; simp [Value.ownBlock] at hk; omega)⟩

/-- the world's block R is as it was -/
def SameB (R : Nat) (a b : World) : Prop := b.heap[R]? = a.heap[R]? ∧ a.heap.size ≤ b.heap.size
theorem SameB.refl (R : Nat) (w : World) : SameB R w w := ⟨rfl, Nat.le_refl _⟩
theorem SameB.trans (R : Nat) (a b c : World) (h : SameB R a b) (k : SameB R b c) : SameB R a c := ⟨k.1.trans h.1, Nat.le_trans h.2 k.2⟩
theorem SameB.cell {R o : Nat} {a b : World} (h : SameB R a b) : b.cell? ⟨R, o, none⟩ = a.cell? ⟨R, o, none⟩ := cell_block h.1 o
theorem SameB.of {R B : Nat} {a b : World} (h : Below B a b) (hR : R < B) : SameB R a b := ⟨h.block R hR, h.size⟩
theorem SameB.grown {R : Nat} {a b : World} {row : Option Nat} (h : a.grownBy b row) (hR : R < a.heap.size) (hr : row ≠ some R) : SameB R a b := ⟨h.block R hR (fun e => hr e.symm), h.size⟩

theorem Rd.drew {w : World} {B : Nat} {A : Option Addr} {xs : List Value} (h : Rd w B A xs) : Rd w.drew B A xs := h.below ((Below.refl B w).drew) (Nat.le_refl _)
theorem own_heap {w : World} {base size n : Nat} {e : TypeId} {v : Value} {xs : List Value} (h : w.ownsRow base e size v n xs) {g : Nat} (hg : v.ownBlock = some g) : ∃ cur, w.heap[g]? = some (.cells cur e (0, 0)) := by
  rcases h.2 with ⟨rfl, _⟩ | ⟨g', cap, cur, rfl, _, hh, _⟩
  · simp [Value.ownBlock] at hg
  · have : g' = g := by simpa [Value.ownBlock] using hg
    subst this
    exact ⟨cur, hh⟩
theorem own_apart {w : World} {base size n base' size' n' : Nat} {e e' : TypeId} {v v' : Value} {xs xs' : List Value} (h : w.ownsRow base e size v n xs) (h' : w.ownsRow base' e' size' v' n' xs') (he : e ≠ e') {g : Nat} (hg : v.ownBlock = some g) : v'.ownBlock ≠ some g := by
  intro hg'
  obtain ⟨c1, e1⟩ := own_heap h hg
  obtain ⟨c2, e2⟩ := own_heap h' hg'
  rw [e1] at e2
  injection e2 with e2
  injection e2 with _ e2
  exact he e2
theorem own_other {w w' : World} {base size n : Nat} {e : TypeId} {v : Value} {xs : List Value} {row : Option Nat} (h : w.ownsRow base e size v n xs) (hg : w.grownBy w' row) (hne : ∀ g, v.ownBlock = some g → row ≠ some g) : w'.ownsRow base e size v n xs := by
  refine ⟨h.1, ?_⟩
  rcases h.2 with h2 | ⟨g, cap, cur, hv, h3, h4, h5⟩
  · exact .inl h2
  · have hlt : g < w.heap.size := own_lt h (by rw [hv]; rfl)
    exact .inr ⟨g, cap, cur, hv, h3, (hg.block g hlt (fun e => hne g (by rw [hv]; rfl) e.symm)).trans h4, h5⟩
end Go.Proofs.YthgomhmalmmhlaaDoor
