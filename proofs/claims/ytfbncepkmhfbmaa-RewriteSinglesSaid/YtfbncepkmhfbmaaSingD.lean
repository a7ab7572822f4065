/- A dictionary of the call's own (map[int]int), and rules beside it. -/
import Derived.Test.YtfbncepkmhfbmaaRuleE
import Derived.Test.YtfbncepkmhfbmaaSingM
import Derived.Maps.OwnSet
import Derived.Carry
namespace Go.Proofs.Ytfbncepkmhfbmaa
set_option linter.unusedVariables false
open Go.RowKit Go.Maps
theorem lawI : Keyed Try.prog 3 := int_keyed Try.underlying3
theorem zeroI (w : World) : (zeroValue 3).run Try.prog w = .ok (.int .i64 0) w := by kernel_rfl
/-- the map's datum has just the pairs -/
structure Dict (D : DataW Unit) (ps : List (Int × Int)) : Prop where
  is : IsMap D
  has : ∀ z : Int, Maps.has D (.int .i64 z) = (look ps z).isSome
  val : ∀ (z v : Int), look ps z = some v → D.atKey (.int .i64 z) (.lit (.int .i64 0)) = .lit (.int .i64 v)
theorem Dict.nil : Dict (.map []) [] := ⟨isMap_empty, fun z => rfl, fun z v h => by simp [look] at h⟩
theorem Dict.put {D : DataW Unit} {ps : List (Int × Int)} (h : Dict D ps) {p : Int × Int} (hn : look ps p.1 = none) (hk : WideAt.IsKeyLit (.int .i64 p.1)) : Dict (D.put (.int .i64 p.1) (.lit (.int .i64 p.2))) (ps ++ [p]) := by
  refine ⟨h.is.put _ _, fun z => ?_, fun z v hz => ?_⟩
  · rw [look_app ps p z hn]
    by_cases e : z = p.1
    · subst e; rw [if_pos rfl, has_put_same h.is hk]; rfl
    · rw [if_neg e, has_put_other (by simpa using e), h.has]
  · rw [look_app ps p z hn] at hz
    by_cases e : z = p.1
    · subst e
      rw [if_pos rfl] at hz
      injection hz with hz
      rw [atKey_put_same h.is hk, hz]
    · rw [if_neg e] at hz
      rw [atKey_put_other (by simpa using e)]; exact h.val z v hz
/-- a row of rules of the call's own; their units lie in blocks from base on -/
def OwnRy (base : Nat) (w : World) (v : Value) (rs : List Rl) : Prop := ∃ xs, w.ownsRow base 51 2 v rs.length xs ∧ Rls (fun b => v.ownBlock ≠ some b ∧ base ≤ b) w xs rs
theorem OwnRy.nil (base : Nat) (w : World) : OwnRy base w (.slice none 0 0) [] := ⟨[], World.ownsRow_nil _ _ _ _, trivial⟩
theorem OwnRy.own {base : Nat} {w : World} {v : Value} {rs : List Rl} (h : OwnRy base w v rs) : OwnRs base w v rs := by
  obtain ⟨xs, h1, h2⟩ := h
  exact ⟨xs, h1, h2.step (Nat.le_refl _) fun b _ hx => ⟨hx.1, rfl⟩⟩
theorem OwnRy.grown {base g : Nat} {w w' : World} {v : Value} {rs : List Rl} (h : OwnRy base w v rs) (hg : w.grownBy w' (some g)) (hgb : g < base) : OwnRy base w' v rs := by
  obtain ⟨xs, h1, h2⟩ := h
  refine ⟨xs, own_other h1 hg (fun k hk e => by injection e with e; have := (h1.lt k hk).1; omega), h2.step hg.size fun b hb hx => ⟨hx, hg.block b hb (fun e => by injection e with e; have := hx.2; omega)⟩⟩
theorem OwnRy.below {base B : Nat} {w w' : World} {v : Value} {rs : List Rl} (h : OwnRy base w v rs) (hb : Below B w w') (hB : w.heap.size ≤ B) : OwnRy base w' v rs := by
  obtain ⟨xs, ho, hr⟩ := h
  exact ⟨xs, own_below ho hb hB, hr.step hb.size fun b hl hx => ⟨hx, hb.block b (by omega)⟩⟩
theorem ry_push {base : Nat} {w1 w2 : World} {v v' : Value} {rs : List Rl} {xs : List Value} {a b : Value} {r : Rl} (ho : w2.ownsRow base 51 2 v' (rs.length + 1) (xs ++ [a, b])) (hx : Rls (fun b => v.ownBlock ≠ some b ∧ base ≤ b) w1 xs rs)
    (ha : Us (fun b => v.ownBlock ≠ some b ∧ base ≤ b) w1 a r.1) (hb : Us (fun b => v.ownBlock ≠ some b ∧ base ≤ b) w1 b r.2) (hg : w1.grownBy w2 v.ownBlock) (hv : v'.ownBlock = v.ownBlock ∨ v'.ownBlock = some w1.heap.size) : OwnRy base w2 v' (rs ++ [r]) :=
  ⟨xs ++ [a, b], by simpa using ho, (hx.app (Rls.one ha hb)).step hg.size fun b hl hx => ⟨⟨by
    rcases hv with e | e
    · rw [e]; exact hx.1
    · rw [e]; intro e'; injection e' with e'; omega, hx.2⟩, hg.block b hl (fun e => hx.1 e.symm)⟩⟩
theorem map_below {w w' : World} {B : Nat} {g n : Nat} {D : DataW Unit} (h : w.ownsMap Try.prog 3 (plainElem Try.prog 3) g n D) (hb : Below B w w') (hg : g < B) : w'.ownsMap Try.prog 3 (plainElem Try.prog 3) g n D := by
  obtain ⟨es, clock, h1, h2⟩ := h
  exact ⟨es, clock, (hb.block g hg).trans h1, h2⟩
theorem pair8_at {w : World} {B : Nat} {A : Option Addr} {ps : List (Int × Int)} (h : Rd w B A ((flatP ps).map (Value.int .u8))) {k : Nat} (hk : k < ps.length) :
    ∃ b off, A = some ⟨b, off, none⟩ ∧ b < B ∧ w.cell? ⟨b, off + k * 2, none⟩ = some (.int .u8 ps[k].1) ∧ w.cell? ⟨b, off + k * 2 + 1, none⟩ = some (.int .u8 ps[k].2) := by
  have hlen := flatP_len ps
  obtain ⟨e1, e2⟩ := flatP_at ps k hk
  rcases h with h | ⟨b, off, h1, h2, h3⟩
  · have : flatP ps = [] := by simpa using h
    rw [this] at hlen; simp at hlen; omega
  · refine ⟨b, off, h1, h2, ?_, ?_⟩
    · rw [h3 _ (by rw [List.length_map]; omega), List.getElem?_map, e1]; rfl
    · rw [Nat.add_assoc, h3 _ (by rw [List.length_map]; omega), List.getElem?_map, e2]; rfl
end Go.Proofs.Ytfbncepkmhfbmaa
