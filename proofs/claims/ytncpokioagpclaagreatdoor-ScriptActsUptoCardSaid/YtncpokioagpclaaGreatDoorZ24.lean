/- Texts of this seat, one behind the other: TrieA. -/
import Derived.Test.YtncpokioagpclaaGreatDoorZ4
import Derived.Test.YtncpokioagpclaaGreatDoorZ6
import Derived.OneCell
namespace Go.Proofs.YtncpokioagpclaaGreatDoor
set_option linter.unusedVariables false
open Go.RowKit
/-- the trie at block T: its nodes' row, its outs' row, and for each node its units' row V (2k) and its next ones' V (2k + 1): all of the call's own, from block base on -/
structure OwnTx (base : Nat) (w : World) (T : Nat) (ns : List NodeM) (outs : List (List Int)) (nV oV : Value) (xs ys : List Value) (V : Nat → Value) : Prop where
  low : base ≤ T
  box : w.heap[T]? = some (.cells #[nV, oV] 108 (0, 0))
  nodes : w.ownsRow base 243 3 nV ns.length xs
  node : ∀ (k : Nat) nd, ns[k]? = some nd → xs[k * 3]? = some (.int .i64 nd.rule) ∧ xs[k * 3 + 1]? = some (V (k * 2)) ∧ xs[k * 3 + 2]? = some (V (k * 2 + 1)) ∧ OwnI .i64 3 w base (V (k * 2)) nd.units ∧ OwnI .i64 3 w base (V (k * 2 + 1)) nd.next
  apart : ∀ i j g, i < ns.length * 2 → j < ns.length * 2 → i ≠ j → (V i).ownBlock = some g → (V j).ownBlock ≠ some g
  orow : w.ownsRow base 34 1 oV outs.length ys
  out : ∀ (k : Nat) o, outs[k]? = some o → ∃ y, ys[k]? = some y ∧ Us (fun b => (b ≠ T ∧ base ≤ b) ∧ nV.ownBlock ≠ some b ∧ oV.ownBlock ≠ some b ∧ ∀ i, i < ns.length * 2 → (V i).ownBlock ≠ some b) w y o

theorem heap_lt0 {w : World} {p : Nat} {o : Obj} (hp : w.heap[p]? = some o) : p < w.heap.size := by
  rcases Nat.lt_or_ge p w.heap.size with h | h
  · exact h
  · rw [Array.getElem?_eq_none h] at hp; cases hp
theorem own_type {w : World} {base size n : Nat} {e : TypeId} {v : Value} {xs : List Value} (h : w.ownsRow base e size v n xs) {g : Nat} (hg : v.ownBlock = some g) {cs : Array Value} {e' : TypeId} {fr : Nat × Nat} (hb : w.heap[g]? = some (.cells cs e' fr)) : e = e' := by
  obtain ⟨cur, h1⟩ := own_heap h hg
  rw [h1] at hb
  injection hb with hb
  injection hb
theorem lt_of_some {α : Type} {l : List α} {k : Nat} {x : α} (h : l[k]? = some x) : k < l.length := by
  rcases Nat.lt_or_ge k l.length with hh | hh
  · exact hh
  · rw [List.getElem?_eq_none hh] at h; cases h
section
variable {base T : Nat} {w : World} {ns : List NodeM} {outs : List (List Int)} {nV oV : Value} {xs ys : List Value} {V : Nat → Value}
theorem OwnTx.below (h : OwnTx base w T ns outs nV oV xs ys V) {B : Nat} {w' : World} (hb : Below B w w') (hB : w.heap.size ≤ B) : OwnTx base w' T ns outs nV oV xs ys V := by
  obtain ⟨h1, h2, h3, h4, h5, h6, h7⟩ := h
  refine ⟨h1, (hb.block T ?_).trans h2, own_below h3 hb hB, ?_, h5, own_below h6 hb hB, ?_⟩
  · have := heap_lt0 h2; omega
  · intro k nd hk
    obtain ⟨g1, g2, g3, g4, g5⟩ := h4 k nd hk
    exact ⟨g1, g2, g3, own_below g4 hb hB, own_below g5 hb hB⟩
  · intro k o hk
    obtain ⟨y, g1, g2⟩ := h7 k o hk
    exact ⟨y, g1, g2.step hb.size fun b hl hx => ⟨hx, hb.block b (by omega)⟩⟩
/-- row i's own block, for i below the count, is a row of ints -/
theorem OwnTx.row (h : OwnTx base w T ns outs nV oV xs ys V) {i : Nat} (hi : i < ns.length * 2) : ∃ zs : List Int, OwnI .i64 3 w base (V i) zs := by
  have hk : i / 2 < ns.length := by omega
  obtain ⟨_, _, _, g4, g5⟩ := h.node (i / 2) _ (List.getElem?_eq_getElem hk)
  by_cases hs : i % 2 = 0
  · exact ⟨_, by rw [show i = i / 2 * 2 from by omega]; exact g4⟩
  · exact ⟨_, by rw [show i = i / 2 * 2 + 1 from by omega]; exact g5⟩
theorem OwnTx.size (h : OwnTx base w T ns outs nV oV xs ys V) : T < w.heap.size := heap_lt0 h.box
theorem OwnTx.xlen (h : OwnTx base w T ns outs nV oV xs ys V) : xs.length = ns.length * 3 := h.nodes.1
theorem grown_out {X Y : Nat → Prop} {w w' : World} {row : Option Nat} {y : Value} {o : List Int} (h : Us X w y o) (hg : w.grownBy w' row) (hk : ∀ b, b < w.heap.size → X b → row ≠ some b ∧ Y b) : Us Y w' y o :=
  h.step hg.size fun b hl hx => ⟨(hk b hl hx).2, hg.block b hl fun e => (hk b hl hx).1 e.symm⟩

theorem OwnTx.setRow (h : OwnTx base w T ns outs nV oV xs ys V) {g N c : Nat} (hnV : nV = .slice (some ⟨g, 0, none⟩) N c) {w1 : World} {k s : Nat} {nd nd' : NodeM} {v' : Value} {L : List Int} (hk : ns[k]? = some nd)
    (hs : (s = 0 ∧ nd'.rule = nd.rule ∧ nd'.units = L ∧ nd'.next = nd.next) ∨ (s = 1 ∧ nd'.rule = nd.rule ∧ nd'.units = nd.units ∧ nd'.next = L))
    (ho : OwnI .i64 3 w1 base v' L) (hg : w.grownBy w1 (V (k * 2 + s)).ownBlock) (hn : ∀ g', v'.ownBlock = some g' → (V (k * 2 + s)).ownBlock = some g' ∨ w.heap.size ≤ g') :
    OwnTx base (w1.setCell ⟨g, k * 3 + 1 + s, none⟩ v') T (ns.set k nd') outs nV oV (xs.set (k * 3 + 1 + s) v') ys (fun i => if i = k * 2 + s then v' else V i) := by
  have hkl := lt_of_some hk
  have hs2 : s < 2 := by omega
  have hi : k * 2 + s < ns.length * 2 := by omega
  obtain ⟨zs, hrow⟩ := h.row hi
  have hN : N = ns.length := by
    rcases h.nodes.2 with ⟨e, _⟩ | ⟨g', cap, cur, e, _⟩
    · rw [hnV] at e; simp at e
    · rw [hnV] at e; injection e
  have hgb : nV.ownBlock = some g := by rw [hnV]; rfl
  have hgl : g < w.heap.size := own_lt h.nodes hgb
  -- the nodes' block is not row i's
  have hne1 : (V (k * 2 + s)).ownBlock ≠ some g := fun e => own_apart hrow h.nodes (by decide) e hgb
  have hneT : (V (k * 2 + s)).ownBlock ≠ some T := fun e => absurd (own_type hrow e h.box) (by decide)
  have hgT : g ≠ T := fun e => absurd (own_type h.nodes (hgb.trans (by rw [e])) h.box) (by decide)
  have hv'g : v'.ownBlock ≠ some g := fun e => (hn g e).elim hne1 fun h => by omega
  have hother : ∀ k', k' ≠ g → (w1.setCell ⟨g, k * 3 + 1 + s, none⟩ v').heap[k']? = w1.heap[k']? := fun k' hne => heap_setCell_other w1 _ k' v' hne
  have hnod1 : w1.ownsRow base 243 3 nV ns.length xs := own_other h.nodes hg fun g' hg' e => by rw [hgb] at hg'; injection hg' with hg'; subst hg'; exact hne1 e
  refine ⟨h.low, ?_, ?_, ?_, ?_, ?_, ?_⟩
  · rw [hother T (fun e => hgT e.symm), hg.block T h.size (fun e => hneT e.symm)]
    exact h.box
  · rw [List.length_set]
    have := (World.ownsRow.stored (xs := xs) (n := ns.length) (cap := c) (g := g) (by rw [← hN, ← hnV, hN]; exact hnod1) (k * 3 + 1 + s) v').1
    rw [hnV, hN]; exact this
  · intro j md hj
    have hjl : j < ns.length := by have := lt_of_some hj; rw [List.length_set] at this; exact this
    have hxl := h.xlen
    have keep : ∀ i, i < ns.length * 2 → i ≠ k * 2 + s → ∀ zs : List Int, OwnI .i64 3 w base (V i) zs → OwnI .i64 3 (w1.setCell ⟨g, k * 3 + 1 + s, none⟩ v') base (V i) zs := by
      intro i hil hne zs hz
      refine ownsRow_setCell_other (own_other hz hg fun g' hg' e => h.apart _ _ g' hil hi hne hg' e) ?_ _
      exact fun e => own_apart hz h.nodes (by decide) e hgb
    have new : OwnI .i64 3 (w1.setCell ⟨g, k * 3 + 1 + s, none⟩ v') base v' L := ownsRow_setCell_other ho hv'g _
    by_cases hjk : j = k
    · subst hjk
      rw [List.getElem?_set_self hkl] at hj
      injection hj with hj
      subst hj
      obtain ⟨g1, g2, g3, g4, g5⟩ := h.node j nd hk
      rcases hs with ⟨rfl, r1, r2, r3⟩ | ⟨rfl, r1, r2, r3⟩
      · rw [r1, r2, r3, List.getElem?_set_ne (by omega), List.getElem?_set_self (by omega), List.getElem?_set_ne (by omega), if_pos (show j * 2 = j * 2 + 0 from rfl), if_neg (by omega)]
        exact ⟨g1, rfl, g3, new, keep _ (by omega) (by omega) _ g5⟩
      · rw [r1, r2, r3, List.getElem?_set_ne (by omega), List.getElem?_set_ne (by omega), List.getElem?_set_self (by omega), if_neg (by omega), if_pos rfl]
        exact ⟨g1, g2, rfl, keep _ (by omega) (by omega) _ g4, new⟩
    · rw [List.getElem?_set_ne (fun e => hjk e.symm)] at hj
      obtain ⟨g1, g2, g3, g4, g5⟩ := h.node j md hj
      rw [List.getElem?_set_ne (by omega), List.getElem?_set_ne (by omega), List.getElem?_set_ne (by omega), if_neg (by omega), if_neg (by omega)]
      exact ⟨g1, g2, g3, keep _ (by omega) (by omega) _ g4, keep _ (by omega) (by omega) _ g5⟩
  · intro i j g' hil hjl hij
    rw [List.length_set] at hil hjl
    show (if i = k * 2 + s then v' else V i).ownBlock = some g' → (if j = k * 2 + s then v' else V j).ownBlock ≠ some g'
    by_cases h1 : i = k * 2 + s
    · rw [if_pos h1, if_neg (fun e => hij (h1.trans e.symm))]
      intro e e'
      obtain ⟨zs', hj⟩ := h.row hjl
      rcases hn g' e with h2 | h2
      · exact h.apart _ _ g' hi hjl (fun e => hij (h1.trans e)) h2 e'
      · have := own_lt hj e'; omega
    · rw [if_neg h1]
      by_cases h2 : j = k * 2 + s
      · rw [if_pos h2]
        intro e e'
        obtain ⟨zs', hj⟩ := h.row hil
        rcases hn g' e' with h3 | h3
        · exact h.apart _ _ g' hil hi h1 e h3
        · have := own_lt hj e; omega
      · rw [if_neg h2]; exact h.apart _ _ g' hil hjl hij
  · refine ownsRow_setCell_other (own_other h.orow hg fun g' hg' e => own_apart h.orow hrow (by decide) hg' e) ?_ _
    exact fun e => own_apart h.orow h.nodes (by decide) e hgb
  · intro j o hj
    obtain ⟨y, g1, g2⟩ := h.out j o hj
    refine ⟨y, g1, ?_⟩
    have g3 : Us (fun b => (b ≠ T ∧ base ≤ b) ∧ nV.ownBlock ≠ some b ∧ oV.ownBlock ≠ some b ∧ ∀ i, i < (ns.set k nd').length * 2 → (if i = k * 2 + s then v' else V i).ownBlock ≠ some b) w1 y o :=
      grown_out g2 hg fun b hb hx => ⟨hx.2.2.2 _ hi, hx.1, hx.2.1, hx.2.2.1, fun i hil => by
        rw [List.length_set] at hil
        split
        · intro e; exact (hn b e).elim (hx.2.2.2 _ hi) fun h => by omega
        · exact hx.2.2.2 i hil⟩
    exact g3.step (by simp) fun b hb hx => ⟨hx, hother b fun e => hx.2.1 (by rw [hgb, e])⟩

theorem OwnTx.setRule (h : OwnTx base w T ns outs nV oV xs ys V) {g N c : Nat} (hnV : nV = .slice (some ⟨g, 0, none⟩) N c) {k : Nat} {nd : NodeM} (K : Int) (hk : ns[k]? = some nd) :
    OwnTx base (w.setCell ⟨g, k * 3, none⟩ (.int .i64 K)) T (ns.set k ⟨K, nd.units, nd.next⟩) outs nV oV (xs.set (k * 3) (.int .i64 K)) ys V := by
  have hkl := lt_of_some hk
  have hN : N = ns.length := by
    rcases h.nodes.2 with ⟨e, _⟩ | ⟨g', cap, cur, e, _⟩
    · rw [hnV] at e; simp at e
    · rw [hnV] at e; injection e
  have hgb : nV.ownBlock = some g := by rw [hnV]; rfl
  have hgT : g ≠ T := fun e => absurd (own_type h.nodes (hgb.trans (by rw [e])) h.box) (by decide)
  have hother : ∀ k', k' ≠ g → (w.setCell ⟨g, k * 3, none⟩ (.int .i64 K)).heap[k']? = w.heap[k']? := fun k' hne => heap_setCell_other w _ k' _ hne
  refine ⟨h.low, ?_, ?_, ?_, ?_, ?_, ?_⟩
  · rw [hother T (fun e => hgT e.symm)]; exact h.box
  · rw [List.length_set]
    have := (World.ownsRow.stored (xs := xs) (n := ns.length) (cap := c) (g := g) (by rw [← hN, ← hnV, hN]; exact h.nodes) (k * 3) (.int .i64 K)).1
    rw [hnV, hN]; exact this
  · intro j md hj
    have hxl := h.xlen
    have keep : ∀ (v : Value) (zs : List Int), OwnI .i64 3 w base v zs → OwnI .i64 3 (w.setCell ⟨g, k * 3, none⟩ (.int .i64 K)) base v zs := by
      intro v zs hz
      exact ownsRow_setCell_other hz (fun e => own_apart hz h.nodes (by decide) e hgb) _
    by_cases hjk : j = k
    · subst hjk
      rw [List.getElem?_set_self hkl] at hj
      injection hj with hj
      subst hj
      obtain ⟨g1, g2, g3, g4, g5⟩ := h.node j nd hk
      rw [List.getElem?_set_self (by omega), List.getElem?_set_ne (by omega), List.getElem?_set_ne (by omega)]
      exact ⟨rfl, g2, g3, keep _ _ g4, keep _ _ g5⟩
    · rw [List.getElem?_set_ne (fun e => hjk e.symm)] at hj
      obtain ⟨g1, g2, g3, g4, g5⟩ := h.node j md hj
      rw [List.getElem?_set_ne (by omega), List.getElem?_set_ne (by omega), List.getElem?_set_ne (by omega)]
      exact ⟨g1, g2, g3, keep _ _ g4, keep _ _ g5⟩
  · intro i j g' hil hjl
    rw [List.length_set] at hil hjl
    exact h.apart i j g' hil hjl
  · exact ownsRow_setCell_other h.orow (fun e => own_apart h.orow h.nodes (by decide) e hgb) _
  · intro j o hj
    obtain ⟨y, g1, g2⟩ := h.out j o hj
    refine ⟨y, g1, g2.step (by simp) fun b hb hx => ⟨⟨hx.1, hx.2.1, hx.2.2.1, fun i hil => by rw [List.length_set] at hil; exact hx.2.2.2 i hil⟩, hother b fun e => hx.2.1 (by rw [hgb, e])⟩⟩

theorem box_set {w : World} {T : Nat} {x y v : Value} {e : TypeId} (h : w.heap[T]? = some (.cells #[x, y] e (0, 0))) :
    (w.setCell ⟨T, 0, none⟩ v).heap[T]? = some (.cells #[v, y] e (0, 0)) ∧ (w.setCell ⟨T, 1, none⟩ v).heap[T]? = some (.cells #[x, v] e (0, 0)) := by
  refine ⟨?_, ?_⟩
  · rw [heap_setCell_same w T 0 _ e v h]; rfl
  · rw [heap_setCell_same w T 1 _ e v h]; rfl

theorem OwnTx.push (h : OwnTx base w T ns outs nV oV xs ys V) {w1 : World} {nV' : Value} (ho : w1.ownsRow base 243 3 nV' (ns.length + 1) (xs ++ [.int .i64 (-1), .slice none 0 0, .slice none 0 0])) (hg : w.grownBy w1 nV.ownBlock)
    (hn : ∀ g', nV'.ownBlock = some g' → nV.ownBlock = some g' ∨ w.heap.size ≤ g') :
    OwnTx base (w1.setCell ⟨T, 0, none⟩ nV') T (ns ++ [⟨-1, [], []⟩]) outs nV' oV (xs ++ [.int .i64 (-1), .slice none 0 0, .slice none 0 0]) ys (fun i => if i < ns.length * 2 then V i else .slice none 0 0) := by
  have hneT : nV.ownBlock ≠ some T := fun e => absurd (own_type h.nodes e h.box) (by decide)
  have hbox1 : w1.heap[T]? = some (.cells #[nV, oV] 108 (0, 0)) := (hg.block T h.size (fun e => hneT e.symm)).trans h.box
  have hother : ∀ k', k' ≠ T → (w1.setCell ⟨T, 0, none⟩ nV').heap[k']? = w1.heap[k']? := fun k' hne => heap_setCell_other w1 _ k' nV' hne
  have hnT' : nV'.ownBlock ≠ some T := fun e => absurd (own_type ho e hbox1) (by decide)
  have hxl := h.xlen
  refine ⟨h.low, (box_set hbox1).1, ?_, ?_, ?_, ?_, ?_⟩
  · rw [List.length_append]; exact ownsRow_setCell_other ho hnT' _
  · intro j md hj
    have hjl : j < ns.length + 1 := by have := lt_of_some hj; simpa using this
    have keep : ∀ i, i < ns.length * 2 → ∀ zs : List Int, OwnI .i64 3 w base (V i) zs → OwnI .i64 3 (w1.setCell ⟨T, 0, none⟩ nV') base (V i) zs := by
      intro i hil zs hz
      have hz1 : OwnI .i64 3 w1 base (V i) zs := own_other hz hg fun g' hg' e => own_apart hz h.nodes (by decide) hg' e
      exact ownsRow_setCell_other hz1 (fun e => absurd (own_type hz1 e hbox1) (by decide)) _
    by_cases hjn : j = ns.length
    · subst hjn
      rw [List.getElem?_append_right (by simp)] at hj
      simp at hj
      subst hj
      rw [List.getElem?_append_right (by omega), List.getElem?_append_right (by omega), List.getElem?_append_right (by omega), hxl]
      rw [show ns.length * 3 - ns.length * 3 = 0 from by omega, show ns.length * 3 + 1 - ns.length * 3 = 1 from by omega, show ns.length * 3 + 2 - ns.length * 3 = 2 from by omega]
      rw [if_neg (by omega), if_neg (by omega)]
      exact ⟨rfl, rfl, rfl, World.ownsRow_nil _ _ _ _, World.ownsRow_nil _ _ _ _⟩
    · rw [List.getElem?_append_left (by omega)] at hj
      obtain ⟨g1, g2, g3, g4, g5⟩ := h.node j md hj
      rw [List.getElem?_append_left (by omega), List.getElem?_append_left (by omega), List.getElem?_append_left (by omega), if_pos (by omega), if_pos (by omega)]
      exact ⟨g1, g2, g3, keep _ (by omega) _ g4, keep _ (by omega) _ g5⟩
  · intro i j g' hil hjl hij
    show (if i < ns.length * 2 then V i else .slice none 0 0).ownBlock = some g' → (if j < ns.length * 2 then V j else .slice none 0 0).ownBlock ≠ some g'
    by_cases h1 : i < ns.length * 2
    · rw [if_pos h1]
      by_cases h2 : j < ns.length * 2
      · rw [if_pos h2]; exact h.apart i j g' h1 h2 hij
      · rw [if_neg h2]; intro _ e; cases e
    · rw [if_neg h1]; intro e; cases e
  · have h1 := own_other h.orow hg fun g' hg' e => own_apart h.orow h.nodes (by decide) hg' e
    exact ownsRow_setCell_other h1 (fun e => absurd (own_type h1 e hbox1) (by decide)) _
  · intro j o hj
    obtain ⟨y, g1, g2⟩ := h.out j o hj
    refine ⟨y, g1, ?_⟩
    have g3 : Us (fun b => (b ≠ T ∧ base ≤ b) ∧ nV'.ownBlock ≠ some b ∧ oV.ownBlock ≠ some b ∧ ∀ i, i < (ns ++ [(⟨-1, [], []⟩ : NodeM)]).length * 2 → (if i < ns.length * 2 then V i else .slice none 0 0).ownBlock ≠ some b) w1 y o :=
      grown_out g2 hg fun b hb hx => ⟨hx.2.1, hx.1, fun e => (hn b e).elim hx.2.1 fun h => by omega, hx.2.2.1, fun i hil => by
        split
        · rename_i h1; exact hx.2.2.2 i h1
        · intro e; cases e⟩
    exact g3.step (by simp) fun b hb hx => ⟨hx, hother b hx.1.1⟩

theorem OwnTx.addOut (h : OwnTx base w T ns outs nV oV xs ys V) {w1 : World} {oV' y : Value} {o : List Int} (hy : Us (fun b => (b ≠ T ∧ base ≤ b) ∧ nV.ownBlock ≠ some b ∧ oV.ownBlock ≠ some b ∧ ∀ i, i < ns.length * 2 → (V i).ownBlock ≠ some b) w y o)
    (ho : w1.ownsRow base 34 1 oV' (outs.length + 1) (ys ++ [y])) (hg : w.grownBy w1 oV.ownBlock) (hn : ∀ g', oV'.ownBlock = some g' → oV.ownBlock = some g' ∨ w.heap.size ≤ g') :
    OwnTx base (w1.setCell ⟨T, 1, none⟩ oV') T ns (outs ++ [o]) nV oV' xs (ys ++ [y]) V := by
  have hneT : oV.ownBlock ≠ some T := fun e => absurd (own_type h.orow e h.box) (by decide)
  have hbox1 : w1.heap[T]? = some (.cells #[nV, oV] 108 (0, 0)) := (hg.block T h.size (fun e => hneT e.symm)).trans h.box
  have hother : ∀ k', k' ≠ T → (w1.setCell ⟨T, 1, none⟩ oV').heap[k']? = w1.heap[k']? := fun k' hne => heap_setCell_other w1 _ k' oV' hne
  have hoT' : oV'.ownBlock ≠ some T := fun e => absurd (own_type ho e hbox1) (by decide)
  have hyl : ys.length = outs.length := by have := h.orow.1; omega
  have step : ∀ {y : Value} {o : List Int}, Us (fun b => (b ≠ T ∧ base ≤ b) ∧ nV.ownBlock ≠ some b ∧ oV.ownBlock ≠ some b ∧ ∀ i, i < ns.length * 2 → (V i).ownBlock ≠ some b) w y o → Us (fun b => (b ≠ T ∧ base ≤ b) ∧ nV.ownBlock ≠ some b ∧ oV'.ownBlock ≠ some b ∧ ∀ i, i < ns.length * 2 → (V i).ownBlock ≠ some b) (w1.setCell ⟨T, 1, none⟩ oV') y o := by
    intro y o g2
    have g3 : Us (fun b => (b ≠ T ∧ base ≤ b) ∧ nV.ownBlock ≠ some b ∧ oV'.ownBlock ≠ some b ∧ ∀ i, i < ns.length * 2 → (V i).ownBlock ≠ some b) w1 y o :=
      grown_out g2 hg fun b hb hx => ⟨hx.2.2.1, hx.1, hx.2.1, fun e => (hn b e).elim hx.2.2.1 fun h => by omega, hx.2.2.2⟩
    exact g3.step (by simp) fun b hb hx => ⟨hx, hother b hx.1.1⟩
  refine ⟨h.low, (box_set hbox1).2, ?_, ?_, h.apart, ?_, ?_⟩
  · have h1 := own_other h.nodes hg fun g' hg' e => own_apart h.nodes h.orow (by decide) hg' e
    exact ownsRow_setCell_other h1 (fun e => absurd (own_type h1 e hbox1) (by decide)) _
  · intro j md hj
    obtain ⟨g1, g2, g3, g4, g5⟩ := h.node j md hj
    have keep : ∀ (v : Value) (zs : List Int), OwnI .i64 3 w base v zs → OwnI .i64 3 (w1.setCell ⟨T, 1, none⟩ oV') base v zs := by
      intro v zs hz
      have hz1 : OwnI .i64 3 w1 base v zs := own_other hz hg fun g' hg' e => own_apart hz h.orow (by decide) hg' e
      exact ownsRow_setCell_other hz1 (fun e => absurd (own_type hz1 e hbox1) (by decide)) _
    exact ⟨g1, g2, g3, keep _ _ g4, keep _ _ g5⟩
  · rw [List.length_append]; exact ownsRow_setCell_other ho hoT' _
  · intro j p hj
    have hjl : j < outs.length + 1 := by have := lt_of_some hj; simpa using this
    by_cases hjn : j = outs.length
    · subst hjn
      rw [List.getElem?_append_right (by simp)] at hj
      simp at hj
      subst hj
      exact ⟨y, by rw [List.getElem?_append_right (by omega), hyl]; simp, step hy⟩
    · rw [List.getElem?_append_left (by omega)] at hj
      obtain ⟨y', g1, g2⟩ := h.out j p hj
      exact ⟨y', by rw [List.getElem?_append_left (by omega)]; exact g1, step g2⟩
end
/-- a block that is none of the trie's -/
def Off (T : Nat) (nV oV : Value) (V : Nat → Value) (N : Nat) (b : Nat) : Prop := b ≠ T ∧ nV.ownBlock ≠ some b ∧ oV.ownBlock ≠ some b ∧ ∀ i, i < N * 2 → (V i).ownBlock ≠ some b
/-- blocks that were none of the trie's are none of the trie that came of it, and are as they were -/
def Fr (T : Nat) (w : World) (nV oV : Value) (V : Nat → Value) (N : Nat) (w' : World) (nV' oV' : Value) (V' : Nat → Value) (N' : Nat) : Prop :=
  w.heap.size ≤ w'.heap.size ∧ ∀ b, b < w.heap.size → Off T nV oV V N b → Off T nV' oV' V' N' b ∧ w'.heap[b]? = w.heap[b]?
theorem Fr.trans {T : Nat} {w0 w1 w2 : World} {n0 n1 n2 o0 o1 o2 : Value} {V0 V1 V2 : Nat → Value} {N0 N1 N2 : Nat} (h : Fr T w0 n0 o0 V0 N0 w1 n1 o1 V1 N1) (k : Fr T w1 n1 o1 V1 N1 w2 n2 o2 V2 N2) : Fr T w0 n0 o0 V0 N0 w2 n2 o2 V2 N2 :=
  ⟨Nat.le_trans h.1 k.1, fun b hb ho => by
    obtain ⟨h1, h2⟩ := h.2 b hb ho
    obtain ⟨k1, k2⟩ := k.2 b (Nat.lt_of_lt_of_le hb h.1) h1
    exact ⟨k1, k2.trans h2⟩⟩
theorem Fr.below {T : Nat} {w w' : World} {nV oV : Value} {V : Nat → Value} {N B : Nat} (h : Below B w w') (hB : w.heap.size ≤ B) : Fr T w nV oV V N w' nV oV V N :=
  ⟨h.size, fun b hb ho => ⟨ho, h.block b (by omega)⟩⟩
theorem Fr.setRow {T : Nat} {w w1 : World} {nV oV v' : Value} {V : Nat → Value} {N g i j : Nat} (hgb : nV.ownBlock = some g) (hi : i < N * 2) (hg : w.grownBy w1 (V i).ownBlock) (hn : ∀ g', v'.ownBlock = some g' → (V i).ownBlock = some g' ∨ w.heap.size ≤ g') :
    Fr T w nV oV V N (w1.setCell ⟨g, j, none⟩ v') nV oV (fun i' => if i' = i then v' else V i') N :=
  ⟨by simpa using hg.size, fun b hb ho => ⟨⟨ho.1, ho.2.1, ho.2.2.1, fun i' hi' => by
    show (if i' = i then v' else V i').ownBlock ≠ some b
    split
    · intro e; exact (hn b e).elim (ho.2.2.2 i hi) fun h => by omega
    · exact ho.2.2.2 i' hi'⟩, by
    rw [heap_setCell_other w1 ⟨g, j, none⟩ b v' (fun e => ho.2.1 (by rw [hgb]; exact congrArg some e.symm))]
    exact hg.block b hb fun e => ho.2.2.2 i hi e.symm⟩⟩
theorem Fr.push {T : Nat} {w w1 : World} {nV oV nV' : Value} {V : Nat → Value} {N : Nat} (hg : w.grownBy w1 nV.ownBlock) (hn : ∀ g', nV'.ownBlock = some g' → nV.ownBlock = some g' ∨ w.heap.size ≤ g') :
    Fr T w nV oV V N (w1.setCell ⟨T, 0, none⟩ nV') nV' oV (fun i => if i < N * 2 then V i else .slice none 0 0) (N + 1) :=
  ⟨by simpa using hg.size, fun b hb ho => ⟨⟨ho.1, fun e => (hn b e).elim ho.2.1 fun h => by omega, ho.2.2.1, fun i' hi' => by
    show (if i' < N * 2 then V i' else .slice none 0 0).ownBlock ≠ some b
    split
    · rename_i h; exact ho.2.2.2 i' h
    · intro e; cases e⟩, by
    rw [heap_setCell_other w1 ⟨T, 0, none⟩ b nV' ho.1]
    exact hg.block b hb fun e => ho.2.1 e.symm⟩⟩
end Go.Proofs.YtncpokioagpclaaGreatDoor
