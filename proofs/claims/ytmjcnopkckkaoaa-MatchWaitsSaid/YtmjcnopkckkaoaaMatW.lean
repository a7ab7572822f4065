/- Rows of units of the call's own whose front moves on ('wait = append(wait, u)', 'wait = wait[n:]'). No function is named here. -/
import Derived.Test.YtmjcnopkckkaoaaRuleD
import Derived.ArgAppend
namespace Go.Proofs.Ytmjcnopkckkaoaa
set_option linter.unusedVariables false
open Go.RowKit
/-- units in a block of the call's own, from block base on, wherever in it they begin -/
def OwnW (base : Nat) (w : World) (v : Value) (us : List Int) : Prop :=
  (v = .slice none 0 0 ∧ us = []) ∨ ∃ g off cap cur, v = .slice (some ⟨g, off, none⟩) us.length cap ∧ base ≤ g ∧ w.heap[g]? = some (.cells cur 3 (0, 0)) ∧ us.length ≤ cap ∧ cap ≤ maxLen ∧ off + cap ≤ cur.size ∧ ∀ j, j < us.length → cur[off + j]? = (us.map (Value.int .i64))[j]?
theorem OwnW.nil (base : Nat) (w : World) : OwnW base w (.slice none 0 0) [] := .inl ⟨rfl, rfl⟩
theorem heap_ltW {w : World} {p : Nat} {o : Obj} (hp : w.heap[p]? = some o) : p < w.heap.size := by
  rcases Nat.lt_or_ge p w.heap.size with h | h
  · exact h
  · rw [Array.getElem?_eq_none h] at hp; cases hp
theorem OwnW.of_block {base : Nat} {w w' : World} {v : Value} {us : List Int} (h : OwnW base w v us) (hb : ∀ g, base ≤ g → g < w.heap.size → w'.heap[g]? = w.heap[g]?) : OwnW base w' v us := by
  rcases h with h | ⟨g, off, cap, cur, h1, h2, h3, h4⟩
  · exact .inl h
  · exact .inr ⟨g, off, cap, cur, h1, h2, (hb g h2 (heap_ltW h3)).trans h3, h4⟩
theorem OwnW.below {base B : Nat} {w w' : World} {v : Value} {us : List Int} (h : OwnW base w v us) (hb : Below B w w') (hB : w.heap.size ≤ B) : OwnW base w' v us := h.of_block fun g _ hg => hb.block g (by omega)
theorem OwnW.form {base : Nat} {w : World} {v : Value} {us : List Int} (h : OwnW base w v us) : ∃ A c, v = .slice A us.length c ∧ us.length ≤ c ∧ c ≤ maxLen ∧ Rd w w.heap.size A (us.map (Value.int .i64)) := by
  rcases h with ⟨rfl, rfl⟩ | ⟨g, off, cap, cur, rfl, h2, h3, h4, h5, h6, h7⟩
  · exact ⟨none, 0, rfl, by simp, by simp [maxLen], .inl rfl⟩
  · refine ⟨_, cap, rfl, h4, h5, .inr ⟨g, off, rfl, heap_ltW h3, fun j hj => ?_⟩⟩
    rw [List.length_map] at hj
    rw [cell_of_row _ _ _ _ _ _ h3]
    exact h7 j hj
theorem OwnW.own {base n : Nat} {w : World} {v : Value} {us : List Int} (h : w.ownsRow base 3 1 v n (us.map (Value.int .i64))) : OwnW base w v us := by
  have hl : us.length = n := by have := h.1; simpa using this
  rcases h.2 with ⟨h1, h2⟩ | ⟨g, cap, cur, h1, h2, h3, h4, h5, h6, h7⟩
  · left
    exact ⟨h1, List.eq_nil_of_length_eq_zero (by omega)⟩
  · right
    refine ⟨g, 0, cap, cur, by rw [hl]; exact h1, h2, h3, by omega, h5, by omega, fun j hj => ?_⟩
    rw [← h7, Nat.zero_add, List.getElem?_take, if_pos (by omega), Array.getElem?_toList]
/-- the front moves on -/
theorem OwnW.drop {base : Nat} {w : World} {A : Option Addr} {L c : Nat} {us : List Int} (h : OwnW base w (.slice A L c) us) (n : Nat) (hn : n ≤ L) (hLc : L ≤ c) (hc : c ≤ maxLen) (h1 : 1 ≤ n) :
    ∃ ad, (∀ W : World, (Instr.sliceAt 24 (.slice A L c) (some (.int .i64 n)) none none).run Try.prog W = .ok (.slice ad (L - n) (c - n)) W) ∧ OwnW base w (.slice ad (L - n) (c - n)) (us.drop n) := by
  rcases h with ⟨h1, _⟩ | ⟨g, off, cap, cur, h1, h2, h3, h4, h5, h6, h7⟩
  · injection h1 with _ e _; omega
  · injection h1 with e1 e2 e3
    subst e1 e2 e3
    unfold maxLen at hc
    have g2 : (0 : Int) ≤ n := by omega
    have g3 : (n : Int) ≤ us.length := by omega
    have g4 : (us.length : Int) ≤ c := by omega
    obtain ⟨L, hL⟩ : ∃ L, us.length = L := ⟨_, rfl⟩
    rw [hL] at hn hLc h4 h7 g3 g4 ⊢
    by_cases h : c = n
    · refine ⟨some ⟨g, off, none⟩, fun W => ?_, .inr ⟨g, off, c - n, cur, by rw [List.length_drop, hL], h2, h3, by rw [List.length_drop]; omega, by unfold maxLen; omega, by omega, fun j hj => ?_⟩⟩
      · clear h7 h3 hL; subst h; go_simp
      · rw [List.length_drop] at hj; omega
    · refine ⟨some ⟨g, off + n, none⟩, fun W => ?_, .inr ⟨g, off + n, c - n, cur, by rw [List.length_drop, hL], h2, h3, by rw [List.length_drop]; omega, by unfold maxLen; omega, by omega, fun j hj => ?_⟩⟩
      · clear h7 h3 hL; go_simp
      · rw [List.length_drop, hL] at hj
        rw [List.map_drop, List.getElem?_drop, Nat.add_assoc]
        exact h7 _ (by omega)
section
variable {P : Program} {w : World}
theorem run_appW (base : Nat) (t ty : TypeId) (i : TypeInfo) (z : Value) (ht : P.underlying t = some (.slice 3)) (hi : P.info? 3 = some i) (hz : i.zero = some z) (hsize : i.size = 1) (hby : i.bytes = 8) (hzs : z.cells.size = 1)
    (v : Value) (us : List Int) (hown : OwnW base w v us) (B : Nat) (A : Addr) (c : Nat) (u : Int) (hr : Rd w B (some A) [.int .i64 u]) (hlen : us.length ≤ 1000) (hbase : base ≤ w.heap.size) :
    ∃ v' w', (Builtin.append_ #[t, t] ty #[v, .slice (some A) 1 c]).run P w = .ok v' w' ∧ OwnW base w' v' (us ++ [u]) ∧ Below base w w' := by
  have hm : (us ++ [u]).map (Value.int .i64) = us.map (Value.int .i64) ++ [.int .i64 u] := by simp
  have hnew : ∀ j x, ([.int .i64 u] : List Value)[j]? = some x → w.cell? (A.add j) = some x := by
    intro j x hx
    rcases hr with h | ⟨b, o, h, _, hc⟩
    · cases h
    · injection h with h
      subst h
      have hj : j < 1 := by
        rcases Nat.lt_or_ge j 1 with hj | hj
        · exact hj
        · rw [List.getElem?_eq_none (by simpa using hj)] at hx; cases hx
      rw [Addr.add_lit]
      exact (hc j (by simpa using hj)).trans hx
  rcases hown with ⟨rfl, rfl⟩ | ⟨g, off, cap, cur, rfl, h2, h3, h4, h5, h6, h7⟩
  · obtain ⟨v', w', h1, h2, h3, h4⟩ := run_appB (P := P) w base t ty 3 i z 1 8 ht hi hz hsize hby hzs (by omega) (.slice none 0 0) 0 [] (World.ownsRow_nil _ _ _ _) B (some A) 1 c [.int .i64 u] rfl hr (by simp [Value.oneCell']) (by simp [maxLen]) (by omega) hbase
    exact ⟨v', w', h1, OwnW.own (us := [u]) h2, ⟨h3.os, h3.tape, h3.output, h3.size, fun k hk => h3.block k (by omega) (by simp [Value.ownBlock])⟩⟩
  · by_cases hroom : us.length + 1 ≤ cap
    · have hcell : ∀ j, j < cur.size → w.cell? ⟨g, j, none⟩ = cur[j]? := fun j _ => cell_of_row _ _ _ _ _ _ h3
      have hrun := run_append_room_cells (P := P) w t ty 3 i ht hi g off us.length cap A 1 c [.int .i64 u] (by rw [hsize]; rfl) hnew (by simp [Value.oneCell']) hroom
        (fun j hj => by
          have hj0 : j = 0 := by simpa using hj
          subst hj0
          rw [hsize, hcell _ (by omega), Array.getElem?_eq_getElem (by omega)]; rfl)
        (fun j hj => frozen_of_row _ _ _ _ _ h3)
      refine ⟨_, _, hrun, .inr ⟨g, off, cap, cur.setIfInBounds (off + us.length) (.int .i64 u), by simp, h2, ?_, by simpa using hroom, h5, by simpa using h6, fun j hj => ?_⟩, ?_⟩
      · rw [hsize, Nat.mul_one]
        exact heap_setCell_same w g _ _ _ _ h3
      · rw [List.length_append, List.length_singleton] at hj
        rw [hm]
        by_cases hj2 : j = us.length
        · subst hj2
          rw [List.getElem?_append_right (by simp), List.length_map, Nat.sub_self, Array.getElem?_setIfInBounds_self_of_lt (by omega)]; rfl
        · rw [Array.getElem?_setIfInBounds_ne (by omega), List.getElem?_append_left (by rw [List.length_map]; omega)]
          exact h7 j (by omega)
      · rw [hsize, Nat.mul_one]
        exact (Below.refl base w).setCell h2 _
    · obtain ⟨v', w', h1, h8, h9⟩ := run_append_arg_grows (P := P) w t ty 3 i z 1 8 ht hi hz hsize hby hzs (by omega) ⟨g, off, none⟩ us.length cap (us.map (Value.int .i64)) (by simp)
        (fun j x hx => by
          have hj : j < us.length := by
            rcases Nat.lt_or_ge j us.length with hj | hj
            · exact hj
            · rw [List.getElem?_eq_none (by simpa using hj)] at hx; cases hx
          rw [Addr.add_lit, cell_of_row _ _ _ _ _ _ h3, h7 j hj]; exact hx)
        A 1 c [.int .i64 u] rfl hnew (by omega) (by simp only [maxLen]; omega) (by omega)
      rw [← hm] at h8
      exact ⟨v', w', h1, OwnW.own (own_low h8 hbase), ⟨h9.os, h9.tape, h9.output, h9.size, fun k hk => h9.block k (by omega) (by simp)⟩⟩
theorem wpList_appW {ops : Array Oper} {rest : List Oper} {o : Oper} {a : Act} {Q : Exit → Act → World → Prop} (hgd : o.guard = none) (s x : Operand) (t : TypeId)
    (ho : o.op = .call { callee := .builtin .append, args := #[s, x], argTypes := #[t, t] })
    (base : Nat) (i : TypeInfo) (z : Value) (ht : P.underlying t = some (.slice 3)) (hi : P.info? 3 = some i) (hz : i.zero = some z) (hsize : i.size = 1) (hby : i.bytes = 8) (hzs : z.cells.size = 1)
    (v : Value) (us : List Int) (hs : a.eval s = v) (hown : OwnW base w v us) (B : Nat) (A : Addr) (c : Nat) (u : Int) (hx : a.eval x = .slice (some A) 1 c) (hr : Rd w B (some A) [.int .i64 u]) (hlen : us.length ≤ 1000) (hbase : base ≤ w.heap.size)
    (h : ∀ v' w', Hid (OwnW base w' v' (us ++ [u])) → Below base w w' → wpList P ops Q rest (a.put o.dst v') w') : wpList P ops Q (o :: rest) a w :=
  wpList_plain hgd fun K hK => by
    obtain ⟨v', w', hrun, h2, h3⟩ := run_appW (P := P) base t o.type i z ht hi hz hsize hby hzs v us hown B A c u hr hlen hbase
    unfold Oper.wp execOp
    simp only [ho, resolve, invoke, builtin, Sem.run_bind, Sem.run_pure, Result.andThen_ok, List.map_toArray, List.map_cons, List.map_nil, hs, hx, hrun]
    exact hK _ _ (h v' w' h2 h3)
end
end Go.Proofs.Ytmjcnopkckkaoaa
