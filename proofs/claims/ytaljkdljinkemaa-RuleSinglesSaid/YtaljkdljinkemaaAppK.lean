/- Append onto a row of the call's own: the row as it was still reads as it did. No program is named here. -/
import Derived.Test.YtaljkdljinkemaaRep
import Derived.ArgAppend
namespace Go.Proofs.Ytaljkdljinkemaa
set_option linter.unusedVariables false
open Go.RowKit
section
variable {P : Program} (w : World)
theorem rd_cells {B : Nat} {A : Addr} {news : List Value} {w : World} (hr : Rd w B (some A) news) : ∀ j u, news[j]? = some u → w.cell? (A.add j) = some u := by
  intro j u hu
  rcases hr with h | ⟨b, off, h, _, hcell⟩
  · subst h; simp at hu
  · injection h with h; subst h
    have hj : j < news.length := by
      rcases Nat.lt_or_ge j news.length with hj | hj
      · exact hj
      · rw [List.getElem?_eq_none hj] at hu; cases hu
    rw [← hu, ← hcell j hj]
    simp [Addr.add]
    split <;> simp_all
theorem run_appK (base : Nat) (t ty e : TypeId) (i : TypeInfo) (z : Value) (size bytes : Nat) (ht : P.underlying t = some (.slice e)) (hi : P.info? e = some i) (hz : i.zero = some z)
    (hsize : i.size = size) (hby : i.bytes = bytes) (hzs : z.cells.size = size) (hsz : 0 < size)
    (v : Value) (n : Nat) (xs : List Value) (hown : w.ownsRow base e size v n xs)
    (B : Nat) (A : Option Addr) (m c : Nat) (news : List Value) (hl : news.length = m * size) (hr : Rd w B A news) (h1 : ∀ u ∈ news, u.oneCell' = true)
    (h63 : n + m ≤ maxLen) (hbytes : (n + m) * bytes ≤ 140737488355328) (hbase : base ≤ w.heap.size) :
    ∃ v' w', (Builtin.append_ #[t, t] ty #[v, .slice A m c]).run P w = .ok v' w' ∧ w'.ownsRow base e size v' (n + m) (xs ++ news) ∧ w.grownBy w' v.ownBlock ∧ (v'.ownBlock = v.ownBlock ∨ ∃ g, v'.ownBlock = some g ∧ w.heap.size ≤ g) ∧ w'.ownsRow base e size v n xs := by
  by_cases hnil : v = .slice none 0 0 ∨ A = none
  · obtain ⟨v', w', hrun, h2, h3, h4⟩ := run_appB w base t ty e i z size bytes ht hi hz hsize hby hzs hsz v n xs hown B A m c news hl hr h1 h63 hbytes hbase
    refine ⟨v', w', hrun, h2, h3, h4.imp id fun h => ⟨_, h, Nat.le_refl _⟩, ?_⟩
    rcases hown.2 with ⟨h5, h6⟩ | ⟨g, cap, cur, hv, hbg, hg, hnc, hcm, hcs, htake⟩
    · exact ⟨hown.1, .inl ⟨h5, h6⟩⟩
    · rcases hnil with hnil | hnil
      · rw [hv] at hnil; cases hnil
      · subst hnil
        have hn : news = [] := by
          rcases hr with h | ⟨_, _, h, _⟩
          · exact h
          · cases h
        subst hn
        have hm : m = 0 := by
          rcases Nat.eq_zero_or_pos m with h | h
          · exact h
          · have := Nat.mul_pos h hsz; simp at hl; omega
        subst hm
        have hw : w' = w := by
          subst hv
          simp [Builtin.append_, run_underlying ht, sizeOf, typeInfo, hi, Builtin.lenOf, Builtin.firstCells, hnc, storeCells] at hrun
          exact hrun.2.symm
        subst hw
        exact hown
  · obtain ⟨ad, rfl⟩ : ∃ ad, A = some ad := by cases A with | none => exact absurd (.inr rfl) hnil | some a => exact ⟨a, rfl⟩
    have hnews := rd_cells hr
    rcases hown.2 with ⟨h5, h6⟩ | ⟨g, cap, cur, hv, hbg, hg, hnc, hcm, hcs, htake⟩
    · exact absurd (.inl h5) hnil
    · subst hv
      by_cases hroom : n + m ≤ cap
      · obtain ⟨w', hrun, h2, h3⟩ := run_append_fits (P := P) w base t ty e i size ht hi hsize g n cap xs hown ad m c news hl hnews h1 hroom
        refine ⟨_, w', hrun, h2, h3, .inl rfl, hown.1, .inr ?_⟩
        rcases h2.2 with ⟨h, _⟩ | ⟨g', cap', cur', h, k1, k2, k3, k4, k5, k6⟩
        · cases h
        · injection h with e1 _ e3
          injection e1 with e1
          injection e1 with e1
          subst e1 e3
          refine ⟨g, cap, cur', rfl, k1, k2, hnc, k4, k5, ?_⟩
          have := congrArg (List.take (n * size)) k6
          rw [List.take_take, Nat.min_eq_left (Nat.mul_le_mul_right _ (by omega)), List.take_left' hown.1] at this
          exact this
      · obtain ⟨v', w', hrun, h2, h3⟩ := run_append_arg_grows (P := P) w t ty e i z size bytes ht hi hz hsize hby hzs hsz ⟨g, 0, none⟩ n cap xs hown.1 (hown.cells (g := g) rfl) ad m c news hl hnews (by omega) h63 hbytes
        have hb : Below w.heap.size w w' := (Below.refl _ _).grown h3 (Nat.le_refl _) (by intro k hk; cases hk)
        refine ⟨v', w', hrun, own_low h2 hbase, ⟨h3.os, h3.tape, h3.output, h3.size, fun k hk _ => h3.block k hk (by simp)⟩, ?_, own_below hown hb (Nat.le_refl _)⟩
        rcases h2.2 with ⟨h, h0⟩ | ⟨g', cap', cur', h, k1, _⟩
        · omega
        · right; exact ⟨g', by rw [h]; rfl, k1⟩
theorem wpList_appK {ops : Array Oper} {rest : List Oper} {o : Oper} {a : Act} {Q : Exit → Act → World → Prop} (hgd : o.guard = none) (s x : Operand) (t : TypeId)
    (ho : o.op = .call { callee := .builtin .append, args := #[s, x], argTypes := #[t, t] })
    (base : Nat) (e : TypeId) (i : TypeInfo) (z : Value) (size bytes : Nat) (ht : P.underlying t = some (.slice e)) (hi : P.info? e = some i) (hz : i.zero = some z)
    (hsize : i.size = size) (hby : i.bytes = bytes) (hzs : z.cells.size = size) (hsz : 0 < size)
    (v : Value) (n : Nat) (xs : List Value) (hs : a.eval s = v) (hown : w.ownsRow base e size v n xs)
    (B : Nat) (A : Option Addr) (m c : Nat) (news : List Value) (hx : a.eval x = .slice A m c) (hl : news.length = m * size) (hr : Rd w B A news) (h1 : ∀ u ∈ news, u.oneCell' = true)
    (h63 : n + m ≤ maxLen) (hbytes : (n + m) * bytes ≤ 140737488355328) (hbase : base ≤ w.heap.size)
    (h : ∀ v' w', w'.ownsRow base e size v' (n + m) (xs ++ news) → w.grownBy w' v.ownBlock → (v'.ownBlock = v.ownBlock ∨ ∃ g, v'.ownBlock = some g ∧ w.heap.size ≤ g) → w'.ownsRow base e size v n xs → wpList P ops Q rest (a.put o.dst v') w') : wpList P ops Q (o :: rest) a w :=
  wpList_plain hgd fun K hK => by
    obtain ⟨v', w', hrun, h2, h3, h4, h5⟩ := run_appK (P := P) w base t o.type e i z size bytes ht hi hz hsize hby hzs hsz v n xs hown B A m c news hl hr h1 h63 hbytes hbase
    unfold Oper.wp execOp
    simp only [ho, resolve, invoke, builtin, Sem.run_bind, Sem.run_pure, Result.andThen_ok, List.map_toArray, List.map_cons, List.map_nil, hs, hx, hrun]
    exact hK _ _ (h v' w' h2 h3 h4 h5)
end
end Go.Proofs.Ytaljkdljinkemaa
