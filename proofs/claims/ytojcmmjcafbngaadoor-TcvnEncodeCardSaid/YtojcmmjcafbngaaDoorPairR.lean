/- Rows of pairs of ints of the call's own: append a pair just built. -/
import Derived.Test.YtojcmmjcafbngaaDoorFlatP
namespace Go.Proofs.YtojcmmjcafbngaaDoor
set_option linter.unusedVariables false
set_option linter.unusedSimpArgs false
set_option linter.unnecessarySimpa false
open Go.RowKit
/-- a row of pairs of the call's own, from block base on -/
def PR (w : World) (base : Nat) (v : Value) (ps : List (Int × Int)) : Prop := w.ownsRow base 37 2 v ps.length ((flatP ps).map (Value.int .i64))
theorem PR.nil (w : World) (base : Nat) : PR w base (.slice none 0 0) [] := World.ownsRow_nil _ _ _ _
theorem PR.form {w : World} {base : Nat} {v : Value} {ps : List (Int × Int)} (h : PR w base v ps) : ∃ A c, v = .slice A ps.length c ∧ ps.length ≤ c ∧ c ≤ maxLen := own_form h
theorem PR.rd {w : World} {base : Nat} {A : Option Addr} {n c : Nat} {ps : List (Int × Int)} (h : PR w base (.slice A n c) ps) : n = ps.length ∧ Rd w w.heap.size A ((flatP ps).map (Value.int .i64)) := by
  obtain ⟨A', c', e, _⟩ := PR.form h
  injection e with e1 e2 e3
  subst e1 e2 e3
  exact ⟨rfl, Rd.own h⟩
theorem PR.below {w w' : World} {B base : Nat} {v : Value} {ps : List (Int × Int)} (h : PR w base v ps) (hb : Below B w w') (hB : w.heap.size ≤ B) : PR w' base v ps := own_below h hb hB
theorem infopr : (Tryd.prog.info? 37).map (fun i => (i.zero, i.size, i.bytes)) = some (some (.agg #[.int .i64 0, .int .i64 0]), 2, 16) := by kernel_rfl

theorem wpList_appP {w : World} {ops : Array Oper} {rest : List Oper} {o : Oper} {a : Act} {Q : Exit → Act → World → Prop} (hgd : o.guard = none) (s x : Operand)
    (ho : o.op = .call { callee := .builtin .append, args := #[s, x], argTypes := #[35, 35] })
    (base : Nat) (v : Value) (ps : List (Int × Int)) (p q : Int) (hs : a.eval s = v) (hown : PR w base v ps) (N : Nat) (hx : a.eval x = .slice (some ⟨N, 0, none⟩) 1 1) (hN : w.heap.size = N)
    (hsz : ps.length ≤ 1048576) (hbase : base ≤ w.heap.size)
    (h : ∀ v' w', Hid (PR w' base v' (ps ++ [(p, q)])) → Hid (∀ B w0, B ≤ base → Below B w0 w → Below B w0 w') → wpList Tryd.prog ops Q rest (a.put o.dst v') w') :
    wpList Tryd.prog ops Q (o :: rest) a (w.alloc (.cells #[.int .i64 p, .int .i64 q] 37)) := by
  subst hN
  obtain ⟨i0, hi, hz0, hz1, hz2⟩ := info_parts infopr
  have hA := hown.alloc (.cells #[.int .i64 p, .int .i64 q] 37)
  have hrd := Rd_new w #[.int .i64 p, .int .i64 q] 37
  refine wpList_appB _ hgd s x 35 ho base 37 i0 _ 2 16 Tryd.underlying35 hi hz0 hz1 hz2 rfl (by decide) v ps.length _ hs hA _ _ 1 1 [.int .i64 p, .int .i64 q] hx rfl hrd ?_ (by simp only [maxLen]; omega) (by omega) (by simp; omega) ?_
  · intro u hu; simp at hu; rcases hu with rfl | rfl <;> rfl
  intro v' w4 hown4 hg4 hv4
  refine h v' w4 (Lib.hid ?_) (Lib.hid ?_)
  · unfold PR
    rw [flatP_app, List.length_append, List.map_append]
    exact hown4
  · intro B w0 hB hw0
    exact below_own (hw0.alloc (by have := hw0.size; rcases Nat.lt_or_ge w.heap.size B with hl | hl <;> omega) _) hg4 hA hB (by simp; omega)
end Go.Proofs.YtojcmmjcafbngaaDoor
