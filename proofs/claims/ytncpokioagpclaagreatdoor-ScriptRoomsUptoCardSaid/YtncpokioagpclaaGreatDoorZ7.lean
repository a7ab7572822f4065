/- Texts of this seat, one behind the other: ScA. -/
import Derived.Test.YtncpokioagpclaaGreatDoorZ6
import Derived.Handy
namespace Go.Proofs.YtncpokioagpclaaGreatDoor
set_option linter.unusedVariables false
set_option linter.unusedSimpArgs false
set_option linter.unnecessarySimpa false
open Go.RowKit
theorem infoact : (Tryz.prog.info? 81).map (fun i => (i.zero, i.size, i.bytes)) = some (some (.agg #[.int .i64 0, .int .i64 0, .slice none 0 0]), 3, 40) := by kernel_rfl
theorem wpList_appAc {w : World} {ops : Array Oper} {rest : List Oper} {o : Oper} {a : Act} {Q : Exit → Act → World → Prop} (hgd : o.guard = none) (s x : Operand)
    (ho : o.op = .call { callee := .builtin .append, args := #[s, x], argTypes := #[75, 75] })
    (base : Nat) (v : Value) (acc : List Ac) (kd rm : Int) (q : Value) (us : List Int) (hs : a.eval s = v) (hown : OwnAc base w v acc) (hq : U8 (fun b => v.ownBlock ≠ some b) w q us)
    (N : Nat) (hN : w.heap.size = N) (hx : a.eval x = .slice (some ⟨N, 0, none⟩) 1 1) (hsz : acc.length ≤ 2000000) (hbase : base ≤ w.heap.size)
    (h : ∀ v' w', Hid (OwnAc base w' v' (acc ++ [⟨kd, rm, us⟩])) → Hid (w.grownBy w' v.ownBlock) → Hid (v'.ownBlock = v.ownBlock ∨ ∃ b, v'.ownBlock = some b ∧ w.heap.size ≤ b) → wpList Tryz.prog ops Q rest (a.put o.dst v') w') :
    wpList Tryz.prog ops Q (o :: rest) a (w.alloc (.cells #[.int .i64 kd, .int .i64 rm, q] 81)) := by
  subst hN
  obtain ⟨i0, hi, hz0, hz1, hz2⟩ := info_parts infoact
  obtain ⟨xs, ho1, hx1⟩ := hown
  have hba : Below w.heap.size w (w.alloc (.cells #[.int .i64 kd, .int .i64 rm, q] 81)) := (Below.refl _ _).alloc (Nat.le_refl _) _
  refine wpList_appB _ hgd s x 75 ho base 81 i0 _ 3 40 Tryz.underlying75 hi hz0 hz1 hz2 rfl (by decide) v acc.length xs hs (ho1.alloc _) _ _ 1 1 [.int .i64 kd, .int .i64 rm, q] hx rfl (Rd_new w #[.int .i64 kd, .int .i64 rm, q] _) ?_ (by simp only [maxLen]; omega) (by omega) (by simp; omega) ?_
  · intro u hu; simp at hu; rcases hu with rfl | rfl | rfl
    · rfl
    · rfl
    · exact hq.one
  intro v' w4 hown4 hg4 hv4
  have key : ∀ b, b < w.heap.size → v.ownBlock ≠ some b → v'.ownBlock ≠ some b ∧ w4.heap[b]? = w.heap[b]? := fun b hb hx => by
    refine ⟨fun e => ?_, (hg4.block b (by simp; omega) (fun e => hx e.symm)).trans (hba.block b hb)⟩
    rcases hv4 with h1 | h1
    · exact hx (h1.symm.trans e)
    · rw [h1] at e; injection e with e; simp at e; omega
  have hs4 : w.heap.size ≤ w4.heap.size := Nat.le_trans hba.size hg4.size
  refine h v' w4 (Lib.hid ⟨xs ++ [.int .i64 kd, .int .i64 rm, q], by rw [List.length_append]; exact hown4, (hx1.step hs4 key).app ⟨rfl, rfl, hq.step hs4 key, trivial⟩⟩) (Lib.hid ((World.grownBy_alloc w _ v.ownBlock).trans hg4)) (Lib.hid ?_)
  rcases hv4 with h1 | h1
  · exact .inl h1
  · exact .inr ⟨_, h1, by simp⟩
end Go.Proofs.YtncpokioagpclaaGreatDoor
