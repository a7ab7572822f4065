/- Layer 13: two rows of ints of the call's own side by side; letters behind one another, read. -/
import Derived.Test.YtgjmclbcmfkhdaaDoorVnE
import Derived.Test.YtgjmclbcmfkhdaaDoorRewC
namespace Go.Proofs.YtgjmclbcmfkhdaaDoor
set_option linter.unusedVariables false
set_option linter.unusedSimpArgs false
set_option linter.unnecessarySimpa false
open Go.RowKit Go.Shelf

/-- append a slice of ints: and where the new row lies -/
theorem wpList_appIB {w : World} {ops : Array Oper} {rest : List Oper} {o : Oper} {a : Act} {Q : Exit → Act → World → Prop} (hgd : o.guard = none) (s x : Operand)
    (ho : o.op = .call { callee := .builtin .append, args := #[s, x], argTypes := #[30, 30] })
    (base : Nat) (v : Value) (zs : List Int) (hs : a.eval s = v) (hown : IR w base v zs) (A : Option Addr) (m c : Nat) (ys : List Int) (hx : a.eval x = .slice A m c) (hm : m = ys.length) (B : Nat) (hr : Rd w B A (ys.map (Value.int .i64)))
    (hsz : zs.length + ys.length ≤ 17592186044416) (hbase : base ≤ w.heap.size)
    (h : ∀ v' w', Hid (IR w' base v' (zs ++ ys)) → Hid (w.grownBy w' v.ownBlock) → Hid (v'.ownBlock = v.ownBlock ∨ v'.ownBlock = some w.heap.size) → wpList Tryd.prog ops Q rest (a.put o.dst v') w') : wpList Tryd.prog ops Q (o :: rest) a w := by
  obtain ⟨i0, hi, hz0, hz1, hz2⟩ := info_parts infoI
  subst hm
  refine wpList_appB w hgd s x 30 ho base 3 i0 (.int .i64 0) 1 8 Tryd.underlying30 hi hz0 hz1 hz2 rfl (by decide) v zs.length _ hs hown B A ys.length c _ hx (by simp) hr (ints_one _ _) (by simp only [maxLen]; omega) (by omega) hbase ?_
  intro v' w' h1 h2 h3
  refine h v' w' (Lib.hid ?_) (Lib.hid h2) (Lib.hid h3)
  unfold IR OwnI
  rw [List.length_append, List.map_append]
  exact h1
/-- two rows of ints of the call's own, apart -/
structure TwoI (w : World) (base : Nat) (v u : Value) (xs ys : List Int) : Prop where
  one : IR w base v xs
  two : IR w base u ys
  dis : v.ownBlock = none ∨ v.ownBlock ≠ u.ownBlock
theorem TwoI.nil (w : World) (base : Nat) : TwoI w base (.slice none 0 0) (.slice none 0 0) [] [] := ⟨IR.nil _ _, IR.nil _ _, .inl rfl⟩
theorem TwoI.below {w w' : World} {base : Nat} {v u : Value} {xs ys : List Int} (h : TwoI w base v u xs ys) (hb : Below w.heap.size w w') : TwoI w' base v u xs ys := ⟨h.one.below hb (Nat.le_refl _), h.two.below hb (Nat.le_refl _), h.dis⟩
theorem TwoI.first {w w' : World} {base : Nat} {v u v' : Value} {xs ys zs : List Int} (h : TwoI w base v u xs ys) (h1 : IR w' base v' zs) (hg : w.grownBy w' v.ownBlock) (hv : v'.ownBlock = v.ownBlock ∨ v'.ownBlock = some w.heap.size) : TwoI w' base v' u zs ys := by
  refine ⟨h1, World.ownsRow.kept h.two hg ?_, ?_⟩
  · cases hu : u.ownBlock with
    | none => exact .inl rfl
    | some g =>
      refine .inr fun e => ?_
      rcases h.dis with d | d
      · rw [d] at e; cases e
      · exact d (by rw [hu]; exact e.symm)
  · rcases hv with e | e
    · rw [e]; exact h.dis
    · rw [e]
      refine .inr fun e2 => ?_
      have := (h.two.lt e2.symm).2
      omega
theorem TwoI.second {w w' : World} {base : Nat} {v u u' : Value} {xs ys zs : List Int} (h : TwoI w base v u xs ys) (h1 : IR w' base u' zs) (hg : w.grownBy w' u.ownBlock) (hv : u'.ownBlock = u.ownBlock ∨ u'.ownBlock = some w.heap.size) : TwoI w' base v u' xs zs := by
  refine ⟨World.ownsRow.kept h.one hg h.dis, h1, ?_⟩
  rcases hv with e | e
  · rw [e]; exact h.dis
  · rw [e]
    cases hu : v.ownBlock with
    | none => exact .inl rfl
    | some g =>
      refine .inr fun e2 => ?_
      injection e2 with e2
      have := (h.one.lt hu).2
      omega
/-- what rules ks read, one behind the other; what they mean -/
def vnIn (ks : List Nat) : List Int := ks.flatMap fun k => (vnR.getD k ([], [])).1
def vnOut (ks : List Nat) : List Int := ks.flatMap fun k => (vnR.getD k ([], [])).2
theorem vnIn_app (a b : List Nat) : vnIn (a ++ b) = vnIn a ++ vnIn b := by simp [vnIn]
theorem vnOut_app (a b : List Nat) : vnOut (a ++ b) = vnOut a ++ vnOut b := by simp [vnOut]
theorem vnIn_one (k : Nat) (h : k < vnR.length) : vnIn [k] = vnR[k].1 := by simp [vnIn, List.getD_eq_getElem?_getD, h]
theorem vnOut_one (k : Nat) (h : k < vnR.length) : vnOut [k] = vnR[k].2 := by simp [vnOut, List.getD_eq_getElem?_getD, h]
theorem vn_lens : ∀ (ks : List Nat), (∀ k ∈ ks, k < 262) → (vnIn ks).length ≤ 2 * ks.length ∧ (vnOut ks).length = ks.length
  | [], _ => by simp [vnIn, vnOut]
  | k :: ks, h => by
    have hk : k < vnR.length := by rw [vnR_len]; exact h k (by simp)
    have ih := vn_lens ks fun j hj => h j (by simp [hj])
    have hs := vnR_sides _ (List.getElem_mem hk)
    have e1 : vnIn (k :: ks) = vnR[k].1 ++ vnIn ks := by rw [← vnIn_one k hk, ← vnIn_app]; rfl
    have e2 : vnOut (k :: ks) = vnR[k].2 ++ vnOut ks := by rw [← vnOut_one k hk, ← vnOut_app]; rfl
    rw [e1, e2, List.length_append, List.length_append, List.length_cons]
    omega
theorem vn_reads2 (ks : List Nat) (h : ∀ k ∈ ks, k < 262) : outsT (rewA vnR 0 (vnIn ks)) = vnOut ks ∧ wrongT (rewA vnR 0 (vnIn ks)) = ⟨0, 0, [], 0⟩ := by
  obtain ⟨h1, h2⟩ := vn_reads ks h 0
  exact ⟨h1, wrongT_none h2⟩
end Go.Proofs.YtgjmclbcmfkhdaaDoor
