/- Texts of this seat, one behind the other: VietS, VcM. -/
import Derived.Test.YtapnefjiecabpaaGreatDoorZ5
import Derived.Test.YtapnefjiecabpaaGreatDoorZ13
import Derived.Test.YtapnefjiecabpaaGreatDoorZ4
import Derived.Deep.DeepCutAuto
namespace Go.Proofs.YtapnefjiecabpaaGreatDoor
set_option linter.unusedVariables false
set_option linter.unusedSimpArgs false
set_option linter.unnecessarySimpa false
open Go.RowKit Go.Shelf
attribute [local go_sem] run_store_complex

/-- what Sign answers, having looked at the first K -/
def sgK : Nat → Int → Nat × Nat × Bool
  | 0, _ => (0, 0, false)
  | K + 1, s => if mkS K == s then (mkR K, mkI K, true) else sgK K s
set_option maxHeartbeats 1600000 in
theorem sign_any (s : Int) (w : World) :
    Calls Tryz.prog 133 #[.int .i64 s] w fun e w' => e = .returned (.tuple #[.complex .f64 (sgK 8 s).1 (sgK 8 s).2.1, .bool (sgK 8 s).2.2]) ∧ w' = w := by
  by_cases h1 : s = 774
  · subst h1
    go_enter Tryz.func133, Tryz.ntmps133
    go_wp2
    go_ret2
    exact ⟨rfl, rfl⟩
  by_cases h2 : s = 770
  · subst h2
    go_enter Tryz.func133, Tryz.ntmps133
    go_wp2
    go_ret2
    exact ⟨rfl, rfl⟩
  by_cases h3 : s = 795
  · subst h3
    go_enter Tryz.func133, Tryz.ntmps133
    go_wp2
    go_ret2
    exact ⟨rfl, rfl⟩
  by_cases h4 : s = 768
  · subst h4
    go_enter Tryz.func133, Tryz.ntmps133
    go_wp2
    go_ret2
    exact ⟨rfl, rfl⟩
  by_cases h5 : s = 769
  · subst h5
    go_enter Tryz.func133, Tryz.ntmps133
    go_wp2
    go_ret2
    exact ⟨rfl, rfl⟩
  by_cases h6 : s = 777
  · subst h6
    go_enter Tryz.func133, Tryz.ntmps133
    go_wp2
    go_ret2
    exact ⟨rfl, rfl⟩
  by_cases h7 : s = 771
  · subst h7
    go_enter Tryz.func133, Tryz.ntmps133
    go_wp2
    go_ret2
    exact ⟨rfl, rfl⟩
  by_cases h8 : s = 803
  · subst h8
    go_enter Tryz.func133, Tryz.ntmps133
    go_wp2
    go_ret2
    exact ⟨rfl, rfl⟩
  have e1 : (s == 774) = false := by simpa using h1
  have e2 : (s == 770) = false := by simpa using h2
  have e3 : (s == 795) = false := by simpa using h3
  have e4 : (s == 768) = false := by simpa using h4
  have e5 : (s == 769) = false := by simpa using h5
  have e6 : (s == 777) = false := by simpa using h6
  have e7 : (s == 771) = false := by simpa using h7
  have e8 : (s == 803) = false := by simpa using h8
  have HV := Lib.hid (show sgK 8 s = (0, 0, false) by
    simp only [sgK, mkS, List.getD_cons_zero, List.getD_cons_succ]
    simp only [beq_iff_eq]
    rw [if_neg (Ne.symm h8), if_neg (Ne.symm h7), if_neg (Ne.symm h6), if_neg (Ne.symm h5), if_neg (Ne.symm h4), if_neg (Ne.symm h3), if_neg (Ne.symm h2), if_neg (Ne.symm h1)])
  clear h1 h2 h3 h4 h5 h6 h7 h8
  go_enter Tryz.func133, Tryz.ntmps133
  go_wp2
  go_ret2
  exact ⟨by rw [HV.out]; rfl, rfl⟩

theorem wpList_cadd {P : Program} {w : World} {ops : Array Oper} {rest : List Oper} {o : Oper} {a : Act} {Q : Exit → Act → World → Prop} (hgd : o.guard = none) (t u : TypeId) (x y : Operand) (ho : o.op = .binOp .add t x y u)
    (p q c d : Nat) (hx : a.eval x = .complex .f64 p q) (hy : a.eval y = .complex .f64 c d)
    (h : ∀ re im m, m ≤ 2 → SumIs p c re → SumIs q d im → wpList P ops Q rest (a.put o.dst (.complex .f64 re im)) (w.drewN m)) : wpList P ops Q (o :: rest) a w :=
  wpList_plain hgd fun K hK => by
    obtain ⟨re, im, m, hm, h1, h2, h3⟩ := run_cadd (P := P) w t p q c d
    unfold Oper.wp execOp
    simp only [ho, hx, hy, Sem.run_bind, Sem.run_pure, Result.andThen_ok, eqGuard, Bool.not_false, if_true, h1]
    exact hK _ _ (h re im m hm h2 h3)

/-- both have a mark, or both have a tone -/
def bothF (r i x y : Nat) : Bool := (!feq r 0 && !feq x 0) || (!feq i 0 && !feq y 0)
/-- what Add answers -/
def AddIs (b : Int) (r i x y : Nat) (e : Ending) : Prop :=
  (bothF r i x y = true ∧ e = .returned (.tuple #[.agg #[.int .i64 b, .complex .f64 r i], .bool false])) ∨
  (bothF r i x y = false ∧ ∃ re im, SumIs r x re ∧ SumIs i y im ∧
    (((joinF b re im).isSome = true ∧ e = .returned (.tuple #[.agg #[.int .i64 b, .complex .f64 re im], .bool true])) ∨
     ((joinF b re im).isSome = false ∧ e = .returned (.tuple #[.agg #[.int .i64 b, .complex .f64 r i], .bool false]))))
theorem ord_ne (a b : Nat) : (FloatKind.f64.format.order a b != some .eq) = !feq a b := rfl

set_option maxHeartbeats 3200000 in
theorem vadd_any (b : Int) (r i x y : Nat) (w : World) (hR : RowsV w) :
    Calls Tryz.prog 134 #[.agg #[.int .i64 b, .complex .f64 r i], .complex .f64 x y] w fun e w' => AddIs b r i x y e ∧ Below w.heap.size w w' := by
  have HR := Lib.hid hR
  have HJ := Lib.hid (fun re im W h => join_any b re im W h)
  obtain ⟨B, hB⟩ : ∃ B, bothF r i x y = B := ⟨_, rfl⟩
  have HBO := Lib.hid hB
  clear hR hB
  go_enter Tryz.func134, Tryz.ntmps134
  go_upto_region 1 with fail
  obtain ⟨W1, hW1⟩ : ∃ W1, (w.alloc (.cells #[.int .i64 b, .complex .f64 r i] 143)).alloc (.cells #[.int .i64 0, .complex .f64 0 0] 143) = W1 := ⟨_, rfl⟩
  have hb1 : Below w.heap.size w W1 := by rw [← hW1]; exact ((Below.refl _ w).alloc (Nat.le_refl _) _).alloc (by simp) _
  have q0 : Held W1 w.heap.size #[.int .i64 b, .complex .f64 r i] 143 := by rw [← hW1]; exact (Held.new w _ _).alloc _
  have q1 : Held W1 (w.heap.size + 1) #[.int .i64 0, .complex .f64 0 0] 143 := by rw [← hW1]; have := Held.new (w.alloc (.cells #[.int .i64 b, .complex .f64 r i] 143)) #[.int .i64 0, .complex .f64 0 0] 143; rwa [World.size_alloc] at this
  have k0 := q0.cell 0
  have k1 := q0.cell 1
  have hs1 := hb1.size
  rw [hW1]
  clear hW1
  go_cut [28] (fun s28 wx => s28 = .bool B ∧ wx = W1)
  case first =>
    have hB := HBO.out
    unfold bothF at hB
    have a1 := ord_ne r 0
    have a2 := ord_ne x 0
    have a3 := ord_ne i 0
    have a4 := ord_ne y 0
    cases h1 : feq r 0 <;> cases h2 : feq x 0 <;> cases h3 : feq i 0 <;> cases h4 : feq y 0
    all_goals
      rw [h1] at a1 hB
      rw [h2] at a2 hB
      rw [h3] at a3 hB
      rw [h4] at a4 hB
      simp only [Bool.not_true, Bool.not_false, Bool.and_true, Bool.and_false, Bool.or_true, Bool.or_false, Bool.true_and, Bool.false_and, Bool.true_or, Bool.false_or, Bool.or_self, Bool.and_self] at a1 a2 a3 a4 hB
      subst hB
      clear h1 h2 h3 h4
      go_wp2
      go_meet
      exact ⟨rfl, rfl⟩
  case rest =>
    obtain ⟨rfl, hwc⟩ := hcut
    subst hwc
    have f0 := q1.frozen 0
    have f1 := q1.frozen 1
    have k2 := q1.cell 0
    have k3 := q1.cell 1
    have HQ0 := Lib.hid q0
    have HQ1 := Lib.hid q1
    have HB1 := Lib.hid hb1
    have hl1 := q1.lt
    clear q0 q1 hb1
    cases B with
    | true =>
      go_wp2
      have hF := HQ1.out.set2 (.int .i64 b) (.complex .f64 r i)
      exact letter_ret1 rfl rfl hF rfl rfl rfl ⟨.inl ⟨HBO.out, rfl⟩, (HB1.out.setCell (p := ⟨w.heap.size + 1, 0, none⟩) (by simp) _).setCell (p := ⟨w.heap.size + 1, 1, none⟩) (by simp) _⟩
    | false =>
      go_wp2_with (refine wpList_cadd rfl _ _ _ _ rfl r i x y rfl rfl ?_; intro re im m hm hsr hsi; have HSR := Lib.hid hsr; have HSI := Lib.hid hsi; clear hsr hsi; obtain ⟨W2, hW2⟩ : ∃ W2, wc.drewN m = W2 := ⟨_, rfl⟩; have hq0 : Held W2 w.heap.size #[.int .i64 b, .complex .f64 r i] 143 := (by rw [← hW2]; exact HQ0.out); have hq1 : Held W2 (w.heap.size + 1) #[.int .i64 0, .complex .f64 0 0] 143 := (by rw [← hW2]; exact HQ1.out); have hb2 : Below w.heap.size w W2 := (by rw [← hW2]; exact ⟨HB1.out.os, HB1.out.tape, HB1.out.output, HB1.out.size, HB1.out.block⟩); rw [hW2]; clear hW2; have HQ2 := Lib.hid hq0; have HQ3 := Lib.hid hq1; have HB2 := Lib.hid hb2; have hs2 := hb2.size; have hl2 := hq1.lt; clear hq0 hq1 hb2 k0 k1 f0 f1 k2 k3)
      have hRW := HR.out.below (HB2.out.alloc (by omega) (.cells #[.int .i64 b, .complex .f64 re im] 143))
      refine (HJ.out re im _ hRW).mono ?_
      rintro e W3 ⟨rfl, hb3⟩
      have hb23 : Below W2.heap.size W2 W3 := ((Below.refl W2.heap.size W2).alloc (Nat.le_refl _) _).trans (hb3.mono (by simp))
      have q4 := HQ2.out.below hb23 (by omega)
      have q5 := HQ3.out.below hb23 (by omega)
      have q6 : Held W3 W2.heap.size #[.int .i64 b, .complex .f64 re im] 143 := (Held.new W2 _ _).below hb3 (by simp)
      have HB3 := Lib.hid (HB2.out.trans (hb23.mono hs2))
      have HQ5 := Lib.hid q5
      have c0 := q4.cell 0
      have c1 := q4.cell 1
      have c2 := q5.cell 0
      have c3 := q5.cell 1
      have c4 := q6.cell 0
      have c5 := q6.cell 1
      have f2 := q5.frozen 0
      have f3 := q5.frozen 1
      clear hRW hb3 hb23 q4 q5 q6
      cases hj : (joinF b re im).isSome with
      | true =>
        have HJ2 := Lib.hid hj
        clear hj
        go_wp2
        have hF := HQ5.out.set2 (.int .i64 b) (.complex .f64 re im)
        exact letter_ret1 rfl rfl hF rfl rfl rfl ⟨.inr ⟨HBO.out, re, im, HSR.out, HSI.out, .inl ⟨HJ2.out, rfl⟩⟩, (HB3.out.setCell (p := ⟨w.heap.size + 1, 0, none⟩) (by simp) _).setCell (p := ⟨w.heap.size + 1, 1, none⟩) (by simp) _⟩
      | false =>
        have HJ2 := Lib.hid hj
        clear hj
        go_wp2
        have hF := HQ5.out.set2 (.int .i64 b) (.complex .f64 r i)
        exact letter_ret1 rfl rfl hF rfl rfl rfl ⟨.inr ⟨HBO.out, re, im, HSR.out, HSI.out, .inr ⟨HJ2.out, rfl⟩⟩, (HB3.out.setCell (p := ⟨w.heap.size + 1, 0, none⟩) (by simp) _).setCell (p := ⟨w.heap.size + 1, 1, none⟩) (by simp) _⟩
end Go.Proofs.YtapnefjiecabpaaGreatDoor
namespace Go.Proofs.YtapnefjiecabpaaGreatDoor
set_option linter.unusedVariables false
set_option linter.unusedSimpArgs false
set_option linter.unnecessarySimpa false
open Go.RowKit Go.Shelf

/-- the mark, and the tone, that sign j adds -/
def mM (j : Nat) : Nat := [1, 2, 3, 0, 0, 0, 0, 0].getD j 0
def mT (j : Nat) : Nat := [0, 0, 0, 1, 2, 3, 4, 5].getD j 0
/-- which sign a scalar is -/
def sgI (s : Int) : Option Nat := (List.range 8).find? fun j => mkS j == s
theorem sgI_lt {s : Int} {j : Nat} (h : sgI s = some j) : j < 8 ∧ mkS j = s := ⟨List.mem_range.1 (List.mem_of_find?_eq_some h), by have := List.find?_some h; exact eq_of_beq this⟩
theorem mk_fl (j : Nat) (h : j < 8) : mkR j = fl (mM j) ∧ mkI j = fl (mT j) ∧ mM j ≤ 3 ∧ mT j ≤ 5 := by
  have := all_range (show (List.range 8).all (fun j => decide (mkR j = fl (mM j) ∧ mkI j = fl (mT j) ∧ mM j ≤ 3 ∧ mT j ≤ 5)) = true by decide +kernel) j h
  exact of_decide_eq_true this
theorem sg_none : ∀ (K : Nat) {s : Int}, (∀ j, j < K → (mkS j == s) = false) → sgK K s = (0, 0, false)
  | 0, _, _ => rfl
  | K + 1, s, h => by
    unfold sgK
    rw [h K (by omega)]
    exact sg_none K fun j hj => h j (by omega)
theorem sg_some (j : Nat) (h : j < 8) : sgK 8 (mkS j) = (mkR j, mkI j, true) := by
  have := all_range (show (List.range 8).all (fun j => decide (sgK 8 (mkS j) = (mkR j, mkI j, true))) = true by decide +kernel) j h
  exact of_decide_eq_true this
theorem sgK_eq (s : Int) : sgK 8 s = match sgI s with | some j => (fl (mM j), fl (mT j), true) | none => (0, 0, false) := by
  cases h : sgI s with
  | none =>
    unfold sgI at h
    rw [List.find?_eq_none] at h
    exact sg_none 8 fun j hj => by
      have := h j (List.mem_range.2 hj)
      simpa using this
  | some j =>
    obtain ⟨h1, h2⟩ := sgI_lt h
    have := mk_fl j h1
    subst h2
    rw [sg_some j h1, this.1, this.2.1]
/-- small sums and products of floats -/
theorem fadd_small (a b : Nat) (ha : a < 6) (hb : b < 6) : floatBits .add .f64 (fl a) (fl b) = some (fl (a + b)) := by
  have := all_range (show (List.range 6).all (fun a => (List.range 6).all fun b => decide (floatBits .add .f64 (fl a) (fl b) = some (fl (a + b)))) = true by decide +kernel) a ha
  have := all_range this b hb
  exact of_decide_eq_true this
theorem SumIs.det {a c r v : Nat} (h : SumIs a c r) (k : floatBits .add .f64 a c = some v) : r = v := by
  rcases h with h | ⟨h, _⟩
  · rw [k] at h; injection h with h; exact h.symm
  · rw [k] at h; cases h
theorem feq_zero (a : Nat) (ha : a ≤ 6) : feq (fl a) 0 = (a == 0) := by
  have := feq_fl a 0 ha (by omega)
  rwa [fl_zero] at this
/-- both have a mark, or both a tone -/
def bothK (k j : Nat) : Bool := (LM k != 0 && mM j != 0) || (LT k != 0 && mT j != 0)
theorem bothF_eq (k j : Nat) (hk : k < 148) (hj : j < 8) : bothF (fl (LM k)) (fl (LT k)) (fl (mM j)) (fl (mT j)) = bothK k j := by
  have h1 := letter_small k hk
  have h2 := mk_fl j hj
  unfold bothF bothK
  rw [feq_zero _ (by omega), feq_zero _ (by omega), feq_zero _ (by omega), feq_zero _ (by omega)]
  rfl
theorem both_small {k j : Nat} (hk : k < 148) (hj : j < 8) (h : bothK k j = false) : LM k + mM j ≤ 4 ∧ LT k + mT j ≤ 5 ∧ (LM k = 0 ∨ mM j = 0) ∧ (LT k = 0 ∨ mT j = 0) := by
  have h1 := letter_small k hk
  have h2 := mk_fl j hj
  unfold bothK at h
  simp only [Bool.or_eq_false_iff, Bool.and_eq_false_imp, bne_iff_ne, ne_eq, bne_eq_false_iff_eq] at h
  omega
/-- the letter that is letter k with sign j more, if there is one -/
def sumP (k j i : Nat) : Bool := LB k == LB i && (LM k + mM j == LM i && LT k + mT j == LT i)
def sumK (k j : Nat) : Option Nat := findL (sumP k j)
def addK (k j : Nat) : Option Nat := if bothK k j = true then none else sumK k j
theorem join_sum (k j : Nat) (hk : k < 148) (hj : j < 8) (h : bothK k j = false) : joinF (LB k) (fl (LM k + mM j)) (fl (LT k + mT j)) = sumK k j := by
  have h1 := both_small hk hj h
  unfold joinF
  rw [join_same]
  unfold findL sumK findL
  have hp : ∀ i ∈ List.range 148, jnP (LB k) (fl (LM k + mM j)) (fl (LT k + mT j)) i = sumP k j i := fun i hi => by
    have h2 := letter_small i (List.mem_range.1 hi)
    unfold jnP sumP
    rw [feq_fl _ _ (by omega) (by omega), feq_fl _ _ (by omega) (by omega)]
  exact find_congr hp
where
  find_congr {l : List Nat} {p q : Nat → Bool} (h : ∀ i ∈ l, p i = q i) : l.find? p = l.find? q := by
    induction l with
    | nil => rfl
    | cons a l ih =>
      rw [List.find?_cons, List.find?_cons, h a (List.mem_cons_self), ih fun i hi => h i (List.mem_cons_of_mem _ hi)]
theorem sumK_lt {k j i : Nat} (h : sumK k j = some i) : i < 148 ∧ LB i = LB k ∧ LM i = LM k + mM j ∧ LT i = LT k + mT j := by
  have h1 := List.mem_range.1 (List.mem_of_find?_eq_some h)
  have h2 := List.find?_some h
  unfold sumP at h2
  simp only [Bool.and_eq_true, beq_iff_eq] at h2
  exact ⟨h1, h2.1.symm, h2.2.1.symm, h2.2.2.symm⟩

/-- s is the scalar of a letter -/
def isL (s : Int) : Bool := (splitF s).isSome
/-- the scalar of the letter c with the sign s more -/
def tog (c s : Int) : Option Int := match sgI s, splitF c with
  | some j, some k => (addK k j).map LS
  | _, _ => none
theorem isL_at (k : Nat) (h : k < 148) : isL (LS k) = true := by
  unfold isL splitF; rw [split_of k h]; rfl
theorem splitF_LS {s : Int} {k : Nat} (h : splitF s = some k) : k < 148 ∧ s = LS k := by
  have := findP_lt h
  exact ⟨this.1, by have h2 := this.2; unfold spP at h2; exact eq_of_beq h2⟩
theorem isL_zero : isL 0 = false := by decide +kernel
theorem isL_ne {s : Int} (h : isL s = true) : s ≠ 0 := fun e => by rw [e, isL_zero] at h; cases h
theorem tog_letter {c s u : Int} (h : tog c s = some u) : isL u = true := by
  unfold tog at h
  split at h
  · rename_i j k hj hk
    unfold addK at h
    split at h
    · cases h
    · cases e : sumK k j with
      | none => rw [e] at h; cases h
      | some i => rw [e] at h; injection h with h; rw [← h]; exact isL_at i (sumK_lt e).1
  · cases h
theorem tog_no {c s : Int} (h : isL c = false) : tog c s = none := by
  unfold tog
  split
  · rename_i hk
    unfold isL at h; rw [hk] at h; cases h
  · rfl
theorem tog_zero (s : Int) : tog 0 s = none := tog_no isL_zero

/-- what waits -/
def kn (c : Int) : List Int := if c = 0 then [] else [c]
theorem kn_zero : kn 0 = [] := rfl
theorem kn_ne {c : Int} (h : c ≠ 0) : kn c = [c] := by unfold kn; rw [if_neg h]
theorem kn_len (c : Int) : (kn c).length ≤ 1 := by unfold kn; split <;> simp
/-- P10.1: what waits, and what is returned -/
def stepC (c s : Int) : Int × List Int := match tog c s with
  | some u => (u, [])
  | none => if isL s = true then (s, kn c) else (0, kn c ++ [s])
theorem stepC_len (c s : Int) : (stepC c s).2.length + (kn (stepC c s).1).length ≤ (kn c).length + 1 := by
  unfold stepC
  cases h : tog c s with
  | some u =>
    have := isL_ne (tog_letter h)
    have hc : c ≠ 0 := fun e => by rw [e, tog_zero] at h; cases h
    simp [kn_ne this, kn_ne hc]
  | none =>
    have := kn_len s
    cases hs : isL s <;> simp [kn_zero]; omega
theorem stepC_len2 (c s : Int) : (stepC c s).2.length ≤ 2 := by
  have := stepC_len c s
  have := kn_len c
  omega
/-- what waits is a letter, or none does -/
def St (c : Int) : Prop := c = 0 ∨ isL c = true
/-- all, with c waiting -/
def cGo : Int → List Int → List Int
  | c, [] => kn c
  | c, s :: t => (stepC c s).2 ++ cGo (stepC c s).1 t
theorem cGo_len : ∀ (c : Int) (t : List Int), (cGo c t).length ≤ (kn c).length + t.length
  | c, [] => by simp [cGo]
  | c, s :: t => by
    have h1 := stepC_len c s
    have h2 := cGo_len (stepC c s).1 t
    simp only [cGo, List.length_append, List.length_cons]
    omega
/-- what is known after some, and what waits then -/
def cOut : Int → List Int → List Int
  | _, [] => []
  | c, s :: t => (stepC c s).2 ++ cOut (stepC c s).1 t
def cSt : Int → List Int → Int
  | c, [] => c
  | c, s :: t => cSt (stepC c s).1 t
theorem cGo_eq : ∀ (c : Int) (t : List Int), cGo c t = cOut c t ++ kn (cSt c t)
  | c, [] => by simp [cGo, cOut, cSt]
  | c, s :: t => by simp only [cGo, cOut, cSt, cGo_eq _ t, List.append_assoc]
theorem cOut_snoc : ∀ (c : Int) (t : List Int) (s : Int), cOut c (t ++ [s]) = cOut c t ++ (stepC (cSt c t) s).2 ∧ cSt c (t ++ [s]) = (stepC (cSt c t) s).1
  | c, [], s => by simp [cOut, cSt]
  | c, x :: t, s => by
    have := cOut_snoc (stepC c x).1 t s
    simp only [List.cons_append, cOut, cSt, this, List.append_assoc, and_self]
theorem cOut_len (c : Int) (t : List Int) : (cOut c t).length ≤ (kn c).length + t.length := by
  have h := cGo_len c t
  rw [cGo_eq, List.length_append] at h
  omega
/-! P10.2: once and for all -/
/-! parts -/
/-! P10.3 -/
end Go.Proofs.YtapnefjiecabpaaGreatDoor
