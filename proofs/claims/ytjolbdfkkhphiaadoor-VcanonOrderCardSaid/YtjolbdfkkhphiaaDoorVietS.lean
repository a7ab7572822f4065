/- Layer 9: viet.Sign, viet.Add; the law's Marks. -/
import Derived.Test.YtjolbdfkkhphiaaDoorVietK
import Derived.Test.YtjolbdfkkhphiaaDoorFork
import Derived.Deep.DeepCutAuto
namespace Go.Proofs.YtjolbdfkkhphiaaDoor
set_option linter.unusedVariables false
set_option linter.unusedSimpArgs false
set_option linter.unnecessarySimpa false
open Go.RowKit Go.Shelf
attribute [local go_sem] run_store_complex

/-- the combining scalars, and what they add -/
def mkS (k : Nat) : Int := [774, 770, 795, 768, 769, 777, 771, 803].getD k 0
def mkR (k : Nat) : Nat := [4607182418800017408, 4611686018427387904, 4613937818241073152, 0, 0, 0, 0, 0].getD k 0
def mkI (k : Nat) : Nat := [0, 0, 0, 4607182418800017408, 4611686018427387904, 4613937818241073152, 4616189618054758400, 4617315517961601024].getD k 0
/-- what Sign answers, having looked at the first K -/
def sgK : Nat → Int → Nat × Nat × Bool
  | 0, _ => (0, 0, false)
  | K + 1, s => if mkS K == s then (mkR K, mkI K, true) else sgK K s
theorem ret_cb {a b c d : Nat} {u v : Bool} {x : Nat × Nat × Bool} (h : (a, b, u) = x) : Ending.returned (.tuple #[.complex .f64 a b, .bool u]) = .returned (.tuple #[.complex .f64 x.1 x.2.1, .bool x.2.2]) := by rw [← h]

set_option maxHeartbeats 1600000 in
theorem sign_any (s : Int) (w : World) :
    Calls Tryd.prog 22 #[.int .i64 s] w fun e w' => e = .returned (.tuple #[.complex .f64 (sgK 8 s).1 (sgK 8 s).2.1, .bool (sgK 8 s).2.2]) ∧ w' = w := by
  by_cases h1 : s = 774
  · subst h1
    go_enter Tryd.func22, Tryd.ntmps22
    go_wp2
    go_ret2
    exact ⟨rfl, rfl⟩
  by_cases h2 : s = 770
  · subst h2
    go_enter Tryd.func22, Tryd.ntmps22
    go_wp2
    go_ret2
    exact ⟨rfl, rfl⟩
  by_cases h3 : s = 795
  · subst h3
    go_enter Tryd.func22, Tryd.ntmps22
    go_wp2
    go_ret2
    exact ⟨rfl, rfl⟩
  by_cases h4 : s = 768
  · subst h4
    go_enter Tryd.func22, Tryd.ntmps22
    go_wp2
    go_ret2
    exact ⟨rfl, rfl⟩
  by_cases h5 : s = 769
  · subst h5
    go_enter Tryd.func22, Tryd.ntmps22
    go_wp2
    go_ret2
    exact ⟨rfl, rfl⟩
  by_cases h6 : s = 777
  · subst h6
    go_enter Tryd.func22, Tryd.ntmps22
    go_wp2
    go_ret2
    exact ⟨rfl, rfl⟩
  by_cases h7 : s = 771
  · subst h7
    go_enter Tryd.func22, Tryd.ntmps22
    go_wp2
    go_ret2
    exact ⟨rfl, rfl⟩
  by_cases h8 : s = 803
  · subst h8
    go_enter Tryd.func22, Tryd.ntmps22
    go_wp2
    go_ret2
    exact ⟨rfl, rfl⟩
  have e1 : (s == 774) = false := by simpa using h1
  have e2 : (s == 770) = false := by simpa using h2
  have e3 : (s == 795) = false := by simpa using h3
  have e4 : (s == 768) = false := by simpa using h4
  have e5 : (s == 769) = false := by simpa using h5
  have e6 : (s == 777) = false := by simpa using h6
  have e7 : (s == 771) = false := by simpa using h7
  have e8 : (s == 803) = false := by simpa using h8
  have HV := Lib.hid (show sgK 8 s = (0, 0, false) by
    simp only [sgK, mkS, List.getD_cons_zero, List.getD_cons_succ]
    simp only [beq_iff_eq]
    rw [if_neg (Ne.symm h8), if_neg (Ne.symm h7), if_neg (Ne.symm h6), if_neg (Ne.symm h5), if_neg (Ne.symm h4), if_neg (Ne.symm h3), if_neg (Ne.symm h2), if_neg (Ne.symm h1)])
  clear h1 h2 h3 h4 h5 h6 h7 h8
  go_enter Tryd.func22, Tryd.ntmps22
  go_wp2
  go_ret2
  exact ⟨by rw [HV.out]; rfl, rfl⟩

theorem wpList_cadd {P : Program} {w : World} {ops : Array Oper} {rest : List Oper} {o : Oper} {a : Act} {Q : Exit → Act → World → Prop} (hgd : o.guard = none) (t u : TypeId) (x y : Operand) (ho : o.op = .binOp .add t x y u)
    (p q c d : Nat) (hx : a.eval x = .complex .f64 p q) (hy : a.eval y = .complex .f64 c d)
    (h : ∀ re im m, m ≤ 2 → SumIs p c re → SumIs q d im → wpList P ops Q rest (a.put o.dst (.complex .f64 re im)) (w.drewN m)) : wpList P ops Q (o :: rest) a w :=
  wpList_plain hgd fun K hK => by
    obtain ⟨re, im, m, hm, h1, h2, h3⟩ := run_cadd (P := P) w t p q c d
    unfold Oper.wp execOp
    simp only [ho, hx, hy, Sem.run_bind, Sem.run_pure, Result.andThen_ok, eqGuard, Bool.not_false, if_true, h1]
    exact hK _ _ (h re im m hm h2 h3)

/-- both have a mark, or both have a tone -/
def bothF (r i x y : Nat) : Bool := (!feq r 0 && !feq x 0) || (!feq i 0 && !feq y 0)
/-- what Add answers -/
def AddIs (b : Int) (r i x y : Nat) (e : Ending) : Prop :=
  (bothF r i x y = true ∧ e = .returned (.tuple #[.agg #[.int .i64 b, .complex .f64 r i], .bool false])) ∨
  (bothF r i x y = false ∧ ∃ re im, SumIs r x re ∧ SumIs i y im ∧
    (((joinF b re im).isSome = true ∧ e = .returned (.tuple #[.agg #[.int .i64 b, .complex .f64 re im], .bool true])) ∨
     ((joinF b re im).isSome = false ∧ e = .returned (.tuple #[.agg #[.int .i64 b, .complex .f64 r i], .bool false]))))
theorem ord_ne (a b : Nat) : (FloatKind.f64.format.order a b != some .eq) = !feq a b := rfl

set_option maxHeartbeats 3200000 in
theorem add_any (b : Int) (r i x y : Nat) (w : World) (hR : RowsV w) :
    Calls Tryd.prog 23 #[.agg #[.int .i64 b, .complex .f64 r i], .complex .f64 x y] w fun e w' => AddIs b r i x y e ∧ Below w.heap.size w w' := by
  have HR := Lib.hid hR
  have HJ := Lib.hid (fun re im W h => join_any b re im W h)
  obtain ⟨B, hB⟩ : ∃ B, bothF r i x y = B := ⟨_, rfl⟩
  have HBO := Lib.hid hB
  clear hR hB
  go_enter Tryd.func23, Tryd.ntmps23
  go_upto_region 1 with fail
  obtain ⟨W1, hW1⟩ : ∃ W1, (w.alloc (.cells #[.int .i64 b, .complex .f64 r i] 35)).alloc (.cells #[.int .i64 0, .complex .f64 0 0] 35) = W1 := ⟨_, rfl⟩
  have hb1 : Below w.heap.size w W1 := by rw [← hW1]; exact ((Below.refl _ w).alloc (Nat.le_refl _) _).alloc (by simp) _
  have q0 : Held W1 w.heap.size #[.int .i64 b, .complex .f64 r i] 35 := by rw [← hW1]; exact (Held.new w _ _).alloc _
  have q1 : Held W1 (w.heap.size + 1) #[.int .i64 0, .complex .f64 0 0] 35 := by rw [← hW1]; have := Held.new (w.alloc (.cells #[.int .i64 b, .complex .f64 r i] 35)) #[.int .i64 0, .complex .f64 0 0] 35; rwa [World.size_alloc] at this
  have k0 := q0.cell 0
  have k1 := q0.cell 1
  have hs1 := hb1.size
  rw [hW1]
  clear hW1
  go_cut [28] (fun s28 wx => s28 = .bool B ∧ wx = W1)
  case first =>
    have hB := HBO.out
    unfold bothF at hB
    have a1 := ord_ne r 0
    have a2 := ord_ne x 0
    have a3 := ord_ne i 0
    have a4 := ord_ne y 0
    cases h1 : feq r 0 <;> cases h2 : feq x 0 <;> cases h3 : feq i 0 <;> cases h4 : feq y 0
    all_goals
      rw [h1] at a1 hB
      rw [h2] at a2 hB
      rw [h3] at a3 hB
      rw [h4] at a4 hB
      simp only [Bool.not_true, Bool.not_false, Bool.and_true, Bool.and_false, Bool.or_true, Bool.or_false, Bool.true_and, Bool.false_and, Bool.true_or, Bool.false_or, Bool.or_self, Bool.and_self] at a1 a2 a3 a4 hB
      subst hB
      clear h1 h2 h3 h4
      go_wp2
      go_meet
      exact ⟨rfl, rfl⟩
  case rest =>
    obtain ⟨rfl, hwc⟩ := hcut
    subst hwc
    have f0 := q1.frozen 0
    have f1 := q1.frozen 1
    have k2 := q1.cell 0
    have k3 := q1.cell 1
    have HQ0 := Lib.hid q0
    have HQ1 := Lib.hid q1
    have HB1 := Lib.hid hb1
    have hl1 := q1.lt
    clear q0 q1 hb1
    cases B with
    | true =>
      go_wp2
      have hF := HQ1.out.set2 (.int .i64 b) (.complex .f64 r i)
      exact letter_ret1 rfl rfl hF rfl rfl rfl ⟨.inl ⟨HBO.out, rfl⟩, (HB1.out.setCell (p := ⟨w.heap.size + 1, 0, none⟩) (by simp) _).setCell (p := ⟨w.heap.size + 1, 1, none⟩) (by simp) _⟩
    | false =>
      go_wp2_with (refine wpList_cadd rfl _ _ _ _ rfl r i x y rfl rfl ?_; intro re im m hm hsr hsi; have HSR := Lib.hid hsr; have HSI := Lib.hid hsi; clear hsr hsi; obtain ⟨W2, hW2⟩ : ∃ W2, wc.drewN m = W2 := ⟨_, rfl⟩; have hq0 : Held W2 w.heap.size #[.int .i64 b, .complex .f64 r i] 35 := (by rw [← hW2]; exact HQ0.out); have hq1 : Held W2 (w.heap.size + 1) #[.int .i64 0, .complex .f64 0 0] 35 := (by rw [← hW2]; exact HQ1.out); have hb2 : Below w.heap.size w W2 := (by rw [← hW2]; exact ⟨HB1.out.os, HB1.out.tape, HB1.out.output, HB1.out.size, HB1.out.block⟩); rw [hW2]; clear hW2; have HQ2 := Lib.hid hq0; have HQ3 := Lib.hid hq1; have HB2 := Lib.hid hb2; have hs2 := hb2.size; have hl2 := hq1.lt; clear hq0 hq1 hb2 k0 k1 f0 f1 k2 k3)
      have hRW := HR.out.below (HB2.out.alloc (by omega) (.cells #[.int .i64 b, .complex .f64 re im] 35))
      refine (HJ.out re im _ hRW).mono ?_
      rintro e W3 ⟨rfl, hb3⟩
      have hb23 : Below W2.heap.size W2 W3 := ((Below.refl W2.heap.size W2).alloc (Nat.le_refl _) _).trans (hb3.mono (by simp))
      have q4 := HQ2.out.below hb23 (by omega)
      have q5 := HQ3.out.below hb23 (by omega)
      have q6 : Held W3 W2.heap.size #[.int .i64 b, .complex .f64 re im] 35 := (Held.new W2 _ _).below hb3 (by simp)
      have HB3 := Lib.hid (HB2.out.trans (hb23.mono hs2))
      have HQ5 := Lib.hid q5
      have c0 := q4.cell 0
      have c1 := q4.cell 1
      have c2 := q5.cell 0
      have c3 := q5.cell 1
      have c4 := q6.cell 0
      have c5 := q6.cell 1
      have f2 := q5.frozen 0
      have f3 := q5.frozen 1
      clear hRW hb3 hb23 q4 q5 q6
      cases hj : (joinF b re im).isSome with
      | true =>
        have HJ2 := Lib.hid hj
        clear hj
        go_wp2
        have hF := HQ5.out.set2 (.int .i64 b) (.complex .f64 re im)
        exact letter_ret1 rfl rfl hF rfl rfl rfl ⟨.inr ⟨HBO.out, re, im, HSR.out, HSI.out, .inl ⟨HJ2.out, rfl⟩⟩, (HB3.out.setCell (p := ⟨w.heap.size + 1, 0, none⟩) (by simp) _).setCell (p := ⟨w.heap.size + 1, 1, none⟩) (by simp) _⟩
      | false =>
        have HJ2 := Lib.hid hj
        clear hj
        go_wp2
        have hF := HQ5.out.set2 (.int .i64 b) (.complex .f64 r i)
        exact letter_ret1 rfl rfl hF rfl rfl rfl ⟨.inr ⟨HBO.out, re, im, HSR.out, HSI.out, .inr ⟨HJ2.out, rfl⟩⟩, (HB3.out.setCell (p := ⟨w.heap.size + 1, 0, none⟩) (by simp) _).setCell (p := ⟨w.heap.size + 1, 1, none⟩) (by simp) _⟩
theorem joinF_congr {b : Int} {r r' i i' : Nat} (h : ∀ z, feq r z = feq r' z) (k : ∀ z, feq i z = feq i' z) : joinF b r i = joinF b r' i' := by
  have e : jnP b r i = jnP b r' i' := by funext n; unfold jnP; rw [h, k]
  unfold joinF; rw [e]
/-- what comes of Add, in three cases -/
def AddCase (b : Int) (r i x y : Nat) (B : Bool) (mr mi : Nat) (ok : Bool) : Prop :=
  (B = true ∧ ok = false ∧ mr = r ∧ mi = i) ∨
  (B = false ∧ ok = true ∧ SumIs r x mr ∧ SumIs i y mi ∧ (joinF b mr mi).isSome = true) ∨
  (B = false ∧ ok = false ∧ mr = r ∧ mi = i ∧ ∃ re im, SumIs r x re ∧ SumIs i y im ∧ (joinF b re im).isSome = false)
theorem addIs_case {b : Int} {r i x y : Nat} {e : Ending} (h : AddIs b r i x y e) : ∃ mr mi ok, e = .returned (.tuple #[.agg #[.int .i64 b, .complex .f64 mr mi], .bool ok]) ∧ AddCase b r i x y (bothF r i x y) mr mi ok := by
  rcases h with ⟨h1, h2⟩ | ⟨h1, re, im, h2, h3, ⟨h4, h5⟩ | ⟨h4, h5⟩⟩
  · exact ⟨r, i, false, h2, .inl ⟨h1, rfl, rfl, rfl⟩⟩
  · exact ⟨re, im, true, h5, .inr (.inl ⟨h1, rfl, h2, h3, h4⟩)⟩
  · exact ⟨r, i, false, h5, .inr (.inr ⟨h1, rfl, rfl, rfl, re, im, h2, h3, h4⟩)⟩
theorem join_feq {b : Int} {re im : Nat} (h : (joinF b re im).isSome = true) : ∃ z z', feq re z = true ∧ feq im z' = true := by
  obtain ⟨k, hk⟩ := Option.isSome_iff_exists.1 h
  have := (findP_lt hk).2
  unfold jnP at this
  simp only [Bool.and_eq_true] at this
  exact ⟨_, _, this.2.1, this.2.2⟩
theorem sum_valid {b : Int} {r i x y mr mi : Nat} (h : SumIs r x mr) (k : SumIs i y mi) (hj : (joinF b mr mi).isSome = true) : cSumBits .add .f64 r i x y = some (mr, mi) ∧ feq mr mr = true ∧ feq mi mi = true := by
  obtain ⟨z, z', h1, h2⟩ := join_feq hj
  have e1 := (h.same h h1).2
  have e2 := (k.same k h2).2
  refine ⟨?_, feq_self h1, feq_self h2⟩
  unfold cSumBits
  rw [e1, e2]
  rfl
theorem mk_cells (j : Nat) (h : j < 8) : ((List.range 8).map fun k => Value.complex .f64 (mkR k) (mkI k)).toArray[j]? = some (.complex .f64 (mkR j) (mkI j)) := by simp [h]

end Go.Proofs.YtjolbdfkkhphiaaDoor
