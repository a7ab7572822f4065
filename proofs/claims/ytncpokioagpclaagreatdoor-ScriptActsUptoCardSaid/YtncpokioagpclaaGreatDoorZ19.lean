/- Texts of this seat, one behind the other: VietA, VietB. -/
import Derived.Test.YtncpokioagpclaaGreatDoorZ15
import Derived.Maps.AppendAt
import Derived.RangeFuncBox
import Derived.Sort.CutIn
import Derived.Test.YtncpokioagpclaaGreatDoorZ18
namespace Go.Proofs.YtncpokioagpclaaGreatDoor
set_option linter.unusedVariables false
set_option linter.unusedSimpArgs false
set_option linter.unnecessarySimpa false
open Go.RowKit Go.Shelf
attribute [local go_sem] Oper.semAt_some run_store_complex

def lcells (ks : List Nat) : List Value := ks.flatMap fun k => [.int .i64 (LB k), .complex .f64 (fl (LM k)) (fl (LT k))]
def scells (ks : List Nat) : List Value := ks.map fun k => .int .i64 (LS k)
theorem lcells_snoc (ks : List Nat) (k : Nat) : lcells (ks ++ [k]) = lcells ks ++ [.int .i64 (LB k), .complex .f64 (fl (LM k)) (fl (LT k))] := by simp [lcells]
theorem scells_snoc (ks : List Nat) (k : Nat) : scells (ks ++ [k]) = scells ks ++ [.int .i64 (LS k)] := by simp [scells]
/-- the two variables of All, and what they hold -/
structure AllSt (n₀ : Nat) (W : World) (v1 v2 : Value) (ks js : List Nat) : Prop where
  b1 : Boxed W n₀ 171 v1
  r1 : W.ownsRow n₀ 141 2 v1 ks.length (lcells ks)
  b2 : Boxed W (n₀ + 1) 34 v2
  r2 : W.ownsRow n₀ 3 1 v2 js.length (scells js)
theorem own_block {w : World} {base size n : Nat} {e : TypeId} {v : Value} {xs : List Value} (h : w.ownsRow base e size v n xs) {g : Nat} (hg : v.ownBlock = some g) : ∃ cur, w.heap[g]? = some (.cells cur e (0, 0)) := by
  rcases h.2 with ⟨rfl, _⟩ | ⟨g', cap, cur, rfl, _, hb, _⟩
  · simp [Value.ownBlock] at hg
  · obtain rfl : g' = g := by simpa [Value.ownBlock] using hg
    exact ⟨cur, hb⟩
theorem rows_apart {w : World} {base size n base' size' n' : Nat} {e e' : TypeId} {v v' : Value} {xs xs' : List Value} (h : w.ownsRow base e size v n xs) (h' : w.ownsRow base' e' size' v' n' xs') (hne : e ≠ e') : v.ownBlock = none ∨ v.ownBlock ≠ v'.ownBlock := by
  cases hv : v.ownBlock with
  | none => exact .inl rfl
  | some g =>
    refine .inr fun e2 => ?_
    obtain ⟨c1, h1⟩ := own_block h hv
    obtain ⟨c2, h2⟩ := own_block h' e2.symm
    rw [h1] at h2
    injection h2 with h2
    injection h2 with _ h2 _
    exact hne h2
theorem AllSt.grown {n₀ : Nat} {W W' : World} {row : Option Nat} {v1 v2 : Value} {ks js : List Nat} (h : AllSt n₀ W v1 v2 ks js) (hg : W.grownBy W' row) (hr : ∀ r, row = some r → ∃ o : Obj, W.heap[r]? = some o ∧ o.isCells = false) : AllSt n₀ W' v1 v2 ks js := by
  have hb : ∀ B t v, Boxed W B t v → some B ≠ row := fun B t v hb e => by
    obtain ⟨o, ho, hc⟩ := hr B e.symm
    rw [show W.heap[B]? = _ from hb] at ho; cases ho; cases hc
  have hv : ∀ e s v n xs, W.ownsRow n₀ e s v n xs → v.ownBlock = none ∨ v.ownBlock ≠ row := fun e s v n xs hv => by
    cases hvb : v.ownBlock with
    | none => exact .inl rfl
    | some g =>
      refine .inr fun e2 => ?_
      obtain ⟨c, hc⟩ := own_block hv hvb
      obtain ⟨o, ho, hoc⟩ := hr g e2.symm
      rw [hc] at ho; cases ho; cases hoc
  exact ⟨h.b1.kept hg (hb _ _ _ h.b1), h.r1.kept hg (hv _ _ _ _ _ h.r1), h.b2.kept hg (hb _ _ _ h.b2), h.r2.kept hg (hv _ _ _ _ _ h.r2)⟩
theorem AllSt.alloc {n₀ : Nat} {W : World} {v1 v2 : Value} {ks js : List Nat} (h : AllSt n₀ W v1 v2 ks js) (o : Obj) : AllSt n₀ (W.alloc o) v1 v2 ks js := h.grown (World.grownBy_alloc W o none) (fun r e => by cases e)
theorem AllSt.drew {n₀ : Nat} {W : World} {v1 v2 : Value} {ks js : List Nat} (h : AllSt n₀ W v1 v2 ks js) : AllSt n₀ W.drew v1 v2 ks js := ⟨h.b1, h.r1, h.b2, h.r2⟩
theorem AllSt.below {n₀ : Nat} {W W' : World} {v1 v2 : Value} {ks js : List Nat} (h : AllSt n₀ W v1 v2 ks js) (hb : Below W.heap.size W W') : AllSt n₀ W' v1 v2 ks js :=
  h.grown (row := none) ⟨hb.os, hb.tape, hb.output, hb.size, fun i hi _ => hb.block i hi⟩ (fun r e => by cases e)
theorem KpV.setBox {W : World} {B : Nat} {t : TypeId} {v : Value} (h : Boxed W B t v) (ht : t ≠ 249) (u : Value) : KpV W (W.setCell ⟨B, 0, none⟩ u) :=
  KpV.grown (grownBy_setCell' W B u) (fun k e => by injection e with e; subst e; exact ⟨_, _, _, h, ht⟩)
theorem KpV.rowG {W w1 : World} {n₀ size k : Nat} {e : TypeId} {v : Value} {xs : List Value} (hr : W.ownsRow n₀ e size v k xs) (hg : W.grownBy w1 v.ownBlock) (he : e ≠ 249) : KpV W w1 :=
  KpV.grown hg fun g hgb => by obtain ⟨c, hc⟩ := own_block hr hgb; exact ⟨_, _, _, hc, he⟩

theorem AllSt.push1 {n₀ : Nat} {W w1 : World} {v1 v2 v' : Value} {ks js : List Nat} {tmp : Obj} {k : Nat} (h : AllSt n₀ W v1 v2 ks js) (hn : n₀ ≤ W.heap.size)
    (hown : w1.ownsRow n₀ 141 2 v' (ks.length + 1) (lcells ks ++ [.int .i64 (LB k), .complex .f64 (fl (LM k)) (fl (LT k))])) (hg : (W.alloc tmp).grownBy w1 v1.ownBlock) :
    (w1.cell? ⟨n₀, 0, none⟩ = some v1 ∧ w1.frozen? ⟨n₀, 0, none⟩ = false ∧ w1.cell? ⟨n₀ + 1, 0, none⟩ = some v2) ∧ AllSt n₀ (w1.setCell ⟨n₀, 0, none⟩ v') v' v2 (ks ++ [k]) js ∧ KeepsOthers W (w1.setCell ⟨n₀, 0, none⟩ v') ∧ KpV W (w1.setCell ⟨n₀, 0, none⟩ v') ∧ Below n₀ W (w1.setCell ⟨n₀, 0, none⟩ v') := by
  obtain ⟨h1, h2, h3, h4, h5⟩ := h.b1.appended (by decide) h.r1 hn (Nat.le_refl _) hown hg
  have hb2 : Boxed w1 (n₀ + 1) 34 v2 := (h.b2.alloc tmp).kept hg (h.b2.not_row (by decide) h.r1)
  have hr2 : w1.ownsRow n₀ 3 1 v2 js.length (scells js) := ((h.r2.kept (World.grownBy_alloc W tmp none) (by cases hv : v2.ownBlock with | none => exact .inl rfl | some g => exact .inr (by simp)))).kept hg (rows_apart h.r2 h.r1 (by decide))
  refine ⟨⟨h1.cell, h1.frozen, hb2.cell⟩, ⟨h2, by rw [List.length_append, lcells_snoc]; exact h3, hb2.other (by omega) _, hr2.kept (grownBy_setCell' w1 n₀ v') (.inr (h1.not_row (by decide) hr2).symm)⟩, h4, ?_, h5⟩
  refine ((KpV.alloc W tmp).trans (KpV.rowG (e := 141) ((h.r1.kept (World.grownBy_alloc W tmp none) (by cases hv : v1.ownBlock with | none => exact .inl rfl | some g => exact .inr (by simp)))) hg (by decide))).trans (KpV.setBox h1 (by decide) _)
theorem AllSt.push2 {n₀ : Nat} {W w1 : World} {v1 v2 v' : Value} {ks js : List Nat} {tmp : Obj} {k : Nat} (h : AllSt n₀ W v1 v2 ks js) (hn : n₀ ≤ W.heap.size)
    (hown : w1.ownsRow n₀ 3 1 v' (js.length + 1) (scells js ++ [.int .i64 (LS k)])) (hg : (W.alloc tmp).grownBy w1 v2.ownBlock) :
    (w1.cell? ⟨n₀ + 1, 0, none⟩ = some v2 ∧ w1.frozen? ⟨n₀ + 1, 0, none⟩ = false ∧ w1.cell? ⟨n₀, 0, none⟩ = some v1) ∧ AllSt n₀ (w1.setCell ⟨n₀ + 1, 0, none⟩ v') v1 v' ks (js ++ [k]) ∧ KeepsOthers W (w1.setCell ⟨n₀ + 1, 0, none⟩ v') ∧ KpV W (w1.setCell ⟨n₀ + 1, 0, none⟩ v') ∧ Below n₀ W (w1.setCell ⟨n₀ + 1, 0, none⟩ v') := by
  obtain ⟨h1, h2, h3, h4, h5⟩ := h.b2.appended (by decide) h.r2 hn (by omega) hown hg
  have hb1 : Boxed w1 n₀ 171 v1 := (h.b1.alloc tmp).kept hg (h.b1.not_row (by decide) h.r2)
  have hr1 : w1.ownsRow n₀ 141 2 v1 ks.length (lcells ks) := ((h.r1.kept (World.grownBy_alloc W tmp none) (by cases hv : v1.ownBlock with | none => exact .inl rfl | some g => exact .inr (by simp)))).kept hg (rows_apart h.r1 h.r2 (by decide))
  refine ⟨⟨h1.cell, h1.frozen, hb1.cell⟩, ⟨hb1.other (by omega) _, hr1.kept (grownBy_setCell' w1 (n₀ + 1) v') (.inr (h1.not_row (by decide) hr1).symm), h2, by rw [List.length_append, scells_snoc]; exact h3⟩, h4, ?_, h5⟩
  refine ((KpV.alloc W tmp).trans (KpV.rowG (e := 3) ((h.r2.kept (World.grownBy_alloc W tmp none) (by cases hv : v2.ownBlock with | none => exact .inl rfl | some g => exact .inr (by simp)))) hg (by decide))).trans (KpV.setBox h1 (by decide) _)
theorem setCell_size9 (w : World) (p : Addr) (v : Value) : (w.setCell p v).heap.size = w.heap.size := by simp [World.setCell]
theorem cell_one_newS (w : World) (p : Addr) (v x : Value) (t : TypeId) : ∀ j u, [x][j]? = some u → ((w.setCell p v).alloc (.cells #[x] t)).cell? ((⟨w.heap.size, 0, none⟩ : Addr).add j) = some u := by
  have := cell_one_new (w.setCell p v) x t
  rwa [setCell_size9] at this
theorem infolet : (Tryz.prog.info? 141).map (fun i => (i.zero, i.size, i.bytes)) = some (some (.agg #[.int .i64 0, .complex .f64 0 0]), 2, 24) := by kernel_rfl
theorem infoint9 : (Tryz.prog.info? 3).map (fun i => (i.zero, i.size, i.bytes)) = some (some (.int .i64 0), 1, 8) := by kernel_rfl
end Go.Proofs.YtncpokioagpclaaGreatDoor
namespace Go.Proofs.YtncpokioagpclaaGreatDoor
set_option linter.unusedVariables false
set_option linter.unusedSimpArgs false
set_option linter.unnecessarySimpa false
open Go.RowKit Go.Shelf
attribute [local go_sem] Oper.semAt_some run_store_complex

def ksS (pre : List (Fin 74)) : List Nat := pre.map (·.val)
theorem ksS_snoc (pre : List (Fin 74)) (x : Fin 74) : ksS (pre ++ [x]) = ksS pre ++ [x.val] := by simp [ksS]
theorem ksS_len (pre : List (Fin 74)) : (ksS pre).length = pre.length := by simp [ksS]
theorem ksS_all : ksS (List.finRange 74) = List.range 74 := by decide +kernel
def ksG (pre : List (Fin 74)) : List Nat := List.range 74 ++ pre.map (·.val + 74)
theorem ksG_snoc (pre : List (Fin 74)) (x : Fin 74) : ksG (pre ++ [x]) = ksG pre ++ [x.val + 74] := by simp [ksG]
theorem ksG_len (pre : List (Fin 74)) : (ksG pre).length = 74 + pre.length := by simp [ksG]
theorem ksG_all : ksG (List.finRange 74) = List.range 148 := by decide +kernel

set_option maxRecDepth 100000 in
set_option maxHeartbeats 16000000 in
theorem vall_any (w : World) (hR : RowsV w) :
    Calls Tryz.prog 87 #[] w fun e w' => ∃ A1 c1 A2 c2, e = .returned (.tuple #[.slice A1 148 c1, .slice A2 148 c2]) ∧ w'.ownsRow w.heap.size 141 2 (.slice A1 148 c1) 148 (lcells (List.range 148)) ∧ w'.ownsRow w.heap.size 3 1 (.slice A2 148 c2) 148 (scells (List.range 148)) ∧ Below w.heap.size w w' := by
  refine (callsIn_wide (n := 3)).1 ?_
  have HR := Lib.hid hR
  clear hR
  obtain ⟨i0, hi, hz0, hz1, hz2⟩ := info_parts infolet
  obtain ⟨i1, hj, hy0, hy1, hy2⟩ := info_parts infoint9
  refine callsIn_of_wp_marks Tryz.func87 rfl trivial ?_ rfl
  simp only [Tryz.ntmps87, List.size_toArray, List.length_cons, List.length_nil, Nat.reduceAdd, Nat.reduceSub, Array.replicate_succ, Array.replicate_zero, List.push_toArray, List.append_toArray, List.nil_append, List.cons_append]
  gi_wp2
  have qB := (Boxed.new w 171 (.slice none 0 0)).alloc (.cells #[.slice none 0 0] 34)
  have qI := Boxed.new (w.alloc (.cells #[.slice none 0 0] 171)) 34 (.slice none 0 0)
  simp only [World.size_alloc] at qI
  have hB0 : Below w.heap.size w ((w.alloc (.cells #[.slice none 0 0] 171)).alloc (.cells #[.slice none 0 0] 34)) := ((Below.refl _ w).alloc (Nat.le_refl _) _).alloc (by simp) _
  have hsz : ((w.alloc (.cells #[.slice none 0 0] 171)).alloc (.cells #[.slice none 0 0] 34)).heap.size = w.heap.size + 2 := by simp
  obtain ⟨W0, hW0⟩ : ∃ W0, (w.alloc (.cells #[.slice none 0 0] 171)).alloc (.cells #[.slice none 0 0] 34) = W0 := ⟨_, rfl⟩
  rw [hW0] at qB qI hB0 hsz ⊢
  clear hW0
  have hS0 : AllSt w.heap.size W0 (.slice none 0 0) (.slice none 0 0) (ksS []) (ksS []) := ⟨qB, World.ownsRow_nil _ _ _ _, qI, World.ownsRow_nil _ _ _ _⟩
  refine wpIn_rangeFunc_ownH rfl (by decide) (gf := 123) (lb := #[]) rfl trivial (enters_of Tryz.func123 (by kernel_rfl) rfl)
    (small_stops Fence.wide (3 - 1) trivial rfl (by decide) W0 (HR.out.below hB0)) KpV.trans (fun W l o o' h1 h2 h3 h4 => KpV.put (w := W0) W l o o' h1 h2 h3 h4) (Below.refl _ _) (fun _ => rfl)
    (fun pre W => (∃ v1 v2, AllSt w.heap.size W v1 v2 (ksS pre) (ksS pre)) ∧ Below w.heap.size w W)
    (fun _ _ _ => False)
    (OwnFrom.and (fun s X Y row hs hg hr => by obtain ⟨v1, v2, h⟩ := hs; exact ⟨v1, v2, h.grown hg (fun r e => (hr r e).2)⟩) (ownFrom_below (Nat.le_refl _) (by omega)))
    (fun _ _ _ _ _ hs _ _ => hs)
    ⟨⟨_, _, hS0⟩, hB0⟩
    (fun x a' W => ∃ Bx, w.heap.size + 1 < Bx ∧ Held W Bx #[.int .i64 (LB x.val), .complex .f64 (fl (LM x.val)) (fl (LT x.val))] 141 ∧ a' = { tmps := #[.slice none 0 0, .slice none 0 0, .pointer (some ⟨w.heap.size, 0, none⟩), .pointer (some ⟨w.heap.size + 1, 0, none⟩), .pointer (some ⟨Bx, 0, none⟩), .int .i64 (LS x.val), undef, undef, .agg #[.int .i64 (LB x.val), .complex .f64 (fl (LM x.val)) (fl (LT x.val))], .int .i64 (LS x.val), undef, undef, undef, undef, undef, undef, undef, undef, undef, undef, undef, undef, undef, undef, undef, undef, undef, undef, undef, undef, undef, undef], defers := [] })
    (fun x a' _ X Y row hs hg hr => by obtain ⟨Bx, h1, h2, h3⟩ := hs; exact ⟨Bx, h1, held_own Bx 141 (fun (_ : Unit) => #[.int .i64 (LB x.val), .complex .f64 (fl (LM x.val)) (fl (LT x.val))]) () X Y row h2 hg (fun r e => (hr r e).2), h3⟩)
    ?assign ?body ?done ?stop
  case assign =>
    rintro l pre x W K ⟨⟨v1, v2, hS⟩, hB1⟩ hK
    simp only [encV]
    gi_wp2
    exact hK _ _ ((KeepsOthers.alloc _ _).from _) (KpV.alloc _ _) ⟨⟨v1, v2, hS.alloc _⟩, hB1.alloc hB1.size _⟩ ⟨W.heap.size, hS.b2.lt, Held.new W _ _, rfl⟩
  case body =>
    rintro l pre x a' W hl ⟨r, hr⟩ ⟨⟨v1, v2, hS⟩, hB1⟩ ⟨Bx, hBx, qX, rfl⟩ hlt
    have k1 := hS.b1.cell
    have k2 := hS.b2.cell
    have x0 := qX.cell 0
    have x1 := qX.cell 1
    have HLEN := Lib.hid (ksS_len pre)
    have hn := hB1.size
    have hsn := ksS_snoc pre x
    have HB1 := Lib.hid hB1
    have HS := Lib.hid hS
    have HSN := Lib.hid hsn
    obtain ⟨bx, hbx⟩ : ∃ v, LB x.val = v := ⟨_, rfl⟩
    obtain ⟨rx, hrx⟩ : ∃ v, fl (LM x.val) = v := ⟨_, rfl⟩
    obtain ⟨ix, hix⟩ : ∃ v, fl (LT x.val) = v := ⟨_, rfl⟩
    obtain ⟨sx, hsx⟩ : ∃ v, LS x.val = v := ⟨_, rfl⟩
    have HP1 := fun (W : World) v1 v2 v' ks js tmp w1 (h : AllSt w.heap.size W v1 v2 ks js) => h.push1 (w1 := w1) (v' := v') (tmp := tmp) (k := x.val)
    have HP2 := fun (W : World) v1 v2 v' ks js tmp w1 (h : AllSt w.heap.size W v1 v2 ks js) => h.push2 (w1 := w1) (v' := v') (tmp := tmp) (k := x.val)
    simp only [hbx, hrx, hix, hsx] at x0 x1 HP1 HP2 ⊢
    have HP1 := Lib.hid HP1
    have HP2 := Lib.hid HP2
    clear hS hB1 hsn hbx hrx hix hsx qX hr
    gi_wp2_with (first
      | (gi_at_builtin; refine wpListIn_append_own _ rfl _ _ 171 rfl w.heap.size 141 i0 _ 2 24 Tryz.underlying171 hi hz0 hz1 hz2 rfl (by decide) _ _ _ rfl (HS.out.alloc _).r1 ⟨W.heap.size, 0, none⟩ 1 1 [.int .i64 bx, .complex .f64 rx ix] rfl rfl (cell_two_new _ _ _ _) (by simp [Value.oneCell']) (by rw [HLEN.out]; simp [maxLen]; omega) (by rw [HLEN.out]; omega) (by simp; omega) ?_; intro v1' w1 hown1 hgrow1 _; obtain ⟨g1', cap1', rfl⟩ := ownsRow_succ hown1; obtain ⟨⟨hc1, hf1, hd1⟩, hS1, hO1, hK1, hB2⟩ := HP1.out _ _ _ _ _ _ _ _ HS.out hn hown1 hgrow1; have HS1 := Lib.hid hS1; have HO1 := Lib.hid hO1; have HK1 := Lib.hid hK1; have HB2 := Lib.hid hB2; have hn2 : W.heap.size ≤ w1.heap.size := (by have := hB2.size; rwa [setCell_size9] at this); clear hS1 hO1 hK1 hB2 hown1 hgrow1)
      | (gi_at_builtin; refine wpListIn_append_own _ rfl _ _ 34 rfl w.heap.size 3 i1 _ 1 8 Tryz.underlying34 hj hy0 hy1 hy2 rfl (by decide) _ _ _ rfl (HS1.out.alloc _).r2 ⟨w1.heap.size, 0, none⟩ 1 1 [.int .i64 sx] rfl rfl (cell_one_newS _ _ _ _ _) (by simp [Value.oneCell']) (by rw [HLEN.out]; simp [maxLen]; omega) (by rw [HLEN.out]; omega) (by simp; omega) ?_; intro v2' w2 hown2 hgrow2 _; obtain ⟨g2', cap2', rfl⟩ := ownsRow_succ hown2; obtain ⟨⟨hc2, hf2, hd2⟩, hS2, hO2, hK2, hB3⟩ := HP2.out _ _ _ _ _ _ _ _ HS1.out (by simp; omega) hown2 hgrow2))
    exact ⟨(HO1.out.trans hO2).from _, HK1.out.trans hK2, ⟨_, _, by rw [HSN.out]; exact hS2⟩, HB1.out.trans (HB2.out.trans hB3)⟩
  case stop =>
    rintro D c pre W _ _ h _
    exact h.elim
  case done =>
    rintro D ys W hD rfl ⟨⟨v1, v2, hS⟩, hB1⟩ hK
    have hS0 : AllSt w.heap.size W v1 v2 (ksG []) (ksG []) := by
      have e : ksG [] = ksS (List.finRange 74) := by rw [ksS_all]; rfl
      rw [e]; exact hS
    have hDl := (Array.getElem?_eq_some_iff.1 hK).1
    have HRW := Lib.hid (HR.out.below hB1)
    have hbW := hB1.size
    clear hS qB qI hB0
    have hS2 := hS0.b2.lt
    gi_wp2
    refine wpIn_rangeFunc_ownH rfl (by decide) (gf := 123) (lb := #[]) rfl trivial (enters_of Tryz.func123 (by kernel_rfl) rfl)
      (small_stops Fence.wide (3 - 1) trivial rfl (by decide) W HRW.out) KpV.trans (fun X l o o' h1 h2 h3 h4 => KpV.put (w := W) X l o o' h1 h2 h3 h4) (Below.refl _ _) (fun _ => rfl)
      (fun pre X => ((∃ v1 v2, AllSt w.heap.size X v1 v2 (ksG pre) (ksG pre)) ∧ X.heap[D]? = some (.deferred (some []))) ∧ Below w.heap.size w X)
      (fun _ _ _ => False)
      (OwnFrom.and (OwnFrom.and (fun s X Y row hs hg hr => by obtain ⟨v1, v2, h⟩ := hs; exact ⟨v1, v2, h.grown hg (fun r e => (hr r e).2)⟩) (fun s X Y row hs hg hr => (hg.block D (Array.getElem?_eq_some_iff.1 hs).1 (fun e => by have := (hr D e.symm).1; omega)).trans hs)) (ownFrom_below (Nat.le_refl _) (by omega)))
      (fun _ _ _ _ _ hs _ _ => hs)
      ⟨⟨⟨_, _, hS0⟩, hK⟩, hB1⟩
      (fun x a' X => ∃ Bx, w.heap.size + 1 < Bx ∧ Held X Bx #[.int .i64 (LB x.val), .complex .f64 (fl (LM x.val)) (fl (LT x.val))] 141 ∧ a' = { tmps := #[.slice none 0 0, .slice none 0 0, .pointer (some ⟨w.heap.size, 0, none⟩), .pointer (some ⟨w.heap.size + 1, 0, none⟩), undef, undef, .pointer (some ⟨Bx, 0, none⟩), .int .i64 (LS x.val), undef, undef, undef, undef, undef, undef, undef, undef, undef, undef, .agg #[.int .i64 (LB x.val), .complex .f64 (fl (LM x.val)) (fl (LT x.val))], .int .i64 (LS x.val), undef, undef, undef, undef, undef, undef, undef, undef, undef, undef, undef, undef], defers := [] })
      (fun x a' _ X Y row hs hg hr => by obtain ⟨Bx, h1, h2, h3⟩ := hs; exact ⟨Bx, h1, held_own Bx 141 (fun (_ : Unit) => #[.int .i64 (LB x.val), .complex .f64 (fl (LM x.val)) (fl (LT x.val))]) () X Y row h2 hg (fun r e => (hr r e).2), h3⟩)
      ?assign2 ?body2 ?done2 ?stop2
    case assign2 =>
      rintro l pre x X K ⟨⟨⟨u1, u2, hS⟩, hD1⟩, hB2⟩ hK
      simp only [encV]
      gi_wp2
      exact hK _ _ ((KeepsOthers.alloc _ _).from _) (KpV.alloc _ _) ⟨⟨⟨u1, u2, hS.alloc _⟩, (Below.heap_alloc X _ D (Array.getElem?_eq_some_iff.1 hD1).1).trans hD1⟩, hB2.alloc hB2.size _⟩ ⟨X.heap.size, hS.b2.lt, Held.new X _ _, rfl⟩
    case body2 =>
      rintro l pre x a' X hl ⟨r, hr⟩ ⟨⟨⟨u1, u2, hS⟩, hD1⟩, hB2⟩ ⟨Bx, hBx, qX, rfl⟩ hlt
      have k1 := hS.b1.cell
      have k2 := hS.b2.cell
      have x0 := qX.cell 0
      have x1 := qX.cell 1
      have HLEN := Lib.hid (ksG_len pre)
      have hn := hB2.size
      have HB1 := Lib.hid hB2
      have HS := Lib.hid hS
      have HSN := Lib.hid (ksG_snoc pre x)
      have HD1 := Lib.hid hD1
      have hDX := (Array.getElem?_eq_some_iff.1 hD1).1
      have hxl := x.isLt
      have hg1 := letter_great x.val hxl
      have hs1 := letter_small x.val (by omega)
      have HP1 := fun (W : World) v1 v2 v' ks js tmp w1 (h : AllSt w.heap.size W v1 v2 ks js) => h.push1 (w1 := w1) (v' := v') (tmp := tmp) (k := x.val + 74)
      have HP2 := fun (W : World) v1 v2 v' ks js tmp w1 (h : AllSt w.heap.size W v1 v2 ks js) => h.push2 (w1 := w1) (v' := v') (tmp := tmp) (k := x.val + 74)
      rw [hg1.1, hg1.2.1, hg1.2.2.1] at HP1
      rw [hg1.2.2.2] at HP2
      obtain ⟨bx, hbx⟩ : ∃ v, LB x.val = v := ⟨_, rfl⟩
      obtain ⟨rx, hrx⟩ : ∃ v, fl (LM x.val) = v := ⟨_, rfl⟩
      obtain ⟨ix, hix⟩ : ∃ v, fl (LT x.val) = v := ⟨_, rfl⟩
      obtain ⟨sx, hsx⟩ : ∃ v, LS x.val = v := ⟨_, rfl⟩
      rw [hbx] at hs1
      rw [hsx] at hs1
      simp only [hbx, hrx, hix, hsx] at x0 x1 HP1 HP2 qX ⊢
      have GR := Lib.hid (fun W => great_any bx rx ix W (by omega) (by omega))
      have UP := Lib.hid (fun W => upper_any sx W (by omega) (by omega))
      obtain ⟨ub, hub⟩ : ∃ v, upI bx = v := ⟨_, rfl⟩
      obtain ⟨us, hus⟩ : ∃ v, upI sx = v := ⟨_, rfl⟩
      rw [hub] at HP1 GR
      rw [hus] at HP2 UP
      have HP1 := Lib.hid HP1
      have HP2 := Lib.hid HP2
      have HQX := Lib.hid qX
      have hXl := qX.lt
      clear hS hB2 hbx hrx hix hsx hub hus qX hr hD1 hg1 hs1 hxl
      have hmx : Tryz.prog.follows .mixedOrders = true := by kernel_rfl
      gi_wp2_with fail
      gi_cut [] from 20 (fun wx => ∃ v1', Hid (AllSt w.heap.size wx v1' u2 (ksG pre ++ [x.val + 74]) (ksG pre)) ∧ Hid (KeepsOthers X wx) ∧ Hid (KpV X wx) ∧ Hid (Below w.heap.size X wx))
      case first =>
        refine anyIn_start hmx ?_
        refine anyIn_two 0 1 (by kernel_rfl) rfl rfl ?_ ?_
        · gi_wp2_with fail
          refine anyIn_one 1 (by kernel_rfl) rfl ?_
          gi_wp2_with fail
          refine anyIn_one 2 (by kernel_rfl) rfl ?_
          gi_wp2_with (refine ⟨trivial, ?_⟩; refine (CallsIn.inRound l (callsIn_wide.2 (GR.out _))).mono ?_; rintro e X2 ⟨rfl, hb2⟩; have HSX := Lib.hid (HS.out.drew.below hb2); have kx1 := HSX.out.b1.cell; have kx2 := HSX.out.b2.cell; have kxa := fun o => (HSX.out.alloc o).b1.cell; have HBX := Lib.hid (show Below X.heap.size X X2 from ((Below.refl _ X).drew).trans hb2); have hs2 : X.heap.size ≤ X2.heap.size := hb2.size; clear hb2)
          refine anyIn_one 3 (by kernel_rfl) rfl ?_
          gi_wp2_with fail
          refine anyIn_one 4 (by kernel_rfl) rfl ?_
          gi_wp2_with (gi_at_builtin; refine wpListIn_append_own _ rfl _ _ 171 rfl w.heap.size 141 i0 _ 2 24 Tryz.underlying171 hi hz0 hz1 hz2 rfl (by decide) _ _ _ rfl (HSX.out.alloc _).r1 ⟨X2.heap.size, 0, none⟩ 1 1 [.int .i64 ub, .complex .f64 rx ix] rfl rfl (cell_two_new _ _ _ _) (by simp [Value.oneCell']) (by rw [HLEN.out]; simp [maxLen]; omega) (by rw [HLEN.out]; omega) (by simp; omega) ?_; intro v1' w1 hown1 hgrow1 _; obtain ⟨g1', cap1', rfl⟩ := ownsRow_succ hown1; obtain ⟨⟨hc1, hf1, hd1⟩, hS1, hO1, hK1, hB2⟩ := HP1.out _ _ _ _ _ _ _ _ HSX.out (by omega) hown1 hgrow1; have HS1 := Lib.hid hS1; have HO1 := Lib.hid hO1; have HK1 := Lib.hid hK1; have HB2 := Lib.hid hB2; have hn2 : X2.heap.size ≤ w1.heap.size := (by have := hB2.size; rwa [setCell_size9] at this); clear hS1 hO1 hK1 hB2 hown1 hgrow1)
          refine anyIn_one 5 (by kernel_rfl) rfl ?_
          gi_wp2_with fail
          refine anyIn_end (by kernel_rfl) ?_
          gi_wp2
          gi_meet
          exact ⟨_, HS1, Lib.hid ((Own9.of HBX.out).others.trans HO1.out), Lib.hid ((Own9.of HBX.out).kp.trans HK1.out), Lib.hid ((HBX.out.mono hn).trans HB2.out)⟩
        · gi_wp2_with fail
          refine anyIn_two 0 2 (by kernel_rfl) rfl rfl ?_ ?_
          · gi_wp2_with fail
            refine anyIn_one 2 (by kernel_rfl) rfl ?_
            gi_wp2_with (refine ⟨trivial, ?_⟩; refine (CallsIn.inRound l (callsIn_wide.2 (GR.out _))).mono ?_; rintro e X2 ⟨rfl, hb2⟩; have HSX := Lib.hid (HS.out.drew.below hb2); have kx1 := HSX.out.b1.cell; have kx2 := HSX.out.b2.cell; have kxa := fun o => (HSX.out.alloc o).b1.cell; have HBX := Lib.hid (show Below X.heap.size X X2 from ((Below.refl _ X).drew).trans hb2); have hs2 : X.heap.size ≤ X2.heap.size := hb2.size; clear hb2)
            refine anyIn_one 3 (by kernel_rfl) rfl ?_
            gi_wp2_with fail
            refine anyIn_one 4 (by kernel_rfl) rfl ?_
            gi_wp2_with (gi_at_builtin; refine wpListIn_append_own _ rfl _ _ 171 rfl w.heap.size 141 i0 _ 2 24 Tryz.underlying171 hi hz0 hz1 hz2 rfl (by decide) _ _ _ rfl (HSX.out.alloc _).r1 ⟨X2.heap.size, 0, none⟩ 1 1 [.int .i64 ub, .complex .f64 rx ix] rfl rfl (cell_two_new _ _ _ _) (by simp [Value.oneCell']) (by rw [HLEN.out]; simp [maxLen]; omega) (by rw [HLEN.out]; omega) (by simp; omega) ?_; intro v1' w1 hown1 hgrow1 _; obtain ⟨g1', cap1', rfl⟩ := ownsRow_succ hown1; obtain ⟨⟨hc1, hf1, hd1⟩, hS1, hO1, hK1, hB2⟩ := HP1.out _ _ _ _ _ _ _ _ HSX.out (by omega) hown1 hgrow1; have HS1 := Lib.hid hS1; have HO1 := Lib.hid hO1; have HK1 := Lib.hid hK1; have HB2 := Lib.hid hB2; have hn2 : X2.heap.size ≤ w1.heap.size := (by have := hB2.size; rwa [setCell_size9] at this); clear hS1 hO1 hK1 hB2 hown1 hgrow1)
            refine anyIn_one 5 (by kernel_rfl) rfl ?_
            gi_wp2_with fail
            refine anyIn_end (by kernel_rfl) ?_
            gi_wp2
            gi_meet
            exact ⟨_, HS1, Lib.hid ((Own9.of HBX.out).others.trans HO1.out), Lib.hid ((Own9.of HBX.out).kp.trans HK1.out), Lib.hid ((HBX.out.mono hn).trans HB2.out)⟩
          · gi_wp2_with (refine ⟨trivial, ?_⟩; refine (CallsIn.inRound l (callsIn_wide.2 (GR.out _))).mono ?_; rintro e X2 ⟨rfl, hb2⟩; have HSX := Lib.hid (HS.out.drew.below hb2); have kx1 := HSX.out.b1.cell; have kx2 := HSX.out.b2.cell; have kxa := fun o => (HSX.out.alloc o).b1.cell; have HBX := Lib.hid (show Below X.heap.size X X2 from ((Below.refl _ X).drew).trans hb2); have hs2 : X.heap.size ≤ X2.heap.size := hb2.size; clear hb2)
            refine anyIn_two 0 3 (by kernel_rfl) rfl rfl ?_ ?_
            · gi_wp2_with fail
              refine anyIn_one 3 (by kernel_rfl) rfl ?_
              gi_wp2_with fail
              refine anyIn_one 4 (by kernel_rfl) rfl ?_
              gi_wp2_with (gi_at_builtin; refine wpListIn_append_own _ rfl _ _ 171 rfl w.heap.size 141 i0 _ 2 24 Tryz.underlying171 hi hz0 hz1 hz2 rfl (by decide) _ _ _ rfl (HSX.out.alloc _).r1 ⟨X2.heap.size, 0, none⟩ 1 1 [.int .i64 ub, .complex .f64 rx ix] rfl rfl (cell_two_new _ _ _ _) (by simp [Value.oneCell']) (by rw [HLEN.out]; simp [maxLen]; omega) (by rw [HLEN.out]; omega) (by simp; omega) ?_; intro v1' w1 hown1 hgrow1 _; obtain ⟨g1', cap1', rfl⟩ := ownsRow_succ hown1; obtain ⟨⟨hc1, hf1, hd1⟩, hS1, hO1, hK1, hB2⟩ := HP1.out _ _ _ _ _ _ _ _ HSX.out (by omega) hown1 hgrow1; have HS1 := Lib.hid hS1; have HO1 := Lib.hid hO1; have HK1 := Lib.hid hK1; have HB2 := Lib.hid hB2; have hn2 : X2.heap.size ≤ w1.heap.size := (by have := hB2.size; rwa [setCell_size9] at this); clear hS1 hO1 hK1 hB2 hown1 hgrow1)
              refine anyIn_one 5 (by kernel_rfl) rfl ?_
              gi_wp2_with fail
              refine anyIn_end (by kernel_rfl) ?_
              gi_wp2
              gi_meet
              exact ⟨_, HS1, Lib.hid ((Own9.of HBX.out).others.trans HO1.out), Lib.hid ((Own9.of HBX.out).kp.trans HK1.out), Lib.hid ((HBX.out.mono hn).trans HB2.out)⟩
            · gi_wp2_with fail
              refine anyIn_one 0 (by kernel_rfl) rfl ?_
              gi_wp2_with fail
              refine anyIn_one 4 (by kernel_rfl) rfl ?_
              gi_wp2_with (gi_at_builtin; refine wpListIn_append_own _ rfl _ _ 171 rfl w.heap.size 141 i0 _ 2 24 Tryz.underlying171 hi hz0 hz1 hz2 rfl (by decide) _ _ _ rfl (HSX.out.alloc _).r1 ⟨X2.heap.size, 0, none⟩ 1 1 [.int .i64 ub, .complex .f64 rx ix] rfl rfl (cell_two_new _ _ _ _) (by simp [Value.oneCell']) (by rw [HLEN.out]; simp [maxLen]; omega) (by rw [HLEN.out]; omega) (by simp; omega) ?_; intro v1' w1 hown1 hgrow1 _; obtain ⟨g1', cap1', rfl⟩ := ownsRow_succ hown1; obtain ⟨⟨hc1, hf1, hd1⟩, hS1, hO1, hK1, hB2⟩ := HP1.out _ _ _ _ _ _ _ _ HSX.out (by omega) hown1 hgrow1; have HS1 := Lib.hid hS1; have HO1 := Lib.hid hO1; have HK1 := Lib.hid hK1; have HB2 := Lib.hid hB2; have hn2 : X2.heap.size ≤ w1.heap.size := (by have := hB2.size; rwa [setCell_size9] at this); clear hS1 hO1 hK1 hB2 hown1 hgrow1)
              refine anyIn_one 5 (by kernel_rfl) rfl ?_
              gi_wp2_with fail
              refine anyIn_end (by kernel_rfl) ?_
              gi_wp2
              gi_meet
              exact ⟨_, HS1, Lib.hid ((Own9.of HBX.out).others.trans HO1.out), Lib.hid ((Own9.of HBX.out).kp.trans HK1.out), Lib.hid ((HBX.out.mono hn).trans HB2.out)⟩
      case rest =>
        obtain ⟨v1', HSc, HOc, HKc, HBc⟩ := hcut
        have HS2 := Lib.hid (HSc.out.drew)
        have kc2 := HSc.out.b2.cell
        have kca := fun o => (HSc.out.alloc o).b2.cell
        have hnc : w.heap.size ≤ wc.heap.size := Nat.le_trans hn HBc.out.size
        clear k1 k2 x0 x1
        gi_wp2_with fail
        refine anyIn_start hmx ?_
        refine anyIn_two 0 1 (by kernel_rfl) rfl rfl ?_ ?_
        · gi_wp2_with fail
          refine anyIn_one 1 (by kernel_rfl) rfl ?_
          gi_wp2_with fail
          refine anyIn_one 2 (by kernel_rfl) rfl ?_
          gi_wp2_with (refine ⟨trivial, ?_⟩; refine (CallsIn.inRound l (callsIn_wide.2 (UP.out _))).mono ?_; rintro e X2 ⟨rfl, hxx⟩; subst hxx)
          refine anyIn_one 3 (by kernel_rfl) rfl ?_
          gi_wp2_with fail
          refine anyIn_one 4 (by kernel_rfl) rfl ?_
          gi_wp2_with (gi_at_builtin; refine wpListIn_append_own _ rfl _ _ 34 rfl w.heap.size 3 i1 _ 1 8 Tryz.underlying34 hj hy0 hy1 hy2 rfl (by decide) _ _ _ rfl (HS2.out.alloc _).r2 ⟨wc.heap.size, 0, none⟩ 1 1 [.int .i64 us] rfl rfl (cell_one_new wc.drew _ _) (by simp [Value.oneCell']) (by rw [HLEN.out]; simp [maxLen]; omega) (by rw [HLEN.out]; omega) (by simp; omega) ?_; intro v2' w2 hown2 hgrow2 _; obtain ⟨g2', cap2', rfl⟩ := ownsRow_succ hown2; obtain ⟨⟨hc2, hf2, hd2⟩, hS3, hO3, hK3, hB3⟩ := HP2.out _ _ _ _ _ _ _ _ HS2.out (by show w.heap.size ≤ wc.heap.size; omega) hown2 hgrow2; have HS3 := Lib.hid hS3; have HO3 := Lib.hid hO3; have HK3 := Lib.hid hK3; have HB3 := Lib.hid hB3; clear hS3 hO3 hK3 hB3 hown2 hgrow2)
          refine anyIn_one 5 (by kernel_rfl) rfl ?_
          gi_wp2_with fail
          refine anyIn_end (by kernel_rfl) ?_
          gi_wp2
          have hO4 : KeepsOthers X _ := HOc.out.trans ((KeepsOthers.drew wc).trans HO3.out)
          exact ⟨hO4.from _, HKc.out.trans (KpV.trans (B := wc.drew) (fun _ _ _ h => h) HK3.out), ⟨⟨_, _, by rw [HSN.out]; exact HS3.out⟩, hO4.same D _ HD1.out rfl⟩, HB1.out.trans (HBc.out.trans (((Below.refl _ wc).drew).trans HB3.out))⟩
        · gi_wp2_with fail
          refine anyIn_two 0 2 (by kernel_rfl) rfl rfl ?_ ?_
          · gi_wp2_with fail
            refine anyIn_one 2 (by kernel_rfl) rfl ?_
            gi_wp2_with (refine ⟨trivial, ?_⟩; refine (CallsIn.inRound l (callsIn_wide.2 (UP.out _))).mono ?_; rintro e X2 ⟨rfl, hxx⟩; subst hxx)
            refine anyIn_one 3 (by kernel_rfl) rfl ?_
            gi_wp2_with fail
            refine anyIn_one 4 (by kernel_rfl) rfl ?_
            gi_wp2_with (gi_at_builtin; refine wpListIn_append_own _ rfl _ _ 34 rfl w.heap.size 3 i1 _ 1 8 Tryz.underlying34 hj hy0 hy1 hy2 rfl (by decide) _ _ _ rfl (HS2.out.alloc _).r2 ⟨wc.heap.size, 0, none⟩ 1 1 [.int .i64 us] rfl rfl (cell_one_new wc.drew _ _) (by simp [Value.oneCell']) (by rw [HLEN.out]; simp [maxLen]; omega) (by rw [HLEN.out]; omega) (by simp; omega) ?_; intro v2' w2 hown2 hgrow2 _; obtain ⟨g2', cap2', rfl⟩ := ownsRow_succ hown2; obtain ⟨⟨hc2, hf2, hd2⟩, hS3, hO3, hK3, hB3⟩ := HP2.out _ _ _ _ _ _ _ _ HS2.out (by show w.heap.size ≤ wc.heap.size; omega) hown2 hgrow2; have HS3 := Lib.hid hS3; have HO3 := Lib.hid hO3; have HK3 := Lib.hid hK3; have HB3 := Lib.hid hB3; clear hS3 hO3 hK3 hB3 hown2 hgrow2)
            refine anyIn_one 5 (by kernel_rfl) rfl ?_
            gi_wp2_with fail
            refine anyIn_end (by kernel_rfl) ?_
            gi_wp2
            have hO4 : KeepsOthers X _ := HOc.out.trans ((KeepsOthers.drew wc).trans HO3.out)
            exact ⟨hO4.from _, HKc.out.trans (KpV.trans (B := wc.drew) (fun _ _ _ h => h) HK3.out), ⟨⟨_, _, by rw [HSN.out]; exact HS3.out⟩, hO4.same D _ HD1.out rfl⟩, HB1.out.trans (HBc.out.trans (((Below.refl _ wc).drew).trans HB3.out))⟩
          · gi_wp2_with (refine ⟨trivial, ?_⟩; refine (CallsIn.inRound l (callsIn_wide.2 (UP.out _))).mono ?_; rintro e X2 ⟨rfl, hxx⟩; subst hxx)
            refine anyIn_two 0 3 (by kernel_rfl) rfl rfl ?_ ?_
            · gi_wp2_with fail
              refine anyIn_one 3 (by kernel_rfl) rfl ?_
              gi_wp2_with fail
              refine anyIn_one 4 (by kernel_rfl) rfl ?_
              gi_wp2_with (gi_at_builtin; refine wpListIn_append_own _ rfl _ _ 34 rfl w.heap.size 3 i1 _ 1 8 Tryz.underlying34 hj hy0 hy1 hy2 rfl (by decide) _ _ _ rfl (HS2.out.alloc _).r2 ⟨wc.heap.size, 0, none⟩ 1 1 [.int .i64 us] rfl rfl (cell_one_new wc.drew _ _) (by simp [Value.oneCell']) (by rw [HLEN.out]; simp [maxLen]; omega) (by rw [HLEN.out]; omega) (by simp; omega) ?_; intro v2' w2 hown2 hgrow2 _; obtain ⟨g2', cap2', rfl⟩ := ownsRow_succ hown2; obtain ⟨⟨hc2, hf2, hd2⟩, hS3, hO3, hK3, hB3⟩ := HP2.out _ _ _ _ _ _ _ _ HS2.out (by show w.heap.size ≤ wc.heap.size; omega) hown2 hgrow2; have HS3 := Lib.hid hS3; have HO3 := Lib.hid hO3; have HK3 := Lib.hid hK3; have HB3 := Lib.hid hB3; clear hS3 hO3 hK3 hB3 hown2 hgrow2)
              refine anyIn_one 5 (by kernel_rfl) rfl ?_
              gi_wp2_with fail
              refine anyIn_end (by kernel_rfl) ?_
              gi_wp2
              have hO4 : KeepsOthers X _ := HOc.out.trans ((KeepsOthers.drew wc).trans HO3.out)
              exact ⟨hO4.from _, HKc.out.trans (KpV.trans (B := wc.drew) (fun _ _ _ h => h) HK3.out), ⟨⟨_, _, by rw [HSN.out]; exact HS3.out⟩, hO4.same D _ HD1.out rfl⟩, HB1.out.trans (HBc.out.trans (((Below.refl _ wc).drew).trans HB3.out))⟩
            · gi_wp2_with fail
              refine anyIn_one 0 (by kernel_rfl) rfl ?_
              gi_wp2_with fail
              refine anyIn_one 4 (by kernel_rfl) rfl ?_
              gi_wp2_with (gi_at_builtin; refine wpListIn_append_own _ rfl _ _ 34 rfl w.heap.size 3 i1 _ 1 8 Tryz.underlying34 hj hy0 hy1 hy2 rfl (by decide) _ _ _ rfl (HS2.out.alloc _).r2 ⟨wc.heap.size, 0, none⟩ 1 1 [.int .i64 us] rfl rfl (cell_one_new wc.drew _ _) (by simp [Value.oneCell']) (by rw [HLEN.out]; simp [maxLen]; omega) (by rw [HLEN.out]; omega) (by simp; omega) ?_; intro v2' w2 hown2 hgrow2 _; obtain ⟨g2', cap2', rfl⟩ := ownsRow_succ hown2; obtain ⟨⟨hc2, hf2, hd2⟩, hS3, hO3, hK3, hB3⟩ := HP2.out _ _ _ _ _ _ _ _ HS2.out (by show w.heap.size ≤ wc.heap.size; omega) hown2 hgrow2; have HS3 := Lib.hid hS3; have HO3 := Lib.hid hO3; have HK3 := Lib.hid hK3; have HB3 := Lib.hid hB3; clear hS3 hO3 hK3 hB3 hown2 hgrow2)
              refine anyIn_one 5 (by kernel_rfl) rfl ?_
              gi_wp2_with fail
              refine anyIn_end (by kernel_rfl) ?_
              gi_wp2
              have hO4 : KeepsOthers X _ := HOc.out.trans ((KeepsOthers.drew wc).trans HO3.out)
              exact ⟨hO4.from _, HKc.out.trans (KpV.trans (B := wc.drew) (fun _ _ _ h => h) HK3.out), ⟨⟨_, _, by rw [HSN.out]; exact HS3.out⟩, hO4.same D _ HD1.out rfl⟩, HB1.out.trans (HBc.out.trans (((Below.refl _ wc).drew).trans HB3.out))⟩
    case done2 =>
      rintro D2 ys X hD2 rfl ⟨⟨⟨u1, u2, hS⟩, hD1⟩, hB2⟩ hK2
      rw [ksG_all] at hS
      have k1 := hS.b1.cell
      have k2 := hS.b2.cell
      obtain ⟨A1, c1, rfl, _, _⟩ := own_form hS.r1
      obtain ⟨A2, c2, rfl, _, _⟩ := own_form hS.r2
      have hl1 : (List.range 148).length = 148 := by simp
      have HS := Lib.hid hS
      have HD1 := Lib.hid hD1
      have HB2 := Lib.hid hB2
      have HK2 := Lib.hid hK2
      clear hS hD1 hB2 hK2
      gi_wp2
      gi_region
      gi_wp2
      have e2 : X.drew.heap[D2]? = some (.deferred (some [])) := HK2.out
      have hne : D ≠ D2 := by omega
      have e1 : (X.drew.putObj D2 (.deferred none)).heap[D]? = some (.deferred (some [])) := (World.putObj_heap_other hne).trans HD1.out
      refine ⟨by simp, .inl ⟨_, _, rfl, run_takeDeferred e2, ⟨by simp, .inl ⟨_, _, rfl, run_takeDeferred e1, ?_⟩⟩⟩⟩
      refine ⟨_, results_tmp2 rfl _ _ _, A1, c1, A2, c2, rfl, ?_, ?_, ?_⟩
      · exact ownsRow_putObj (ownsRow_putObj (W := X.drew) HS.out.r1 _ e2 rfl) _ e1 rfl
      · exact ownsRow_putObj (ownsRow_putObj (W := X.drew) HS.out.r2 _ e2 rfl) _ e1 rfl
      · exact (HB2.out.drew.trans (belowK_b (w := w) (Nat.le_refl _) X.drew D2 _ _ (by omega) e2 rfl rfl)).trans (belowK_b (w := w) (Nat.le_refl _) _ D _ _ (by omega) e1 rfl rfl)
    case stop2 =>
      rintro D c pre W _ _ h _
      exact h.elim
end Go.Proofs.YtncpokioagpclaaGreatDoor
namespace Go.Proofs.YtncpokioagpclaaGreatDoor
set_option linter.unusedVariables false
set_option linter.unusedSimpArgs false
set_option linter.unnecessarySimpa false
open Go.RowKit Go.Shelf

theorem lcells_len (n : Nat) : (lcells (List.range n)).length = 2 * n := by
  induction n with
  | zero => rfl
  | succ n ih => rw [List.range_succ, lcells_snoc, List.length_append, ih]; simp; omega
theorem lcells_at : ∀ (n k : Nat), k < n → (lcells (List.range n))[k * 2]? = some (.int .i64 (LB k)) ∧ (lcells (List.range n))[k * 2 + 1]? = some (.complex .f64 (fl (LM k)) (fl (LT k)))
  | 0, k, h => absurd h (by omega)
  | n + 1, k, h => by
    have hl := lcells_len n
    rw [List.range_succ, lcells_snoc]
    by_cases hk : k = n
    · subst hk
      rw [List.getElem?_append_right (by omega), List.getElem?_append_right (by omega), hl, show k * 2 - 2 * k = 0 by omega, show k * 2 + 1 - 2 * k = 1 by omega]
      exact ⟨rfl, rfl⟩
    · rw [List.getElem?_append_left (by omega), List.getElem?_append_left (by omega)]
      exact lcells_at n k (by omega)
theorem scells_at (n k : Nat) (h : k < n) : (scells (List.range n))[k]? = some (.int .i64 (LS k)) := by simp [scells, h]
/-- All's two slices in a world: 148 letters in block g, their scalars in block h -/
structure Two (W : World) (g h : Nat) : Prop where
  lb : ∀ k, k < 148 → W.cell? ⟨g, k * 2, none⟩ = some (.int .i64 (LB k))
  lz : ∀ k, k < 148 → W.cell? ⟨g, k * 2 + 1, none⟩ = some (.complex .f64 (fl (LM k)) (fl (LT k)))
  ls : ∀ k, k < 148 → W.cell? ⟨h, k, none⟩ = some (.int .i64 (LS k))
  lg : g < W.heap.size
  lh : h < W.heap.size
theorem Two.below {W W' : World} {g h : Nat} (t : Two W g h) (hb : Below W.heap.size W W') : Two W' g h :=
  ⟨fun k hk => (hb.cell (p := ⟨g, k * 2, none⟩) t.lg).trans (t.lb k hk), fun k hk => (hb.cell (p := ⟨g, k * 2 + 1, none⟩) t.lg).trans (t.lz k hk), fun k hk => (hb.cell (p := ⟨h, k, none⟩) t.lh).trans (t.ls k hk), Nat.lt_of_lt_of_le t.lg hb.size, Nat.lt_of_lt_of_le t.lh hb.size⟩
theorem own_cells9 {w : World} {base size n c : Nat} {e : TypeId} {A : Option Addr} {xs : List Value} (h : w.ownsRow base e size (.slice A (n + 1) c) (n + 1) xs) : ∃ g, A = some ⟨g, 0, none⟩ ∧ g < w.heap.size ∧ ∀ j v, xs[j]? = some v → w.cell? ⟨g, j, none⟩ = some v := by
  obtain ⟨g, cap, hv⟩ := ownsRow_succ h
  injection hv with hA _ hc
  subst hA hc
  refine ⟨g, rfl, ?_, fun j v hj => ?_⟩
  · rcases h.2 with ⟨hx, _⟩ | ⟨g', cap', cur, hx, _, hb, _⟩
    · cases hx
    · injection hx with hx _ _
      injection hx with hx
      injection hx with hx
      subst hx
      exact (Array.getElem?_eq_some_iff.1 hb).1
  · have := h.cells (g := g) rfl j v hj
    have e : (⟨g, 0, none⟩ : Addr).add j = ⟨g, j, none⟩ := by unfold Addr.add; split <;> simp_all
    rw [e] at this
    exact this
theorem two_any (w : World) (hR : RowsV w) :
    Calls Tryz.prog 87 #[] w fun e w' => ∃ g c h d, e = .returned (.tuple #[.slice (some ⟨g, 0, none⟩) 148 c, .slice (some ⟨h, 0, none⟩) 148 d]) ∧ Two w' g h ∧ Below w.heap.size w w' ∧ 148 ≤ c ∧ c ≤ maxLen ∧ 148 ≤ d ∧ d ≤ maxLen := by
  refine (vall_any w hR).mono ?_
  rintro e w' ⟨A1, c1, A2, c2, rfl, h1, h2, hb⟩
  obtain ⟨_, _, e1, f1, f2⟩ := own_form h1
  obtain ⟨_, _, e2, f3, f4⟩ := own_form h2
  obtain ⟨g, rfl, hg, hc⟩ := own_cells9 (n := 147) h1
  obtain ⟨h, rfl, hh, hd⟩ := own_cells9 (n := 147) h2
  injection e1 with _ _ e1
  injection e2 with _ _ e2
  refine ⟨g, c1, h, c2, rfl, ⟨fun k hk => hc _ _ (lcells_at 148 k hk).1, fun k hk => hc _ _ (lcells_at 148 k hk).2, fun k hk => hd _ _ (scells_at 148 k hk), hg, hh⟩, hb, by omega, by omega, by omega, by omega⟩
end Go.Proofs.YtncpokioagpclaaGreatDoor
