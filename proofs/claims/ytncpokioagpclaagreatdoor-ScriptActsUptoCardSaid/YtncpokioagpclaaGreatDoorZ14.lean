/- Texts of this seat, one behind the other: VietI. -/
import Derived.Test.YtncpokioagpclaaGreatDoorZ6
import Derived.Test.YtncpokioagpclaaGreatDoorProg
import Derived.RangeFuncNested
import Derived.RangeFuncBound
import Derived.RangeFuncCalls
import Derived.RangeFuncLeaves
import Derived.Shelf.Abstract
import Derived.Shelf.RegionOpen
import Derived.OwnWalkIn
import Derived.TacticsInMore
import Derived.LoopNIn
import Derived.LoopIn
namespace Go.Proofs.YtncpokioagpclaaGreatDoor
set_option linter.unusedVariables false
set_option linter.unusedSimpArgs false
set_option linter.unnecessarySimpa false
open Go.RowKit Go.Shelf
attribute [local go_sem] Oper.semAt_some

/-- the program's table, cell by cell -/
def vs (R T : Nat) : Int := (vrow R).2.2.getD T 0
def vrowV (R : Nat) : List Value := [.int .i64 (vrow R).1, .int .i64 ((vrow R).2.1 : Int), .int .i64 (vs R 0), .int .i64 (vs R 1), .int .i64 (vs R 2), .int .i64 (vs R 3), .int .i64 (vs R 4), .int .i64 (vs R 5)]
def rowsC : Array Value := ((List.range 14).flatMap vrowV).toArray
def RowsV (w : World) : Prop := w.var? Tryz.prog "lontar/viet.rows" = some rowsC
theorem RowsV.block {w : World} (h : RowsV w) : ∃ t fr, w.heap[3]? = some (.cells rowsC t fr) := by
  have hg : Tryz.prog.globalNamed "lontar/viet.rows" = some 3 := by kernel_rfl
  unfold RowsV World.var? at h
  rw [hg] at h
  simp only [Option.bind_some] at h
  split at h
  · rename_i cs t fr hb
    injection h with h
    subst h
    exact ⟨t, fr, hb⟩
  · cases h
theorem RowsV.of {w w' : World} (h : RowsV w) (hb : w'.heap[3]? = w.heap[3]?) : RowsV w' := by
  have hg : Tryz.prog.globalNamed "lontar/viet.rows" = some 3 := by kernel_rfl
  unfold RowsV World.var? at *
  rw [hg] at h ⊢
  simp only [Option.bind_some, hb] at *
  exact h
theorem RowsV.lt {w : World} (h : RowsV w) : 3 < w.heap.size := by
  obtain ⟨t, fr, hb⟩ := h.block
  exact (Array.getElem?_eq_some_iff.1 hb).1
theorem RowsV.below {w w' : World} (h : RowsV w) (hb : Below w.heap.size w w') : RowsV w' := h.of (hb.block _ h.lt)

theorem wpListIn_load_row {F : Fence} {n : Nat} {P : Program} {w : World} {ops : Array Oper} {rest : List Oper} {o : Oper} {a : Act} {Q : Exit → Act → World → Prop} (hgd : o.guard = none) (ty : TypeId) (x : Operand) (ho : o.op = .load ty x)
    (g : Nat) (hx : a.eval x = .pointer (some ⟨g, 0, none⟩)) (t : TypeId) (cs : Array Value) (fr : Nat × Nat) (d : TypeDesc) (hg : w.heap[g]? = some (.cells cs t fr))
    (hu : P.underlying ty = some d) (hd : (match d with | .struct _ | .array _ _ => true | _ => false) = true) (hi : (P.info? ty).map (·.size) = some cs.size)
    (h : wpListIn F n P ops Q rest (a.put o.dst (.agg cs)) w) : wpListIn F n P ops Q (o :: rest) a w := by
  refine wpListIn_plain hgd fun K hK' => ?_
  unfold Oper.wpIn
  refine ⟨?_, ?_⟩
  · simp [Oper.about, ho]
  · rw [Oper.semAt_plain F _ _ (by rw [ho]; intro c hc'; cases hc')]
    simp only [execOp, ho, hx, Instr.loadAt, Instr.sureAddr, Sem.run_bind, Sem.run_pure, Result.andThen_ok, run_loadVar_row w g t ty cs fr d hg hu hd hi]
    exact hK' _ _ h

/-- what a letter is handed as -/
def encV (x : Fin 74) : Array Value := #[.agg #[.int .i64 (LB x.val), .complex .f64 (fl (LM x.val)) (fl (LT x.val))], .int .i64 (LS x.val)]
/-- what a round that goes on keeps: the blocks that hold rows of the table -/
def KpV (A B : World) : Prop := ∀ (k : Nat) (cs : Array Value) (fr : Nat × Nat), A.heap[k]? = some (.cells cs 249 fr) → B.heap[k]? = some (.cells cs 249 fr)
theorem KpV.refl (A : World) : KpV A A := fun _ _ _ h => h
theorem KpV.trans {A B C : World} (h : KpV A B) (k : KpV B C) : KpV A C := fun i cs fr e => k i cs fr (h i cs fr e)
theorem KpV.put {w : World} (W : World) (l : Nat) (o o' : Obj) (_ : w.heap.size ≤ l) (h : W.heap[l]? = some o) (hc : o.isCells = false) (_ : o.isWalk = false) : KpV W (W.putObj l o') := fun k cs fr e => by
  by_cases hk : k = l
  · subst hk; rw [h] at e; injection e with e; subst e; cases hc
  · exact (World.putObj_heap_other hk).trans e
theorem KpV.grown {A B : World} {row : Option Nat} (hg : A.grownBy B row) (h : ∀ k, row = some k → ∃ cs t fr, A.heap[k]? = some (.cells cs t fr) ∧ t ≠ 249) : KpV A B := fun k cs fr e => by
  refine (hg.block k (Array.getElem?_eq_some_iff.1 e).1 ?_).trans e
  intro e'
  obtain ⟨cs', t, fr', h1, h2⟩ := h k e'.symm
  rw [e] at h1
  injection h1 with h1
  injection h1 with _ h1 _
  exact h2 h1.symm
theorem KpV.alloc (A : World) (o : Obj) : KpV A (A.alloc o) := KpV.grown (World.grownBy_alloc A o none) (fun k h => by cases h)

theorem take_snoc (k : Nat) (hk : k < 74) : (List.finRange 74).take k ++ [⟨k, hk⟩] = (List.finRange 74).take (k + 1) := by
  have h : ∀ k : Fin 74, (List.finRange 74).take k.val ++ [k] = (List.finRange 74).take (k.val + 1) := by decide +kernel
  exact h ⟨k, hk⟩
theorem row_ix : ∀ (R : Nat) (h : R < 14) (W : World), (Instr.index 250 (.agg rowsC) (.int .i64 (R : Int))).run Tryz.prog W = .ok (.agg (vrowV R).toArray) W
  | 0, _, _ => by kernel_rfl
  | 1, _, _ => by kernel_rfl
  | 2, _, _ => by kernel_rfl
  | 3, _, _ => by kernel_rfl
  | 4, _, _ => by kernel_rfl
  | 5, _, _ => by kernel_rfl
  | 6, _, _ => by kernel_rfl
  | 7, _, _ => by kernel_rfl
  | 8, _, _ => by kernel_rfl
  | 9, _, _ => by kernel_rfl
  | 10, _, _ => by kernel_rfl
  | 11, _, _ => by kernel_rfl
  | 12, _, _ => by kernel_rfl
  | 13, _, _ => by kernel_rfl
theorem six_ix (f : Nat → Int) : ∀ (T : Nat) (h : T < 6) (W : World), (Instr.index 247 (.agg #[.int .i64 (f 0), .int .i64 (f 1), .int .i64 (f 2), .int .i64 (f 3), .int .i64 (f 4), .int .i64 (f 5)]) (.int .i64 (T : Int))).run Tryz.prog W = .ok (.int .i64 (f T)) W
  | 0, _, _ => by kernel_rfl
  | 1, _, _ => by kernel_rfl
  | 2, _, _ => by kernel_rfl
  | 3, _, _ => by kernel_rfl
  | 4, _, _ => by kernel_rfl
  | 5, _, _ => by kernel_rfl

/-- the padded table: behind the scalars of a row stand noughts -/
theorem vs_at (R T : Nat) (hR : R < 14) (hT : T < 6) : (T < (vrow R).2.2.length → vs R T = LS (voff R + T) ∧ (vs R T == 0) = false) ∧ (¬ T < (vrow R).2.2.length → (vs R T == 0) = true) := by
  have := all_range (show (List.range 14).all (fun R => (List.range 6).all fun T => decide ((T < (vrow R).2.2.length → vs R T = LS (voff R + T) ∧ (vs R T == 0) = false) ∧ (¬ T < (vrow R).2.2.length → (vs R T == 0) = true))) = true by decide +kernel) R hR
  exact of_decide_eq_true (all_range this T hT)

set_option maxRecDepth 100000 in
set_option maxHeartbeats 4000000 in
theorem small1_in (F : Fence) (n : Nat) (hF : F.fn 123) (hro : F.round = none) (hn : 1 ≤ n) (l : Nat) (J Jx : List (Fin 74) → World → Prop) (W : World) (hJ : AbidesFrom W.heap.size J)
    (hY : ∀ pre x W1, J pre W1 → pre.length < 74 → YieldAt F (n - 1) Tryz.prog l (encV x) W1 fun e W' =>
      (e = .returned (.bool true) ∧ J (pre ++ [x]) W' ∧ KpV W1 W') ∨ (e = .returned (.bool false) ∧ Jx (pre ++ [x]) W'))
    (hR : RowsV W) (h0 : J [] W) :
    CallsIn F n Tryz.prog 123 #[.func (.yield l) #[] #[]] W fun e W' => (∃ v, e = .returned v) ∧
      ((∃ ys, ys = List.finRange 74 ∧ J ys W') ∨ (∃ pre, pre <+: List.finRange 74 ∧ Jx pre W')) := by
  obtain ⟨tt, fr, hblk⟩ := hR.block
  have HY := Lib.hid hY
  have HJ := Lib.hid (show ∀ s A o, J s A → J s (A.alloc o) from fun s A o h => hJ s A _ none h (World.grownBy_alloc A o none) (fun r e => by cases e))
  clear hY hJ hR
  have hix := row_ix
  obtain ⟨RC, hRC⟩ : ∃ RC, rowsC = RC := ⟨_, rfl⟩
  have hsz : (Tryz.prog.info? 250).map (·.size) = some RC.size := by rw [← hRC]; kernel_rfl
  rw [hRC] at hix hblk
  have HIX := Lib.hid hix
  have HSZ := Lib.hid hsz
  clear hix hRC hsz
  refine callsIn_of_wp Tryz.func123 rfl hF ?_ hro
  simp only [Tryz.ntmps123, List.size_toArray, List.length_cons, List.length_nil, Nat.reduceAdd, Nat.reduceSub, Array.replicate_succ, Array.replicate_zero, List.push_toArray, List.append_toArray, List.nil_append, List.cons_append]
  gi_wp2_with (refine wpListIn_load_row rfl 250 _ rfl 3 rfl tt RC fr _ hblk Tryz.underlying250 rfl HSZ.out ?_)
  clear hblk
  gi_loopw [7] (fun i wr => ∃ R : Nat, R ≤ 14 ∧ i = .int .i64 R ∧ Hid (J ((List.finRange 74).take (voff R)) wr)) (fun i _ => 14 - (intOf i).toNat)
  case atStart => exact ⟨0, by omega, rfl, Lib.hid h0⟩
  case round =>
    obtain ⟨R, hR, rfl, hJ1⟩ := hrel
    by_cases hR14 : R = 14
    · subst hR14
      gi_wp2
      go_end0
      exact ⟨⟨_, rfl⟩, .inl ⟨_, rfl, by have := hJ1.out; rwa [voff_last, show (List.finRange 74).take 74 = List.finRange 74 from by decide +kernel] at this⟩⟩
    have hR' : R < 14 := by omega
    have hR0 : (0 : Int) ≤ R := by omega
    have hR1 : (R : Int) < 14 := by omega
    have hrix := HIX.out R hR'
    have hsx := six_ix (vs R)
    have hat := vs_at R
    have hlr := fun T hT => letter_row R T hR' hT
    have hlen := vrow_len R hR'
    have hsucc := voff_succ R hR'
    unfold vrowV at hrix
    obtain ⟨b, hb⟩ : ∃ b, (vrow R).1 = b := ⟨_, rfl⟩
    obtain ⟨m, hm⟩ : ∃ m, (vrow R).2.1 = m := ⟨_, rfl⟩
    obtain ⟨L, hL⟩ : ∃ L, (vrow R).2.2.length = L := ⟨_, rfl⟩
    simp only [hb, hm, hL] at hrix hat hlr hlen hsucc
    obtain ⟨f, hf⟩ : ∃ f, vs R = f := ⟨_, rfl⟩
    simp only [hf] at hrix hat hsx
    obtain ⟨s0, e0⟩ : ∃ s, f 0 = s := ⟨_, rfl⟩
    obtain ⟨s1, e1⟩ : ∃ s, f 1 = s := ⟨_, rfl⟩
    obtain ⟨s2, e2⟩ : ∃ s, f 2 = s := ⟨_, rfl⟩
    obtain ⟨s3, e3⟩ : ∃ s, f 3 = s := ⟨_, rfl⟩
    obtain ⟨s4, e4⟩ : ∃ s, f 4 = s := ⟨_, rfl⟩
    obtain ⟨s5, e5⟩ : ∃ s, f 5 = s := ⟨_, rfl⟩
    simp only [e0, e1, e2, e3, e4, e5] at hrix hsx
    have HSX := Lib.hid hsx
    have HAT := Lib.hid hat
    have HLR := Lib.hid hlr
    have HLEN := Lib.hid hlen
    have HSUCC := Lib.hid hsucc
    clear hsx hat hlr hlen hsucc hb hm hL hf e0 e1 e2 e3 e4 e5
    gi_wp2_with fail
    clear hrix
    obtain ⟨cs, hcs⟩ : ∃ cs : Array Value, #[.int .i64 b, .int .i64 (m : Int), .int .i64 s0, .int .i64 s1, .int .i64 s2, .int .i64 s3, .int .i64 s4, .int .i64 s5] = cs := ⟨_, rfl⟩
    have hJ2 := HJ.out _ _ (.cells cs 249) hJ1.out
    have hg2 : (wr.alloc (.cells cs 249)).heap[wr.heap.size]? = some (.cells cs 249 (0, 0)) := World.alloc_heap_new wr _
    rw [hcs]
    obtain ⟨W2, hW2⟩ : ∃ W2, wr.alloc (.cells cs 249) = W2 := ⟨_, rfl⟩
    obtain ⟨g, hg⟩ : ∃ g, wr.heap.size = g := ⟨_, rfl⟩
    rw [hW2] at hJ2 hg2 ⊢
    rw [hg] at hg2 ⊢
    have hJ2 := Lib.hid hJ2
    clear hW2 hg hJ1
    clear wr
    gi_loopw [12] (fun i wi => ∃ T : Nat, T ≤ L ∧ i = .int .i64 T ∧ Hid (J ((List.finRange 74).take (voff R + T)) wi) ∧ wi.heap[g]? = some (.cells cs 249 (0, 0))) (fun i _ => 6 - (intOf i).toNat)
    case atStart => exact ⟨0, by omega, rfl, hJ2, hg2⟩
    case round =>
      obtain ⟨T, hT, rfl, hJ3, hg3⟩ := hrel
      have hL6 := HLEN.out
      by_cases hTL : T = L
      · -- what stands behind the row's scalars
        subst hTL
        have hJ4 : Hid (J ((List.finRange 74).take (voff (R + 1))) wr) := by rw [HSUCC.out]; exact hJ3
        by_cases hT6 : T = 6
        · subst hT6
          gi_wp2
          go_roundw
          case rel => exact ⟨R + 1, by omega, by go_num, hJ4⟩
          case measure => simp [intOf]; omega
        · have hT6' : T < 6 := by omega
          have hTi : (T : Int) < 6 := by omega
          have hTi0 : (0 : Int) ≤ T := by omega
          have hf0 := (HAT.out T hR' hT6').2 (by omega)
          have hsx := HSX.out T hT6'
          obtain ⟨sT, hsT⟩ : ∃ s, f T = s := ⟨_, rfl⟩
          rw [hsT] at hf0 hsx
          gi_wp2
          go_roundw
          case rel => exact ⟨R + 1, by omega, by go_num, hJ4⟩
          case measure => simp [intOf]; omega
      · have hT6' : T < 6 := by omega
        have hTi : (T : Int) < 6 := by omega
        have hTi0 : (0 : Int) ≤ T := by omega
        obtain ⟨hfs, hf0⟩ := (HAT.out T hR' hT6').1 (by omega)
        have hsx := HSX.out T hT6'
        have hk : voff R + T < 74 := by omega
        obtain ⟨l1, l2, l3, _⟩ := HLR.out T (by omega)
        obtain ⟨fn, tmps, assign, body, hy, hRd⟩ := HY.out ((List.finRange 74).take (voff R + T)) ⟨voff R + T, hk⟩ wr hJ3.out (by simp; omega)
        rw [take_snoc] at hRd
        unfold encV at hy
        simp only [l1, l2, l3, ← hfs] at hy
        obtain ⟨sT, hsT⟩ : ∃ s, f T = s := ⟨_, rfl⟩
        rw [hsT] at hf0 hsx hy
        unfold fl at hy
        have c0 : wr.cell? ⟨g, 0, none⟩ = some (.int .i64 b) := by rw [cell_of_row _ _ _ _ _ _ hg3, ← hcs]; rfl
        have c1 : wr.cell? ⟨g, 1, none⟩ = some (.int .i64 (m : Int)) := by rw [cell_of_row _ _ _ _ _ _ hg3, ← hcs]; rfl
        have HG3 := Lib.hid hg3
        clear hg3 hfs hsT l1 l2 l3
        gi_wp2
        refine hRd.mono ?_
        rintro e W3 (⟨rfl, hJ5, hk5⟩ | ⟨rfl, hJx5⟩)
        · have hg5 := hk5 g cs _ HG3.out
          have hJ5 := Lib.hid hJ5
          clear hk5 hy
          gi_wp2
          go_roundw
          case rel => exact ⟨T + 1, by omega, by go_num, hJ5, hg5⟩
          case measure => simp [intOf]; omega
        · gi_wp2
          refine bodyPost_ret (results_none rfl _ _ _) rfl ?_
          exact ⟨⟨_, rfl⟩, .inr ⟨_, List.take_prefix _ _, hJx5⟩⟩

/-- viet.small hands all small letters, in their order, to whatever body keeps the table's rows -/
theorem small_stops (F : Fence) (n : Nat) (hF : F.fn 123) (hro : F.round = none) (hn : 1 ≤ n) (w : World) (hR : RowsV w) :
    SeqStopsK F n Tryz.prog 123 #[] encV KpV (fun ys => ys = List.finRange 74) (fun pre => pre <+: List.finRange 74) 74 w := fun l J Jx W hW hJ _ hY h0 =>
  small1_in F n hF hro hn l J Jx W hJ hY (hR.below hW) h0
end Go.Proofs.YtncpokioagpclaaGreatDoor
