/- Texts of this seat, one behind the other: AddS, TmE, TmF. -/
import Derived.Test.YtamembaodpiggaaDoorZ3
import Derived.RangeFuncBox
import Derived.Test.YtamembaodpiggaaDoorZ1
namespace Go.Proofs.YtamembaodpiggaaDoor
set_option linter.unusedVariables false
set_option linter.unusedSimpArgs false
set_option linter.unnecessarySimpa false
open Go.RowKit
/-- block b holds ints -/
def IntB (w : World) (b : Nat) : Prop := ∃ cs, w.heap[b]? = some (.cells cs 3 (0, 0))
/-- box P holds a row of rules of its own -/
def AddSt (P : Nat) (w : World) (acc : List Rl) : Prop := ∃ v xs, Boxed w P 24 v ∧ w.ownsRow P 42 2 v acc.length xs ∧ Rls (IntB w) w xs acc
theorem own_blockT {w : World} {base size n : Nat} {e : TypeId} {v : Value} {xs : List Value} (h : w.ownsRow base e size v n xs) {g : Nat} (hg : v.ownBlock = some g) : ∃ cur, w.heap[g]? = some (.cells cur e (0, 0)) := by
  rcases h.2 with ⟨rfl, _⟩ | ⟨g', cap, cur, rfl, _, hb, _⟩
  · simp [Value.ownBlock] at hg
  · obtain rfl : g' = g := by simpa [Value.ownBlock] using hg
    exact ⟨cur, hb⟩
theorem AddSt.below {P : Nat} {w w' : World} {acc : List Rl} (h : AddSt P w acc) (hb : Below w.heap.size w w') : AddSt P w' acc := by
  obtain ⟨v, xs, h1, h2, h3⟩ := h
  refine ⟨v, xs, (hb.block P h1.lt).trans h1, own_below h2 hb (Nat.le_refl _), h3.step hb.size fun b hl hx => ⟨?_, hb.block b hl⟩⟩
  obtain ⟨cs, hc⟩ := hx
  exact ⟨cs, (hb.block b hl).trans hc⟩
theorem AddSt.own {P : Nat} {w : World} {acc : List Rl} (h : AddSt P w acc) : ∃ A c, w.cell? ⟨P, 0, none⟩ = some (.slice A acc.length c) ∧ OwnRs P w (.slice A acc.length c) acc := by
  obtain ⟨v, xs, h1, h2, h3⟩ := h
  obtain ⟨A, c, rfl, _⟩ := own_form h2
  refine ⟨A, c, h1.cell, xs, h2, h3.step (Nat.le_refl _) fun b hl hx => ⟨fun e => ?_, rfl⟩⟩
  obtain ⟨cs, hc⟩ := hx
  obtain ⟨cur, hq⟩ := own_blockT h2 e
  rw [hc] at hq
  injection hq with hq
  injection hq with _ hq
  revert hq; decide
theorem AddSt.new (w : World) (P : Nat) (hP : w.heap.size = P) : AddSt P (w.alloc (.cells #[.slice none 0 0] 24)) [] := by
  subst hP
  exact ⟨_, [], Boxed.new w _ _, World.ownsRow_nil _ _ _ _, trivial⟩
theorem add_keep {w w1 : World} {P k : Nat} {v : Value} {xs : List Value} {tmp : Obj} (hB : Boxed w P 24 v) (ho : w.ownsRow P 42 2 v k xs) (hg : (w.alloc tmp).grownBy w1 v.ownBlock) (v' : Value)
    (b : Nat) (cs : Array Value) (t : TypeId) (ht : t ≠ 42) (ht' : t ≠ 24) (hb : w.heap[b]? = some (.cells cs t (0, 0))) : (w1.setCell ⟨P, 0, none⟩ v').heap[b]? = some (.cells cs t (0, 0)) := by
  have hl : b < w.heap.size := (Array.getElem?_eq_some_iff.1 hb).1
  have h1 : b ≠ P := fun e => by
    subst e
    rw [show w.heap[b]? = _ from hB] at hb
    injection hb with hb
    injection hb with _ hb
    exact ht' hb.symm
  have h2 : some b ≠ v.ownBlock := fun e => by
    obtain ⟨cur, hc⟩ := own_blockT ho e.symm
    rw [hb] at hc
    injection hc with hc
    injection hc with _ hc
    exact ht hc
  exact (Below.heap_setCell w1 ⟨P, 0, none⟩ v' b h1).trans ((hg.block b (by simp; omega) h2).trans ((Below.heap_alloc w tmp b hl).trans hb))
theorem wpList_appBx {w : World} {ops : Array Oper} {rest : List Oper} {o : Oper} {a : Act} {Q : Exit → Act → World → Prop} (hgd : o.guard = none) (s x : Operand)
    (ho : o.op = .call { callee := .builtin .append, args := #[s, x], argTypes := #[24, 24] })
    (P : Nat) (v : Value) (k : Nat) (xs : List Value) (p q : Value) (hs : a.eval s = v) (ho1 : w.ownsRow P 42 2 v k xs) (hp : p.oneCell' = true) (hq : q.oneCell' = true)
    (N : Nat) (hN : w.heap.size = N) (hx : a.eval x = .slice (some ⟨N, 0, none⟩) 1 1) (hsz : k ≤ 1048576) (hbase : P ≤ w.heap.size)
    (h : ∀ v' w', Hid (w'.ownsRow P 42 2 v' (k + 1) (xs ++ [p, q])) → Hid ((w.alloc (.cells #[p, q] 42)).grownBy w' v.ownBlock) → wpList Tryd.prog ops Q rest (a.put o.dst v') w') :
    wpList Tryd.prog ops Q (o :: rest) a (w.alloc (.cells #[p, q] 42)) := by
  subst hN
  obtain ⟨i0, hi, hz0, hz1, hz2⟩ := info_parts inforl
  refine wpList_appB _ hgd s x 24 ho P 42 i0 _ 2 48 Tryd.underlying24 hi hz0 hz1 hz2 rfl (by decide) v k xs hs (ho1.alloc _) _ _ 1 1 [p, q] hx rfl (Rd_new w #[p, q] _) ?_ (by simp only [maxLen]; omega) (by omega) (by simp; omega) ?_
  · intro u hu; simp at hu; rcases hu with rfl | rfl
    · exact hp
    · exact hq
  intro v' w4 hown4 hg4 _
  exact h v' w4 (Lib.hid hown4) (Lib.hid hg4)

end Go.Proofs.YtamembaodpiggaaDoor
namespace Go.Proofs.YtamembaodpiggaaDoor
set_option linter.unusedVariables false
set_option linter.unusedSimpArgs false
set_option linter.unnecessarySimpa false
open Go.RowKit
set_option maxRecDepth 100000 in
set_option maxHeartbeats 1600000 in
theorem addT_any (P : Nat) (acc : List Rl) (p q : Value) (r : Rl) (w : World) (h : AddSt P w acc) (hp : Us (IntB w) w p r.1) (hq : Us (IntB w) w q r.2) (hsz : acc.length ≤ 1048576) :
    Calls Tryd.prog 27 #[p, q, .pointer (some ⟨P, 0, none⟩)] w fun e w' => e = .returned (.tuple #[]) ∧ AddSt P w' (acc ++ [r]) ∧ Below P w w' ∧
      (∀ (b : Nat) (cs : Array Value) (t : TypeId), t ≠ 42 → t ≠ 24 → w.heap[b]? = some (.cells cs t (0, 0)) → w'.heap[b]? = some (.cells cs t (0, 0))) := by
  obtain ⟨v, xs, hB, ho, hx⟩ := h
  obtain ⟨A, c, rfl, -, -⟩ := own_form ho
  have HP := Lib.hid hp
  have HQ := Lib.hid hq
  have hpo := hp.one
  have hqo := hq.one
  obtain ⟨Ap, cp, ep, -⟩ := hp
  obtain ⟨Aq, cq, eq, -⟩ := hq
  obtain ⟨lp, hlp⟩ : ∃ n, r.1.length = n := ⟨_, rfl⟩
  obtain ⟨lq, hlq⟩ : ∃ n, r.2.length = n := ⟨_, rfl⟩
  rw [hlp] at ep
  rw [hlq] at eq
  subst ep eq
  have cB := hB.cell
  have hle : P ≤ w.heap.size := Nat.le_of_lt hB.lt
  have HB := Lib.hid hB
  have HO := Lib.hid ho
  have HX := Lib.hid hx
  have HSZ := Lib.hid hsz
  obtain ⟨k, hk⟩ : ∃ k, acc.length = k := ⟨_, rfl⟩
  rw [hk] at cB HB HO HSZ
  have HK := Lib.hid hk
  clear hB ho hx hlp hlq hk hsz
  go_enter Tryd.func27, Tryd.ntmps27
  go_wp2_with (at_builtin; refine wpList_appBx rfl _ _ rfl P (.slice A k c) k xs (.slice Ap lp cp) (.slice Aq lq cq) rfl HO.out hpo hqo w.heap.size rfl rfl HSZ.out hle ?_)
  intro v' w1 HN HG
  obtain ⟨g1, g2, g3, g4, g5⟩ := HB.out.appended (by decide) HO.out hle (Nat.le_refl _) HN.out HG.out
  obtain ⟨g, cap, rfl⟩ := ownsRow_succ HN.out
  have c1 := g1.cell
  have f1 := g1.frozen
  have HR := Lib.hid (add_keep HB.out HO.out HG.out (.slice (some ⟨g, 0, none⟩) (k + 1) cap))
  have G2 := Lib.hid g2
  have G3 := Lib.hid g3
  have G5 := Lib.hid g5
  clear g1 g2 g3 g4 g5
  go_wp2
  go_end0
  have hst : ∀ b, b < w.heap.size → IntB w b → IntB (w1.setCell ⟨P, 0, none⟩ (.slice (some ⟨g, 0, none⟩) (k + 1) cap)) b ∧ (w1.setCell ⟨P, 0, none⟩ (.slice (some ⟨g, 0, none⟩) (k + 1) cap)).heap[b]? = w.heap[b]? := by
    intro b hb hi
    obtain ⟨cs, hc⟩ := hi
    have := HR.out b cs _ (by decide) (by decide) hc
    exact ⟨⟨cs, this⟩, this.trans hc.symm⟩
  have hsz2 : w.heap.size ≤ (w1.setCell ⟨P, 0, none⟩ (.slice (some ⟨g, 0, none⟩) (k + 1) cap)).heap.size := G5.out.size
  refine ⟨rfl, ⟨_, _, G2.out, ?_, (HX.out.step hsz2 hst).app (Rls.one (HP.out.step hsz2 hst) (HQ.out.step hsz2 hst))⟩, G5.out, HR.out⟩
  rw [List.length_append, HK.out]
  exact G3.out
theorem addT_lits (P : Nat) (acc : List Rl) (w : World) (I O : List Int) (csI csO : Array Value) (n m N : Nat) (h : AddSt P w acc) (hN : w.heap.size = N)
    (hI : csI.toList = I.map (Value.int .i64)) (hO : csO.toList = O.map (Value.int .i64)) (hn : n = I.length) (hm : m = O.length) (hnl : n ≤ maxLen) (hml : m ≤ maxLen) (hsz : acc.length ≤ 1048576) :
    Calls Tryd.prog 27 #[.slice (some ⟨N, 0, none⟩) n n, .slice (some ⟨N + 1, 0, none⟩) m m, .pointer (some ⟨P, 0, none⟩)] ((w.alloc (.cells csI 3)).alloc (.cells csO 3)) fun e w' =>
      e = .returned (.tuple #[]) ∧ Hid (AddSt P w' (acc ++ [(I, O)])) ∧ Hid (Below P w w') ∧
      Hid (∀ (b : Nat) (cs : Array Value) (t : TypeId), t ≠ 42 → t ≠ 24 → w.heap[b]? = some (.cells cs t (0, 0)) → w'.heap[b]? = some (.cells cs t (0, 0))) := by
  have hP : P ≤ w.heap.size := by obtain ⟨v, xs, h1, _⟩ := h; exact Nat.le_of_lt h1.lt
  have hb1 : Below w.heap.size w (w.alloc (.cells csI 3)) := (Below.refl _ _).alloc (Nat.le_refl _) _
  have hb2 : Below w.heap.size w ((w.alloc (.cells csI 3)).alloc (.cells csO 3)) := hb1.alloc (by simp) _
  have i1 : ((w.alloc (.cells csI 3)).alloc (.cells csO 3)).heap[w.heap.size]? = some (.cells csI 3 (0, 0)) := (Held.new w csI 3).alloc _
  have i2 : ((w.alloc (.cells csI 3)).alloc (.cells csO 3)).heap[w.heap.size + 1]? = some (.cells csO 3 (0, 0)) := by
    have := Held.new (w.alloc (.cells csI 3)) csO 3
    simpa [Held] using this
  refine (addT_any P acc _ _ (I, O) _ (h.below hb2) ?_ ?_ hsz).mono ?_
  · exact (us_newL w N hN I csI hI n hn hnl).up _ fun b _ hb => ⟨csI, by rw [hb, ← hN]; exact i1⟩
  · exact (us_newL (w.alloc (.cells csI 3)) (N + 1) (by simp [hN]) O csO hO m hm hml).step (Nat.le_refl _) fun b _ hb => ⟨⟨csO, by rw [hb, ← hN]; exact i2⟩, rfl⟩
  · rintro e w' ⟨rfl, h1, h2, h3⟩
    refine ⟨rfl, Lib.hid h1, Lib.hid ((hb2.mono hP).trans h2), Lib.hid fun b cs t ht ht' hb => h3 b cs t ht ht' ((hb2.block b (Array.getElem?_eq_some_iff.1 hb).1).trans hb)⟩
end Go.Proofs.YtamembaodpiggaaDoor
namespace Go.Proofs.YtamembaodpiggaaDoor
set_option linter.unusedVariables false
set_option linter.unusedSimpArgs false
set_option linter.unnecessarySimpa false
open Go.RowKit
theorem tab_ints (l : List Int) (k : Nat) (h : k < l.length) : (l.map (Value.int .i64)).toArray[k]? = some (.int .i64 (l.getD k 0)) := by
  rw [List.getElem?_toArray, List.getElem?_map, List.getD_eq_getElem?_getD, List.getElem?_eq_getElem h]; rfl
def tmCt : Array Value := (tmC.map (Value.int .i64)).toArray
def tmVt : Array Value := (tmV.map (Value.int .i64)).toArray
def tmSt : Array Value := (tmS.map (Value.int .i64)).toArray
theorem below_allocT (w : World) (o : Obj) : Below w.heap.size w (w.alloc o) := (Below.refl _ w).alloc (Nat.le_refl _) o
set_option maxRecDepth 100000 in
set_option maxHeartbeats 1600000 in
theorem lcons_any (w : World) : Calls Tryd.prog 14 #[] w fun e w' => e = .returned (.slice (some ⟨w.heap.size, 0, none⟩) 22 22) ∧ w' = w.alloc (.cells tmCt 3) := by
  go_enter Tryd.func14, Tryd.ntmps14
  go_wp2_with (refine wpList_bs rfl 30 22 _ rfl (.slice (some ⟨w.heap.size, 0, none⟩) 22 22) (w.alloc (.cells tmCt 3)) (by kernel_rfl) ?_)
  go_wp2_with fail
  go_ret
  exact ⟨rfl, rfl⟩
/-- the beginnings of the eight rules of a consonant -/
def tmQ (c s : Int) (j : Nat) : Rl := ([166 + (j : Int), c], [s, 3014 + (j : Int)])
theorem tmQ_take (c s : Int) (j : Nat) (h : j < 3) : ((List.range 3).map (tmQ c s)).take (j + 1) = ((List.range 3).map (tmQ c s)).take j ++ [([166 + (j : Int), c], [s, 3014 + (j : Int)])] := by
  rw [List.take_succ_eq_append_getElem (by simpa using h), List.getElem_map, List.getElem_range]; rfl
theorem tmG_steps (k : Nat) (h : k < 22) : tmR.take (151 + 8 * (k + 1)) = (((((tmR.take (151 + 8 * k) ++ [([176 + (k : Int)], [tmCon k])]) ++ [([208 + (k : Int)], [tmCon k, 3021])]) ++ ((List.range 3).map (tmQ (176 + (k : Int)) (tmCon k))).take 3) ++ [([166, 176 + (k : Int), 170], [tmCon k, 3018])]) ++ [([167, 176 + (k : Int), 170], [tmCon k, 3019])]) ++ [([166, 176 + (k : Int), 175], [tmCon k, 3020])] := by
  rw [tmR_con k h]; simp [tmG, tmQ, List.range, List.range.loop]
set_option maxRecDepth 100000 in
set_option maxHeartbeats 12800000 in
theorem lrulesT_any (w : World) :
    Calls Tryd.prog 12 #[] w fun e w' => ∃ v, e = .returned v ∧ OwnRs w.heap.size w' v tmR ∧ Below w.heap.size w w' := by
  have hmf : ∀ (fn : Fn) (first cap : Array Value) (w : World), (Instr.makeFunc fn first cap).run Tryd.prog w = .ok (.func fn first cap) w := fun _ _ _ _ => rfl
  have HP0 := Lib.hid (AddSt.new w w.heap.size rfl)
  have HB0 := Lib.hid (below_allocT w (.cells #[.slice none 0 0] 24))
  obtain ⟨P, hP⟩ : ∃ P, w.heap.size = P := ⟨_, rfl⟩
  rw [hP] at HP0 HB0 ⊢
  go_enter Tryd.func12, Tryd.ntmps12
  go_wp2_with fail
  clear hP
  go_loopw [3] (fun i wr => ∃ C : Nat, C ≤ 128 ∧ i = .int .i64 C ∧ Hid (AddSt P wr (tmR.take C)) ∧ Hid (Below P w wr)) (fun i _ => 128 - (intOf i).toNat)
  case atStart => exact ⟨0, by omega, rfl, HP0, HB0⟩
  case round =>
    clear HP0 HB0
    obtain ⟨C, hC, rfl, ho, hb⟩ := hrel
    by_cases hCn : C = 128
    · subst hCn
      obtain ⟨w1, rfl⟩ : ∃ w1 : World, w1 = wr := ⟨_, rfl⟩
      rw [show ((128 : Nat) : Int) = 128 from rfl]
      have HQK1 := Lib.hid (Held.new w1 tmVt 3)
      have hoK1 := Lib.hid (ho.out.below (below_allocT w1 (.cells tmVt 3)))
      have hpl : P ≤ w1.heap.size := by obtain ⟨v, xs, h1, _⟩ := ho.out; exact Nat.le_of_lt h1.lt
      have hbK1 := Lib.hid (hb.out.trans ((below_allocT w1 (.cells tmVt 3)).mono hpl))
      go_wp2_with (refine wpList_bs rfl 30 13 _ rfl (.slice (some ⟨w1.heap.size, 0, none⟩) 13 13) (w1.alloc (.cells tmVt 3)) (by kernel_rfl) ?_)
      obtain ⟨WK1, hWK1⟩ : ∃ W, w1.alloc (.cells tmVt 3) = W := ⟨_, rfl⟩
      obtain ⟨K1, hK1⟩ : ∃ M, w1.heap.size = M := ⟨_, rfl⟩
      rw [hWK1] at HQK1 hoK1 hbK1 ⊢
      rw [hK1] at HQK1 ⊢
      clear ho hb hWK1 hK1 hpl w1
      go_wp2_with fail
      go_loopw [25] (fun i wr => ∃ J : Nat, J ≤ 13 ∧ i = .int .i64 J ∧ Hid (AddSt P wr (tmR.take (128 + J))) ∧ Hid (Below P w wr) ∧ Hid (Held wr K1 tmVt 3)) (fun i _ => 13 - (intOf i).toNat)
      case atStart => exact ⟨0, by omega, rfl, hoK1, hbK1, HQK1⟩
      case round =>
        clear hoK1 hbK1 HQK1
        obtain ⟨J, hJ, rfl, ho, hb, hq⟩ := hrel
        by_cases hJn : J = 13
        · subst hJn
          obtain ⟨w2, rfl⟩ : ∃ w1 : World, w1 = wr := ⟨_, rfl⟩
          rw [show ((13 : Nat) : Int) = 13 from rfl]
          clear hq
          rw [show 128 + 13 = 141 + 0 from rfl] at ho
          have HQK2 := Lib.hid (Held.new w2 tmSt 3)
          have hoK2 := Lib.hid (ho.out.below (below_allocT w2 (.cells tmSt 3)))
          have hpl : P ≤ w2.heap.size := by obtain ⟨v, xs, h1, _⟩ := ho.out; exact Nat.le_of_lt h1.lt
          have hbK2 := Lib.hid (hb.out.trans ((below_allocT w2 (.cells tmSt 3)).mono hpl))
          go_wp2_with (refine wpList_bs rfl 30 10 _ rfl (.slice (some ⟨w2.heap.size, 0, none⟩) 10 10) (w2.alloc (.cells tmSt 3)) (by kernel_rfl) ?_)
          obtain ⟨WK2, hWK2⟩ : ∃ W, w2.alloc (.cells tmSt 3) = W := ⟨_, rfl⟩
          obtain ⟨K2, hK2⟩ : ∃ M, w2.heap.size = M := ⟨_, rfl⟩
          rw [hWK2] at HQK2 hoK2 hbK2 ⊢
          rw [hK2] at HQK2 ⊢
          clear ho hb hWK2 hK2 hpl w2
          go_wp2_with fail
          go_loopw [40] (fun i wr => ∃ J : Nat, J ≤ 10 ∧ i = .int .i64 J ∧ Hid (AddSt P wr (tmR.take (141 + J))) ∧ Hid (Below P w wr) ∧ Hid (Held wr K2 tmSt 3)) (fun i _ => 10 - (intOf i).toNat)
          case atStart => exact ⟨0, by omega, rfl, hoK2, hbK2, HQK2⟩
          case round =>
            clear hoK2 hbK2 HQK2
            obtain ⟨J, hJ, rfl, ho, hb, hq⟩ := hrel
            by_cases hJn : J = 10
            · subst hJn
              obtain ⟨w3, rfl⟩ : ∃ w1 : World, w1 = wr := ⟨_, rfl⟩
              rw [show ((10 : Nat) : Int) = 10 from rfl]
              clear hq
              rw [show 141 + 10 = 151 + 8 * 0 from rfl] at ho
              go_wp2_with fail
              refine (lcons_any w3).mono ?_
              rintro e w3' ⟨rfl, rfl⟩
              have HQK3 := Lib.hid (Held.new w3 tmCt 3)
              have hoK3 := Lib.hid (ho.out.below (below_allocT w3 (.cells tmCt 3)))
              have hpl : P ≤ w3.heap.size := by obtain ⟨v, xs, h1, _⟩ := ho.out; exact Nat.le_of_lt h1.lt
              have hbK3 := Lib.hid (hb.out.trans ((below_allocT w3 (.cells tmCt 3)).mono hpl))
              obtain ⟨WK3, hWK3⟩ : ∃ W, w3.alloc (.cells tmCt 3) = W := ⟨_, rfl⟩
              obtain ⟨K3, hK3⟩ : ∃ M, w3.heap.size = M := ⟨_, rfl⟩
              rw [hWK3] at HQK3 hoK3 hbK3 ⊢
              rw [hK3] at HQK3 ⊢
              clear ho hb hWK3 hK3 hpl w3
              go_wp2_with fail
              go_loopw [55] (fun i wr => ∃ J : Nat, J ≤ 22 ∧ i = .int .i64 J ∧ Hid (AddSt P wr (tmR.take (151 + 8 * J))) ∧ Hid (Below P w wr) ∧ Hid (Held wr K3 tmCt 3)) (fun i _ => 22 - (intOf i).toNat)
              case atStart => exact ⟨0, by omega, rfl, hoK3, hbK3, HQK3⟩
              case round =>
                clear hoK3 hbK3 HQK3
                obtain ⟨J, hJ, rfl, ho, hb, hq⟩ := hrel
                by_cases hJn : J = 22
                · subst hJn
                  obtain ⟨w4, rfl⟩ : ∃ w1 : World, w1 = wr := ⟨_, rfl⟩
                  rw [show ((22 : Nat) : Int) = 22 from rfl]
                  clear hq
                  rw [tmR_all] at ho
                  obtain ⟨A, c, hc, hO⟩ := AddSt.own ho.out
                  rw [tmR_len] at hc hO
                  have HC := Lib.hid hO
                  have hbf := hb
                  clear hO ho hb
                  go_wp2_with fail
                  go_ret
                  exact ⟨_, rfl, HC.out, hbf.out⟩
                have hJ' : J < 22 := by omega
                have k3 : (0 : Int) ≤ J := by omega
                have k4 : (J : Int) < 22 := by omega
                have l0 := (hq.out.cell J).trans (tab_ints tmC J hJ')
                obtain ⟨s, hs⟩ : ∃ s, tmC.getD J 0 = s := ⟨_, rfl⟩
                rw [hs] at l0
                have HL0 := Lib.hid l0
                have hs' : tmCon J = s := hs
                have HS := Lib.hid (tmG_steps J hJ')
                rw [hs'] at HS
                have hal := tmR_takeLen (151 + 8 * J) (by omega)
                obtain ⟨acc, hacc⟩ : ∃ acc, tmR.take (151 + 8 * J) = acc := ⟨_, rfl⟩
                rw [hacc] at HS hal ho
                have HAL := Lib.hid (show acc.length ≤ 1048 by omega)
                have hw1 : wrap64 (176 + (J : Int)) = 176 + J := by unfold wrap64; omega
                have hw2 : wrap64 (208 + (J : Int)) = 208 + J := by unfold wrap64; omega
                clear hal hacc hJn hs hs'
                go_wp2_with fail
                refine (addT_lits P _ wr [176 + (J : Int)] [s] _ _ 1 1 wr.heap.size ho.out rfl rfl rfl rfl rfl (by decide) (by decide) (by have := HAL.out; simp; omega)).mono ?_
                rintro e x0 ⟨rfl, ho0, hb0', hk0⟩
                have hb0 := Lib.hid (hb.out.trans hb0'.out)
                have hq0 : Hid (Held x0 K3 tmCt 3) := Lib.hid (hk0.out K3 _ _ (by decide) (by decide) hq.out)
                clear ho hb hq hb0' hk0
                go_wp2_with fail
                refine (addT_lits P _ x0 [208 + (J : Int)] [s, 3021] _ _ 1 2 x0.heap.size ho0.out rfl rfl rfl rfl rfl (by decide) (by decide) (by have := HAL.out; simp; omega)).mono ?_
                rintro e x1 ⟨rfl, ho1, hb1', hk1⟩
                have hb1 := Lib.hid (hb0.out.trans hb1'.out)
                have hq1 : Hid (Held x1 K3 tmCt 3) := Lib.hid (hk1.out K3 _ _ (by decide) (by decide) hq0.out)
                clear ho0 hb0 hq0 hb1' hk1
                obtain ⟨wo, rfl⟩ : ∃ wo : World, wo = wr := ⟨_, rfl⟩
                go_wp2_with fail
                go_loopw [11] (fun i wx => ∃ j : Nat, j ≤ 3 ∧ i = .int .i64 j ∧ Hid (AddSt P wx (acc ++ [([176 + (J : Int)], [s])] ++ [([208 + (J : Int)], [s, 3021])] ++ ((List.range 3).map (tmQ (176 + (J : Int)) s)).take j)) ∧ Hid (Below P w wx) ∧ Hid (Held wx K3 tmCt 3)) (fun i _ => 3 - (intOf i).toNat)
                case atStart => exact ⟨0, by omega, rfl, by rw [List.take_zero, List.append_nil]; exact ho1, hb1, hq1⟩
                case round =>
                  clear ho1 hb1 hq1
                  obtain ⟨j, hj, rfl, ho, hb, hq⟩ := hrel
                  by_cases hjn : j = 3
                  · subst hjn
                    obtain ⟨x4, rfl⟩ : ∃ x4 : World, x4 = wr := ⟨_, rfl⟩
                    rw [show ((3 : Nat) : Int) = 3 from rfl]
                    go_wp2_with fail
                    refine (addT_lits P _ x4 [166, 176 + (J : Int), 170] [s, 3018] _ _ 3 2 x4.heap.size ho.out rfl rfl rfl rfl rfl (by decide) (by decide) (by have := HAL.out; simp; omega)).mono ?_
                    rintro e x5 ⟨rfl, ho5, hb5', hk5⟩
                    have hb5 := Lib.hid (hb.out.trans hb5'.out)
                    have hq5 : Hid (Held x5 K3 tmCt 3) := Lib.hid (hk5.out K3 _ _ (by decide) (by decide) hq.out)
                    clear ho hb hq hb5' hk5
                    go_wp2_with fail
                    refine (addT_lits P _ x5 [167, 176 + (J : Int), 170] [s, 3019] _ _ 3 2 x5.heap.size ho5.out rfl rfl rfl rfl rfl (by decide) (by decide) (by have := HAL.out; simp; omega)).mono ?_
                    rintro e x6 ⟨rfl, ho6, hb6', hk6⟩
                    have hb6 := Lib.hid (hb5.out.trans hb6'.out)
                    have hq6 : Hid (Held x6 K3 tmCt 3) := Lib.hid (hk6.out K3 _ _ (by decide) (by decide) hq5.out)
                    clear ho5 hb5 hq5 hb6' hk6
                    go_wp2_with fail
                    refine (addT_lits P _ x6 [166, 176 + (J : Int), 175] [s, 3020] _ _ 3 2 x6.heap.size ho6.out rfl rfl rfl rfl rfl (by decide) (by decide) (by have := HAL.out; simp; omega)).mono ?_
                    rintro e x7 ⟨rfl, ho7, hb7', hk7⟩
                    have hb7 := Lib.hid (hb6.out.trans hb7'.out)
                    have hq7 : Hid (Held x7 K3 tmCt 3) := Lib.hid (hk7.out K3 _ _ (by decide) (by decide) hq6.out)
                    clear ho6 hb6 hq6 hb7' hk7
                    have HN2 : Hid (AddSt P x7 (tmR.take (151 + 8 * (J + 1)))) := by rw [HS.out]; exact ho7
                    clear ho7
                    go_wp2_with fail
                    go_roundw
                    case rel => exact ⟨J + 1, by omega, by go_num, HN2, hb7, hq7⟩
                    case measure => simp [intOf]; omega
                  have hj' : j < 3 := by omega
                  have j3 : (0 : Int) ≤ j := by omega
                  have j4 : (j : Int) < 3 := by omega
                  have hw3 : wrap64 (166 + (j : Int)) = 166 + j := by unfold wrap64; omega
                  have hw4 : wrap64 (3014 + (j : Int)) = 3014 + j := by unfold wrap64; omega
                  have HT := Lib.hid (tmQ_take (176 + (J : Int)) s j hj')
                  clear hjn
                  go_wp2_with fail
                  refine (addT_lits P _ wr [166 + (j : Int), 176 + (J : Int)] [s, 3014 + (j : Int)] _ _ 2 2 wr.heap.size ho.out rfl rfl rfl rfl rfl (by decide) (by decide) (by have := HAL.out; simp; omega)).mono ?_
                  rintro e w8 ⟨rfl, HN, HB, HK⟩
                  have HN2 : Hid (AddSt P w8 (acc ++ [([176 + (J : Int)], [s])] ++ [([208 + (J : Int)], [s, 3021])] ++ ((List.range 3).map (tmQ (176 + (J : Int)) s)).take (j + 1))) := by rw [HT.out, ← List.append_assoc]; exact HN
                  have HB2 := Lib.hid (hb.out.trans HB.out)
                  have HQ2 : Hid (Held w8 K3 tmCt 3) := Lib.hid (HK.out K3 _ _ (by decide) (by decide) hq.out)
                  clear HN HB HK ho hb hq
                  go_wp2_with fail
                  go_roundw
                  case rel => exact ⟨j + 1, by omega, by go_num, HN2, HB2, HQ2⟩
                  case measure => simp [intOf]; omega
            have hJ' : J < 10 := by omega
            have k3 : (0 : Int) ≤ J := by omega
            have k4 : (J : Int) < 10 := by omega
            have l0 := (hq.out.cell J).trans (tab_ints tmS J hJ')
            obtain ⟨s, hs⟩ : ∃ s, tmS.getD J 0 = s := ⟨_, rfl⟩
            rw [hs] at l0
            have HL0 := Lib.hid l0
            have HS := Lib.hid (tmR_sgn J hJ')
            rw [hs] at HS
            have hal := tmR_takeLen (141 + J) (by omega)
            obtain ⟨acc, hacc⟩ : ∃ acc, tmR.take (141 + J) = acc := ⟨_, rfl⟩
            rw [hacc] at HS hal ho
            have HAL := Lib.hid (show acc.length ≤ 1048576 by omega)
            have hw1 : wrap64 (166 + (J : Int)) = 166 + J := by unfold wrap64; omega
            clear hal hacc hJn hs
            go_wp2_with fail
            refine (addT_lits P acc wr [166 + (J : Int)] [s] _ _ 1 1 wr.heap.size ho.out rfl rfl rfl rfl rfl (by decide) (by decide) HAL.out).mono ?_
            rintro e w8 ⟨rfl, HN, HB, HK⟩
            have HN2 : Hid (AddSt P w8 (tmR.take (141 + (J + 1)))) := by rw [HS.out]; exact HN
            have HB2 := Lib.hid (hb.out.trans HB.out)
            have HQ2 : Hid (Held w8 K2 tmSt 3) := Lib.hid (HK.out K2 _ _ (by decide) (by decide) hq.out)
            clear HN HB HK ho hb hq l0
            go_wp2_with fail
            go_roundw
            case rel => exact ⟨J + 1, by omega, by go_num, HN2, HB2, HQ2⟩
            case measure => simp [intOf]; omega
        have hJ' : J < 13 := by omega
        have k3 : (0 : Int) ≤ J := by omega
        have k4 : (J : Int) < 13 := by omega
        have l0 := (hq.out.cell J).trans (tab_ints tmV J hJ')
        obtain ⟨s, hs⟩ : ∃ s, tmV.getD J 0 = s := ⟨_, rfl⟩
        rw [hs] at l0
        have HL0 := Lib.hid l0
        have HS := Lib.hid (tmR_vow J hJ')
        rw [hs] at HS
        have hal := tmR_takeLen (128 + J) (by omega)
        obtain ⟨acc, hacc⟩ : ∃ acc, tmR.take (128 + J) = acc := ⟨_, rfl⟩
        rw [hacc] at HS hal ho
        have HAL := Lib.hid (show acc.length ≤ 1048576 by omega)
        have hw1 : wrap64 (145 + (J : Int)) = 145 + J := by unfold wrap64; omega
        clear hal hacc hJn hs
        go_wp2_with fail
        refine (addT_lits P acc wr [145 + (J : Int)] [s] _ _ 1 1 wr.heap.size ho.out rfl rfl rfl rfl rfl (by decide) (by decide) HAL.out).mono ?_
        rintro e w8 ⟨rfl, HN, HB, HK⟩
        have HN2 : Hid (AddSt P w8 (tmR.take (128 + (J + 1)))) := by rw [HS.out]; exact HN
        have HB2 := Lib.hid (hb.out.trans HB.out)
        have HQ2 : Hid (Held w8 K1 tmVt 3) := Lib.hid (HK.out K1 _ _ (by decide) (by decide) hq.out)
        clear HN HB HK ho hb hq l0
        go_wp2_with fail
        go_roundw
        case rel => exact ⟨J + 1, by omega, by go_num, HN2, HB2, HQ2⟩
        case measure => simp [intOf]; omega
    have hC' : C < 128 := by omega
    have k3 : (0 : Int) ≤ C := by omega
    have k4 : (C : Int) < 128 := by omega
    have HS := Lib.hid (tmR_low C hC')
    have hal := tmR_takeLen C (by omega)
    obtain ⟨acc, hacc⟩ : ∃ acc, tmR.take C = acc := ⟨_, rfl⟩
    rw [hacc] at HS hal ho
    have HAL := Lib.hid (show acc.length ≤ 1048576 by omega)
    clear hal hacc hCn
    go_wp2_with fail
    refine (addT_lits P acc wr [(C : Int)] [(C : Int)] _ _ 1 1 wr.heap.size ho.out rfl rfl rfl rfl rfl (by decide) (by decide) HAL.out).mono ?_
    rintro e w8 ⟨rfl, HN, HB, HK⟩
    have HN2 : Hid (AddSt P w8 (tmR.take (C + 1))) := by rw [HS.out]; exact HN
    have HB2 := Lib.hid (hb.out.trans HB.out)
    clear HN HB HK ho hb
    go_wp2_with fail
    go_roundw
    case rel => exact ⟨C + 1, by omega, by go_num, HN2, HB2⟩
    case measure => simp [intOf]; omega
end Go.Proofs.YtamembaodpiggaaDoor
