/- Texts of this seat, one behind the other: IntR, UnitsA, TmI, SameR, AppG, TmQ. -/
import Derived.Test.YtamembaodpiggaaDoorZ3
import Derived.Laws.OwnMore
import Derived.Lib.SmallJoins
import Derived.Test.YtamembaodpiggaaDoorZ1
namespace Go.Proofs.YtamembaodpiggaaDoor
set_option linter.unusedVariables false
set_option linter.unusedSimpArgs false
set_option linter.unnecessarySimpa false
open Go.RowKit

/-- a row of ints of the call's own, from block base on -/
def IR (w : World) (base : Nat) (v : Value) (zs : List Int) : Prop := OwnI .i64 3 w base v zs
/-- the ints zs lie at A, below the heap's end -/
def RI (w : World) (A : Option Addr) (zs : List Int) : Prop := Rd w w.heap.size A (zs.map (Value.int .i64))
theorem IR.nil (w : World) (base : Nat) : IR w base (.slice none 0 0) [] := World.ownsRow_nil _ _ _ _
theorem IR.form {w : World} {base : Nat} {v : Value} {zs : List Int} (h : IR w base v zs) : ∃ A c, v = .slice A zs.length c ∧ zs.length ≤ c ∧ c ≤ maxLen := own_form h
theorem IR.rd {w : World} {base : Nat} {A : Option Addr} {n c : Nat} {zs : List Int} (h : IR w base (.slice A n c) zs) : RI w A zs := by
  obtain ⟨A', c', e, _⟩ := IR.form h
  injection e with e1 e2 e3
  subst e1 e2 e3
  exact Rd.own h
theorem IR.low {w : World} {base base' : Nat} {v : Value} {zs : List Int} (h : IR w base v zs) (hb : base' ≤ base) : IR w base' v zs := own_low h hb
theorem IR.below {w w' : World} {B base : Nat} {v : Value} {zs : List Int} (h : IR w base v zs) (hb : Below B w w') (hB : w.heap.size ≤ B) : IR w' base v zs := own_below h hb hB
theorem IR.alloc {w : World} {base : Nat} {v : Value} {zs : List Int} (h : IR w base v zs) (o : Obj) : IR (w.alloc o) base v zs := h.below ((Below.refl _ w).alloc (Nat.le_refl _) o) (Nat.le_refl _)
theorem IR.drewN {w : World} {base : Nat} {v : Value} {zs : List Int} (h : IR w base v zs) (m : Nat) : IR (w.drewN m) base v zs := h.below (below_dN w m) (Nat.le_refl _)
theorem RI.below {w w' : World} {A : Option Addr} {zs : List Int} (h : RI w A zs) (hb : Below w.heap.size w w') : RI w' A zs := Rd.below h hb hb.size
theorem RI.nil (w : World) (A : Option Addr) : RI w A [] := Rd.nil
theorem IR.block {w : World} {base : Nat} {v : Value} {zs : List Int} (h : IR w base v zs) {g : Nat} (hg : v.ownBlock = some g) : ∃ cur, w.heap[g]? = some (.cells cur 3 (0, 0)) := by
  rcases h.2 with ⟨h1, _⟩ | ⟨g', cap, cur, h1, _, h3, _⟩
  · subst h1; cases hg
  · subst h1
    injection hg with hg
    exact ⟨cur, by rw [← hg]; exact h3⟩
theorem IR.lt {w : World} {base : Nat} {v : Value} {zs : List Int} (h : IR w base v zs) {g : Nat} (hg : v.ownBlock = some g) : base ≤ g ∧ g < w.heap.size := World.ownsRow.lt h _ hg
/-- another element type's block is another block -/
theorem IR.ne {w : World} {base : Nat} {v : Value} {zs : List Int} (h : IR w base v zs) {p : Nat} {cs : Array Value} {t : TypeId} (q : Held w p cs t) (ht : t ≠ 3) : some p ≠ v.ownBlock := fun e => by
  obtain ⟨cur, hc⟩ := h.block e.symm
  unfold Held at q
  rw [hc] at q
  injection q with q
  injection q with _ q
  exact ht q.symm
theorem IR.grownP {w w' : World} {base : Nat} {v : Value} {zs : List Int} (h : IR w base v zs) {p : Nat} {cs : Array Value} {t : TypeId} (q : Held w p cs t) (ht : t ≠ 3) (hg : w.grownBy w' (some p)) : IR w' base v zs := by
  refine ⟨h.1, ?_⟩
  rcases h.2 with h2 | ⟨g, cap, cur, h1, h2, h3, h4⟩
  · exact .inl h2
  · have hlt := (h.lt (g := g) (by rw [h1]; rfl)).2
    exact .inr ⟨g, cap, cur, h1, h2, (hg.block g hlt (fun e => h.ne q ht (by rw [h1]; exact e.symm))).trans h3, h4⟩
theorem RI.grownP {w w' : World} {A : Option Addr} {zs : List Int} {p : Nat} (h : Rd w p A (zs.map (Value.int .i64))) (hp : p ≤ w.heap.size) (hg : w.grownBy w' (some p)) : Rd w' p A (zs.map (Value.int .i64)) :=
  h.keep (Nat.le_refl _) fun b o hb => World.cell?_of_block (w := w) (a := ⟨b, o, none⟩) (hg.block b (by omega) (fun e => by injection e with e; omega))
theorem below_grow {w w' : World} {p B : Nat} {w0 : World} (hb : Below B w0 w) (hz : B ≤ w.heap.size) (hg : w.grownBy w' (some p)) (hB : B ≤ p) : Below B w0 w' := hb.grown hg hz fun k hk => by injection hk with hk; omega
theorem IR.new (w : World) (x : Int) : IR (w.alloc (.cells #[.int .i64 x] 3)) w.heap.size (.slice (some ⟨w.heap.size, 0, none⟩) 1 1) [x] :=
  ⟨rfl, .inr ⟨w.heap.size, 1, #[.int .i64 x], rfl, Nat.le_refl _, heap_alloc_new w _, Nat.le_refl _, by simp [maxLen], rfl, rfl⟩⟩
theorem infoI : (Tryd.prog.info? 3).map (fun i => (i.zero, i.size, i.bytes)) = some (some (.int .i64 0), 1, 8) := by kernel_rfl

/-- append a slice of ints -/
theorem wpList_appI {w : World} {ops : Array Oper} {rest : List Oper} {o : Oper} {a : Act} {Q : Exit → Act → World → Prop} (hgd : o.guard = none) (s x : Operand)
    (ho : o.op = .call { callee := .builtin .append, args := #[s, x], argTypes := #[30, 30] })
    (base : Nat) (v : Value) (zs : List Int) (hs : a.eval s = v) (hown : IR w base v zs) (A : Option Addr) (m c : Nat) (ys : List Int) (hx : a.eval x = .slice A m c) (hm : m = ys.length) (B : Nat) (hr : Rd w B A (ys.map (Value.int .i64)))
    (hsz : zs.length + ys.length ≤ 17592186044416) (hbase : base ≤ w.heap.size)
    (h : ∀ v' w', Hid (IR w' base v' (zs ++ ys)) → Hid (w.grownBy w' v.ownBlock) → wpList Tryd.prog ops Q rest (a.put o.dst v') w') : wpList Tryd.prog ops Q (o :: rest) a w := by
  obtain ⟨i0, hi, hz0, hz1, hz2⟩ := info_parts infoI
  subst hm
  refine wpList_app w hgd s x 30 ho base 3 i0 (.int .i64 0) 1 8 Tryd.underlying30 hi hz0 hz1 hz2 rfl (by decide) v zs.length _ hs hown B A ys.length c _ hx (by simp) hr (ints_one _ _) (by simp only [maxLen]; omega) (by omega) hbase ?_
  intro v' w' h1 h2
  refine h v' w' (Lib.hid ?_) (Lib.hid h2)
  unfold IR OwnI
  rw [List.length_append, List.map_append]
  exact h1
/-- append one int that a slice was just built of -/
theorem wpList_appI1 {w : World} {ops : Array Oper} {rest : List Oper} {o : Oper} {a : Act} {Q : Exit → Act → World → Prop} (hgd : o.guard = none) (s x : Operand)
    (ho : o.op = .call { callee := .builtin .append, args := #[s, x], argTypes := #[30, 30] })
    (base : Nat) (v : Value) (zs : List Int) (y : Int) (hs : a.eval s = v) (hown : IR w base v zs) (N : Nat) (hx : a.eval x = .slice (some ⟨N, 0, none⟩) 1 1) (hN : w.heap.size = N)
    (hsz : zs.length ≤ 17592186044415) (hbase : base ≤ w.heap.size)
    (h : ∀ v' w', Hid (IR w' base v' (zs ++ [y])) → Hid (w.grownBy w' v.ownBlock) → wpList Tryd.prog ops Q rest (a.put o.dst v') w') : wpList Tryd.prog ops Q (o :: rest) a (w.alloc (.cells #[.int .i64 y] 3)) := by
  subst hN
  refine wpList_appI hgd s x ho base v zs hs (hown.alloc _) _ 1 1 [y] hx rfl _ (IR.new w y).rd (by simp; omega) (by simp; omega) ?_
  intro v' w' h1 h2
  refine h v' w' h1 (Lib.hid ?_)
  exact ((World.grownBy_alloc w _ v.ownBlock).trans h2.out)
/-- append a literal that was just built -/
theorem wpList_appIL {w : World} {ops : Array Oper} {rest : List Oper} {o : Oper} {a : Act} {Q : Exit → Act → World → Prop} {cs : Array Value} (hgd : o.guard = none) (s x : Operand)
    (ho : o.op = .call { callee := .builtin .append, args := #[s, x], argTypes := #[30, 30] })
    (base : Nat) (v : Value) (zs ys : List Int) (hs : a.eval s = v) (hown : IR w base v zs) (N m c : Nat) (hx : a.eval x = .slice (some ⟨N, 0, none⟩) m c) (hN : w.heap.size = N) (hm : m = ys.length) (hcs : cs.toList = ys.map (Value.int .i64))
    (hsz : zs.length + ys.length ≤ 17592186044416) (hbase : base ≤ w.heap.size)
    (h : ∀ v' w', Hid (IR w' base v' (zs ++ ys)) → Hid (w.grownBy w' v.ownBlock) → wpList Tryd.prog ops Q rest (a.put o.dst v') w') : wpList Tryd.prog ops Q (o :: rest) a (w.alloc (.cells cs 3)) := by
  subst hN
  refine wpList_appI hgd s x ho base v zs hs (hown.alloc _) _ m c ys hx hm _ (rd_new_ints w .i64 ys _ cs hcs) hsz (by simp; omega) ?_
  intro v' w' h1 h2
  exact h v' w' h1 (Lib.hid ((World.grownBy_alloc w _ v.ownBlock).trans h2.out))
theorem IR.own {w : World} {base n c : Nat} {A : Option Addr} {zs : List Int} (h : IR w base (.slice A n c) zs) : n = zs.length ∧ w.ownsRow base 3 1 (.slice A n c) n (zs.map (Value.int .i64)) := by
  obtain ⟨A', c', e, _⟩ := IR.form h
  injection e with e1 e2 e3
  subst e1 e2 e3
  exact ⟨rfl, h⟩
theorem IR.set {w : World} {base g n c : Nat} {zs : List Int} (h : IR w base (.slice (some ⟨g, 0, none⟩) n c) zs) (j : Nat) (x : Int) : IR (w.setCell ⟨g, j, none⟩ (.int .i64 x)) base (.slice (some ⟨g, 0, none⟩) n c) (zs.set j x) := by
  obtain ⟨rfl, h'⟩ := h.own
  have := (World.ownsRow.stored h' j (.int .i64 x)).1
  unfold IR OwnI
  rw [List.length_set, List.map_set]
  exact this
theorem IR.cellAt {w : World} {base g n c : Nat} {zs : List Int} (h : IR w base (.slice (some ⟨g, 0, none⟩) n c) zs) (j : Nat) (hj : j < zs.length) : w.cell? ⟨g, j, none⟩ = some (.int .i64 (zs.getD j 0)) := by
  obtain ⟨rfl, h'⟩ := h.own
  rw [World.ownsRow.cellAt h' j (by simpa using hj), List.getElem?_map, List.getD_eq_getElem?_getD, List.getElem?_eq_getElem hj]; rfl
theorem IR.frozenAt {w : World} {base g n c : Nat} {zs : List Int} (h : IR w base (.slice (some ⟨g, 0, none⟩) n c) zs) (j : Nat) : w.frozen? ⟨g, j, none⟩ = false := World.ownsRow.frozenAt h.own.2 j
theorem IR.formG {w : World} {base : Nat} {v : Value} {zs : List Int} (h : IR w base v zs) (hz : 0 < zs.length) : ∃ g c, v = .slice (some ⟨g, 0, none⟩) zs.length c ∧ base ≤ g ∧ g < w.heap.size := by
  obtain ⟨g, cap, hg⟩ := Joins.ownsRow_form h hz
  exact ⟨g, cap, hg, World.ownsRow.lt h g (by rw [hg]; rfl)⟩
theorem IR.keepsB {w w' : World} {base B : Nat} {v : Value} {zs : List Int} {w0 : World} (hb : Below B w0 w) (hg : w.grownBy w' v.ownBlock) (h : IR w base v zs) (hB : B ≤ base) (hz : B ≤ w.heap.size) : Below B w0 w' := below_own hb hg h hB hz
theorem Held.grownI {w w' : World} {base : Nat} {v : Value} {zs : List Int} {p : Nat} {cs : Array Value} {t : TypeId} (q : Held w p cs t) (h : IR w base v zs) (ht : t ≠ 3) (hg : w.grownBy w' v.ownBlock) : Held w' p cs t := q.kept hg (h.ne q ht)

end Go.Proofs.YtamembaodpiggaaDoor
namespace Go.Proofs.YtamembaodpiggaaDoor
set_option linter.unusedVariables false
set_option linter.unusedSimpArgs false
set_option linter.unnecessarySimpa false
open Go.RowKit

theorem rd_dN {w : World} {B : Nat} {A : Option Addr} {xs : List Value} (h : Rd w B A xs) (m : Nat) : Rd (w.drewN m) B A xs := h.keep (Nat.le_refl _) fun _ _ _ => rfl
set_option maxHeartbeats 800000 in
theorem units_eqA (n : Nat) (A A' : Option Addr) (c c' : Nat) (zs : List Int) (B B' : Nat) (w : World) (hn : n = zs.length) (hr : Rd w B A (zs.map (Value.int .i64))) (hr' : Rd w B' A' (zs.map (Value.int .i64))) (hl : zs.length ≤ 9223372036854775807) :
    Calls Tryd.prog 22 #[.slice A n c, .slice A' n c'] w fun e w' => e = .returned (.bool true) ∧ ∃ m, w' = w.drewN m := by
  subst hn
  have HR := Lib.hid hr
  have HR' := Lib.hid hr'
  clear hr hr'
  go_enter Tryd.func22, Tryd.ntmps22
  go_wp2
  go_loopw [13] (fun i wr => ∃ K m : Nat, K ≤ zs.length ∧ i = .int .i64 K ∧ wr = w.drewN m) (fun i _ => zs.length - (intOf i).toNat)
  case atStart => exact ⟨0, 0, by omega, rfl, rfl⟩
  case round =>
    obtain ⟨K, m, hK, rfl, rfl⟩ := hrel
    by_cases hKl : K = zs.length
    · have hKl' : ¬ K < zs.length := by omega
      clear hKl
      go_wp2
      go_ret
      exact ⟨rfl, m, rfl⟩
    have hKl' : K < zs.length := by omega
    obtain ⟨b, o, rfl, _, hc⟩ := rd_ints HR.out (by omega)
    obtain ⟨b', o', rfl, _, hc'⟩ := rd_ints HR'.out (by omega)
    have k1 := hc K hKl'
    have k2 := hc' K hKl'
    have k0 : (zs.getD K 0 != zs.getD K 0) = false := by simp
    have k3 : (0 : Int) ≤ K := by omega
    have k4 : (K : Int) < zs.length := by omega
    clear hc hc'
    go_wp2_with fail
    go_quiet (fail)
    go_wp2
    go_roundw
    case rel => exact ⟨K + 1, _, by omega, by go_num, rfl⟩
    case measure => simp [intOf]; omega
/-- as the laws ask it -/
theorem units_any (n n' : Nat) (A A' : Option Addr) (c c' : Nat) (xs ys : List Int) (w : World) (he : xs = ys) (hn : n = xs.length) (hn' : n' = ys.length) (hr : RI w A xs) (hr' : RI w A' ys) (hl : xs.length ≤ 140737488355328) :
    Calls Tryd.prog 22 #[.slice A n c, .slice A' n' c'] w fun e w' => e = .returned (.bool true) ∧ Below w.heap.size w w' := by
  subst he
  rw [hn', ← hn]
  exact (units_eqA n A A' c c' xs _ _ w hn hr hr' (by omega)).mono fun e w' ⟨h, m, hm⟩ => ⟨h, by rw [hm]; exact below_dN w m⟩
end Go.Proofs.YtamembaodpiggaaDoor
namespace Go.Proofs.YtamembaodpiggaaDoor
set_option linter.unusedVariables false
set_option linter.unusedSimpArgs false
set_option linter.unnecessarySimpa false
open Go.RowKit
theorem rem_nat {k : Int} {m a : Nat} (h0 : 0 ≤ k) (h : k.toNat % m = a) : k % (m : Int) = (a : Int) := by
  obtain ⟨n, rfl⟩ : ∃ n : Nat, k = n := ⟨k.toNat, by omega⟩
  rw [← h, Int.toNat_natCast]; rfl
theorem wrap_low (a : Nat) (h : a < 1000) : IntKind.i64.wrap (a : Int) = a := by rw [IntKind.wrap_i64]; omega
theorem wrap_lowC (c : Int) (a : Nat) (hc : 0 ≤ c ∧ c ≤ 1000000) (h : a < 1000) : wrap64 (c + (a : Int)) = c + a := by unfold wrap64; omega
def conB (k : Int) : Bool := decide (0 ≤ k) && decide (k < 22)
def conV (k : Int) : Int := if conB k = true then tmCon k.toNat else 0
/-- Tamil's contracts: OK w: in world w all is there that they need -/
structure TamApi where
  OK : World → Prop
  keep : ∀ {w w' : World}, OK w → Below w.heap.size w w' → OK w'
  rules : ∀ w : World, OK w → Calls Tryd.prog 11 #[] w fun e w' => ∃ v, e = .returned v ∧ OwnRs w.heap.size w' v tmR ∧ Below w.heap.size w w'
  consonant : ∀ (w : World) (k : Int), -1000 ≤ k → k ≤ 1000 → OK w → Calls Tryd.prog 13 #[.int .i64 k] w fun e w' => e = .returned (.tuple #[.int .i64 (conV k), .bool (conB k)]) ∧ Below w.heap.size w w'
  consonants : ∀ w : World, OK w → Calls Tryd.prog 24 #[] w fun e w' => e = .returned (.int .i64 22) ∧ Below w.heap.size w w'
set_option maxRecDepth 100000 in
set_option maxHeartbeats 6400000 in
theorem awake17_any (I : TamApi) (w : World) (hI : I.OK w) : Calls Tryd.prog 9 #[] w fun e w' => e = .returned (.bool true) ∧ Below w.heap.size w w' := by
  obtain ⟨rs, hrs⟩ : ∃ rs, tmR = rs := ⟨_, rfl⟩
  have hlen : rs.length = 327 := by rw [← hrs]; exact tmR_len
  have hfind : findR rs [166, 176, 170] = 156 := by rw [← hrs]; exact tm_find3
  have hat : ∀ h : 156 < rs.length, rs[156]'h = ([166, 176, 170], [2965, 3018]) := by
    intro h
    subst hrs; rw [tmR_at 156 (by decide)]; exact tm_at156
  have R1 := Lib.hid (I.rules w hI)
  rw [hrs] at R1
  have HI := Lib.hid hI
  have HL := Lib.hid hlen
  have HF := Lib.hid hfind
  have HAT := Lib.hid hat
  clear hI hlen hfind hat hrs
  go_enter Tryd.func9, Tryd.ntmps9
  go_wp2_with fail
  refine R1.out.mono ?_
  rintro e w1 ⟨v1, rfl, ho1, hb1⟩
  obtain ⟨A1, c1, rfl, hat1⟩ := ho1.form
  rw [HL.out] at hat1 ⊢
  have HA1 := Lib.hid hat1
  have HB1 := Lib.hid hb1
  have hs1 := hb1.size
  clear ho1 hat1 hb1 R1
  have hb2 : Below w1.heap.size w1 (w1.alloc (.cells #[.int .i64 166, .int .i64 176, .int .i64 170] 3)) := (Below.refl _ w1).alloc (Nat.le_refl _) _
  have F1 := Lib.hid (find_any 327 3 A1 (some ⟨w1.heap.size, 0, none⟩) c1 3 rs [166, 176, 170] _ _ (w1.alloc (.cells #[.int .i64 166, .int .i64 176, .int .i64 170] 3)) (HA1.out.below hb2 (Nat.le_refl _)) rfl (rd_new_ints w1 .i64 [166, 176, 170] _ _ rfl) (by decide) (by decide) hb2.size (Nat.le_refl _) 156 HF.out)
  have HB2 := Lib.hid hb2
  clear hb2
  go_wp2_with fail
  refine F1.out.mono ?_
  rintro e w3 ⟨rfl, hb3⟩
  have HB13 := Lib.hid (HB2.out.trans (hb3.mono HB2.out.size))
  have HI3 := Lib.hid (I.keep HI.out (HB1.out.trans (HB13.out.mono hs1)))
  have hs3 := HB13.out.size
  clear hb3 F1 HB2
  go_wp2_with fail
  refine (I.consonant w3 21 (by decide) (by decide) HI3.out).mono ?_
  rintro e w4 ⟨rfl, hb4⟩
  rw [show conB 21 = true from rfl, show conV 21 = 3001 from by decide +kernel]
  have HB14 := Lib.hid (HB13.out.trans (hb4.mono hs3))
  have HI4 := Lib.hid (I.keep HI3.out hb4)
  have hs4 := HB14.out.size
  clear hb4 HI3
  go_wp2_with fail
  refine (I.consonant w4 22 (by decide) (by decide) HI4.out).mono ?_
  rintro e w5 ⟨rfl, hb5⟩
  rw [show conB 22 = false from rfl, show conV 22 = 0 from by decide +kernel]
  have HB15 := Lib.hid (HB14.out.trans (hb5.mono hs4))
  have HI5 := Lib.hid (I.keep HI4.out hb5)
  have hs5 := HB15.out.size
  clear hb5 HI4 HB13 HB14
  have hat5 := HA1.out.below HB15.out (Nat.le_refl _)
  obtain ⟨b, of2, rfl, hbB, A3, n3, c3, A4, n4, c4, g1, g2, e1, e2, e3, e4, f1, f2, f3, f4⟩ := hat5.at (k := 156) (by rw [HL.out]; decide)
  rw [HAT.out] at f1 f4
  obtain rfl : n4 = 2 := f1
  have hb6 : Below w5.heap.size w5 (w5.alloc (.cells #[.int .i64 2965, .int .i64 3018] 3)) := (Below.refl _ w5).alloc (Nat.le_refl _) _
  have U1 := Lib.hid (units_any 2 2 A4 (some ⟨w5.heap.size, 0, none⟩) c4 2 [2965, 3018] [2965, 3018] (w5.alloc (.cells #[.int .i64 2965, .int .i64 3018] 3)) rfl rfl rfl (f4.below (hb6.mono hs5) (Nat.le_trans hs5 hb6.size)) (rd_new_ints w5 .i64 [2965, 3018] _ _ rfl) (by decide))
  have HB6 := Lib.hid hb6
  clear hat5 e1 e4 f4 hb6 g1
  go_wp2_with fail
  refine U1.out.mono ?_
  rintro e w7 ⟨rfl, hb7⟩
  have HB57 := Lib.hid (HB6.out.trans (hb7.mono HB6.out.size))
  have HI7 := Lib.hid (I.keep HI5.out HB57.out)
  have HB7 := Lib.hid (HB1.out.trans ((HB15.out.trans (HB57.out.mono hs5)).mono hs1))
  clear hb7 U1
  go_wp2_with fail
  refine (I.consonants w7 HI7.out).mono ?_
  rintro e w8 ⟨rfl, hb8⟩
  have HB8 := Lib.hid (HB7.out.trans (hb8.mono HB7.out.size))
  clear hb8
  go_wp2_with fail
  go_ret
  exact ⟨rfl, HB8.out⟩
end Go.Proofs.YtamembaodpiggaaDoor
namespace Go.Proofs.YtamembaodpiggaaDoor
set_option linter.unusedVariables false
open Go.RowKit
set_option maxHeartbeats 1600000 in
theorem rsame_any (n n' : Nat) (A A' : Option Addr) (c c' : Nat) (rs : List Rl) (B B' : Nat) (w : World) (hr : RsAt w B A n c rs) (hr' : RsAt w B' A' n' c' rs) :
    Calls Tryd.prog 10 #[.slice A n c, .slice A' n' c'] w fun e w' => e = .returned (.bool true) ∧ ∃ m, w' = w.drewN m := by
  obtain rfl : n = n' := hr.len.trans hr'.len.symm
  have HR := Lib.hid hr
  have HR' := Lib.hid hr'
  have hn1 := hr.fits
  have hn2 := hr.small
  unfold maxLen at hn2
  clear hr hr'
  go_enter Tryd.func10, Tryd.ntmps10
  go_wp2
  go_loopw [13] (fun i wr => ∃ K m : Nat, K ≤ n ∧ i = .int .i64 K ∧ wr = w.drewN m) (fun i _ => n - (intOf i).toNat)
  case atStart => exact ⟨0, 0, by omega, rfl, rfl⟩
  case round =>
    obtain ⟨K, m, hK, rfl, hw⟩ := hrel
    have HW := Lib.hid hw
    clear hw
    by_cases hKl : K = n
    · have hKl' : ¬ K < n := by omega
      clear hKl
      go_wp2
      go_ret
      exact ⟨rfl, m, HW.out⟩
    have hKl' : K < n := by omega
    have hK1 : K < rs.length := by rw [← HR.out.len]; exact hKl'
    obtain ⟨b, o, rfl, hbB, A1, n1, c1, A2, n2, c2, g1, g2, e1, e2, e3, e4, f1, f2, f3, f4⟩ := (show RsAt wr B A n c rs by rw [HW.out]; exact HR.out.drewN m).at hK1
    obtain ⟨b', o', rfl, hbB', A3, n3, c3, A4, n4, c4, q1, q2, r1, r2, r3, r4, s1, s2, s3, s4⟩ := (show RsAt wr B' A' n c' rs by rw [HW.out]; exact HR'.out.drewN m).at hK1
    have e5 : (0 : Int) ≤ K := by omega
    have e6 : (K : Int) < n := by omega
    obtain ⟨I, hI⟩ : ∃ x, x = rs[K].1 := ⟨_, rfl⟩
    obtain ⟨O, hO⟩ : ∃ x, x = rs[K].2 := ⟨_, rfl⟩
    rw [← hI] at e1 e4 r1 r4
    rw [← hO] at f1 f4 s1 s4
    obtain rfl : n1 = n3 := e1.trans r1.symm
    obtain rfl : n2 = n4 := f1.trans s1.symm
    have M1 : Hid (I.length ≤ 9223372036854775807) := by rw [← e1]; unfold maxLen at e3; exact (show n1 ≤ 9223372036854775807 by omega)
    have M2 : Hid (O.length ≤ 9223372036854775807) := by rw [← f1]; unfold maxLen at f3; exact (show n2 ≤ 9223372036854775807 by omega)
    have E1 := Lib.hid e1
    have E4 := Lib.hid e4
    have R1 := Lib.hid r1
    have R4 := Lib.hid r4
    have F1 := Lib.hid f1
    have F4 := Lib.hid f4
    have S1 := Lib.hid s1
    have S4 := Lib.hid s4
    clear hI hO e1 e4 r1 r4 f1 f4 s1 s4 e2 e3 f2 f3 r2 r3 s2 s3
    go_wp2_with fail
    go_quiet ((first | (go_at_call_of 22 (Value.slice A1 n1 c1); exact Calls.quiet_of (units_eqA _ _ _ _ _ I B B' _ E1.out (rd_dN E4.out _) (rd_dN R4.out _) M1.out)) | (go_at_call_of 22 (Value.slice A2 n2 c2); exact Calls.quiet_of (units_eqA _ _ _ _ _ O B B' _ F1.out (rd_dN F4.out _) (rd_dN S4.out _) M2.out))))
    go_wp2
    go_roundw
    case rel => exact ⟨K + 1, _, by omega, by go_num, by rw [HW.out, World.drewN_drewN]⟩
    case measure => simp [intOf]; omega
end Go.Proofs.YtamembaodpiggaaDoor
namespace Go.Proofs.YtamembaodpiggaaDoor
set_option linter.unusedVariables false
set_option linter.unusedSimpArgs false
set_option linter.unnecessarySimpa false
open Go.RowKit
theorem IR.us {w : World} {base : Nat} {v : Value} {zs : List Int} (h : IR w base v zs) : Us (fun b => base ≤ b) w v zs := by
  by_cases hz : zs = []
  · subst hz
    obtain ⟨A, c, rfl, h1, h2⟩ := h.form
    exact ⟨A, c, rfl, h1, h2, .inl rfl⟩
  · obtain ⟨A, c, e, h1, h2⟩ := h.form
    obtain ⟨g, c', rfl, hb, hl⟩ := h.formG (List.length_pos_iff.2 hz)
    injection e with e1 _ e3
    subst e1 e3
    refine ⟨_, _, rfl, h1, h2, .inr ⟨g, 0, rfl, hl, hb, fun j hj => ?_⟩⟩
    rw [Nat.zero_add, h.cellAt j (by simpa using hj), List.getElem?_map, List.getD_eq_getElem?_getD, List.getElem?_eq_getElem (by simpa using hj)]; rfl
theorem wpList_appRG {w : World} {ops : Array Oper} {rest : List Oper} {o : Oper} {a : Act} {Q : Exit → Act → World → Prop} (hgd : o.guard = none) (s x : Operand)
    (ho : o.op = .call { callee := .builtin .append, args := #[s, x], argTypes := #[24, 24] })
    (base : Nat) (v : Value) (acc : List Rl) (p q : Value) (r : Rl) (hs : a.eval s = v) (hown : OwnRs base w v acc)
    (hp : Us (fun b => v.ownBlock ≠ some b) w p r.1) (hq : Us (fun b => v.ownBlock ≠ some b) w q r.2)
    (N : Nat) (hN : w.heap.size = N) (hx : a.eval x = .slice (some ⟨N, 0, none⟩) 1 1) (hsz : acc.length ≤ 1048576) (hbase : base ≤ w.heap.size)
    (h : ∀ v' w', Hid (OwnRs base w' v' (acc ++ [r])) → Hid (∀ B w0, B ≤ base → Below B w0 w → Below B w0 w') → Hid (∀ (b : Nat) (cs : Array Value) (t : TypeId), t ≠ 42 → w.heap[b]? = some (.cells cs t (0, 0)) → w'.heap[b]? = some (.cells cs t (0, 0))) → wpList Tryd.prog ops Q rest (a.put o.dst v') w') :
    wpList Tryd.prog ops Q (o :: rest) a (w.alloc (.cells #[p, q] 42)) := by
  subst hN
  obtain ⟨i0, hi, hz0, hz1, hz2⟩ := info_parts inforl
  obtain ⟨xs, ho1, hx1⟩ := hown
  have hA := ho1.alloc (.cells #[p, q] 42)
  have hrd := Rd_new w #[p, q] 42
  refine wpList_appB _ hgd s x 24 ho base 42 i0 _ 2 48 Tryd.underlying24 hi hz0 hz1 hz2 rfl (by decide) v acc.length xs hs hA _ _ 1 1 [p, q] hx rfl hrd ?_ (by simp only [maxLen]; omega) (by omega) (by simp; omega) ?_
  · intro u hu; simp at hu; rcases hu with rfl | rfl
    · exact hp.one
    · exact hq.one
  intro v' w4 hown4 hg4 hv4
  have hb3 : Below w.heap.size w (w.alloc (.cells #[p, q] 42)) := (Below.refl _ _).alloc (Nat.le_refl _) _
  refine h v' w4 (Lib.hid ?_) (Lib.hid ?_) (Lib.hid ?_)
  · refine own_push (r := r) (v := v) (xs := xs) (by simpa using hown4) ?_ ?_ ?_ hg4 hv4
    · exact hx1.step hb3.size fun b hb hx => ⟨hx, hb3.block b hb⟩
    · exact hp.step hb3.size fun b hb hx => ⟨hx, hb3.block b hb⟩
    · exact hq.step hb3.size fun b hb hx => ⟨hx, hb3.block b hb⟩
  · intro B w0 hB hw0
    rcases Nat.lt_or_ge w.heap.size B with hl | hl
    · omega
    · exact below_own (hw0.trans (hb3.mono hl)) hg4 hA hB (by simp; omega)
  · intro b cs t ht hqq
    have hbl : b < w.heap.size := (Array.getElem?_eq_some_iff.1 hqq).1
    refine (hg4.block b (by simp; omega) ?_).trans ((hb3.block b hbl).trans hqq)
    intro e
    rcases ho1.2 with ⟨h1, _⟩ | ⟨g, cap, cur, h1, _, h3, _⟩
    · subst h1; cases e
    · subst h1
      injection e with e
      subst e
      rw [hqq] at h3
      injection h3 with h3
      injection h3 with _ h3
      exact ht h3
/-- append a rule whose two sides were just built -/
theorem wpList_appRlL {w : World} {ops : Array Oper} {rest : List Oper} {o : Oper} {a : Act} {Q : Exit → Act → World → Prop} {csI csO : Array Value} (hgd : o.guard = none) (s x : Operand)
    (ho : o.op = .call { callee := .builtin .append, args := #[s, x], argTypes := #[24, 24] })
    (base : Nat) (v : Value) (acc : List Rl) (I O : List Int) (hs : a.eval s = v) (hown : OwnRs base w v acc) (n m : Nat)
    (hI : csI.toList = I.map (Value.int .i64)) (hO : csO.toList = O.map (Value.int .i64)) (hn : n = I.length) (hm : m = O.length) (hnl : n ≤ maxLen) (hml : m ≤ maxLen)
    (N : Nat) (hN : w.heap.size = N) (hx : a.eval x = .slice (some ⟨N + 1 + 1, 0, none⟩) 1 1) (hsz : acc.length ≤ 1048576) (hbase : base ≤ w.heap.size)
    (h : ∀ v' w', Hid (OwnRs base w' v' (acc ++ [(I, O)])) → Hid (∀ B w0, B ≤ base → Below B w0 w → Below B w0 w') → Hid (∀ (b : Nat) (cs : Array Value) (t : TypeId), t ≠ 42 → w.heap[b]? = some (.cells cs t (0, 0)) → w'.heap[b]? = some (.cells cs t (0, 0))) → wpList Tryd.prog ops Q rest (a.put o.dst v') w') :
    wpList Tryd.prog ops Q (o :: rest) a (((w.alloc (.cells csI 3)).alloc (.cells csO 3)).alloc (.cells #[.slice (some ⟨N, 0, none⟩) n n, .slice (some ⟨N + 1, 0, none⟩) m m] 42)) := by
  have hb1 : Below w.heap.size w (w.alloc (.cells csI 3)) := (Below.refl _ _).alloc (Nat.le_refl _) _
  have hb2 : Below w.heap.size w ((w.alloc (.cells csI 3)).alloc (.cells csO 3)) := hb1.alloc (by simp) _
  have hlt : ∀ b, w.heap.size ≤ b → v.ownBlock ≠ some b := fun b hb e => by
    obtain ⟨xs, h1, _⟩ := hown
    have := own_lt h1 e; omega
  have hp : Us (fun b => v.ownBlock ≠ some b) ((w.alloc (.cells csI 3)).alloc (.cells csO 3)) (.slice (some ⟨N, 0, none⟩) n n) (I, O).1 :=
    (us_newL w N hN I csI hI n hn hnl).up _ fun b _ hb => hlt b (by omega)
  have hq : Us (fun b => v.ownBlock ≠ some b) ((w.alloc (.cells csI 3)).alloc (.cells csO 3)) (.slice (some ⟨N + 1, 0, none⟩) m m) (I, O).2 :=
    (us_newL (w.alloc (.cells csI 3)) (N + 1) (by simp [hN]) O csO hO m hm hml).step (Nat.le_refl _) fun b _ hb => ⟨hlt b (by omega), rfl⟩
  refine wpList_appRG hgd s x ho base v acc _ _ (I, O) hs (hown.below hb2 (Nat.le_refl _)) hp hq (N + 1 + 1) (by simp [hN]) hx hsz (by simp; omega) ?_
  intro v' w' h1 h2 h3
  refine h v' w' h1 (Lib.hid fun B w0 hB hw0 => h2.out B w0 hB ((hw0.alloc (by omega) _).alloc (by simp; omega) _)) (Lib.hid fun b cs t ht hb => h3.out b cs t ht ?_)
  have hbl : b < w.heap.size := (Array.getElem?_eq_some_iff.1 hb).1
  exact (hb2.block b hbl).trans hb
/-- append a row of rules that lie elsewhere -/
theorem wpList_appRsN {w : World} {ops : Array Oper} {rest : List Oper} {o : Oper} {a : Act} {Q : Exit → Act → World → Prop} (hgd : o.guard = none) (s x : Operand)
    (ho : o.op = .call { callee := .builtin .append, args := #[s, x], argTypes := #[24, 24] })
    (base : Nat) (v : Value) (acc : List Rl) (hs : a.eval s = v) (hown : OwnRs base w v acc) (A : Option Addr) (m c : Nat) (xs : List Value) (ss : List Rl) (hx : a.eval x = .slice A m c) (hm : m = ss.length)
    (B : Nat) (hr : Rd w B A xs) (hl : Rls (fun b => v.ownBlock ≠ some b) w xs ss) (hsz : acc.length + ss.length ≤ 1048576) (hbase : base ≤ w.heap.size)
    (h : ∀ v' w', Hid (OwnRs base w' v' (acc ++ ss)) → Hid (∀ B w0, B ≤ base → Below B w0 w → Below B w0 w') → wpList Tryd.prog ops Q rest (a.put o.dst v') w') :
    wpList Tryd.prog ops Q (o :: rest) a w := by
  subst hm
  obtain ⟨i0, hi, hz0, hz1, hz2⟩ := info_parts inforl
  obtain ⟨ys, ho1, hx1⟩ := hown
  refine wpList_appB _ hgd s x 24 ho base 42 i0 _ 2 48 Tryd.underlying24 hi hz0 hz1 hz2 rfl (by decide) v acc.length ys hs ho1 B A ss.length c xs hx (Rls.length hl) hr (Rls.ones hl) (by simp only [maxLen]; omega) (by omega) hbase ?_
  intro v' w4 hown4 hg4 hv4
  refine h v' w4 (Lib.hid ?_) (Lib.hid ?_)
  · exact ⟨ys ++ xs, by simpa using hown4, Rls.grown (hx1.app hl) hg4 hv4⟩
  · intro B0 w0 hB hw0
    exact below_own hw0 hg4 ho1 hB (by omega)
end Go.Proofs.YtamembaodpiggaaDoor
namespace Go.Proofs.YtamembaodpiggaaDoor
set_option linter.unusedVariables false
set_option linter.unusedSimpArgs false
set_option linter.unnecessarySimpa false
open Go.RowKit
/-- a row of rules of the call's own; its rules' units, too, lie from block base on -/
def OwnRsF (base : Nat) (w : World) (v : Value) (rs : List Rl) : Prop := ∃ xs, w.ownsRow base 42 2 v rs.length xs ∧ Rls (fun b => v.ownBlock ≠ some b ∧ base ≤ b) w xs rs
theorem OwnRsF.nil (base : Nat) (w : World) : OwnRsF base w (.slice none 0 0) [] := ⟨[], World.ownsRow_nil _ _ _ _, trivial⟩
theorem OwnRsF.below {base B : Nat} {w w' : World} {v : Value} {rs : List Rl} (h : OwnRsF base w v rs) (hb : Below B w w') (hB : w.heap.size ≤ B) : OwnRsF base w' v rs := by
  obtain ⟨xs, ho, hr⟩ := h
  exact ⟨xs, own_below ho hb hB, hr.step hb.size fun b hl hx => ⟨hx, hb.block b (by omega)⟩⟩
theorem OwnRsF.form {base : Nat} {w : World} {v : Value} {rs : List Rl} (h : OwnRsF base w v rs) : ∃ A c xs, v = .slice A rs.length c ∧ Rd w w.heap.size A xs ∧ Rls (fun b => base ≤ b) w xs rs := by
  obtain ⟨xs, ho, hr⟩ := h
  obtain ⟨A, c, rfl, h1, h2⟩ := own_form ho
  exact ⟨A, c, xs, rfl, Rd.own ho, hr.step (Nat.le_refl _) fun b hl hx => ⟨hx.2, rfl⟩⟩
theorem Rls.grownF {base : Nat} {w w' : World} {v v' : Value} {xs : List Value} {rs : List Rl} (h : Rls (fun b => v.ownBlock ≠ some b ∧ base ≤ b) w xs rs) (hg : w.grownBy w' v.ownBlock) (hv : v'.ownBlock = v.ownBlock ∨ v'.ownBlock = some w.heap.size) : Rls (fun b => v'.ownBlock ≠ some b ∧ base ≤ b) w' xs rs :=
  h.step hg.size fun b hl hx => ⟨⟨by
    rcases hv with e | e
    · rw [e]; exact hx.1
    · rw [e]; intro e'; injection e' with e'; omega, hx.2⟩, hg.block b hl (fun e => hx.1 e.symm)⟩
/-- append a rule whose two sides were just built, handed on by 'to' -/
theorem wpList_appRF {w : World} {ops : Array Oper} {rest : List Oper} {o : Oper} {a : Act} {Q : Exit → Act → World → Prop} (hgd : o.guard = none) (s x : Operand)
    (ho : o.op = .call { callee := .builtin .append, args := #[s, x], argTypes := #[24, 24] })
    (base : Nat) (v : Value) (acc : List Rl) (p q : Int) (hs : a.eval s = v) (hown : OwnRsF base w v acc)
    (N : Nat) (hN : w.heap.size = N) (hx : a.eval x = .slice (some ⟨N + 1 + 1 + 1, 0, none⟩) 1 1) (hsz : acc.length ≤ 1048576) (hbase : base ≤ w.heap.size)
    (h : ∀ v' w', Hid (OwnRsF base w' v' (acc ++ [([p], [q])])) → Hid (∀ B w0, B ≤ base → Below B w0 w → Below B w0 w') → wpList Tryd.prog ops Q rest (a.put o.dst v') w') :
    wpList Tryd.prog ops Q (o :: rest) a ((((w.alloc (.cells #[.int .i64 p] 3)).alloc (.cells #[.int .i64 q] 3)).alloc (.cells #[.slice (some ⟨N, 0, none⟩) 1 1, .slice (some ⟨N + 1, 0, none⟩) 1 1] 42)).alloc (.cells #[.slice (some ⟨N, 0, none⟩) 1 1, .slice (some ⟨N + 1, 0, none⟩) 1 1] 42)) := by
  show wpList Tryd.prog ops Q (o :: rest) a ((ruT w N ([p], [q])).alloc (.cells #[.slice (some ⟨N, 0, none⟩) 1 1, .slice (some ⟨N + 1, 0, none⟩) 1 1] 42))
  obtain ⟨i0, hi, hz0, hz1, hz2⟩ := info_parts inforl
  have hb3 := ruT_below w N ([p], [q])
  have hz3 := ruT_size w N ([p], [q])
  obtain ⟨u1, u2⟩ := ruT_us w N hN ([p], [q]) (by simp [maxLen]) (by simp [maxLen])
  obtain ⟨xs, ho1, hx1⟩ := hown.below hb3 (Nat.le_refl _)
  obtain ⟨xs0, ho0, hx0⟩ := hown
  have hne : ∀ b, N ≤ b → v.ownBlock ≠ some b := fun b hb e => by have := own_lt ho0 e; omega
  obtain ⟨w3, hw3⟩ : ∃ w3, ruT w N ([p], [q]) = w3 := ⟨_, rfl⟩
  rw [hw3] at hb3 hz3 u1 u2 ho1 hx1 ⊢
  have hA := ho1.alloc (.cells #[.slice (some ⟨N, 0, none⟩) 1 1, .slice (some ⟨N + 1, 0, none⟩) 1 1] 42)
  have hrd := Rd_new w3 #[.slice (some ⟨N, 0, none⟩) 1 1, .slice (some ⟨N + 1, 0, none⟩) 1 1] 42
  rw [show w3.heap.size = N + 1 + 1 + 1 by omega] at hrd
  refine wpList_appB _ hgd s x 24 ho base 42 i0 _ 2 48 Tryd.underlying24 hi hz0 hz1 hz2 rfl (by decide) v acc.length xs hs hA _ _ 1 1 [.slice (some ⟨N, 0, none⟩) 1 1, .slice (some ⟨N + 1, 0, none⟩) 1 1] hx rfl hrd ?_ (by simp only [maxLen]; omega) (by omega) (by simp; omega) ?_
  · intro u hu; simp at hu; rcases hu with rfl | rfl <;> rfl
  intro v' w4 hown4 hg4 hv4
  have hb4 : Below w3.heap.size w3 (w3.alloc (.cells #[.slice (some ⟨N, 0, none⟩) 1 1, .slice (some ⟨N + 1, 0, none⟩) 1 1] 42)) := (Below.refl _ _).alloc (Nat.le_refl _) _
  refine h v' w4 (Lib.hid ?_) (Lib.hid ?_)
  · refine ⟨xs ++ [.slice (some ⟨N, 0, none⟩) 1 1, .slice (some ⟨N + 1, 0, none⟩) 1 1], by simpa using hown4, Rls.grownF (v := v) ?_ hg4 hv4⟩
    refine (hx1.app (Rls.one (r := ([p], [q])) ?_ ?_)).step hb4.size fun b hb hx => ⟨hx, hb4.block b hb⟩
    · exact u1.step (Nat.le_refl _) fun b _ hx => ⟨⟨hne b (by have : b = N := hx; omega), by have : b = N := hx; omega⟩, rfl⟩
    · exact u2.step (Nat.le_refl _) fun b _ hx => ⟨⟨hne b (by have : b = N + 1 := hx; omega), by have : b = N + 1 := hx; omega⟩, rfl⟩
  · intro B w0 hB hw0
    exact below_own ((hw0.trans (hb3.mono (by omega))).trans (hb4.mono (by omega))) hg4 hA hB (by simp; omega)
/-- rules of one unit a side -/
def sgF (f : Int) (outs : List Int) : List Rl := (List.range outs.length).map (fun k : Nat => ([f + (k : Int)], [outs.getD k 0]))
theorem sgF_len (f : Int) (outs : List Int) : (sgF f outs).length = outs.length := by simp [sgF]
theorem sgF_take (f : Int) (outs : List Int) (k : Nat) (h : k < outs.length) : (sgF f outs).take (k + 1) = (sgF f outs).take k ++ [([f + (k : Int)], [outs.getD k 0])] := by
  rw [List.take_succ_eq_append_getElem (by rw [sgF_len]; exact h)]
  simp [sgF]
set_option maxHeartbeats 1600000 in
theorem single_any (w : World) (f : Int) (f0 : 0 ≤ f) (f1 : f ≤ 1000) (n c : Nat) (A : Option Addr) (B : Nat) (outs : List Int) (hn : n = outs.length) (hn1 : n ≤ 1000) (hr : Rd w B A (outs.map (Value.int .i64))) (hB : B ≤ w.heap.size) :
    Calls Tryd.prog 25 #[.int .i64 f, .slice A n c] w fun e w' => ∃ A' c' xs, e = .returned (.slice A' n c') ∧ Rd w' w'.heap.size A' xs ∧ Rls (fun b => w.heap.size ≤ b) w' xs (sgF f outs) ∧ Below w.heap.size w w' := by
  have HR := Lib.hid hr
  have HN := Lib.hid hn
  have n0 : (0 : Int) ≤ n := by omega
  have n1 : (n : Int) ≤ 1000 := by omega
  clear hr hn
  go_enter Tryd.func25, Tryd.ntmps25
  go_wp2_with fail
  go_loopw [5, 10] (fun v i wr => ∃ K : Nat, K ≤ n ∧ i = .int .i64 K ∧ Hid (OwnRsF w.heap.size wr v ((sgF f outs).take K)) ∧ Hid (Below w.heap.size w wr)) (fun _ i _ => n - (intOf i).toNat)
  case atStart => exact ⟨0, by omega, rfl, OwnRsF.nil _ _, Lib.hid (Below.refl _ _)⟩
  case round =>
    obtain ⟨K, hK, rfl, ho, hb⟩ := hrel
    by_cases hKn : K = n
    · subst hKn
      rw [List.take_of_length_le (by rw [sgF_len]; exact Nat.le_of_eq HN.out.symm)] at ho
      obtain ⟨A', c', xs, rfl, h1, h2⟩ := ho.out.form
      rw [sgF_len, ← HN.out]
      have H1 := Lib.hid h1
      have H2 := Lib.hid h2
      clear h1 h2 ho
      go_wp2_with fail
      go_ret
      exact ⟨A', c', xs, rfl, H1.out, H2.out, hb.out⟩
    have hK' : K < n := by omega
    have k3 : (0 : Int) ≤ K := by omega
    have k4 : (K : Int) < n := by omega
    have hwr := hb.out.size
    have hKo : K < outs.length := by rw [← HN.out]; exact hK'
    have HRr := Lib.hid (HR.out.below (hb.out.mono hB) (Nat.le_refl _))
    obtain ⟨b, o, rfl, _, hc⟩ := rd_ints HRr.out (by omega)
    have k1 := hc K hKo
    have HS := Lib.hid (sgF_take f outs K hKo)
    obtain ⟨s, hs⟩ : ∃ s, outs.getD K 0 = s := ⟨_, rfl⟩
    have HL := Lib.hid (show ((sgF f outs).take K).length ≤ 1048576 by rw [List.length_take]; omega)
    obtain ⟨acc, hacc⟩ : ∃ acc, (sgF f outs).take K = acc := ⟨_, rfl⟩
    rw [hs] at k1 HS
    rw [hacc] at HS HL ho
    obtain ⟨A3, c3, -, rfl, -⟩ := ho.out.form
    clear hc hKn hKo hacc hs
    go_wp2_with fail
    refine (to_any _ _ _ _ _ _ _).mono ?_
    rintro e w5 ⟨rfl, rfl⟩
    go_wp2_with (at_builtin; refine wpList_appRF rfl _ _ rfl w.heap.size (.slice A3 acc.length c3) acc (f + (K : Int)) s rfl ho.out wr.heap.size rfl rfl HL.out hwr ?_)
    intro v7 w7 HN2 HBB
    have HB7 := Lib.hid (HBB.out w.heap.size w (Nat.le_refl _) hb.out)
    have HN3 : Hid (OwnRsF w.heap.size w7 v7 ((sgF f outs).take (K + 1))) := by rw [HS.out]; exact HN2
    clear HN2 HBB
    go_wp2_with fail
    go_roundw
    case rel => exact ⟨K + 1, by omega, by go_num, HN3, HB7⟩
    case measure => simp [intOf]; omega
end Go.Proofs.YtamembaodpiggaaDoor
