/- Texts of this seat, one behind the other: IscR, IscE, IscLd, IscLa, IscLb, IscLe, IscLf, IscX. -/
import Derived.Test.YtdkcadckbjncjaaDoorZ16
import Derived.Test.YtdkcadckbjncjaaDoorZ26
import Derived.Test.YtdkcadckbjncjaaDoorZ22
import Derived.Test.YtdkcadckbjncjaaDoorZ4
import Derived.Test.YtdkcadckbjncjaaDoorZ1
import Derived.RangeFuncNested
import Derived.Test.YtdkcadckbjncjaaDoorZ6
import Derived.Test.YtdkcadckbjncjaaDoorZ20
import Derived.Test.YtdkcadckbjncjaaDoorZ23
import Derived.Test.YtdkcadckbjncjaaDoorZ3
namespace Go.Proofs.YtdkcadckbjncjaaDoor
set_option linter.unusedVariables false
set_option linter.unusedSimpArgs false
set_option linter.unnecessarySimpa false
open Go.RowKit
theorem below_allocI' (w : World) (o : Obj) : Below w.heap.size w (w.alloc o) := (Below.refl _ w).alloc (Nat.le_refl _) o
/-- append one token just built -/
theorem wpList_appT1 {w : World} {ops : Array Oper} {rest : List Oper} {o : Oper} {a : Act} {Q : Exit → Act → World → Prop} (hgd : o.guard = none) (s x : Operand)
    (ho : o.op = .call { callee := .builtin .append, args := #[s, x], argTypes := #[29, 29] })
    (base : Nat) (v : Value) (acc : List Tk) (p z e : Int) (q : Value) (us : List Int) (hs : a.eval s = v) (hown : OwnTkB base w v acc) (hq : Us (fun b => v.ownBlock ≠ some b ∧ base ≤ b) w q us)
    (N : Nat) (hN : w.heap.size = N) (hx : a.eval x = .slice (some ⟨N, 0, none⟩) 1 1) (hsz : acc.length ≤ 1000000) (hbase : base ≤ w.heap.size)
    (h : ∀ v' w', Hid (OwnTkB base w' v' (acc ++ [⟨p, z, us, e⟩])) → Hid (w.grownBy w' v.ownBlock) → Hid (v'.ownBlock = v.ownBlock ∨ ∃ b, v'.ownBlock = some b ∧ w.heap.size ≤ b) → wpList Tryd.prog ops Q rest (a.put o.dst v') w') :
    wpList Tryd.prog ops Q (o :: rest) a (w.alloc (.cells #[.int .i64 p, .int .i64 z, q, .int .i64 e] 44)) := by
  subst hN
  obtain ⟨i0, hi, hz0, hz1, hz2⟩ := info_parts infotok
  obtain ⟨xs, ho1, hx1⟩ := hown
  have hba : Below w.heap.size w (w.alloc (.cells #[.int .i64 p, .int .i64 z, q, .int .i64 e] 44)) := (Below.refl _ _).alloc (Nat.le_refl _) _
  refine wpList_appB _ hgd s x 29 ho base 44 i0 _ 4 48 Tryd.underlying29 hi hz0 hz1 hz2 rfl (by decide) v acc.length xs hs (ho1.alloc _) _ _ 1 1 [.int .i64 p, .int .i64 z, q, .int .i64 e] hx rfl (Rd_new w #[.int .i64 p, .int .i64 z, q, .int .i64 e] _) ?_ (by simp only [maxLen]; omega) (by omega) (by simp; omega) ?_
  · intro u hu; simp at hu; rcases hu with rfl | rfl | rfl | rfl
    · rfl
    · rfl
    · exact hq.one
    · rfl
  intro v' w4 hown4 hg4 hv4
  have hst : ∀ b, b < w.heap.size → (v.ownBlock ≠ some b ∧ base ≤ b) → (v.ownBlock ≠ some b ∧ base ≤ b) ∧ (w.alloc (.cells #[.int .i64 p, .int .i64 z, q, .int .i64 e] 44)).heap[b]? = w.heap[b]? := fun b hb hx => ⟨hx, hba.block b hb⟩
  refine h v' w4 (Lib.hid (OwnTkB.push (v := v) (xs := xs) (ys := [.int .i64 p, .int .i64 z, q, .int .i64 e]) (n := acc.length + 1) rfl hown4 (hx1.step hba.size hst) (Tks.one (hq.step hba.size hst)) hg4 hv4)) (Lib.hid ((World.grownBy_alloc w _ v.ownBlock).trans hg4)) (Lib.hid ?_)
  rcases hv4 with h1 | h1
  · exact .inl h1
  · exact .inr ⟨_, h1, by simp⟩
/-- of the blocks that there were only P and V's are written -/
structure Gr (P : Nat) (V : Option Nat) (w w' : World) : Prop where
  os : w'.os = w.os
  tape : w'.tape = w.tape
  output : w'.output = w.output
  size : w.heap.size ≤ w'.heap.size
  block : ∀ k, k < w.heap.size → k ≠ P → some k ≠ V → w'.heap[k]? = w.heap[k]?
theorem Gr.refl (P : Nat) (V : Option Nat) (w : World) : Gr P V w w := ⟨rfl, rfl, rfl, Nat.le_refl _, fun _ _ _ _ => rfl⟩
theorem Gr.below {P : Nat} {V : Option Nat} {w w1 w2 : World} (h : Gr P V w w1) (hb : Below w1.heap.size w1 w2) : Gr P V w w2 :=
  ⟨hb.os.trans h.os, hb.tape.trans h.tape, hb.output.trans h.output, Nat.le_trans h.size hb.size, fun k hk hp hv => (hb.block k (Nat.lt_of_lt_of_le hk h.size)).trans (h.block k hk hp hv)⟩
theorem Gr.grown {P : Nat} {V : Option Nat} {w w1 w2 : World} {row : Option Nat} (h : Gr P V w w1) (hg : w1.grownBy w2 row) (hr : row = V ∨ ∃ b, row = some b ∧ w.heap.size ≤ b) : Gr P V w w2 :=
  ⟨hg.os.trans h.os, hg.tape.trans h.tape, hg.output.trans h.output, Nat.le_trans h.size hg.size, fun k hk hp hv => (hg.block k (Nat.lt_of_lt_of_le hk h.size) (fun e => by
    rcases hr with e1 | ⟨b, e1, hb⟩
    · exact hv (e.trans e1)
    · rw [e1] at e; injection e with e; omega)).trans (h.block k hk hp hv)⟩
theorem Gr.set {P : Nat} {V : Option Nat} {w w1 : World} (h : Gr P V w w1) {g j : Nat} (v : Value) (hg : g = P ∨ w.heap.size ≤ g) : Gr P V w (w1.setCell ⟨g, j, none⟩ v) :=
  ⟨h.os, h.tape, h.output, by rw [World.size_setCell]; exact h.size, fun k hk hp hv => (Below.heap_setCell _ _ _ _ (fun e => by have : k = g := e; rcases hg with h1 | h1 <;> omega)).trans (h.block k hk hp hv)⟩
theorem Gr.toBelow {P B : Nat} {V : Option Nat} {w0 w w' : World} (hb : Below B w0 w) (h : Gr P V w w') (hP : B ≤ P) (hV : ∀ b, V = some b → B ≤ b) (hB : B ≤ w.heap.size) : Below B w0 w' :=
  hb.trans ⟨h.os, h.tape, h.output, h.size, fun k hk => h.block k (by omega) (by omega) (fun e => by have := hV k e.symm; omega)⟩
/-- the law's state: the row that is told in box P, how many units were told in box P + 1, those that wait in box P + 2 -/
structure EncW (P Su : Nat) (w : World) (vo vu : Value) (acc : List Tk) (n : Int) (xs : List Int) : Prop where
  le : P + 3 ≤ Su
  lt : Su ≤ w.heap.size
  bo : Boxed w P 29 vo
  bn : Boxed w (P + 1) 3 (.int .i64 n)
  bu : Boxed w (P + 2) 24 vu
  row : ∃ cs, w.ownsRow (P + 3) 44 4 vo acc.length cs ∧ Tks (fun b => vo.ownBlock ≠ some b ∧ P + 3 ≤ b ∧ b < Su) w cs acc
  own : ∀ b, vo.ownBlock = some b → b < Su
  units : IR w Su vu xs
theorem EncW.tk {P Su : Nat} {w : World} {vo vu : Value} {acc : List Tk} {n : Int} {xs : List Int} (h : EncW P Su w vo vu acc n xs) : OwnTkB (P + 3) w vo acc := by
  obtain ⟨cs, h1, h2⟩ := h.row
  exact ⟨cs, h1, h2.step (Nat.le_refl _) fun b _ hx => ⟨⟨hx.1, hx.2.1⟩, rfl⟩⟩
def EncSt (P : Nat) (w : World) (acc : List Tk) (n : Int) (xs : List Int) : Prop := ∃ Su vo vu, EncW P Su w vo vu acc n xs
theorem EncW.below {P Su : Nat} {w w' : World} {vo vu : Value} {acc : List Tk} {n : Int} {xs : List Int} (h : EncW P Su w vo vu acc n xs) (hb : Below w.heap.size w w') : EncW P Su w' vo vu acc n xs := by
  obtain ⟨h1, h2, h3, h4, h5, ⟨cs, h6, h7⟩, h8, h9⟩ := h
  exact ⟨h1, Nat.le_trans h2 hb.size, (hb.block _ h3.lt).trans h3, (hb.block _ h4.lt).trans h4, (hb.block _ h5.lt).trans h5, ⟨cs, own_below h6 hb (Nat.le_refl _), h7.step hb.size fun b hl hx => ⟨hx, hb.block b hl⟩⟩, h8, h9.below hb (Nat.le_refl _)⟩
/-- all that is told stands; nothing waits -/
theorem EncW.fresh {P : Nat} {w : World} {vo : Value} {acc : List Tk} {n : Int} (hP : P + 3 ≤ w.heap.size) (bo : Boxed w P 29 vo) (bn : Boxed w (P + 1) 3 (.int .i64 n)) (bu : Boxed w (P + 2) 24 (.slice none 0 0)) (hr : OwnTkB (P + 3) w vo acc) :
    EncW P w.heap.size w vo (.slice none 0 0) acc n [] := by
  obtain ⟨cs, h1, h2⟩ := hr
  exact ⟨hP, Nat.le_refl _, bo, bn, bu, ⟨cs, h1, h2.step (Nat.le_refl _) fun b hl hx => ⟨⟨hx.1, hx.2, hl⟩, rfl⟩⟩, fun b e => own_lt h1 e, IR.nil _ _⟩
set_option maxRecDepth 100000 in
set_option maxHeartbeats 12800000 in
theorem rest_any (P Su : Nat) (w : World) (vo vu : Value) (acc : List Tk) (n : Int) (xs : List Int) (h : EncW P Su w vo vu acc n xs) (hxl : xs.length ≤ 100) (hn0 : 0 ≤ n) (hn1 : n ≤ 1000) (hal : acc.length ≤ 10000) :
    Calls Tryd.prog 38 #[.pointer (some ⟨P + 2, 0, none⟩), .pointer (some ⟨P + 1, 0, none⟩), .pointer (some ⟨P, 0, none⟩)] w fun e w' => e = .returned (.tuple #[]) ∧ (∃ vo', EncW P w'.heap.size w' vo' (.slice none 0 0) (acc ++ (encA inR xs).map (shK n)) (n + xs.length) []) ∧ Below P w w' := by
  obtain ⟨Au, cu, rfl, hu1, hu2⟩ := h.units.form
  obtain ⟨nu, hnu⟩ : ∃ k, xs.length = k := ⟨_, rfl⟩
  rw [hnu] at h hu1 hxl ⊢
  have cn := h.bn.cell
  have cun := h.bu.cell
  have H := Lib.hid h
  have HU := Lib.hid (show Rd w w.heap.size Au (xs.map (Value.int .i64)) from h.units.rd)
  have HNU := Lib.hid hnu
  have hlt := h.lt
  have hle := h.le
  have HU2 := Lib.hid hu2
  obtain ⟨tk, htk⟩ : ∃ tk, encA inR xs = tk := ⟨_, rfl⟩
  have hkl : tk.length ≤ 100 := by rw [← htk]; have := encA_len inT_good xs; omega
  have HTK := Lib.hid htk
  have HAL := Lib.hid hal
  clear h hnu htk hal hu2
  go_enter Tryd.func38, Tryd.ntmps38
  go_wp2_with fail
  refine wp_region_mixe (G := SameB (P + 2)) [(1, false), (4, false), (0, true), (2, true), (3, false)] (SameB.refl _) (SameB.trans _) (by kernel_rfl) rfl (by kernel_rfl) (by kernel_rfl) ?_
  refine mixe_one rfl rfl ?_
  go_big_quiet_step ((intro hh; rw [hh.cell, World.cell?_drew, cun]; exact ⟨rfl, rfl⟩))
  refine wpQuiet_nil ?_
  refine mixe_one rfl rfl ?_
  go_big_quiet_step ((intro _; rfl))
  refine wpQuiet_nil ?_
  have hb0 : Below w.heap.size w w.drew := (Below.refl _ w).drew
  refine mixe_call rfl ?_
  go_wp2_with fail
  refine (lrules_any w.drew).mono ?_
  rintro e w1 ⟨v1, rfl, ho1, hb1⟩
  obtain ⟨A1, c1, rfl, hat1⟩ := ho1.form
  rw [inR_len] at hat1 ⊢
  have hs1 : w.heap.size ≤ w1.heap.size := hb1.size
  have hb01 : Below w.heap.size w w1 := hb0.trans hb1
  have L1 := Lib.hid (lencode_anyF 240 A1 c1 inR w1.heap.size w1 hat1 (Nat.le_refl _) (by decide) inR_good inT_good nu Au cu xs w.heap.size HNU.out.symm (HU.out.below hb01 (Nat.le_refl _)) hs1 hu1 HU2.out (by omega) tk HTK.out)
  have HB1 := Lib.hid hb01
  go_wp2_with fail
  refine ⟨SameB.of hb1 (by show P + 2 < w.heap.size; omega), ?_⟩
  clear ho1 hat1 hb1 hb01 hb0
  refine mixe_call rfl ?_
  go_wp2_with fail
  refine L1.out.mono ?_
  rintro e w2 ⟨v2, rfl, ho2, hb2⟩
  obtain ⟨A8, c8, rfl, -⟩ := ho2.form
  obtain ⟨m8, hm8⟩ : ∃ k, tk.length = k := ⟨_, rfl⟩
  rw [hm8] at ho2 hkl ⊢
  have HM8 := Lib.hid hm8
  have hs2 := hb2.size
  have HO8 := Lib.hid (ho2.low hs1)
  have HB2 := Lib.hid (HB1.out.trans (hb2.mono hs1))
  have HH := Lib.hid (H.out.below HB2.out)
  go_wp2_with fail
  refine ⟨SameB.of hb2 (by omega), ?_⟩
  clear ho2 hb2 L1 HB1 hm8
  refine mixe_one rfl rfl ?_
  go_big_quiet_step ((intro _; rfl))
  refine wpQuiet_nil ?_
  refine NoPanic.normal ?_
  obtain ⟨V, hV⟩ : ∃ V, vo.ownBlock = V := ⟨_, rfl⟩
  have HV := Lib.hid hV
  have HVS := Lib.hid (show ∀ b, V = some b → P + 3 ≤ b ∧ b < Su from fun b e => by
    obtain ⟨cs, h1, _⟩ := H.out.row
    exact ⟨(h1.lt b (hV.trans e)).1, H.out.own b (hV.trans e)⟩)
  obtain ⟨S2, hS2⟩ : ∃ S, w2.heap.size = S := ⟨_, rfl⟩
  have HS2 := Lib.hid hS2
  have hSS : w.heap.size ≤ S2 := by omega
  have HT0 : Hid (OwnTkB (P + 3) w2 vo (acc ++ (tk.take 0).map (shK n))) := by
    show OwnTkB _ _ _ _
    rw [List.take_zero, List.map_nil, List.append_nil]
    exact HH.out.tk
  have HG0 := Lib.hid (Gr.refl P V w2)
  have HBO0 := Lib.hid HH.out.bo
  have HV0 : Hid (vo.ownBlock = V ∨ ∃ b, vo.ownBlock = some b ∧ S2 ≤ b) := .inl HV.out
  have HBN := Lib.hid HH.out.bn
  have HBU := Lib.hid HH.out.bu
  clear hV hS2 cn cun HV H HH
  go_wp2_with fail
  go_loopw [9] (fun i wr => ∃ (J : Nat) (v : Value), J ≤ m8 ∧ i = .int .i64 J ∧ Hid (Boxed wr P 29 v) ∧ Hid (OwnTkB (P + 3) wr v (acc ++ (tk.take J).map (shK n))) ∧ Hid (v.ownBlock = V ∨ ∃ b, v.ownBlock = some b ∧ S2 ≤ b) ∧ Hid (Gr P V w2 wr)) (fun i _ => m8 - (intOf i).toNat)
  case atStart => exact ⟨0, vo, by omega, rfl, HBO0, HT0, HV0, HG0⟩
  case round =>
    clear HBO0 HT0 HV0 HG0
    obtain ⟨J, v, hJ, rfl, hbo, hrow, hvb, hgr⟩ := hrel
    have hsz := hgr.out.size
    rw [HS2.out] at hsz
    have hbn : Boxed wr (P + 1) 3 (.int .i64 n) := (hgr.out.block (P + 1) HBN.out.lt (by omega) (fun e => by have := HVS.out (P + 1) e.symm; omega)).trans HBN.out
    have hbu : Boxed wr (P + 2) 24 (.slice Au nu cu) := (hgr.out.block (P + 2) HBU.out.lt (by omega) (fun e => by have := HVS.out (P + 2) e.symm; omega)).trans HBU.out
    by_cases hJn : J = m8
    · have hJ' : ¬ J < m8 := by omega
      have hrow2 := hrow.out
      rw [List.take_of_length_le (by rw [HM8.out]; omega)] at hrow2
      have cn := hbn.cell
      have cun := hbu.cell
      have fn := hbn.frozen
      have fu := hbu.frozen
      have hW1 := grownBy_setCell' wr (P + 1) (.int .i64 (n + nu))
      have hW2 := grownBy_setCell' (wr.setCell ⟨P + 1, 0, none⟩ (.int .i64 (n + nu))) (P + 2) (.slice none 0 0)
      have HFIN := Lib.hid (EncW.fresh (P := P) (w := (wr.setCell ⟨P + 1, 0, none⟩ (.int .i64 (n + nu))).setCell ⟨P + 2, 0, none⟩ (.slice none 0 0)) (by rw [World.size_setCell, World.size_setCell]; omega)
        ((hbo.out.other (by omega) _).other (by omega) _) ((hbn.set (.int .i64 (n + nu))).other (by omega) _) ((hbu.other (by omega) _).set (.slice none 0 0)) ((hrow2.past hW1 (by omega)).past hW2 (by omega)))
      have HBF := Lib.hid ((((Gr.toBelow (HB2.out.mono (show P ≤ w.heap.size by omega)) hgr.out (Nat.le_refl _) (fun b e => by have := (HVS.out b e).1; omega) (by rw [HS2.out]; omega)).setCell (p := ⟨P + 1, 0, none⟩) (by show P ≤ P + 1; omega) (.int .i64 (n + nu)))).setCell (p := ⟨P + 2, 0, none⟩) (by show P ≤ P + 2; omega) (.slice none 0 0))
      have n0 : (0 : Int) ≤ nu := by omega
      have n1 : (nu : Int) ≤ 100 := by omega
      clear hJn hrow hrow2 hbo hvb hgr hbn hbu hW1 hW2
      go_wp2_with fail
      go_end0
      exact ⟨rfl, ⟨_, by rw [HTK.out]; exact HFIN.out⟩, HBF.out⟩
    have hJ' : J < m8 := by omega
    have hJ1 : J < tk.length := by rw [HM8.out]; exact hJ'
    have j3 : (0 : Int) ≤ J := by omega
    have j4 : (J : Int) < m8 := by omega
    have hpos := encA_pos inT_good xs tk[J] (by rw [HTK.out]; exact List.getElem_mem hJ1)
    obtain ⟨g, cg, hgv⟩ : ∃ g c', Value.slice A8 m8 c8 = .slice (some ⟨g, 0, none⟩) m8 c' := by
      obtain ⟨xs, hown, _⟩ := HO8.out
      rcases hown.2 with ⟨_, h2⟩ | ⟨g, cap, cur, h1, _⟩
      · omega
      · rw [HM8.out] at h1
        exact ⟨g, cap, h1⟩
    obtain ⟨rfl, rfl⟩ : A8 = some ⟨g, 0, none⟩ ∧ c8 = cg := by injection hgv with a b c; exact ⟨a, c⟩
    clear hgv
    have hgl := own_ltT HO8.out (b := g) rfl
    have hbk : wr.heap[g]? = w2.heap[g]? := hgr.out.block g hgl.2 (by omega) (fun e => by have := HVS.out g e.symm; omega)
    have hcg : ∀ o, wr.cell? ⟨g, o, none⟩ = w2.cell? ⟨g, o, none⟩ := fun o => by simp only [World.cell?, hbk]
    obtain ⟨A3, n3, c3, q0, q1, q2, q3, hn3, hu3, -⟩ := HO8.out.cellsAt (k := J) hJ1
    rw [← hcg] at q0 q1 q2 q3
    have htn : acc ++ (tk.take (J + 1)).map (shK n) = (acc ++ (tk.take J).map (shK n)) ++ [shK n tk[J]] := by
      rw [List.take_succ_eq_append_getElem hJ1, List.map_append, ← List.append_assoc]; rfl
    obtain ⟨t, ht⟩ : ∃ t, tk[J] = t := ⟨_, rfl⟩
    rw [ht] at q0 q1 q3 hn3 hu3 htn hpos
    obtain ⟨tp, tz, tu, te⟩ := t
    simp only at q0 q1 q3 hn3 hu3 hpos
    obtain ⟨hp0, hp1⟩ := hpos
    have hp2 : tp ≤ 100 := by have := HNU.out; omega
    have cn := hbn.cell
    have cb := hbo.out.cell
    have fb := hbo.out.frozen
    have hbP := hbo.out.lt
    obtain ⟨A9, c9, rfl, -⟩ := hrow.out.own.form
    obtain ⟨ac, hac⟩ : ∃ ac, acc ++ (tk.take J).map (shK n) = ac := ⟨_, rfl⟩
    have hacl : ac.length ≤ 20000 := by rw [← hac, List.length_append, List.length_map, List.length_take]; have := HAL.out; omega
    rw [hac] at hrow htn hbo hvb cb
    obtain ⟨k9, hk9⟩ : ∃ k, ac.length = k := ⟨_, rfl⟩
    have HACL := Lib.hid hacl
    rw [hk9] at hrow hbo hvb cb
    have hba := below_allocI' wr (.cells #[.int .i64 (tp + n), .int .i64 tz, .slice A3 n3 c3, .int .i64 te] 44)
    have HROWA := Lib.hid (hrow.out.below hba (Nat.le_refl _))
    have hvl : ∀ b, (Value.slice A9 k9 c9).ownBlock = some b → b < w.heap.size ∨ S2 ≤ b := fun b e => by
      rcases hvb.out with h1 | ⟨b', h1, h2⟩
      · left; have := HVS.out b (h1.symm.trans e); omega
      · right; rw [h1] at e; injection e with e; omega
    have HUA := Lib.hid (show Us (fun b => (Value.slice A9 k9 c9).ownBlock ≠ some b ∧ P + 3 ≤ b) (wr.alloc (.cells #[.int .i64 (tp + n), .int .i64 tz, .slice A3 n3 c3, .int .i64 te] 44)) (.slice A3 n3 c3) tu from
      hu3.step (by have := HS2.out; simp; omega) fun b hb hx => ⟨⟨fun e => by
        have h2 : w.heap.size ≤ b := hx.2
        rcases hvl b e with h1 | h1
        · omega
        · rw [HS2.out] at hb; omega, by have h2 : w.heap.size ≤ b := hx.2; omega⟩, by
        have h2 : w.heap.size ≤ b := hx.2
        refine (hba.block b (by rw [HS2.out] at hb; omega)).trans (hgr.out.block b hb (by omega) (fun e => by have := HVS.out b e.symm; omega))⟩)
    have cnA := (hbn.alloc (.cells #[.int .i64 tp, .int .i64 tz, .slice A3 n3 c3, .int .i64 te] 44)).cell
    have cbB := (hbo.out.alloc (.cells #[.int .i64 (tp + n), .int .i64 tz, .slice A3 n3 c3, .int .i64 te] 44)).cell
    have HBOA := Lib.hid (show Boxed (wr.alloc (.cells #[.int .i64 (tp + n), .int .i64 tz, .slice A3 n3 c3, .int .i64 te] 44)) P 29 (.slice A9 k9 c9) from hbo.out.alloc _)
    have HGRA := Lib.hid (hgr.out.below hba)
    have HVB := Lib.hid hvb.out
    have HTN := Lib.hid htn
    have hSA : P + 3 ≤ (wr.alloc (.cells #[.int .i64 (tp + n), .int .i64 tz, .slice A3 n3 c3, .int .i64 te] 44)).heap.size := by simp; omega
    have HSA := Lib.hid hSA
    have HWS := Lib.hid (show S2 ≤ (wr.alloc (.cells #[.int .i64 (tp + n), .int .i64 tz, .slice A3 n3 c3, .int .i64 te] 44)).heap.size by simp; omega)
    clear hJn hrow hbo hvb hgr hbn hbu hbk hcg hn3 hu3 htn ht hac hacl hk9 hba hvl hJ1 hSA
    go_wp2_with (at_builtin; refine wpList_appT1 rfl _ _ rfl (P + 3) (.slice A9 k9 c9) ac (tp + n) tz te (.slice A3 n3 c3) tu rfl HROWA.out HUA.out (wr.heap.size + 1) (by simp) rfl (by have := HACL.out; omega) HSA.out ?_)
    intro v9 w9 HO9 HG9 HV9
    have hb9 : Boxed w9 P 29 (.slice A9 k9 c9) := HBOA.out.kept HG9.out (fun e => by
      have := (own_ltT HROWA.out e.symm).1
      omega)
    have hc9 := hb9.cell
    have hf9 := hb9.frozen
    have HB9 := Lib.hid (hb9.set v9)
    have HO9' := Lib.hid (HO9.out.past (grownBy_setCell' w9 P v9) (show P < P + 3 by omega))
    have HG9' := Lib.hid ((HGRA.out.grown HG9.out (by rw [HS2.out]; exact HVB.out)).set (g := P) (j := 0) v9 (.inl rfl))
    have HV9' : Hid (v9.ownBlock = V ∨ ∃ b, v9.ownBlock = some b ∧ S2 ≤ b) := by
      rcases HV9.out with h1 | ⟨b, h1, h2⟩
      · show _ ∨ _
        rw [h1]; exact HVB.out
      · exact .inr ⟨b, h1, by have := HWS.out; omega⟩
    have HO9'' : Hid (OwnTkB (P + 3) (w9.setCell ⟨P, 0, none⟩ v9) v9 (acc ++ (tk.take (J + 1)).map (shK n))) := by rw [HTN.out]; exact HO9'
    clear hb9 HO9 HO9' HG9 HV9 HGRA HVB HROWA HUA HBOA HTN
    obtain ⟨A10, k10, c10, rfl⟩ : ∃ A k c, v9 = .slice A k c := by obtain ⟨A, c, h, -⟩ := HO9''.out.own.form; exact ⟨A, _, c, h⟩
    go_wp2_with fail
    go_roundw
    case rel => exact ⟨J + 1, _, by omega, by go_num, HB9, HO9'', HV9', HG9'⟩
    case measure => simp [intOf]; omega
end Go.Proofs.YtdkcadckbjncjaaDoor
namespace Go.Proofs.YtdkcadckbjncjaaDoor
set_option linter.unusedVariables false
set_option linter.unusedSimpArgs false
set_option linter.unnecessarySimpa false
open Go.RowKit
theorem tab_intsE (l : List Int) (k : Nat) (h : k < l.length) : (l.map (Value.int .i64)).toArray[k]? = some (.int .i64 (l.getD k 0)) := by
  rw [List.getElem?_toArray, List.getElem?_map, List.getD_eq_getElem?_getD, List.getElem?_eq_getElem h]; rfl
/-- blocks of ints stay -/
def IntKeep (a b : World) : Prop := ∀ (k : Nat) (cs : Array Value), a.heap[k]? = some (.cells cs 3 (0, 0)) → b.heap[k]? = some (.cells cs 3 (0, 0))
theorem IntKeep.refl (w : World) : IntKeep w w := fun _ _ h => h
theorem IntKeep.trans (a b c : World) (h : IntKeep a b) (h' : IntKeep b c) : IntKeep a c := fun k cs e => h' k cs (h k cs e)
theorem IntKeep.of {a b : World} (h : Below a.heap.size a b) : IntKeep a b := fun k cs e => (h.block k (Array.getElem?_eq_some_iff.1 e).1).trans e
/-- one more unit waits -/
theorem EncW.push {P Su : Nat} {w w9 : World} {vo vu v' : Value} {acc : List Tk} {n u : Int} {xs : List Int} (h : EncW P Su w vo vu acc n xs) (hi : IR w9 Su v' (xs ++ [u])) (hg : w.grownBy w9 vu.ownBlock) : EncW P Su (w9.setCell ⟨P + 2, 0, none⟩ v') vo v' acc n (xs ++ [u]) := by
  obtain ⟨h1, h2, h3, h4, h5, ⟨cs, h6, h7⟩, h8, h9⟩ := h
  have hvu : ∀ b, vu.ownBlock = some b → Su ≤ b := fun b e => (h9.lt e).1
  have hb : ∀ b, b < Su → some b ≠ vu.ownBlock := fun b hb e => by have := hvu b e.symm; omega
  have hp := grownBy_setCell' w9 (P + 2) v'
  have h6' := h6.kept hg (by
    rcases hv : vo.ownBlock with _ | b
    · exact .inl rfl
    · exact .inr (fun e => by have := h8 b hv; exact hb b this e))
  refine ⟨h1, by rw [World.size_setCell]; exact Nat.le_trans h2 hg.size, (h3.kept hg (hb P (by omega))).other (by omega) _, (h4.kept hg (hb _ (by omega))).other (by omega) _, (h5.kept hg (hb _ (by omega))).set v', ⟨cs, own_kept h6' hp (by omega), (h7.step hg.size fun b hl hx => ⟨hx, hg.block b hl (hb b hx.2.2)⟩).step (by rw [World.size_setCell]; exact Nat.le_refl _) fun b hl hx => ⟨hx, Below.heap_setCell _ _ _ _ (fun e => by have : b = P + 2 := e; omega)⟩⟩, h8, own_kept hi hp (by omega)⟩
/-- one more token is told, when none waits -/
theorem EncW.app {P Su : Nat} {w w9 : World} {vo v9 : Value} {acc acc9 : List Tk} {n : Int} (h : EncW P Su w vo (.slice none 0 0) acc n []) (ho : OwnTkB (P + 3) w9 v9 acc9) (hg : w.grownBy w9 vo.ownBlock) : EncW P (w9.setCell ⟨P, 0, none⟩ v9).heap.size (w9.setCell ⟨P, 0, none⟩ v9) v9 (.slice none 0 0) acc9 n [] := by
  have hvo : ∀ b, vo.ownBlock = some b → P + 3 ≤ b := fun b e => (own_ltT h.tk e).1
  have hb : ∀ b, b < P + 3 → some b ≠ vo.ownBlock := fun b hb e => by have := hvo b e.symm; omega
  have h1 := h.le
  have h2 := h.lt
  refine EncW.fresh (by rw [World.size_setCell]; have := hg.size; omega) ((h.bo.kept hg (hb P (by omega))).set v9) ((h.bn.kept hg (hb _ (by omega))).other (by omega) _) ((h.bu.kept hg (hb _ (by omega))).other (by omega) _) (ho.past (grownBy_setCell' w9 P v9) (by omega))
theorem IntKeep.app {w w9 : World} {vo : Value} {base : Nat} {acc : List Tk} (ho : OwnTkB base w vo acc) (hg : w.grownBy w9 vo.ownBlock) : IntKeep w w9 := fun k cs e => by
  refine (hg.block k (Array.getElem?_eq_some_iff.1 e).1 (fun e2 => ?_)).trans e
  obtain ⟨ys, h1, _⟩ := ho
  obtain ⟨cur, hq⟩ := own_blockT h1 e2.symm
  rw [e] at hq
  injection hq with hq
  injection hq with _ hq
  revert hq; decide
theorem IntKeep.appA {w w9 : World} {vo : Value} {base : Nat} {acc : List Tk} {cells : Array Value} (ho : OwnTkB base w vo acc) (hg : w.grownBy w9 vo.ownBlock) : IntKeep (w.alloc (.cells cells 44)) w9 := fun k cs e => by
  rcases Nat.lt_or_ge k w.heap.size with h | h
  · exact IntKeep.app ho hg k cs ((Below.heap_alloc w _ k h).symm.trans e)
  · have hk : k < (w.alloc (.cells cells 44)).heap.size := (Array.getElem?_eq_some_iff.1 e).1
    have h2 : k = w.heap.size := by simp at hk; omega
    subst h2
    rw [heap_alloc_new w] at e
    injection e with e
    injection e with _ e
    exact absurd e (by decide)
theorem IntKeep.set {w : World} {P : Nat} {v v' : Value} (h : Boxed w P 29 v) : IntKeep w (w.setCell ⟨P, 0, none⟩ v') := fun k cs e => by
  refine (Below.heap_setCell _ _ _ _ (fun e2 => ?_)).trans e
  have e3 : k = P := e2
  subst e3
  rw [show w.heap[k]? = _ from h] at e
  injection e with e
  injection e with _ e
  revert e; decide
theorem lawE_same {n sc s : Int} {xs ss : List Int} (h : ¬ (isB s = true ∧ isC s ≠ sc)) : lawE n xs sc (s :: ss) = lawE n (xs ++ [isU s]) sc ss := by simp only [lawE, if_neg h]
set_option maxRecDepth 100000 in
set_option maxHeartbeats 25600000 in
theorem lenc18_any (M : Nat) (A : Option Addr) (c : Nat) (ss : List Int) (B : Nat) (w : World) (hn : M = ss.length) (hr : Rd w B A (ss.map (Value.int .i64))) (hB : B ≤ w.heap.size) (hl : M ≤ 60) (T : List Tk) (f : Int) (hv : lawE 0 [] 0 ss = (T, f)) :
    Calls Tryd.prog 22 #[.slice A M c] w fun e w' => ∃ v, e = .returned (.tuple #[v, .int .i64 f]) ∧ OwnTkB w.heap.size w' v T ∧ Below w.heap.size w w' := by
  have hmf : ∀ (fn : Fn) (first cap : Array Value) (w : World), (Instr.makeFunc fn first cap).run Tryd.prog w = .ok (.func fn first cap) w := fun _ _ _ _ => rfl
  have hTl : T.length ≤ 180 := by
    have h := lawE_len ss 0 [] 0
    rw [hv] at h
    simp only [List.length_nil] at h
    omega
  have HV := Lib.hid hv
  have HN := Lib.hid hn
  have HR := Lib.hid hr
  clear hn hr hv
  obtain ⟨P, hP⟩ : ∃ P, w.heap.size = P := ⟨_, rfl⟩
  have hE0 : EncW P (((w.alloc (.cells #[.slice none 0 0] 29)).alloc (.cells #[.int .i64 0] 3)).alloc (.cells #[.slice none 0 0] 24)).heap.size (((w.alloc (.cells #[.slice none 0 0] 29)).alloc (.cells #[.int .i64 0] 3)).alloc (.cells #[.slice none 0 0] 24)) (.slice none 0 0) (.slice none 0 0) [] 0 [] := by
    refine EncW.fresh (by simp [hP]) ?_ ?_ ?_ (OwnTkB.nil _ _)
    · rw [← hP]; exact ((Boxed.new w _ _).alloc _).alloc _
    · have := (Boxed.new (w.alloc (.cells #[.slice none 0 0] 29)) 3 (.int .i64 0)).alloc (.cells #[.slice none 0 0] 24)
      simpa [hP] using this
    · have := Boxed.new ((w.alloc (.cells #[.slice none 0 0] 29)).alloc (.cells #[.int .i64 0] 3)) 24 (.slice none 0 0)
      simpa [hP] using this
  have hB0 : Below P w (((w.alloc (.cells #[.slice none 0 0] 29)).alloc (.cells #[.int .i64 0] 3)).alloc (.cells #[.slice none 0 0] 24)) := by
    rw [← hP]; exact (((Below.refl _ w).alloc (Nat.le_refl _) _).alloc (by simp) _).alloc (by simp; omega) _
  have HE0 := Lib.hid hE0
  have HB0 := Lib.hid hB0
  have HPE := Lib.hid hP
  rw [hP] at hB ⊢
  clear hE0 hB0
  go_enter Tryd.func22, Tryd.ntmps22
  go_wp2_with fail
  obtain ⟨W0, hW0⟩ : ∃ W, ((w.alloc (.cells #[.slice none 0 0] 29)).alloc (.cells #[.int .i64 0] 3)).alloc (.cells #[.slice none 0 0] 24) = W := ⟨_, rfl⟩
  rw [hW0] at HE0 HB0 ⊢
  clear hW0 hP
  go_loopw [5, 15] (fun s i wr => ∃ (K Su : Nat) (sc n : Int) (xs : List Int) (acc : List Tk) (vo vu : Value), K ≤ M ∧ i = .int .i64 K ∧ s = .int .i64 sc ∧ 0 ≤ sc ∧ sc ≤ 8 ∧ Hid (EncW P Su wr vo vu acc n xs) ∧ Hid ((acc ++ (lawE n xs sc (ss.drop K)).1, (lawE n xs sc (ss.drop K)).2) = (T, f)) ∧ Hid (n + xs.length = K) ∧ 0 ≤ n ∧ Hid (Below P w wr)) (fun _ i _ => M - (intOf i).toNat)
  case atStart => exact ⟨0, _, 0, 0, [], [], _, _, by omega, rfl, rfl, by decide, by decide, HE0, Lib.hid (by rw [List.drop_zero, HV.out]; rfl), Lib.hid (by simp), by decide, HB0⟩
  case round =>
    clear HE0 HB0
    obtain ⟨K, Su, sc, n, xs, acc, vo, vu, hK, rfl, rfl, sc0, sc1, hE, hpl, hnx, hn0, hb⟩ := hrel
    have hal : acc.length ≤ 180 := by
      have h1 := congrArg (fun x => x.1.length) hpl.out
      simp only [List.length_append] at h1
      omega
    have hxl : xs.length ≤ 60 := by have := hnx.out; omega
    have hn1 : n ≤ 60 := by have := hnx.out; omega
    by_cases hKn : K = M
    · have hK' : ¬ K < M := by omega
      have hpl2 := hpl.out
      rw [List.drop_of_length_le (by rw [← HN.out]; omega)] at hpl2
      simp only [lawE] at hpl2
      have C1 := Lib.hid (rest_any P Su wr vo vu acc n xs hE.out (by omega) hn0 (by omega) (by omega))
      have HT := Lib.hid (congrArg Prod.fst hpl2)
      have hf : sc = f := congrArg Prod.snd hpl2
      subst hf
      obtain ⟨wz, rfl⟩ : ∃ wz : World, wz = wr := ⟨_, rfl⟩
      clear hKn hE hpl hpl2 hnx
      go_wp2_with fail
      refine C1.out.mono ?_
      rintro e w8 ⟨rfl, ⟨vo', h8⟩, hb8⟩
      have c8 := h8.bo.cell
      have HO8 := Lib.hid h8.tk
      have HB8 := Lib.hid (hb.out.trans hb8)
      obtain ⟨A9, k9, c9, rfl⟩ : ∃ A k c, vo' = .slice A k c := by obtain ⟨A, c, h, -⟩ := h8.tk.own.form; exact ⟨A, _, c, h⟩
      clear h8 hb8 hb C1
      go_wp2_with fail
      go_ret2
      exact ⟨_, rfl, by have h := HO8.out.low (show P ≤ P + 3 by omega); rw [HT.out] at h; exact h, HB8.out⟩
    have hK' : K < M := by omega
    have hK1 : K < ss.length := by rw [← HN.out]; exact hK'
    have k3 : (0 : Int) ≤ K := by omega
    have k4 : (K : Int) < M := by omega
    obtain ⟨b3, o3, rfl, hb3, hc3⟩ := rd_ints HR.out (by omega)
    have r3 := (hb.out.cell (p := ⟨b3, o3 + K, none⟩) (by show b3 < P; omega)).trans (hc3 K hK1)
    have e : ss.drop K = ss.getD K 0 :: ss.drop (K + 1) := by rw [List.drop_eq_getElem_cons hK1, List.getD_eq_getElem?_getD, List.getElem?_eq_getElem hK1]; rfl
    obtain ⟨s, hs⟩ : ∃ s, ss.getD K 0 = s := ⟨_, rfl⟩
    have hpl1 := hpl.out
    rw [e, hs] at hpl1
    rw [hs] at r3
    have HPL := Lib.hid hpl1
    clear hc3 e hs hpl hpl1 hKn hb3 hK1
    by_cases h1 : s < 2304
    · by_cases h2 : 0 ≤ s
      · have d1 : decide (s ≥ 2304) = false := by simp; omega
        have hnb : isB s = false := by cases h : isB s with | false => rfl | true => rw [isB_iff] at h; omega
        have hsw : ¬ (isB s = true ∧ isC s ≠ sc) := fun h => by rw [hnb] at h; exact absurd h.1 (by simp)
        have hsc : scB s = true := scB_t.2 (by omega)
        have hu : isU s = 8192 + s := by unfold isU; rw [hnb, hsc]; rfl
        have hw1 : wrap64 (8192 + s) = 8192 + s := by unfold wrap64; omega
        have hplN := HPL.out
        rw [lawE_same hsw, hu] at hplN
        have HPN := Lib.hid hplN
        have HNX := Lib.hid (show n + ((xs ++ [(8192 + s)]).length : Int) = ((K + 1 : Nat) : Int) by have := hnx.out; simp; omega)
        obtain ⟨A9, c9, rfl, -, -⟩ := hE.out.units.form
        obtain ⟨k9, hk9⟩ : ∃ k, xs.length = k := ⟨_, rfl⟩
        rw [hk9] at hE
        clear hnb hsw hu hplN hnx hk9 HPL hal
        go_wp2_with fail
        refine (scalarU s wr).mono ?_
        rintro e w5 ⟨rfl, rfl⟩
        rw [hsc]
        clear hsc
        have hbu := hE.out.bu
        have cuu := hbu.cell
        have HUR := Lib.hid hE.out.units
        have HLT := Lib.hid hE.out.lt
        have hle3 := hE.out.le
        clear hbu
        go_wp2_with (at_builtin; refine wpList_appI1 rfl _ _ rfl Su (.slice A9 k9 c9) xs (8192 + s) rfl HUR.out _ rfl rfl (by have := hxl; simp; omega) HLT.out ?_)
        intro v9 w9 HI9 HG9
        have hb9 : Boxed w9 (P + 2) 24 (.slice A9 k9 c9) := hE.out.bu.kept HG9.out (fun e => by have := (HUR.out.lt e.symm).1; omega)
        have hc9 := hb9.cell
        have hf9 := hb9.frozen
        have HEN := Lib.hid (hE.out.push HI9.out HG9.out)
        have HBN := Lib.hid ((below_rowG hb.out HG9.out (fun b e => by have := (HUR.out.lt e).1; omega) (by have := HLT.out; omega)).setCell (p := ⟨P + 2, 0, none⟩) (by show P ≤ P + 2; omega) v9)
        obtain ⟨A12, k12, c12, rfl⟩ : ∃ A k c, v9 = .slice A k c := by obtain ⟨A, c, h, -⟩ := HI9.out.form; exact ⟨A, _, c, h⟩
        clear hb9 HI9 HG9 HUR HLT hE hb cuu
        go_wp2_with fail
        go_roundw
        case rel => exact ⟨K + 1, Su, sc, n, xs ++ [(8192 + s)], acc, _, _, by omega, by go_num, rfl, sc0, sc1, HEN, HPN, HNX, hn0, HBN⟩
        case measure => simp [intOf]; omega
      · have d1 : decide (s ≥ 2304) = false := by simp; omega
        have hnb : isB s = false := by cases h : isB s with | false => rfl | true => rw [isB_iff] at h; omega
        have hsw : ¬ (isB s = true ∧ isC s ≠ sc) := fun h => by rw [hnb] at h; exact absurd h.1 (by simp)
        have hsc : scB s = false := scB_f.2 (by omega)
        have hu : isU s = -1 := by unfold isU; rw [hnb, hsc]; rfl
        obtain ⟨u0, hw1⟩ : ∃ u0, wrap64 (8192 + s) = u0 := ⟨_, rfl⟩
        have hplN := HPL.out
        rw [lawE_same hsw, hu] at hplN
        have HPN := Lib.hid hplN
        have HNX := Lib.hid (show n + ((xs ++ [(-1)]).length : Int) = ((K + 1 : Nat) : Int) by have := hnx.out; simp; omega)
        obtain ⟨A9, c9, rfl, -, -⟩ := hE.out.units.form
        obtain ⟨k9, hk9⟩ : ∃ k, xs.length = k := ⟨_, rfl⟩
        rw [hk9] at hE
        clear hnb hsw hu hplN hnx hk9 HPL hal
        go_wp2_with fail
        refine (scalarU s wr).mono ?_
        rintro e w5 ⟨rfl, rfl⟩
        rw [hsc]
        clear hsc
        have hbu := hE.out.bu
        have cuu := hbu.cell
        have HUR := Lib.hid hE.out.units
        have HLT := Lib.hid hE.out.lt
        have hle3 := hE.out.le
        clear hbu
        go_wp2_with (at_builtin; refine wpList_appI1 rfl _ _ rfl Su (.slice A9 k9 c9) xs (-1) rfl HUR.out _ rfl rfl (by have := hxl; simp; omega) HLT.out ?_)
        intro v9 w9 HI9 HG9
        have hb9 : Boxed w9 (P + 2) 24 (.slice A9 k9 c9) := hE.out.bu.kept HG9.out (fun e => by have := (HUR.out.lt e.symm).1; omega)
        have hc9 := hb9.cell
        have hf9 := hb9.frozen
        have HEN := Lib.hid (hE.out.push HI9.out HG9.out)
        have HBN := Lib.hid ((below_rowG hb.out HG9.out (fun b e => by have := (HUR.out.lt e).1; omega) (by have := HLT.out; omega)).setCell (p := ⟨P + 2, 0, none⟩) (by show P ≤ P + 2; omega) v9)
        obtain ⟨A12, k12, c12, rfl⟩ : ∃ A k c, v9 = .slice A k c := by obtain ⟨A, c, h, -⟩ := HI9.out.form; exact ⟨A, _, c, h⟩
        clear hb9 HI9 HG9 HUR HLT hE hb cuu
        go_wp2_with fail
        go_roundw
        case rel => exact ⟨K + 1, Su, sc, n, xs ++ [(-1)], acc, _, _, by omega, by go_num, rfl, sc0, sc1, HEN, HPN, HNX, hn0, HBN⟩
        case measure => simp [intOf]; omega
    by_cases h2 : 3456 ≤ s
    · by_cases h3 : s < 55296 ∨ 57344 ≤ s ∧ s < 1114112
      · have d1 : decide (s ≥ 2304) = true := by simp; omega
        have d2 : decide (s < 3456) = false := by simp; omega
        have hnb : isB s = false := by cases h : isB s with | false => rfl | true => rw [isB_iff] at h; omega
        have hsw : ¬ (isB s = true ∧ isC s ≠ sc) := fun h => by rw [hnb] at h; exact absurd h.1 (by simp)
        have hsc : scB s = true := scB_t.2 (by omega)
        have hu : isU s = 8192 + s := by unfold isU; rw [hnb, hsc]; rfl
        have hw1 : wrap64 (8192 + s) = 8192 + s := by unfold wrap64; omega
        have hplN := HPL.out
        rw [lawE_same hsw, hu] at hplN
        have HPN := Lib.hid hplN
        have HNX := Lib.hid (show n + ((xs ++ [(8192 + s)]).length : Int) = ((K + 1 : Nat) : Int) by have := hnx.out; simp; omega)
        obtain ⟨A9, c9, rfl, -, -⟩ := hE.out.units.form
        obtain ⟨k9, hk9⟩ : ∃ k, xs.length = k := ⟨_, rfl⟩
        rw [hk9] at hE
        clear hnb hsw hu hplN hnx hk9 HPL hal
        go_wp2_with fail
        refine (scalarU s wr).mono ?_
        rintro e w5 ⟨rfl, rfl⟩
        rw [hsc]
        clear hsc
        have hbu := hE.out.bu
        have cuu := hbu.cell
        have HUR := Lib.hid hE.out.units
        have HLT := Lib.hid hE.out.lt
        have hle3 := hE.out.le
        clear hbu
        go_wp2_with (at_builtin; refine wpList_appI1 rfl _ _ rfl Su (.slice A9 k9 c9) xs (8192 + s) rfl HUR.out _ rfl rfl (by have := hxl; simp; omega) HLT.out ?_)
        intro v9 w9 HI9 HG9
        have hb9 : Boxed w9 (P + 2) 24 (.slice A9 k9 c9) := hE.out.bu.kept HG9.out (fun e => by have := (HUR.out.lt e.symm).1; omega)
        have hc9 := hb9.cell
        have hf9 := hb9.frozen
        have HEN := Lib.hid (hE.out.push HI9.out HG9.out)
        have HBN := Lib.hid ((below_rowG hb.out HG9.out (fun b e => by have := (HUR.out.lt e).1; omega) (by have := HLT.out; omega)).setCell (p := ⟨P + 2, 0, none⟩) (by show P ≤ P + 2; omega) v9)
        obtain ⟨A12, k12, c12, rfl⟩ : ∃ A k c, v9 = .slice A k c := by obtain ⟨A, c, h, -⟩ := HI9.out.form; exact ⟨A, _, c, h⟩
        clear hb9 HI9 HG9 HUR HLT hE hb cuu
        go_wp2_with fail
        go_roundw
        case rel => exact ⟨K + 1, Su, sc, n, xs ++ [(8192 + s)], acc, _, _, by omega, by go_num, rfl, sc0, sc1, HEN, HPN, HNX, hn0, HBN⟩
        case measure => simp [intOf]; omega
      · have d1 : decide (s ≥ 2304) = true := by simp; omega
        have d2 : decide (s < 3456) = false := by simp; omega
        have hnb : isB s = false := by cases h : isB s with | false => rfl | true => rw [isB_iff] at h; omega
        have hsw : ¬ (isB s = true ∧ isC s ≠ sc) := fun h => by rw [hnb] at h; exact absurd h.1 (by simp)
        have hsc : scB s = false := scB_f.2 (by omega)
        have hu : isU s = -1 := by unfold isU; rw [hnb, hsc]; rfl
        obtain ⟨u0, hw1⟩ : ∃ u0, wrap64 (8192 + s) = u0 := ⟨_, rfl⟩
        have hplN := HPL.out
        rw [lawE_same hsw, hu] at hplN
        have HPN := Lib.hid hplN
        have HNX := Lib.hid (show n + ((xs ++ [(-1)]).length : Int) = ((K + 1 : Nat) : Int) by have := hnx.out; simp; omega)
        obtain ⟨A9, c9, rfl, -, -⟩ := hE.out.units.form
        obtain ⟨k9, hk9⟩ : ∃ k, xs.length = k := ⟨_, rfl⟩
        rw [hk9] at hE
        clear hnb hsw hu hplN hnx hk9 HPL hal
        go_wp2_with fail
        refine (scalarU s wr).mono ?_
        rintro e w5 ⟨rfl, rfl⟩
        rw [hsc]
        clear hsc
        have hbu := hE.out.bu
        have cuu := hbu.cell
        have HUR := Lib.hid hE.out.units
        have HLT := Lib.hid hE.out.lt
        have hle3 := hE.out.le
        clear hbu
        go_wp2_with (at_builtin; refine wpList_appI1 rfl _ _ rfl Su (.slice A9 k9 c9) xs (-1) rfl HUR.out _ rfl rfl (by have := hxl; simp; omega) HLT.out ?_)
        intro v9 w9 HI9 HG9
        have hb9 : Boxed w9 (P + 2) 24 (.slice A9 k9 c9) := hE.out.bu.kept HG9.out (fun e => by have := (HUR.out.lt e.symm).1; omega)
        have hc9 := hb9.cell
        have hf9 := hb9.frozen
        have HEN := Lib.hid (hE.out.push HI9.out HG9.out)
        have HBN := Lib.hid ((below_rowG hb.out HG9.out (fun b e => by have := (HUR.out.lt e).1; omega) (by have := HLT.out; omega)).setCell (p := ⟨P + 2, 0, none⟩) (by show P ≤ P + 2; omega) v9)
        obtain ⟨A12, k12, c12, rfl⟩ : ∃ A k c, v9 = .slice A k c := by obtain ⟨A, c, h, -⟩ := HI9.out.form; exact ⟨A, _, c, h⟩
        clear hb9 HI9 HG9 HUR HLT hE hb cuu
        go_wp2_with fail
        go_roundw
        case rel => exact ⟨K + 1, Su, sc, n, xs ++ [(-1)], acc, _, _, by omega, by go_num, rfl, sc0, sc1, HEN, HPN, HNX, hn0, HBN⟩
        case measure => simp [intOf]; omega
    by_cases h3 : s = 2404
    · have d1 : decide (s ≥ 2304) = true := by simp; omega
      have d2 : decide (s < 3456) = true := by simp; omega
      have d3 : (s != 2404) = false := by simp; omega
      have b0 : 2000 ≤ s := by omega
      have b1 : s ≤ 3000 := by omega
      have hnb : isB s = false := by cases h : isB s with | false => rfl | true => rw [isB_iff] at h; omega
      have hsw : ¬ (isB s = true ∧ isC s ≠ sc) := fun h => by rw [hnb] at h; exact absurd h.1 (by simp)
      have hsc : scB s = true := scB_t.2 (by omega)
      have hu : isU s = 8192 + s := by unfold isU; rw [hnb, hsc]; rfl
      have hw1 : wrap64 (8192 + s) = 8192 + s := by unfold wrap64; omega
      have hplN := HPL.out
      rw [lawE_same hsw, hu] at hplN
      have HPN := Lib.hid hplN
      have HNX := Lib.hid (show n + ((xs ++ [(8192 + s)]).length : Int) = ((K + 1 : Nat) : Int) by have := hnx.out; simp; omega)
      obtain ⟨A9, c9, rfl, -, -⟩ := hE.out.units.form
      obtain ⟨k9, hk9⟩ : ∃ k, xs.length = k := ⟨_, rfl⟩
      rw [hk9] at hE
      clear hnb hsw hu hplN hnx hk9 HPL hal h1 h2 h3
      go_wp2_with fail
      refine (scalarU s wr).mono ?_
      rintro e w5 ⟨rfl, rfl⟩
      rw [hsc]
      clear hsc
      have hbu := hE.out.bu
      have cuu := hbu.cell
      have HUR := Lib.hid hE.out.units
      have HLT := Lib.hid hE.out.lt
      have hle3 := hE.out.le
      clear hbu
      go_wp2_with (at_builtin; refine wpList_appI1 rfl _ _ rfl Su (.slice A9 k9 c9) xs (8192 + s) rfl HUR.out _ rfl rfl (by have := hxl; simp; omega) HLT.out ?_)
      intro v9 w9 HI9 HG9
      have hb9 : Boxed w9 (P + 2) 24 (.slice A9 k9 c9) := hE.out.bu.kept HG9.out (fun e => by have := (HUR.out.lt e.symm).1; omega)
      have hc9 := hb9.cell
      have hf9 := hb9.frozen
      have HEN := Lib.hid (hE.out.push HI9.out HG9.out)
      have HBN := Lib.hid ((below_rowG hb.out HG9.out (fun b e => by have := (HUR.out.lt e).1; omega) (by have := HLT.out; omega)).setCell (p := ⟨P + 2, 0, none⟩) (by show P ≤ P + 2; omega) v9)
      obtain ⟨A12, k12, c12, rfl⟩ : ∃ A k c, v9 = .slice A k c := by obtain ⟨A, c, h, -⟩ := HI9.out.form; exact ⟨A, _, c, h⟩
      clear hb9 HI9 HG9 HUR HLT hE hb cuu
      go_wp2_with fail
      go_roundw
      case rel => exact ⟨K + 1, Su, sc, n, xs ++ [(8192 + s)], acc, _, _, by omega, by go_num, rfl, sc0, sc1, HEN, HPN, HNX, hn0, HBN⟩
      case measure => simp [intOf]; omega
    have d1 : decide (s ≥ 2304) = true := by simp; omega
    have d2 : decide (s < 3456) = true := by simp; omega
    have d3 : (s != 2404) = true := by simpa using h3
    have hbb : isB s = true := isB_iff.2 (by omega)
    have hsc : scB s = true := scB_t.2 (by omega)
    have hw1 : wrap64 (8192 + s) = 8192 + s := by unfold wrap64; omega
    obtain ⟨d, hd⟩ : ∃ d : Nat, s % 128 = (d : Int) := ⟨(s % 128).toNat, by omega⟩
    have hdd : isU s = d := by unfold isU; rw [if_pos hbb, hd]
    obtain ⟨cc, hcc⟩ : ∃ cc : Nat, (s - 2304) / 128 = (cc : Int) := ⟨((s - 2304) / 128).toNat, by omega⟩
    have hci : isC s = cc := by unfold isC; exact hcc
    have hc9 : cc < 9 := by omega
    have cc0 : (0 : Int) ≤ cc := by omega
    have cc1 : (cc : Int) < 9 := by omega
    by_cases hsame : (cc : Int) = sc
    · have d4 : ((cc : Int) != sc) = false := by simpa using hsame
      have hsw : ¬ (isB s = true ∧ isC s ≠ sc) := fun h => h.2 (by rw [hci]; exact hsame)
      have hplN := HPL.out
      rw [lawE_same hsw, hdd] at hplN
      have HPN := Lib.hid hplN
      have HNX := Lib.hid (show n + ((xs ++ [(d : Int)]).length : Int) = ((K + 1 : Nat) : Int) by have := hnx.out; simp; omega)
      obtain ⟨A9, c9, rfl, -, -⟩ := hE.out.units.form
      obtain ⟨k9, hk9⟩ : ∃ k, xs.length = k := ⟨_, rfl⟩
      rw [hk9] at hE
      clear hsw hplN hnx hk9 HPL hal hbb hdd hci hsame
      go_wp2_with fail
      refine (scalarU s wr).mono ?_
      rintro e w5 ⟨rfl, rfl⟩
      rw [hsc]
      clear hsc
      have hbu := hE.out.bu
      have cuu := hbu.cell
      have HUR := Lib.hid hE.out.units
      have HLT := Lib.hid hE.out.lt
      have hle3 := hE.out.le
      clear hbu
      go_wp2_with (at_builtin; refine wpList_appI1 rfl _ _ rfl Su (.slice A9 k9 c9) xs (d : Int) rfl HUR.out _ rfl rfl (by have := hxl; simp; omega) HLT.out ?_)
      intro v9 w9 HI9 HG9
      have hb9 : Boxed w9 (P + 2) 24 (.slice A9 k9 c9) := hE.out.bu.kept HG9.out (fun e => by have := (HUR.out.lt e.symm).1; omega)
      have hc9 := hb9.cell
      have hf9 := hb9.frozen
      have HEN := Lib.hid (hE.out.push HI9.out HG9.out)
      have HBN := Lib.hid ((below_rowG hb.out HG9.out (fun b e => by have := (HUR.out.lt e).1; omega) (by have := HLT.out; omega)).setCell (p := ⟨P + 2, 0, none⟩) (by show P ≤ P + 2; omega) v9)
      obtain ⟨A12, k12, c12, rfl⟩ : ∃ A k c, v9 = .slice A k c := by obtain ⟨A, c, h, -⟩ := HI9.out.form; exact ⟨A, _, c, h⟩
      clear hb9 HI9 HG9 HUR HLT hE hb cuu
      go_wp2_with fail
      go_roundw
      case rel => exact ⟨K + 1, Su, sc, n, xs ++ [(d : Int)], acc, _, _, by omega, by go_num, rfl, sc0, sc1, HEN, HPN, HNX, hn0, HBN⟩
      case measure => simp [intOf]; omega
    · have d4 : ((cc : Int) != sc) = true := by simpa using hsame
      have hsw : isB s = true ∧ isC s ≠ sc := ⟨hbb, by rw [hci]; exact hsame⟩
      have hplN := HPL.out
      simp only [lawE, if_pos hsw] at hplN
      rw [hdd, hci] at hplN
      obtain ⟨n8, hn8⟩ : ∃ n8, n + (xs.length : Int) = n8 := ⟨_, rfl⟩
      have hn8K : n8 = K := by rw [← hn8]; exact hnx.out
      rw [hn8] at hplN
      have hplM : ((((acc ++ (encA inR xs).map (shK n)) ++ [⟨(K : Int), 0, [239, cdC cc], 0⟩])) ++ (lawE n8 ([] ++ [(d : Int)]) cc (ss.drop (K + 1))).1, (lawE n8 ([] ++ [(d : Int)]) cc (ss.drop (K + 1))).2) = (T, f) := by
        rw [← hplN, hn8K]
        simp [swT]
      have HPN0 := Lib.hid hplM
      have HNX := Lib.hid (show n8 + (([] ++ [(d : Int)] : List Int).length : Int) = ((K + 1 : Nat) : Int) by simp; omega)
      have C1 := Lib.hid (rest_any P Su wr vo vu acc n xs hE.out (by omega) hn0 (by omega) (by omega))
      rw [hn8] at C1
      have hn80 : 0 ≤ n8 := by omega
      have hacl : (acc ++ (encA inR xs).map (shK n)).length ≤ 400 := by
        rw [List.length_append, List.length_map]
        have := inT_good.rew_len xs 0
        unfold encA
        rw [encF_len]
        omega
      have HA8 := Lib.hid hacl
      clear hsw hplN hplM hnx HPL hal hbb hdd hci hsame hn8 hE hacl hxl hn8K
      go_wp2_with fail
      refine (scalarU s wr).mono ?_
      rintro e w5 ⟨rfl, rfl⟩
      rw [hsc]
      clear hsc
      go_wp2_with fail
      refine C1.out.mono ?_
      rintro e w8 ⟨rfl, ⟨vo8, h8⟩, hb8⟩
      obtain ⟨acc8, hacc8⟩ : ∃ a, acc ++ (encA inR xs).map (shK n) = a := ⟨_, rfl⟩
      rw [hacc8] at h8 HPN0 HA8
      have HPN := HPN0
      have H8 := Lib.hid h8
      have HB8 := Lib.hid (hb.out.trans hb8)
      have h83 := h8.le
      obtain ⟨A10, k10, c10, rfl⟩ : ∃ A k c, vo8 = .slice A k c := by obtain ⟨A, c, h, -⟩ := h8.tk.own.form; exact ⟨A, _, c, h⟩
      have cb8 : w8.drew.cell? ⟨P, 0, none⟩ = some (.slice A10 k10 c10) := h8.bo.cell
      clear h8 hb8 hb C1 hacc8 HPN0
      go_wp2_with fail
      -- the worlds behind
      obtain ⟨x, hx⟩ : ∃ x, cdC cc = x := ⟨_, rfl⟩
      rw [hx] at HPN
      have ct := (Held.new w8.drew cdTab 3).cell cc
      rw [show cdTab[cc]? = some (.int .i64 (inCd.getD cc 0)) from tab_intsE inCd cc hc9, show inCd.getD cc 0 = x from hx] at ct
      have hd8 : Below w8.heap.size w8 w8.drew := (Below.refl _ w8).drew
      have hbc := below_allocI' w8.drew (.cells cdTab 3)
      obtain ⟨W1, hW1⟩ : ∃ W, w8.drew.alloc (.cells cdTab 3) = W := ⟨_, rfl⟩
      obtain ⟨Q1, hQ1⟩ : ∃ Q, w8.drew.heap.size = Q := ⟨_, rfl⟩
      have hb81 : Below w8.heap.size w8 W1 := by rw [← hW1]; exact hd8.trans hbc
      rw [hW1] at ct hbc
      rw [hQ1] at ct hbc
      have hbl := below_allocI' W1 (.cells #[.int .i64 239, .int .i64 x] 3)
      obtain ⟨W2, hW2⟩ : ∃ W, W1.alloc (.cells #[.int .i64 239, .int .i64 x] 3) = W := ⟨_, rfl⟩
      obtain ⟨Q2, hQ2⟩ : ∃ Q, W1.heap.size = Q := ⟨_, rfl⟩
      have hu2 : Us (fun b => b = Q2) W2 (.slice (some ⟨Q2, 0, none⟩) 2 2) [239, x] := by rw [← hW2]; exact us_newL W1 Q2 hQ2 [239, x] _ rfl 2 rfl (by decide)
      rw [hW2] at hbl
      have hb82 : Below w8.heap.size w8 W2 := hb81.trans (hbl.mono (by have := hb81.size; omega))
      have hq28 : w8.heap.size ≤ Q2 := by rw [← hQ2]; exact hb81.size
      have HO2 := Lib.hid (show OwnTkB (P + 3) W2 (.slice A10 k10 c10) acc8 from H8.out.tk.below hb82 (Nat.le_refl _))
      have HU2 := Lib.hid (show Us (fun b => (Value.slice A10 k10 c10).ownBlock ≠ some b ∧ P + 3 ≤ b) W2 (.slice (some ⟨Q2, 0, none⟩) 2 2) [239, x] from hu2.step (Nat.le_refl _) fun b _ hx => ⟨⟨fun e => by have h1 := (own_ltT H8.out.tk e).2; have h2 : b = Q2 := hx; omega, by have h2 : b = Q2 := hx; omega⟩, rfl⟩)
      have HP2 := Lib.hid (show P + 3 ≤ W2.heap.size by have := hb82.size; omega)
      have gk := Lib.hid (show w8.grownBy W2 (Value.slice A10 k10 c10).ownBlock from ⟨hb82.os, hb82.tape, hb82.output, hb82.size, fun k hk _ => hb82.block k hk⟩)
      have HBW2 := Lib.hid (HB8.out.trans (hb82.mono (by omega)))
      have HBT := Lib.hid (below_allocI' W2 (.cells #[.int .i64 (K : Int), .int .i64 0, .slice (some ⟨Q2, 0, none⟩) 2 2, .int .i64 0] 44))
      have HBC := Lib.hid hbc
      have HBL := Lib.hid hbl
      have HW1 := Lib.hid hW1
      have HW2 := Lib.hid hW2
      have HQ1 := Lib.hid hQ1
      have HQ2 := Lib.hid hQ2
      have HC1 := Lib.hid (show W1.heap[Q1]? = some (.cells cdTab 3 (0, 0)) by rw [← hW1, ← hQ1]; exact heap_alloc_new w8.drew _)
      clear hd8 hbc hb81 hbl hu2 hb82 hW1 hW2 hQ1 hQ2 hx
      have hb1 := H8.out.bo
      have cP1 : W1.cell? ⟨P, 0, none⟩ = some (.slice A10 k10 c10) := by rw [← HW1.out]; exact Boxed.cell (Boxed.alloc (W := w8.drew) hb1 _)
      have cP2 : W2.cell? ⟨P, 0, none⟩ = some (.slice A10 k10 c10) := (H8.out.bo.kept gk.out (fun e => by have := (own_ltT H8.out.tk e.symm).1; omega)).cell
      have cP3 := ((H8.out.bo.kept gk.out (fun e => by have := (own_ltT H8.out.tk e.symm).1; omega)).alloc (.cells #[.int .i64 (K : Int), .int .i64 0, .slice (some ⟨Q2, 0, none⟩) 2 2, .int .i64 0] 44)).cell
      clear hb1
      refine wp_region_fork (G := IntKeep) (.soft 1 (.soft 3 (.two 0 2 (.one 2 (.soft 4 (.soft 5 (.one 6 (.soft 7 (.one 8 (.one 9 (.one 10 .done)))))))) (.soft 4 (.soft 5 (.two 0 6 (.one 6 (.soft 7 (.one 8 (.one 9 (.one 10 .done))))) (.soft 7 (.two 0 8 (.one 8 (.one 9 (.one 10 .done))) (.one 0 (.one 9 (.one 10 .done)))))))))))
        IntKeep.refl IntKeep.trans (by kernel_rfl) rfl (by kernel_rfl) (by kernel_rfl) ?_
      iterate 2 (refine fork_soft rfl rfl ?_; go_big_quiet_step ((intro _; rfl)); refine wpQuiet_nil ?_)
      refine fork_two rfl rfl ?_ ?_
      · go_wp2_with fail
        refine ⟨IntKeep.refl _, ?_⟩
        refine fork_one rfl ?_
        go_wp2_with fail
        refine (lcodes_any w8.drew).mono ?_
        rintro e w5 ⟨rfl, rfl⟩
        rw [HW1.out, HQ1.out]
        go_wp2_with fail
        refine ⟨IntKeep.of (by rw [HQ1.out]; exact HBC.out), ?_⟩
        refine fork_soft rfl rfl ?_
        go_big_quiet_step ((intro _; rfl))
        refine wpQuiet_nil ?_
        refine fork_soft rfl rfl ?_
        go_big_quiet_step ((intro hh; rw [cell_of_row _ _ _ _ _ _ (hh Q1 cdTab HC1.out), ← cell_of_row W1 Q1 cc _ _ _ HC1.out, ct]; exact ⟨rfl, rfl⟩))
        refine wpQuiet_nil ?_
        refine fork_one rfl ?_
        go_wp2_with fail
        rw [HW2.out, HQ2.out]
        refine ⟨IntKeep.of HBL.out, ?_⟩
        refine fork_soft rfl rfl ?_
        go_big_quiet_step ((intro _; rfl))
        refine wpQuiet_nil ?_
        refine fork_one rfl ?_
        go_wp2_with fail
        refine ⟨IntKeep.of HBT.out, ?_⟩
        refine fork_one rfl ?_
        go_wp2_with (at_builtin; refine wpList_appT1 rfl _ _ rfl (P + 3) (.slice A10 k10 c10) acc8 (K : Int) 0 0 (.slice (some ⟨Q2, 0, none⟩) 2 2) [239, x] rfl HO2.out HU2.out _ rfl rfl (by have := HA8.out; omega) HP2.out ?_)
        intro v9 w9 HO9 HG9 HV9
        have hg9 := HG9.out
        have HB9 := Lib.hid (H8.out.bo.kept (gk.out.trans hg9) (fun e => by have := (own_ltT H8.out.tk e.symm).1; omega))
        have cb9 := HB9.out.cell
        have fb9 := HB9.out.frozen
        have HE9 := Lib.hid (H8.out.app HO9.out (gk.out.trans hg9))
        have HK9 := Lib.hid (IntKeep.appA (cells := #[.int .i64 (K : Int), .int .i64 0, .slice (some ⟨Q2, 0, none⟩) 2 2, .int .i64 0]) HO2.out hg9)
        have HBB9 := Lib.hid ((below_rowG HBW2.out hg9 (fun b e => by have := (own_ltT HO2.out e).1; omega) (by have := HP2.out; omega)).setCell (p := ⟨P, 0, none⟩) (Nat.le_refl P) v9)
        obtain ⟨A11, k11, c11, rfl⟩ : ∃ A k c, v9 = .slice A k c := by obtain ⟨A, c, h, -⟩ := HO9.out.own.form; exact ⟨A, _, c, h⟩
        clear hg9 HO9 HG9 HV9
        go_wp2_with fail
        refine ⟨HK9.out, ?_⟩
        refine fork_one rfl ?_
        go_wp2_with fail
        refine ⟨IntKeep.set HB9.out, ?_⟩
        clear HK9 HB9 cb9 fb9
        refine fork_done (NoPanic.normal ?_)
        obtain ⟨w10, hw10⟩ : ∃ W, w9.setCell ⟨P, 0, none⟩ (.slice A11 k11 c11) = W := ⟨_, rfl⟩
        rw [hw10] at HE9 HBB9 ⊢
        obtain ⟨Su2, hSu2⟩ : ∃ S, w10.heap.size = S := ⟨_, rfl⟩
        rw [hSu2] at HE9
        clear hw10 w9 hSu2
        have hxl : ([] : List Int).length ≤ 60 := by simp
        have hbu := HE9.out.bu
        have cuu := hbu.cell
        have HUR := Lib.hid HE9.out.units
        have HLT := Lib.hid HE9.out.lt
        have hle3 := HE9.out.le
        clear hbu
        go_wp2_with (at_builtin; refine wpList_appI1 rfl _ _ rfl Su2 (.slice none 0 0) [] (d : Int) rfl HUR.out _ rfl rfl (by simp) HLT.out ?_)
        intro v9 w9 HI9 HG9
        have hb9 : Boxed w9 (P + 2) 24 (.slice none 0 0) := HE9.out.bu.kept HG9.out (fun e => by have := (HUR.out.lt e.symm).1; omega)
        have hc9 := hb9.cell
        have hf9 := hb9.frozen
        have HEN := Lib.hid (HE9.out.push HI9.out HG9.out)
        have HBN := Lib.hid ((below_rowG HBB9.out HG9.out (fun b e => by have := (HUR.out.lt e).1; omega) (by have := HLT.out; omega)).setCell (p := ⟨P + 2, 0, none⟩) (by show P ≤ P + 2; omega) v9)
        obtain ⟨A12, k12, c12, rfl⟩ : ∃ A k c, v9 = .slice A k c := by obtain ⟨A, c, h, -⟩ := HI9.out.form; exact ⟨A, _, c, h⟩
        clear hb9 HI9 HG9 HUR HLT HE9 HBB9 cuu
        go_wp2_with fail
        go_roundw
        case rel => exact ⟨K + 1, Su2, cc, n8, [] ++ [(d : Int)], _, _, _, by omega, by go_num, rfl, by omega, by omega, HEN, HPN, HNX, by omega, HBN⟩
        case measure => simp [intOf]; omega
      · go_wp2_with fail
        refine (lcodes_any w8.drew).mono ?_
        rintro e w5 ⟨rfl, rfl⟩
        rw [HW1.out, HQ1.out]
        go_wp2_with fail
        refine ⟨IntKeep.of (by rw [HQ1.out]; exact HBC.out), ?_⟩
        refine fork_soft rfl rfl ?_
        go_big_quiet_step ((intro _; rfl))
        refine wpQuiet_nil ?_
        refine fork_soft rfl rfl ?_
        go_big_quiet_step ((intro hh; rw [cell_of_row _ _ _ _ _ _ (hh Q1 cdTab HC1.out), ← cell_of_row W1 Q1 cc _ _ _ HC1.out, ct]; exact ⟨rfl, rfl⟩))
        refine wpQuiet_nil ?_
        refine fork_two rfl rfl ?_ ?_
        · go_wp2_with fail
          refine ⟨IntKeep.refl _, ?_⟩
          refine fork_one rfl ?_
          go_wp2_with fail
          rw [HW2.out, HQ2.out]
          refine ⟨IntKeep.of HBL.out, ?_⟩
          refine fork_soft rfl rfl ?_
          go_big_quiet_step ((intro _; rfl))
          refine wpQuiet_nil ?_
          refine fork_one rfl ?_
          go_wp2_with fail
          refine ⟨IntKeep.of HBT.out, ?_⟩
          refine fork_one rfl ?_
          go_wp2_with (at_builtin; refine wpList_appT1 rfl _ _ rfl (P + 3) (.slice A10 k10 c10) acc8 (K : Int) 0 0 (.slice (some ⟨Q2, 0, none⟩) 2 2) [239, x] rfl HO2.out HU2.out _ rfl rfl (by have := HA8.out; omega) HP2.out ?_)
          intro v9 w9 HO9 HG9 HV9
          have hg9 := HG9.out
          have HB9 := Lib.hid (H8.out.bo.kept (gk.out.trans hg9) (fun e => by have := (own_ltT H8.out.tk e.symm).1; omega))
          have cb9 := HB9.out.cell
          have fb9 := HB9.out.frozen
          have HE9 := Lib.hid (H8.out.app HO9.out (gk.out.trans hg9))
          have HK9 := Lib.hid (IntKeep.appA (cells := #[.int .i64 (K : Int), .int .i64 0, .slice (some ⟨Q2, 0, none⟩) 2 2, .int .i64 0]) HO2.out hg9)
          have HBB9 := Lib.hid ((below_rowG HBW2.out hg9 (fun b e => by have := (own_ltT HO2.out e).1; omega) (by have := HP2.out; omega)).setCell (p := ⟨P, 0, none⟩) (Nat.le_refl P) v9)
          obtain ⟨A11, k11, c11, rfl⟩ : ∃ A k c, v9 = .slice A k c := by obtain ⟨A, c, h, -⟩ := HO9.out.own.form; exact ⟨A, _, c, h⟩
          clear hg9 HO9 HG9 HV9
          go_wp2_with fail
          refine ⟨HK9.out, ?_⟩
          refine fork_one rfl ?_
          go_wp2_with fail
          refine ⟨IntKeep.set HB9.out, ?_⟩
          clear HK9 HB9 cb9 fb9
          refine fork_done (NoPanic.normal ?_)
          obtain ⟨w10, hw10⟩ : ∃ W, w9.setCell ⟨P, 0, none⟩ (.slice A11 k11 c11) = W := ⟨_, rfl⟩
          rw [hw10] at HE9 HBB9 ⊢
          obtain ⟨Su2, hSu2⟩ : ∃ S, w10.heap.size = S := ⟨_, rfl⟩
          rw [hSu2] at HE9
          clear hw10 w9 hSu2
          have hxl : ([] : List Int).length ≤ 60 := by simp
          have hbu := HE9.out.bu
          have cuu := hbu.cell
          have HUR := Lib.hid HE9.out.units
          have HLT := Lib.hid HE9.out.lt
          have hle3 := HE9.out.le
          clear hbu
          go_wp2_with (at_builtin; refine wpList_appI1 rfl _ _ rfl Su2 (.slice none 0 0) [] (d : Int) rfl HUR.out _ rfl rfl (by simp) HLT.out ?_)
          intro v9 w9 HI9 HG9
          have hb9 : Boxed w9 (P + 2) 24 (.slice none 0 0) := HE9.out.bu.kept HG9.out (fun e => by have := (HUR.out.lt e.symm).1; omega)
          have hc9 := hb9.cell
          have hf9 := hb9.frozen
          have HEN := Lib.hid (HE9.out.push HI9.out HG9.out)
          have HBN := Lib.hid ((below_rowG HBB9.out HG9.out (fun b e => by have := (HUR.out.lt e).1; omega) (by have := HLT.out; omega)).setCell (p := ⟨P + 2, 0, none⟩) (by show P ≤ P + 2; omega) v9)
          obtain ⟨A12, k12, c12, rfl⟩ : ∃ A k c, v9 = .slice A k c := by obtain ⟨A, c, h, -⟩ := HI9.out.form; exact ⟨A, _, c, h⟩
          clear hb9 HI9 HG9 HUR HLT HE9 HBB9 cuu
          go_wp2_with fail
          go_roundw
          case rel => exact ⟨K + 1, Su2, cc, n8, [] ++ [(d : Int)], _, _, _, by omega, by go_num, rfl, by omega, by omega, HEN, HPN, HNX, by omega, HBN⟩
          case measure => simp [intOf]; omega
        · go_wp2_with fail
          rw [HW2.out, HQ2.out]
          refine ⟨IntKeep.of HBL.out, ?_⟩
          refine fork_soft rfl rfl ?_
          go_big_quiet_step ((intro _; rfl))
          refine wpQuiet_nil ?_
          refine fork_two rfl rfl ?_ ?_
          · go_wp2_with fail
            refine ⟨IntKeep.refl _, ?_⟩
            refine fork_one rfl ?_
            go_wp2_with fail
            refine ⟨IntKeep.of HBT.out, ?_⟩
            refine fork_one rfl ?_
            go_wp2_with (at_builtin; refine wpList_appT1 rfl _ _ rfl (P + 3) (.slice A10 k10 c10) acc8 (K : Int) 0 0 (.slice (some ⟨Q2, 0, none⟩) 2 2) [239, x] rfl HO2.out HU2.out _ rfl rfl (by have := HA8.out; omega) HP2.out ?_)
            intro v9 w9 HO9 HG9 HV9
            have hg9 := HG9.out
            have HB9 := Lib.hid (H8.out.bo.kept (gk.out.trans hg9) (fun e => by have := (own_ltT H8.out.tk e.symm).1; omega))
            have cb9 := HB9.out.cell
            have fb9 := HB9.out.frozen
            have HE9 := Lib.hid (H8.out.app HO9.out (gk.out.trans hg9))
            have HK9 := Lib.hid (IntKeep.appA (cells := #[.int .i64 (K : Int), .int .i64 0, .slice (some ⟨Q2, 0, none⟩) 2 2, .int .i64 0]) HO2.out hg9)
            have HBB9 := Lib.hid ((below_rowG HBW2.out hg9 (fun b e => by have := (own_ltT HO2.out e).1; omega) (by have := HP2.out; omega)).setCell (p := ⟨P, 0, none⟩) (Nat.le_refl P) v9)
            obtain ⟨A11, k11, c11, rfl⟩ : ∃ A k c, v9 = .slice A k c := by obtain ⟨A, c, h, -⟩ := HO9.out.own.form; exact ⟨A, _, c, h⟩
            clear hg9 HO9 HG9 HV9
            go_wp2_with fail
            refine ⟨HK9.out, ?_⟩
            refine fork_one rfl ?_
            go_wp2_with fail
            refine ⟨IntKeep.set HB9.out, ?_⟩
            clear HK9 HB9 cb9 fb9
            refine fork_done (NoPanic.normal ?_)
            obtain ⟨w10, hw10⟩ : ∃ W, w9.setCell ⟨P, 0, none⟩ (.slice A11 k11 c11) = W := ⟨_, rfl⟩
            rw [hw10] at HE9 HBB9 ⊢
            obtain ⟨Su2, hSu2⟩ : ∃ S, w10.heap.size = S := ⟨_, rfl⟩
            rw [hSu2] at HE9
            clear hw10 w9 hSu2
            have hxl : ([] : List Int).length ≤ 60 := by simp
            have hbu := HE9.out.bu
            have cuu := hbu.cell
            have HUR := Lib.hid HE9.out.units
            have HLT := Lib.hid HE9.out.lt
            have hle3 := HE9.out.le
            clear hbu
            go_wp2_with (at_builtin; refine wpList_appI1 rfl _ _ rfl Su2 (.slice none 0 0) [] (d : Int) rfl HUR.out _ rfl rfl (by simp) HLT.out ?_)
            intro v9 w9 HI9 HG9
            have hb9 : Boxed w9 (P + 2) 24 (.slice none 0 0) := HE9.out.bu.kept HG9.out (fun e => by have := (HUR.out.lt e.symm).1; omega)
            have hc9 := hb9.cell
            have hf9 := hb9.frozen
            have HEN := Lib.hid (HE9.out.push HI9.out HG9.out)
            have HBN := Lib.hid ((below_rowG HBB9.out HG9.out (fun b e => by have := (HUR.out.lt e).1; omega) (by have := HLT.out; omega)).setCell (p := ⟨P + 2, 0, none⟩) (by show P ≤ P + 2; omega) v9)
            obtain ⟨A12, k12, c12, rfl⟩ : ∃ A k c, v9 = .slice A k c := by obtain ⟨A, c, h, -⟩ := HI9.out.form; exact ⟨A, _, c, h⟩
            clear hb9 HI9 HG9 HUR HLT HE9 HBB9 cuu
            go_wp2_with fail
            go_roundw
            case rel => exact ⟨K + 1, Su2, cc, n8, [] ++ [(d : Int)], _, _, _, by omega, by go_num, rfl, by omega, by omega, HEN, HPN, HNX, by omega, HBN⟩
            case measure => simp [intOf]; omega
          · go_wp2_with fail
            refine ⟨IntKeep.of HBT.out, ?_⟩
            refine fork_one rfl ?_
            go_wp2_with fail
            refine ⟨IntKeep.refl _, ?_⟩
            refine fork_one rfl ?_
            go_wp2_with (at_builtin; refine wpList_appT1 rfl _ _ rfl (P + 3) (.slice A10 k10 c10) acc8 (K : Int) 0 0 (.slice (some ⟨Q2, 0, none⟩) 2 2) [239, x] rfl HO2.out HU2.out _ rfl rfl (by have := HA8.out; omega) HP2.out ?_)
            intro v9 w9 HO9 HG9 HV9
            have hg9 := HG9.out
            have HB9 := Lib.hid (H8.out.bo.kept (gk.out.trans hg9) (fun e => by have := (own_ltT H8.out.tk e.symm).1; omega))
            have cb9 := HB9.out.cell
            have fb9 := HB9.out.frozen
            have HE9 := Lib.hid (H8.out.app HO9.out (gk.out.trans hg9))
            have HK9 := Lib.hid (IntKeep.appA (cells := #[.int .i64 (K : Int), .int .i64 0, .slice (some ⟨Q2, 0, none⟩) 2 2, .int .i64 0]) HO2.out hg9)
            have HBB9 := Lib.hid ((below_rowG HBW2.out hg9 (fun b e => by have := (own_ltT HO2.out e).1; omega) (by have := HP2.out; omega)).setCell (p := ⟨P, 0, none⟩) (Nat.le_refl P) v9)
            obtain ⟨A11, k11, c11, rfl⟩ : ∃ A k c, v9 = .slice A k c := by obtain ⟨A, c, h, -⟩ := HO9.out.own.form; exact ⟨A, _, c, h⟩
            clear hg9 HO9 HG9 HV9
            go_wp2_with fail
            refine ⟨HK9.out, ?_⟩
            refine fork_one rfl ?_
            go_wp2_with fail
            refine ⟨IntKeep.set HB9.out, ?_⟩
            clear HK9 HB9 cb9 fb9
            refine fork_done (NoPanic.normal ?_)
            obtain ⟨w10, hw10⟩ : ∃ W, w9.setCell ⟨P, 0, none⟩ (.slice A11 k11 c11) = W := ⟨_, rfl⟩
            rw [hw10] at HE9 HBB9 ⊢
            obtain ⟨Su2, hSu2⟩ : ∃ S, w10.heap.size = S := ⟨_, rfl⟩
            rw [hSu2] at HE9
            clear hw10 w9 hSu2
            have hxl : ([] : List Int).length ≤ 60 := by simp
            have hbu := HE9.out.bu
            have cuu := hbu.cell
            have HUR := Lib.hid HE9.out.units
            have HLT := Lib.hid HE9.out.lt
            have hle3 := HE9.out.le
            clear hbu
            go_wp2_with (at_builtin; refine wpList_appI1 rfl _ _ rfl Su2 (.slice none 0 0) [] (d : Int) rfl HUR.out _ rfl rfl (by simp) HLT.out ?_)
            intro v9 w9 HI9 HG9
            have hb9 : Boxed w9 (P + 2) 24 (.slice none 0 0) := HE9.out.bu.kept HG9.out (fun e => by have := (HUR.out.lt e.symm).1; omega)
            have hc9 := hb9.cell
            have hf9 := hb9.frozen
            have HEN := Lib.hid (HE9.out.push HI9.out HG9.out)
            have HBN := Lib.hid ((below_rowG HBB9.out HG9.out (fun b e => by have := (HUR.out.lt e).1; omega) (by have := HLT.out; omega)).setCell (p := ⟨P + 2, 0, none⟩) (by show P ≤ P + 2; omega) v9)
            obtain ⟨A12, k12, c12, rfl⟩ : ∃ A k c, v9 = .slice A k c := by obtain ⟨A, c, h, -⟩ := HI9.out.form; exact ⟨A, _, c, h⟩
            clear hb9 HI9 HG9 HUR HLT HE9 HBB9 cuu
            go_wp2_with fail
            go_roundw
            case rel => exact ⟨K + 1, Su2, cc, n8, [] ++ [(d : Int)], _, _, _, by omega, by go_num, rfl, by omega, by omega, HEN, HPN, HNX, by omega, HBN⟩
            case measure => simp [intOf]; omega
end Go.Proofs.YtdkcadckbjncjaaDoor
namespace Go.Proofs.YtdkcadckbjncjaaDoor
set_option linter.unusedVariables false
set_option linter.unusedSimpArgs false
set_option linter.unnecessarySimpa false
open Go.RowKit
theorem ownTkB_setOut {base g n c : Nat} {w : World} {ts : List Tk} (h : OwnTkB base w (.slice (some ⟨g, 0, none⟩) n c) ts) {k : Nat} {t : Tk} (hk : ts[k]? = some t) {o : Value} {u : List Int} (hu : Us (fun b => (Value.slice (some ⟨g, 0, none⟩) n c).ownBlock ≠ some b ∧ base ≤ b) w o u) :
    OwnTkB base (w.setCell ⟨g, k * 4 + 2, none⟩ o) (.slice (some ⟨g, 0, none⟩) n c) (ts.set k ⟨t.pos, t.size, u, t.err⟩) ∧ base ≤ g := by
  obtain ⟨xs, ho, hx⟩ := h
  obtain ⟨A', c', e, h1, h2⟩ := own_form ho
  injection e with e1 e2 e3
  subst e2
  have hs := ho.stored (k * 4 + 2) o
  have hst : ∀ b, b < w.heap.size → ((Value.slice (some ⟨g, 0, none⟩) ts.length c).ownBlock ≠ some b ∧ base ≤ b) → ((Value.slice (some ⟨g, 0, none⟩) ts.length c).ownBlock ≠ some b ∧ base ≤ b) ∧ (w.setCell ⟨g, k * 4 + 2, none⟩ o).heap[b]? = w.heap[b]? := fun b hb hx => ⟨hx, Below.heap_setCell _ _ _ _ (fun e => hx.1 (by show some g = some b; rw [e]))⟩
  have hz : w.heap.size ≤ (w.setCell ⟨g, k * 4 + 2, none⟩ o).heap.size := by rw [World.size_setCell]; exact Nat.le_refl _
  exact ⟨⟨_, by rw [List.length_set]; exact hs.1, Tks.setOut (hu.step hz hst) k t hk (hx.step hz hst)⟩, (ho.lt g rfl).1⟩
/-- the tokens, the first K of them with what they mean, the script being s at first -/
def mixS (s : Int) (ts : List Tk) (K : Nat) : List Tk := (meanT s (ts.take K)).1 ++ ts.drop K
theorem mixS_zero (s : Int) (ts : List Tk) : mixS s ts 0 = ts := by simp [mixS, meanT]
theorem mixS_len (s : Int) (ts : List Tk) (K : Nat) : (mixS s ts K).length = ts.length := by
  unfold mixS; rw [List.length_append, meanT_len, List.length_take, List.length_drop]; omega
theorem mixS_all {s : Int} {ts : List Tk} {K : Nat} (h : ts.length ≤ K) : mixS s ts K = (meanT s ts).1 := by
  unfold mixS; rw [List.take_of_length_le h, List.drop_of_length_le h, List.append_nil]
theorem mixS_at {s : Int} {ts : List Tk} {K : Nat} (h : K < ts.length) : (mixS s ts K)[K]? = some ts[K] := by
  have hl : (meanT s (ts.take K)).1.length = K := by rw [meanT_len, List.length_take]; omega
  unfold mixS
  rw [List.getElem?_append_right (by omega), hl, Nat.sub_self, List.getElem?_drop, Nat.add_zero, List.getElem?_eq_getElem h]
theorem mixS_next {s : Int} {ts : List Tk} {K : Nat} (h : K < ts.length) : mixS s ts (K + 1) = (mixS s ts K).set K ⟨ts[K].pos, ts[K].size, (meanU (meanT s (ts.take K)).2 ts[K].out).1, ts[K].err⟩ := by
  have hl : (meanT s (ts.take K)).1.length = K := by rw [meanT_len, List.length_take]; omega
  unfold mixS
  rw [meanT_take h, List.drop_eq_getElem_cons h, List.set_append_right (i := K) (h := by omega), hl, Nat.sub_self, List.set_cons_zero]
  simp
theorem Held.set1 {W : World} {B : Nat} {x y : Value} {t : TypeId} (h : Held W B #[x, y] t) (b : Value) : Held (W.setCell ⟨B, 1, none⟩ b) B #[x, b] t := by
  have := heap_setCell_same W B 1 #[x, y] t b h
  show _ = _
  simpa using this
theorem Gr.toGrown {p : Nat} {w w' : World} (h : Gr p none w w') : w.grownBy w' (some p) :=
  ⟨h.os, h.tape, h.output, h.size, fun k hk hne => h.block k hk (fun e => hne (by rw [e])) (by simp)⟩
set_option maxRecDepth 100000 in
set_option maxHeartbeats 6400000 in
theorem scalars_anyD (p : Nat) (iv : Value) (sc : Int) (A : Option Addr) (n c : Nat) (us : List Int) (w : World) (hp : Held w p #[iv, .int .i64 sc] 53) (h0 : 0 ≤ sc ∧ sc ≤ 8) (hu : Us (fun b => b ≠ p) w (.slice A n c) us) (hn : us.length = n) (hn8 : n ≤ 8) (hok : ∀ u ∈ us, unitOk u = true) (ms : List Int) (fs : Int) (hv : meanU sc us = (ms, fs)) :
    Calls Tryd.prog 42 #[.pointer (some ⟨p, 0, none⟩), .slice A n c] w fun e w' => ∃ v, e = .returned v ∧ IR w' w.heap.size v ms ∧ Held w' p #[iv, .int .i64 fs] 53 ∧ Gr p none w w' := by
  obtain ⟨sc00, sc01⟩ := h0
  obtain ⟨A', c', e, g1, g2, g3⟩ := hu
  obtain ⟨rfl, rfl⟩ : A = A' ∧ c = c' := by injection e with a b c; exact ⟨a, c⟩
  have HV := Lib.hid hv
  have HNN := Lib.hid hn
  have HOK := Lib.hid hok
  have HU := Lib.hid (show Us (fun b => b ≠ p) w (.slice A us.length c) us from ⟨A, c, rfl, g1, g2, g3⟩)
  have HH0 := Lib.hid hp
  have HG0 := Lib.hid (Gr.refl p none w)
  obtain ⟨S8, hS8⟩ : ∃ S8, w.heap.size = S8 := ⟨_, rfl⟩
  have HS8 := Lib.hid hS8
  have hpl := hp.lt
  rw [hS8] at hpl ⊢
  have gnc : n ≤ c := by omega
  clear hv hn hok hp e g1 g2 g3 hS8
  go_enter Tryd.func42, Tryd.ntmps42
  go_wp2_with fail
  go_loopw [5, 10] (fun v i wi => ∃ (J : Nat) (s1 : Int), J ≤ n ∧ i = .int .i64 J ∧ 0 ≤ s1 ∧ s1 ≤ 8 ∧ Hid (IR wi S8 v (meanU sc (us.take J)).1) ∧ Hid ((meanU sc (us.take J)).2 = s1) ∧ Hid (Held wi p #[iv, .int .i64 s1] 53) ∧ Hid (Gr p none w wi)) (fun _ i _ => n - (intOf i).toNat)
  case atStart => exact ⟨0, sc, by omega, rfl, sc00, sc01, Lib.hid (IR.nil _ _), Lib.hid rfl, HH0, HG0⟩
  case round =>
    obtain ⟨J, s1, hJ, rfl, s10, s11, hi, hs, hh, hg⟩ := hrel
    clear HG0 HH0
    obtain ⟨wi, hwi⟩ : ∃ wi, wi = wr := ⟨_, rfl⟩
    rw [← hwi] at hi hh hg ⊢
    clear hwi wr
    have hsz := hg.out.size
    rw [HS8.out] at hsz
    by_cases hJn : J = n
    · subst hJn
      have hfin := hi.out
      have hs' := hs.out
      rw [List.take_of_length_le (by rw [HNN.out]; exact Nat.le_refl _), HV.out] at hfin hs'
      have hs2 : fs = s1 := hs'
      subst hs2
      obtain ⟨A9, c9, rfl, -, -⟩ := hi.out.form
      obtain ⟨m9, hm9⟩ : ∃ m, (meanU sc (us.take J)).1.length = m := ⟨_, rfl⟩
      rw [hm9] at hfin ⊢
      have HF := Lib.hid hfin
      clear hs hs' hfin hi hm9
      go_wp2
      go_ret
      exact ⟨_, rfl, HF.out, hh.out, hg.out⟩
    have hJ' : J < n := by omega
    have hJ1 : J < us.length := by rw [HNN.out]; exact hJ'
    have j3 : (0 : Int) ≤ J := by omega
    have j4 : (J : Int) < n := by omega
    have hUi := HU.out.step hg.out.size (Y := fun b => b ≠ p) fun b hb hx => ⟨hx, hg.out.block b hb hx (by simp)⟩
    obtain ⟨Uu, cu', eu, gu1, gu2, gu3⟩ := hUi
    obtain ⟨rfl, rfl⟩ : A = Uu ∧ c = cu' := by injection eu with a b c; exact ⟨a, c⟩
    obtain ⟨b3, o3, rfl, hb3, hc3⟩ := rd_ints (gu3.rd (Nat.le_refl wi.heap.size)) (by have := hJ1; omega)
    have r3 := hc3 J hJ1
    have hx := HOK.out (us.getD J 0) (by rw [List.getD_eq_getElem?_getD, List.getElem?_eq_getElem hJ1]; exact List.getElem_mem hJ1)
    have hsn := meanU_snoc (us.take J) (us.getD J 0) sc
    rw [show us.take J ++ [us.getD J 0] = us.take (J + 1) by rw [List.take_succ_eq_append_getElem hJ1, List.getD_eq_getElem?_getD, List.getElem?_eq_getElem hJ1]; rfl, hs.out] at hsn
    obtain ⟨x, hxe⟩ : ∃ x, us.getD J 0 = x := ⟨_, rfl⟩
    rw [hxe] at r3 hx hsn
    have hx0 : 0 ≤ x := by simp [unitOk] at hx; omega
    have hx1 : x ≤ 20000 := by simp [unitOk] at hx; omega
    have hx2 : x < 8192 → 4096 ≤ x → x ≤ 4104 := by simp [unitOk] at hx; omega
    have hx5 : x < 4096 → x ≤ 127 := by simp [unitOk] at hx; omega
    obtain ⟨acc, hacc⟩ : ∃ acc, (meanU sc (us.take J)).1 = acc := ⟨_, rfl⟩
    have hal : acc.length ≤ 8 := by
      have := meanU_len (us.take J) sc
      rw [hacc, List.length_take] at this
      omega
    rw [hacc] at hi hsn
    obtain ⟨A9, c9, rfl, -, -⟩ := hi.out.form
    obtain ⟨k9, hk9⟩ : ∃ k, acc.length = k := ⟨_, rfl⟩
    have HK9 := Lib.hid hal
    rw [hk9] at hi ⊢
    have cp1 := hh.out.cell 1
    have cf1 := hh.out.frozen 1
    clear gu3 eu hc3 hx hxe hacc hal hk9 hs hJn hJ1 hb3
    by_cases h8 : 8192 ≤ x
    · rw [if_pos h8] at hsn
      have d0 : decide (x ≥ 8192) = true := by simpa using h8
      have HS1 := Lib.hid (congrArg Prod.fst hsn)
      have HS2 : Hid ((meanU sc (us.take (J + 1))).2 = s1) := Lib.hid (congrArg Prod.snd hsn)
      clear hsn hx2 hx5 cp1 cf1
      go_wp2_with (at_builtin; refine wpList_appI1 rfl _ _ rfl S8 (.slice A9 k9 c9) acc (x - 8192) rfl hi.out _ rfl rfl (by have := HK9.out; omega) hsz ?_)
      intro v9 w9 HI9 HG9
      have HGN := Lib.hid (hg.out.grown HG9.out (by
        rcases hown : (Value.slice A9 k9 c9).ownBlock with _ | b
        · exact .inl rfl
        · exact .inr ⟨b, rfl, by have := (hi.out.lt hown).1; rw [HS8.out]; exact this⟩))
      have HHN := Lib.hid (hh.out.kept HG9.out (fun e => by have := (hi.out.lt e.symm).1; omega))
      have HI9' : Hid (IR w9 S8 v9 (meanU sc (us.take (J + 1))).1) := by rw [HS1.out]; exact HI9
      clear HI9 HG9 hi hh hg
      go_wp2_with fail
      go_roundw
      case rel => exact ⟨J + 1, s1, by omega, by go_num, s10, s11, HI9', HS2, HHN, HGN⟩
      case measure => simp [intOf]; omega
    · rw [if_neg h8] at hsn
      have d0 : decide (x ≥ 8192) = false := by simp; omega
      by_cases h4 : 4096 ≤ x
      · rw [if_pos h4] at hsn
        have d1 : decide (x ≥ 4096) = true := by simpa using h4
        have hx3 := hx2 (by omega) h4
        have HS1 := Lib.hid (congrArg Prod.fst hsn)
        have HS2 : Hid ((meanU sc (us.take (J + 1))).2 = x - 4096) := Lib.hid (congrArg Prod.snd hsn)
        have HI9 : Hid (IR (wi.setCell ⟨p, 1, none⟩ (.int .i64 (x - 4096))) S8 (.slice A9 k9 c9) (meanU sc (us.take (J + 1))).1) := by rw [HS1.out]; exact own_kept hi.out (grownBy_setCellK wi ⟨p, 1, none⟩ _) (by show p < S8; omega)
        have HHN := Lib.hid (hh.out.set1 (.int .i64 (x - 4096)))
        have HGN := Lib.hid (hg.out.set (g := p) (j := 1) (.int .i64 (x - 4096)) (.inl rfl))
        clear hsn hx2 hx5 hi hh hg HS1
        go_wp2_with fail
        go_roundw
        case rel => exact ⟨J + 1, x - 4096, by omega, by go_num, by omega, by omega, HI9, HS2, HHN, HGN⟩
        case measure => simp [intOf]; omega
      · rw [if_neg h4] at hsn
        have d1 : decide (x ≥ 4096) = false := by simp; omega
        have hx6 := hx5 (by omega)
        have HS1 := Lib.hid (congrArg Prod.fst hsn)
        have HS2 : Hid ((meanU sc (us.take (J + 1))).2 = s1) := Lib.hid (congrArg Prod.snd hsn)
        have C1 := Lib.hid (scalar_any s1 x wi ⟨s10, s11⟩ ⟨hx0, hx6⟩)
        rw [show 2304 + s1 * 128 + x = 2304 + 128 * s1 + x by omega] at C1
        clear hsn hx2 hx5
        go_wp2_with fail
        refine C1.out.mono ?_
        rintro e w5 ⟨rfl, rfl⟩
        go_wp2_with (at_builtin; refine wpList_appI1 rfl _ _ rfl S8 (.slice A9 k9 c9) acc (2304 + 128 * s1 + x) rfl hi.out _ rfl rfl (by have := HK9.out; omega) hsz ?_)
        intro v9 w9 HI9 HG9
        have HGN := Lib.hid (hg.out.grown HG9.out (by
          rcases hown : (Value.slice A9 k9 c9).ownBlock with _ | b
          · exact .inl rfl
          · exact .inr ⟨b, rfl, by have := (hi.out.lt hown).1; rw [HS8.out]; exact this⟩))
        have HHN := Lib.hid (hh.out.kept HG9.out (fun e => by have := (hi.out.lt e.symm).1; omega))
        have HI9' : Hid (IR w9 S8 v9 (meanU sc (us.take (J + 1))).1) := by rw [HS1.out]; exact HI9
        clear HI9 HG9 hi hh hg cp1 cf1
        go_wp2_with fail
        go_roundw
        case rel => exact ⟨J + 1, s1, by omega, by go_num, s10, s11, HI9', HS2, HHN, HGN⟩
        case measure => simp [intOf]; omega
set_option maxRecDepth 100000 in
set_option maxHeartbeats 6400000 in
theorem read_anyD (p base : Nat) (iv : Value) (sc0 : Int) (N : Nat) (A2 : Option Addr) (c2 : Nat) (tk ms : List Tk) (fs : Int) (w : World) (hp : Held w p #[iv, .int .i64 sc0] 53) (h0 : 0 ≤ sc0 ∧ sc0 ≤ 8) (ho0 : OwnTkB base w (.slice A2 N c2) tk) (hpb : p < base) (hbw : base ≤ w.heap.size) (hN : tk.length = N) (hN9 : N ≤ 1048576) (hts : ∀ t ∈ tk, t.out.length ≤ 8) (hok : ∀ t ∈ tk, ∀ u ∈ t.out, unitOk u = true) (hv : meanT sc0 tk = (ms, fs)) :
    Calls Tryd.prog 28 #[.pointer (some ⟨p, 0, none⟩), .slice A2 N c2] w fun e w' => e = .returned (.slice A2 N c2) ∧ OwnTkB base w' (.slice A2 N c2) ms ∧ Held w' p #[iv, .int .i64 fs] 53 ∧ Gr p (Value.slice A2 N c2).ownBlock w w' := by
  have HV := Lib.hid hv
  have HTS := Lib.hid hts
  have HOK := Lib.hid hok
  have HNN := Lib.hid hN
  have HH0 := Lib.hid hp
  obtain ⟨sc00, sc01⟩ := h0
  obtain ⟨V, hV⟩ : ∃ V, (Value.slice A2 N c2).ownBlock = V := ⟨_, rfl⟩
  have HVE := Lib.hid hV
  have HVB := Lib.hid (show ∀ b, V = some b → base ≤ b ∧ b < w.heap.size from fun b e => own_ltT ho0 (hV.trans e))
  have HO2 := Lib.hid (show OwnTkB base w (.slice A2 N c2) (mixS sc0 tk 0) by rw [mixS_zero]; exact ho0)
  have HG0 := Lib.hid (Gr.refl p V w)
  rw [hV]
  clear hv hts hok hN hp ho0 hV
  go_enter Tryd.func28, Tryd.ntmps28
  go_wp2_with fail
  go_loopw [9] (fun i wr => ∃ (K : Nat) (sc : Int), K ≤ N ∧ i = .int .i64 K ∧ 0 ≤ sc ∧ sc ≤ 8 ∧ Hid (OwnTkB base wr (.slice A2 N c2) (mixS sc0 tk K)) ∧ Hid ((meanT sc0 (tk.take K)).2 = sc) ∧ Hid (Held wr p #[iv, .int .i64 sc] 53) ∧ Hid (Gr p V w wr)) (fun i _ => N - (intOf i).toNat)
  case atStart => exact ⟨0, sc0, by omega, rfl, sc00, sc01, HO2, Lib.hid rfl, HH0, HG0⟩
  case round =>
    obtain ⟨K, sc, hK, rfl, sc0', sc1, ho, hsc, hh, hg⟩ := hrel
    clear HO2 HH0 HG0
    by_cases hKn : K = N
    · have hK' : ¬ K < N := by omega
      have HE : Hid (mixS sc0 tk K = ms ∧ sc = fs) := by
        show _ ∧ _
        have h1 := hsc.out
        rw [mixS_all (by rw [HNN.out]; omega), HV.out]
        rw [List.take_of_length_le (by rw [HNN.out]; omega), HV.out] at h1
        exact ⟨rfl, h1.symm⟩
      obtain ⟨hE1, rfl⟩ := HE.out
      have HE1 := Lib.hid hE1
      clear hKn HE hE1
      go_wp2
      go_ret
      exact ⟨rfl, by rw [← HE1.out]; exact ho.out, hh.out, hg.out⟩
    have hK' : K < N := by omega
    have hK1 : K < tk.length := by rw [HNN.out]; exact hK'
    have k3 : (0 : Int) ≤ K := by omega
    have k4 : (K : Int) < N := by omega
    obtain ⟨g, cg, hgv⟩ : ∃ g c', Value.slice A2 N c2 = .slice (some ⟨g, 0, none⟩) N c' := by
      obtain ⟨xs, hown, _⟩ := ho.out
      rcases hown.2 with ⟨_, h2⟩ | ⟨g, cap, cur, h1, _⟩
      · rw [mixS_len, HNN.out] at h2; omega
      · rw [mixS_len, HNN.out] at h1
        exact ⟨g, cap, h1⟩
    obtain ⟨rfl, rfl⟩ : A2 = some ⟨g, 0, none⟩ ∧ c2 = cg := by injection hgv with a b c; exact ⟨a, c⟩
    clear hgv
    have hgb := own_ltT ho.out (b := g) rfl
    have hat := mixS_at (s := sc0) hK1
    obtain ⟨A3, n3, c3, q0, q1, q2, q3, hn3, hu3, hfr⟩ := ho.out.cellsAt (k := K) (by rw [mixS_len]; exact hK1)
    have hnx := mixS_next (s := sc0) hK1
    have htn := meanT_take (sc := sc0) hK1
    rw [List.getElem?_eq_getElem (by rw [mixS_len]; exact hK1)] at hat
    injection hat with hat
    rw [hat] at q0 q1 q3 hn3 hu3
    have hs3 := HTS.out _ (List.getElem_mem hK1)
    have hok3 := HOK.out _ (List.getElem_mem hK1)
    have hat2 : (mixS sc0 tk K)[K]? = some tk[K] := mixS_at hK1
    rw [hsc.out] at hnx htn
    obtain ⟨t, ht⟩ : ∃ t, tk[K] = t := ⟨_, rfl⟩
    rw [ht] at q0 q1 q3 hn3 hu3 hs3 hok3 hnx htn hat2
    obtain ⟨tp, tz, u, te⟩ := t
    simp only at q0 q1 q3 hn3 hu3 hs3 hok3 hnx htn
    have HNX := Lib.hid hnx
    have HTN := Lib.hid (congrArg Prod.snd htn)
    have HAT := Lib.hid hat2
    obtain ⟨mx, hmx⟩ : ∃ mx, mixS sc0 tk K = mx := ⟨_, rfl⟩
    rw [hmx] at ho HNX HAT
    have hba := below_allocI wr (.cells #[.int .i64 tp, .int .i64 tz, .slice A3 n3 c3, .int .i64 te] 44)
    have HO8 := Lib.hid (ho.out.below hba (Nat.le_refl _))
    have HU8 := Lib.hid (hu3.step hba.size (Y := fun b => b ≠ p) fun b hb hx => ⟨by have := hx.2; omega, hba.block b hb⟩)
    have HQ := Lib.hid (Held.new wr #[.int .i64 tp, .int .i64 tz, .slice A3 n3 c3, .int .i64 te] 44)
    have HHA := Lib.hid (hh.out.below hba hh.out.lt)
    have HGA := Lib.hid (hg.out.below hba)
    have HN3 := Lib.hid hn3
    have n38 : n3 ≤ 8 := by omega
    have HOK3 := Lib.hid hok3
    have cc2 := HQ.out.cell 2
    have HEX := Lib.hid (show ∃ s', (meanU sc u).2 = s' from ⟨_, rfl⟩)
    have hgl := hgb.2
    have hgb1 := hgb.1
    have hwl := hg.out.size
    clear hsc ho hh hg hba hu3 hn3 hs3 hok3 hnx htn hat hat2 hmx ht hfr hKn hK1 hgb
    go_wp2_with fail
    obtain ⟨W, hW⟩ : ∃ W, wr.alloc (.cells #[.int .i64 tp, .int .i64 tz, .slice A3 n3 c3, .int .i64 te] 44) = W := ⟨_, rfl⟩
    obtain ⟨p8, hp8⟩ : ∃ p8, wr.heap.size = p8 := ⟨_, rfl⟩
    have hpW : p8 < W.heap.size := by rw [← hW, ← hp8]; simp
    rw [hW] at HO8 HU8 HQ HHA HGA cc2 ⊢
    rw [hp8] at HQ cc2 hwl hgl ⊢
    clear hW hp8 q0 q1 q2 q3 wr
    obtain ⟨m9, s1, hmu⟩ : ∃ m s, meanU sc u = (m, s) := ⟨_, _, rfl⟩
    have C1 := Lib.hid (scalars_anyD p iv sc A3 n3 c3 u W HHA.out ⟨sc0', sc1⟩ HU8.out HN3.out.symm n38 HOK3.out m9 s1 hmu)
    have hrg := meanU_range u sc HOK3.out ⟨sc0', sc1⟩
    rw [hmu] at hrg HNX
    rw [hmu] at HTN
    have hs10 : 0 ≤ s1 := hrg.1
    have hs11 : s1 ≤ 8 := hrg.2
    clear hmu HEX hrg HHA
    go_wp2_with fail
    refine C1.out.mono ?_
    rintro e wi ⟨v9, rfl, hfin, hh, hg⟩
    obtain ⟨A9, c9, rfl, -, -⟩ := hfin.form
    have HO9 : OwnTkB base wi (.slice (some ⟨g, 0, none⟩) N c2) mx := by
      obtain ⟨xs, h1, h2⟩ := HO8.out
      have hkk : ∀ b, b < W.heap.size → base ≤ b → wi.heap[b]? = W.heap[b]? := fun b hb hbb => hg.block b hb (by omega) (by simp)
      refine ⟨xs, ⟨h1.1, ?_⟩, h2.step hg.size fun b hb hx => ⟨hx, hkk b hb hx.2⟩⟩
      rcases h1.2 with hn | ⟨g', cap, cur, e1, e2, e3, e4⟩
      · exact .inl hn
      · exact .inr ⟨g', cap, cur, e1, e2, (hkk g' (Array.getElem?_eq_some_iff.1 e3).1 e2).trans e3, e4⟩
    obtain ⟨l9, hl9⟩ : ∃ l, m9.length = l := ⟨_, rfl⟩
    have HU9 := hfin.us.step (Y := fun b => (Value.slice (some ⟨g, 0, none⟩) N c2).ownBlock ≠ some b ∧ base ≤ b) (Nat.le_refl _) fun b _ hx => ⟨⟨fun e => by injection e with e; have e' : g = b := e; have : W.heap.size ≤ b := hx; omega, by have : W.heap.size ≤ b := hx; omega⟩, rfl⟩
    obtain ⟨A5, n5, c5, y0, y1, y2, y3, -, -, hfr⟩ := HO9.cellsAt (k := K) (by have := (List.getElem?_eq_some_iff.1 HAT.out).1; exact this)
    have hf2 := hfr (K * 4 + 2)
    obtain ⟨hSO, hge⟩ := ownTkB_setOut HO9 HAT.out HU9
    have HSO := Lib.hid hSO
    have hgr2 : Gr p V w wi := ⟨hg.os.trans HGA.out.os, hg.tape.trans HGA.out.tape, hg.output.trans HGA.out.output, Nat.le_trans HGA.out.size hg.size, fun k hk h1 h2 => (hg.block k (Nat.lt_of_lt_of_le hk HGA.out.size) h1 (by simp)).trans (HGA.out.block k hk h1 h2)⟩
    have HGF : Hid (Gr p V w (wi.setCell ⟨g, K * 4 + 2, none⟩ (.slice A9 m9.length c9))) := by
      refine ⟨hgr2.os, hgr2.tape, hgr2.output, by rw [World.size_setCell]; exact hgr2.size, fun k hk h1 h2 => (Below.heap_setCell _ _ _ _ (fun e => ?_)).trans (hgr2.block k hk h1 h2)⟩
      have e' : k = g := e
      exact h2 (by rw [← HVE.out, e']; rfl)
    have HHF := Lib.hid (hh.otherK (p := ⟨g, K * 4 + 2, none⟩) (by show p ≠ g; exact Nat.ne_of_lt (Nat.lt_of_lt_of_le hpb hgb1)) (.slice A9 m9.length c9))
    rw [hl9] at HSO HGF HHF ⊢
    have HTN' : Hid ((meanT sc0 (tk.take (K + 1))).2 = s1) := HTN
    have HNX' : Hid (mixS sc0 tk (K + 1) = mx.set K ⟨tp, tz, m9, te⟩) := HNX
    clear hfin hh hg HO9 HU9 hfr hSO y0 y1 y3 HTN HNX hl9 hgr2 C1 HO8
    go_wp2_with fail
    go_roundw
    case rel => exact ⟨K + 1, s1, by omega, by go_num, hs10, hs11, by rw [HNX'.out]; exact HSO, HTN', HHF, HGF⟩
    case measure => simp [intOf]; omega
end Go.Proofs.YtdkcadckbjncjaaDoor
namespace Go.Proofs.YtdkcadckbjncjaaDoor
set_option linter.unusedVariables false
set_option linter.unusedSimpArgs false
set_option linter.unnecessarySimpa false
open Go.RowKit
theorem rules_anyI (w : World) (hI : TabI w) :
    Calls Tryd.prog 44 #[] w fun e w' => ∃ T, e = .returned (.pointer (some ⟨T, 0, none⟩)) ∧ Stab w.heap.size w'.heap.size w' (fun W => TabAt W w'.heap.size T inR) ∧ w.heap.size ≤ T ∧ Below w.heap.size w w' := by
  have H := Lib.hid (inrules_any w hI)
  clear hI
  go_enter Tryd.func44, Tryd.ntmps44
  go_wp2_with fail
  refine H.out.mono ?_
  rintro e w1 ⟨v, rfl, ho, hb1⟩
  obtain ⟨A, c, rfl, hr⟩ := ho.form
  have HB1 := Lib.hid hb1
  have hs1 := hb1.size
  have C1 := Lib.hid (tab_of_okS inR.length A c inR w1.heap.size w1 hr (Nat.le_refl _) (by rw [inR_len]; decide) inR_right inR_closed)
  clear ho hr hb1 H
  rw [inR_len] at C1 ⊢
  go_wp2_with fail
  refine C1.out.mono ?_
  rintro e w2 ⟨T, rfl, -, hst, hT, hb2⟩
  have HST := Lib.hid hst
  have HB2 := Lib.hid (HB1.out.trans (hb2.mono hs1))
  have hT' : w.heap.size ≤ T := by omega
  have hw : w.heap.size ≤ w1.heap.size := hs1
  clear hst hb2 C1
  go_wp2_with fail
  go_ret
  exact ⟨T, rfl, HST.out.mono hw (Nat.le_refl _), hT', HB2.out⟩
/-- a Decoder whose machine is made: it lies in block m -/
structure DM (G F : Nat → Prop) (w : World) (p m R B L : Nat) (st : Int) (q : List Int) (a sc : Int) : Prop where
  gp : G p
  gm : G m
  gf : ∀ b, G b → F b
  lt : ∀ b, F b → b < w.heap.size
  pl : p < L
  lb : L ≤ B
  bm : B ≤ m
  own : Held w p #[.iface 102 (.agg #[.pointer (some ⟨m, 0, none⟩)]), .int .i64 sc] 53
  tr : Stab L B w (fun W => TrieOK W B R inR)
  fl : ∀ b, L ≤ b → b < B → F b
  is : MAt w m R q a st
  s0 : 0 ≤ st
  s1 : st + q.length ≤ 9 * (a + q.length)
/-- a Decoder whose machine is not made -/
structure DU (G F : Nat → Prop) (w : World) (p : Nat) (q : List Int) (a sc : Int) : Prop where
  q0 : q = []
  a0 : a = 0
  gp : G p
  gf : ∀ b, G b → F b
  lt : ∀ b, F b → b < w.heap.size
  own : Held w p #[.nilIface, .int .i64 sc] 53
def DI (G F : Nat → Prop) (w : World) (p : Nat) (q : List Int) (a sc : Int) : Prop := DU G F w p q a sc ∨ ∃ m R B L st, DM G F w p m R B L st q a sc
section
variable {G G' F F' : Nat → Prop} {w w1 w2 w' : World} {p m R B L : Nat} {st a sc : Int} {q : List Int}
theorem DM.stay (h : DM G F w p m R B L st q a sc) (hs : w.heap.size ≤ w'.heap.size) (hk : ∀ b, F b → w'.heap[b]? = w.heap[b]?) : DM G F w' p m R B L st q a sc :=
  ⟨h.gp, h.gm, h.gf, fun b hb => Nat.lt_of_lt_of_le (h.lt b hb) hs, h.pl, h.lb, h.bm, (hk p (h.gf p h.gp)).trans h.own, h.tr.step hs fun b h1 h2 => hk b (h.fl b h1 h2), h.fl, h.is.of_block (hk m (h.gf m h.gm)), h.s0, h.s1⟩
theorem DU.stay (h : DU G F w p q a sc) (hs : w.heap.size ≤ w'.heap.size) (hk : ∀ b, F b → w'.heap[b]? = w.heap[b]?) : DU G F w' p q a sc :=
  ⟨h.q0, h.a0, h.gp, h.gf, fun b hb => Nat.lt_of_lt_of_le (h.lt b hb) hs, (hk p (h.gf p h.gp)).trans h.own⟩
theorem DI.lt (h : DI G F w p q a sc) : (∀ b, G b → F b) ∧ ∀ b, F b → b < w.heap.size := by
  rcases h with h | ⟨m, R, B, L, st, h⟩
  · exact ⟨h.gf, h.lt⟩
  · exact ⟨h.gf, h.lt⟩
theorem DI.stay (h : DI G F w p q a sc) (hs : w.heap.size ≤ w'.heap.size) (hk : ∀ b, F b → w'.heap[b]? = w.heap[b]?) : DI G F w' p q a sc := by
  rcases h with h | ⟨m, R, B, L, st, h⟩
  · exact .inl (h.stay hs hk)
  · exact .inr ⟨m, R, B, L, st, h.stay hs hk⟩
/-- a call goes on, and writes what it may -/
theorem Told.more {v0 v : Value} {C C' : Nat} {fr : Prop} (h : Told G G' F F' w w1 v0 C fr) (hC : w.heap.size ≤ C') (hC2 : C' ≤ w2.heap.size) (hm : Mid G' w1 w2) (hfar : ∀ b, G' b → b < C') (hv : ∀ b, v.ownBlock = some b → ¬ F' b) : Told G G' F F' w w2 v C' fr :=
  ⟨hC, hC2, hfar, h.news, h.gnew, h.old, hv, h.mid.then hm h.gnew⟩
theorem Mid.gr {p : Nat} {V : Option Nat} (h : Gr p V w w') (hp : G p) (hV : ∀ b, V = some b → w.heap.size ≤ b ∨ G b) : Mid G w w' :=
  ⟨h.os, h.tape, h.output, h.size, fun k hk hn => h.block k hk (fun e => hn (e ▸ hp)) (fun e => by rcases hV k e.symm with h1 | h1; omega; exact hn h1)⟩
theorem Mid.by {r : Nat} (h : w.grownBy w' (some r)) (hr : G r) : Mid G w w' :=
  ⟨h.os, h.tape, h.output, h.size, fun k hk hn => h.block k hk (fun e => by injection e with e; exact hn (e ▸ hr))⟩
end
set_option maxHeartbeats 1600000 in
/-- such a machine is read -/
theorem reader_made {G F : Nat → Prop} {w : World} {p m R B L : Nat} {st a sc : Int} {q : List Int} (h : DM G F w p m R B L st q a sc) :
    Calls Tryd.prog 29 #[.pointer (some ⟨p, 0, none⟩)] w fun e w' => e = .returned (.iface 102 (.agg #[.pointer (some ⟨m, 0, none⟩)])) ∧ w = w' := by
  have c0 := h.own.cell 0
  have f0 := h.own.frozen 0
  clear h
  go_enter Tryd.func29, Tryd.ntmps29
  go_wp2
  go_ret
  exact ⟨rfl, rfl⟩
set_option maxHeartbeats 3200000 in
theorem reader_any {G F : Nat → Prop} {w : World} {p : Nat} {a sc : Int} {q : List Int} (h : DI G F w p q a sc) (hI : TabI w) :
    Calls Tryd.prog 29 #[.pointer (some ⟨p, 0, none⟩)] w fun e w' => ∃ m R B L st G' F', e = .returned (.iface 102 (.agg #[.pointer (some ⟨m, 0, none⟩)])) ∧ DM G' F' w' p m R B L st q a sc ∧ Told G G' F F' w w' (.slice none 0 0) w'.heap.size (q = [] ∧ a = 0) := by
  rcases h with h | ⟨m, R, B, L, st, h⟩
  · obtain ⟨hq, ha, gp, gf, lt, own⟩ := h
    have HQ := Lib.hid hq
    have HA := Lib.hid ha
    have HGP := Lib.hid gp
    have HGF := Lib.hid gf
    have HLT := Lib.hid lt
    have c0 := own.cell 0
    have f0 := own.frozen 0
    have hpl := own.lt
    have HO := Lib.hid own
    have C1 := Lib.hid (rules_anyI w hI)
    clear gp gf lt own hI hq ha
    go_enter Tryd.func29, Tryd.ntmps29
    go_wp2_with fail
    refine C1.out.mono ?_
    rintro e w1 ⟨T, rfl, hst, hT, hb1⟩
    have hs1 := hb1.size
    have C2 := Lib.hid (mdecode_anyS w1 w.heap.size w1.heap.size T inR hst hT (Nat.le_refl _) hs1)
    have HB1 := Lib.hid hb1
    clear hst hb1 C1
    go_wp2_with fail
    refine C2.out.mono ?_
    rintro e w2 ⟨m, R, B, rfl, hst2, hBm, hB, hm, hb2⟩
    have HB2 := Lib.hid (HB1.out.trans (hb2.mono hs1))
    have hs2 : w.heap.size ≤ w2.heap.size := HB2.out.size
    have hml := hm.lt
    have hown2 := HO.out.below HB2.out hpl
    have c2 := hown2.cell 0
    have f2 := hown2.frozen 0
    have HM := Lib.hid hm
    have HST := Lib.hid hst2
    have HO2 := Lib.hid hown2
    clear hm hst2 hb2 C2 hown2 c0 f0
    obtain ⟨W, hW⟩ : ∃ W, w2.setCell ⟨p, 0, none⟩ (.iface 102 (.agg #[.pointer (some ⟨m, 0, none⟩)])) = W := ⟨_, rfl⟩
    have hown3 : Held W p #[.iface 102 (.agg #[.pointer (some ⟨m, 0, none⟩)]), .int .i64 sc] 53 := by
      rw [← hW]
      have := heap_setCell_same w2 p 0 #[.nilIface, .int .i64 sc] 53 (.iface 102 (.agg #[.pointer (some ⟨m, 0, none⟩)])) HO2.out
      show _ = _
      simpa using this
    have hszW : W.heap.size = w2.heap.size := by rw [← hW]; simp
    have hkW : ∀ b, b ≠ p → W.heap[b]? = w2.heap[b]? := fun b hb => by rw [← hW]; exact Below.heap_setCell _ _ _ _ (fun e => hb e)
    have hosW : W.os = w2.os ∧ W.tape = w2.tape ∧ W.output = w2.output := by rw [← hW]; exact ⟨rfl, rfl, rfl⟩
    have HW := Lib.hid hW
    have HO3 := Lib.hid hown3
    have HSZ := Lib.hid hszW
    have HKW := Lib.hid hkW
    have HOS := Lib.hid hosW
    have c3 := hown3.cell 0
    clear hown3 hszW hkW hosW hW
    rw [← HW.out] at c3
    go_wp2_with fail
    rw [HW.out] at c3 ⊢
    go_wp2_with fail
    go_ret
    have hb2 := HB2.out
    have hsz := HSZ.out
    refine ⟨m, R, B, w.heap.size, 0, fun b => G b ∨ b = m, fun b => F b ∨ (w.heap.size ≤ b ∧ b < W.heap.size), rfl, ⟨.inl HGP.out, .inr rfl, ?_, ?_, hpl, by omega, hBm, HO3.out, ?_, ?_, ?_, Int.le_refl _, ?_⟩, ?_⟩
    · rintro b (h | rfl)
      · exact .inl (HGF.out b h)
      · exact .inr ⟨by omega, by omega⟩
    · rintro b (h | h)
      · have := HLT.out b h; omega
      · exact h.2
    · exact HST.out.step (by omega) fun b h1 h2 => HKW.out b (by omega)
    · exact fun b h1 h2 => .inr ⟨h1, by omega⟩
    · rw [HQ.out, HA.out]; exact HM.out.of_block (HKW.out m (by omega))
    · rw [HQ.out, HA.out]; simp
    · refine ⟨by omega, Nat.le_refl _, ?_, ?_, ?_, .inr ⟨HQ.out, HA.out⟩, (fun b e => by cases e), ⟨HOS.out.1.trans hb2.os, HOS.out.2.1.trans hb2.tape, HOS.out.2.2.trans hb2.output, by omega, fun k hk hn => ?_⟩⟩
      · rintro b (h | rfl)
        · have := HLT.out b (HGF.out b h); omega
        · omega
      · rintro b (h | h)
        · exact .inl h
        · exact .inr h.1
      · rintro b (h | rfl)
        · exact .inl h
        · exact .inr (by omega)
      · exact (HKW.out k (fun e => hn (e ▸ HGP.out))).trans (hb2.block k hk)
  · refine (reader_made h).mono ?_
    rintro e w' ⟨rfl, rfl⟩
    exact ⟨m, R, B, L, st, G, F, rfl, h, Nat.le_refl _, Nat.le_refl _, fun b hb => h.lt b (h.gf b hb), fun b hb => .inl hb, fun b hb => .inl hb, .inl fun b hb => hb, (fun b e => by cases e), Mid.refl _ _⟩
theorem drain_lk {rs : List Rl} (hg : Good rs) {q rest : List Int} {u a : Int} {ts : List Tk} {k : Nat} (hd : drain rs a (q ++ [u]) = (ts, rest, k)) (hq : q.length ≤ 1) : k + rest.length ≤ 6 ∧ rest.length ≤ q.length + 1 ∧ ts.length ≤ 2 := by
  have hD := hg.drained (q ++ [u]) a
  rw [hd] at hD
  obtain ⟨_, _, _, hc, hl⟩ := hD
  simp only [List.length_append, List.length_singleton] at hc hl
  have := hl 2 (by omega)
  omega
theorem drain_okI {us rest : List Int} {a : Int} {ts : List Tk} {k : Nat} (hd : drain inR a us = (ts, rest, k)) : ∀ t ∈ ts, ∀ u ∈ t.out, unitOk u = true := by
  have hD := inR_good.drained us a
  rw [hd] at hD
  have h1 := hD.all []
  simp only at h1
  exact fun t ht => rew_ok (us ++ []) a t (by rw [h1]; exact List.mem_append.2 (.inl ht))
set_option maxHeartbeats 3200000 in
theorem dput_anyI {G F : Nat → Prop} {w : World} {p : Nat} {q : List Int} {a sc : Int} (u : Int) (ts : List Tk) (rest : List Int) (k : Nat) (ms : List Tk) (sc' : Int) (h : DI G F w p q a sc) (hI : TabI w) (hq : q.length ≤ 1) (h0 : 0 ≤ a) (h9 : a ≤ 100000) (hs0 : 0 ≤ sc) (hs9 : sc ≤ 8)
    (hd : drain inR a (q ++ [u]) = (ts, rest, k)) (hm : meanT sc ts = (ms, sc')) :
    Calls Tryd.prog 12 #[.pointer (some ⟨p, 0, none⟩), .int .i64 u] w fun e w' => ∃ v G' F' B, e = .returned v ∧ OwnTkB B w' v ms ∧ DI G' F' w' p rest (a + q.length + 1 - rest.length) sc' ∧ Told G G' F F' w w' v B (q = [] ∧ a = 0) := by
  have C1 := Lib.hid (reader_any h hI)
  have HD := Lib.hid hd
  have HM := Lib.hid hm
  obtain ⟨hk6, hr2, ht2⟩ := drain_lk inR_good hd hq
  have H8 := Lib.hid (inR_good.drain_small hd).1
  have HOK := Lib.hid (drain_okI hd)
  have HQ1 := Lib.hid hq
  have HSC := Lib.hid (show 0 ≤ sc ∧ sc ≤ 8 from ⟨hs0, hs9⟩)
  clear h hI hd hm
  go_enter Tryd.func12, Tryd.ntmps12
  go_wp2_with fail
  refine C1.out.mono ?_
  rintro e w1 ⟨m, R, B, L, st, G', F', rfl, hM, hT⟩
  have hs1 := hM.s1
  have C2 := Lib.hid (mput_any w1 m R q a st u hM.is (by omega) B inR hM.tr.self hM.bm h0 (by omega) hM.s0 (by omega) ts rest k HD.out)
  have HMM := Lib.hid hM
  have HT := Lib.hid hT
  clear hM hT C1
  go_wp2_with fail
  refine C2.out.mono ?_
  rintro e w2 ⟨v, rfl, ho, hm2, hg2⟩
  obtain ⟨A1, c1, rfl, -⟩ := ho.form
  have HVB := Lib.hid (fun b (e : _ = some b) => own_ltT ho e)
  obtain ⟨n1, hn1⟩ : ∃ n, ts.length = n := ⟨_, rfl⟩
  rw [hn1] at ho HVB ⊢
  have hpm : p ≠ m := by have := HMM.out.pl; have := HMM.out.lb; have := HMM.out.bm; omega
  have hpw : p < w1.heap.size := HMM.out.own.lt
  have hown2 := HMM.out.own.kept hg2 (fun e => by injection e with e; exact hpm e)
  have C3 := Lib.hid (read_anyD p w1.heap.size _ sc n1 A1 c1 ts ms sc' w2 hown2 HSC.out ho hpw hg2.size hn1 (by omega) H8.out HOK.out HM.out)
  have HG2 := Lib.hid hg2
  have HM2 := Lib.hid hm2
  clear ho hm2 hg2 hown2 C2 hn1
  go_wp2_with fail
  refine C3.out.mono ?_
  rintro e w3 ⟨rfl, ho3, hown3, hgr3⟩
  have HO3 := Lib.hid ho3
  have HW3 := Lib.hid hown3
  have HG3 := Lib.hid hgr3
  clear ho3 hown3 hgr3 C3
  go_wp2_with fail
  go_ret
  have hM := HMM.out
  have hg2 := HG2.out
  have hg3 := HG3.out
  have hVb : ∀ b, (Value.slice A1 n1 c1).ownBlock = some b → w1.heap.size ≤ b := fun b e => (HVB.out b e).1
  have hz2 := hg2.size
  have hz3 := hg3.size
  have hkk : ∀ b, b < w1.heap.size → b ≠ m → b ≠ p → w3.heap[b]? = w1.heap[b]? := fun b hb hbm hbp =>
    (hg3.block b (by omega) hbp (fun e => by have := hVb b e.symm; omega)).trans (hg2.block b hb (fun e => by injection e with e; exact hbm e))
  have hml : m < w1.heap.size := hM.is.lt
  refine ⟨_, G', F', w1.heap.size, rfl, HO3.out, .inr ⟨m, R, B, L, st + k, hM.gp, hM.gm, hM.gf, fun b hb => by have := hM.lt b hb; omega, hM.pl, hM.lb, hM.bm, HW3.out, ?_, hM.fl, ?_, by have := hM.s0; omega, ?_⟩, ?_⟩
  · exact hM.tr.step (by omega) fun b h1 h2 => hkk b (by have := hM.bm; omega) (by have := hM.bm; omega) (by have := hM.pl; omega)
  · exact HM2.out.of_block (hg3.block m (by omega) (fun e => hpm e.symm) (fun e => by have := hVb m e.symm; omega))
  · have := hM.s1; omega
  · exact HT.out.more (Nat.le_trans HT.out.base (Nat.le_refl _)) (by omega) ⟨hg3.os.trans hg2.os, hg3.tape.trans hg2.tape, hg3.output.trans hg2.output, by omega, fun k hk hn => hkk k hk (fun e => hn (e ▸ hM.gm)) (fun e => hn (e ▸ hM.gp))⟩ (fun b hb => hM.lt b (hM.gf b hb)) (fun b e hb => by have h1 := hVb b e; have h2 := hM.lt b hb; omega)
end Go.Proofs.YtdkcadckbjncjaaDoor
namespace Go.Proofs.YtdkcadckbjncjaaDoor
set_option linter.unusedVariables false
set_option linter.unusedSimpArgs false
set_option linter.unnecessarySimpa false
open Go.RowKit
set_option maxHeartbeats 3200000 in
theorem dend_anyI {G F : Nat → Prop} {w : World} {p : Nat} {q : List Int} {a sc : Int} (ts ms : List Tk) (sc' : Int) (h : DI G F w p q a sc) (hI : TabI w) (hq : q.length ≤ 1) (h0 : 0 ≤ a) (h9 : a ≤ 100000) (hs0 : 0 ≤ sc) (hs9 : sc ≤ 8)
    (hd : rewA inR a q = ts) (hm : meanT sc ts = (ms, sc')) :
    Calls Tryd.prog 13 #[.pointer (some ⟨p, 0, none⟩)] w fun e w' => ∃ v G' F' B, e = .returned v ∧ OwnTkB B w' v ms ∧ DI G' F' w' p [] (a + q.length) sc' ∧ Told G G' F F' w w' v B (q = [] ∧ a = 0) := by
  have C1 := Lib.hid (reader_any h hI)
  have HD := Lib.hid hd
  have HM := Lib.hid hm
  have ht2 : ts.length ≤ 1 := by have h1 := inR_good.rew_len q a; rw [hd] at h1; omega
  have hlk := inR_good.looksE_le q q.length (Nat.le_refl _)
  have hlk2 : looksE inR q ≤ q.length := by
    rcases (show q.length = 0 ∨ q.length = 1 by omega) with e | e
    · rw [e] at hlk ⊢; omega
    · rw [e] at hlk ⊢; omega
  have H8 := Lib.hid (show ∀ t ∈ ts, t.out.length ≤ 8 from fun t ht => (inR_good.rew_tk q a t (by rw [hd]; exact ht)).len)
  have HOK := Lib.hid (show ∀ t ∈ ts, ∀ u ∈ t.out, unitOk u = true from fun t ht => rew_ok q a t (by rw [hd]; exact ht))
  have HQ1 := Lib.hid hq
  have HSC := Lib.hid (show 0 ≤ sc ∧ sc ≤ 8 from ⟨hs0, hs9⟩)
  obtain ⟨lk, hlke⟩ : ∃ k, looksE inR q = k := ⟨_, rfl⟩
  rw [hlke] at hlk2
  have HLK := Lib.hid hlke
  clear h hI hd hm hlk hlke
  go_enter Tryd.func13, Tryd.ntmps13
  go_wp2_with fail
  refine C1.out.mono ?_
  rintro e w1 ⟨m, R, B, L, st, G', F', rfl, hM, hT⟩
  have hs1 := hM.s1
  have C2 := Lib.hid (mend_any w1 m R q a st hM.is B inR hM.tr.self hM.bm h0 (by omega) hM.s0 (by omega) ts HD.out)
  have HMM := Lib.hid hM
  have HT := Lib.hid hT
  clear hM hT C1
  go_wp2_with fail
  refine C2.out.mono ?_
  rintro e w2 ⟨v, rfl, ho, hm2, hg2⟩
  obtain ⟨A1, c1, rfl, -⟩ := ho.form
  have HVB := Lib.hid (fun b (e : _ = some b) => own_ltT ho e)
  obtain ⟨n1, hn1⟩ : ∃ n, ts.length = n := ⟨_, rfl⟩
  rw [hn1] at ho HVB ⊢
  have hpm : p ≠ m := by have := HMM.out.pl; have := HMM.out.lb; have := HMM.out.bm; omega
  have hpw : p < w1.heap.size := HMM.out.own.lt
  have hown2 := HMM.out.own.kept hg2 (fun e => by injection e with e; exact hpm e)
  have C3 := Lib.hid (read_anyD p w1.heap.size _ sc n1 A1 c1 ts ms sc' w2 hown2 HSC.out ho hpw hg2.size hn1 (by omega) H8.out HOK.out HM.out)
  have HG2 := Lib.hid hg2
  have HM2 := Lib.hid hm2
  clear ho hm2 hg2 hown2 C2 hn1
  go_wp2_with fail
  refine C3.out.mono ?_
  rintro e w3 ⟨rfl, ho3, hown3, hgr3⟩
  have HO3 := Lib.hid ho3
  have HW3 := Lib.hid hown3
  have HG3 := Lib.hid hgr3
  clear ho3 hown3 hgr3 C3
  go_wp2_with fail
  go_ret
  have hM := HMM.out
  have hg2 := HG2.out
  have hg3 := HG3.out
  have hVb : ∀ b, (Value.slice A1 n1 c1).ownBlock = some b → w1.heap.size ≤ b := fun b e => (HVB.out b e).1
  have hz2 := hg2.size
  have hz3 := hg3.size
  have hkk : ∀ b, b < w1.heap.size → b ≠ m → b ≠ p → w3.heap[b]? = w1.heap[b]? := fun b hb hbm hbp =>
    (hg3.block b (by omega) hbp (fun e => by have := hVb b e.symm; omega)).trans (hg2.block b hb (fun e => by injection e with e; exact hbm e))
  have hml : m < w1.heap.size := hM.is.lt
  refine ⟨_, G', F', w1.heap.size, rfl, HO3.out, .inr ⟨m, R, B, L, st + lk, hM.gp, hM.gm, hM.gf, fun b hb => by have := hM.lt b hb; omega, hM.pl, hM.lb, hM.bm, HW3.out, ?_, hM.fl, ?_, by have := hM.s0; omega, ?_⟩, ?_⟩
  · exact hM.tr.step (by omega) fun b h1 h2 => hkk b (by have := hM.bm; omega) (by have := hM.bm; omega) (by have := hM.pl; omega)
  · have hm2 := HM2.out
    rw [HLK.out] at hm2
    exact hm2.of_block (hg3.block m (by omega) (fun e => hpm e.symm) (fun e => by have := hVb m e.symm; omega))
  · have := hM.s1; simp only [List.length_nil]; omega
  · exact HT.out.more (Nat.le_trans HT.out.base (Nat.le_refl _)) (by omega) ⟨hg3.os.trans hg2.os, hg3.tape.trans hg2.tape, hg3.output.trans hg2.output, by omega, fun k hk hn => hkk k hk (fun e => hn (e ▸ hM.gm)) (fun e => hn (e ▸ hM.gp))⟩ (fun b hb => hM.lt b (hM.gf b hb)) (fun b e hb => by have h1 := hVb b e; have h2 := hM.lt b hb; omega)
set_option maxHeartbeats 1600000 in
theorem dheld_anyI {G F : Nat → Prop} {w : World} {p : Nat} {q : List Int} {a sc : Int} (n : Nat) (h : DI G F w p q a sc) (hI : TabI w) (hq : q.length = n) :
    Calls Tryd.prog 17 #[.pointer (some ⟨p, 0, none⟩)] w fun e w' => ∃ G' F' B, e = .returned (.int .i64 n) ∧ DI G' F' w' p q a sc ∧ Told G G' F F' w w' (.slice none 0 0) B (q = [] ∧ a = 0) := by
  have C1 := Lib.hid (reader_any h hI)
  have HQ := Lib.hid hq
  clear h hI hq
  go_enter Tryd.func17, Tryd.ntmps17
  go_wp2_with fail
  refine C1.out.mono ?_
  rintro e w1 ⟨m, R, B, L, st, G', F', rfl, hM, hT⟩
  have C2 := Lib.hid (mheld_any w1 m R q a st hM.is n HQ.out)
  have HMM := Lib.hid hM
  have HT := Lib.hid hT
  clear hM hT C1
  go_wp2_with fail
  refine C2.out.mono ?_
  rintro e w2 ⟨rfl, rfl⟩
  go_wp2_with fail
  go_ret
  exact ⟨G', F', _, rfl, .inr ⟨m, R, B, L, st, HMM.out⟩, HT.out⟩
theorem decode_anyI (w : World) : Calls Tryd.prog 11 #[] w fun e w' => ∃ p F, e = .returned (.pointer (some ⟨p, 0, none⟩)) ∧ DI F F w' p [] 0 0 ∧ (∀ b, F b → w.heap.size ≤ b) ∧ Below w.heap.size w w' := by
  have HN := Lib.hid (Held.new w #[.nilIface, .int .i64 0] 53)
  have HB := Lib.hid (below_allocI w (.cells #[.nilIface, .int .i64 0] 53))
  go_enter Tryd.func11, Tryd.ntmps11
  go_wp2
  go_ret
  exact ⟨w.heap.size, fun b => b = w.heap.size, rfl, .inl ⟨rfl, rfl, rfl, fun b h => h, fun b h => by rw [h]; simp, HN.out⟩, fun b h => by omega, HB.out⟩
theorem dscript_anyI {G F : Nat → Prop} {w : World} {p : Nat} {q : List Int} {a sc : Int} (h : DI G F w p q a sc) : Calls Tryd.prog 16 #[.pointer (some ⟨p, 0, none⟩)] w fun e w' => e = .returned (.int .i64 sc) ∧ Below w.heap.size w w' := by
  have h1 : w.cell? ⟨p, 1, none⟩ = some (.int .i64 sc) ∧ w.frozen? ⟨p, 1, none⟩ = false := by
    rcases h with h | ⟨m, R, B, L, st, h⟩
    · exact ⟨h.own.cell 1, h.own.frozen 1⟩
    · exact ⟨h.own.cell 1, h.own.frozen 1⟩
  obtain ⟨c1, f1⟩ := h1
  clear h
  have HB := Lib.hid (Below.refl w.heap.size w)
  go_enter Tryd.func16, Tryd.ntmps16
  go_wp2
  go_ret
  exact ⟨rfl, HB.out⟩
end Go.Proofs.YtdkcadckbjncjaaDoor
namespace Go.Proofs.YtdkcadckbjncjaaDoor
set_option linter.unusedVariables false
set_option linter.unusedSimpArgs false
set_option linter.unnecessarySimpa false
open Go.RowKit
/-- an Encoder whose machine is made: it lies in block m; n scalars came -/
structure EM (G F : Nat → Prop) (w : World) (p m T B L : Nat) (R : List Value) (st : Int) (q : List Int) (a : Int) (ah : List Int) (sc n : Int) : Prop where
  gp : G p
  gm : G m
  ge : ∀ b, G b → b = p ∨ b = m
  gf : ∀ b, G b → F b
  lt : ∀ b, F b → b < w.heap.size
  pl : p < L
  lm : L ≤ m
  own : Held w p #[.pointer (some ⟨m, 0, none⟩), .int .i64 sc, .int .i64 n] 61
  en : EAtF L (fun b => F b ∧ b ≠ m ∧ b ≠ p) w B m inR T R q a st ah
  fl : ∀ b, L ≤ b → b ≤ m → F b
  s0 : 0 ≤ st
  s1 : st + q.length ≤ 9 * (a + q.length)
/-- an Encoder whose machine is not made -/
structure EU (G F : Nat → Prop) (w : World) (p : Nat) (q : List Int) (a : Int) (ah : List Int) (sc n : Int) : Prop where
  q0 : q = []
  a0 : a = 0
  h0 : ah = []
  gp : G p
  ge : ∀ b, G b → b = p
  gf : ∀ b, G b → F b
  lt : ∀ b, F b → b < w.heap.size
  own : Held w p #[.pointer none, .int .i64 sc, .int .i64 n] 61
def EN (G F : Nat → Prop) (w : World) (p : Nat) (q : List Int) (a : Int) (ah : List Int) (sc n : Int) : Prop := EU G F w p q a ah sc n ∨ ∃ m T B L R st, EM G F w p m T B L R st q a ah sc n
abbrev EI (G F : Nat → Prop) (w : World) (p : Nat) (q : List Int) (a : Int) (ah : List Int) (sc : Int) : Prop := EN G F w p q a ah sc (a + q.length)
section
variable {G G' F F' F1 F2 : Nat → Prop} {w w1 w2 w' : World} {p m T B L : Nat} {R : List Value} {st a sc n : Int} {q ah : List Int}
theorem EM.pm (h : EM G F w p m T B L R st q a ah sc n) : p ≠ m := by have := h.pl; have := h.lm; omega
theorem EM.stay (h : EM G F w p m T B L R st q a ah sc n) (hs : w.heap.size ≤ w'.heap.size) (hk : ∀ b, F b → w'.heap[b]? = w.heap[b]?) : EM G F w' p m T B L R st q a ah sc n :=
  ⟨h.gp, h.gm, h.ge, h.gf, fun b hb => Nat.lt_of_lt_of_le (h.lt b hb) hs, h.pl, h.lm, (hk p (h.gf p h.gp)).trans h.own, h.en.stay hs (fun b h1 h2 => hk b (h.fl b h1 h2)) (fun b _ hx => hk b hx.1), h.fl, h.s0, h.s1⟩
theorem EU.stay (h : EU G F w p q a ah sc n) (hs : w.heap.size ≤ w'.heap.size) (hk : ∀ b, F b → w'.heap[b]? = w.heap[b]?) : EU G F w' p q a ah sc n :=
  ⟨h.q0, h.a0, h.h0, h.gp, h.ge, h.gf, fun b hb => Nat.lt_of_lt_of_le (h.lt b hb) hs, (hk p (h.gf p h.gp)).trans h.own⟩
theorem EN.lt (h : EN G F w p q a ah sc n) : (∀ b, G b → F b) ∧ ∀ b, F b → b < w.heap.size := by
  rcases h with h | ⟨m, T, B, L, R, st, h⟩
  · exact ⟨h.gf, h.lt⟩
  · exact ⟨h.gf, h.lt⟩
theorem EN.stay (h : EN G F w p q a ah sc n) (hs : w.heap.size ≤ w'.heap.size) (hk : ∀ b, F b → w'.heap[b]? = w.heap[b]?) : EN G F w' p q a ah sc n := by
  rcases h with h | ⟨m, T, B, L, R, st, h⟩
  · exact .inl (h.stay hs hk)
  · exact .inr ⟨m, T, B, L, R, st, h.stay hs hk⟩
/-- its own block is written -/
theorem EM.setP {sc' n' : Int} (h : EM G F w p m T B L R st q a ah sc n) (hs : w'.heap.size = w.heap.size) (hk : ∀ b, b ≠ p → w'.heap[b]? = w.heap[b]?) (ho : Held w' p #[.pointer (some ⟨m, 0, none⟩), .int .i64 sc', .int .i64 n'] 61) : EM G F w' p m T B L R st q a ah sc' n' :=
  ⟨h.gp, h.gm, h.ge, h.gf, fun b hb => by rw [hs]; exact h.lt b hb, h.pl, h.lm, ho, h.en.stay (by omega) (fun b h1 _ => hk b (by have := h.pl; omega)) (fun b _ hx => hk b hx.2.2), h.fl, h.s0, h.s1⟩
theorem EN.setP {sc' n' : Int} (h : EN G F w p q a ah sc n) (hs : w'.heap.size = w.heap.size) (hk : ∀ b, b ≠ p → w'.heap[b]? = w.heap[b]?) (ho : ∀ x y z, Held w p #[x, y, z] 61 → Held w' p #[x, .int .i64 sc', .int .i64 n'] 61) : EN G F w' p q a ah sc' n' := by
  rcases h with h | ⟨m, T, B, L, R, st, h⟩
  · exact .inl ⟨h.q0, h.a0, h.h0, h.gp, h.ge, h.gf, fun b hb => by rw [hs]; exact h.lt b hb, ho _ _ _ h.own⟩
  · exact .inr ⟨m, T, B, L, R, st, h.setP hs hk (ho _ _ _ h.own)⟩
theorem EN.gp (h : EN G F w p q a ah sc n) : G p := by
  rcases h with h | ⟨m, T, B, L, R, st, h⟩ <;> exact h.gp
theorem EN.own (h : EN G F w p q a ah sc n) : ∃ x, Held w p #[x, .int .i64 sc, .int .i64 n] 61 := by
  rcases h with h | ⟨m, T, B, L, R, st, h⟩ <;> exact ⟨_, h.own⟩
/-- no table is written -/
theorem TabI.mid (h : TabI w) (hm : Mid G w w') (hG : ∀ b, G b → ∃ a, w.cell? ⟨b, 0, none⟩ = some (.pointer a)) : TabI w' := by
  have c0 := h.place 0 (by decide)
  have c1 := h.code 0 (by decide)
  refine ⟨tab_block h.pl (by kernel_rfl) (hm.block _ h.lt0 fun e => ?_), tab_block h.cd (by kernel_rfl) (hm.block _ h.lt1 fun e => ?_)⟩
  · obtain ⟨a, ha⟩ := hG _ e
    rw [c0] at ha; injection ha with ha; cases ha
  · obtain ⟨a, ha⟩ := hG _ e
    rw [c1] at ha; injection ha with ha; cases ha
theorem EM.cells (h : EM G F w p m T B L R st q a ah sc n) : ∀ b, G b → ∃ a, w.cell? ⟨b, 0, none⟩ = some (.pointer a) := fun b hb => by
  rcases h.ge b hb with rfl | rfl
  · exact ⟨_, h.own.cell 0⟩
  · exact ⟨_, h.en.is.cells.1⟩
theorem EN.cells (h : EN G F w p q a ah sc n) : ∀ b, G b → ∃ a, w.cell? ⟨b, 0, none⟩ = some (.pointer a) := by
  rcases h with h | ⟨m, T, B, L, R, st, h⟩
  · intro b hb
    rw [h.ge b hb]
    exact ⟨_, h.own.cell 0⟩
  · exact h.cells
/-- a call goes on, writes what it may, and looks at more -/
theorem Told.moreF {v0 v : Value} {C C' : Nat} {fr : Prop} (h : Told G G' F F1 w w1 v0 C fr) (hC : w.heap.size ≤ C') (hC2 : C' ≤ w2.heap.size) (hm : Mid G' w1 w2) (hfar : ∀ b, G' b → b < C') (hF : ∀ b, F2 b → F1 b ∨ w1.heap.size ≤ b) (hv : ∀ b, v.ownBlock = some b → ¬ F2 b) : Told G G' F F2 w w2 v C' fr :=
  ⟨hC, hC2, hfar, fun b hb => by
    rcases hF b hb with h1 | h1
    · exact h.news b h1
    · exact .inr (Nat.le_trans h.mid.size h1), h.gnew, h.old, hv, h.mid.then hm h.gnew⟩
end
set_option maxHeartbeats 1600000 in
/-- such a machine is written -/
theorem writer_made {G F : Nat → Prop} {w : World} {p m T B L : Nat} {R : List Value} {st a sc n : Int} {q ah : List Int} (h : EM G F w p m T B L R st q a ah sc n) :
    Calls Tryd.prog 34 #[.pointer (some ⟨p, 0, none⟩)] w fun e w' => e = .returned (.pointer (some ⟨m, 0, none⟩)) ∧ w = w' := by
  have c0 := h.own.cell 0
  have f0 := h.own.frozen 0
  clear h
  go_enter Tryd.func34, Tryd.ntmps34
  go_wp2
  go_ret
  exact ⟨rfl, rfl⟩
set_option maxHeartbeats 3200000 in
theorem writer_any {G F : Nat → Prop} {w : World} {p : Nat} {a sc n : Int} {q ah : List Int} (h : EN G F w p q a ah sc n) (hI : TabI w) :
    Calls Tryd.prog 34 #[.pointer (some ⟨p, 0, none⟩)] w fun e w' => ∃ m T B L R st G' F', e = .returned (.pointer (some ⟨m, 0, none⟩)) ∧ EM G' F' w' p m T B L R st q a ah sc n ∧ Told G G' F F' w w' (.slice none 0 0) w'.heap.size (q = [] ∧ a = 0) := by
  rcases h with h | ⟨m, T, B, L, R, st, h⟩
  · obtain ⟨hq, ha, hah, gp, ge, gf, lt, own⟩ := h
    have HQ := Lib.hid hq
    have HA := Lib.hid ha
    have HAH := Lib.hid hah
    have HGP := Lib.hid gp
    have HGE := Lib.hid ge
    have HGF := Lib.hid gf
    have HLT := Lib.hid lt
    have c0 := own.cell 0
    have f0 := own.frozen 0
    have hpl := own.lt
    have HO := Lib.hid own
    have C1 := Lib.hid (rules_anyI w hI)
    clear gp ge gf lt own hI hq ha hah
    go_enter Tryd.func34, Tryd.ntmps34
    go_wp2_with fail
    refine C1.out.mono ?_
    rintro e w1 ⟨T0, rfl, hst, hT, hb1⟩
    have hs1 := hb1.size
    have C2 := Lib.hid (mencode_anyF w1 w.heap.size w1.heap.size T0 inR hst hT (Nat.le_refl _))
    have HB1 := Lib.hid hb1
    clear hst hb1 C1
    go_wp2_with fail
    refine C2.out.mono ?_
    rintro e w2 ⟨m, T, R, rfl, hTm, hen, hb2⟩
    have HB2 := Lib.hid (HB1.out.trans (hb2.mono hs1))
    have hs2 : w.heap.size ≤ w2.heap.size := HB2.out.size
    have hen0 := hen (fun b => False) (fun b hb => hb.elim)
    have hml := hen0.lt
    have htm := hen0.tlt
    have hown2 := HO.out.below HB2.out hpl
    have c2 := hown2.cell 0
    have f2 := hown2.frozen 0
    have HEN := Lib.hid hen
    have HO2 := Lib.hid hown2
    clear hen hen0 hb2 C2 hown2 c0 f0
    obtain ⟨W, hW⟩ : ∃ W, w2.setCell ⟨p, 0, none⟩ (.pointer (some ⟨m, 0, none⟩)) = W := ⟨_, rfl⟩
    have hown3 : Held W p #[.pointer (some ⟨m, 0, none⟩), .int .i64 sc, .int .i64 n] 61 := by
      rw [← hW]
      have := heap_setCell_same w2 p 0 #[.pointer none, .int .i64 sc, .int .i64 n] 61 (.pointer (some ⟨m, 0, none⟩)) HO2.out
      show _ = _
      simpa using this
    have hszW : W.heap.size = w2.heap.size := by rw [← hW]; simp
    have hkW : ∀ b, b ≠ p → W.heap[b]? = w2.heap[b]? := fun b hb => by rw [← hW]; exact Below.heap_setCell _ _ _ _ (fun e => hb e)
    have hosW : W.os = w2.os ∧ W.tape = w2.tape ∧ W.output = w2.output := by rw [← hW]; exact ⟨rfl, rfl, rfl⟩
    have HW := Lib.hid hW
    have HO3 := Lib.hid hown3
    have HSZ := Lib.hid hszW
    have HKW := Lib.hid hkW
    have HOS := Lib.hid hosW
    have c3 := hown3.cell 0
    clear hown3 hszW hkW hosW hW
    rw [← HW.out] at c3
    go_wp2_with fail
    rw [HW.out] at c3 ⊢
    go_wp2_with fail
    go_ret
    have hb2 := HB2.out
    have hsz := HSZ.out
    refine ⟨m, T, w1.heap.size, w.heap.size, R, 0, fun b => G b ∨ b = m, fun b => F b ∨ (w.heap.size ≤ b ∧ b < W.heap.size), rfl, ⟨.inl HGP.out, .inr rfl, ?_, ?_, ?_, hpl, by omega, ?_, ?_, ?_, Int.le_refl _, ?_⟩, ?_⟩
    · rintro b (h | rfl)
      · exact .inl (HGE.out b h)
      · exact .inr rfl
    · rintro b (h | rfl)
      · exact .inl (HGF.out b h)
      · exact .inr ⟨by omega, by omega⟩
    · rintro b (h | h)
      · have := HLT.out b h; omega
      · exact h.2
    · exact HO3.out
    · rw [HQ.out, HA.out, HAH.out]
      exact (HEN.out _ (fun b hb => hb.2.1)).stay (by omega) (fun b h1 h2 => HKW.out b (by omega)) (fun b _ hx => HKW.out b hx.2.2)
    · exact fun b h1 h2 => .inr ⟨h1, by omega⟩
    · rw [HQ.out, HA.out]; simp
    · refine ⟨by omega, Nat.le_refl _, ?_, ?_, ?_, .inr ⟨HQ.out, HA.out⟩, (fun b e => by cases e), ⟨HOS.out.1.trans hb2.os, HOS.out.2.1.trans hb2.tape, HOS.out.2.2.trans hb2.output, by omega, fun k hk hn => ?_⟩⟩
      · rintro b (h | rfl)
        · have := HLT.out b (HGF.out b h); omega
        · omega
      · rintro b (h | h)
        · exact .inl h
        · exact .inr h.1
      · rintro b (h | rfl)
        · exact .inl h
        · exact .inr (by omega)
      · exact (HKW.out k (fun e => hn (e ▸ HGP.out))).trans (hb2.block k hk)
  · refine (writer_made h).mono ?_
    rintro e w' ⟨rfl, rfl⟩
    exact ⟨m, T, B, L, R, st, G, F, rfl, h, Nat.le_refl _, Nat.le_refl _, fun b hb => h.lt b (h.gf b hb), fun b hb => .inl hb, fun b hb => .inl hb, .inl fun b hb => hb, (fun b e => by cases e), Mid.refl _ _⟩
section
variable {G F : Nat → Prop} {w : World} {p m T B L : Nat} {R : List Value} {st a sc n : Int} {q ah : List Int}
/-- behind what the machine told: it stands by -/
theorem EM.back {w' : World} {R' : List Value} {st' a' : Int} {q' ah' : List Int} {v : Value} (h : EM G F w p m T B L R st q a ah sc n) (hg : w.grownBy w' (some m)) (hn : EAtF L (fun b => ((F b ∧ b ≠ m ∧ b ≠ p) ∨ w.heap.size ≤ b) ∧ v.ownBlock ≠ some b) w' B m inR T R' q' a' st' ah') (hv : ∀ b, v.ownBlock = some b → w.heap.size ≤ b) (h0 : 0 ≤ st') (h1 : st' + q'.length ≤ 9 * (a' + q'.length)) :
    EM G (fun b => F b ∨ (w.heap.size ≤ b ∧ b < w'.heap.size ∧ v.ownBlock ≠ some b)) w' p m T B L R' st' q' a' ah' sc n ∧ (∀ b, v.ownBlock = some b → ¬ (F b ∨ (w.heap.size ≤ b ∧ b < w'.heap.size ∧ v.ownBlock ≠ some b))) := by
  have hml := h.lt m (h.gf m h.gm)
  have hpl := h.lt p (h.gf p h.gp)
  have hs := hg.size
  refine ⟨⟨h.gp, h.gm, h.ge, fun b hb => .inl (h.gf b hb), ?_, h.pl, h.lm, h.own.kept hg (fun e => by injection e with e; exact h.pm e), hn.with (Nat.le_refl _) (fun _ _ _ => rfl) rfl (fun b hl hx => ⟨?_, rfl⟩) (fun b hb => hb.2.1) hn.is, fun b h1 h2 => .inl (h.fl b h1 h2), h0, h1⟩, ?_⟩
  · rintro b (hb | hb)
    · have := h.lt b hb; omega
    · exact hb.2.1
  · obtain ⟨hx1 | hx1, hx2⟩ := hx
    · exact ⟨.inl hx1.1, hx1.2⟩
    · exact ⟨.inr ⟨hx1, hl, hx2⟩, by omega, by omega⟩
  · rintro b e (hb | hb)
    · have := h.lt b hb; have := hv b e; omega
    · exact hb.2.2 e
theorem EM.front (h : EM G F w p m T B L R st q a ah sc n) : EAtF L (fun b => (F b ∧ b ≠ m ∧ b ≠ p) ∨ w.heap.size ≤ b) w B m inR T R q a st ah :=
  h.en.weak (fun b hb => .inl hb) (fun b hb => by have hml := h.lt m (h.gf m h.gm); rcases hb with h1 | h1; exact h1.2.1; omega)
theorem eputM (h : EM G F w p m T B L R st q a ah sc n) (u : Int) (hq : q.length ≤ 1) (h0 : 0 ≤ a) (h9 : a ≤ 200000) (ts : List Tk) (q' : List Int) (a' : Int) (ah' : List Int) (hv : eOne q a ah u = (ts, q', a', ah')) :
    Calls Tryd.prog 35 #[.pointer (some ⟨m, 0, none⟩), .int .i64 u] w fun e w' => ∃ v F' R' st', e = .returned v ∧ OwnTkB w.heap.size w' v ts ∧ EM G F' w' p m T B L R' st' q' a' ah' sc n ∧ (∀ b, F' b → F b ∨ w.heap.size ≤ b) ∧ (∀ b, v.ownBlock = some b → ¬ F' b) ∧ w.grownBy w' (some m) := by
  obtain ⟨t1, r1, k1, hd⟩ : ∃ t r k, drain (turnR inR) a (q ++ [u]) = (t, r, k) := ⟨_, _, _, rfl⟩
  obtain ⟨hk6, hr2, ht2⟩ := drain_lk inT_good hd hq
  unfold eOne at hv
  rw [hd] at hv
  simp only [Prod.mk.injEq] at hv
  obtain ⟨e1, e2, e3, e4⟩ := hv
  have hs0 := h.s0
  have hs1 := h.s1
  refine (eput_anyF L _ w B m inR T R q a st u ah h.front (by omega) (fun b hb => .inr hb) h0 (by omega) hs0 (by omega) t1 r1 k1 hd).mono ?_
  rintro e w' ⟨v, rfl, ho, ⟨R', hn⟩, hg⟩
  subst e2 e3
  rw [e1] at ho hn
  rw [e1] at e4
  rw [e4] at hn
  have hvb : ∀ b, v.ownBlock = some b → w.heap.size ≤ b := fun b e => (own_ltT ho e).1
  obtain ⟨g1, g2⟩ := h.back hg hn hvb (by omega) (by omega)
  exact ⟨v, _, R', st + k1, rfl, ho, g1, fun b hb => by rcases hb with hb | hb; exact .inl hb; exact .inr hb.1, g2, hg⟩
theorem eendM (h : EM G F w p m T B L R st q a ah sc n) (hq : q.length ≤ 1) (h0 : 0 ≤ a) (h9 : a ≤ 200000) (ts : List Tk) (hv : encF inR ah (rewA (turnR inR) a q) = ts) :
    Calls Tryd.prog 37 #[.pointer (some ⟨m, 0, none⟩)] w fun e w' => ∃ v F' R' st', e = .returned v ∧ OwnTkB w.heap.size w' v ts ∧ EM G F' w' p m T B L R' st' [] (a + q.length) (aheadF ah ts) sc n ∧ (∀ b, F' b → F b ∨ w.heap.size ≤ b) ∧ (∀ b, v.ownBlock = some b → ¬ F' b) ∧ w.grownBy w' (some m) := by
  have hs0 := h.s0
  have hs1 := h.s1
  have hlk := inT_good.looksE_le q q.length (Nat.le_refl _)
  have hlk2 : looksE (turnR inR) q ≤ q.length := by
    rcases (show q.length = 0 ∨ q.length = 1 by omega) with e | e
    · rw [e] at hlk ⊢; omega
    · rw [e] at hlk ⊢; omega
  refine (eend_anyF L _ w B m inR T R q a st ah h.front (fun b hb => .inr hb) h0 (by omega) hs0 (by omega) _ rfl).mono ?_
  rintro e w' ⟨v, rfl, ho, ⟨R', hn⟩, hg⟩
  rw [hv] at ho hn
  have hvb : ∀ b, v.ownBlock = some b → w.heap.size ≤ b := fun b e => (own_ltT ho e).1
  obtain ⟨g1, g2⟩ := h.back hg hn hvb (by omega) (by simp only [List.length_nil]; omega)
  exact ⟨v, _, R', st + looksE (turnR inR) q, rfl, ho, g1, fun b hb => by rcases hb with hb | hb; exact .inl hb; exact .inr hb.1, g2, hg⟩
theorem eapartM (h : EM G F w p m T B L R st q a ah sc n) :
    Calls Tryd.prog 50 #[.pointer (some ⟨m, 0, none⟩)] w fun e w' => ∃ R', e = .returned (.tuple #[]) ∧ EM G F w' p m T B L R' st q a [] sc n ∧ w.grownBy w' (some m) := by
  refine (eapart_anyF _ w B m inR T R q a st ah h.en).mono ?_
  rintro e w' ⟨rfl, ⟨R', hn⟩, hg⟩
  exact ⟨R', rfl, ⟨h.gp, h.gm, h.ge, h.gf, fun b hb => Nat.lt_of_lt_of_le (h.lt b hb) hg.size, h.pl, h.lm, h.own.kept hg (fun e => by injection e with e; exact h.pm e), hn, h.fl, h.s0, h.s1⟩, hg⟩
end
set_option maxHeartbeats 1600000 in
theorem unit_anyI (s : Int) (w : World) : Calls Tryd.prog 36 #[.int .i64 s] w fun e w' => e = .returned (.int .i64 (isU s)) ∧ w = w' := by
  have C1 := Lib.hid (scalarU s w)
  cases hs : scB s with
  | false =>
    have hU : isU s = -1 := by
      unfold isU
      rw [if_neg (fun h => by rw [isB_iff] at h; rw [scB_f] at hs; omega), if_neg (by rw [hs]; decide)]
    rw [hU]
    rw [hs] at C1
    clear hs hU
    go_enter Tryd.func36, Tryd.ntmps36
    go_wp2_with fail
    refine C1.out.mono ?_
    rintro e w1 ⟨rfl, rfl⟩
    go_wp2
    go_ret
    exact ⟨rfl, rfl⟩
  | true =>
    rw [hs] at C1
    by_cases hb : isB s = true
    · have hU : isU s = s % 128 := by unfold isU; rw [if_pos hb]
      rw [isB_iff] at hb
      have C2 := Lib.hid (of_yes s w hb.1 hb.2.1 hb.2.2)
      rw [show (s - 2304) % 128 = s % 128 by omega] at C2
      rw [hU]
      obtain ⟨x, hx⟩ : ∃ x, s % 128 = x := ⟨_, rfl⟩
      obtain ⟨y, hy⟩ : ∃ y, (s - 2304) / 128 = y := ⟨_, rfl⟩
      rw [hx, hy] at C2
      rw [hx]
      clear hs hU hb hx hy
      go_enter Tryd.func36, Tryd.ntmps36
      go_wp2_with fail
      refine C1.out.mono ?_
      rintro e w1 ⟨rfl, rfl⟩
      go_wp2_with fail
      refine C2.out.mono ?_
      rintro e w1 ⟨rfl, rfl⟩
      go_wp2
      go_ret
      exact ⟨rfl, rfl⟩
    · have hU : isU s = s + 8192 := by unfold isU; rw [if_neg hb, if_pos hs]; omega
      rw [hU]
      rw [isB_iff] at hb
      rw [scB_t] at hs
      have C2 := Lib.hid (of_no s w (by omega))
      have hs1 : -10 ≤ s ∧ s ≤ 1114112 := by omega
      obtain ⟨hs2, hs3⟩ := hs1
      clear hs hU hb
      go_enter Tryd.func36, Tryd.ntmps36
      go_wp2_with fail
      refine C1.out.mono ?_
      rintro e w1 ⟨rfl, rfl⟩
      go_wp2_with fail
      refine C2.out.mono ?_
      rintro e w1 ⟨rfl, rfl⟩
      go_wp2
      go_ret
      exact ⟨rfl, rfl⟩
end Go.Proofs.YtdkcadckbjncjaaDoor
namespace Go.Proofs.YtdkcadckbjncjaaDoor
set_option linter.unusedVariables false
set_option linter.unusedSimpArgs false
set_option linter.unnecessarySimpa false
open Go.RowKit
set_option maxHeartbeats 3200000 in
theorem eend_made {G F : Nat → Prop} {w : World} {p : Nat} {q ah : List Int} {a sc : Int} (ts : List Tk) (h : EI G F w p q a ah sc) (hI : TabI w) (hq : q.length ≤ 1) (h0 : 0 ≤ a) (h9 : a ≤ 100000)
    (hv : encF inR ah (rewA (turnR inR) a q) = ts) :
    Calls Tryd.prog 21 #[.pointer (some ⟨p, 0, none⟩)] w fun e w' => ∃ v G' F' C m T B L R st, e = .returned v ∧ OwnTkB C w' v ts ∧ EM G' F' w' p m T B L R st [] (a + q.length) (aheadF ah ts) sc (a + q.length) ∧ Told G G' F F' w w' v C (q = [] ∧ a = 0) := by
  have C1 := Lib.hid (writer_any h hI)
  have HV := Lib.hid hv
  clear h hI hv
  go_enter Tryd.func21, Tryd.ntmps21
  go_wp2_with fail
  refine C1.out.mono ?_
  rintro e w1 ⟨m, T, B, L, R, st, G', F', rfl, hM, hT⟩
  have C2 := Lib.hid (eendM hM hq h0 (by omega) ts HV.out)
  have HM := Lib.hid hM
  have HT := Lib.hid hT
  clear hM hT C1
  go_wp2_with fail
  refine C2.out.mono ?_
  rintro e w2 ⟨v, F2, R', st', rfl, ho, hM2, hF2, hv2, hg2⟩
  have HO := Lib.hid ho
  have HM2 := Lib.hid hM2
  have HF2 := Lib.hid hF2
  have HV2 := Lib.hid hv2
  have HG2 := Lib.hid hg2
  clear ho hM2 hF2 hv2 hg2 C2
  go_wp2_with fail
  go_ret
  have hM := HM.out
  exact ⟨v, G', F2, w1.heap.size, m, T, B, L, R', st', rfl, HO.out, HM2.out, HT.out.moreF HT.out.base HG2.out.size (Mid.by HG2.out hM.gm) (fun b hb => hM.lt b (hM.gf b hb)) HF2.out HV2.out⟩
theorem eend_anyI {G F : Nat → Prop} {w : World} {p : Nat} {q ah : List Int} {a sc : Int} (ts : List Tk) (h : EI G F w p q a ah sc) (hI : TabI w) (hq : q.length ≤ 1) (h0 : 0 ≤ a) (h9 : a ≤ 100000)
    (hv : encF inR ah (rewA (turnR inR) a q) = ts) :
    Calls Tryd.prog 21 #[.pointer (some ⟨p, 0, none⟩)] w fun e w' => ∃ v G' F' C, e = .returned v ∧ OwnTkB C w' v ts ∧ EI G' F' w' p [] (a + q.length) (aheadF ah ts) sc ∧ Told G G' F F' w w' v C (q = [] ∧ a = 0) := by
  refine (eend_made ts h hI hq h0 h9 hv).mono ?_
  rintro e w' ⟨v, G', F', C, m, T, B, L, R, st, rfl, ho, hM, hT⟩
  exact ⟨v, G', F', C, rfl, ho, .inr ⟨m, T, B, L, R, st, by simpa using hM⟩, hT⟩
set_option maxHeartbeats 6400000 in
theorem turn_anyI {G F : Nat → Prop} {w : World} {p : Nat} {q ah : List Int} {a sc : Int} (c : Nat) (hc : c < 9) (ts : List Tk) (h : EI G F w p q a ah sc) (hI : TabI w) (hq : q.length ≤ 1) (h0 : 0 ≤ a) (h9 : a ≤ 100000)
    (hv : encF inR ah (rewA (turnR inR) a q) = ts) :
    Calls Tryd.prog 33 #[.pointer (some ⟨p, 0, none⟩), .int .i64 (c : Int)] w fun e w' => ∃ v G' F' C m T B L R st, e = .returned v ∧ OwnTkB C w' v (ts ++ [swT (a + q.length) c]) ∧ EM G' F' w' p m T B L R st [] (a + q.length) [] c (a + q.length) ∧ Told G G' F F' w w' v C (q = [] ∧ a = 0) := by
  have C1 := Lib.hid (eend_made ts h hI hq h0 h9 hv)
  have HCE := Lib.hid h.cells
  have HI := Lib.hid hI
  have hln := eEnd_len hv hq
  have HLN := Lib.hid (show ts.length ≤ 1000 by omega)
  obtain ⟨n, hn⟩ : ∃ n, a + (q.length : Int) = n := ⟨_, rfl⟩
  rw [hn] at C1 ⊢
  have hn0 : 0 ≤ n := by omega
  have hn9 : n ≤ 100001 := by omega
  have hc0 : (0 : Int) ≤ c := by omega
  have hc9 : (c : Int) < 9 := by omega
  clear h hI hv hn hln
  go_enter Tryd.func33, Tryd.ntmps33
  go_wp2_with fail
  refine C1.out.mono ?_
  rintro e w1 ⟨v1, G', F', C, m, T, B, L, R, st, rfl, ho1, hM1, hT1⟩
  have hI1 := HI.out.mid hT1.mid HCE.out
  have C2 := Lib.hid (code_at c w1 hc hI1)
  obtain ⟨x, hx⟩ : ∃ x, cdC c = x := ⟨_, rfl⟩
  rw [hx] at C2
  have HX := Lib.hid hx
  have HT1 := Lib.hid hT1
  have HM1 := Lib.hid hM1
  have HO1 := Lib.hid ho1
  clear ho1 hM1 hT1 hI1 C1 hx
  go_wp2_with fail
  refine C2.out.mono ?_
  rintro e w1' ⟨rfl, rfl⟩
  have c1 := HM1.out.own.cell 1
  have f1 := HM1.out.own.frozen 1
  obtain ⟨W, hW⟩ : ∃ W, w1'.setCell ⟨p, 1, none⟩ (.int .i64 (c : Int)) = W := ⟨_, rfl⟩
  have hown : Held W p #[.pointer (some ⟨m, 0, none⟩), .int .i64 (c : Int), .int .i64 n] 61 := by
    rw [← hW]
    have := heap_setCell_same w1' p 1 #[.pointer (some ⟨m, 0, none⟩), .int .i64 sc, .int .i64 n] 61 (.int .i64 (c : Int)) HM1.out.own
    show _ = _
    simpa using this
  have hszW : W.heap.size = w1'.heap.size := by rw [← hW]; simp
  have hkW : ∀ b, b ≠ p → W.heap[b]? = w1'.heap[b]? := fun b hb => by rw [← hW]; exact Below.heap_setCell _ _ _ _ (fun e => hb e)
  have hM2 := HM1.out.setP hszW hkW hown
  have hosW : W.os = w1'.os ∧ W.tape = w1'.tape ∧ W.output = w1'.output := by rw [← hW]; exact ⟨rfl, rfl, rfl⟩
  have HMW := Lib.hid (show Mid G' w1' W from ⟨hosW.1, hosW.2.1, hosW.2.2, by omega, fun k hk hn => hkW k (fun e => hn (e ▸ HM1.out.gp))⟩)
  have HW := Lib.hid hW
  have HM2 := Lib.hid hM2
  have C3 := Lib.hid (writer_made hM2)
  have C4 := Lib.hid (eapartM hM2)
  have HSZ := Lib.hid hszW
  clear hown hszW hkW hM2 hosW C2 hW
  go_wp2_with fail
  rw [HW.out]
  refine C3.out.mono ?_
  rintro e w2 ⟨rfl, rfl⟩
  go_wp2_with fail
  refine C4.out.mono ?_
  rintro e w3 ⟨R3, rfl, hM3, hg3⟩
  have hs3 := hg3.size
  have c2 := hM3.own.cell 2
  have f2 := hM3.own.frozen 2
  have hMID := HMW.out.trans (Mid.by hg3 HM1.out.gm)
  have hrow := HO1.out.mid hMID HT1.out.far
  obtain ⟨A1, k1, rfl, -⟩ := hrow.form
  have HVB := Lib.hid (fun b (e : _ = some b) => own_ltT hrow e)
  obtain ⟨l1, hl1⟩ : ∃ l, ts.length = l := ⟨_, rfl⟩
  rw [hl1] at hrow HVB ⊢
  have hsC : C ≤ w3.heap.size := by have := HT1.out.top; have := HSZ.out; omega
  have hba := below_allocI' w3 (.cells #[.int .i64 239, .int .i64 x] 3)
  have HRA := Lib.hid (hrow.below hba (Nat.le_refl _))
  have HU := Lib.hid ((us_newL w3 w3.heap.size rfl [239, x] #[.int .i64 239, .int .i64 x] rfl 2 rfl (by decide)).step (Y := fun b => (Value.slice A1 l1 k1).ownBlock ≠ some b ∧ C ≤ b) (Nat.le_refl _) fun b _ hx => ⟨⟨fun e => by have := (HVB.out b e).2; have e' : b = w3.heap.size := hx; omega, by have e' : b = w3.heap.size := hx; omega⟩, rfl⟩)
  have HB3 := Lib.hid hba
  have HLN2 := Lib.hid (show ts.length ≤ 1000000 by have := HLN.out; omega)
  have HSC := Lib.hid (show C ≤ (w3.alloc (.cells #[.int .i64 239, .int .i64 x] 3)).heap.size by simp; omega)
  have HM3 := Lib.hid hM3
  have HMD := Lib.hid hMID
  have HT1' := Lib.hid (show ∀ b, (Value.slice A1 l1 k1).ownBlock = some b → ¬ F' b from by rw [← hl1]; exact HT1.out.notin)
  clear hrow hba hM3 hMID hg3 C3 C4 hl1
  go_wp2_with (at_builtin; refine wpList_appT1 rfl _ _ rfl C (.slice A1 l1 k1) ts n 0 0 (.slice (some ⟨w3.heap.size, 0, none⟩) 2 2) [239, x] rfl HRA.out HU.out (w3.heap.size + 1) (by simp) rfl HLN2.out HSC.out ?_)
  intro v9 w9 HO9 HG9 HV9
  have HG3 := Lib.hid ((World.grownBy_alloc w3 _ (Value.slice A1 l1 k1).ownBlock).trans HG9.out)
  go_wp2_with fail
  go_ret
  have hg := HG3.out
  have hz := hg.size
  have hM3 := HM3.out
  have hvb : ∀ b, (Value.slice A1 l1 k1).ownBlock = some b → ¬ F' b := HT1'.out
  have hM9 : EM G' F' w9 p m T B L R3 st [] n [] c n := hM3.stay hg.size fun b hb => hg.block b (hM3.lt b hb) (fun e => hvb b e.symm hb)
  have hT3 := HT1.out
  have hmid9 : Mid G w w9 := (hT3.mid.then HMD.out hT3.gnew).grown hg (fun b e => Nat.le_trans hT3.base (HVB.out b e).1)
  refine ⟨v9, G', F', C, m, T, B, L, R3, st, rfl, ?_, hM9, hT3.base, by omega, hT3.far, hT3.news, hT3.gnew, hT3.old, ?_, hmid9⟩
  · have := HO9.out
    rw [← HX.out] at this
    exact this
  · intro b e hb
    rcases HV9.out with h1 | ⟨b2, h1, h2⟩
    · rw [h1] at e; exact hvb b e hb
    · rw [h1] at e; injection e with e
      have := hM3.lt b hb
      have h3 : w3.heap.size + 1 ≤ b2 := h2
      omega
set_option maxHeartbeats 6400000 in
theorem eput_anyI {G F : Nat → Prop} {w : World} {p : Nat} {q ah : List Int} {a sc : Int} (s : Int) (ts : List Tk) (q' : List Int) (a' : Int) (ah' : List Int) (sc' : Int) (h : EI G F w p q a ah sc) (hI : TabI w) (hq : q.length ≤ 1) (h0 : 0 ≤ a) (h9 : a ≤ 100000)
    (hv : ePut q a ah sc s = (ts, q', a', ah', sc')) :
    Calls Tryd.prog 20 #[.pointer (some ⟨p, 0, none⟩), .int .i64 s] w fun e w' => ∃ v G' F' C, e = .returned v ∧ OwnTkB C w' v ts ∧ EI G' F' w' p q' a' ah' sc' ∧ Told G G' F F' w w' v C (q = [] ∧ a = 0) := by
  have C0 := Lib.hid (show ∀ W, Calls Tryd.prog 36 #[.int .i64 s] W fun e w' => e = .returned (.int .i64 (isU s)) ∧ W = w' from fun W => unit_anyI s W)
  have hln := ePut_len hv hq
  obtain ⟨x0, hx0⟩ := h.own
  have s1 := hx0.cell 1
  have sf1 := hx0.frozen 1
  obtain ⟨u, hu⟩ : ∃ u, isU s = u := ⟨_, rfl⟩
  unfold ePut at hv
  rw [hu] at hv C0
  by_cases hb : isB s = true ∧ isC s ≠ sc
  · rw [if_pos hb] at hv
    obtain ⟨hb1, hb2⟩ := hb
    have hr := isC_range hb1
    obtain ⟨c, hc⟩ : ∃ c : Nat, isC s = (c : Int) := ⟨(isC s).toNat, by omega⟩
    rw [hc] at hv hb2 hr
    rw [isB_iff] at hb1
    have O1 := Lib.hid (of_yes s w hb1.1 hb1.2.1 hb1.2.2)
    unfold isC at hc
    rw [hc] at O1
    obtain ⟨y, hy⟩ : ∃ y, (s - 2304) % 128 = y := ⟨_, rfl⟩
    rw [hy] at O1
    obtain ⟨t1, ht1⟩ : ∃ t, encF inR ah (rewA (turnR inR) a q) = t := ⟨_, rfl⟩
    obtain ⟨n, hn⟩ : ∃ n, a + (q.length : Int) = n := ⟨_, rfl⟩
    have T1 := Lib.hid (turn_anyI c (by omega) t1 h hI hq h0 h9 ht1)
    rw [hn] at T1 hv
    rw [ht1] at hv
    obtain ⟨t2, q2, a2, ah2, he⟩ : ∃ t2 q2 a2 ah2, eOne [] n [] u = (t2, q2, a2, ah2) := ⟨_, _, _, _, rfl⟩
    rw [he] at hv
    simp only [Prod.mk.injEq] at hv
    obtain ⟨rfl, rfl, rfl, rfl, rfl⟩ := hv
    have dne : ((c : Int) != sc) = true := by simpa using hb2
    have hn0 : 0 ≤ n := by omega
    have hn9 : n ≤ 100001 := by omega
    have HE := Lib.hid he
    have hl3 : t1.length + 1 + t2.length ≤ 3 := by simp at hln; omega
    have hA' := Lib.hid <| show n + 1 = a2 + (q2.length : Int) by
      have e2 : (drain (turnR inR) n ([] ++ [u])).2.1 = q2 := congrArg (fun x => x.2.1) he
      have e3 : n + (([] : List Int).length : Nat) + 1 - ((drain (turnR inR) n ([] ++ [u])).2.1.length : Nat) = a2 := congrArg (fun x => x.2.2.1) he
      rw [e2] at e3
      simp at e3
      omega
    clear h hx0 hI hb1 hb2 hr hc hy ht1 hn he hln hu
    go_enter Tryd.func20, Tryd.ntmps20
    go_wp2_with fail
    refine O1.out.mono ?_
    rintro e w0 ⟨rfl, rfl⟩
    go_wp2_with fail
    refine T1.out.mono ?_
    rintro e w1 ⟨v1, G', F', C, m, T, B, L, R, st, rfl, ho1, hM1, hT1⟩
    have c2 := hM1.own.cell 2
    have f2 := hM1.own.frozen 2
    obtain ⟨W, hW⟩ : ∃ W, w1.setCell ⟨p, 2, none⟩ (.int .i64 (n + 1)) = W := ⟨_, rfl⟩
    have hown : Held W p #[.pointer (some ⟨m, 0, none⟩), .int .i64 (c : Int), .int .i64 (n + 1)] 61 := by
      rw [← hW]
      have := heap_setCell_same w1 p 2 #[.pointer (some ⟨m, 0, none⟩), .int .i64 (c : Int), .int .i64 n] 61 (.int .i64 (n + 1)) hM1.own
      show _ = _
      simpa using this
    have hszW : W.heap.size = w1.heap.size := by rw [← hW]; simp
    have hkW : ∀ b, b ≠ p → W.heap[b]? = w1.heap[b]? := fun b hb => by rw [← hW]; exact Below.heap_setCell _ _ _ _ (fun e => hb e)
    have hM2 := hM1.setP hszW hkW hown
    have hosW : W.os = w1.os ∧ W.tape = w1.tape ∧ W.output = w1.output := by rw [← hW]; exact ⟨rfl, rfl, rfl⟩
    have hMW : Mid G' w1 W := ⟨hosW.1, hosW.2.1, hosW.2.2, by omega, fun k hk hn => hkW k (fun e => hn (e ▸ hM1.gp))⟩
    have hrow := ho1.mid hMW hT1.far
    obtain ⟨A1, k1, rfl, -⟩ := hrow.form
    have HVB := Lib.hid (fun b (e : _ = some b) => own_ltT hrow e)
    have HNI := Lib.hid hT1.notin
    obtain ⟨acc, hacc⟩ : ∃ acc, t1 ++ [swT n (c : Int)] = acc := ⟨_, rfl⟩
    have hal : acc.length + t2.length ≤ 3 := by rw [← hacc]; simp; omega
    rw [hacc] at hrow HVB HNI ⊢
    obtain ⟨l1, hl1⟩ : ∃ l, acc.length = l := ⟨_, rfl⟩
    rw [hl1] at hrow HVB HNI ⊢
    have HACC := Lib.hid hacc
    have HAL := Lib.hid (show acc.length + t2.length ≤ 1048576 by omega)
    have hsC : C ≤ W.heap.size := by have := hT1.top; omega
    have HMW := Lib.hid hMW
    have HROW := Lib.hid hrow
    have HM2 := Lib.hid hM2
    have HT1 := Lib.hid hT1
    have C3 := Lib.hid (writer_made hM2)
    have C4 := Lib.hid (eputM hM2 u (by simp) hn0 (by omega) t2 q2 a2 ah2 HE.out)
    have HW := Lib.hid hW
    clear hown hszW hkW hM2 hosW hMW hrow ho1 hM1 hT1 T1 O1 hacc hal hl1 hW hl3
    go_wp2_with fail
    rw [HW.out]
    refine C3.out.mono ?_
    rintro e w2 ⟨rfl, rfl⟩
    go_wp2_with fail
    refine (C0.out W).mono ?_
    rintro e w2 ⟨rfl, rfl⟩
    go_wp2_with fail
    refine C4.out.mono ?_
    rintro e w5 ⟨v5, F5, R5, st5, rfl, ho5, hM5, hF5, hv5, hg5⟩
    obtain ⟨A5, k5, rfl, -⟩ := ho5.form
    obtain ⟨l5, hl5⟩ : ∃ l, t2.length = l := ⟨_, rfl⟩
    rw [hl5] at ho5 ⊢
    have hrow5 := HROW.out.mid (Mid.by hg5 hM5.gm) HT1.out.far
    have HO5 := Lib.hid ho5
    have HR5 := Lib.hid hrow5
    have HM5 := Lib.hid hM5
    have HF5 := Lib.hid hF5
    have HG5 := Lib.hid hg5
    have HL5 := Lib.hid hl5.symm
    have hs5 := hg5.size
    have hsC5 : C ≤ w5.heap.size := by omega
    clear ho5 hrow5 hM5 hF5 hv5 hg5 hl5 C3 C4
    go_wp2_with (at_builtin; refine wpList_appTk rfl _ _ rfl C (.slice A1 l1 k1) acc rfl HR5.out A5 l5 k5 W.heap.size t2 rfl HL5.out HO5.out hsC (fun b e => (HVB.out b e).2) HAL.out hsC5 ?_)
    intro v9 w9 HO9 HG9 HV9
    go_wp2_with fail
    go_ret
    have hM5 := HM5.out
    have hg9 := HG9.out
    have hz9 := hg9.size
    have hT3 := HT1.out
    have hni5 : ∀ b, (Value.slice A1 l1 k1).ownBlock = some b → ¬ F5 b := fun b e hb => by
      rcases HF5.out b hb with h1 | h1
      · exact HNI.out b e h1
      · have := (HVB.out b e).2; omega
    have hM9 := hM5.stay hz9 fun b hb => hg9.block b (hM5.lt b hb) (fun e => hni5 b e.symm hb)
    rw [hA'.out] at hM9
    have hmid9 : Mid G w0 w9 := ((hT3.mid.then HMW.out hT3.gnew).then (Mid.by HG5.out hM5.gm) hT3.gnew).grown hg9 (fun b e => Nat.le_trans hT3.base (HVB.out b e).1)
    refine ⟨v9, G', F5, C, rfl, ?_, .inr ⟨m, T, B, L, R5, st5, hM9⟩, hT3.base, by omega, hT3.far, fun b hb => ?_, hT3.gnew, hT3.old, fun b e hb => ?_, hmid9⟩
    · have h1 := HO9.out
      rw [← HACC.out] at h1
      simpa using h1
    · rcases HF5.out b hb with h1 | h1
      · exact hT3.news b h1
      · right; have h2 := hT3.mid.size; have h3 := HMW.out.size; omega
    · rcases HV9.out with h1 | h1
      · rw [h1] at e; exact hni5 b e hb
      · rw [h1] at e; injection e with e
        have := hM5.lt b hb
        omega
  · rw [if_neg hb] at hv
    obtain ⟨n, hn⟩ : ∃ n, a + (q.length : Int) = n := ⟨_, rfl⟩
    obtain ⟨t2, q2, a2, ah2, he⟩ : ∃ t2 q2 a2 ah2, eOne q a ah u = (t2, q2, a2, ah2) := ⟨_, _, _, _, rfl⟩
    rw [he] at hv
    simp only [Prod.mk.injEq] at hv
    obtain ⟨rfl, rfl, rfl, rfl, rfl⟩ := hv
    have HE := Lib.hid he
    have HI := Lib.hid hI
    have HQ := Lib.hid hq
    have hA' := Lib.hid <| show n + 1 = a2 + (q2.length : Int) by
      have e2 : (drain (turnR inR) a (q ++ [u])).2.1 = q2 := congrArg (fun x => x.2.1) he
      have e3 : a + (q.length : Nat) + 1 - ((drain (turnR inR) a (q ++ [u])).2.1.length : Nat) = a2 := congrArg (fun x => x.2.2.1) he
      rw [e2] at e3
      omega
    have hn0 : 0 ≤ n := by omega
    have hn9 : n ≤ 100001 := by omega
    have HEN := Lib.hid (show EN G F w p q a ah sc n by rw [← hn]; exact h)
    obtain ⟨x0', hx0'⟩ := HEN.out.own
    have s2 := hx0'.cell 2
    have sf2 := hx0'.frozen 2
    clear h hx0 hx0' hI he hu hn
    by_cases hB : isB s = true
    · have hsc : isC s = sc := Classical.not_not.1 fun h => hb ⟨hB, h⟩
      rw [isB_iff] at hB
      have O1 := Lib.hid (of_yes s w hB.1 hB.2.1 hB.2.2)
      unfold isC at hsc
      rw [hsc] at O1
      obtain ⟨y, hy⟩ : ∃ y, (s - 2304) % 128 = y := ⟨_, rfl⟩
      rw [hy] at O1
      have dne : (sc != sc) = false := by simp
      clear hb hB hsc hy
      go_enter Tryd.func20, Tryd.ntmps20
      go_wp2_with fail
      refine O1.out.mono ?_
      rintro e w0 ⟨rfl, rfl⟩
      obtain ⟨W, hW⟩ : ∃ W, w0.setCell ⟨p, 2, none⟩ (.int .i64 (n + 1)) = W := ⟨_, rfl⟩
      have hszW : W.heap.size = w0.heap.size := by rw [← hW]; simp
      have hkW : ∀ b, b ≠ p → W.heap[b]? = w0.heap[b]? := fun b hb => by rw [← hW]; exact Below.heap_setCell _ _ _ _ (fun e => hb e)
      have hN2 := HEN.out.setP (sc' := sc) (n' := n + 1) hszW hkW (fun x y z hx => by
        have h1 := hx.cell 1
        rw [s1] at h1
        injection h1 with h1
        have h1' : y = .int .i64 sc := h1.symm
        subst h1'
        rw [← hW]
        have := heap_setCell_same w0 p 2 #[x, .int .i64 sc, z] 61 (.int .i64 (n + 1)) hx
        show _ = _
        simpa using this)
      have hosW : W.os = w0.os ∧ W.tape = w0.tape ∧ W.output = w0.output := by rw [← hW]; exact ⟨rfl, rfl, rfl⟩
      have hMW : Mid G w0 W := ⟨hosW.1, hosW.2.1, hosW.2.2, by omega, fun k hk hn => hkW k (fun e => hn (e ▸ HEN.out.gp))⟩
      have C3 := Lib.hid (writer_any hN2 (HI.out.mid hMW HEN.out.cells))
      have HMW := Lib.hid hMW
      have HW := Lib.hid hW
      have HSZ := Lib.hid hszW
      clear hN2 hszW hkW hosW hMW hW
      go_wp2_with fail
      rw [HW.out]
      refine C3.out.mono ?_
      rintro e w2 ⟨m, T, B, L, R, st, G', F', rfl, hM2, hT2⟩
      have C4 := Lib.hid (eputM hM2 u HQ.out h0 (by omega) t2 q2 a2 ah2 HE.out)
      have HM2 := Lib.hid hM2
      have HT2 := Lib.hid hT2
      clear hM2 hT2 C3
      go_wp2_with fail
      refine (C0.out w2).mono ?_
      rintro e w2' ⟨rfl, rfl⟩
      go_wp2_with fail
      refine C4.out.mono ?_
      rintro e w5 ⟨v5, F5, R5, st5, rfl, ho5, hM5, hF5, hv5, hg5⟩
      obtain ⟨A5, k5, rfl, -⟩ := ho5.form
      obtain ⟨l5, hl5⟩ : ∃ l, t2.length = l := ⟨_, rfl⟩
      rw [hl5] at ho5 hln ⊢
      have HO5 := Lib.hid ho5
      have HM5 := Lib.hid hM5
      have HF5 := Lib.hid hF5
      have HG5 := Lib.hid hg5
      have HL5 := Lib.hid hl5.symm
      have hs5 := hg5.size
      have HAL := Lib.hid (show ([] : List Tk).length + t2.length ≤ 1048576 by have := HL5.out; simp; omega)
      have HN5 := Lib.hid (OwnTkB.nil w2.heap.size w5)
      clear ho5 hM5 hF5 hv5 hg5 hl5 C4
      go_wp2_with (at_builtin; refine wpList_appTk rfl _ _ rfl w2.heap.size (.slice none 0 0) [] rfl HN5.out A5 l5 k5 w2.heap.size t2 rfl HL5.out HO5.out (Nat.le_refl _) (fun b e => by cases e) HAL.out hs5 ?_)
      intro v9 w9 HO9 HG9 HV9
      go_wp2_with fail
      go_ret
      have hM5 := HM5.out
      have hg9 := HG9.out
      have hz9 := hg9.size
      have hT3 := HT2.out
      have hM9 := hM5.stay hz9 fun b hb => hg9.block b (hM5.lt b hb) (fun e => by cases e)
      rw [hA'.out] at hM9
      have hmid9 : Mid G w0 w9 := ((HMW.out.then hT3.mid (fun b hb => .inl hb)).then (Mid.by HG5.out hM5.gm) (fun b hb => by have := hT3.gnew b hb; rw [HSZ.out] at this; exact this)).grown hg9 (fun b e => by cases e)
      have hw2 : w0.heap.size ≤ w2.heap.size := by have := hT3.base; rw [HSZ.out] at this; exact this
      have hz := HSZ.out
      refine ⟨v9, G', F5, w2.heap.size, rfl, ?_, .inr ⟨m, T, B, L, R5, st5, hM9⟩, hw2, by omega, hT3.far, fun b hb => ?_, fun b hb => by have := hT3.gnew b hb; rw [hz] at this; exact this, hT3.old, fun b e hb => ?_, hmid9⟩
      · have h1 := HO9.out
        simpa using h1
      · rcases HF5.out b hb with h1 | h1
        · have := hT3.news b h1; rw [hz] at this; exact this
        · right; omega
      · rcases HV9.out with h1 | h1
        · rw [h1] at e; cases e
        · rw [h1] at e; injection e with e
          have := hM5.lt b hb
          omega
    · rw [isB_iff] at hB
      have O1 := Lib.hid (of_no s w (by omega))
      clear hb hB
      go_enter Tryd.func20, Tryd.ntmps20
      go_wp2_with fail
      refine O1.out.mono ?_
      rintro e w0 ⟨rfl, rfl⟩
      obtain ⟨W, hW⟩ : ∃ W, w0.setCell ⟨p, 2, none⟩ (.int .i64 (n + 1)) = W := ⟨_, rfl⟩
      have hszW : W.heap.size = w0.heap.size := by rw [← hW]; simp
      have hkW : ∀ b, b ≠ p → W.heap[b]? = w0.heap[b]? := fun b hb => by rw [← hW]; exact Below.heap_setCell _ _ _ _ (fun e => hb e)
      have hN2 := HEN.out.setP (sc' := sc) (n' := n + 1) hszW hkW (fun x y z hx => by
        have h1 := hx.cell 1
        rw [s1] at h1
        injection h1 with h1
        have h1' : y = .int .i64 sc := h1.symm
        subst h1'
        rw [← hW]
        have := heap_setCell_same w0 p 2 #[x, .int .i64 sc, z] 61 (.int .i64 (n + 1)) hx
        show _ = _
        simpa using this)
      have hosW : W.os = w0.os ∧ W.tape = w0.tape ∧ W.output = w0.output := by rw [← hW]; exact ⟨rfl, rfl, rfl⟩
      have hMW : Mid G w0 W := ⟨hosW.1, hosW.2.1, hosW.2.2, by omega, fun k hk hn => hkW k (fun e => hn (e ▸ HEN.out.gp))⟩
      have C3 := Lib.hid (writer_any hN2 (HI.out.mid hMW HEN.out.cells))
      have HMW := Lib.hid hMW
      have HW := Lib.hid hW
      have HSZ := Lib.hid hszW
      clear hN2 hszW hkW hosW hMW hW
      go_wp2_with fail
      rw [HW.out]
      refine C3.out.mono ?_
      rintro e w2 ⟨m, T, B, L, R, st, G', F', rfl, hM2, hT2⟩
      have C4 := Lib.hid (eputM hM2 u HQ.out h0 (by omega) t2 q2 a2 ah2 HE.out)
      have HM2 := Lib.hid hM2
      have HT2 := Lib.hid hT2
      clear hM2 hT2 C3
      go_wp2_with fail
      refine (C0.out w2).mono ?_
      rintro e w2' ⟨rfl, rfl⟩
      go_wp2_with fail
      refine C4.out.mono ?_
      rintro e w5 ⟨v5, F5, R5, st5, rfl, ho5, hM5, hF5, hv5, hg5⟩
      obtain ⟨A5, k5, rfl, -⟩ := ho5.form
      obtain ⟨l5, hl5⟩ : ∃ l, t2.length = l := ⟨_, rfl⟩
      rw [hl5] at ho5 hln ⊢
      have HO5 := Lib.hid ho5
      have HM5 := Lib.hid hM5
      have HF5 := Lib.hid hF5
      have HG5 := Lib.hid hg5
      have HL5 := Lib.hid hl5.symm
      have hs5 := hg5.size
      have HAL := Lib.hid (show ([] : List Tk).length + t2.length ≤ 1048576 by have := HL5.out; simp; omega)
      have HN5 := Lib.hid (OwnTkB.nil w2.heap.size w5)
      clear ho5 hM5 hF5 hv5 hg5 hl5 C4
      go_wp2_with (at_builtin; refine wpList_appTk rfl _ _ rfl w2.heap.size (.slice none 0 0) [] rfl HN5.out A5 l5 k5 w2.heap.size t2 rfl HL5.out HO5.out (Nat.le_refl _) (fun b e => by cases e) HAL.out hs5 ?_)
      intro v9 w9 HO9 HG9 HV9
      go_wp2_with fail
      go_ret
      have hM5 := HM5.out
      have hg9 := HG9.out
      have hz9 := hg9.size
      have hT3 := HT2.out
      have hM9 := hM5.stay hz9 fun b hb => hg9.block b (hM5.lt b hb) (fun e => by cases e)
      rw [hA'.out] at hM9
      have hmid9 : Mid G w0 w9 := ((HMW.out.then hT3.mid (fun b hb => .inl hb)).then (Mid.by HG5.out hM5.gm) (fun b hb => by have := hT3.gnew b hb; rw [HSZ.out] at this; exact this)).grown hg9 (fun b e => by cases e)
      have hw2 : w0.heap.size ≤ w2.heap.size := by have := hT3.base; rw [HSZ.out] at this; exact this
      have hz := HSZ.out
      refine ⟨v9, G', F5, w2.heap.size, rfl, ?_, .inr ⟨m, T, B, L, R5, st5, hM9⟩, hw2, by omega, hT3.far, fun b hb => ?_, fun b hb => by have := hT3.gnew b hb; rw [hz] at this; exact this, hT3.old, fun b e hb => ?_, hmid9⟩
      · have h1 := HO9.out
        simpa using h1
      · rcases HF5.out b hb with h1 | h1
        · have := hT3.news b h1; rw [hz] at this; exact this
        · right; omega
      · rcases HV9.out with h1 | h1
        · rw [h1] at e; cases e
        · rw [h1] at e; injection e with e
          have := hM5.lt b hb
          omega
set_option maxHeartbeats 1600000 in
theorem eheld_anyI {G F : Nat → Prop} {w : World} {p : Nat} {q ah : List Int} {a sc : Int} (n : Nat) (h : EI G F w p q a ah sc) (hI : TabI w) (hq : q.length = n) :
    Calls Tryd.prog 24 #[.pointer (some ⟨p, 0, none⟩)] w fun e w' => ∃ G' F' C, e = .returned (.int .i64 n) ∧ EI G' F' w' p q a ah sc ∧ Told G G' F F' w w' (.slice none 0 0) C (q = [] ∧ a = 0) := by
  have C1 := Lib.hid (writer_any h hI)
  have HQ := Lib.hid hq
  clear h hI hq
  go_enter Tryd.func24, Tryd.ntmps24
  go_wp2_with fail
  refine C1.out.mono ?_
  rintro e w1 ⟨m, T, B, L, R, st, G', F', rfl, hM, hT⟩
  have C2 := Lib.hid (eheld_anyF _ w1 B m inR T R q a st ah hM.en n HQ.out)
  have HMM := Lib.hid hM
  have HT := Lib.hid hT
  clear hM hT C1
  go_wp2_with fail
  refine C2.out.mono ?_
  rintro e w2 ⟨rfl, rfl⟩
  go_wp2_with fail
  go_ret
  exact ⟨G', F', _, rfl, .inr ⟨m, T, B, L, R, st, HMM.out⟩, HT.out⟩
theorem encode_anyI (w : World) : Calls Tryd.prog 19 #[] w fun e w' => ∃ p F, e = .returned (.pointer (some ⟨p, 0, none⟩)) ∧ EI F F w' p [] 0 [] 0 ∧ (∀ b, F b → w.heap.size ≤ b) ∧ Below w.heap.size w w' := by
  have HN := Lib.hid (Held.new w #[.pointer none, .int .i64 0, .int .i64 0] 61)
  have HB := Lib.hid (below_allocI w (.cells #[.pointer none, .int .i64 0, .int .i64 0] 61))
  go_enter Tryd.func19, Tryd.ntmps19
  go_wp2
  go_ret
  exact ⟨w.heap.size, fun b => b = w.heap.size, rfl, .inl ⟨rfl, rfl, rfl, rfl, fun b h => h, fun b h => h, fun b h => by rw [h]; simp, HN.out⟩, fun b h => by omega, HB.out⟩
theorem escript_anyI {G F : Nat → Prop} {w : World} {p : Nat} {q ah : List Int} {a sc : Int} (h : EI G F w p q a ah sc) : Calls Tryd.prog 23 #[.pointer (some ⟨p, 0, none⟩)] w fun e w' => e = .returned (.int .i64 sc) ∧ Below w.heap.size w w' := by
  obtain ⟨x, hx⟩ := h.own
  have c1 := hx.cell 1
  have f1 := hx.frozen 1
  clear h hx
  have HB := Lib.hid (Below.refl w.heap.size w)
  go_enter Tryd.func23, Tryd.ntmps23
  go_wp2
  go_ret
  exact ⟨rfl, HB.out⟩
end Go.Proofs.YtdkcadckbjncjaaDoor
namespace Go.Proofs.YtdkcadckbjncjaaDoor
set_option linter.unusedVariables false
open Go.RowKit
def theIs : IsApi where
  OK := TabI
  keep := fun h hb => h.below hb
  D := DI
  dfoot := fun h => h.lt
  dstay := fun h hs hk => h.stay hs hk
  decode := fun w _ => decode_anyI w
  dput := fun u ts rest k ms sc' h hI hq h0 h9 hs0 hs9 hd hm => dput_anyI u ts rest k ms sc' h hI hq h0 h9 hs0 hs9 hd hm
  dend := fun ts ms sc' h hI hq h0 h9 hs0 hs9 hd hm => dend_anyI ts ms sc' h hI hq h0 h9 hs0 hs9 hd hm
  dheld := fun n h hI hq => dheld_anyI n h hI hq
  E := EI
  efoot := fun h => h.lt
  estay := fun h hs hk => h.stay hs hk
  encode := fun w _ => encode_anyI w
  eput := fun s ts q' a' ah' sc' h hI hq _ h0 h9 _ _ hv => eput_anyI s ts q' a' ah' sc' h hI hq h0 h9 hv
  eend := fun ts h hI hq _ h0 h9 _ _ hv => eend_anyI ts h hI hq h0 h9 hv
  eheld := fun n h hI hq => eheld_anyI n h hI hq
  dscript := fun h => dscript_anyI h
  escript := fun h => escript_anyI h
end Go.Proofs.YtdkcadckbjncjaaDoor
