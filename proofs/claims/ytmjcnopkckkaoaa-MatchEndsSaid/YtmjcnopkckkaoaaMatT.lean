/- Layer 6: rows of tokens beside a Match; take. -/
import Derived.Test.YtmjcnopkckkaoaaMatD
namespace Go.Proofs.Ytmjcnopkckkaoaa
set_option linter.unusedVariables false
open Go.RowKit
/-- a row of tokens of the call's own, from block base on: their units lie there, too, but not in it -/
def OwnTkB (base : Nat) (w : World) (v : Value) (ts : List Tk) : Prop := ∃ xs, w.ownsRow base 49 4 v ts.length xs ∧ Tks (fun b => v.ownBlock ≠ some b ∧ base ≤ b) w xs ts
theorem OwnTkB.nil (base : Nat) (w : World) : OwnTkB base w (.slice none 0 0) [] := ⟨[], World.ownsRow_nil _ _ _ _, trivial⟩
theorem OwnTkB.own {base : Nat} {w : World} {v : Value} {ts : List Tk} (h : OwnTkB base w v ts) : OwnTk base w v ts := by
  obtain ⟨xs, ho, hr⟩ := h
  exact ⟨xs, ho, hr.step (Nat.le_refl _) fun b _ hx => ⟨hx.1, rfl⟩⟩
theorem OwnTkB.form {base : Nat} {w : World} {v : Value} {ts : List Tk} (h : OwnTkB base w v ts) : ∃ A c, v = .slice A ts.length c ∧ TkAt w w.heap.size A ts.length c ts := h.own.form
theorem OwnTkB.below {base B : Nat} {w w' : World} {v : Value} {ts : List Tk} (h : OwnTkB base w v ts) (hb : Below B w w') (hB : w.heap.size ≤ B) : OwnTkB base w' v ts := by
  obtain ⟨xs, ho, hr⟩ := h
  exact ⟨xs, own_below ho hb hB, hr.step hb.size fun b hl hx => ⟨hx, hb.block b (by omega)⟩⟩
theorem OwnTkB.low {base base' : Nat} {w : World} {v : Value} {ts : List Tk} (h : OwnTkB base w v ts) (hb : base' ≤ base) : OwnTkB base' w v ts := by
  obtain ⟨xs, ho, hr⟩ := h
  exact ⟨xs, own_low ho hb, hr.step (Nat.le_refl _) fun b _ hx => ⟨⟨hx.1, by omega⟩, rfl⟩⟩
theorem own_kept {base p n size : Nat} {T : TypeId} {w w' : World} {v : Value} {xs : List Value} (ho : w.ownsRow base T size v n xs) (hg : w.grownBy w' (some p)) (hp : p < base) : w'.ownsRow base T size v n xs :=
  ho.kept hg (by
    cases hv : v.ownBlock with
    | none => exact .inl rfl
    | some k =>
      refine .inr fun e => ?_
      have := (ho.lt k hv).1
      injection e with e
      omega)
/-- a Match's block is written: the row stays -/
theorem OwnTkB.past {base p : Nat} {w w' : World} {v : Value} {ts : List Tk} (h : OwnTkB base w v ts) (hg : w.grownBy w' (some p)) (hp : p < base) : OwnTkB base w' v ts := by
  obtain ⟨xs, ho, hr⟩ := h
  exact ⟨xs, own_kept ho hg hp, hr.step hg.size fun b hl hx => ⟨hx, hg.block b hl (fun e => by injection e with e; have := hx.2; omega)⟩⟩
theorem Us.past {X : Nat → Prop} {w w' : World} {v : Value} {us : List Int} {p : Nat} (h : Us X w v us) (hg : w.grownBy w' (some p)) (hp : ∀ b, X b → b ≠ p) : Us X w' v us :=
  h.step hg.size fun b hl hx => ⟨hx, hg.block b hl (fun e => by injection e with e; exact hp b hx e)⟩
/-- tokens laid behind: w1 the world ahead of the append, w2 the one behind -/
theorem OwnTkB.push {base : Nat} {w1 w2 : World} {v v' : Value} {ts us : List Tk} {xs ys : List Value} {n : Nat} (hn : n = ts.length + us.length) (ho : w2.ownsRow base 49 4 v' n (xs ++ ys)) (hx : Tks (fun b => v.ownBlock ≠ some b ∧ base ≤ b) w1 xs ts)
    (hy : Tks (fun b => v.ownBlock ≠ some b ∧ base ≤ b) w1 ys us) (hg : w1.grownBy w2 v.ownBlock) (hv : v'.ownBlock = v.ownBlock ∨ v'.ownBlock = some w1.heap.size) : OwnTkB base w2 v' (ts ++ us) := by
  refine ⟨xs ++ ys, by rw [List.length_append, ← hn]; exact ho, (hx.app hy).step hg.size fun b hl hx => ⟨⟨?_, hx.2⟩, hg.block b hl (fun e => hx.1 e.symm)⟩⟩
  rcases hv with e | e
  · rw [e]; exact hx.1
  · rw [e]; intro e'; injection e' with e'; omega
/-- behind an append to a row from base on: what lay below base, or beside the row -/
theorem grown_app {w W w2 : World} {p n size base : Nat} {T : TypeId} {v : Value} {xs : List Value} (h : w.grownBy W (some p)) (hg : W.grownBy w2 v.ownBlock) (ho : W.ownsRow base T size v n xs) (hb : w.heap.size ≤ base) : w.grownBy w2 (some p) :=
  ⟨hg.os.trans h.os, hg.tape.trans h.tape, hg.output.trans h.output, Nat.le_trans h.size hg.size, fun k hk hr => (hg.block k (Nat.lt_of_lt_of_le hk h.size) (fun e => by
    have := (ho.lt k e.symm).1
    omega)).trans (h.block k hk hr)⟩
theorem MAt.app {w w2 : World} {p T n size base : Nat} {Ty : TypeId} {q : List Int} {a s : Int} {v : Value} {xs : List Value} (h : MAt w p T q a s) (hg : w.grownBy w2 v.ownBlock) (ho : w.ownsRow base Ty size v n xs) (hp : p < base) : MAt w2 p T q a s :=
  h.of_block (hg.block p h.lt (fun e => by have := (ho.lt p e.symm).1; omega))
/-- the token that is taken lies in block X; the row v, and the Match, are as they were -/
def CutT (w : World) (S p T X : Nat) (q : List Int) (a s : Int) (v : Value) (acc : List Tk) (sz x : Int) (o : List Int) (m : Nat) (wx : World) : Prop :=
  ∃ A c, wx.heap[X]? = some (.cells #[.int .i64 a, .int .i64 sz, .slice A m c, .int .i64 x] 49 (0, 0)) ∧ Us (fun b => v.ownBlock ≠ some b ∧ S ≤ b) wx (.slice A m c) o ∧ OwnTkB S wx v acc ∧ MAt wx p T q a s ∧ w.grownBy wx (some p)
def heldOf (p : Nat) (w : World) : Nat := (intOf ((w.cell? ⟨p, 9, none⟩).getD (.int .i64 0))).toNat
theorem MAt.heldW {w : World} {p T : Nat} {q : List Int} {a s : Int} (h : MAt w p T q a s) : heldOf p w = q.length := by
  obtain ⟨_, c9, _⟩ := h.cells
  simp [heldOf, c9, intOf]
theorem tk_cells {w : World} {g : Nat} {y0 y1 y2 y3 : Value} {t : TypeId} (hp : w.heap[g]? = some (.cells #[y0, y1, y2, y3] t (0, 0))) : w.cell? ⟨g, 0, none⟩ = some y0 ∧ w.cell? ⟨g, 1, none⟩ = some y1 ∧ w.cell? ⟨g, 2, none⟩ = some y2 ∧ w.cell? ⟨g, 3, none⟩ = some y3 := by
  refine ⟨?_, ?_, ?_, ?_⟩ <;> (rw [cell_of_row _ _ _ _ _ _ hp]; rfl)
theorem take_r3 {s st : Int} {L a k : Nat} (h : s + ((a + L : Nat) : Int) = st + k) : s + L + (a : Int) = st + k := by omega
theorem take_r1 {acc l ts : List Tk} {t : Tk} (h : acc ++ t :: l = ts) : acc ++ [t] ++ l = ts := by rw [← h]; simp
set_option maxHeartbeats 6400000 in
theorem mtake_any (e : Bool) (w : World) (p T : Nat) (q : List Int) (at_ st : Int) (hp : MAt w p T q at_ st) (B : Nat) (rs : List Rl) (ht : TrieOK w B T rs) (hB : B ≤ p) (h0 : 0 ≤ at_) (h9 : at_ ≤ 1099511627776) (hs0 : 0 ≤ st) (hs9 : st ≤ 1099511627776)
    (ts : List Tk) (rest : List Int) (k : Nat) (hv : tkE rs e at_ q = (ts, rest, k)) :
    Calls Try.prog 29 #[.pointer (some ⟨p, 0, none⟩), .bool e] w fun en w' => ∃ v, en = .returned v ∧ OwnTkB w.heap.size w' v ts ∧ MAt w' p T rest (at_ + q.length - rest.length) (st + k) ∧ w.grownBy w' (some p) := by
  obtain ⟨i0, hi, hz0, HZ1, hz2⟩ := info_parts infotok
  have h8 := hp.le8
  have hlt := hp.lt
  have hk8 : k ≤ 72 := by
    have := (ht.good.tkE_rest e at_ q).2.2.1
    rw [hv] at this
    have h2 : q.length * q.length ≤ 8 * 8 := Nat.mul_le_mul h8 h8
    simp only at this
    omega
  obtain ⟨L0, hL0⟩ : ∃ L0, q.length = L0 := ⟨_, rfl⟩
  rw [hL0] at h8 ⊢
  have HP := Lib.hid hp
  have HT := Lib.hid ht
  have HG := Lib.hid ht.good
  have HV := Lib.hid hv
  have HL0 := Lib.hid hL0
  clear hp ht hv hL0
  go_enter Try.func29, Try.ntmps29
  go_wp2
  go_loopw [5] (fun v wr => ∃ (acc : List Tk) (q' : List Int) (a' s' : Int), Hid (OwnTkB w.heap.size wr v acc) ∧ Hid (MAt wr p T q' a' s') ∧ acc.length + q'.length ≤ L0 ∧ Hid (acc ++ (tkE rs e a' q').1 = ts) ∧ Hid ((tkE rs e a' q').2.1 = rest) ∧ Hid (s' + (tkE rs e a' q').2.2 = st + k) ∧ a' + q'.length = at_ + L0 ∧ 0 ≤ s' ∧ Hid (w.grownBy wr (some p))) (fun _ wr => heldOf p wr)
  case atStart => exact ⟨[], q, at_, st, OwnTkB.nil _ _, HP.out, by rw [HL0.out]; simp, by rw [HV.out]; exact rfl, by rw [HV.out]; exact rfl, by rw [HV.out]; exact rfl, by rw [HL0.out], hs0, grownR w _⟩
  case round =>
    obtain ⟨acc, q', a', s', ho, hm, hle, he1, he2, he3, hea, hs', hg⟩ := hrel
    have hs9' : s' ≤ 2199023255552 := by have := he3.out; omega
    have hw9 := hm.out.heldW
    have hmlt := hm.out.lt
    obtain ⟨_, c9, _⟩ := hm.out.cells
    have HW9 := Lib.hid hw9
    obtain ⟨L, hL⟩ : ∃ L, q'.length = L := ⟨_, rfl⟩
    rw [hL] at c9 hle hea
    have HL := Lib.hid hL
    clear hw9 hL
    by_cases hq : L = 0
    · have hq0 : q' = [] := List.eq_nil_of_length_eq_zero (by rw [HL.out]; exact hq)
      have h1 := he1.out
      have h2 := he2.out
      have h3 := he3.out
      rw [hq0, tkE_nil] at h1 h2 h3
      have hm2 := hm.out
      rw [hq0] at hm2
      have HE1 := Lib.hid (show acc = ts by simpa using h1)
      have HE2 := Lib.hid (show rest = [] from h2.symm)
      have HE3 := Lib.hid (show s' = st + k by simpa using h3)
      have HM2 := Lib.hid hm2
      have hd : decide ((L : Int) > 0) = false := by simp; omega
      subst hq
      clear h1 h2 h3 hm2 hq0
      go_wp2
      go_ret
      refine ⟨_, rfl, by rw [← HE1.out]; exact ho.out, ?_, hg.out⟩
      rw [HE2.out, ← HE3.out, show at_ + (L0 : Int) - (([] : List Int).length : Nat) = a' from by simp; omega]
      exact HM2.out
    have hL1 : 1 ≤ L := by omega
    have hne : q' ≠ [] := by intro e; rw [e] at HL; have := HL.out; simp at this; omega
    have hd : decide ((L : Int) > 0) = true := by simp; omega
    obtain ⟨k1, l1, o1, hlo, _⟩ := HG.out.long q'
    have hop : opens rs q' = o1 := by unfold opens; rw [hlo]
    have HLO := Lib.hid hlo
    have HOP := Lib.hid hop
    have HNE := Lib.hid hne
    have hBw : Below B w wr := below_grownP (Below.refl B w) hg.out hB (by omega)
    have hsw := hg.out.size
    clear hlo hop hne
    go_wp2_with fail
    refine (mlook_any wr p T q' a' s' hm.out B rs (HT.out.below hBw (Nat.le_refl _)) hB hs' (by omega) k1 l1 o1 HLO.out).mono ?_
    rintro en w1 ⟨rfl, hm1, hg1⟩
    rw [HL.out] at hm1
    have HM1 := Lib.hid hm1
    have HO1 := Lib.hid (ho.out.past hg1 hlt)
    have HG1 := Lib.hid (grown_seq hg.out hg1)
    have hs1 := hg1.size
    clear hm1 hg1 c9 hd
    have HBR : e = false → o1 = true → Hid (acc = ts ∧ rest = q' ∧ s' + L = st + k) := fun h1 h2 => by
      have g1 := he1.out
      have g2 := he2.out
      have g3 := he3.out
      rw [h1, tkE_open HNE.out (by rw [HOP.out]; exact h2)] at g1 g2 g3
      exact ⟨by simpa using g1, g2.symm, by rw [← HL.out]; exact g3⟩
    have HB2 := Lib.hid HBR
    clear HBR
    have hcase : (e = false ∧ o1 = true) ∨ (e = true ∧ o1 = true) ∨ o1 = false := by cases e <;> cases o1 <;> simp
    rcases hcase with ⟨rfl, rfl⟩ | hcase
    · obtain ⟨h1, h2, h3⟩ := (HB2.out rfl rfl).out
      have H1 := Lib.hid h1
      have H2 := Lib.hid h2
      have H3 := Lib.hid h3
      clear h1 h2 h3
      go_wp2
      go_ret
      refine ⟨_, rfl, by rw [← H1.out]; exact HO1.out, ?_, HG1.out⟩
      rw [H2.out, ← H3.out, HL.out, show at_ + (L0 : Int) - L = a' from by omega]
      exact HM1.out
    have HGO : Hid (e = true ∨ opens rs q' = false) := by
      rcases hcase with ⟨h, _⟩ | h
      · exact .inl h
      · exact .inr (by rw [HOP.out]; exact h)
    clear HB2
    rcases hcase with ⟨rfl, rfl⟩ | rfl
    all_goals (
    obtain ⟨s, x, o, hst, hsp⟩ := HG.out.stepP HNE.out
    obtain ⟨n, rfl⟩ : ∃ n : Nat, s = n := ⟨s.toNat, by have := hsp.lo; omega⟩
    have hn1 : 1 ≤ n := by have := hsp.lo; omega
    have hn2 : n ≤ L := by have := hsp.hi; rw [HL.out] at this; omega
    obtain ⟨m, hm0⟩ : ∃ m, o.length = m := ⟨_, rfl⟩
    have HM0 := Lib.hid hm0
    have hstep := HG.out.step HLO.out
    have hstepN := HG.out.stepN HLO.out
    rw [hst] at hstep hstepN
    have HSTEP := Lib.hid hstep
    have HSTEPN := Lib.hid hstepN
    have hcons := tkE_cons (at_ := a') HNE.out HGO.out hst (by omega)
    rw [HL.out, show ((n : Nat) : Int).toNat = n from by omega] at hcons
    have hne1 := he1.out
    have hne2 := he2.out
    have hne3 := he3.out
    rw [hcons] at hne1 hne2 hne3
    have HNE1 := Lib.hid hne1
    have HNE2 := Lib.hid hne2
    have HNE3 := Lib.hid hne3
    clear hst hsp hm0 hstep hstepN hcons hne1 hne2 hne3 HGO he1 he2 he3 HV HP
    obtain ⟨d0, d9, d10, _, df, _⟩ := HM1.out.cells
    have D0 := Lib.hid d0
    have D10 := Lib.hid d10
    obtain ⟨A3, c3, rfl, hat⟩ := HO1.out.form
    have hat2 := hat.fits
    have hat3 := hat.small
    unfold maxLen at hat3
    have hp1 : p < w1.heap.size := HM1.out.lt
    have hsw1 : w.heap.size ≤ w1.heap.size := HG1.out.size
    clear hat hm ho hg
    go_upto_if 32 with fail
    obtain ⟨W1, hW1⟩ : ∃ W1, W1 = w1.alloc (.cells #[.int .i64 a', .int .i64 1, .slice none 0 0, .int .i64 3] 49) := ⟨_, rfl⟩
    obtain ⟨X, hX⟩ : ∃ X, X = w1.heap.size := ⟨_, rfl⟩
    have hX1 : w.heap.size ≤ X := by omega
    have hX2 : p < X := by omega
    have hblk : W1.heap[X]? = some (.cells #[.int .i64 a', .int .i64 1, .slice none 0 0, .int .i64 3] 49 (0, 0)) := by rw [hW1, hX]; exact heap_alloc_new w1 _
    have hb1 : Below w1.heap.size w1 W1 := by rw [hW1]; exact (Below.refl _ _).alloc (Nat.le_refl _) _
    have hXW : X < W1.heap.size := heap_lt0 hblk
    have HBLK := Lib.hid hblk
    have HB1 := Lib.hid hb1
    have HXE := Lib.hid hX
    rw [← hW1, ← hX]
    have hpW : p < W1.heap.size := by omega
    have D0' := Lib.hid ((hb1.cell (p := ⟨p, 0, none⟩) hp1).trans d0)
    have D10' := Lib.hid ((hb1.cell (p := ⟨p, 10, none⟩) hp1).trans d10)
    have HO2 := Lib.hid (HO1.out.below hb1 (Nat.le_refl _))
    have HM2 := Lib.hid (HM1.out.below hb1 hp1)
    have HG2 := Lib.hid (grown_seq HG1.out (grown_below (p := some p) hb1))
    clear hW1 hX hblk hb1 d0 d9 d10 df D0 D10
    go_cut [9] (fun s9 wx => s9 = .pointer (some ⟨X, 0, none⟩) ∧ CutT w w.heap.size p T X q' a' (s' + L) (.slice A3 acc.length c3) acc n x o m wx)
    case first =>
      by_cases hk : k1 < 0
      · have he := HSTEPN.out hk
        injection he with e1 he
        injection he with e2 e3
        have hm0 : m = 0 := by rw [← HM0.out, e3]; rfl
        have hn0 : n = 1 := by omega
        subst e2 e3 hm0 hn0
        clear e1
        have hd : decide (k1 ≥ 0) = false := by simp; omega
        go_wp2
        go_meet
        exact ⟨rfl, none, 0, HBLK.out, ⟨none, 0, rfl, by simp, by simp [maxLen], .inl rfl⟩, HO2.out, HM2.out, HG2.out⟩
      · rcases HSTEP.out with ⟨h1, _⟩ | ⟨m1, h1, h2, h3, h4, K, h5, hK, h6, h7⟩
        · exact absurd h1 hk
        injection h7 with e1 h7
        injection h7 with e2 e3
        subst h5 e2
        have hd : decide (0 ≤ (K : Int)) = true := by simp
        have HK := Lib.hid hK
        have hoe : rs[K].2 = o := e3.symm
        have HOE := Lib.hid hoe
        obtain rfl : l1 = n := e1.symm
        clear hk h6 e3 h1 h2 h3 h4 e1 hoe
        go_wp2_with fail
        refine wp_region_mixe (G := SameB p) [(0, false), (1, false), (2, false), (3, false), (4, false), (5, false), (6, false), (7, false), (8, false), (9, false), (10, true), (11, false), (12, true)]
          (SameB.refl _) (SameB.trans _) (by kernel_rfl) rfl (by kernel_rfl) (by kernel_rfl) ?_
        iterate 3 (refine mixe_one rfl rfl ?_; go_big_quiet_step ((intro _; rfl)); refine wpQuiet_nil ?_)
        refine mixe_one rfl rfl ?_
        go_big_quiet_step ((intro hh; rw [hh.cell, World.cell?_drew, D10'.out]; exact ⟨rfl, rfl⟩))
        refine wpQuiet_nil ?_
        iterate 4 (refine mixe_one rfl rfl ?_; go_big_quiet_step ((intro _; rfl)); refine wpQuiet_nil ?_)
        refine mixe_one rfl rfl ?_
        go_big_quiet_step ((intro hh; rw [hh.cell, World.cell?_drew, D0'.out]; exact ⟨rfl, rfl⟩))
        refine wpQuiet_nil ?_
        iterate 1 (refine mixe_one rfl rfl ?_; go_big_quiet_step ((intro _; rfl)); refine wpQuiet_nil ?_)
        refine mixe_call rfl ?_
        have hBW : Below B w W1 := (below_grownP (Below.refl B w) HG2.out hB (by omega))
        go_wp2_with fail
        refine (out_ok W1.drew B T rs (HT.out.below hBW.drew (Nat.le_refl _)) (by show B ≤ W1.heap.size; omega) K HK.out o m HOE.out HM0.out).mono ?_
        rintro en w2 ⟨A', c', rfl, hu, hb2⟩
        have hb12 : Below W1.heap.size W1 w2 := (Below.refl _ _).drew.trans hb2
        have hblk2 := (hb12.block X hXW).trans HBLK.out
        have HU := Lib.hid hu
        have HO3 := Lib.hid (HO2.out.below hb12 (Nat.le_refl _))
        have HM3 := Lib.hid (HM2.out.below hb12 hpW)
        have HG3 := Lib.hid (grown_seq HG2.out (grown_below (p := some p) hb12))
        have hsb := SameB.of (R := p) hb2 (by show p < W1.heap.size; omega)
        have HB12 := Lib.hid hb12
        clear hu hb12 hb2
        go_wp2_with fail
        refine ⟨hsb, ?_⟩
        iterate 1 (refine mixe_one rfl rfl ?_; go_big_quiet_step ((intro _; rfl)); refine wpQuiet_nil ?_)
        refine mixe_call rfl ?_
        go_wp2_with (refine wpList_store_row rfl _ _ _ rfl X #[.int .i64 a', .int .i64 n, .slice A' m c', .int .i64 0] rfl rfl _ _ hblk2 infotok4 rfl (by simp [Value.oneCell']) ?_)
        have hq5 := setRow_heap w2 X _ #[.int .i64 a', .int .i64 n, .slice A' m c', .int .i64 0] _ _ hblk2
        refine ⟨⟨setRow_other _ _ _ _ (by omega), Nat.le_of_eq (setRow_size _ _ _).symm⟩, ?_⟩
        refine NoPanic.normal ?_
        have hxe := HXE.out
        have hbF : Below w1.heap.size w1 (w2.setRow X #[.int .i64 a', .int .i64 n, .slice A' m c', .int .i64 0]) := below_row (HB1.out.trans (HB12.out.mono HB1.out.size)) (by omega) _
        have hU5 : Us (fun b => (Value.slice A3 acc.length c3).ownBlock ≠ some b ∧ w.heap.size ≤ b) (w2.setRow X #[.int .i64 a', .int .i64 n, .slice A' m c', .int .i64 0]) (.slice A' m c') o := by
          refine HU.out.step (Nat.le_of_eq (setRow_size _ _ _).symm) fun b hb hx => ⟨⟨fun e => ?_, ?_⟩, setRow_other _ _ _ _ ?_⟩
          · have h1 := own_lt HO1.out.choose_spec.1 e
            have : W1.heap.size ≤ b := hx
            omega
          · have : W1.heap.size ≤ b := hx
            omega
          · have : W1.heap.size ≤ b := hx
            omega
        have HF := Lib.hid hbF
        have HU5 := Lib.hid hU5
        have HQ5 := Lib.hid hq5
        clear hxe hbF hU5 hq5 hsb hblk2
        go_wp2_with fail
        go_meet
        exact ⟨rfl, A', c', HQ5.out, HU5.out, HO1.out.below HF.out (Nat.le_refl _), HM1.out.below HF.out hp1, grown_seq HG1.out (grown_below HF.out)⟩
    case rest =>
      obtain ⟨rfl, A4, c4, hblk4, hu4, ho4, hm4, hg4⟩ := hcut
      obtain ⟨w4, rfl⟩ : ∃ w4 : World, w4 = wc := ⟨_, rfl⟩
      obtain ⟨g0, g1, g2, g3⟩ := tk_cells hblk4
      have hX4 : X < w4.heap.size := heap_lt0 hblk4
      have HBLK4 := Lib.hid hblk4
      have HU4 := Lib.hid hu4
      have HO4 := Lib.hid ho4
      have HM4 := Lib.hid hm4
      have HG4 := Lib.hid hg4
      clear hblk4 hu4 ho4 hm4 hg4 HO1 HO2 HM1 HM2 HG1 HG2 HBLK HB1 D0' D10'
      go_wp2_with fail
      refine (mdrop_any w4 p T q' a' (s' + L) HM4.out n hn1 (by rw [HL.out]; exact hn2) (by omega) (by omega)).mono ?_
      rintro en w5 ⟨rfl, hm5, hg5⟩
      have hblk5 := (hg5.block X hX4 (by intro e; injection e with e; omega)).trans HBLK4.out
      obtain ⟨f0, f1, f2, f3⟩ := tk_cells hblk5
      obtain ⟨xs, hown, hx⟩ := HO4.out.past hg5 hlt
      have hu5 := HU4.out.past hg5 (fun b hx e => by have := hx.2; omega)
      have hs5 := hg5.size
      have hs4 := HG4.out.size
      have HX := Lib.hid hx
      have HU5 := Lib.hid hu5
      have HM5 := Lib.hid hm5
      have HG5 := Lib.hid (grown_seq HG4.out hg5)
      have HF5 := Lib.hid (show (∀ o', Below w5.heap.size w5 (w5.alloc o')) from fun o' => (Below.refl _ _).alloc (Nat.le_refl _) _)
      clear hx hu5 hm5 hg5 hblk5 g0 g1 g2 g3
      go_wp2_with (at_builtin; refine wpList_appB _ rfl _ _ 36 rfl w.heap.size 49 i0 _ 4 48 Try.underlying36 hi hz0 HZ1 hz2 rfl (by decide) _ _ _ rfl (hown.alloc _) (w5.heap.size + 1) _ 1 1 [.int .i64 a', .int .i64 n, .slice A4 m c4, .int .i64 x] rfl rfl ?c1 ?c2 ?c3 ?c4 ?c5 ?_)
      case c1 => exact Rd_newR _ _ _ _ rfl
      case c2 => intro u hu; simp at hu; rcases hu with rfl | rfl | rfl | rfl <;> rfl
      case c3 => simp only [maxLen]; omega
      case c4 => omega
      case c5 => simp; omega
      intro v' w6 hown6 hg6 hv6
      have hpush : OwnTkB w.heap.size w6 v' (acc ++ [⟨a', n, o, x⟩]) := by
        refine OwnTkB.push (v := .slice A3 acc.length c3) (xs := xs) (ys := [.int .i64 a', .int .i64 n, .slice A4 m c4, .int .i64 x]) (n := acc.length + 1) (by simp) hown6 (HX.out.step (HF5.out _).size fun b hb hx => ⟨hx, (HF5.out _).block b hb⟩) (Tks.one (HU5.out.step (HF5.out _).size fun b hb hx => ⟨hx, (HF5.out _).block b hb⟩)) hg6 (by simpa using hv6)
      have hm6 : MAt w6 p T (q'.drop n) (a' + n) (s' + L) := (HM5.out.below (HF5.out _) HM5.out.lt).app hg6 (hown.alloc _) hlt
      have hg6' : w.grownBy w6 (some p) := grown_app (grown_seq HG5.out (grown_below (HF5.out _))) hg6 (hown.alloc _) (Nat.le_refl _)
      have hh6 : heldOf p w6 < heldOf p wr := by rw [hm6.heldW, HW9.out, List.length_drop, HL.out]; omega
      have hr1 := take_r1 HNE1.out
      have hr3 := take_r3 HNE3.out
      have HPU := Lib.hid hpush
      have HM6 := Lib.hid hm6
      have HG6 := Lib.hid hg6'
      have HH6 := Lib.hid hh6
      have HR1 := Lib.hid hr1
      have HR3 := Lib.hid hr3
      clear hown6 hg6 hv6 hpush hm6 hg6' hh6 hr1 hr3 hown
      go_wp2
      go_roundw
      case rel => exact ⟨_, q'.drop n, a' + n, s' + L, HPU, HM6, by simp only [List.length_append, List.length_singleton, List.length_drop, HL.out]; omega, HR1, HNE2, HR3, by rw [List.length_drop, HL.out]; omega, by omega, HG6⟩
      case measure => exact HH6.out)
end Go.Proofs.Ytmjcnopkckkaoaa
