/- Texts of this seat, one behind the other: TabJ, TabE, TabR. -/
import Derived.Test.YtikbmagolgcbfaaZ1
import Derived.Test.YtikbmagolgcbfaaZ11
import Derived.Test.YtikbmagolgcbfaaZ12
import Derived.Test.YtikbmagolgcbfaaZ3
import Derived.Test.YtikbmagolgcbfaaZ9
import Derived.Test.YtikbmagolgcbfaaZ8
namespace Go.Proofs.Ytikbmagolgcbfaa
set_option linter.unusedVariables false
set_option linter.unusedSimpArgs false
set_option linter.unnecessarySimpa false
open Go.RowKit
def hitJ (ahead us : List Int) (r : List Int × List Int) : Bool := decide (0 < ahead.length ∧ ahead.length < r.1.length ∧ r.1.length ≤ ahead.length + us.length ∧ (ahead ++ us).take r.1.length = r.1)
theorem joinsR_drop {rs : List (List Int × List Int)} {ahead us : List Int} {K : Nat} (hK : K < rs.length) {v : Bool} (h : joinsR (rs.drop K) ahead us = v) : (hitJ ahead us rs[K] || joinsR (rs.drop (K + 1)) ahead us) = v := by
  rw [List.drop_eq_getElem_cons hK] at h
  exact h
theorem joinsR_end {rs : List (List Int × List Int)} {ahead us : List Int} {K : Nat} (hK : rs.length ≤ K) {v : Bool} (h : joinsR (rs.drop K) ahead us = v) : v = false := by
  rw [List.drop_of_length_le hK] at h
  exact h.symm

set_option maxRecDepth 100000 in
set_option maxHeartbeats 6400000 in
theorem ljoins_any (n : Nat) (A : Option Addr) (c : Nat) (rs : List Rl) (B : Nat) (w : World) (hr : RsAt w B A n c rs) (hB : B ≤ w.heap.size)
    (na : Nat) (Aa : Option Addr) (ca : Nat) (ahead : List Int) (Ba : Nat) (hna : na = ahead.length) (hra : Rd w Ba Aa (ahead.map (Value.int .i64))) (hBa : Ba ≤ w.heap.size) (hca : na ≤ 1048576)
    (nu : Nat) (Au : Option Addr) (cu : Nat) (us : List Int) (Bu : Nat) (hnu : nu = us.length) (hru : Rd w Bu Au (us.map (Value.int .i64))) (hBu : Bu ≤ w.heap.size) (hcu : nu ≤ 1048576) (v : Bool) (hv : joinsR rs ahead us = v) :
    Calls Try.prog 21 #[.slice A n c, .slice Aa na ca, .slice Au nu cu] w fun e w' => e = .returned (.bool v) ∧ Below w.heap.size w w' := by
  have HR := Lib.hid hr
  have HRA := Lib.hid hra
  have HRU := Lib.hid hru
  have HNA := Lib.hid hna
  have HNU := Lib.hid hnu
  have HV := Lib.hid hv
  have hn1 := hr.fits
  have hn2 := hr.small
  unfold maxLen at hn2
  clear hr hra hru hna hnu hv
  go_enter Try.func21, Try.ntmps21
  go_wp2_with (at_builtin; refine wpList_appI rfl _ _ rfl w.heap.size (.slice none 0 0) [] rfl (IR.nil _ _) Aa na ca ahead rfl HNA.out Ba HRA.out (by simp; have := HNA.out; omega) (Nat.le_refl _) ?_)
  intro v1 w1 HI1 HG1
  have hb1 : Below w.heap.size w w1 := IR.keepsB (Below.refl _ w) HG1.out (IR.nil w w.heap.size) (Nat.le_refl _) (Nat.le_refl _)
  have HB1 := Lib.hid hb1
  have hs1 := hb1.size
  have HI1' := Lib.hid (show IR w1 w.heap.size v1 ahead from HI1.out)
  clear hb1 HG1 HI1
  obtain ⟨A1, c1, rfl, -, -⟩ := HI1'.out.form
  rw [← HNA.out] at HI1' ⊢
  go_wp2_with (at_builtin; refine wpList_appI rfl _ _ rfl w.heap.size (.slice A1 na c1) ahead rfl HI1'.out Au nu cu us rfl HNU.out Bu (HRU.out.below (HB1.out.mono hBu) (Nat.le_refl _)) (by have := HNA.out; have := HNU.out; omega) hs1 ?_)
  intro v2 w2 HI2 HG2
  have hb2 := IR.keepsB HB1.out HG2.out HI1'.out (Nat.le_refl _) hs1
  have HB2 := Lib.hid hb2
  have hs2 := hb2.size
  obtain ⟨A2, c2, rfl, hc2, hc3⟩ := HI2.out.form
  obtain ⟨N, hN⟩ : ∃ N, (ahead ++ us).length = N := ⟨_, rfl⟩
  have HR2 := Lib.hid HI2.out.rd
  have hNs : N = na + nu := by rw [← hN, List.length_append, ← HNA.out, ← HNU.out]
  rw [hN] at hc2 ⊢
  have HN := Lib.hid hN
  have HNS := Lib.hid hNs
  unfold maxLen at hc3
  clear hNs hb2 HG2 HI2 HI1' hN HB1 hs1
  go_wp2_with fail
  go_loopw [16] (fun i wr => ∃ K : Nat, K ≤ n ∧ i = .int .i64 K ∧ Hid (Below w.heap.size w wr) ∧ Hid (Below w2.heap.size w2 wr) ∧ Hid (joinsR (rs.drop K) ahead us = v)) (fun i _ => n - (intOf i).toNat)
  case atStart => exact ⟨0, by omega, rfl, HB2, Lib.hid (Below.refl _ _), HV⟩
  case round =>
    obtain ⟨K, hK, rfl, hb, hb', hf⟩ := hrel
    have hsz := hb'.out.size
    by_cases hKn : K = n
    · have hK' : ¬ K < n := by omega
      have HE := Lib.hid (joinsR_end (by rw [← HR.out.len, hKn]; omega) hf.out)
      clear hKn hf
      go_wp2
      go_ret
      exact ⟨ret_bool HE.out, hb.out⟩
    have hK' : K < n := by omega
    have hK1 : K < rs.length := by rw [← HR.out.len]; exact hK'
    obtain ⟨b, of2, rfl, hbB, A3, n3, c4, A4, n4, c5, g1, g2, e1, e2, e3, e4, f1, f2, f3, f4⟩ := HR.out.at hK1
    have k1 := (hb.out.cell (p := ⟨b, of2 + K * 2, none⟩) (by show b < _; omega)).trans g1
    have k2 := (hb.out.cell (p := ⟨b, of2 + K * 2 + 1, none⟩) (by show b < _; omega)).trans g2
    have k3 : (0 : Int) ≤ K := by omega
    have k4 : (K : Int) < n := by omega
    have HJ := Lib.hid (joinsR_drop hK1 hf.out)
    obtain ⟨In, hIn⟩ : ∃ In, In = rs[K].1 := ⟨_, rfl⟩
    have hhit : hitJ ahead us rs[K] = decide (0 < na ∧ na < n3 ∧ n3 ≤ N ∧ (ahead ++ us).take n3 = In) := by unfold hitJ; rw [← hIn, HNS.out, HNA.out, HNU.out, e1, hIn]
    rw [← hIn] at e1 e4
    have hba : Below wr.heap.size wr (wr.alloc (.cells #[.slice A3 n3 c4, .slice A4 n4 c5] 54)) := (Below.refl _ _).alloc (Nat.le_refl _) _
    have E1 := Lib.hid e1
    have E4 := Lib.hid e4
    have HH := Lib.hid hhit
    have HBA := Lib.hid hba
    have M1 : Hid (n3 ≤ 9223372036854775807) := by unfold maxLen at e3; exact (show n3 ≤ 9223372036854775807 by omega)
    have HE5 : Hid (∀ q, Rd ((wr.alloc (.cells #[.slice A3 n3 c4, .slice A4 n4 c5] 54)).drewN q) B A3 (In.map (Value.int .i64))) := fun q => E4.out.below ((hb.out.trans (below_dr (HBA.out.mono hb.out.size) q)).mono hB) (Nat.le_refl _)
    have HR5 : Hid (∀ q, Rd ((wr.alloc (.cells #[.slice A3 n3 c4, .slice A4 n4 c5] 54)).drewN q) w2.heap.size A2 ((ahead ++ us).map (Value.int .i64))) := fun q => Rd.below (show Rd w2 w2.heap.size A2 ((ahead ++ us).map (Value.int .i64)) from HR2.out) (hb'.out.trans (below_dr (HBA.out.mono hsz) q)) (Nat.le_refl _)
    have HX : Hid (∀ q, Below w.heap.size w ((wr.alloc (.cells #[.slice A3 n3 c4, .slice A4 n4 c5] 54)).drewN q)) := fun q => hb.out.trans (below_dr (HBA.out.mono hb.out.size) q)
    have HX' : Hid (∀ q, Below w2.heap.size w2 ((wr.alloc (.cells #[.slice A3 n3 c4, .slice A4 n4 c5] 54)).drewN q)) := fun q => hb'.out.trans (below_dr (HBA.out.mono hsz) q)
    unfold maxLen at e3 f3
    clear g1 g2 e1 e4 f1 f4 hIn hhit hba hKn hf hb hb'
    by_cases h1 : 0 < na
    · have d1 : decide ((na : Int) > 0) = true := by simp; omega
      have d1' : decide (0 < na) = true := by simp; omega
      by_cases h2 : na < n3
      · have d2 : decide ((n3 : Int) > (na : Int)) = true := by simp; omega
        have d2' : decide (na < n3) = true := by simp; omega
        by_cases h3 : n3 ≤ N
        · have d3 : decide ((n3 : Int) ≤ (N : Int)) = true := by simp; omega
          have d3' : decide (n3 ≤ N) = true := by simp; omega
          have HTL : Hid (n3 = ((ahead ++ us).take n3).length) := by show n3 = _; rw [List.length_take, HN.out]; omega
          have k5 : n3 ≤ c2 := by omega
          have k6 : (0 : Int) ≤ n3 := by omega
          have k7 : (n3 : Int) ≤ N := by omega
          by_cases he : In = (ahead ++ us).take n3
          · have HEQ := Lib.hid (eqB_t he)
            have hh : hitJ ahead us rs[K] = true := by rw [HH.out]; exact decide_eq_true ⟨h1, h2, h3, he.symm⟩
            have HF : Hid (v = true) := by have := HJ.out; rw [hh] at this; exact this.symm
            clear hh he
            go_wp2_with fail
            go_quiet ((go_at_call_of 24 (Value.slice A3 n3 c4); exact Calls.quiet_of (units_v n3 n3 A3 A2 c4 c2 In ((ahead ++ us).take n3) B w2.heap.size _ true HEQ.out E1.out HTL.out (HE5.out _) (rd_tk n3 (HR5.out _)) M1.out)))
            go_wp2
            go_ret
            exact ⟨ret_bool HF.out, HX.out _⟩
          · have HEQ := Lib.hid (eqB_f he)
            have hh : hitJ ahead us rs[K] = false := by rw [HH.out]; exact decide_eq_false (fun h => he h.2.2.2.symm)
            have HF : Hid (joinsR (rs.drop (K + 1)) ahead us = v) := by have := HJ.out; rw [hh] at this; exact this
            clear hh
            clear he
            go_wp2_with fail
            go_quiet ((go_at_call_of 24 (Value.slice A3 n3 c4); exact Calls.quiet_of (units_v n3 n3 A3 A2 c4 c2 In ((ahead ++ us).take n3) B w2.heap.size _ false HEQ.out E1.out HTL.out (HE5.out _) (rd_tk n3 (HR5.out _)) M1.out)))
            go_wp2
            go_roundw
            case rel => exact ⟨K + 1, by omega, by go_num, Lib.hid (HX.out _), Lib.hid (HX'.out _), HF⟩
            case measure => simp [intOf]; omega
        · have d3 : decide ((n3 : Int) ≤ (N : Int)) = false := by simp; omega
          have d3' : decide (n3 ≤ N) = false := by simp; omega
          have hh : hitJ ahead us rs[K] = false := by rw [HH.out]; exact decide_eq_false (fun h => h3 h.2.2.1)
          have HF : Hid (joinsR (rs.drop (K + 1)) ahead us = v) := by have := HJ.out; rw [hh] at this; exact this
          clear hh
          go_wp2_with fail
          go_quiet (fail)
          go_wp2
          go_roundw
          case rel => exact ⟨K + 1, by omega, by go_num, Lib.hid (HX.out _), Lib.hid (HX'.out _), HF⟩
          case measure => simp [intOf]; omega
      · have d2 : decide ((n3 : Int) > (na : Int)) = false := by simp; omega
        have d2' : decide (na < n3) = false := by simp; omega
        have hh : hitJ ahead us rs[K] = false := by rw [HH.out]; exact decide_eq_false (fun h => h2 h.2.1)
        have HF : Hid (joinsR (rs.drop (K + 1)) ahead us = v) := by have := HJ.out; rw [hh] at this; exact this
        clear hh
        go_wp2_with fail
        go_quiet (fail)
        go_wp2
        go_roundw
        case rel => exact ⟨K + 1, by omega, by go_num, Lib.hid (HX.out _), Lib.hid (HX'.out _), HF⟩
        case measure => simp [intOf]; omega
    · have d1 : decide ((na : Int) > 0) = false := by simp; omega
      have d1' : decide (0 < na) = false := by simp; omega
      have hh : hitJ ahead us rs[K] = false := by rw [HH.out]; exact decide_eq_false (fun h => h1 h.1)
      have HF : Hid (joinsR (rs.drop (K + 1)) ahead us = v) := by have := HJ.out; rw [hh] at this; exact this
      clear hh
      go_wp2_with fail
      go_quiet (fail)
      go_wp2
      go_roundw
      case rel => exact ⟨K + 1, by omega, by go_num, Lib.hid (HX.out _), Lib.hid (HX'.out _), HF⟩
      case measure => simp [intOf]; omega
end Go.Proofs.Ytikbmagolgcbfaa
namespace Go.Proofs.Ytikbmagolgcbfaa
set_option linter.unusedVariables false
set_option linter.unusedSimpArgs false
set_option linter.unnecessarySimpa false
open Go.RowKit
theorem Tks.setTok {X : Nat → Prop} {w : World} {p z e : Int} {o : Value} {u : List Int} (hu : Us X w o u) : ∀ {xs : List Value} {ts : List Tk} (k : Nat), k < ts.length → Tks X w xs ts →
    Tks X w ((((xs.set (k * 4) (.int .i64 p)).set (k * 4 + 1) (.int .i64 z)).set (k * 4 + 2) o).set (k * 4 + 3) (.int .i64 e)) (ts.set k ⟨p, z, u, e⟩)
  | [], [], k, h, _ => by simp at h
  | a :: b :: s :: d :: xs, t' :: ts, 0, h, ⟨g1, g2, g3, g4, g5⟩ => ⟨rfl, rfl, hu, rfl, g5⟩
  | a :: b :: s :: d :: xs, t' :: ts, k + 1, h, ⟨g1, g2, g3, g4, g5⟩ => by
    have := Tks.setTok (p := p) (z := z) (e := e) hu k (by simpa using h) g5
    have e0 : (k + 1) * 4 = k * 4 + 1 + 1 + 1 + 1 := by omega
    rw [e0]
    exact ⟨g1, g2, g3, g4, this⟩
theorem us_nil (X : Nat → Prop) (w : World) : Us X w (.slice none 0 0) [] := ⟨none, 0, rfl, Nat.le_refl _, by simp [maxLen], .inl rfl⟩
/-- a token written in place -/
theorem OwnTk.setTok {base g n c : Nat} {w : World} {ts : List Tk} (h : OwnTk base w (.slice (some ⟨g, 0, none⟩) n c) ts) {k : Nat} (hk : k < ts.length) (p z e : Int) {o : Value} {u : List Int} (hu : Us (fun b => (Value.slice (some ⟨g, 0, none⟩) n c).ownBlock ≠ some b) w o u) :
    OwnTk base ((((w.setCell ⟨g, k * 4, none⟩ (.int .i64 p)).setCell ⟨g, k * 4 + 1, none⟩ (.int .i64 z)).setCell ⟨g, k * 4 + 2, none⟩ o).setCell ⟨g, k * 4 + 3, none⟩ (.int .i64 e)) (.slice (some ⟨g, 0, none⟩) n c) (ts.set k ⟨p, z, u, e⟩) ∧ base ≤ g := by
  obtain ⟨xs, ho, hx⟩ := h
  obtain ⟨A', c', e', h1, h2⟩ := own_form ho
  injection e' with e1 e2 e3
  subst e2
  have s1 := (ho.stored (k * 4) (.int .i64 p)).1
  have s2 := (s1.stored (k * 4 + 1) (.int .i64 z)).1
  have s3 := (s2.stored (k * 4 + 2) o).1
  have s4 := (s3.stored (k * 4 + 3) (.int .i64 e)).1
  have hst : ∀ {w' w2 : World} {j : Nat} {x : Value}, w2 = w'.setCell ⟨g, j, none⟩ x → w'.heap.size ≤ w2.heap.size ∧ ∀ b, b < w'.heap.size → (Value.slice (some ⟨g, 0, none⟩) ts.length c).ownBlock ≠ some b → (Value.slice (some ⟨g, 0, none⟩) ts.length c).ownBlock ≠ some b ∧ w2.heap[b]? = w'.heap[b]? := by
    rintro w' w2 j x rfl
    exact ⟨by rw [World.size_setCell]; exact Nat.le_refl _, fun b hb hx => ⟨hx, Below.heap_setCell _ _ _ _ (fun e => hx (by show some g = some b; rw [e]))⟩⟩
  obtain ⟨a1, b1⟩ := hst (w' := w) (j := k * 4) (x := .int .i64 p) rfl
  obtain ⟨a2, b2⟩ := hst (w' := w.setCell ⟨g, k * 4, none⟩ (.int .i64 p)) (j := k * 4 + 1) (x := .int .i64 z) rfl
  obtain ⟨a3, b3⟩ := hst (w' := (w.setCell ⟨g, k * 4, none⟩ (.int .i64 p)).setCell ⟨g, k * 4 + 1, none⟩ (.int .i64 z)) (j := k * 4 + 2) (x := o) rfl
  obtain ⟨a4, b4⟩ := hst (w' := ((w.setCell ⟨g, k * 4, none⟩ (.int .i64 p)).setCell ⟨g, k * 4 + 1, none⟩ (.int .i64 z)).setCell ⟨g, k * 4 + 2, none⟩ o) (j := k * 4 + 3) (x := .int .i64 e) rfl
  refine ⟨⟨_, by rw [List.length_set]; exact s4, ?_⟩, (ho.lt g rfl).1⟩
  exact ((((hx.step a1 b1).step a2 b2).step a3 b3).step a4 b4).setTok ((((hu.step a1 b1).step a2 b2).step a3 b3).step a4 b4) k hk
theorem OwnTk.cellsAt {base g n c : Nat} {w : World} {ts : List Tk} (h : OwnTk base w (.slice (some ⟨g, 0, none⟩) n c) ts) {k : Nat} (hk : k < ts.length) :
    ∃ A1 n1 c1, w.cell? ⟨g, k * 4, none⟩ = some (.int .i64 ts[k].pos) ∧ w.cell? ⟨g, k * 4 + 1, none⟩ = some (.int .i64 ts[k].size) ∧ w.cell? ⟨g, k * 4 + 2, none⟩ = some (.slice A1 n1 c1) ∧ w.cell? ⟨g, k * 4 + 3, none⟩ = some (.int .i64 ts[k].err) ∧
      n1 = ts[k].out.length ∧ Us (fun b => (Value.slice (some ⟨g, 0, none⟩) n c).ownBlock ≠ some b) w (.slice A1 n1 c1) ts[k].out ∧ ∀ j, w.frozen? ⟨g, j, none⟩ = false := by
  obtain ⟨xs, ho, hx⟩ := h
  obtain ⟨A', c', e', h1, h2⟩ := own_form ho
  injection e' with e1 e2 e3
  subst e2
  have hlen := Tks.length hx
  obtain ⟨s, g1, g2, g3, g4, hu⟩ := hx.at k hk
  have hu' := hu
  obtain ⟨A1, c1, rfl, e2, e3', e4⟩ := hu
  exact ⟨A1, _, c1, (ho.cellAt _ (by omega)).trans g1, (ho.cellAt _ (by omega)).trans g2, (ho.cellAt _ (by omega)).trans g3, (ho.cellAt _ (by omega)).trans g4, rfl, hu', fun j => ho.frozenAt _⟩
theorem us_set {X : Nat → Prop} {w : World} {v : Value} {us : List Int} {g j : Nat} {x : Value} (h : Us X w v us) (hX : ∀ b, X b → g ≠ b) : Us X (w.setCell ⟨g, j, none⟩ x) v us :=
  h.step (by rw [World.size_setCell]; exact Nat.le_refl _) fun b _ hx => ⟨hx, Below.heap_setCell _ _ _ _ (fun e => hX b hx e.symm)⟩
/-- the row behind K tokens -/
def mixE (rs : List (List Int × List Int)) (ts : List Tk) (K : Nat) : List Tk := encF rs [] (ts.take K) ++ ts.drop K
def ahE (rs : List (List Int × List Int)) (ts : List Tk) (K : Nat) : List Int := aheadF [] (encF rs [] (ts.take K))
theorem mixE_len (rs : List (List Int × List Int)) (ts : List Tk) (K : Nat) : (mixE rs ts K).length = ts.length := by
  unfold mixE; rw [List.length_append, encF_len, List.length_take, List.length_drop]; omega
theorem mixE_zero (rs : List (List Int × List Int)) (ts : List Tk) : mixE rs ts 0 = ts := by simp [mixE, encF]
theorem mixE_all {rs : List (List Int × List Int)} {ts : List Tk} {K : Nat} (h : ts.length ≤ K) : mixE rs ts K = encF rs [] ts := by
  unfold mixE; rw [List.take_of_length_le h, List.drop_of_length_le h, List.append_nil]
theorem mixE_at {rs : List (List Int × List Int)} {ts : List Tk} {K : Nat} (h : K < ts.length) : (mixE rs ts K)[K]'(by rw [mixE_len]; exact h) = ts[K] := by
  have hl : (encF rs [] (ts.take K)).length = K := by rw [encF_len, List.length_take]; omega
  unfold mixE
  rw [List.getElem_append_right (by omega)]
  simp [hl]
theorem mixE_next {rs : List (List Int × List Int)} {ts : List Tk} {K : Nat} (h : K < ts.length) : mixE rs ts (K + 1) = (mixE rs ts K).set K (joinT rs (ahE rs ts K) ts[K]) := by
  have hl : (encF rs [] (ts.take K)).length = K := by rw [encF_len, List.length_take]; omega
  unfold mixE ahE
  rw [encF_take h, List.drop_eq_getElem_cons h, List.set_append_right (i := K) (h := by omega), hl, Nat.sub_self, List.set_cons_zero, List.append_assoc]
  rfl
theorem ahE_next {rs : List (List Int × List Int)} {ts : List Tk} {K : Nat} (h : K < ts.length) : ahE rs ts (K + 1) = if (joinT rs (ahE rs ts K) ts[K]).err = 0 then (joinT rs (ahE rs ts K) ts[K]).out else ahE rs ts K := aheadF_take h
theorem joinT_skip {rs : List (List Int × List Int)} {ah : List Int} {t : Tk} (h : t.err ≠ 0) : joinT rs ah t = t := by unfold joinT; rw [if_neg (fun e => h e.1)]
theorem joinT_no {rs : List (List Int × List Int)} {ah : List Int} {t : Tk} (h : joinsR rs ah t.out = false) : joinT rs ah t = t := by unfold joinT; rw [if_neg (fun e => by rw [h] at e; cases e.2)]
theorem joinT_yes {rs : List (List Int × List Int)} {ah : List Int} {t : Tk} (h0 : t.err = 0) (h : joinsR rs ah t.out = true) : joinT rs ah t = ⟨t.pos, t.size, [], 3⟩ := by unfold joinT; rw [if_pos ⟨h0, h⟩]
theorem mixE_same {rs : List (List Int × List Int)} {ts : List Tk} {K : Nat} (h : K < ts.length) (hj : joinT rs (ahE rs ts K) ts[K] = ts[K]) : mixE rs ts (K + 1) = mixE rs ts K := by
  rw [mixE_next h, hj]
  have := mixE_at (rs := rs) h
  rw [← this]
  exact List.set_getElem_self _
theorem ahE_zero (rs : List (List Int × List Int)) (ts : List Tk) : ahE rs ts 0 = [] := rfl
theorem ahE_small {rs : List (List Int × List Int)} {ts : List Tk} (h : ∀ t ∈ ts, t.out.length ≤ 8) : ∀ K, K ≤ ts.length → (ahE rs ts K).length ≤ 8
  | 0, _ => by simp [ahE_zero]
  | K + 1, hK => by
    rw [ahE_next (by omega)]
    have ih := ahE_small (rs := rs) h K (by omega)
    split
    · unfold joinT
      split
      · simp
      · exact h _ (List.getElem_mem _)
    · exact ih

set_option maxRecDepth 100000 in
set_option maxHeartbeats 6400000 in
theorem lencode_any (n : Nat) (A : Option Addr) (c : Nat) (rs : List Rl) (B : Nat) (w : World) (hr : RsAt w B A n c rs) (hB : B ≤ w.heap.size) (hn : n ≤ 1048576) (hg : Good rs) (hgt : Good (turnR rs))
    (nu : Nat) (Au : Option Addr) (cu : Nat) (us : List Int) (Bu : Nat) (hnu : nu = us.length) (hru : Rd w Bu Au (us.map (Value.int .i64))) (hBu : Bu ≤ w.heap.size) (hnc : nu ≤ cu) (hcu : cu ≤ maxLen) (hl : nu ≤ 1048576) (ts : List Tk) (hv : encA rs us = ts) :
    Calls Try.prog 18 #[.slice A n c, .slice Au nu cu] w fun e w' => ∃ v, e = .returned v ∧ OwnTk w.heap.size w' v ts ∧ Below w.heap.size w w' := by
  have T1 := Lib.hid (turn_any n A c rs B w hr hB hn (fun r h => by have := hg.side r h; omega) (turnR rs) rfl)
  have HR := Lib.hid hr
  have HRU := Lib.hid hru
  have HNU := Lib.hid hnu
  have HGT := Lib.hid hgt
  have HCU := Lib.hid hcu
  obtain ⟨tk, htk⟩ : ∃ tk, rewA (turnR rs) 0 us = tk := ⟨_, rfl⟩
  have htl : tk.length ≤ nu := by rw [← htk, hnu]; exact hgt.rew_len us 0
  have hts : ∀ t ∈ tk, t.out.length ≤ 8 := fun t h => by rw [← htk] at h; exact (hgt.rew_tk us 0 t h).len
  have HV : Hid (encF rs [] tk = ts) := by rw [← htk]; exact hv
  have HTK := Lib.hid htk
  have HTS := Lib.hid hts
  clear hr hru hnu hgt hcu htk hts hv hg
  go_enter Try.func18, Try.ntmps18
  go_wp2_with fail
  refine T1.out.mono ?_
  rintro e w1 ⟨v1, rfl, ho1, hb1⟩
  obtain ⟨A1, c1, rfl, hat1⟩ := ho1.form
  obtain ⟨N1, hN1⟩ : ∃ N1, (turnR rs).length = N1 := ⟨_, rfl⟩
  rw [hN1] at hat1 ⊢
  have hs1 := hb1.size
  have L1 := Lib.hid (lall_any N1 A1 c1 (turnR rs) w1.heap.size w1 hat1 HGT.out (Nat.le_refl _) nu Au cu us Bu HNU.out (HRU.out.below (hb1.mono hBu) (Nat.le_refl _)) (by omega) hnc HCU.out hl tk HTK.out)
  have HB1 := Lib.hid hb1
  clear ho1 hat1 hN1 hb1 T1
  go_wp2_with fail
  refine L1.out.mono ?_
  rintro e w2 ⟨v2, rfl, ho2, hb2⟩
  obtain ⟨A2, c2, rfl, -⟩ := ho2.form
  obtain ⟨N, hN⟩ : ∃ N, tk.length = N := ⟨_, rfl⟩
  rw [hN] at ho2 htl ⊢
  have HN := Lib.hid hN
  have HB2 := Lib.hid (HB1.out.trans (hb2.mono hs1))
  have HO2 := Lib.hid (show OwnTk w.heap.size w2 (.slice A2 N c2) (mixE rs tk 0) by rw [mixE_zero]; exact ho2.low hs1)
  clear ho2 hb2 hN L1 HB1 hs1
  go_wp2_with fail
  go_loopw [6, 15] (fun s i wr => ∃ (K : Nat) (Aa : Option Addr) (na ca : Nat), K ≤ N ∧ i = .int .i64 K ∧ s = .slice Aa na ca ∧ Hid (OwnTk w.heap.size wr (.slice A2 N c2) (mixE rs tk K)) ∧ Hid (na = (ahE rs tk K).length ∧ Us (fun b => (Value.slice A2 N c2).ownBlock ≠ some b) wr (.slice Aa na ca) (ahE rs tk K)) ∧ Hid (Below w.heap.size w wr)) (fun _ i _ => N - (intOf i).toNat)
  case atStart => exact ⟨0, none, 0, 0, by omega, rfl, rfl, HO2, Lib.hid ⟨rfl, us_nil _ _⟩, HB2⟩
  case round =>
    obtain ⟨K, Aa, na, ca, hK, rfl, rfl, ho, ha, hb⟩ := hrel
    by_cases hKn : K = N
    · have hK' : ¬ K < N := by omega
      have HE : Hid (mixE rs tk K = ts) := by rw [← HV.out]; exact mixE_all (by rw [HN.out]; omega)
      clear hKn
      go_wp2
      go_ret
      exact ⟨_, rfl, by rw [← HE.out]; exact ho.out, hb.out⟩
    have hK' : K < N := by omega
    have hK1 : K < tk.length := by rw [HN.out]; exact hK'
    have k3 : (0 : Int) ≤ K := by omega
    have k4 : (K : Int) < N := by omega
    obtain ⟨g, cg, hgv⟩ : ∃ g c', Value.slice A2 N c2 = .slice (some ⟨g, 0, none⟩) N c' := by
      obtain ⟨xs, hown, _⟩ := ho.out
      rcases hown.2 with ⟨_, h2⟩ | ⟨g, cap, cur, h1, _⟩
      · rw [mixE_len, HN.out] at h2; omega
      · rw [mixE_len, HN.out] at h1
        exact ⟨g, cap, h1⟩
    obtain ⟨rfl, rfl⟩ : A2 = some ⟨g, 0, none⟩ ∧ c2 = cg := by injection hgv with a b c; exact ⟨a, c⟩
    clear hgv
    obtain ⟨A3, n3, c3, q0, q1, q2, q3, hn3, hu3, hfr⟩ := ho.out.cellsAt (k := K) (by rw [mixE_len]; exact hK1)
    rw [mixE_at hK1] at q0 q1 q3 hn3 hu3
    have hsm := ahE_small (rs := rs) HTS.out K (by rw [HN.out]; omega)
    have hs3 := HTS.out _ (List.getElem_mem hK1)
    have hskip := @joinT_skip rs (ahE rs tk K) tk[K]
    have hno := @joinT_no rs (ahE rs tk K) tk[K]
    have hyes := @joinT_yes rs (ahE rs tk K) tk[K]
    have hmn := mixE_next (rs := rs) hK1
    have hms := mixE_same (rs := rs) hK1
    have han := ahE_next (rs := rs) hK1
    obtain ⟨t, ht⟩ : ∃ t, tk[K] = t := ⟨_, rfl⟩
    rw [ht] at q0 q1 q3 hn3 hu3 hs3 hskip hno hyes hmn hms han
    obtain ⟨p, z, u, e⟩ := t
    simp only at q0 q1 q3 hn3 hu3 hs3 hskip hno hyes
    have HSK := Lib.hid hskip
    have HNO := Lib.hid hno
    have HYE := Lib.hid hyes
    have HMN := Lib.hid hmn
    have HMS := Lib.hid hms
    have HAN := Lib.hid han
    have hml := mixE_len rs tk K
    have HML := Lib.hid hml
    obtain ⟨ah, hah⟩ : ∃ ah, ahE rs tk K = ah := ⟨_, rfl⟩
    obtain ⟨mx, hmx⟩ : ∃ mx, mixE rs tk K = mx := ⟨_, rfl⟩
    rw [hah] at ha hsm HSK HNO HYE HMN HMS HAN
    rw [hmx] at ho HMN HMS HML
    have hba : Below wr.heap.size wr (wr.alloc (.cells #[.int .i64 p, .int .i64 z, .slice A3 n3 c3, .int .i64 e] 45)) := (Below.refl _ wr).alloc (Nat.le_refl _) _
    have HO8 := Lib.hid (ho.out.below hba (Nat.le_refl _))
    have HB8 := Lib.hid (hb.out.trans (hba.mono hb.out.size))
    have hst : ∀ b, b < wr.heap.size → (Value.slice (some ⟨g, 0, none⟩) N c2).ownBlock ≠ some b → (Value.slice (some ⟨g, 0, none⟩) N c2).ownBlock ≠ some b ∧ (wr.alloc (.cells #[.int .i64 p, .int .i64 z, .slice A3 n3 c3, .int .i64 e] 45)).heap[b]? = wr.heap[b]? := fun b hb hx => ⟨hx, hba.block b hb⟩
    have HU8 := Lib.hid (hu3.step hba.size hst)
    have HA8 := Lib.hid (And.intro ha.out.1 (ha.out.2.step hba.size hst))
    have HQ := Lib.hid (Held.new wr #[.int .i64 p, .int .i64 z, .slice A3 n3 c3, .int .i64 e] 45)
    have HN3 := Lib.hid hn3
    have H3 := Lib.hid hs3
    have HSM := Lib.hid hsm
    have c0 := HQ.out.cell 0
    have c1 := HQ.out.cell 1
    have cc2 := HQ.out.cell 2
    have cc3 := HQ.out.cell 3
    clear ha ho hb hba hst hu3 hn3 hs3 hsm hskip hno hyes hmn hms han hml hah hmx ht hfr hKn
    by_cases he : e = 0
    · subst he
      go_wp2_with fail
      obtain ⟨W, hW⟩ : ∃ W, wr.alloc (.cells #[.int .i64 p, .int .i64 z, .slice A3 n3 c3, .int .i64 0] 45) = W := ⟨_, rfl⟩
      obtain ⟨p8, hp8⟩ : ∃ p8, wr.heap.size = p8 := ⟨_, rfl⟩
      rw [hW] at HO8 HB8 HU8 HA8 HQ c0 c1 cc2 cc3 ⊢
      rw [hp8] at HQ c0 c1 cc2 cc3 ⊢
      clear hW hp8 q0 q1 q2 q3 wr
      obtain ⟨x, hx⟩ : ∃ x, joinsR rs ah u = x := ⟨_, rfl⟩
      obtain ⟨Ua, ca', ea, ga1, ga2, ga3⟩ := HA8.out.2
      have J1 : Hid (Calls Try.prog 21 #[.slice A n c, .slice Aa na ca, .slice A3 n3 c3] W fun e w' => e = .returned (.bool x) ∧ Below W.heap.size W w') := by
        obtain ⟨Uu, cu', eu, gu1, gu2, gu3⟩ := HU8.out
        injection ea with ea1 ea2 ea3
        injection eu with eu1 eu2 eu3
        subst ea1 ea3 eu1 eu3
        exact ljoins_any n A c rs B W (HR.out.below (HB8.out.mono hB) (Nat.le_refl _)) (Nat.le_trans hB HB8.out.size) na Aa ca ah W.heap.size HA8.out.1 (ga3.rd (Nat.le_refl _)) (Nat.le_refl _) (by have := HA8.out.1; have := HSM.out; omega) n3 A3 c3 u W.heap.size HN3.out (gu3.rd (Nat.le_refl _)) (Nat.le_refl _) (by have := HN3.out; have := H3.out; omega) x hx
      have HX := Lib.hid hx
      clear hx ga1 ga2 ga3 ea
      go_wp2_with fail
      refine J1.out.mono ?_
      rintro e w9 ⟨rfl, hb9⟩
      have HO9 := Lib.hid (HO8.out.below hb9 (Nat.le_refl _))
      have HB9 := Lib.hid (HB8.out.trans (hb9.mono HB8.out.size))
      have HQ9 := Lib.hid (HQ.out.below hb9 HQ.out.lt)
      have d0 := HQ9.out.cell 0
      have d1 := HQ9.out.cell 1
      have d2 := HQ9.out.cell 2
      have d3 := HQ9.out.cell 3
      have hst : ∀ b, b < W.heap.size → (Value.slice (some ⟨g, 0, none⟩) N c2).ownBlock ≠ some b → (Value.slice (some ⟨g, 0, none⟩) N c2).ownBlock ≠ some b ∧ w9.heap[b]? = W.heap[b]? := fun b hb hx => ⟨hx, hb9.block b hb⟩
      have HA9 := Lib.hid (And.intro HA8.out.1 (HA8.out.2.step hb9.size hst))
      have HU9 := Lib.hid (HU8.out.step hb9.size hst)
      clear hst hb9 c0 c1 cc2 cc3 HQ HB8 HO8 HA8 HU8 J1
      cases x with
      | true =>
        have HJ := Lib.hid (HYE.out trivial HX.out)
        obtain ⟨A6, n6, c6, y0, y1, y2, y3, -, -, hfr⟩ := HO9.out.cellsAt (k := K) (by rw [HML.out]; exact hK1)
        have z0 := hfr (K * 4)
        have z1 := hfr (K * 4 + 1)
        have z2 := hfr (K * 4 + 2)
        have z3 := hfr (K * 4 + 3)
        obtain ⟨HS, hge⟩ := HO9.out.setTok (k := K) (by rw [HML.out]; exact hK1) p z 3 (us_nil _ _)
        have HS' := Lib.hid HS
        have HM : Hid (mixE rs tk (K + 1) = mx.set K ⟨p, z, [], 3⟩) := by
          show mixE rs tk (K + 1) = _
          rw [HMN.out, HJ.out]
        have HAH : Hid (ahE rs tk (K + 1) = ah) := by
          show ahE rs tk (K + 1) = ah
          rw [HAN.out, HJ.out]; exact if_neg (show ¬ ((3 : Int) = 0) by decide)
        have hX : ∀ b, (Value.slice (some ⟨g, 0, none⟩) N c2).ownBlock ≠ some b → g ≠ b := fun b hb e => hb (by rw [← e]; rfl)
        have HUS := Lib.hid (us_set (j := K * 4 + 3) (x := .int .i64 3) (us_set (j := K * 4 + 2) (x := .slice none 0 0) (us_set (j := K * 4 + 1) (x := .int .i64 z) (us_set (j := K * 4) (x := .int .i64 p) HA9.out.2 hX) hX) hX) hX)
        have HBS := Lib.hid ((((HB9.out.setCell (p := ⟨g, K * 4, none⟩) hge (.int .i64 p)).setCell (p := ⟨g, K * 4 + 1, none⟩) hge (.int .i64 z)).setCell (p := ⟨g, K * 4 + 2, none⟩) hge (.slice none 0 0)).setCell (p := ⟨g, K * 4 + 3, none⟩) hge (.int .i64 3))
        clear HS hge hX hfr
        go_wp2_with fail
        go_roundw
        case rel => exact ⟨K + 1, Aa, na, ca, by omega, by go_num, rfl, by rw [HM.out]; exact HS', Lib.hid (by rw [HAH.out]; exact ⟨HA9.out.1, HUS.out⟩), HBS⟩
        case measure => simp [intOf]; omega
      | false =>
        have HJ := Lib.hid (HNO.out HX.out)
        have HM : Hid (mixE rs tk (K + 1) = mx) := HMS.out HJ.out
        have HAH : Hid (ahE rs tk (K + 1) = u) := by
          show ahE rs tk (K + 1) = u
          rw [HAN.out, HJ.out]; rfl
        go_wp2_with fail
        go_roundw
        case rel => exact ⟨K + 1, A3, n3, c3, by omega, by go_num, rfl, by rw [HM.out]; exact HO9, Lib.hid (by rw [HAH.out]; exact ⟨HN3.out, HU9.out⟩), HB9⟩
        case measure => simp [intOf]; omega
    · have hne : (e != 0) = true := by simpa using he
      have HJ := Lib.hid (HSK.out he)
      have HM : Hid (mixE rs tk (K + 1) = mx) := HMS.out HJ.out
      have HAH : Hid (ahE rs tk (K + 1) = ah) := by
        show ahE rs tk (K + 1) = ah
        rw [HAN.out, HJ.out]; exact if_neg he
      clear he
      go_wp2_with fail
      go_roundw
      case rel => exact ⟨K + 1, Aa, na, ca, by omega, by go_num, rfl, by rw [HM.out]; exact HO8, Lib.hid (by rw [HAH.out]; exact HA8.out), HB8⟩
      case measure => simp [intOf]; omega
end Go.Proofs.Ytikbmagolgcbfaa
namespace Go.Proofs.Ytikbmagolgcbfaa
set_option linter.unusedVariables false
set_option linter.unusedSimpArgs false
set_option linter.unnecessarySimpa false
open Go.RowKit
theorem tab_yes {rs acc ts : List (List Int × List Int)} {K : Nat} (h : tabFrom acc (rs.drop K) = ts) (hK : K < rs.length) (hc : closedR (acc ++ [rs[K]]) = true) : tabFrom (acc ++ [rs[K]]) (rs.drop (K + 1)) = ts := by
  rw [List.drop_eq_getElem_cons hK, tabFrom, if_pos hc] at h; exact h
theorem tab_no {rs acc ts : List (List Int × List Int)} {K : Nat} (h : tabFrom acc (rs.drop K) = ts) (hK : K < rs.length) (hc : closedR (acc ++ [rs[K]]) = false) : tabFrom acc (rs.drop (K + 1)) = ts := by
  rw [List.drop_eq_getElem_cons hK, tabFrom, if_neg (by rw [hc]; simp)] at h; exact h
theorem tab_end {rs acc ts : List (List Int × List Int)} {K : Nat} (h : tabFrom acc (rs.drop K) = ts) (hK : rs.length ≤ K) : ts = acc := by
  rw [List.drop_of_length_le hK] at h; exact h.symm
theorem right_sides (rows : List RowL) : ∀ r ∈ rightR (rulesR rows), 1 ≤ r.1.length := fun r hr => ((good_of (right_rules rows).1).side r hr).1
theorem us_of {w : World} {B n c : Nat} {A : Option Addr} {us : List Int} (hn : n = us.length) (h1 : n ≤ c) (h2 : c ≤ maxLen) (h : Rd w B A (us.map (Value.int .i64))) : Us (· < B) w (.slice A n c) us := by
  subst hn; exact ⟨A, c, rfl, h1, h2, h.rdx⟩

set_option maxRecDepth 100000 in
set_option maxHeartbeats 6400000 in
theorem ltab_any (n : Nat) (A : Option Addr) (c : Nat) (rows : List RowL) (B : Nat) (w : World) (hr : RwAt w B A n c rows) (hB : B ≤ w.heap.size) (ts : List Rl) (ht : tabR (rightR (rulesR rows)) = ts) :
    Calls Try.prog 10 #[.slice A n c] w fun e w' => ∃ v, e = .returned v ∧ OwnRs w.heap.size w' v ts ∧ Below w.heap.size w w' := by
  have hsd := right_sides rows
  have hl40 := (right_good _ (rulesR_len rows)).1
  obtain ⟨rs, hrs⟩ : ∃ rs, rightR (rulesR rows) = rs := ⟨_, rfl⟩
  have R1 := Lib.hid (right_any n A c rows B w hr hB rs hrs)
  rw [hrs] at hsd hl40 ht
  have HT := Lib.hid ht
  have HSD := Lib.hid hsd
  clear hr ht hrs hsd
  go_enter Try.func10, Try.ntmps10
  go_wp2_with fail
  refine R1.out.mono ?_
  rintro e w1 ⟨v1, rfl, ho1, hb1⟩
  obtain ⟨A1, c1, rfl, hat1⟩ := ho1.form
  obtain ⟨N, hN⟩ : ∃ N, N = rs.length := ⟨_, rfl⟩
  rw [← hN] at hat1 hl40 ⊢
  have HAT := Lib.hid hat1
  have HN := Lib.hid hN
  have HB1 := Lib.hid hb1
  have hs0 := hb1.size
  have hc1 := hat1.fits
  have hc2 := hat1.small
  unfold maxLen at hc2
  obtain ⟨S, hS⟩ : ∃ S, S = w1.heap.size := ⟨_, rfl⟩
  have hS1 : S ≤ w1.heap.size := Nat.le_of_eq hS
  have hS2 : w1.heap.size ≤ S := Nat.le_of_eq hS.symm
  clear ho1 hat1 hN hS R1 hb1
  go_wp2_with fail
  go_loopw [3, 9] (fun v i wr => ∃ (K : Nat) (acc : List Rl), K ≤ N ∧ i = .int .i64 K ∧ Hid (OwnRs S wr v acc) ∧ acc.length ≤ K ∧ Hid (tabFrom acc (rs.drop K) = ts) ∧ Hid (∀ r ∈ acc, 1 ≤ r.1.length) ∧ Hid (Below S w1 wr)) (fun _ i _ => N - (intOf i).toNat)
  case atStart => exact ⟨0, [], by omega, rfl, OwnRs.nil _ _, by simp, HT.out, Lib.hid (by simp), Lib.hid (Below.refl _ _)⟩
  case round =>
    obtain ⟨K, acc, hK, rfl, ho, hacc, hf, hm, hb⟩ := hrel
    have hs := hb.out.size
    by_cases hKq : K = N
    · have hK' : ¬ K < N := by omega
      have HE : Hid (ts = acc) := tab_end hf.out (by rw [← HN.out]; omega)
      clear hKq
      go_wp2
      go_ret
      exact ⟨_, rfl, by rw [HE.out]; exact ho.out.low (by omega), HB1.out.trans (hb.out.mono (by omega))⟩
    have hK' : K < N := by omega
    have hK1 : K < rs.length := by rw [← HN.out]; exact hK'
    obtain ⟨b, o, rfl, hbB, A2, n2, c2, A3, n3, c3, g1, g2, e1, e2, e3, e4, f1, f2, f3, f4⟩ := HAT.out.at hK1
    have k1 := (hb.out.cell (p := ⟨b, o + K * 2, none⟩) (by show b < _; omega)).trans g1
    have k2 := (hb.out.cell (p := ⟨b, o + K * 2 + 1, none⟩) (by show b < _; omega)).trans g2
    have k3 : (0 : Int) ≤ K := by omega
    have k4 : (K : Int) < N := by omega
    have hsK := HSD.out _ (List.getElem_mem hK1)
    obtain ⟨r, hrK⟩ : ∃ r, r = rs[K] := ⟨_, rfl⟩
    have HY := Lib.hid (fun h => tab_yes hf.out hK1 h)
    have HNo := Lib.hid (fun h => tab_no hf.out hK1 h)
    rw [← hrK] at e1 e4 f1 f4 hsK HY HNo
    obtain ⟨A7, c7, rfl, hat7⟩ := ho.out.form
    have UV1 : Hid (Us (· < S) wr (.slice A2 n2 c2) r.1) := us_of e1 e2 e3 (e4.below (hb.out.mono hS2) hS2)
    have UV2 : Hid (Us (· < S) wr (.slice A3 n3 c3) r.2) := us_of f1 f2 f3 (f4.below (hb.out.mono hS2) hS2)
    have hba : Below wr.heap.size wr (wr.alloc (.cells #[.slice A2 n2 c2, .slice A3 n3 c3] 54)) := (Below.refl _ _).alloc (Nat.le_refl _) _
    have HO8 := Lib.hid (ho.out.below hba (Nat.le_refl _))
    have HB8 := Lib.hid (hb.out.trans (hba.mono (show S ≤ wr.heap.size by omega)))
    have UW1 : Hid (Us (· < S) (wr.alloc (.cells #[.slice A2 n2 c2, .slice A3 n3 c3] 54)) (.slice A2 n2 c2) r.1) := UV1.out.step hba.size fun b hb hx => ⟨hx, hba.block b hb⟩
    have UW2 : Hid (Us (· < S) (wr.alloc (.cells #[.slice A2 n2 c2, .slice A3 n3 c3] 54)) (.slice A3 n3 c3) r.2) := UV2.out.step hba.size fun b hb hx => ⟨hx, hba.block b hb⟩
    have hq := Lib.hid (heap_alloc_new wr (.cells #[.slice A2 n2 c2, .slice A3 n3 c3] 54))
    obtain ⟨m, hmm⟩ : ∃ m, acc.length = m := ⟨_, rfl⟩
    rw [hmm] at hacc HO8 ⊢
    have HMM := Lib.hid hmm
    have HM := Lib.hid (show ∀ x ∈ acc ++ [r], 1 ≤ x.1.length from fun x hx => by
      rcases List.mem_append.1 hx with hx | hx
      · exact hm.out x hx
      · obtain rfl : x = r := by simpa using hx
        exact hsK)
    clear g1 g2 e1 e4 f1 f4 hat7 hba ho hb hf hmm hKq hrK hsK UV1 UV2
    go_wp2_with fail
    have q0 : (wr.alloc (.cells #[.slice A2 n2 c2, .slice A3 n3 c3] 54)).cell? ⟨wr.heap.size, 0, none⟩ = some (.slice A2 n2 c2) := World.cell?_alloc_new (w := wr) _ _ 0
    have q1 : (wr.alloc (.cells #[.slice A2 n2 c2, .slice A3 n3 c3] 54)).cell? ⟨wr.heap.size, 1, none⟩ = some (.slice A3 n3 c3) := World.cell?_alloc_new (w := wr) _ _ 1
    have hp5 : wr.heap.size < (wr.alloc (.cells #[.slice A2 n2 c2, .slice A3 n3 c3] 54)).heap.size := by simp
    have hSr : S ≤ wr.heap.size := by omega
    have hlow : ∀ x, (Value.slice A7 m c7).ownBlock = some x → S ≤ x := fun x hx => by
      obtain ⟨ys, hown, _⟩ := HO8.out
      exact (hown.lt x hx).1
    have HLOW := Lib.hid hlow
    obtain ⟨-, -, -, xs, hxr, hxl⟩ := HO8.out.at
    obtain ⟨W, hW⟩ : ∃ W, wr.alloc (.cells #[.slice A2 n2 c2, .slice A3 n3 c3] 54) = W := ⟨_, rfl⟩
    obtain ⟨p5, hp5e⟩ : ∃ p5, wr.heap.size = p5 := ⟨_, rfl⟩
    rw [hW] at q0 q1 hp5 hxr hxl HO8 HB8 UW1 UW2 hq ⊢
    rw [hp5e] at q0 q1 hp5 hSr hq ⊢
    have hSW : S ≤ W.heap.size := by omega
    have HXR := Lib.hid hxr
    have HXL := Lib.hid hxl
    obtain ⟨x, hx⟩ : ∃ x, closedR (acc ++ [r]) = x := ⟨_, rfl⟩
    have HX := Lib.hid hx
    have hm40 : m ≤ 40 := by omega
    clear hlow hxr hxl hW hp5e hx k1 k2 hs
    refine wp_region_fork (G := SameB p5) (.soft 0 (.soft 2 (.two 1 3 (.one 3 (.one 4 (.one 5 .done))) (.one 1 (.one 4 (.one 5 .done))))))
      (SameB.refl _) (SameB.trans _) (by kernel_rfl) rfl (by kernel_rfl) (by kernel_rfl) ?_
    refine fork_soft rfl rfl ?_
    go_big_quiet_step ((intro _; rfl))
    refine wpQuiet_nil ?_
    refine fork_soft rfl rfl ?_
    go_big_quiet_step ((intro hh; have e0 := (hh.cell (o := 0)).trans q0; have e1 := (hh.cell (o := 1)).trans q1; simp only [e0, e1, Result.andThen_ok]; exact ⟨trivial, rfl⟩))
    refine wpQuiet_nil ?_
    refine fork_two rfl rfl ?_ ?_
    · have hrl : Hid (Rls (fun b => (Value.slice none 0 0).ownBlock ≠ some b) W.drew xs acc) := HXL.out.step (w := W) (w' := W.drew) (Nat.le_refl _) fun b _ _ => ⟨(fun e => by cases e), rfl⟩
      go_wp2_with (at_builtin; refine wpList_appRsN rfl _ _ rfl W.heap.size (.slice none 0 0) [] rfl (OwnRs.nil _ _) A7 m c7 xs acc rfl HMM.out.symm W.heap.size (show Rd W.drew W.heap.size A7 xs from HXR.out) hrl.out (by have := HMM.out; simp; omega) (Nat.le_refl _) ?_)
      intro v4 w4 HN4 HBB4
      have hb4 : Below W.heap.size W w4 := HBB4.out W.heap.size W (Nat.le_refl _) ((Below.refl _ W).drew)
      have HN4' := Lib.hid (show OwnRs W.heap.size w4 v4 acc from HN4.out)
      obtain ⟨A4, c4, rfl, -⟩ := HN4'.out.form
      have HB4 := Lib.hid hb4
      have hs4 := hb4.size
      rw [HMM.out] at HN4' ⊢
      clear HN4 HBB4 hrl
      go_wp2_with fail
      refine ⟨show SameB p5 W w4 from SameB.of hb4 hp5, ?_⟩
      clear hb4
      refine fork_one rfl ?_
      go_wp2_with fail
      have hb5 := (Below.refl w4.heap.size w4).alloc (Nat.le_refl _) (.cells #[.slice A2 n2 c2, .slice A3 n3 c3] 54)
      refine ⟨SameB.of hb5 (by omega), ?_⟩
      have HN5 := Lib.hid (HN4'.out.below hb5 (Nat.le_refl _))
      have HB5 := Lib.hid (HB4.out.trans (hb5.mono hs4))
      have hl5 : ∀ z, (Value.slice A4 m c4).ownBlock = some z → W.heap.size ≤ z := fun z hz => by
        obtain ⟨ys, hown, _⟩ := HN5.out
        exact (hown.lt z hz).1
      have R5 : Hid (Rls (fun b => (Value.slice A4 m c4).ownBlock ≠ some b) (w4.alloc (.cells #[.slice A2 n2 c2, .slice A3 n3 c3] 54)) [.slice A2 n2 c2, .slice A3 n3 c3] [r]) := Rls.one (UW1.out.step HB5.out.size fun b hb hx => ⟨fun e => by have := hl5 b e; omega, HB5.out.block b hb⟩) (UW2.out.step HB5.out.size fun b hb hx => ⟨fun e => by have := hl5 b e; omega, HB5.out.block b hb⟩)
      have D5 := Lib.hid (Rd_new w4 #[.slice A2 n2 c2, .slice A3 n3 c3] 54)
      have hs5 : W.heap.size ≤ (w4.alloc (.cells #[.slice A2 n2 c2, .slice A3 n3 c3] 54)).heap.size := HB5.out.size
      clear hb5 hl5
      refine fork_one rfl ?_
      go_wp2_with (at_builtin; refine wpList_appRsN rfl _ _ rfl W.heap.size (.slice A4 m c4) acc rfl HN5.out (some ⟨w4.heap.size, 0, none⟩) 1 1 [.slice A2 n2 c2, .slice A3 n3 c3] [r] rfl rfl _ D5.out R5.out (by have := HMM.out; simp; omega) hs5 ?_)
      intro v6 w6 HN6 HBB6
      have hb6 := HBB6.out W.heap.size (w4.alloc (.cells #[.slice A2 n2 c2, .slice A3 n3 c3] 54)) (Nat.le_refl _) (Below.refl _ _)
      obtain ⟨A6, c6, rfl, hr6⟩ := HN6.out.form
      have hl6 : (acc ++ [r]).length = m + 1 := by rw [List.length_append, HMM.out]; rfl
      rw [hl6] at hr6 ⊢
      have C6 := Lib.hid (lclosed_any (m + 1) A6 c6 (acc ++ [r]) w6.heap.size w6 hr6 (Nat.le_refl _) HM.out x HX.out)
      have HB6 := Lib.hid (HB5.out.trans hb6)
      have hs6 := HB6.out.size
      go_wp2_with fail
      refine ⟨SameB.of hb6 (by omega), ?_⟩
      clear hb6 HN6 HBB6 hr6 R5 D5 HN5 HB5 hs5 HN4'
      refine fork_one rfl ?_
      go_wp2_with fail
      refine C6.out.mono ?_
      rintro e w7 ⟨rfl, hb7⟩
      go_wp2_with fail
      refine ⟨SameB.of hb7 (by omega), ?_⟩
      have HBZ := Lib.hid (HB6.out.trans (hb7.mono hs6))
      clear hb7 C6 HB6 hs6 HB4 hs4
      refine fork_done (NoPanic.normal ?_)
      have HO9 := Lib.hid (HO8.out.below HBZ.out (Nat.le_refl _))
      have HB9 := Lib.hid (HB8.out.trans (HBZ.out.mono hSW))
      have y0 := (HBZ.out.cell (p := ⟨p5, 0, none⟩) (show p5 < W.heap.size from hp5)).trans q0
      have y1 := (HBZ.out.cell (p := ⟨p5, 1, none⟩) (show p5 < W.heap.size from hp5)).trans q1
      have V1 : Hid (Us (fun b => (Value.slice A7 m c7).ownBlock ≠ some b) w7 (.slice A2 n2 c2) r.1) := UW1.out.step HBZ.out.size fun b hb hx => ⟨fun e => by have := HLOW.out b e; have : b < S := hx; omega, HBZ.out.block b hb⟩
      have V2 : Hid (Us (fun b => (Value.slice A7 m c7).ownBlock ≠ some b) w7 (.slice A3 n3 c3) r.2) := UW2.out.step HBZ.out.size fun b hb hx => ⟨fun e => by have := HLOW.out b e; have : b < S := hx; omega, HBZ.out.block b hb⟩
      have hs7 : S ≤ w7.heap.size := by have := HBZ.out.size; omega
      have HAL := Lib.hid (show acc.length ≤ 1048576 by have := HMM.out; omega)
      clear HBZ
      cases x with
      | true =>
        have HF := Lib.hid (HY.out HX.out)
        go_wp2_with (at_builtin; refine wpList_appRG rfl _ _ rfl S (.slice A7 m c7) acc (.slice A2 n2 c2) (.slice A3 n3 c3) r rfl HO9.out V1.out V2.out _ rfl rfl HAL.out hs7 ?_)
        intro v8 w8 HN8 HBB8 _
        have HB10 := Lib.hid (HBB8.out S w1 (Nat.le_refl _) HB9.out)
        clear HBB8
        go_wp2_with fail
        go_roundw
        case rel => exact ⟨K + 1, acc ++ [r], by omega, by go_num, HN8, by rw [List.length_append, HMM.out]; simp; omega, HF, HM, HB10⟩
        case measure => simp [intOf]; omega
      | false =>
        have HF := Lib.hid (HNo.out HX.out)
        go_wp2_with fail
        go_roundw
        case rel => exact ⟨K + 1, acc, by omega, by go_num, HO9, by have := HMM.out; omega, HF, Lib.hid (fun z hz => HM.out z (List.mem_append.2 (.inl hz))), HB9⟩
        case measure => simp [intOf]; omega
    · go_wp2_with fail
      have hb3 : Below W.heap.size W ((W.alloc (.cells #[.slice A2 n2 c2, .slice A3 n3 c3] 54)).drew) := ((Below.refl W.heap.size W).alloc (Nat.le_refl _) _).drew
      have D3 : Rd ((W.alloc (.cells #[.slice A2 n2 c2, .slice A3 n3 c3] 54)).drew) ((W.alloc (.cells #[.slice A2 n2 c2, .slice A3 n3 c3] 54)).drew).heap.size (some ⟨W.heap.size, 0, none⟩) [.slice A2 n2 c2, .slice A3 n3 c3] := by
        have h := Rd_new W #[.slice A2 n2 c2, .slice A3 n3 c3] 54
        have e : ((W.alloc (.cells #[.slice A2 n2 c2, .slice A3 n3 c3] 54)).drew).heap.size = W.heap.size + 1 := by show (W.alloc (.cells #[.slice A2 n2 c2, .slice A3 n3 c3] 54)).heap.size = _; simp
        rw [e]; exact h
      refine ⟨show SameB p5 W _ from SameB.of hb3 hp5, ?_⟩
      obtain ⟨q, hqe⟩ : ∃ q, W.heap.size = q := ⟨_, rfl⟩
      obtain ⟨WB, hWB⟩ : ∃ WB, (W.alloc (.cells #[.slice A2 n2 c2, .slice A3 n3 c3] 54)).drew = WB := ⟨_, rfl⟩
      have hz := hb3.size
      have HB3 := Lib.hid hb3
      rw [hWB] at hb3 D3 HB3 hz ⊢
      rw [hqe] at D3 ⊢
      have HQE := Lib.hid hqe
      have D3' := Lib.hid D3
      clear hb3 D3 hWB hqe
      refine fork_one rfl ?_
      have hrl : Hid (Rls (fun b => (Value.slice none 0 0).ownBlock ≠ some b) WB xs acc) := HXL.out.step HB3.out.size fun b hb _ => ⟨(fun e => by cases e), HB3.out.block b hb⟩
      go_wp2_with (at_builtin; refine wpList_appRsN rfl _ _ rfl WB.heap.size (.slice none 0 0) [] rfl (OwnRs.nil _ _) A7 m c7 xs acc rfl HMM.out.symm W.heap.size (HXR.out.below HB3.out (Nat.le_refl _)) hrl.out (by have := HMM.out; simp; omega) (Nat.le_refl _) ?_)
      intro v4 w4 HN4 HBB4
      have hb4 : Below WB.heap.size WB w4 := HBB4.out WB.heap.size WB (Nat.le_refl _) (Below.refl _ WB)
      have HN4' := Lib.hid (show OwnRs WB.heap.size w4 v4 acc from HN4.out)
      obtain ⟨A4, c4, rfl, -⟩ := HN4'.out.form
      have HB4 := Lib.hid (HB3.out.trans (hb4.mono hz))
      have hs4 := HB4.out.size
      have hsB := hb4.size
      have hl5 : ∀ z, (Value.slice A4 acc.length c4).ownBlock = some z → WB.heap.size ≤ z := fun z hz => by
        obtain ⟨ys, hown, _⟩ := HN4'.out
        exact (hown.lt z hz).1
      have R5 : Hid (Rls (fun b => (Value.slice A4 acc.length c4).ownBlock ≠ some b) w4 [.slice A2 n2 c2, .slice A3 n3 c3] [r]) := Rls.one (UW1.out.step HB4.out.size fun b hb hx => ⟨fun e => by have := hl5 b e; omega, HB4.out.block b hb⟩) (UW2.out.step HB4.out.size fun b hb hx => ⟨fun e => by have := hl5 b e; omega, HB4.out.block b hb⟩)
      have D5 := Lib.hid (D3'.out.below hb4 (Nat.le_refl _))
      rw [HMM.out] at HN4' R5 ⊢
      clear HN4 HBB4 hrl hl5
      go_wp2_with fail
      refine ⟨SameB.of hb4 (by omega), ?_⟩
      clear hb4
      refine fork_one rfl ?_
      go_wp2_with (at_builtin; refine wpList_appRsN rfl _ _ rfl WB.heap.size (.slice A4 m c4) acc rfl HN4'.out (some ⟨q, 0, none⟩) 1 1 [.slice A2 n2 c2, .slice A3 n3 c3] [r] rfl rfl _ D5.out R5.out (by have := HMM.out; simp; omega) hsB ?_)
      intro v6 w6 HN6 HBB6
      have hb6 := HBB6.out WB.heap.size w4 (Nat.le_refl _) (Below.refl _ _)
      obtain ⟨A6, c6, rfl, hr6⟩ := HN6.out.form
      have hl6 : (acc ++ [r]).length = m + 1 := by rw [List.length_append, HMM.out]; rfl
      rw [hl6] at hr6 ⊢
      have C6 := Lib.hid (lclosed_any (m + 1) A6 c6 (acc ++ [r]) w6.heap.size w6 hr6 (Nat.le_refl _) HM.out x HX.out)
      have HB6 := Lib.hid (HB4.out.trans (hb6.mono hz))
      have hs6 := HB6.out.size
      clear hl6
      go_wp2_with fail
      refine ⟨SameB.of hb6 (by omega), ?_⟩
      clear hb6 HN6 HBB6 hr6 R5 D5 HN4'
      refine fork_one rfl ?_
      go_wp2_with fail
      refine C6.out.mono ?_
      rintro e w7 ⟨rfl, hb7⟩
      go_wp2_with fail
      refine ⟨SameB.of hb7 (by omega), ?_⟩
      have HBZ := Lib.hid (HB6.out.trans (hb7.mono hs6))
      clear hb7 C6 HB6 hs6 HB4 hs4
      refine fork_done (NoPanic.normal ?_)
      have HO9 := Lib.hid (HO8.out.below HBZ.out (Nat.le_refl _))
      have HB9 := Lib.hid (HB8.out.trans (HBZ.out.mono hSW))
      have y0 := (HBZ.out.cell (p := ⟨p5, 0, none⟩) (show p5 < W.heap.size from hp5)).trans q0
      have y1 := (HBZ.out.cell (p := ⟨p5, 1, none⟩) (show p5 < W.heap.size from hp5)).trans q1
      have V1 : Hid (Us (fun b => (Value.slice A7 m c7).ownBlock ≠ some b) w7 (.slice A2 n2 c2) r.1) := UW1.out.step HBZ.out.size fun b hb hx => ⟨fun e => by have := HLOW.out b e; have : b < S := hx; omega, HBZ.out.block b hb⟩
      have V2 : Hid (Us (fun b => (Value.slice A7 m c7).ownBlock ≠ some b) w7 (.slice A3 n3 c3) r.2) := UW2.out.step HBZ.out.size fun b hb hx => ⟨fun e => by have := HLOW.out b e; have : b < S := hx; omega, HBZ.out.block b hb⟩
      have hs7 : S ≤ w7.heap.size := by have := HBZ.out.size; omega
      have HAL := Lib.hid (show acc.length ≤ 1048576 by have := HMM.out; omega)
      clear HBZ
      cases x with
      | true =>
        have HF := Lib.hid (HY.out HX.out)
        go_wp2_with (at_builtin; refine wpList_appRG rfl _ _ rfl S (.slice A7 m c7) acc (.slice A2 n2 c2) (.slice A3 n3 c3) r rfl HO9.out V1.out V2.out _ rfl rfl HAL.out hs7 ?_)
        intro v8 w8 HN8 HBB8 _
        have HB10 := Lib.hid (HBB8.out S w1 (Nat.le_refl _) HB9.out)
        clear HBB8
        go_wp2_with fail
        go_roundw
        case rel => exact ⟨K + 1, acc ++ [r], by omega, by go_num, HN8, by rw [List.length_append, HMM.out]; simp; omega, HF, HM, HB10⟩
        case measure => simp [intOf]; omega
      | false =>
        have HF := Lib.hid (HNo.out HX.out)
        go_wp2_with fail
        go_roundw
        case rel => exact ⟨K + 1, acc, by omega, by go_num, HO9, by have := HMM.out; omega, HF, Lib.hid (fun z hz => HM.out z (List.mem_append.2 (.inl hz))), HB9⟩
        case measure => simp [intOf]; omega
end Go.Proofs.Ytikbmagolgcbfaa
