/- Texts of this seat, one behind the other: TabJl, TabEl. -/
import Derived.Test.YtdkcadckbjncjaaDoorZ1
import Derived.Test.YtdkcadckbjncjaaDoorZ13
import Derived.Test.YtdkcadckbjncjaaDoorZ15
import Derived.Test.YtdkcadckbjncjaaDoorZ3
namespace Go.Proofs.YtdkcadckbjncjaaDoor
set_option linter.unusedVariables false
set_option linter.unusedSimpArgs false
set_option linter.unnecessarySimpa false
open Go.RowKit
def hitJ (ahead us : List Int) (r : List Int × List Int) : Bool := decide (0 < ahead.length ∧ ahead.length < r.1.length ∧ r.1.length ≤ ahead.length + us.length ∧ (ahead ++ us).take r.1.length = r.1)
theorem joinsR_drop {rs : List (List Int × List Int)} {ahead us : List Int} {K : Nat} (hK : K < rs.length) {v : Bool} (h : joinsR (rs.drop K) ahead us = v) : (hitJ ahead us rs[K] || joinsR (rs.drop (K + 1)) ahead us) = v := by
  rw [List.drop_eq_getElem_cons hK] at h
  exact h
theorem joinsR_end {rs : List (List Int × List Int)} {ahead us : List Int} {K : Nat} (hK : rs.length ≤ K) {v : Bool} (h : joinsR (rs.drop K) ahead us = v) : v = false := by
  rw [List.drop_of_length_le hK] at h
  exact h.symm

set_option maxRecDepth 100000 in
set_option maxHeartbeats 6400000 in
theorem ljoins_any (n : Nat) (A : Option Addr) (c : Nat) (rs : List Rl) (B : Nat) (w : World) (hr : RsAt w B A n c rs) (hB : B ≤ w.heap.size)
    (na : Nat) (Aa : Option Addr) (ca : Nat) (ahead : List Int) (Ba : Nat) (hna : na = ahead.length) (hra : Rd w Ba Aa (ahead.map (Value.int .i64))) (hBa : Ba ≤ w.heap.size) (hca : na ≤ 1048576)
    (nu : Nat) (Au : Option Addr) (cu : Nat) (us : List Int) (Bu : Nat) (hnu : nu = us.length) (hru : Rd w Bu Au (us.map (Value.int .i64))) (hBu : Bu ≤ w.heap.size) (hcu : nu ≤ 1048576) (v : Bool) (hv : joinsR rs ahead us = v) :
    Calls Tryd.prog 56 #[.slice A n c, .slice Aa na ca, .slice Au nu cu] w fun e w' => e = .returned (.bool v) ∧ Below w.heap.size w w' := by
  have HR := Lib.hid hr
  have HRA := Lib.hid hra
  have HRU := Lib.hid hru
  have HNA := Lib.hid hna
  have HNU := Lib.hid hnu
  have HV := Lib.hid hv
  have hn1 := hr.fits
  have hn2 := hr.small
  unfold maxLen at hn2
  clear hr hra hru hna hnu hv
  go_enter Tryd.func56, Tryd.ntmps56
  go_wp2_with (at_builtin; refine wpList_appI rfl _ _ rfl w.heap.size (.slice none 0 0) [] rfl (IR.nil _ _) Aa na ca ahead rfl HNA.out Ba HRA.out (by simp; have := HNA.out; omega) (Nat.le_refl _) ?_)
  intro v1 w1 HI1 HG1
  have hb1 : Below w.heap.size w w1 := IR.keepsB (Below.refl _ w) HG1.out (IR.nil w w.heap.size) (Nat.le_refl _) (Nat.le_refl _)
  have HB1 := Lib.hid hb1
  have hs1 := hb1.size
  have HI1' := Lib.hid (show IR w1 w.heap.size v1 ahead from HI1.out)
  clear hb1 HG1 HI1
  obtain ⟨A1, c1, rfl, -, -⟩ := HI1'.out.form
  rw [← HNA.out] at HI1' ⊢
  go_wp2_with (at_builtin; refine wpList_appI rfl _ _ rfl w.heap.size (.slice A1 na c1) ahead rfl HI1'.out Au nu cu us rfl HNU.out Bu (HRU.out.below (HB1.out.mono hBu) (Nat.le_refl _)) (by have := HNA.out; have := HNU.out; omega) hs1 ?_)
  intro v2 w2 HI2 HG2
  have hb2 := IR.keepsB HB1.out HG2.out HI1'.out (Nat.le_refl _) hs1
  have HB2 := Lib.hid hb2
  have hs2 := hb2.size
  obtain ⟨A2, c2, rfl, hc2, hc3⟩ := HI2.out.form
  obtain ⟨N, hN⟩ : ∃ N, (ahead ++ us).length = N := ⟨_, rfl⟩
  have HR2 := Lib.hid HI2.out.rd
  have hNs : N = na + nu := by rw [← hN, List.length_append, ← HNA.out, ← HNU.out]
  rw [hN] at hc2 ⊢
  have HN := Lib.hid hN
  have HNS := Lib.hid hNs
  unfold maxLen at hc3
  clear hNs hb2 HG2 HI2 HI1' hN HB1 hs1
  go_wp2_with fail
  go_loopw [16] (fun i wr => ∃ K : Nat, K ≤ n ∧ i = .int .i64 K ∧ Hid (Below w.heap.size w wr) ∧ Hid (Below w2.heap.size w2 wr) ∧ Hid (joinsR (rs.drop K) ahead us = v)) (fun i _ => n - (intOf i).toNat)
  case atStart => exact ⟨0, by omega, rfl, HB2, Lib.hid (Below.refl _ _), HV⟩
  case round =>
    obtain ⟨K, hK, rfl, hb, hb', hf⟩ := hrel
    have hsz := hb'.out.size
    by_cases hKn : K = n
    · have hK' : ¬ K < n := by omega
      have HE := Lib.hid (joinsR_end (by rw [← HR.out.len, hKn]; omega) hf.out)
      clear hKn hf
      go_wp2
      go_ret
      exact ⟨ret_bool HE.out, hb.out⟩
    have hK' : K < n := by omega
    have hK1 : K < rs.length := by rw [← HR.out.len]; exact hK'
    obtain ⟨b, of2, rfl, hbB, A3, n3, c4, A4, n4, c5, g1, g2, e1, e2, e3, e4, f1, f2, f3, f4⟩ := HR.out.at hK1
    have k1 := (hb.out.cell (p := ⟨b, of2 + K * 2, none⟩) (by show b < _; omega)).trans g1
    have k2 := (hb.out.cell (p := ⟨b, of2 + K * 2 + 1, none⟩) (by show b < _; omega)).trans g2
    have k3 : (0 : Int) ≤ K := by omega
    have k4 : (K : Int) < n := by omega
    have HJ := Lib.hid (joinsR_drop hK1 hf.out)
    obtain ⟨In, hIn⟩ : ∃ In, In = rs[K].1 := ⟨_, rfl⟩
    have hhit : hitJ ahead us rs[K] = decide (0 < na ∧ na < n3 ∧ n3 ≤ N ∧ (ahead ++ us).take n3 = In) := by unfold hitJ; rw [← hIn, HNS.out, HNA.out, HNU.out, e1, hIn]
    rw [← hIn] at e1 e4
    have hba : Below wr.heap.size wr (wr.alloc (.cells #[.slice A3 n3 c4, .slice A4 n4 c5] 75)) := (Below.refl _ _).alloc (Nat.le_refl _) _
    have E1 := Lib.hid e1
    have E4 := Lib.hid e4
    have HH := Lib.hid hhit
    have HBA := Lib.hid hba
    have M1 : Hid (n3 ≤ 9223372036854775807) := by unfold maxLen at e3; exact (show n3 ≤ 9223372036854775807 by omega)
    have HE5 : Hid (∀ q, Rd ((wr.alloc (.cells #[.slice A3 n3 c4, .slice A4 n4 c5] 75)).drewN q) B A3 (In.map (Value.int .i64))) := fun q => E4.out.below ((hb.out.trans (below_dr (HBA.out.mono hb.out.size) q)).mono hB) (Nat.le_refl _)
    have HR5 : Hid (∀ q, Rd ((wr.alloc (.cells #[.slice A3 n3 c4, .slice A4 n4 c5] 75)).drewN q) w2.heap.size A2 ((ahead ++ us).map (Value.int .i64))) := fun q => Rd.below (show Rd w2 w2.heap.size A2 ((ahead ++ us).map (Value.int .i64)) from HR2.out) (hb'.out.trans (below_dr (HBA.out.mono hsz) q)) (Nat.le_refl _)
    have HX : Hid (∀ q, Below w.heap.size w ((wr.alloc (.cells #[.slice A3 n3 c4, .slice A4 n4 c5] 75)).drewN q)) := fun q => hb.out.trans (below_dr (HBA.out.mono hb.out.size) q)
    have HX' : Hid (∀ q, Below w2.heap.size w2 ((wr.alloc (.cells #[.slice A3 n3 c4, .slice A4 n4 c5] 75)).drewN q)) := fun q => hb'.out.trans (below_dr (HBA.out.mono hsz) q)
    unfold maxLen at e3 f3
    clear g1 g2 e1 e4 f1 f4 hIn hhit hba hKn hf hb hb'
    by_cases h1 : 0 < na
    · have d1 : decide ((na : Int) > 0) = true := by simp; omega
      have d1' : decide (0 < na) = true := by simp; omega
      by_cases h2 : na < n3
      · have d2 : decide ((n3 : Int) > (na : Int)) = true := by simp; omega
        have d2' : decide (na < n3) = true := by simp; omega
        by_cases h3 : n3 ≤ N
        · have d3 : decide ((n3 : Int) ≤ (N : Int)) = true := by simp; omega
          have d3' : decide (n3 ≤ N) = true := by simp; omega
          have HTL : Hid (n3 = ((ahead ++ us).take n3).length) := by show n3 = _; rw [List.length_take, HN.out]; omega
          have k5 : n3 ≤ c2 := by omega
          have k6 : (0 : Int) ≤ n3 := by omega
          have k7 : (n3 : Int) ≤ N := by omega
          by_cases he : In = (ahead ++ us).take n3
          · have HEQ := Lib.hid (eqB_t he)
            have hh : hitJ ahead us rs[K] = true := by rw [HH.out]; exact decide_eq_true ⟨h1, h2, h3, he.symm⟩
            have HF : Hid (v = true) := by have := HJ.out; rw [hh] at this; exact this.symm
            clear hh he
            go_wp2_with fail
            go_quiet ((go_at_call_of 25 (Value.slice A3 n3 c4); exact Calls.quiet_of (units_v n3 n3 A3 A2 c4 c2 In ((ahead ++ us).take n3) B w2.heap.size _ true HEQ.out E1.out HTL.out (HE5.out _) (rd_tk n3 (HR5.out _)) M1.out)))
            go_wp2
            go_ret
            exact ⟨ret_bool HF.out, HX.out _⟩
          · have HEQ := Lib.hid (eqB_f he)
            have hh : hitJ ahead us rs[K] = false := by rw [HH.out]; exact decide_eq_false (fun h => he h.2.2.2.symm)
            have HF : Hid (joinsR (rs.drop (K + 1)) ahead us = v) := by have := HJ.out; rw [hh] at this; exact this
            clear hh
            clear he
            go_wp2_with fail
            go_quiet ((go_at_call_of 25 (Value.slice A3 n3 c4); exact Calls.quiet_of (units_v n3 n3 A3 A2 c4 c2 In ((ahead ++ us).take n3) B w2.heap.size _ false HEQ.out E1.out HTL.out (HE5.out _) (rd_tk n3 (HR5.out _)) M1.out)))
            go_wp2
            go_roundw
            case rel => exact ⟨K + 1, by omega, by go_num, Lib.hid (HX.out _), Lib.hid (HX'.out _), HF⟩
            case measure => simp [intOf]; omega
        · have d3 : decide ((n3 : Int) ≤ (N : Int)) = false := by simp; omega
          have d3' : decide (n3 ≤ N) = false := by simp; omega
          have hh : hitJ ahead us rs[K] = false := by rw [HH.out]; exact decide_eq_false (fun h => h3 h.2.2.1)
          have HF : Hid (joinsR (rs.drop (K + 1)) ahead us = v) := by have := HJ.out; rw [hh] at this; exact this
          clear hh
          go_wp2_with fail
          go_quiet (fail)
          go_wp2
          go_roundw
          case rel => exact ⟨K + 1, by omega, by go_num, Lib.hid (HX.out _), Lib.hid (HX'.out _), HF⟩
          case measure => simp [intOf]; omega
      · have d2 : decide ((n3 : Int) > (na : Int)) = false := by simp; omega
        have d2' : decide (na < n3) = false := by simp; omega
        have hh : hitJ ahead us rs[K] = false := by rw [HH.out]; exact decide_eq_false (fun h => h2 h.2.1)
        have HF : Hid (joinsR (rs.drop (K + 1)) ahead us = v) := by have := HJ.out; rw [hh] at this; exact this
        clear hh
        go_wp2_with fail
        go_quiet (fail)
        go_wp2
        go_roundw
        case rel => exact ⟨K + 1, by omega, by go_num, Lib.hid (HX.out _), Lib.hid (HX'.out _), HF⟩
        case measure => simp [intOf]; omega
    · have d1 : decide ((na : Int) > 0) = false := by simp; omega
      have d1' : decide (0 < na) = false := by simp; omega
      have hh : hitJ ahead us rs[K] = false := by rw [HH.out]; exact decide_eq_false (fun h => h1 h.1)
      have HF : Hid (joinsR (rs.drop (K + 1)) ahead us = v) := by have := HJ.out; rw [hh] at this; exact this
      clear hh
      go_wp2_with fail
      go_quiet (fail)
      go_wp2
      go_roundw
      case rel => exact ⟨K + 1, by omega, by go_num, Lib.hid (HX.out _), Lib.hid (HX'.out _), HF⟩
      case measure => simp [intOf]; omega
end Go.Proofs.YtdkcadckbjncjaaDoor
namespace Go.Proofs.YtdkcadckbjncjaaDoor
set_option linter.unusedVariables false
set_option linter.unusedSimpArgs false
set_option linter.unnecessarySimpa false
open Go.RowKit

set_option maxRecDepth 100000 in
set_option maxHeartbeats 6400000 in
theorem lencode_any (n : Nat) (A : Option Addr) (c : Nat) (rs : List Rl) (B : Nat) (w : World) (hr : RsAt w B A n c rs) (hB : B ≤ w.heap.size) (hn : n ≤ 1048576) (hg : Good rs) (hgt : Good (turnR rs))
    (nu : Nat) (Au : Option Addr) (cu : Nat) (us : List Int) (Bu : Nat) (hnu : nu = us.length) (hru : Rd w Bu Au (us.map (Value.int .i64))) (hBu : Bu ≤ w.heap.size) (hnc : nu ≤ cu) (hcu : cu ≤ maxLen) (hl : nu ≤ 1048576) (ts : List Tk) (hv : encA rs us = ts) :
    Calls Tryd.prog 39 #[.slice A n c, .slice Au nu cu] w fun e w' => ∃ v, e = .returned v ∧ OwnTk w.heap.size w' v ts ∧ Below w.heap.size w w' := by
  have T1 := Lib.hid (turn_any n A c rs B w hr hB hn (fun r h => by have := hg.side r h; omega) (turnR rs) rfl)
  have HR := Lib.hid hr
  have HRU := Lib.hid hru
  have HNU := Lib.hid hnu
  have HGT := Lib.hid hgt
  have HCU := Lib.hid hcu
  obtain ⟨tk, htk⟩ : ∃ tk, rewA (turnR rs) 0 us = tk := ⟨_, rfl⟩
  have htl : tk.length ≤ nu := by rw [← htk, hnu]; exact hgt.rew_len us 0
  have hts : ∀ t ∈ tk, t.out.length ≤ 8 := fun t h => by rw [← htk] at h; exact (hgt.rew_tk us 0 t h).len
  have HV : Hid (encF rs [] tk = ts) := by rw [← htk]; exact hv
  have HTK := Lib.hid htk
  have HTS := Lib.hid hts
  clear hr hru hnu hgt hcu htk hts hv hg
  go_enter Tryd.func39, Tryd.ntmps39
  go_wp2_with fail
  refine T1.out.mono ?_
  rintro e w1 ⟨v1, rfl, ho1, hb1⟩
  obtain ⟨A1, c1, rfl, hat1⟩ := ho1.form
  obtain ⟨N1, hN1⟩ : ∃ N1, (turnR rs).length = N1 := ⟨_, rfl⟩
  rw [hN1] at hat1 ⊢
  have hs1 := hb1.size
  have L1 := Lib.hid (lall_any N1 A1 c1 (turnR rs) w1.heap.size w1 hat1 HGT.out (Nat.le_refl _) nu Au cu us Bu HNU.out (HRU.out.below (hb1.mono hBu) (Nat.le_refl _)) (by omega) hnc HCU.out hl tk HTK.out)
  have HB1 := Lib.hid hb1
  clear ho1 hat1 hN1 hb1 T1
  go_wp2_with fail
  refine L1.out.mono ?_
  rintro e w2 ⟨v2, rfl, ho2, hb2⟩
  obtain ⟨A2, c2, rfl, -⟩ := ho2.form
  obtain ⟨N, hN⟩ : ∃ N, tk.length = N := ⟨_, rfl⟩
  rw [hN] at ho2 htl ⊢
  have HN := Lib.hid hN
  have HB2 := Lib.hid (HB1.out.trans (hb2.mono hs1))
  have HO2 := Lib.hid (show OwnTk w.heap.size w2 (.slice A2 N c2) (mixE rs tk 0) by rw [mixE_zero]; exact ho2.low hs1)
  clear ho2 hb2 hN L1 HB1 hs1
  go_wp2_with fail
  go_loopw [6, 15] (fun s i wr => ∃ (K : Nat) (Aa : Option Addr) (na ca : Nat), K ≤ N ∧ i = .int .i64 K ∧ s = .slice Aa na ca ∧ Hid (OwnTk w.heap.size wr (.slice A2 N c2) (mixE rs tk K)) ∧ Hid (na = (ahE rs tk K).length ∧ Us (fun b => (Value.slice A2 N c2).ownBlock ≠ some b) wr (.slice Aa na ca) (ahE rs tk K)) ∧ Hid (Below w.heap.size w wr)) (fun _ i _ => N - (intOf i).toNat)
  case atStart => exact ⟨0, none, 0, 0, by omega, rfl, rfl, HO2, Lib.hid ⟨rfl, us_nil _ _⟩, HB2⟩
  case round =>
    obtain ⟨K, Aa, na, ca, hK, rfl, rfl, ho, ha, hb⟩ := hrel
    by_cases hKn : K = N
    · have hK' : ¬ K < N := by omega
      have HE : Hid (mixE rs tk K = ts) := by rw [← HV.out]; exact mixE_all (by rw [HN.out]; omega)
      clear hKn
      go_wp2
      go_ret
      exact ⟨_, rfl, by rw [← HE.out]; exact ho.out, hb.out⟩
    have hK' : K < N := by omega
    have hK1 : K < tk.length := by rw [HN.out]; exact hK'
    have k3 : (0 : Int) ≤ K := by omega
    have k4 : (K : Int) < N := by omega
    obtain ⟨g, cg, hgv⟩ : ∃ g c', Value.slice A2 N c2 = .slice (some ⟨g, 0, none⟩) N c' := by
      obtain ⟨xs, hown, _⟩ := ho.out
      rcases hown.2 with ⟨_, h2⟩ | ⟨g, cap, cur, h1, _⟩
      · rw [mixE_len, HN.out] at h2; omega
      · rw [mixE_len, HN.out] at h1
        exact ⟨g, cap, h1⟩
    obtain ⟨rfl, rfl⟩ : A2 = some ⟨g, 0, none⟩ ∧ c2 = cg := by injection hgv with a b c; exact ⟨a, c⟩
    clear hgv
    obtain ⟨A3, n3, c3, q0, q1, q2, q3, hn3, hu3, hfr⟩ := ho.out.cellsAt (k := K) (by rw [mixE_len]; exact hK1)
    rw [mixE_at hK1] at q0 q1 q3 hn3 hu3
    have hsm := ahE_small (rs := rs) HTS.out K (by rw [HN.out]; omega)
    have hs3 := HTS.out _ (List.getElem_mem hK1)
    have hskip := @joinT_skip rs (ahE rs tk K) tk[K]
    have hno := @joinT_no rs (ahE rs tk K) tk[K]
    have hyes := @joinT_yes rs (ahE rs tk K) tk[K]
    have hmn := mixE_next (rs := rs) hK1
    have hms := mixE_same (rs := rs) hK1
    have han := ahE_next (rs := rs) hK1
    obtain ⟨t, ht⟩ : ∃ t, tk[K] = t := ⟨_, rfl⟩
    rw [ht] at q0 q1 q3 hn3 hu3 hs3 hskip hno hyes hmn hms han
    obtain ⟨p, z, u, e⟩ := t
    simp only at q0 q1 q3 hn3 hu3 hs3 hskip hno hyes
    have HSK := Lib.hid hskip
    have HNO := Lib.hid hno
    have HYE := Lib.hid hyes
    have HMN := Lib.hid hmn
    have HMS := Lib.hid hms
    have HAN := Lib.hid han
    have hml := mixE_len rs tk K
    have HML := Lib.hid hml
    obtain ⟨ah, hah⟩ : ∃ ah, ahE rs tk K = ah := ⟨_, rfl⟩
    obtain ⟨mx, hmx⟩ : ∃ mx, mixE rs tk K = mx := ⟨_, rfl⟩
    rw [hah] at ha hsm HSK HNO HYE HMN HMS HAN
    rw [hmx] at ho HMN HMS HML
    have hba : Below wr.heap.size wr (wr.alloc (.cells #[.int .i64 p, .int .i64 z, .slice A3 n3 c3, .int .i64 e] 44)) := (Below.refl _ wr).alloc (Nat.le_refl _) _
    have HO8 := Lib.hid (ho.out.below hba (Nat.le_refl _))
    have HB8 := Lib.hid (hb.out.trans (hba.mono hb.out.size))
    have hst : ∀ b, b < wr.heap.size → (Value.slice (some ⟨g, 0, none⟩) N c2).ownBlock ≠ some b → (Value.slice (some ⟨g, 0, none⟩) N c2).ownBlock ≠ some b ∧ (wr.alloc (.cells #[.int .i64 p, .int .i64 z, .slice A3 n3 c3, .int .i64 e] 44)).heap[b]? = wr.heap[b]? := fun b hb hx => ⟨hx, hba.block b hb⟩
    have HU8 := Lib.hid (hu3.step hba.size hst)
    have HA8 := Lib.hid (And.intro ha.out.1 (ha.out.2.step hba.size hst))
    have HQ := Lib.hid (Held.new wr #[.int .i64 p, .int .i64 z, .slice A3 n3 c3, .int .i64 e] 44)
    have HN3 := Lib.hid hn3
    have H3 := Lib.hid hs3
    have HSM := Lib.hid hsm
    have c0 := HQ.out.cell 0
    have c1 := HQ.out.cell 1
    have cc2 := HQ.out.cell 2
    have cc3 := HQ.out.cell 3
    clear ha ho hb hba hst hu3 hn3 hs3 hsm hskip hno hyes hmn hms han hml hah hmx ht hfr hKn
    by_cases he : e = 0
    · subst he
      go_wp2_with fail
      obtain ⟨W, hW⟩ : ∃ W, wr.alloc (.cells #[.int .i64 p, .int .i64 z, .slice A3 n3 c3, .int .i64 0] 44) = W := ⟨_, rfl⟩
      obtain ⟨p8, hp8⟩ : ∃ p8, wr.heap.size = p8 := ⟨_, rfl⟩
      rw [hW] at HO8 HB8 HU8 HA8 HQ c0 c1 cc2 cc3 ⊢
      rw [hp8] at HQ c0 c1 cc2 cc3 ⊢
      clear hW hp8 q0 q1 q2 q3 wr
      obtain ⟨x, hx⟩ : ∃ x, joinsR rs ah u = x := ⟨_, rfl⟩
      obtain ⟨Ua, ca', ea, ga1, ga2, ga3⟩ := HA8.out.2
      have J1 : Hid (Calls Tryd.prog 56 #[.slice A n c, .slice Aa na ca, .slice A3 n3 c3] W fun e w' => e = .returned (.bool x) ∧ Below W.heap.size W w') := by
        obtain ⟨Uu, cu', eu, gu1, gu2, gu3⟩ := HU8.out
        injection ea with ea1 ea2 ea3
        injection eu with eu1 eu2 eu3
        subst ea1 ea3 eu1 eu3
        exact ljoins_any n A c rs B W (HR.out.below (HB8.out.mono hB) (Nat.le_refl _)) (Nat.le_trans hB HB8.out.size) na Aa ca ah W.heap.size HA8.out.1 (ga3.rd (Nat.le_refl _)) (Nat.le_refl _) (by have := HA8.out.1; have := HSM.out; omega) n3 A3 c3 u W.heap.size HN3.out (gu3.rd (Nat.le_refl _)) (Nat.le_refl _) (by have := HN3.out; have := H3.out; omega) x hx
      have HX := Lib.hid hx
      clear hx ga1 ga2 ga3 ea
      go_wp2_with fail
      refine J1.out.mono ?_
      rintro e w9 ⟨rfl, hb9⟩
      have HO9 := Lib.hid (HO8.out.below hb9 (Nat.le_refl _))
      have HB9 := Lib.hid (HB8.out.trans (hb9.mono HB8.out.size))
      have HQ9 := Lib.hid (HQ.out.below hb9 HQ.out.lt)
      have d0 := HQ9.out.cell 0
      have d1 := HQ9.out.cell 1
      have d2 := HQ9.out.cell 2
      have d3 := HQ9.out.cell 3
      have hst : ∀ b, b < W.heap.size → (Value.slice (some ⟨g, 0, none⟩) N c2).ownBlock ≠ some b → (Value.slice (some ⟨g, 0, none⟩) N c2).ownBlock ≠ some b ∧ w9.heap[b]? = W.heap[b]? := fun b hb hx => ⟨hx, hb9.block b hb⟩
      have HA9 := Lib.hid (And.intro HA8.out.1 (HA8.out.2.step hb9.size hst))
      have HU9 := Lib.hid (HU8.out.step hb9.size hst)
      clear hst hb9 c0 c1 cc2 cc3 HQ HB8 HO8 HA8 HU8 J1
      cases x with
      | true =>
        have HJ := Lib.hid (HYE.out trivial HX.out)
        obtain ⟨A6, n6, c6, y0, y1, y2, y3, -, -, hfr⟩ := HO9.out.cellsAt (k := K) (by rw [HML.out]; exact hK1)
        have z0 := hfr (K * 4)
        have z1 := hfr (K * 4 + 1)
        have z2 := hfr (K * 4 + 2)
        have z3 := hfr (K * 4 + 3)
        obtain ⟨HS, hge⟩ := HO9.out.setTok (k := K) (by rw [HML.out]; exact hK1) p z 3 (us_nil _ _)
        have HS' := Lib.hid HS
        have HM : Hid (mixE rs tk (K + 1) = mx.set K ⟨p, z, [], 3⟩) := by
          show mixE rs tk (K + 1) = _
          rw [HMN.out, HJ.out]
        have HAH : Hid (ahE rs tk (K + 1) = ah) := by
          show ahE rs tk (K + 1) = ah
          rw [HAN.out, HJ.out]; exact if_neg (show ¬ ((3 : Int) = 0) by decide)
        have hX : ∀ b, (Value.slice (some ⟨g, 0, none⟩) N c2).ownBlock ≠ some b → g ≠ b := fun b hb e => hb (by rw [← e]; rfl)
        have HUS := Lib.hid (us_set (j := K * 4 + 3) (x := .int .i64 3) (us_set (j := K * 4 + 2) (x := .slice none 0 0) (us_set (j := K * 4 + 1) (x := .int .i64 z) (us_set (j := K * 4) (x := .int .i64 p) HA9.out.2 hX) hX) hX) hX)
        have HBS := Lib.hid ((((HB9.out.setCell (p := ⟨g, K * 4, none⟩) hge (.int .i64 p)).setCell (p := ⟨g, K * 4 + 1, none⟩) hge (.int .i64 z)).setCell (p := ⟨g, K * 4 + 2, none⟩) hge (.slice none 0 0)).setCell (p := ⟨g, K * 4 + 3, none⟩) hge (.int .i64 3))
        clear HS hge hX hfr
        go_wp2_with fail
        go_roundw
        case rel => exact ⟨K + 1, Aa, na, ca, by omega, by go_num, rfl, by rw [HM.out]; exact HS', Lib.hid (by rw [HAH.out]; exact ⟨HA9.out.1, HUS.out⟩), HBS⟩
        case measure => simp [intOf]; omega
      | false =>
        have HJ := Lib.hid (HNO.out HX.out)
        have HM : Hid (mixE rs tk (K + 1) = mx) := HMS.out HJ.out
        have HAH : Hid (ahE rs tk (K + 1) = u) := by
          show ahE rs tk (K + 1) = u
          rw [HAN.out, HJ.out]; rfl
        go_wp2_with fail
        go_roundw
        case rel => exact ⟨K + 1, A3, n3, c3, by omega, by go_num, rfl, by rw [HM.out]; exact HO9, Lib.hid (by rw [HAH.out]; exact ⟨HN3.out, HU9.out⟩), HB9⟩
        case measure => simp [intOf]; omega
    · have hne : (e != 0) = true := by simpa using he
      have HJ := Lib.hid (HSK.out he)
      have HM : Hid (mixE rs tk (K + 1) = mx) := HMS.out HJ.out
      have HAH : Hid (ahE rs tk (K + 1) = ah) := by
        show ahE rs tk (K + 1) = ah
        rw [HAN.out, HJ.out]; exact if_neg he
      clear he
      go_wp2_with fail
      go_roundw
      case rel => exact ⟨K + 1, Aa, na, ca, by omega, by go_num, rfl, by rw [HM.out]; exact HO8, Lib.hid (by rw [HAH.out]; exact HA8.out), HB8⟩
      case measure => simp [intOf]; omega
end Go.Proofs.YtdkcadckbjncjaaDoor
