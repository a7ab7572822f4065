/- IsciiSwitch: the walk. -/
import Derived.Test.YtdkcadckbjncjaaDoorZ27
import Derived.Test.YtdkcadckbjncjaaDoorZ24
import Derived.Handy
namespace Go.Proofs.YtdkcadckbjncjaaDoor
set_option linter.unusedVariables false
set_option linter.unusedSimpArgs false
set_option linter.unnecessarySimpa false
open Go.RowKit
set_option maxRecDepth 100000 in
set_option maxHeartbeats 12800000 in
theorem isciiSwitch_any (I : IsApi) (A : Option Addr) (c : Nat) (zs : List Int) (w : World) (hI : I.OK w) (hz : Rd w w.heap.size A (zs.map (Value.int .u8))) (hzr : ∀ z ∈ zs, 0 ≤ z ∧ z ≤ 255) (hzc : zs.length ≤ c) (hzm : c ≤ maxLen) :
    Calls Tryd.prog 6 #[.slice A zs.length c] w fun e w' => e = .returned (.bool true) ∧ Below w.heap.size w w' := by
  obtain ⟨Z, hZ⟩ : ∃ Z, Z = zs.length := ⟨_, rfl⟩
  rw [← hZ] at hzc ⊢
  have HI := Lib.hid hI
  have HZ := Lib.hid hz
  have HZR := Lib.hid hzr
  have HZM := Lib.hid hzm
  have HZL := Lib.hid hZ
  clear hI hz hzr hzm hZ
  go_enter Tryd.func6, Tryd.ntmps6
  go_wp2_with fail
  refine (awake18_any I w HI.out).mono ?_
  rintro e w1 ⟨rfl, hb1⟩
  have HI1 := Lib.hid (I.keep HI.out hb1)
  have HB1 := Lib.hid hb1
  have hs1 := hb1.size
  clear hb1
  go_wp2_with fail
  refine (I.encode w1 HI1.out).mono ?_
  rintro e w2 ⟨pe, Fe, rfl, hE2, hfe1, hb2⟩
  have HE2 := Lib.hid hE2
  have HB2 := Lib.hid (HB1.out.trans (hb2.mono hs1))
  have hs2 := hb2.size
  clear hE2 hb2
  obtain ⟨ss, hss⟩ : ∃ ss, scalarsI zs = ss := ⟨_, rfl⟩
  have hsl : ss.length ≤ 60 := by rw [← hss]; exact scalarsI_len zs
  have HSS := Lib.hid hss
  clear hss
  go_wp2_with fail
  refine (scalars_any Z A c zs w.heap.size w2 HZL.out (HZ.out.below HB2.out (Nat.le_refl _)) HZR.out HB2.out.size hzc HZM.out ss HSS.out).mono ?_
  rintro e W0 ⟨v4, rfl, hi4, hb4⟩
  obtain ⟨Ax, cx, rfl, -, -⟩ := hi4.form
  have hs4 := hb4.size
  have hfe : ∀ b, Fe b → w1.heap.size ≤ b ∧ b < w2.heap.size := fun b hb => ⟨hfe1 b hb, (I.efoot HE2.out).2 b hb⟩
  have HE := Lib.hid (eBelow HE2.out hb4)
  have HBW := Lib.hid (HB2.out.trans (hb4.mono (by omega)))
  obtain ⟨S1, hS1⟩ : ∃ S, w1.heap.size = S := ⟨_, rfl⟩
  obtain ⟨S2, hS2⟩ : ∃ S, w2.heap.size = S := ⟨_, rfl⟩
  obtain ⟨R, hR⟩ : ∃ S, W0.heap.size = S := ⟨_, rfl⟩
  rw [hS1, hS2] at hfe
  rw [hS1, hS2] at hs2
  rw [hS1] at hs1
  rw [hS2] at hi4 hs4
  rw [hR] at hs4
  have HRX := Lib.hid (fun (W : World) (hm : Mid Fe W0 W) => hi4.atMid (fun b hb => (hfe b hb).2) hm)
  have HFE0 := Lib.hid (show ∀ b, Fe b → Fe b ∨ R ≤ b from fun b hb => .inl hb)
  have HFS := Lib.hid (show ∀ b, Fe b → S1 ≤ b from fun b hb => (hfe b hb).1)
  have HTK0 := Lib.hid (show TkRow Fe R R W0 (.slice none 0 0) [] from ⟨Nat.le_refl _, by omega, fun b hb => by have := (hfe b hb).2; omega, OwnTkB.nil _ _⟩)
  have HW0 := Lib.hid hR
  have hwS : w.heap.size ≤ S1 := hs1
  have hSR : S2 ≤ R := hs4
  obtain ⟨M, hM⟩ : ∃ M, ss.length = M := ⟨_, rfl⟩
  rw [hM] at hsl ⊢
  have HM := Lib.hid hM
  clear hM hi4 hb4 HE2 HB1 HB2 HI1 hfe hfe1 hS1 hS2 hR
  go_wp2_with fail
  go_loopw [4, 21] (fun v i wr => ∃ (K : Nat) (q ah : List Int) (a sc : Int) (acc : List Tk) (G F : Nat → Prop) (base : Nat), K ≤ M ∧ i = .int .i64 K ∧ Hid (ES ss K q a ah sc acc) ∧ Hid (I.E G F wr pe q a ah sc) ∧ Hid (TkRow G R base wr v acc) ∧ Hid (NotIn F v) ∧ Hid (Mid Fe W0 wr) ∧ Hid (∀ b, G b → Fe b ∨ R ≤ b) ∧ acc.length ≤ 3 * K ∧ Hid (K = 0 → v = .slice none 0 0 ∧ acc = [])) (fun _ i _ => M - (intOf i).toNat)
  case atStart => exact ⟨0, [], [], 0, 0, [], Fe, Fe, R, by omega, rfl, Lib.hid (ES.start ss), HE, HTK0, Lib.hid (NotIn.nil _), Lib.hid (Mid.refl _ _), HFE0, by simp, Lib.hid (fun _ => ⟨rfl, rfl⟩)⟩
  case round =>
    clear HE HFE0 HTK0
    obtain ⟨K, q, ah, a, sc, acc, G, F, base, hK, rfl, hes, hE, htk, hnot, hmid, hff, hal, hnil⟩ := hrel
    have hrow := Lib.hid htk.out.row
    have hbR := htk.out.le
    have hbW := htk.out.top
    have hwr := hmid.out.size
    rw [HW0.out] at hwr
    have hb := Lib.hid (HBW.out.trans (hmid.out.below (fun b hb => by have := HFS.out b hb; omega) (by rw [HW0.out]; omega)))
    by_cases hKn : K = M
    · have hK' : ¬ K < M := by omega
      obtain ⟨wa, rfl⟩ : ∃ wa : World, wa = wr := ⟨_, rfl⟩
      obtain ⟨ts, hts⟩ : ∃ ts, encF inR ah (rewA (turnR inR) a q) = ts := ⟨_, rfl⟩
      have hfin := hes.out.fin (by rw [HM.out]; omega) hts
      have hq1 := hes.out.one
      have hln := eEnd_len hts hq1
      obtain ⟨-, ha1, -, hah, ha0, hsc0, hsc1⟩ := hes.out
      have hI5 := I.keep HI.out hb.out
      have P1 := Lib.hid (I.eend ts hE.out hI5 hq1 hah ha0 (by omega) hsc0 hsc1 hts)
      have HLN := Lib.hid (show acc.length + ts.length ≤ 1048576 by omega)
      have HFIN := Lib.hid hfin
      have hvl := Lib.hid (fun b (e : _ = some b) => own_ltT hrow.out e)
      have hfr := Lib.hid (fun (e : q = [] ∧ a = 0) => hnil.out (by rw [e.1, e.2] at ha1; simp at ha1; omega))
      obtain ⟨A9, c9, rfl, -⟩ := hrow.out.form
      obtain ⟨k9, hk9⟩ : ∃ k, acc.length = k := ⟨_, rfl⟩
      have HK9 := Lib.hid hk9
      rw [hk9] at hnot hvl hal htk hfr ⊢
      clear hes hts hfin hI5 hE hk9 hKn hnil hrow
      go_wp2_with fail
      refine P1.out.mono ?_
      rintro e w8 ⟨v8, G', F', B8, rfl, ho8, hE8, hT8⟩
      obtain ⟨base', hbB, htk8⟩ := htk.out.told hT8 hfr.out
      have hm8 := hT8.mid
      obtain ⟨A8, c8, rfl, -⟩ := ho8.form
      obtain ⟨m8, hm8l⟩ : ∃ m, ts.length = m := ⟨_, rfl⟩
      rw [hm8l] at ho8 hln ⊢
      have HM8 := Lib.hid hm8l.symm
      have HO8 := Lib.hid ho8
      have HROW8 := Lib.hid htk8.row
      have hbR' := htk8.le
      have hbW' := htk8.top
      have HT8 := Lib.hid hT8
      have hB8 := hT8.base
      have HMID8 := Lib.hid (hmid.out.then hm8 (fun b hb => by rw [HW0.out]; exact hff.out b hb))
      have hs8 : R ≤ w8.heap.size := Nat.le_trans hwr hm8.size
      have HE8 := Lib.hid hE8
      clear htk hmid hE8 hm8 P1 hm8l ho8 hT8 hff hb htk8 hfr
      go_wp2_with (at_builtin; refine wpList_appTk rfl _ _ rfl base' (.slice A9 k9 c9) acc rfl HROW8.out A8 m8 c8 B8 ts rfl HM8.out HO8.out hbB (fun b e => Nat.lt_of_lt_of_le (hvl.out b e).2 hB8) HLN.out hbW' ?_)
      intro v9 w9 HO9 HG9 HV9
      obtain ⟨hE9, hN9⟩ := etold HE8.out hnot.out HT8.out (fun b e => (hvl.out b e).2) HG9.out HV9.out
      have HE9 := Lib.hid hE9
      have HMID9 := Lib.hid (HMID8.out.grown HG9.out (fun b e => by rw [HW0.out]; have := (hvl.out b e).1; omega))
      have hs9 : R ≤ w9.heap.size := Nat.le_trans hs8 HG9.out.size
      clear hE9 hN9 HG9 HV9 HE8 HROW8 HO8 HMID8 hnot HT8 hvl
      obtain ⟨te, hte⟩ : ∃ te, acc ++ ts = te := ⟨_, rfl⟩
      have hsw : SwOK 0 te sc := by
        have h := lawE_sw ss 0 [] 0 (by simp)
        rw [← HFIN.out, hte] at h
        exact h
      have hsm : ∀ t ∈ te, t.out.length ≤ 8 := by
        have h := lawE_small ss 0 [] 0
        rw [← HFIN.out, hte] at h
        exact h
      have htl : te.length ≤ 200 := by rw [← hte, List.length_append]; have := HK9.out; have := HM8.out; omega
      rw [hte] at HO9
      obtain ⟨A10, c10, rfl, -⟩ := HO9.out.form
      obtain ⟨N, hN⟩ : ∃ N, te.length = N := ⟨_, rfl⟩
      rw [hN] at HO9 htl ⊢
      have HN := Lib.hid hN
      have HSM := Lib.hid hsm
      have HB9 := Lib.hid (HBW.out.trans (HMID9.out.below (fun b hb => by have := HFS.out b hb; omega) (by rw [HW0.out]; omega)))
      have HSW0 : Hid (SwOK 0 (te.drop 0) sc) := hsw
      have HBR := Lib.hid (Below.refl w9.heap.size w9)
      clear hN hsm hsw hte HMID9 HFIN HLN HK9 HM8
      go_wp2_with fail
      go_loopw [7, 37] (fun s i wr => ∃ (J : Nat) (s1 : Int), J ≤ N ∧ i = .int .i64 J ∧ s = .int .i64 s1 ∧ Hid (SwOK s1 (te.drop J) sc) ∧ Hid (Below w9.heap.size w9 wr)) (fun _ i _ => N - (intOf i).toNat)
      case atStart => exact ⟨0, 0, by omega, rfl, rfl, HSW0, HBR⟩
      case round =>
        clear HSW0 HBR
        obtain ⟨J, s1, hJ, rfl, rfl, hsw, hbr⟩ := hrel
        have hsz := hbr.out.size
        by_cases hJn : J = N
        · have hJ' : ¬ J < N := by omega
          have h1 := hsw.out
          rw [List.drop_of_length_le (by rw [HN.out]; omega)] at h1
          have h2 : s1 = sc := h1
          subst h2
          have SC1 := Lib.hid (I.escript (eBelow HE9.out hbr.out))
          have HBZ := Lib.hid (HB9.out.trans (hbr.out.mono HB9.out.size))
          clear hJn h1 hsw
          obtain ⟨wz, rfl⟩ : ∃ wz : World, wz = wr := ⟨_, rfl⟩
          go_wp2_with fail
          refine SC1.out.mono ?_
          rintro e w12 ⟨rfl, hb12⟩
          have HB12 := Lib.hid (HBZ.out.trans (hb12.mono HBZ.out.size))
          clear hb12 HBZ SC1
          go_wp2_with fail
          go_ret
          exact ⟨ret_bool (by simp), HB12.out⟩
        have hJ' : J < N := by omega
        have hJ1 : J < te.length := by rw [HN.out]; exact hJ'
        have j3 : (0 : Int) ≤ J := by omega
        have j4 : (J : Int) < N := by omega
        have hrow := HO9.out.below hbr.out (Nat.le_refl _)
        obtain ⟨g, cg, hgv⟩ : ∃ g c', Value.slice A10 N c10 = .slice (some ⟨g, 0, none⟩) N c' := by
          obtain ⟨xs, hown, _⟩ := HO9.out
          rcases hown.2 with ⟨_, h2⟩ | ⟨g, cap, cur, h1, _⟩
          · omega
          · rw [HN.out] at h1
            exact ⟨g, cap, h1⟩
        obtain ⟨rfl, rfl⟩ : A10 = some ⟨g, 0, none⟩ ∧ c10 = cg := by injection hgv with a b c; exact ⟨a, c⟩
        clear hgv
        obtain ⟨A7, n7, c7, q0, q1, q2, q3, hn7, hu7, -⟩ := hrow.cellsAt (k := J) hJ1
        have h78 := HSM.out _ (List.getElem_mem hJ1)
        have hsw1 := hsw.out
        rw [List.drop_eq_getElem_cons hJ1] at hsw1
        obtain ⟨t, ht⟩ : ∃ t, te[J] = t := ⟨_, rfl⟩
        rw [ht] at q0 q1 q3 hn7 hu7 h78 hsw1
        obtain ⟨tp, tz, tu, te'⟩ := t
        simp only at q0 q1 q3 hn7 hu7 h78
        have hba : Below wr.heap.size wr (wr.alloc (.cells #[.int .i64 tp, .int .i64 tz, .slice A7 n7 c7, .int .i64 te'] 44)) := (Below.refl _ wr).alloc (Nat.le_refl _) _
        obtain ⟨p1, c1', e1, g1, g2, g3⟩ := hu7
        obtain ⟨rfl, rfl⟩ : A7 = p1 ∧ c7 = c1' := by injection e1 with a b c; exact ⟨a, c⟩
        have HR9 := Lib.hid (g3.rd (Nat.le_refl wr.heap.size))
        have HQ := Held.new wr #[.int .i64 tp, .int .i64 tz, .slice A7 n7 c7, .int .i64 te'] 44
        have x1 := HQ.cell 1
        have x2 := HQ.cell 2
        have HQH := Lib.hid HQ
        have HBA := Lib.hid hba
        have HBR2 := Lib.hid (hbr.out.trans (hba.mono hsz))
        have HN7 := Lib.hid hn7
        have n78 : n7 ≤ 8 := by omega
        have HSW1 := Lib.hid hsw1
        have g1' : n7 ≤ c7 := by rw [hn7]; exact g1
        clear hsw hbr hrow hn7 h78 hsw1 ht hba e1 g1 g2 g3 HQ hJn hJ1
        by_cases hl2 : n7 = 2
        · subst hl2
          have hu2 : tu.length = 2 := HN7.out.symm
          obtain ⟨x, y, hxy⟩ : ∃ x y, tu = [x, y] := by
            match tu, hu2 with
            | [x, y], _ => exact ⟨x, y, rfl⟩
          subst hxy
          obtain ⟨b3, o3, hA7, hb3, hc3⟩ := rd_ints HR9.out (by simp)
          subst hA7
          have u0 := (HBA.out.cell (p := ⟨b3, o3 + 0, none⟩) hb3).trans (hc3 0 (by simp))
          have u1 := hc3 1 (by simp)
          have u1' := (HBA.out.cell (p := ⟨b3, o3 + 1, none⟩) hb3).trans u1
          rw [show ([x, y] : List Int).getD 0 0 = x from rfl, Nat.add_zero] at u0
          rw [show ([x, y] : List Int).getD 1 0 = y from rfl] at u1 u1'
          clear hu2 hc3
          by_cases hx : x = 239
          · subst hx
            rcases HSW1.out with ⟨h1, _⟩ | ⟨k, hk9, h1, hks, hne, h0, h2⟩
            · exact absurd ⟨rfl, rfl⟩ h1
            have hy : y = cdC k := by simp at h1; exact h1
            have h0' : tz = 0 := h0
            subst h0'
            have HSW2 := Lib.hid h2
            have HY := Lib.hid hy
            have hlast : ¬ ((J : Int) = (N : Int) - 1) := fun e => by
              apply hne
              rw [List.drop_eq_nil_iff, HN.out]
              omega
            have d3 : ((J : Int) == (N : Int) - 1) = false := by simpa using hlast
            have d4 : ((k : Int) == s1) = false := by simpa using hks
            clear h1 hy h0 h2 hne HSW1 hlast hks
            go_wp2_with fail
            obtain ⟨Wa, hWa⟩ : ∃ W, wr.alloc (.cells #[.int .i64 tp, .int .i64 0, .slice (some ⟨b3, o3, none⟩) 2 c7, .int .i64 te'] 44) = W := ⟨_, rfl⟩
            obtain ⟨P, hP⟩ : ∃ P, wr.heap.size = P := ⟨_, rfl⟩
            have hPW : P < Wa.heap.size := by rw [← hWa, ← hP]; simp
            rw [hWa] at x1 x2 HQH HBA HBR2 u0 u1' ⊢
            rw [hP] at x1 x2 HQH HBA hb3 ⊢
            clear hP hWa u1 u0 q0 q1 q2 q3
            go_wp2_with fail
            refine (lcodes_any Wa).mono ?_
            rintro e Wb ⟨rfl, rfl⟩
            have hbc := below_allocI Wa (.cells cdTab 3)
            have HC := Lib.hid (Held.new Wa cdTab 3)
            have HQC := Lib.hid (HQH.out.below hbc hPW)
            have HBR3 := Lib.hid (HBR2.out.trans (hbc.mono HBR2.out.size))
            have U1 := (hbc.cell (p := ⟨b3, o3 + 1, none⟩) (show b3 < Wa.heap.size by omega)).trans u1'
            obtain ⟨Wc, hWc⟩ : ∃ W, Wa.alloc (.cells cdTab 3) = W := ⟨_, rfl⟩
            obtain ⟨Q, hQ⟩ : ∃ Q, Wa.heap.size = Q := ⟨_, rfl⟩
            rw [hWc] at HC HQC HBR3 U1 ⊢
            rw [hQ] at HC ⊢
            have X1 := HQC.out.cell 1
            have X2 := HQC.out.cell 2
            have HCC := Lib.hid (show ∀ i : Nat, i < 9 → Wc.cell? ⟨Q, i, none⟩ = some (.int .i64 (cdC i)) from fun i hi => (HC.out.cell i).trans (tab_ints18 inCd i hi))
            have HEQ := Lib.hid (show ∀ i : Nat, i < 9 → ((cdC i == y) = true ↔ i = k) from fun i hi => by
              rw [HY.out]
              have h := all_rangeI (show (List.range 9).all (fun i => (List.range 9).all fun k => decide ((cdC i == cdC k) = true ↔ i = k)) = true by decide +kernel) i hi
              exact of_decide_eq_true (all_rangeI h k hk9))
            have hWcr := Lib.hid (show Wc = Wc from rfl)
            clear HC HQC hbc hWc hQ x1 x2 u1' HQH HBA HBR2 hPW
            go_wp2_with fail
            obtain ⟨wq, hwq⟩ : ∃ wq, wq = wr := ⟨_, rfl⟩
            clear hwq
            go_loopw [10, 55] (fun v i wi => ∃ m : Nat, m ≤ 9 ∧ i = .int .i64 m ∧ v = .int .i64 (if k < m then (k : Int) else -1) ∧ wi = Wc) (fun _ i _ => 9 - (intOf i).toNat)
            case atStart => exact ⟨0, by omega, rfl, by rw [if_neg (by omega)], rfl⟩
            case round =>
              obtain ⟨m, hm, rfl, rfl, rfl⟩ := hrel
              by_cases hm9 : m = 9
              · subst hm9
                rw [if_pos hk9, show ((9 : Nat) : Int) = 9 from rfl]
                have d2 : decide ((k : Int) < 0) = false := by simp
                clear HCC HEQ
                go_wp2_with fail
                go_roundw
                case rel => exact ⟨J + 1, k, by omega, by go_num, rfl, HSW2, HBR3⟩
                case measure => simp [intOf]; omega
              have hm' : m < 9 := by omega
              have m3 : (0 : Int) ≤ m := by omega
              have m4 : (m : Int) < 9 := by omega
              have r5 := HCC.out m hm'
              have he := HEQ.out m hm'
              obtain ⟨cm, hcm⟩ : ∃ x, cdC m = x := ⟨_, rfl⟩
              rw [hcm] at r5 he
              by_cases hmk : m = k
              · subst hmk
                have d5 : (cm == y) = true := he.2 rfl
                rw [if_neg (by omega)]
                clear he hm9 hcm
                go_wp2_with fail
                go_roundw
                case rel => exact ⟨m + 1, by omega, by go_num, by rw [if_pos (by omega)], by trivial⟩
                case measure => simp [intOf]; omega
              · have d5 : (cm == y) = false := by
                  cases h : (cm == y) with
                  | false => rfl
                  | true => exact absurd (he.1 h) hmk
                have hif : (if k < m + 1 then (k : Int) else -1) = (if k < m then (k : Int) else -1) := by
                  by_cases h : k < m
                  · rw [if_pos h, if_pos (by omega)]
                  · rw [if_neg h, if_neg (by omega)]
                obtain ⟨nx, hnx⟩ : ∃ x, (if k < m then (k : Int) else -1) = x := ⟨_, rfl⟩
                rw [hnx] at hif ⊢
                have HIF := Lib.hid hif
                clear he hm9 hmk hcm hnx hif
                go_wp2_with fail
                go_roundw
                case rel => exact ⟨m + 1, by omega, by go_num, by rw [HIF.out], by trivial⟩
                case measure => simp [intOf]; omega
          · have d1 : (x != 239) = true := by simpa using hx
            have HSW2 : Hid (SwOK s1 (te.drop (J + 1)) sc) := by
              rcases HSW1.out with ⟨_, h⟩ | ⟨k, _, h1, _⟩
              · exact h
              · exact absurd (by have h2 : ([x, y] : List Int) = [239, cdC k] := h1; injection h2) hx
            clear HSW1 hx u1 u1' x1
            go_wp2_with fail
            go_roundw
            case rel => exact ⟨J + 1, s1, by omega, by go_num, rfl, HSW2, HBR2⟩
            case measure => simp [intOf]; omega
        · have d1 : ((n7 : Int) != 2) = true := by
            have : (n7 : Int) ≠ 2 := by omega
            simpa using this
          have HSW2 : Hid (SwOK s1 (te.drop (J + 1)) sc) := by
            rcases HSW1.out with ⟨_, h⟩ | ⟨k, _, h1, _⟩
            · exact h
            · exact absurd (by rw [HN7.out]; show tu.length = 2; rw [show tu = [239, cdC k] from h1]; rfl) hl2
          clear HSW1 hl2 x1
          go_wp2_with fail
          go_roundw
          case rel => exact ⟨J + 1, s1, by omega, by go_num, rfl, HSW2, HBR2⟩
          case measure => simp [intOf]; omega
    have hK' : K < M := by omega
    have hK1 : K < ss.length := by rw [HM.out]; exact hK'
    have k3 : (0 : Int) ≤ K := by omega
    have k4 : (K : Int) < M := by omega
    obtain ⟨b3, o3, rfl, -, hc3⟩ := rd_ints (HRX.out wr hmid.out) (by omega)
    have r3 := hc3 K hK1
    obtain ⟨s, hs⟩ : ∃ s, ss.getD K 0 = s := ⟨_, rfl⟩
    obtain ⟨ts, q', a', ah', sc', hd⟩ : ∃ ts q' a' ah' sc', ePut q a ah sc (ss.getD K 0) = (ts, q', a', ah', sc') := ⟨_, _, _, _, _, rfl⟩
    have hes2 := hes.out.step hK1 hd
    have hq1 := hes.out.one
    have hln := ePut_len hd hq1
    obtain ⟨-, ha1, -, hah, ha0, hsc0, hsc1⟩ := hes.out
    have HES2 := Lib.hid hes2
    rw [hs] at r3 hd
    have hI5 := I.keep HI.out hb.out
    have P1 := Lib.hid (I.eput s ts q' a' ah' sc' hE.out hI5 hq1 hah ha0 (by omega) hsc0 hsc1 hd)
    have HLN := Lib.hid (show acc.length + ts.length ≤ 1048576 by omega)
    have hal2 : (acc ++ ts).length ≤ 3 * (K + 1) := by rw [List.length_append]; omega
    have hvl := Lib.hid (fun b (e : _ = some b) => own_ltT hrow.out e)
    have hfr := Lib.hid (fun (e : q = [] ∧ a = 0) => hnil.out (by rw [e.1, e.2] at ha1; simp at ha1; omega))
    obtain ⟨A9, c9, rfl, -⟩ := hrow.out.form
    obtain ⟨k9, hk9⟩ : ∃ k, acc.length = k := ⟨_, rfl⟩
    rw [hk9] at hnot hvl htk hfr ⊢
    clear hes hes2 hs hd hI5 hE hc3 hKn hln hk9 hal hrow hnil
    go_wp2_with fail
    refine P1.out.mono ?_
    rintro e w8 ⟨v8, G', F', B8, rfl, ho8, hE8, hT8⟩
    obtain ⟨base', hbB, htk8⟩ := htk.out.told hT8 hfr.out
    have hm8 := hT8.mid
    obtain ⟨A8, c8, rfl, -⟩ := ho8.form
    obtain ⟨m8, hm8l⟩ : ∃ m, ts.length = m := ⟨_, rfl⟩
    rw [hm8l] at ho8 ⊢
    have HM8 := Lib.hid hm8l.symm
    have HO8 := Lib.hid ho8
    have HROW8 := Lib.hid htk8.row
    have hbR' := htk8.le
    have hbW' := htk8.top
    have HFAR8 := Lib.hid htk8.far
    have HT8 := Lib.hid hT8
    have hB8 := hT8.base
    have HMID8 := Lib.hid (hmid.out.then hm8 (fun b hb => by rw [HW0.out]; exact hff.out b hb))
    have hs8 : R ≤ w8.heap.size := Nat.le_trans hwr hm8.size
    have HE8 := Lib.hid hE8
    have HFF8 := Lib.hid (show ∀ b, G' b → Fe b ∨ R ≤ b from fun b hb => by
      rcases hT8.gnew b hb with h | h
      · exact hff.out b h
      · right; omega)
    clear htk hmid hE8 hm8 P1 hm8l ho8 hT8 hff hb htk8 hfr
    go_wp2_with (at_builtin; refine wpList_appTk rfl _ _ rfl base' (.slice A9 k9 c9) acc rfl HROW8.out A8 m8 c8 B8 ts rfl HM8.out HO8.out hbB (fun b e => Nat.lt_of_lt_of_le (hvl.out b e).2 hB8) HLN.out hbW' ?_)
    intro v9 w9 HO9 HG9 HV9
    obtain ⟨hE9, hN9⟩ := etold HE8.out hnot.out HT8.out (fun b e => (hvl.out b e).2) HG9.out HV9.out
    have HTK9 := Lib.hid (show TkRow G' R base' w9 v9 (acc ++ ts) from ⟨hbR', Nat.le_trans hbW' HG9.out.size, HFAR8.out, HO9.out⟩)
    have HE9 := Lib.hid hE9
    have HN9 := Lib.hid hN9
    have HMID9 := Lib.hid (HMID8.out.grown HG9.out (fun b e => by rw [HW0.out]; have := (hvl.out b e).1; omega))
    clear hE9 hN9 HG9 HV9 HE8 HROW8 HO8 HMID8 hnot HT8 hvl
    go_wp2_with fail
    go_roundw
    case rel => exact ⟨K + 1, q', ah', a', sc', _, G', F', base', by omega, by go_num, HES2, HE9, HTK9, HN9, HMID9, HFF8, hal2, Lib.hid (fun e => by omega)⟩
    case measure => simp [intOf]; omega
end Go.Proofs.YtdkcadckbjncjaaDoor
