/- TableTurn: the walk. -/
import Derived.Test.YtpbmaacchjedpaaZ13
import Derived.Test.YtpbmaacchjedpaaZ11
namespace Go.Proofs.Ytpbmaacchjedpaa
set_option linter.unusedVariables false
set_option linter.unusedSimpArgs false
set_option linter.unnecessarySimpa false
open Go.RowKit
set_option maxRecDepth 100000 in
set_option maxHeartbeats 6400000 in
theorem tableTurn_any (I : TabApi) (n : Nat) (A : Option Addr) (c : Nat) (rows : List RowL) (A' : Option Addr) (c' : Nat) (zs : List Int) (w : World) (hr : RwAt w w.heap.size A n c rows) (hz : Rd w w.heap.size A' (zs.map (Value.int .u8))) (hzr : ∀ z ∈ zs, 0 ≤ z ∧ z ≤ 255) (hzc : zs.length ≤ c') (hzm : c' ≤ maxLen) :
    Calls Try.prog 8 #[.slice A n c, .slice A' zs.length c'] w fun e w' => e = .returned (.bool true) ∧ Below w.heap.size w w' := by
  obtain ⟨rs, hrs⟩ : ∃ rs, tabR (rightR (rulesR rows)) = rs := ⟨_, rfl⟩
  obtain ⟨hck, hcl, hct, h40⟩ := tab_good rows
  rw [hrs] at hck hcl hct h40
  have HCL := Lib.hid hcl
  have HGT := Lib.hid (good_of hct)
  have HG := Lib.hid (good_of hck)
  obtain ⟨N, hN⟩ : ∃ N, N = rs.length := ⟨_, rfl⟩
  obtain ⟨Z, hZ⟩ : ∃ Z, Z = zs.length := ⟨_, rfl⟩
  obtain ⟨s0, hus⟩ : ∃ us, somM zs = us := ⟨_, rfl⟩
  obtain ⟨M, hM⟩ : ∃ M, s0.length = M := ⟨_, rfl⟩
  have hM60 : M ≤ 60 := by rw [← hM, ← hus]; exact somM_len zs
  rw [← hZ] at hzc ⊢
  rw [← hN] at h40
  unfold maxLen at hzm
  have HR := Lib.hid hr
  have HRS := Lib.hid hrs
  have HCK := Lib.hid hck
  have HN := Lib.hid hN
  have HZ := Lib.hid hz
  have HZR := Lib.hid hzr
  have HZL := Lib.hid hZ
  have HUS := Lib.hid hus
  have HM := Lib.hid hM
  clear hr hrs hck hcl hct hN hz hzr hZ hus hM
  go_enter Try.func8, Try.ntmps8
  go_wp2_with fail
  refine (awake15_any I _).mono ?_
  rintro e w1 ⟨rfl, hb1⟩
  have hs1 := hb1.size
  go_wp2_with fail
  refine (ltab_any n A c rows w1.heap.size _ (HR.out.below hb1 hs1) (Nat.le_refl _) rs HRS.out).mono ?_
  rintro e w2 ⟨v2, rfl, ho2, hb2⟩
  have hs2 := hb2.size
  obtain ⟨A2, c2, rfl, hat2⟩ := ho2.form
  rw [← HN.out] at hat2 ⊢
  have HAT2 := Lib.hid hat2
  clear ho2 hat2
  go_wp2_with fail
  refine (I.of_ok N A2 c2 rs w2.heap.size _ HAT2.out (Nat.le_refl _) (by omega) HCK.out HCL.out).mono ?_
  rintro e w3 ⟨T, rfl, ho, hb3⟩
  have hs3 := hb3.size
  have HO := Lib.hid ho
  have hbE3 : Below w.heap.size w w3 := hb1.trans ((hb2.trans (hb3.mono hs2)).mono hs1)
  have HB3 := Lib.hid hbE3
  have hsE := hbE3.size
  clear ho hb1 hb2 hb3 hbE3 HAT2
  go_wp2_with fail
  refine (some_any Z A' c' zs w.heap.size w3 HZL.out (HZ.out.below HB3.out (Nat.le_refl _)) HZR.out hsE (by omega) hzc s0 M HUS.out HM.out).mono ?_
  rintro e w4 ⟨A5, c5, rfl, hu4, hb4⟩
  have hs4 := hb4.size
  obtain ⟨q1, q2, q3, q4⟩ := hu4.rd
  have HU4 := Lib.hid (q4.rd (Nat.le_refl w4.heap.size))
  have HB34 := Lib.hid hb4
  clear hu4 q1 q4 hb4
  go_wp2_with fail
  have hro := rewA_out HG.out s0 0
  have hrl := HG.out.rew_len s0 0
  obtain ⟨t0, ht0⟩ : ∃ t0, rewA rs 0 s0 = t0 := ⟨_, rfl⟩
  rw [ht0] at hro hrl
  obtain ⟨L0, hL0⟩ : ∃ L, L = t0.length := ⟨_, rfl⟩
  rw [HM.out, ← hL0] at hrl
  have HT0 := Lib.hid ht0
  have HO0 := Lib.hid hro
  have HL0 := Lib.hid hL0
  clear ht0 hro hL0
  refine (I.decode w4 w3.heap.size T rs (I.below HO.out HB34.out (Nat.le_refl _)) hs4 M A5 c5 s0 w4.heap.size HM.out.symm HU4.out (Nat.le_refl _) q2 q3 (by omega) t0 HT0.out).mono ?_
  rintro e w5 ⟨v5, rfl, ho5, hb5⟩
  obtain ⟨A6, c6, rfl, hat5⟩ := ho5.form
  rw [← HL0.out] at hat5 ⊢
  have HAT5 := Lib.hid hat5
  have HB35 := Lib.hid (HB34.out.trans (hb5.mono hs4))
  have hs5 := HB35.out.size
  clear ho5 hat5 hb5 HU4 q2 q3
  go_wp2_with fail
  go_loopw [7, 35] (fun v i wr => ∃ K : Nat, K ≤ L0 ∧ i = .int .i64 K ∧ Hid (IR wr w5.heap.size v (outsT (t0.take K))) ∧ Hid (Below w5.heap.size w5 wr)) (fun _ i _ => L0 - (intOf i).toNat)
  case atStart => exact ⟨0, by omega, rfl, Lib.hid (IR.nil _ _), Lib.hid (Below.refl _ _)⟩
  case round =>
    obtain ⟨K, hK, rfl, hi, hb⟩ := hrel
    by_cases hKn : K = L0
    · subst hKn
      obtain ⟨w6, rfl⟩ : ∃ w6 : World, w6 = wr := ⟨_, rfl⟩
      have htake : t0.take K = t0 := List.take_of_length_le (by rw [← HL0.out]; exact Nat.le_refl _)
      rw [htake] at hi
      obtain ⟨Au, cu, rfl, hp1, hp2⟩ := hi.out.form
      have hpl := outsT_len t0 HO0.out
      rw [← HL0.out] at hpl
      obtain ⟨us, hus⟩ : ∃ us, outsT t0 = us := ⟨_, rfl⟩
      rw [hus] at hi hp1 hpl ⊢
      obtain ⟨Q, hQ⟩ : ∃ Q, us.length = Q := ⟨_, rfl⟩
      have hir := hi.out.rd
      have htl := encA_len HGT.out us
      have hto := encA_out HGT.out us
      obtain ⟨ts, hts⟩ : ∃ ts, encA rs us = ts := ⟨_, rfl⟩
      rw [hts] at htl hto
      obtain ⟨L, hL⟩ : ∃ L, L = ts.length := ⟨_, rfl⟩
      rw [hQ] at hi hp1 hpl htl ⊢
      rw [← hL] at htl
      have hb05 := HB35.out.trans (hb.out.mono hs5)
      have D1 := Lib.hid (I.encode w6 w3.heap.size T rs (I.below HO.out hb05 (Nat.le_refl _)) hb05.size Q Au cu us w6.heap.size hQ.symm hir (Nat.le_refl _) hp1 hp2 (by omega) ts hts)
      have HU := Lib.hid hir
      have HTS := Lib.hid hts
      have HTO := Lib.hid hto
      have HL := Lib.hid hL
      have HQL := Lib.hid hQ
      have HB36 := Lib.hid hb05
      have hs6 := hb05.size
      have hQ480 : Q ≤ 480 := by omega
      have hL480 : L ≤ 480 := by omega
      clear htake hi hb hp1 hp2 hpl hus hQ hir htl hto hts hL hb05
      go_wp2_with fail
      refine D1.out.mono ?_
      rintro e w7 ⟨v7, rfl, ho7, hb7⟩
      obtain ⟨A9, c9, rfl, hat7⟩ := ho7.form
      rw [← HL.out] at hat7 ⊢
      have HAT7 := Lib.hid hat7
      have HB67 := Lib.hid hb7
      have HB37 := Lib.hid (HB36.out.trans (hb7.mono hs6))
      have hs7 := HB37.out.size
      clear ho7 hat7 hb7 D1
      go_wp2_with fail
      go_loopw [10, 48] (fun v i wr => ∃ K : Nat, K ≤ L ∧ i = .int .i64 K ∧ Hid (IR wr w7.heap.size v (outsT (ts.take K))) ∧ Hid (∀ t ∈ ts.take K, t.err = 0) ∧ Hid (Below w7.heap.size w7 wr)) (fun _ i _ => L - (intOf i).toNat)
      case atStart => exact ⟨0, by omega, rfl, Lib.hid (IR.nil _ _), Lib.hid (by simp), Lib.hid (Below.refl _ _)⟩
      case round =>
        obtain ⟨K, hK, rfl, hi, ha, hb⟩ := hrel
        by_cases hKn : K = L
        · subst hKn
          obtain ⟨w8, rfl⟩ : ∃ w8 : World, w8 = wr := ⟨_, rfl⟩
          have htake : ts.take K = ts := List.take_of_length_le (by rw [← HL.out]; exact Nat.le_refl _)
          rw [htake] at hi ha
          obtain ⟨A8, c8, rfl, hp1, hp2⟩ := hi.out.form
          have hpl := outsT_len ts HTO.out
          rw [← HL.out] at hpl
          have hback : outsT (rewA rs 0 (outsT ts)) = us := by
            have := (table_back HG.out HGT.out HCL.out us (by rw [HTS.out]; exact ha.out) 0).1
            rwa [HTS.out] at this
          have hro := rewA_out HG.out (outsT ts) 0
          have hrl := HG.out.rew_len (outsT ts) 0
          obtain ⟨bs, hbs⟩ : ∃ bs, outsT ts = bs := ⟨_, rfl⟩
          rw [hbs] at hi hp1 hpl hback hro hrl ⊢
          obtain ⟨P, hP⟩ : ∃ P, bs.length = P := ⟨_, rfl⟩
          obtain ⟨t2, ht2⟩ : ∃ t2, rewA rs 0 bs = t2 := ⟨_, rfl⟩
          rw [ht2] at hback hro hrl
          have hir := hi.out.rd
          rw [hP] at hi hp1 hpl hrl ⊢
          have hb05 := HB37.out.trans (hb.out.mono hs7)
          have D1 := Lib.hid (I.decode w8 w3.heap.size T rs (I.below HO.out hb05 (Nat.le_refl _)) hb05.size P A8 c8 bs w8.heap.size hP.symm hir (Nat.le_refl _) hp1 hp2 (by omega) t2 ht2)
          have HB68 := Lib.hid (HB67.out.trans (hb.out.mono HB67.out.size))
          have HB38 := Lib.hid hb05
          have HBK := Lib.hid hback
          have HRO := Lib.hid hro
          have hrl40 : t2.length ≤ 3840 := by omega
          clear htake hi ha hb hp1 hp2 hpl hback hro hrl hbs hP ht2 hir hb05
          go_wp2_with fail
          refine D1.out.mono ?_
          rintro e w9 ⟨v9, rfl, ho9, hb9⟩
          obtain ⟨A10, c10, rfl, hat9⟩ := ho9.form
          obtain ⟨L2, hL2⟩ : ∃ L2, L2 = t2.length := ⟨_, rfl⟩
          rw [← hL2] at hat9 hrl40 ⊢
          have HAT9 := Lib.hid hat9
          have HL2 := Lib.hid hL2
          have HB69 := Lib.hid (HB68.out.trans (hb9.mono HB68.out.size))
          have HB39 := Lib.hid (HB38.out.trans (hb9.mono HB38.out.size))
          clear ho9 hat9 hb9 hL2 D1 HB68 HB38
          go_wp2_with fail
          go_loopw [13, 64] (fun v i wr => ∃ K : Nat, K ≤ L2 ∧ i = .int .i64 K ∧ Hid (IR wr w9.heap.size v (outsT (t2.take K))) ∧ Hid (Below w9.heap.size w9 wr)) (fun _ i _ => L2 - (intOf i).toNat)
          case atStart => exact ⟨0, by omega, rfl, Lib.hid (IR.nil _ _), Lib.hid (Below.refl _ _)⟩
          case round =>
            obtain ⟨K, hK, rfl, hi, hb⟩ := hrel
            by_cases hKn : K = L2
            · subst hKn
              have htake : t2.take K = t2 := List.take_of_length_le (by rw [← HL2.out]; exact Nat.le_refl _)
              rw [htake, HBK.out] at hi
              obtain ⟨A11, c11, rfl, hp1, hp2⟩ := hi.out.form
              have hir := hi.out.rd
              rw [HQL.out] at hi hp1 ⊢
              have U1 := Lib.hid (units_v Q Q A11 Au c11 cu us us wr.heap.size w6.heap.size wr true (eqB_t rfl) HQL.out.symm HQL.out.symm hir (Rd.below (show Rd w6 w6.heap.size Au (us.map (Value.int .i64)) from HU.out) (HB69.out.trans (hb.out.mono HB69.out.size)) (Nat.le_refl _)) (by omega))
              have HBF := Lib.hid (HB3.out.trans ((HB39.out.trans (hb.out.mono HB39.out.size)).mono hsE))
              clear hi hb htake hir
              go_wp2_with fail
              refine U1.out.mono ?_
              rintro e w12 ⟨rfl, q, rfl⟩
              go_wp2_with fail
              go_ret
              exact ⟨rfl, below_dr HBF.out q⟩
            have hK' : K < L2 := by omega
            have hK1 : K < t2.length := by rw [← HL2.out]; exact hK'
            have k3 : (0 : Int) ≤ K := by omega
            have k4 : (K : Int) < L2 := by omega
            obtain ⟨b, o, rfl, hbB, A3, n3, c3, g0, g1, g2, g3, e1, e2, e3, e4⟩ := HAT9.out.at hK1
            have q0 := (hb.out.cell (p := ⟨b, o + K * 4, none⟩) hbB).trans g0
            have q1 := (hb.out.cell (p := ⟨b, o + K * 4 + 1, none⟩) hbB).trans g1
            have q5 := (hb.out.cell (p := ⟨b, o + K * 4 + 2, none⟩) hbB).trans g2
            have q6 := (hb.out.cell (p := ⟨b, o + K * 4 + 3, none⟩) hbB).trans g3
            have ho8 := HRO.out _ (List.getElem_mem hK1)
            have hotk := outsT_take hK1
            have hzl := outsT_len (t2.take K) fun t ht => HRO.out t (List.mem_of_mem_take ht)
            rw [List.length_take] at hzl
            obtain ⟨t, ht⟩ : ∃ t, t2[K] = t := ⟨_, rfl⟩
            rw [ht] at q0 q1 q6 e1 e4 ho8 hotk
            obtain ⟨p, z, u, d⟩ := t
            simp only at q0 q1 q6 e1 e4 ho8 hotk
            obtain ⟨A8, c8, rfl, -, -⟩ := hi.out.form
            obtain ⟨ys, hys⟩ : ∃ ys, outsT (t2.take K) = ys := ⟨_, rfl⟩
            rw [hys] at hi hotk hzl ⊢
            obtain ⟨m, hm⟩ : ∃ m, ys.length = m := ⟨_, rfl⟩
            have HM8 := Lib.hid hm
            rw [hm] at hi hzl ⊢
            have hba : Below wr.heap.size wr (wr.alloc (.cells #[.int .i64 p, .int .i64 z, .slice A3 n3 c3, .int .i64 d] 49)) := (Below.refl _ wr).alloc (Nat.le_refl _) _
            have HI8 := Lib.hid (hi.out.below hba (Nat.le_refl _))
            have HB8 := Lib.hid (hb.out.trans (hba.mono hb.out.size))
            have HR8 := Lib.hid (e4.below HB8.out (Nat.le_refl _))
            have HQ := Held.new wr #[.int .i64 p, .int .i64 z, .slice A3 n3 c3, .int .i64 d] 49
            have x2 := HQ.cell 2
            have x3 := HQ.cell 3
            have hsb := HB8.out.size
            have E1 := Lib.hid e1
            have HOT := Lib.hid hotk
            have hm512 : m ≤ 40000 := by omega
            clear hi hb hba e1 e4 HQ g0 g1 g2 g3 ht hys hm hotk hzl hKn
            go_wp2_with (at_builtin; refine wpList_appI rfl _ _ rfl w9.heap.size (.slice A8 m c8) ys rfl HI8.out A3 n3 c3 u rfl E1.out _ HR8.out (by have := HM8.out; have := E1.out; omega) hsb ?_)
            intro vn wn HI9 HG9
            have HB9 := Lib.hid (IR.keepsB HB8.out HG9.out HI8.out (Nat.le_refl _) hsb)
            have HI9' : Hid (IR wn w9.heap.size vn (outsT (t2.take (K + 1)))) := by rw [HOT.out]; exact HI9
            clear HI9 HG9 HI8 HB8 HR8
            go_wp2_with fail
            go_roundw
            case rel => exact ⟨K + 1, by omega, by go_num, HI9', HB9⟩
            case measure => simp [intOf]; omega
        have hK' : K < L := by omega
        have hK1 : K < ts.length := by rw [← HL.out]; exact hK'
        have k3 : (0 : Int) ≤ K := by omega
        have k4 : (K : Int) < L := by omega
        obtain ⟨b, o, rfl, hbB, A3, n3, c3, g0, g1, g2, g3, e1, e2, e3, e4⟩ := HAT7.out.at hK1
        have q0 := (hb.out.cell (p := ⟨b, o + K * 4, none⟩) hbB).trans g0
        have q1 := (hb.out.cell (p := ⟨b, o + K * 4 + 1, none⟩) hbB).trans g1
        have q5 := (hb.out.cell (p := ⟨b, o + K * 4 + 2, none⟩) hbB).trans g2
        have q6 := (hb.out.cell (p := ⟨b, o + K * 4 + 3, none⟩) hbB).trans g3
        have ho8 := HTO.out _ (List.getElem_mem hK1)
        have hotk := outsT_take hK1
        have hall : ts[K].err = 0 → ∀ t ∈ ts.take (K + 1), t.err = 0 := fun h => mem_takeS hK1 ha.out h
        have hzl := outsT_len (ts.take K) fun t ht => HTO.out t (List.mem_of_mem_take ht)
        rw [List.length_take] at hzl
        obtain ⟨t, ht⟩ : ∃ t, ts[K] = t := ⟨_, rfl⟩
        rw [ht] at q0 q1 q6 e1 e4 ho8 hotk hall
        obtain ⟨p, z, u, d⟩ := t
        simp only at q0 q1 q6 e1 e4 ho8 hotk hall
        obtain ⟨A8, c8, rfl, -, -⟩ := hi.out.form
        obtain ⟨ys, hys⟩ : ∃ ys, outsT (ts.take K) = ys := ⟨_, rfl⟩
        rw [hys] at hi hotk hzl ⊢
        obtain ⟨m, hm⟩ : ∃ m, ys.length = m := ⟨_, rfl⟩
        have HM8 := Lib.hid hm
        rw [hm] at hi hzl ⊢
        have hba : Below wr.heap.size wr (wr.alloc (.cells #[.int .i64 p, .int .i64 z, .slice A3 n3 c3, .int .i64 d] 49)) := (Below.refl _ wr).alloc (Nat.le_refl _) _
        have HI8 := Lib.hid (hi.out.below hba (Nat.le_refl _))
        have HB8 := Lib.hid (hb.out.trans (hba.mono hb.out.size))
        have HR8 := Lib.hid (e4.below HB8.out (Nat.le_refl _))
        have HQ := Held.new wr #[.int .i64 p, .int .i64 z, .slice A3 n3 c3, .int .i64 d] 49
        have x2 := HQ.cell 2
        have x3 := HQ.cell 3
        have hsb := HB8.out.size
        have E1 := Lib.hid e1
        have HOT := Lib.hid hotk
        have HAL := Lib.hid hall
        have hm512 : m ≤ 40000 := by omega
        clear hi hb hba e1 e4 HQ g0 g1 g2 g3 ht hys hm hotk hall hzl hKn ha
        by_cases hd : d = 0
        · subst hd
          have HA2 := Lib.hid (HAL.out rfl)
          go_wp2_with (at_builtin; refine wpList_appI rfl _ _ rfl w7.heap.size (.slice A8 m c8) ys rfl HI8.out A3 n3 c3 u rfl E1.out _ HR8.out (by have := HM8.out; have := E1.out; omega) hsb ?_)
          intro vn wn HI9 HG9
          have HB9 := Lib.hid (IR.keepsB HB8.out HG9.out HI8.out (Nat.le_refl _) hsb)
          have HI9' : Hid (IR wn w7.heap.size vn (outsT (ts.take (K + 1)))) := by rw [HOT.out]; exact HI9
          clear HI9 HG9 HI8 HB8 HR8
          go_wp2_with fail
          go_roundw
          case rel => exact ⟨K + 1, by omega, by go_num, HI9', HA2, HB9⟩
          case measure => simp [intOf]; omega
        · have hne : (d != 0) = true := by simpa using hd
          have HBF := Lib.hid (HB3.out.trans ((HB37.out.trans (HB8.out.mono hs7)).mono hsE))
          clear hd
          go_wp2_with fail
          go_ret
          exact ⟨rfl, HBF.out⟩
    have hK' : K < L0 := by omega
    have hK1 : K < t0.length := by rw [← HL0.out]; exact hK'
    have k3 : (0 : Int) ≤ K := by omega
    have k4 : (K : Int) < L0 := by omega
    obtain ⟨b, o, rfl, hbB, A3, n3, c3, g0, g1, g2, g3, e1, e2, e3, e4⟩ := HAT5.out.at hK1
    have q0 := (hb.out.cell (p := ⟨b, o + K * 4, none⟩) hbB).trans g0
    have q1 := (hb.out.cell (p := ⟨b, o + K * 4 + 1, none⟩) hbB).trans g1
    have q5 := (hb.out.cell (p := ⟨b, o + K * 4 + 2, none⟩) hbB).trans g2
    have q6 := (hb.out.cell (p := ⟨b, o + K * 4 + 3, none⟩) hbB).trans g3
    have ho8 := HO0.out _ (List.getElem_mem hK1)
    have hotk := outsT_take hK1
    have hzl := outsT_len (t0.take K) fun t ht => HO0.out t (List.mem_of_mem_take ht)
    rw [List.length_take] at hzl
    obtain ⟨t, ht⟩ : ∃ t, t0[K] = t := ⟨_, rfl⟩
    rw [ht] at q0 q1 q6 e1 e4 ho8 hotk
    obtain ⟨p, z, u, d⟩ := t
    simp only at q0 q1 q6 e1 e4 ho8 hotk
    obtain ⟨A8, c8, rfl, -, -⟩ := hi.out.form
    obtain ⟨ys, hys⟩ : ∃ ys, outsT (t0.take K) = ys := ⟨_, rfl⟩
    rw [hys] at hi hotk hzl ⊢
    obtain ⟨m, hm⟩ : ∃ m, ys.length = m := ⟨_, rfl⟩
    have HM8 := Lib.hid hm
    rw [hm] at hi hzl ⊢
    have hba : Below wr.heap.size wr (wr.alloc (.cells #[.int .i64 p, .int .i64 z, .slice A3 n3 c3, .int .i64 d] 49)) := (Below.refl _ wr).alloc (Nat.le_refl _) _
    have HI8 := Lib.hid (hi.out.below hba (Nat.le_refl _))
    have HB8 := Lib.hid (hb.out.trans (hba.mono hb.out.size))
    have HR8 := Lib.hid (e4.below HB8.out (Nat.le_refl _))
    have HQ := Held.new wr #[.int .i64 p, .int .i64 z, .slice A3 n3 c3, .int .i64 d] 49
    have x2 := HQ.cell 2
    have x3 := HQ.cell 3
    have hsb := HB8.out.size
    have E1 := Lib.hid e1
    have HOT := Lib.hid hotk
    have hm512 : m ≤ 40000 := by omega
    clear hi hb hba e1 e4 HQ g0 g1 g2 g3 ht hys hm hotk hzl hKn
    go_wp2_with (at_builtin; refine wpList_appI rfl _ _ rfl w5.heap.size (.slice A8 m c8) ys rfl HI8.out A3 n3 c3 u rfl E1.out _ HR8.out (by have := HM8.out; have := E1.out; omega) hsb ?_)
    intro vn wn HI9 HG9
    have HB9 := Lib.hid (IR.keepsB HB8.out HG9.out HI8.out (Nat.le_refl _) hsb)
    have HI9' : Hid (IR wn w5.heap.size vn (outsT (t0.take (K + 1)))) := by rw [HOT.out]; exact HI9
    clear HI9 HG9 HI8 HB8 HR8
    go_wp2_with fail
    go_roundw
    case rel => exact ⟨K + 1, by omega, by go_num, HI9', HB9⟩
    case measure => simp [intOf]; omega
end Go.Proofs.Ytpbmaacchjedpaa
