/- TableCodecs: the walk. -/
import Derived.Test.YtpbmaacchjedpaaZ13
import Derived.Test.YtpbmaacchjedpaaZ1
import Derived.Test.YtpbmaacchjedpaaZ11
import Derived.Test.YtpbmaacchjedpaaZ3
namespace Go.Proofs.Ytpbmaacchjedpaa
set_option linter.unusedVariables false
set_option linter.unusedSimpArgs false
set_option linter.unnecessarySimpa false
open Go.RowKit
/-- numbers below 60 -/
def codM (zs : List Int) : List Nat := (zs.take 60).map fun z => (z % 60).toNat
theorem codM_len (zs : List Int) (Q : Nat) (h : (if 60 < zs.length then 60 else zs.length) = Q) : (codM zs).length = Q := by
  unfold codM; rw [List.length_map, List.length_take]; split at h <;> omega
theorem codM_lt (zs : List Int) : ∀ k ∈ codM zs, k < 60 := by
  intro k hk
  obtain ⟨z, _, rfl⟩ := List.mem_map.1 hk
  omega
theorem codM_at (zs : List Int) (K : Nat) (h : K < (codM zs).length) : (codM zs)[K] = (zs.getD K 0 % 60).toNat := by
  have h' := h
  unfold codM at h'
  rw [List.length_map, List.length_take] at h'
  have hz : K < zs.length := by omega
  simp [codM, List.getD_eq_getElem?_getD, hz]
def castN (l : List Nat) : List Int := l.map fun k : Nat => (k : Int)
theorem castN_take {l : List Nat} {K : Nat} (h : K < l.length) : castN (l.take (K + 1)) = castN (l.take K) ++ [(l[K] : Int)] := by
  unfold castN; rw [List.take_succ_eq_append_getElem h, List.map_append]; rfl
set_option maxRecDepth 100000 in
set_option maxHeartbeats 6400000 in
theorem tableCodecs_any (I : TabApi) (A' : Option Addr) (c' : Nat) (zs : List Int) (w : World) (hz : Rd w w.heap.size A' (zs.map (Value.int .u8))) (hzr : ∀ z ∈ zs, 0 ≤ z ∧ z ≤ 255) (hzc : zs.length ≤ c') (hzm : c' ≤ maxLen) :
    Calls Try.prog 9 #[.slice A' zs.length c'] w fun e w' => e = .returned (.bool true) ∧ Below w.heap.size w w' := by
  obtain ⟨Z, hZ⟩ : ∃ Z, Z = zs.length := ⟨_, rfl⟩
  obtain ⟨Q, hQ⟩ : ∃ Q : Nat, (if 60 < zs.length then 60 else zs.length) = Q := ⟨_, rfl⟩
  have hql := codM_len zs Q hQ
  rw [← hZ] at hQ
  have hQZ : Q ≤ Z ∧ Q ≤ 60 := by split at hQ <;> omega
  have hmin : min (Z : Int) 60 = (Q : Int) := by rw [← hQ]; split <;> omega
  have hmin2 : (if (60 : Int) < (Z : Int) then (60 : Int) else (Z : Int)) = (Q : Int) := by rw [← hmin]; split <;> omega
  obtain ⟨hQZ1, hQ60⟩ := hQZ
  rw [← hZ] at hzc ⊢
  unfold maxLen at hzm
  have hQ0 : (0 : Int) ≤ (Q : Int) := by omega
  have hQZ' : (Q : Int) ≤ Z := by omega
  have hQc : Q ≤ c' := by omega
  obtain ⟨hback1, hback2⟩ := codecs_back (codM zs) (codM_lt zs)
  have HQL := Lib.hid hql
  have HZL := Lib.hid hZ
  have HZ := Lib.hid hz
  have HZR := Lib.hid hzr
  have HBK1 := Lib.hid hback1
  have HBK2 := Lib.hid hback2
  have HG := Lib.hid (good_of cdR_check)
  have HGT : Hid (Good (turnR cdR)) := by show Good (turnR cdR); rw [cdR_turn]; exact good_of cdT_check
  clear hql hZ hz hzr hback1 hback2 hQ
  go_enter Try.func9, Try.ntmps9
  go_wp2_with fail
  refine (awake15_any I _).mono ?_
  rintro e w1 ⟨rfl, hb1⟩
  have hs1 := hb1.size
  have HB1 := Lib.hid hb1
  clear hb1
  go_wp2_with fail
  go_loopw [3, 4] (fun v i wr => ∃ C : Nat, C ≤ 60 ∧ i = .int .i64 C ∧ Hid (OwnRs w1.heap.size wr v (cdR.take C)) ∧ Hid (Below w1.heap.size w1 wr)) (fun _ i _ => 60 - (intOf i).toNat)
  case atStart => exact ⟨0, by omega, rfl, OwnRs.nil _ _, Lib.hid (Below.refl _ _)⟩
  case round =>
    obtain ⟨C, hC, rfl, ho, hb⟩ := hrel
    by_cases hCn : C = 60
    · subst hCn
      rw [List.take_of_length_le (Nat.le_of_eq cdR_len)] at ho
      rw [show ((60 : Nat) : Int) = 60 from rfl]
      obtain ⟨w2, rfl⟩ : ∃ w2 : World, w2 = wr := ⟨_, rfl⟩
      obtain ⟨A2, c2, rfl, hat2⟩ := ho.out.form
      rw [cdR_len] at hat2 ⊢
      have O1 := Lib.hid (I.of_ok 60 A2 c2 cdR w2.heap.size w2 hat2 (Nat.le_refl _) (by omega) cdR_check cdR_closed)
      have HB2 := Lib.hid (HB1.out.trans (hb.out.mono hs1))
      have hs2 := HB2.out.size
      clear ho hb hat2
      go_wp2_with fail
      refine O1.out.mono ?_
      rintro e w3 ⟨T, rfl, hT, hb3⟩
      have HT := Lib.hid hT
      have HB3 := Lib.hid (HB2.out.trans (hb3.mono hs2))
      have hsE := HB3.out.size
      clear hT hb3 O1 HB2
      go_wp2_with fail
      go_loopw [7, 50] (fun v i wr => ∃ K : Nat, K ≤ Q ∧ i = .int .i64 K ∧ Hid (IR wr w3.heap.size v (castN ((codM zs).take K))) ∧ Hid (Below w3.heap.size w3 wr)) (fun _ i _ => Q - (intOf i).toNat)
      case atStart => exact ⟨0, by omega, rfl, Lib.hid (IR.nil _ _), Lib.hid (Below.refl _ _)⟩
      case round =>
        obtain ⟨K, hK, rfl, hi, hb⟩ := hrel
        by_cases hKn : K = Q
        · subst hKn
          obtain ⟨w4, rfl⟩ : ∃ w4 : World, w4 = wr := ⟨_, rfl⟩
          rw [List.take_of_length_le (Nat.le_of_eq HQL.out)] at hi
          obtain ⟨Au, cu, rfl, hp1, hp2⟩ := hi.out.form
          obtain ⟨us, hus⟩ : ∃ us, castN (codM zs) = us := ⟨_, rfl⟩
          have hul : us.length = K := by rw [← hus]; unfold castN; rw [List.length_map]; exact HQL.out
          rw [hus] at hi hp1 ⊢
          have hir := hi.out.rd
          have hro := rewA_out HG.out us 0
          have hrl := HG.out.rew_len us 0
          obtain ⟨t0, ht0⟩ : ∃ t0, rewA cdR 0 us = t0 := ⟨_, rfl⟩
          have hb1' : outsT t0 = (codM zs).map cdO := by rw [← ht0, ← hus]; exact HBK1.out
          rw [ht0] at hro hrl
          obtain ⟨L0, hL0⟩ : ∃ L, L = t0.length := ⟨_, rfl⟩
          rw [hul] at hi hp1 hrl ⊢
          rw [← hL0] at hrl
          have D1 := Lib.hid (I.decode w4 w3.heap.size T cdR (I.below HT.out hb.out (Nat.le_refl _)) hb.out.size K Au cu us w4.heap.size hul.symm hir (Nat.le_refl _) hp1 hp2 (by omega) t0 ht0)
          have HUS := Lib.hid hus
          have HUL := Lib.hid hul
          have HU := Lib.hid hir
          have HO0 := Lib.hid hro
          have HL0 := Lib.hid hL0
          have HMID := Lib.hid hb1'
          have HB34 := Lib.hid hb.out
          have hs4 := hb.out.size
          clear hi hb hp1 hp2 hus hul hir hro ht0 hb1' hL0
          go_wp2_with fail
          refine D1.out.mono ?_
          rintro e w5 ⟨v5, rfl, ho5, hb5⟩
          obtain ⟨A6, c6, rfl, hat5⟩ := ho5.form
          rw [← HL0.out] at hat5 ⊢
          have HAT5 := Lib.hid hat5
          have HB35 := Lib.hid (HB34.out.trans (hb5.mono hs4))
          have HB45 := Lib.hid hb5
          have hs5 := HB35.out.size
          clear ho5 hat5 hb5 D1 HB34
          go_wp2_with fail
          go_loopw [10, 65] (fun v i wr => ∃ J : Nat, J ≤ L0 ∧ i = .int .i64 J ∧ Hid (IR wr w5.heap.size v (outsT (t0.take J))) ∧ Hid (Below w5.heap.size w5 wr)) (fun _ i _ => L0 - (intOf i).toNat)
          case atStart => exact ⟨0, by omega, rfl, Lib.hid (IR.nil _ _), Lib.hid (Below.refl _ _)⟩
          case round =>
            obtain ⟨J, hJ, rfl, hi, hb⟩ := hrel
            by_cases hJn : J = L0
            · subst hJn
              obtain ⟨w6, rfl⟩ : ∃ w6 : World, w6 = wr := ⟨_, rfl⟩
              have htake : t0.take J = t0 := List.take_of_length_le (by rw [← HL0.out]; exact Nat.le_refl _)
              rw [htake] at hi
              rw [HMID.out] at hi
              obtain ⟨A8, c8, rfl, hp1, hp2⟩ := hi.out.form
              obtain ⟨mid, hmid⟩ : ∃ mid, (codM zs).map cdO = mid := ⟨_, rfl⟩
              have hml : mid.length = K := by rw [← hmid, List.length_map]; exact HQL.out
              rw [hmid] at hi hp1 ⊢
              have hir := hi.out.rd
              have htl := encA_len HGT.out mid
              have hto := encA_out HGT.out mid
              obtain ⟨ts, hts⟩ : ∃ ts, encA cdR mid = ts := ⟨_, rfl⟩
              have hb2' : outsT ts = us := by rw [← hts, ← hmid, ← HUS.out]; exact HBK2.out
              rw [hts] at htl hto
              obtain ⟨L, hL⟩ : ∃ L, L = ts.length := ⟨_, rfl⟩
              rw [hml] at hi hp1 htl ⊢
              rw [← hL] at htl
              have hb05 := HB35.out.trans (hb.out.mono hs5)
              have D2 := Lib.hid (I.encode w6 w3.heap.size T cdR (I.below HT.out hb05 (Nat.le_refl _)) hb05.size K A8 c8 mid w6.heap.size hml.symm hir (Nat.le_refl _) hp1 hp2 (by omega) ts hts)
              have HB46 := Lib.hid (HB45.out.trans (hb.out.mono HB45.out.size))
              have HB36 := Lib.hid hb05
              have HTO := Lib.hid hto
              have HL := Lib.hid hL
              have HBK := Lib.hid hb2'
              clear htake hi hb hp1 hp2 hmid hml hir hto hts hb2' hL hb05
              go_wp2_with fail
              refine D2.out.mono ?_
              rintro e w7 ⟨v7, rfl, ho7, hb7⟩
              obtain ⟨A9, c9, rfl, hat7⟩ := ho7.form
              rw [← HL.out] at hat7 ⊢
              have HAT7 := Lib.hid hat7
              have HB47 := Lib.hid (HB46.out.trans (hb7.mono HB46.out.size))
              have HB37 := Lib.hid (HB36.out.trans (hb7.mono HB36.out.size))
              clear ho7 hat7 hb7 D2 HB46 HB36
              go_wp2_with fail
              go_loopw [11, 78] (fun v i wr => ∃ R : Nat, R ≤ L ∧ i = .int .i64 R ∧ Hid (IR wr w7.heap.size v (outsT (ts.take R))) ∧ Hid (Below w7.heap.size w7 wr)) (fun _ i _ => L - (intOf i).toNat)
              case atStart => exact ⟨0, by omega, rfl, Lib.hid (IR.nil _ _), Lib.hid (Below.refl _ _)⟩
              case round =>
                obtain ⟨R, hR, rfl, hi, hb⟩ := hrel
                by_cases hRn : R = L
                · subst hRn
                  have htake : ts.take R = ts := List.take_of_length_le (by rw [← HL.out]; exact Nat.le_refl _)
                  rw [htake, HBK.out] at hi
                  obtain ⟨A11, c11, rfl, hp1, hp2⟩ := hi.out.form
                  have hir := hi.out.rd
                  rw [HUL.out] at hi hp1 ⊢
                  have U1 := Lib.hid (units_v K K A11 Au c11 cu us us wr.heap.size w4.heap.size wr true (eqB_t rfl) HUL.out.symm HUL.out.symm hir (Rd.below (show Rd w4 w4.heap.size Au (us.map (Value.int .i64)) from HU.out) (HB47.out.trans (hb.out.mono HB47.out.size)) (Nat.le_refl _)) (by omega))
                  have HBF := Lib.hid (HB3.out.trans ((HB37.out.trans (hb.out.mono HB37.out.size)).mono hsE))
                  clear hi hb htake hir
                  go_wp2_with fail
                  refine U1.out.mono ?_
                  rintro e w12 ⟨rfl, q, rfl⟩
                  go_wp2_with fail
                  go_ret
                  exact ⟨ret_bool (by simp), below_dr HBF.out q⟩
                have hR' : R < L := by omega
                have hR1 : R < ts.length := by rw [← HL.out]; exact hR'
                have k3 : (0 : Int) ≤ R := by omega
                have k4 : (R : Int) < L := by omega
                obtain ⟨b, o, rfl, hbB, A3, n3, c3, g0, g1, g2, g3, e1, e2, e3, e4⟩ := HAT7.out.at hR1
                have q0 := (hb.out.cell (p := ⟨b, o + R * 4, none⟩) hbB).trans g0
                have q1 := (hb.out.cell (p := ⟨b, o + R * 4 + 1, none⟩) hbB).trans g1
                have q5 := (hb.out.cell (p := ⟨b, o + R * 4 + 2, none⟩) hbB).trans g2
                have q6 := (hb.out.cell (p := ⟨b, o + R * 4 + 3, none⟩) hbB).trans g3
                have ho8 := HTO.out _ (List.getElem_mem hR1)
                have hotk := outsT_take hR1
                have hzl := outsT_len (ts.take R) fun t ht => HTO.out t (List.mem_of_mem_take ht)
                rw [List.length_take] at hzl
                obtain ⟨t, ht⟩ : ∃ t, ts[R] = t := ⟨_, rfl⟩
                rw [ht] at q0 q1 q6 e1 e4 ho8 hotk
                obtain ⟨p, z, u, d⟩ := t
                simp only at q0 q1 q6 e1 e4 ho8 hotk
                obtain ⟨A8, c8, rfl, -, -⟩ := hi.out.form
                obtain ⟨ys, hys⟩ : ∃ ys, outsT (ts.take R) = ys := ⟨_, rfl⟩
                rw [hys] at hi hotk hzl ⊢
                obtain ⟨m, hm⟩ : ∃ m, ys.length = m := ⟨_, rfl⟩
                have HM8 := Lib.hid hm
                rw [hm] at hi hzl ⊢
                have hba : Below wr.heap.size wr (wr.alloc (.cells #[.int .i64 p, .int .i64 z, .slice A3 n3 c3, .int .i64 d] 49)) := (Below.refl _ wr).alloc (Nat.le_refl _) _
                have HI8 := Lib.hid (hi.out.below hba (Nat.le_refl _))
                have HB8 := Lib.hid (hb.out.trans (hba.mono hb.out.size))
                have HR8 := Lib.hid (e4.below HB8.out (Nat.le_refl _))
                have HQ := Held.new wr #[.int .i64 p, .int .i64 z, .slice A3 n3 c3, .int .i64 d] 49
                have x2 := HQ.cell 2
                have x3 := HQ.cell 3
                have hsb := HB8.out.size
                have E1 := Lib.hid e1
                have HOT := Lib.hid hotk
                have hm512 : m ≤ 40000 := by omega
                clear hi hb hba e1 e4 HQ g0 g1 g2 g3 ht hys hm hotk hzl hRn
                go_wp2_with (at_builtin; refine wpList_appI rfl _ _ rfl w7.heap.size (.slice A8 m c8) ys rfl HI8.out A3 n3 c3 u rfl E1.out _ HR8.out (by have := HM8.out; have := E1.out; omega) hsb ?_)
                intro vn wn HI9 HG9
                have HB9 := Lib.hid (IR.keepsB HB8.out HG9.out HI8.out (Nat.le_refl _) hsb)
                have HI9' : Hid (IR wn w7.heap.size vn (outsT (ts.take (R + 1)))) := by rw [HOT.out]; exact HI9
                clear HI9 HG9 HI8 HB8 HR8
                go_wp2_with fail
                go_roundw
                case rel => exact ⟨R + 1, by omega, by go_num, HI9', HB9⟩
                case measure => simp [intOf]; omega
            have hJ' : J < L0 := by omega
            have hJ1 : J < t0.length := by rw [← HL0.out]; exact hJ'
            have k3 : (0 : Int) ≤ J := by omega
            have k4 : (J : Int) < L0 := by omega
            obtain ⟨b, o, rfl, hbB, A3, n3, c3, g0, g1, g2, g3, e1, e2, e3, e4⟩ := HAT5.out.at hJ1
            have q0 := (hb.out.cell (p := ⟨b, o + J * 4, none⟩) hbB).trans g0
            have q1 := (hb.out.cell (p := ⟨b, o + J * 4 + 1, none⟩) hbB).trans g1
            have q5 := (hb.out.cell (p := ⟨b, o + J * 4 + 2, none⟩) hbB).trans g2
            have q6 := (hb.out.cell (p := ⟨b, o + J * 4 + 3, none⟩) hbB).trans g3
            have ho8 := HO0.out _ (List.getElem_mem hJ1)
            have hotk := outsT_take hJ1
            have hzl := outsT_len (t0.take J) fun t ht => HO0.out t (List.mem_of_mem_take ht)
            rw [List.length_take] at hzl
            obtain ⟨t, ht⟩ : ∃ t, t0[J] = t := ⟨_, rfl⟩
            rw [ht] at q0 q1 q6 e1 e4 ho8 hotk
            obtain ⟨p, z, u, d⟩ := t
            simp only at q0 q1 q6 e1 e4 ho8 hotk
            obtain ⟨A8, c8, rfl, -, -⟩ := hi.out.form
            obtain ⟨ys, hys⟩ : ∃ ys, outsT (t0.take J) = ys := ⟨_, rfl⟩
            rw [hys] at hi hotk hzl ⊢
            obtain ⟨m, hm⟩ : ∃ m, ys.length = m := ⟨_, rfl⟩
            have HM8 := Lib.hid hm
            rw [hm] at hi hzl ⊢
            have hba : Below wr.heap.size wr (wr.alloc (.cells #[.int .i64 p, .int .i64 z, .slice A3 n3 c3, .int .i64 d] 49)) := (Below.refl _ wr).alloc (Nat.le_refl _) _
            have HI8 := Lib.hid (hi.out.below hba (Nat.le_refl _))
            have HB8 := Lib.hid (hb.out.trans (hba.mono hb.out.size))
            have HR8 := Lib.hid (e4.below HB8.out (Nat.le_refl _))
            have HQ := Held.new wr #[.int .i64 p, .int .i64 z, .slice A3 n3 c3, .int .i64 d] 49
            have x2 := HQ.cell 2
            have x3 := HQ.cell 3
            have hsb := HB8.out.size
            have E1 := Lib.hid e1
            have HOT := Lib.hid hotk
            have hm512 : m ≤ 40000 := by omega
            clear hi hb hba e1 e4 HQ g0 g1 g2 g3 ht hys hm hotk hzl hJn
            go_wp2_with (at_builtin; refine wpList_appI rfl _ _ rfl w5.heap.size (.slice A8 m c8) ys rfl HI8.out A3 n3 c3 u rfl E1.out _ HR8.out (by have := HM8.out; have := E1.out; omega) hsb ?_)
            intro vn wn HI9 HG9
            have HB9 := Lib.hid (IR.keepsB HB8.out HG9.out HI8.out (Nat.le_refl _) hsb)
            have HI9' : Hid (IR wn w5.heap.size vn (outsT (t0.take (J + 1)))) := by rw [HOT.out]; exact HI9
            clear HI9 HG9 HI8 HB8 HR8
            go_wp2_with fail
            go_roundw
            case rel => exact ⟨J + 1, by omega, by go_num, HI9', HB9⟩
            case measure => simp [intOf]; omega
        have hK' : K < Q := by omega
        have hK1 : K < (codM zs).length := by rw [HQL.out]; exact hK'
        have k3 : (0 : Int) ≤ K := by omega
        have k4 : (K : Int) < Q := by omega
        have k5 : (K : Int) < Z := by omega
        have hKz : K < zs.length := by rw [← HZL.out]; omega
        obtain ⟨b, o, rfl, hbB, hc⟩ := rd_ints HZ.out (by omega)
        have q0 := (hb.out.cell (p := ⟨b, o + K, none⟩) (show b < w3.heap.size by omega)).trans ((HB3.out.cell (p := ⟨b, o + K, none⟩) hbB).trans (hc K hKz))
        have hzr := HZR.out (zs.getD K 0) (by rw [List.getD_eq_getElem?_getD, List.getElem?_eq_getElem hKz]; exact List.getElem_mem hKz)
        have hat := codM_at zs K hK1
        obtain ⟨z, hze⟩ : ∃ z, zs.getD K 0 = z := ⟨_, rfl⟩
        rw [hze] at q0 hzr hat
        obtain ⟨q, hq⟩ : ∃ q, z % 60 = q := ⟨_, rfl⟩
        have hz0 := hzr.1
        have hz1 := hzr.2
        have hqt : z.tmod 60 = q := by rw [Int.tmod_eq_emod_of_nonneg hz0]; exact hq
        have hq0 : 0 ≤ q := by omega
        have hq1 : q < 60 := by omega
        have hwq : IntKind.i64.wrap q = q := by rw [IntKind.wrap_i64]; omega
        have hnext := castN_take hK1
        rw [hat, hq, Int.toNat_of_nonneg hq0] at hnext
        have HNX := Lib.hid hnext
        obtain ⟨A8, c8, rfl, -, -⟩ := hi.out.form
        obtain ⟨ys, hys⟩ : ∃ ys, castN ((codM zs).take K) = ys := ⟨_, rfl⟩
        have hyl : ys.length = K := by rw [← hys]; unfold castN; rw [List.length_map, List.length_take]; omega
        rw [hys] at hi HNX ⊢
        obtain ⟨m, hm⟩ : ∃ m, ys.length = m := ⟨_, rfl⟩
        have HM := Lib.hid hm
        have HI := Lib.hid hi.out
        rw [hm] at hyl HI ⊢
        have hm60 : m ≤ 60 := by omega
        have hsb := hb.out.size
        clear hi hc hat hze hnext hys hm hyl hKn hzr
        go_wp2_with (at_builtin; refine wpList_appI1 rfl _ _ rfl w3.heap.size (.slice A8 m c8) ys q rfl HI.out _ rfl rfl (by have := HM.out; omega) hsb ?_)
        intro vn wn HI9 HG9
        have HB9 := Lib.hid (IR.keepsB hb.out HG9.out HI.out (Nat.le_refl _) hsb)
        have HI9' : Hid (IR wn w3.heap.size vn (castN ((codM zs).take (K + 1)))) := by rw [HNX.out]; exact HI9
        clear HI9 HG9 HI
        go_wp2_with fail
        go_roundw
        case rel => exact ⟨K + 1, by omega, by go_num, HI9', HB9⟩
        case measure => simp [intOf]; omega
    have hC' : C < 60 := by omega
    have k3 : (0 : Int) ≤ C := by omega
    have k4 : (C : Int) < 60 := by omega
    have hwr := hb.out.size
    have HS := Lib.hid (cdR_take C hC')
    have hal : (cdR.take C).length = C := by rw [List.length_take, cdR_len]; omega
    obtain ⟨x, hx⟩ : ∃ x, cdO C = x := ⟨_, rfl⟩
    obtain ⟨r, hr⟩ : ∃ r, 7 * (C : Int) % 60 = r := ⟨_, rfl⟩
    have hrt : (7 * (C : Int)).tmod 60 = r := by rw [Int.tmod_eq_emod_of_nonneg (by omega)]; exact hr
    have hxr : x = 1000 + r := by rw [← hx, ← hr]; rfl
    have hr0 : 0 ≤ r ∧ r < 60 := by omega
    have hr1 := hr0.1
    have hr2 := hr0.2
    subst hxr
    obtain ⟨acc, hacc⟩ : ∃ acc, cdR.take C = acc := ⟨_, rfl⟩
    rw [hacc, hx] at HS
    rw [hacc] at hal ho
    obtain ⟨A3, c3, rfl, -⟩ := ho.out.form
    have HAL := Lib.hid (show acc.length ≤ 1048576 by omega)
    clear hal hacc hCn hx hr0
    go_wp2_with (at_builtin; refine wpList_appRlN rfl _ _ rfl w1.heap.size (.slice A3 acc.length c3) acc (C : Int) (1000 + r) rfl ho.out wr.heap.size rfl rfl HAL.out hwr ?_)
    intro v7 w7 HN HBB HTT
    have HB7 := Lib.hid (HBB.out w1.heap.size w1 (Nat.le_refl _) hb.out)
    have HN2 : Hid (OwnRs w1.heap.size w7 v7 (cdR.take (C + 1))) := by rw [HS.out]; exact HN
    clear HN HBB HTT
    go_wp2_with fail
    go_roundw
    case rel => exact ⟨C + 1, by omega, by go_num, HN2, HB7⟩
    case measure => simp [intOf]; omega
end Go.Proofs.Ytpbmaacchjedpaa
