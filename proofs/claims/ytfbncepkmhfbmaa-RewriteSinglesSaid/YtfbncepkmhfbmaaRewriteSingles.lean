/- RewriteSingles: the walk. -/
import Derived.Test.YtfbncepkmhfbmaaRewE
import Derived.Test.YtfbncepkmhfbmaaSingD
namespace Go.Proofs.Ytfbncepkmhfbmaa
set_option linter.unusedVariables false
open Go.RowKit Go.Maps
set_option maxHeartbeats 12800000 in
theorem rewriteSingles_any (n : Nat) (A : Option Addr) (c : Nat) (psA : List (Int × Int)) (A' : Option Addr) (c' : Nat) (zs : List Int) (w : World) (hn : n = psA.length) (hr : Rd w w.heap.size A ((flatP psA).map (Value.int .u8))) (hpr : ∀ p ∈ psA, (0 ≤ p.1 ∧ p.1 ≤ 255) ∧ (0 ≤ p.2 ∧ p.2 ≤ 255)) (hnc : n ≤ c) (hcm : c ≤ maxLen)
    (hz : Rd w w.heap.size A' (zs.map (Value.int .u8))) (hzr : ∀ z ∈ zs, 0 ≤ z ∧ z ≤ 255) (hzc : zs.length ≤ c') (hzm : c' ≤ maxLen) :
    Calls Try.prog 7 #[.slice A n c, .slice A' zs.length c'] w fun e w' => e = .returned (.bool true) ∧ Below w.heap.size w w' := by
  have hmm := @run_makeMap Try.prog
  obtain ⟨i0, hi, hz0, HZ1, hz2⟩ := info_parts inforl
  obtain ⟨j0, hj, hj0, HJ1, hj2⟩ := info_parts infoint
  obtain ⟨q, hq, hqn, hq4⟩ : ∃ q : Nat, ((if 40 < n then 40 else n) = q) ∧ q ≤ n ∧ q ≤ 40 := ⟨_, rfl, by split <;> omega, by split <;> omega⟩
  have hmin : min (n : Int) 40 = (q : Int) := by rw [← hq]; split <;> omega
  obtain ⟨Z, hZ⟩ : ∃ Z, Z = zs.length := ⟨_, rfl⟩
  rw [← hZ] at hzc ⊢
  obtain ⟨m, hm, hmn, hm6⟩ : ∃ m : Nat, ((if 60 < Z then 60 else Z) = m) ∧ m ≤ Z ∧ m ≤ 60 := ⟨_, rfl, by split <;> omega, by split <;> omega⟩
  have hmin2 : min (Z : Int) 60 = (m : Int) := by rw [← hm]; split <;> omega
  obtain ⟨ps, hps⟩ : ∃ ps, ps = psA.take q := ⟨_, rfl⟩
  obtain ⟨us, hus⟩ : ∃ us, us = zs.take m := ⟨_, rfl⟩
  have hpl : ps.length = q := by rw [hps, List.length_take]; omega
  have hul : us.length = m := by rw [hus, List.length_take]; omega
  have hpr' : ∀ p ∈ ps, (0 ≤ p.1 ∧ p.1 ≤ 255) ∧ (0 ≤ p.2 ∧ p.2 ≤ 255) := fun p hp => hpr p (List.mem_of_mem_take (by rw [hps] at hp; exact hp))
  have hur : ∀ z ∈ us, 0 ≤ z ∧ z ≤ 255 := fun z hz => hzr z (List.mem_of_mem_take (by rw [hus] at hz; exact hz))
  have hrd : Rd w w.heap.size A ((flatP ps).map (Value.int .u8)) := by
    have h := hr.take (q * 2)
    have e : flatP ps = (flatP psA).take (q * 2) := by
      have h2 := flatP_app (psA.take q) (psA.drop q)
      rw [List.take_append_drop] at h2
      rw [hps, h2, List.take_left' (by rw [flatP_len, List.length_take]; omega)]
    rw [e, List.map_take]; exact h
  have hzd : Rd w w.heap.size A' (us.map (Value.int .u8)) := by rw [hus, List.map_take]; exact hz.take m
  obtain ⟨rs, hrs⟩ : ∃ rs, rightFrom (singS []) (singS ps) = rs := ⟨_, rfl⟩
  have hck : checkR rs = (-1, 0) := by rw [← hrs]; exact (right_good (singS ps) (by rw [singS, List.length_map, hpl]; exact hq4)).2.1
  have hqc : q ≤ c := by omega
  have hmc : m ≤ c' := by omega
  have hq0 : (0 : Int) ≤ (q : Int) := by omega
  have hm0 : (0 : Int) ≤ (m : Int) := by omega
  unfold maxLen at hcm hzm
  have HPL := Lib.hid hpl
  have HUL := Lib.hid hul
  have HPR := Lib.hid hpr'
  have HUR := Lib.hid hur
  have HRD := Lib.hid hrd
  have HZD := Lib.hid hzd
  have HRS := Lib.hid hrs
  have HCK := Lib.hid hck
  clear hn hr hpr hz hzr hq hm hps hus hpl hul hpr' hur hrd hzd hrs hck hZ
  go_enter Try.func7, Try.ntmps7
  go_wp2_with fail
  refine (rawake5_any _).mono ?_
  rintro e w1 ⟨rfl, hb1⟩
  have hs1 := hb1.size
  go_wp2
  go_loopw [5, 30] (fun v i wr => ∃ (K : Nat) (acc : List (Int × Int)) (D : DataW Unit), K ≤ q ∧ i = .int .i64 K ∧ Hid (OwnRy (w1.heap.size + 1) wr v (singS acc)) ∧ acc.length ≤ K ∧ Hid (wr.ownsMap Try.prog 3 (plainElem Try.prog 3) w1.heap.size K D) ∧ Hid (Dict D acc) ∧
      Hid (rightFrom (singS acc) (singS (ps.drop K)) = rs) ∧ Below w1.heap.size w1 wr ∧ w1.heap.size + 1 ≤ wr.heap.size) (fun _ i _ => q - (intOf i).toNat)
  case atStart => exact ⟨0, [], .map [], by omega, rfl, OwnRy.nil _ _, by simp, World.ownsMap_made _ _ _ _, Dict.nil, HRS, (Below.refl _ _).alloc (Nat.le_refl _) _, by simp⟩
  case round =>
    obtain ⟨K, acc, D, hK, rfl, ho, hacc, hmap, hdict, hf, hb, hs2⟩ := hrel
    have hs := hb.size
    obtain ⟨A3, c3, rfl, _⟩ := ho.out.own.form
    obtain ⟨L, hL⟩ : ∃ L, L = (singS acc).length := ⟨_, rfl⟩
    have hLK : L ≤ K := by rw [hL, singS, List.length_map]; exact hacc
    rw [← hL] at ho ⊢
    have HL := Lib.hid hL
    clear hL
    by_cases hKq : K = q
    · obtain ⟨w0, rfl⟩ : ∃ w0 : World, w0 = wr := ⟨_, rfl⟩
      have hKq' : ¬ K < q := by omega
      have hE : rs = singS acc := by
        have h := hf.out
        rw [List.drop_of_length_le (by rw [HPL.out]; omega)] at h
        exact h.symm
      have hck2 : checkR (singS acc) = (-1, 0) := by rw [← hE]; exact HCK.out
      have HG := Lib.hid (good_of hck2)
      have HCK2 := Lib.hid hck2
      have HAT := Lib.hid (ho.out.own.at)
      have hbw := hb1.trans (hb.mono hs1)
      have HBW := Lib.hid hbw
      clear hE hck2 hKq hf
      go_wp2_with fail
      refine (of_ok L A3 c3 (singS acc) w0.heap.size w0 HAT.out (Nat.le_refl _) HCK2.out).mono ?_
      rintro e w2 ⟨T, rfl, hok, hb2⟩
      have hsw2 := hb2.size
      have HOK := Lib.hid hok
      have HM2 := Lib.hid (map_below hmap.out hb2 (by omega))
      have hb02 := hbw.trans (hb2.mono (by omega))
      have HB02 := Lib.hid hb02
      clear hok ho hmap hb2 hb02
      go_wp2
      go_loopw [13, 81] (fun v i wq => ∃ J : Nat, J ≤ m ∧ i = .int .i64 J ∧ Hid (wq.ownsRow w2.heap.size 3 1 v J ((us.take J).map (Value.int .i64))) ∧ Below w2.heap.size w2 wq) (fun _ i _ => m - (intOf i).toNat)
      case atStart => exact ⟨0, by omega, rfl, World.ownsRow_nil _ _ _ _, Below.refl _ _⟩
      case round =>
        obtain ⟨J, hJ, rfl, hoI, hbq⟩ := hrel
        obtain ⟨wq, rfl⟩ : ∃ wq : World, wq = wr := ⟨_, rfl⟩
        have hsq := hbq.size
        by_cases hJm : J = m
        · have hJ' : ¬ J < m := by omega
          have hown := hoI.out
          rw [hJm, List.take_of_length_le (by rw [HUL.out]; exact Nat.le_refl _)] at hown
          obtain ⟨A5, c5, ev, _⟩ := us_own hown HUL.out.symm
          subst ev
          obtain ⟨_, _, e0, hus⟩ := us_own hown HUL.out.symm
          injection e0 with e1 e2 e3
          subst e1 e3
          obtain ⟨q1, q2, q3, q4⟩ := hus.rd
          have HU := Lib.hid (q4.rd (Nat.le_refl wq.heap.size))
          obtain ⟨ts, hts⟩ : ∃ ts, rewA (singS acc) 0 us = ts := ⟨_, rfl⟩
          obtain ⟨hln, htk⟩ := sing_rew HG.out us 0
          rw [hts] at hln htk
          rw [HUL.out] at hln
          have HTS := Lib.hid hts
          have HLN := Lib.hid hln
          have HTK := Lib.hid htk
          have e0 : ((m : Int) != m) = false := by simp
          clear hown hJm hus q1 q4 hts hln htk hoI
          go_wp2_with fail
          refine (rew_any wq w2.heap.size T (singS acc) (HOK.out.below hbq (Nat.le_refl _)) hsq m A5 c5 us wq.heap.size HUL.out.symm HU.out (Nat.le_refl _) q2 q3 (by omega) ts HTS.out).mono ?_
          rintro e w5 ⟨v5, rfl, ho5, hb5⟩
          obtain ⟨A6, c6, rfl, hat⟩ := ho5.form
          rw [HLN.out] at hat ⊢
          have hb25 := hbq.trans (hb5.mono hsq)
          have hs5 := hb5.size
          have HAT6 := Lib.hid hat
          have HU5 := Lib.hid (HU.out.below hb5 (Nat.le_refl _))
          have HM5 := Lib.hid (map_below HM2.out hb25 (by omega))
          have hbF := HB02.out.trans (hb25.mono (by have := HB02.out.size; omega))
          have HBF := Lib.hid hbF
          clear hat ho5 hb5 hb25 hbF
          go_wp2
          go_loopw [101] (fun i wx => ∃ N : Nat, N ≤ m ∧ i = .int .i64 N ∧ Below w5.heap.size w5 wx) (fun i _ => m - (intOf i).toNat)
          case atStart => exact ⟨0, by omega, rfl, Below.refl _ _⟩
          case round =>
            obtain ⟨N, hN, rfl, hbx⟩ := hrel
            obtain ⟨wx, rfl⟩ : ∃ wx : World, wx = wr := ⟨_, rfl⟩
            have hsx := hbx.size
            by_cases hNm : N = m
            · have hN' : ¬ N < m := by omega
              clear hNm
              have hbE := HBF.out.trans (hbx.mono (by have := HBF.out.size; omega))
              go_wp2
              go_ret
              exact ⟨rfl, hbE⟩
            have hN' : N < m := by omega
            have hN1 : N < ts.length := by rw [HLN.out]; exact hN'
            have hN2 : N < us.length := by rw [HUL.out]; exact hN'
            obtain ⟨ht1, ht2⟩ := HTK.out N us[N] ts[N] (List.getElem?_eq_getElem hN2) (List.getElem?_eq_getElem hN1)
            obtain ⟨b6, o6, rfl, hb6B, A7, n7, c7, g1, g2, g3, g4, l1, l2, l3, l4⟩ := HAT6.out.at hN1
            obtain ⟨b5, o5, rfl, hb5B, hcell⟩ := rd_ints HU5.out (by omega)
            have hcl : ∀ b' o', b' < w5.heap.size → wx.cell? ⟨b', o', none⟩ = w5.cell? ⟨b', o', none⟩ := fun b' o' h => hbx.cell (p := ⟨b', o', none⟩) h
            have x1 := (hcl _ _ hb6B).trans g1
            have x2 := (hcl _ _ hb6B).trans g2
            have x3 := (hcl _ _ hb6B).trans g3
            have x4 := (hcl _ _ hb6B).trans g4
            have x5 := (hcl b5 (o5 + N) (by omega)).trans (hcell N hN2)
            have hgd : us.getD N 0 = us[N] := by simp [List.getD_eq_getElem?_getD, hN2]
            rw [hgd] at x5
            obtain ⟨U, hU⟩ : ∃ U, U = us[N] := ⟨_, rfl⟩
            obtain ⟨P, hP⟩ : ∃ x, x = ts[N].pos := ⟨_, rfl⟩
            obtain ⟨S, hS⟩ : ∃ x, x = ts[N].size := ⟨_, rfl⟩
            obtain ⟨E, hE⟩ : ∃ x, x = ts[N].err := ⟨_, rfl⟩
            obtain ⟨O, hO⟩ : ∃ x, x = ts[N].out := ⟨_, rfl⟩
            have hUr := HUR.out _ (List.getElem_mem hN2)
            rw [← hU] at x5 ht2 hUr
            rw [← hP] at x1
            rw [← hS] at x2
            rw [← hE] at x4 ht2
            rw [← hO] at l1 l4 ht2
            have hwf : (Lit.int .i64 U).wf = true := by simp [Lit.wf, IntKind.min, IntKind.max, IntKind.signed, IntKind.bits]; omega
            have HKEY : Hid (keyOf Try.prog 3 (.int .i64 U) = some (.int .i64 U)) := keyOf_int_mk Try.underlying3 hwf
            have HXA : Hid (∀ (b' o' : Nat) (ob : Obj) (u : Value), b' < w5.heap.size → wx.cell? ⟨b', o', none⟩ = some u → (wx.alloc ob).cell? ⟨b', o', none⟩ = some u) := fun b' o' ob u h1 h2 => by
              rw [(((Below.refl w5.heap.size wx).alloc hsx ob).cell (p := ⟨b', o', none⟩) h1)]; exact h2
            have y5 := HXA.out b5 (o5 + N) (.cells #[.int .i64 P, .int .i64 S, .slice A7 n7 c7, .int .i64 E] 39) _ (by omega) x5
            have HMX := Lib.hid ((map_below HM5.out hbx (by have := HBF.out.size; omega)).alloc (.cells #[.int .i64 P, .int .i64 S, .slice A7 n7 c7, .int .i64 E] 39))
            have HBX := Lib.hid (hbx.alloc hsx (.cells #[.int .i64 P, .int .i64 S, .slice A7 n7 c7, .int .i64 E] 39))
            have hhas := hdict.out.has U
            have k5 : (0 : Int) ≤ N := by omega
            have k6 : (N : Int) < m := by omega
            have L1 := Lib.hid l1
            have L4 := Lib.hid (l4.below hbx (Nat.le_refl _))
            clear g1 g2 g3 g4 hcell hcl hgd hU hP hS hE hO ht1 hNm hUr hwf l1 l4 x5
            rcases ht2 with ⟨v, hlk, rfl, rfl⟩ | ⟨hlk, rfl, rfl⟩
            · have HVAL := Lib.hid (hdict.out.val U v hlk)
              rw [hlk] at hhas
              have HHAS : Hid (Maps.has D (.int .i64 U) = true) := hhas
              have hn7 : n7 = 1 := L1.out
              subst hn7
              obtain ⟨b8, o8, rfl, hb8, hc8⟩ := rd_ints L4.out (by simp)
              have z8 := HXA.out b8 (o8 + 0) (.cells #[.int .i64 P, .int .i64 S, .slice (some ⟨b8, o8, none⟩) 1 c7, .int .i64 0] 39) _ hb8 (hc8 0 (by simp))
              rw [Nat.add_zero] at z8
              change _ = some (Value.int .i64 v) at z8
              have e7 : (v != v) = false := by simp
              clear hlk hhas hc8
              go_wp2_with (at_lookup; refine wpList_lookup_own_ok_int _ rfl _ _ 47 rfl 3 3 .i64 lawI Try.underlying47 Try.underlying3 (zeroI _) w1.heap.size K D rfl HMX.out _ _ rfl HKEY.out ?_; intro cc hat hwc; rw [HHAS.out]; (obtain rfl : v = cc := by rw [HVAL.out] at hat; injection hat with hat; injection hat); clear hat hwc)
              go_roundw
              case rel => exact ⟨N + 1, by omega, by go_num, HBX.out⟩
              case measure => simp [intOf]; omega
            · rw [hlk] at hhas
              have HHAS : Hid (Maps.has D (.int .i64 U) = false) := hhas
              clear hlk hhas
              go_wp2_with (at_lookup; refine wpList_lookup_own_ok_int _ rfl _ _ 47 rfl 3 3 .i64 lawI Try.underlying47 Try.underlying3 (zeroI _) w1.heap.size K D rfl HMX.out _ _ rfl HKEY.out ?_; intro cc hat hwc; rw [HHAS.out]; clear hat hwc)
              go_roundw
              case rel => exact ⟨N + 1, by omega, by go_num, HBX.out⟩
              case measure => simp [intOf]; omega
        have hJ' : J < m := by omega
        have hJ1 : J < us.length := by rw [HUL.out]; exact hJ'
        obtain ⟨b', o', rfl, hbB', hcell⟩ := rd_ints HZD.out (by omega)
        have x1 := ((HB02.out.trans (hbq.mono (by have := HB02.out.size; omega))).cell (p := ⟨b', o' + J, none⟩) (by show b' < _; omega)).trans (hcell J hJ1)
        have hgd : us.getD J 0 = us[J] := by simp [List.getD_eq_getElem?_getD, hJ1]
        rw [hgd] at x1
        obtain ⟨U, hU⟩ : ∃ U, U = us[J] := ⟨_, rfl⟩
        have hUr := HUR.out _ (List.getElem_mem hJ1)
        have htk : us.take (J + 1) = us.take J ++ [U] := by rw [hU, List.take_succ_eq_append_getElem hJ1]
        rw [← hU] at x1 hUr
        have hU0 : 0 ≤ U := hUr.1
        have hU1 : U ≤ 255 := hUr.2
        have HTK := Lib.hid htk
        have k5 : (0 : Int) ≤ J := by omega
        have k6 : (J : Int) < m := by omega
        have hown := hoI.out
        clear hcell hgd hU hUr htk hJm
        go_wp2_with (at_builtin; refine wpList_appB _ rfl _ _ 24 rfl w2.heap.size 3 j0 (.int .i64 0) 1 8 Try.underlying24 hj hj0 HJ1 hj2 rfl (by decide) _ _ _ rfl (hown.alloc _) (wq.heap.size + 1) _ 1 1 [.int .i64 U] rfl rfl ?c1 ?c2 ?c3 ?c4 ?c5 ?_)
        case c1 => exact Rd_newR _ _ _ _ rfl
        case c2 => intro u hu; simp at hu; subst hu; rfl
        case c3 => simp only [maxLen]; omega
        case c4 => omega
        case c5 => simp; omega
        intro v' w4 hown4 hg4 hv4
        have HO4 : Hid (w4.ownsRow w2.heap.size 3 1 v' (J + 1) ((us.take (J + 1)).map (Value.int .i64))) := by rw [HTK.out, List.map_append, List.map_take]; exact hown4
        have hbE : Below w2.heap.size w2 w4 := below_own (hbq.alloc hsq _) hg4 (hown.alloc _) (Nat.le_refl _) (by simp; omega)
        clear hown4 hg4 hv4 hown
        go_wp2
        go_roundw
        case rel => exact ⟨J + 1, by omega, by go_num, HO4, hbE⟩
        case measure => simp [intOf]; omega
    have hK' : K < q := by omega
    have hK1 : K < ps.length := by rw [HPL.out]; exact hK'
    obtain ⟨b, o, rfl, hbB, g1, g2⟩ := pair8_at HRD.out hK1
    have hbw := hb1.trans (hb.mono hs1)
    have k1 := (hbw.cell (p := ⟨b, o + K * 2, none⟩) (by show b < _; omega)).trans g1
    have k2 := (hbw.cell (p := ⟨b, o + K * 2 + 1, none⟩) (by show b < _; omega)).trans g2
    have k3 : (0 : Int) ≤ K := by omega
    have k4 : (K : Int) < q := by omega
    obtain ⟨r1, r2⟩ := HPR.out _ (List.getElem_mem hK1)
    have hff := hf.out
    rw [List.drop_eq_getElem_cons hK1] at hff
    obtain ⟨P1, hP1⟩ : ∃ x, x = ps[K].1 := ⟨_, rfl⟩
    obtain ⟨P2, hP2⟩ : ∃ x, x = ps[K].2 := ⟨_, rfl⟩
    have hpk : ps[K] = (P1, P2) := by rw [hP1, hP2]
    rw [hpk] at hff r1 r2
    rw [← hP1] at k1
    rw [← hP2] at k2
    obtain ⟨r11, r12⟩ : 0 ≤ P1 ∧ P1 ≤ 255 := r1
    obtain ⟨r21, r22⟩ : 0 ≤ P2 ∧ P2 ≤ 255 := r2
    have HFF := Lib.hid hff
    have hw1 : (Lit.int .i64 P1).wf = true := by simp [Lit.wf, IntKind.min, IntKind.max, IntKind.signed, IntKind.bits]; omega
    have hw2 : (Lit.int .i64 P2).wf = true := by simp [Lit.wf, IntKind.min, IntKind.max, IntKind.signed, IntKind.bits]; omega
    have hkey : keyOf Try.prog 3 (.int .i64 P1) = some (.int .i64 P1) := keyOf_int_mk Try.underlying3 hw1
    have HKEY := Lib.hid hkey
    have HW2 := Lib.hid hw2
    have HBA : Hid (∀ o, Below wr.heap.size wr (wr.alloc o)) := fun o => (Below.refl _ _).alloc (Nat.le_refl _) _
    have hm1 := hmap.out.alloc (.cells #[.int .u8 P1, .int .u8 P2] 48)
    have HM1 := Lib.hid hm1
    have hhas := hdict.out.has P1
    clear hff hP1 hP2 g1 g2 hpk hw1 hw2 hkey hm1 hKq
    cases hlk : look acc P1 with
    | some v =>
      rw [hlk] at hhas
      have HE := Lib.hid (sing_skip HFF.out hlk)
      have hhas' : Maps.has D (.int .i64 P1) = true := hhas
      have HHAS := Lib.hid hhas'
      clear hlk hhas hhas'
      go_wp2_with (at_lookup; refine wpList_lookup_own_ok_int _ rfl _ _ 47 rfl 3 3 .i64 lawI Try.underlying47 Try.underlying3 (zeroI _) w1.heap.size K D rfl HM1.out _ _ rfl HKEY.out ?_; intro c hat hwc; rw [HHAS.out]; clear hat hwc)
      go_roundw
      case rel => exact ⟨K + 1, acc, D, by omega, by go_num, ho.out.below (HBA.out _) (Nat.le_refl _), by omega, HM1.out.mono (by omega), hdict, HE, hb.trans ((HBA.out _).mono hs), by simp; omega⟩
      case measure => simp [intOf]; omega
    | none =>
      rw [hlk] at hhas
      have HE := Lib.hid (sing_take HFF.out hlk ⟨r11, r12⟩ ⟨r21, r22⟩)
      have hhas' : Maps.has D (.int .i64 P1) = false := hhas
      have HHAS := Lib.hid hhas'
      have HD2 := Lib.hid (hdict.out.put (p := (P1, P2)) hlk trivial)
      clear hlk hhas hhas'
      go_wp2_with (first
        | (at_lookup; refine wpList_lookup_own_ok_int _ rfl _ _ 47 rfl 3 3 .i64 lawI Try.underlying47 Try.underlying3 (zeroI _) w1.heap.size K D rfl HM1.out _ _ rfl HKEY.out ?_; intro c hat hwc; rw [HHAS.out]; clear hat hwc)
        | (at_mapUpdate; refine wpList_mapUpdate_own _ rfl _ _ _ 47 rfl 3 3 lawI Try.underlying47 _ w1.heap.size K D rfl HM1.out (by unfold maxLen; omega) _ _ _ rfl rfl HKEY.out _ [] (plainElem_int Try.underlying3 HW2.out) ?_))
      intro w4 hown4 hg4
      have HM4 := Lib.hid hown4
      have hs4 := hg4.size
      rw [World.size_alloc] at hs4
      have hrow4 : w4.heap[wr.heap.size]? = some (.cells #[.int .u8 P1, .int .u8 P2] 48 (0, 0)) := (hg4.block wr.heap.size (by simp) (by simp; omega)).trans (heap_alloc_new wr _)
      have q0 : w4.cell? ⟨wr.heap.size, 0, none⟩ = some (.int .u8 P1) := by rw [cell_of_row _ _ _ _ _ _ hrow4]; rfl
      have q1 : (w4.alloc (.cells #[.int .i64 P1] 3)).cell? ⟨wr.heap.size, 1, none⟩ = some (.int .u8 P2) := by
        rw [cell_of_row _ _ _ _ _ _ ((Below.heap_alloc w4 _ wr.heap.size (by omega)).trans hrow4)]; rfl
      obtain ⟨xs, hown, hx⟩ := (ho.out.below (HBA.out (.cells #[.int .u8 P1, .int .u8 P2] 48)) (Nat.le_refl _)).grown hg4 (by omega)
      rw [← HL.out] at hown
      have HX := Lib.hid hx
      have hb4 : Below w1.heap.size w1 w4 := (hb.trans ((HBA.out _).mono hs)).grown hg4 (by simp; omega) (fun k hk => by injection hk with hk; omega)
      have HB4 := Lib.hid hb4
      clear hown4 hrow4 hx hg4 hb4
      go_wp2_with (at_builtin; refine wpList_appB _ rfl _ _ 26 rfl (w1.heap.size + 1) 51 i0 _ 2 48 Try.underlying26 hi hz0 HZ1 hz2 rfl (by decide) _ _ _ rfl (((hown.alloc _).alloc _).alloc _) (w4.heap.size + 3) _ 1 1 [.slice (some ⟨w4.heap.size, 0, none⟩) 1 1, .slice (some ⟨w4.heap.size + 1, 0, none⟩) 1 1] rfl rfl ?c1 ?c2 ?c3 ?c4 ?c5 ?_)
      case c1 => exact Rd_newR _ _ _ _ (by simp)
      case c2 => intro u hu; simp at hu; rcases hu with rfl | rfl <;> rfl
      case c3 => simp only [maxLen]; omega
      case c4 => omega
      case c5 => simp; omega
      intro v' w6 hown6 hg6 hv6
      have hlow : ∀ x, (Value.slice A3 L c3).ownBlock = some x → x < w4.heap.size := fun x hx => own_lt hown hx
      have hbA : ∀ o1 o2 o3, Below w4.heap.size w4 (((w4.alloc o1).alloc o2).alloc o3) := fun o1 o2 o3 => (((Below.refl _ _).alloc (Nat.le_refl _) _).alloc (by simp) _).alloc (by simp; omega) _
      have hpush : OwnRy (w1.heap.size + 1) w6 v' (singS (acc ++ [(P1, P2)])) := by
        have e : singS (acc ++ [(P1, P2)]) = singS acc ++ [([P1], [P2])] := by simp [singS]
        rw [e]
        refine ry_push (v := .slice A3 L c3) (xs := xs) (by rw [← HL.out]; simpa using hown6) (HX.out.step (hbA _ _ _).size fun b hb hx => ⟨hx, (hbA _ _ _).block b hb⟩) ?_ ?_ hg6 (by simpa using hv6)
        · refine (us_new w4 _ rfl P1).step (by simp only [World.size_alloc]; omega) fun b hb hx => ⟨⟨fun e => by have := hlow _ e; omega, by omega⟩, ?_⟩
          rw [Below.heap_alloc _ _ _ (by simp; simp at hb; omega), Below.heap_alloc _ _ _ hb]
        · refine (us_new (w4.alloc (.cells #[.int .i64 P1] 3)) (w4.heap.size + 1) (by simp) P2).step (by simp) fun b hb hx => ⟨⟨fun e => by have := hlow _ e; omega, by omega⟩, Below.heap_alloc _ _ _ hb⟩
      have hbE : Below w1.heap.size w1 w6 := below_own (HB4.out.trans ((hbA _ _ _).mono (by omega))) hg6 (((hown.alloc _).alloc _).alloc _) (by omega) (by simp; omega)
      have hm6' : w6.ownsMap Try.prog 3 (plainElem Try.prog 3) w1.heap.size (K + 1) (D.put (.int .i64 P1) (.lit (.int .i64 P2))) :=
        (map_below HM4.out (hbA _ _ _) (by omega)).kept hg6 (fun e => by have := (hown.lt _ e.symm).1; omega)
      have HP := Lib.hid hpush
      have HM6 := Lib.hid hm6'
      have hs6 := hg6.size
      simp only [World.size_alloc] at hs6
      clear hown6 hpush hg6 hv6 hm6' hbA hlow
      go_wp2
      go_roundw
      case rel => exact ⟨K + 1, _, _, by omega, by go_num, HP, by simp; omega, HM6, HD2, HE, hbE, by omega⟩
      case measure => simp [intOf]; omega
end Go.Proofs.Ytfbncepkmhfbmaa
