/- WttParts: the walk. -/
import Derived.Test.YtgeecngpmcjdpaaDoorWttE
namespace Go.Proofs.YtgeecngpmcjdpaaDoor
set_option linter.unusedVariables false
open Go.RowKit
set_option maxHeartbeats 3200000 in
theorem wttParts_any (A : Option Addr) (cap : Nat) (zs : List Int) (A' : Option Addr) (cap' : Nat) (ys : List Int) (l : Int) (w : World) (hz : Rd w w.heap.size A (zs.map (Value.int .u8))) (hzr : ∀ z ∈ zs, 0 ≤ z ∧ z ≤ 255) (hcap : zs.length ≤ cap)
    (hy : Rd w w.heap.size A' (ys.map (Value.int .u8))) (hyr : ∀ z ∈ ys, 0 ≤ z ∧ z ≤ 255) (hcap' : ys.length ≤ cap') (hm : zs.length + ys.length ≤ 140737488351232) (hl : -128 ≤ l ∧ l ≤ 127) (hw : Wt w) :
    Calls Tryd.prog 7 #[.slice A zs.length cap, .slice A' ys.length cap', .int .i8 l] w fun e w' => e = .returned (.bool true) ∧ Below w.heap.size w w' := by
  have A0 := Lib.hid (tawake8_any w hw)
  have HW := Lib.hid hw
  have HZ := Lib.hid hz
  have HZR := Lib.hid hzr
  have HY := Lib.hid hy
  have HYR := Lib.hid hyr
  obtain ⟨i0, hi, hz0, hz1, hz2⟩ := info_parts infou8
  obtain ⟨v0, v1⟩ := level_range l hl
  obtain ⟨v, hv⟩ : ∃ v, l.tmod 3 = v := ⟨_, rfl⟩
  rw [hv] at v0 v1
  have hiff := chk_app_iff zs ys v
  have hrng := chk_cases (zs ++ ys) v
  have hjoin : joinF zs ys v = (zs.isEmpty || ys.isEmpty || mayF (zs.getD (zs.length - 1) 0) (ys.getD 0 0) v) := rfl
  obtain ⟨p, hp⟩ : ∃ p, chkF (zs ++ ys) v = p := ⟨_, rfl⟩
  obtain ⟨q, hq⟩ : ∃ p, chkF zs v = p := ⟨_, rfl⟩
  obtain ⟨r, hr⟩ : ∃ p, chkF ys v = p := ⟨_, rfl⟩
  obtain ⟨jb, hjb⟩ : ∃ p, joinF zs ys v = p := ⟨_, rfl⟩
  rw [hp, hq, hr, hjb] at hiff
  rw [hjb] at hjoin
  have hpr : p < 0 ∨ 0 < p ∧ p < zs.length + ys.length := by
    rcases hrng with ⟨h1, _⟩ | ⟨k, h1, h2, h3, _⟩
    · left; omega
    · right; rw [List.length_append] at h3; omega
  have HP := Lib.hid hp
  have HQ := Lib.hid hq
  have HR := Lib.hid hr
  have HIFF := Lib.hid hiff
  have HJ := Lib.hid hjoin
  obtain ⟨n, hn⟩ : ∃ n, n = zs.length := ⟨_, rfl⟩
  obtain ⟨k, hk⟩ : ∃ n, n = ys.length := ⟨_, rfl⟩
  rw [← hn] at hm hcap hpr ⊢
  rw [← hk] at hm hcap' hpr ⊢
  have HN := Lib.hid hn
  have HK := Lib.hid hk
  clear hz hzr hy hyr hw hn hk hp hq hr hjb hiff hrng hjoin
  go_enter Tryd.func7, Tryd.ntmps7
  go_wp2_with fail
  refine A0.out.mono ?_
  rintro e w1 ⟨rfl, hb1⟩
  have HW1 := Lib.hid (HW.out.below hb1)
  have HZ1 := Lib.hid (HZ.out.below hb1 (Nat.le_refl _))
  have HY1 := Lib.hid (HY.out.below hb1 (Nat.le_refl _))
  have hs1 := hb1.size
  go_wp2_with (at_builtin; refine wpList_app _ rfl _ _ 33 rfl w1.heap.size 5 i0 _ 1 1 Tryd.underlying33 hi hz0 hz1 hz2 rfl (by decide) _ _ _ rfl (World.ownsRow_nil _ _ _ _) w.heap.size A n cap (zs.map (Value.int .u8)) rfl (by simp [HN.out]) HZ1.out (ints_one _ _) ?c3 ?c4 ?c5 ?_)
  case c3 => simp only [maxLen]; omega
  case c4 => omega
  case c5 => exact Nat.le_refl _
  intro v2 w2 hown2 hg2
  obtain ⟨A2, c2, rfl, hc2, hm2⟩ := own_form hown2
  have hb12 : Below w1.heap.size w1 w2 := below_nil hg2
  have HY2 := Lib.hid (HY1.out.below (hb12.mono hs1) (Nat.le_refl _))
  have hs12 := hb12.size
  clear hg2
  go_wp2_with (at_builtin; refine wpList_app _ rfl _ _ 33 rfl w1.heap.size 5 i0 _ 1 1 Tryd.underlying33 hi hz0 hz1 hz2 rfl (by decide) _ _ _ rfl hown2 w.heap.size A' k cap' (ys.map (Value.int .u8)) rfl (by simp [HK.out]) HY2.out (ints_one _ _) ?c3 ?c4 ?c5 ?_)
  case c3 => simp only [maxLen]; omega
  case c4 => omega
  case c5 => omega
  intro v4 w4 hown4 hg4
  obtain ⟨A4, c4, rfl, hc4, hm4⟩ := own_form hown4
  have hb14 : Below w1.heap.size w1 w4 := below_own hb12 hg4 hown2 (Nat.le_refl _) (by omega)
  have HW4 := Lib.hid (HW1.out.below hb14)
  have HZ4 := Lib.hid (HZ1.out.below (hb14.mono hs1) (Nat.le_refl _))
  have HY4 := Lib.hid (HY1.out.below (hb14.mono hs1) (Nat.le_refl _))
  have hb4 := hb1.trans (hb14.mono hs1)
  have hs4 := hb4.size
  have hr4 : Rd w4 w4.heap.size A4 ((zs ++ ys).map (Value.int .u8)) := by rw [List.map_append]; exact Rd.own hown4
  have HR4 := Lib.hid hr4
  have hn4 : n + k = (zs ++ ys).length := by simp [HN.out, HK.out]
  have HN4 := Lib.hid hn4
  clear hown2 hown4 hg4 hr4 hn4 hb14 hb12
  go_wp2_with fail
  refine (check_any (n + k) A4 c4 (zs ++ ys) v _ w4 HN4.out HR4.out (fun z hz => (List.mem_append.1 hz).elim (HZR.out z) (HYR.out z)) (by omega) (by omega) HW4.out).mono ?_
  rintro e w5 ⟨rfl, m5, h⟩
  have hb45 : Below w4.heap.size w4 w5 := by rw [h]; exact below_drewN (Below.refl _ _) m5
  have HW5 := Lib.hid (HW4.out.below hb45)
  have HZ5 := Lib.hid (HZ4.out.below (hb45.mono hs4) (Nat.le_refl _))
  have HY5 := Lib.hid (HY4.out.below (hb45.mono hs4) (Nat.le_refl _))
  have hb5 := hb4.trans (hb45.mono hs4)
  have hs5 := hb5.size
  rw [HP.out]
  clear h hb45 hb1
  go_upto_region 5 with fail
  go_cut [9] (fun u wx => u = .bool jb ∧ ∃ nq, wx = w5.drewN nq)
  case first =>
    by_cases h0 : n = 0
    · subst h0
      have HE := Lib.hid (show jb = true by rw [HJ.out, List.eq_nil_of_length_eq_zero HN.out.symm]; rfl)
      go_wp2_with fail
      go_quiet (fail)
      go_wp2
      go_meet
      exact ⟨by rw [HE.out], _, rfl⟩
    have e0 : ((n : Int) == 0) = false := by simpa using h0
    by_cases h1 : k = 0
    · subst h1
      have HE := Lib.hid (show jb = true by rw [HJ.out, List.eq_nil_of_length_eq_zero HK.out.symm]; simp)
      go_wp2_with fail
      go_quiet (fail)
      go_wp2
      go_meet
      exact ⟨by rw [HE.out], _, rfl⟩
    have e1 : ((k : Int) == 0) = false := by simpa using h1
    have hzn : 0 < zs.length := by rw [← HN.out]; omega
    have hyn : 0 < ys.length := by rw [← HK.out]; omega
    obtain ⟨b, o, rfl, _, hc⟩ := rd_ints HZ5.out hzn
    obtain ⟨b', o', rfl, _, hc'⟩ := rd_ints HY5.out hyn
    have c1 := hc (zs.length - 1) (by omega)
    have c2 := hc' 0 hyn
    obtain ⟨x0, x1⟩ := getD_range HZR.out (zs.length - 1) (by omega)
    obtain ⟨y0, y1⟩ := getD_range HYR.out 0 hyn
    have hJ := HJ.out
    rw [show zs.isEmpty = false by cases zs with | nil => simp at hzn | cons => rfl, show ys.isEmpty = false by cases ys with | nil => simp at hyn | cons => rfl] at hJ
    obtain ⟨x, hx⟩ : ∃ x, zs.getD (zs.length - 1) 0 = x := ⟨_, rfl⟩
    obtain ⟨y, hy⟩ : ∃ x, ys.getD 0 0 = x := ⟨_, rfl⟩
    rw [hx] at c1 x0 x1 hJ
    rw [hy] at c2 y0 y1 hJ
    rw [← HN.out] at c1
    simp only [Nat.add_zero, Bool.false_or] at c2 hJ
    obtain ⟨N', rfl⟩ : ∃ N', n = N' + 1 := ⟨n - 1, by omega⟩
    rw [show N' + 1 - 1 = N' from rfl] at c1
    have HM := Lib.hid (show ∀ j, Calls Tryd.prog 13 #[.int .u8 x, .int .u8 y, .int .i64 v] (w5.drewN j) fun e w' => e = .returned (.bool jb) ∧ w' = w5.drewN j from fun j => by rw [hJ]; exact may_any x y v _ ⟨x0, x1⟩ ⟨y0, y1⟩ (by omega) (HW5.out.below (below_drewN (Below.refl _ _) j)))
    have jw : IntKind.i64.wrap (N' : Int) = N' := by rw [IntKind.wrap_i64]; omega
    have j0 : (0 : Int) ≤ N' := by omega
    have j1 : (N' : Int) < ((N' + 1 : Nat) : Int) := by omega
    have j2 : (0 : Int) < (k : Int) := by omega
    have j3 : (N' : Int) < (N' : Int) + 1 := by omega
    have j4 : 0 < k := by omega
    have e2 : ((N' : Int) + 1 == 0) = false := by simp; omega
    clear hc hc' hx hy hJ hzn hyn
    go_wp2_with fail
    go_quiet ((go_at_call 13; exact Calls.quiet_of_same (HM.out _)))
    go_wp2
    go_meet
    exact ⟨rfl, _, rfl⟩
  case rest =>
    obtain ⟨rfl, nq, hwc⟩ := hcut
    have hb5c : Below w5.heap.size w5 wc := by rw [hwc]; exact below_drewN (Below.refl _ _) nq
    have HWc := Lib.hid (HW5.out.below hb5c)
    have HZc := Lib.hid (HZ5.out.below (hb5c.mono hs5) (Nat.le_refl _))
    have HYc := Lib.hid (HY5.out.below (hb5c.mono hs5) (Nat.le_refl _))
    have hbc := hb5.trans (hb5c.mono hs5)
    have hsc := hbc.size
    clear hwc hb5c hb5 hb4
    have CK := check_any n A cap zs v _ wc HN.out HZc.out HZR.out (by omega) (by omega) HWc.out
    rw [HQ.out] at CK
    have CK := Lib.hid CK
    by_cases hq : q < 0
    · have CY := Lib.hid (show ∀ W, Below wc.heap.size wc W → Calls Tryd.prog 15 #[.slice A' k cap', .int .i64 v] W fun e w' => e = .returned (.int .i64 r) ∧ ∃ m, w' = W.drewN m from fun W hW => by
        have := check_any k A' cap' ys v _ W HK.out (HYc.out.below (hW.mono hsc) (Nat.le_refl _)) HYR.out (by omega) (by omega) (HWc.out.below hW)
        rwa [HR.out] at this)
      by_cases hr : r < 0
      · have hI := HIFF.out
        rw [decide_eq_true hq, decide_eq_true hr] at hI
        cases jb with
        | true =>
          have hp0 : p < 0 := by simpa using hI
          clear hI hpr
          go_wp2_with fail
          refine CK.out.mono ?_
          rintro e w6 ⟨rfl, m6, h⟩
          have hb6 : Below wc.heap.size wc w6 := by rw [h]; exact below_drewN (Below.refl _ _) m6
          clear h
          go_wp2_with fail
          refine (CY.out _ hb6).mono ?_
          rintro e w7 ⟨rfl, m7, h⟩
          have HBF := Lib.hid (hbc.trans ((hb6.trans ((show Below w6.heap.size w6 w7 by rw [h]; exact below_drewN (Below.refl _ _) m7).mono hb6.size)).mono hsc))
          clear h hb6 hbc
          go_wp2
          go_ret
          exact ⟨ret_bool (by simp), HBF.out⟩
        | false =>
          have hp0 : ¬ p < 0 := by simpa using hI
          have hp1 : 0 < p ∧ p < n + k := hpr.resolve_left hp0
          obtain ⟨hp1, hp2⟩ := hp1
          clear hI hpr
          go_wp2_with fail
          refine CK.out.mono ?_
          rintro e w6 ⟨rfl, m6, h⟩
          have hb6 : Below wc.heap.size wc w6 := by rw [h]; exact below_drewN (Below.refl _ _) m6
          clear h
          go_wp2_with fail
          refine (CY.out _ hb6).mono ?_
          rintro e w7 ⟨rfl, m7, h⟩
          have HBF := Lib.hid (hbc.trans ((hb6.trans ((show Below w6.heap.size w6 w7 by rw [h]; exact below_drewN (Below.refl _ _) m7).mono hb6.size)).mono hsc))
          clear h hb6 hbc
          go_wp2
          go_ret
          exact ⟨ret_bool (by simp), HBF.out⟩
      · have hI := HIFF.out
        rw [decide_eq_false hr] at hI
        have hp0 : ¬ p < 0 := by simpa using hI
        have hp1 : 0 < p ∧ p < n + k := hpr.resolve_left hp0
        obtain ⟨hp1, hp2⟩ := hp1
        clear hI hpr
        go_wp2_with fail
        refine CK.out.mono ?_
        rintro e w6 ⟨rfl, m6, h⟩
        have hb6 : Below wc.heap.size wc w6 := by rw [h]; exact below_drewN (Below.refl _ _) m6
        clear h
        go_wp2_with fail
        refine (CY.out _ hb6).mono ?_
        rintro e w7 ⟨rfl, m7, h⟩
        have HBF := Lib.hid (hbc.trans ((hb6.trans ((show Below w6.heap.size w6 w7 by rw [h]; exact below_drewN (Below.refl _ _) m7).mono hb6.size)).mono hsc))
        clear h hb6 hbc
        go_wp2
        go_ret
        exact ⟨ret_bool (by simp), HBF.out⟩
    · have hI := HIFF.out
      rw [decide_eq_false hq] at hI
      have hp0 : ¬ p < 0 := by simpa using hI
      have hp1 : 0 < p ∧ p < n + k := hpr.resolve_left hp0
      obtain ⟨hp1, hp2⟩ := hp1
      clear hI hpr
      go_wp2_with fail
      refine CK.out.mono ?_
      rintro e w6 ⟨rfl, m6, h⟩
      have hb6 : Below wc.heap.size wc w6 := by rw [h]; exact below_drewN (Below.refl _ _) m6
      have HBF := Lib.hid (hbc.trans (hb6.mono hsc))
      clear h hb6 hbc
      go_wp2
      go_ret
      exact ⟨ret_bool (by simp), HBF.out⟩
end Go.Proofs.YtgeecngpmcjdpaaDoor
