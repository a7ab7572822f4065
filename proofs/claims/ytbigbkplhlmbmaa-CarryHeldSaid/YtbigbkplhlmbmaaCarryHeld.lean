/- CarryHeld: the walk. -/
import Derived.Test.YtbigbkplhlmbmaaCarryF
import Derived.Test.YtbigbkplhlmbmaaCarrySoonM
namespace Go.Proofs.Ytbigbkplhlmbmaa
set_option linter.unusedVariables false
open Go.RowKit

theorem sumS_pos : ∀ (ts : List Tok), (∀ t ∈ ts, 1 ≤ t.size) → 0 ≤ sumS ts
  | [], _ => by simp [sumS]
  | t :: ts, h => by
    have h1 := h t (by simp)
    have h2 := sumS_pos ts fun t ht => h t (by simp [ht])
    rw [sumS_cons]; omega
theorem sumS_drop {ts : List Tok} {k : Nat} (h : k < ts.length) : sumS (ts.drop k) = ts[k].size + sumS (ts.drop (k + 1)) := by rw [List.drop_eq_getElem_cons h, sumS_cons]

set_option maxHeartbeats 3200000 in
theorem carryHeld_any (A : Option Addr) (cap : Nat) (zs : List Int) (w : World) (hr : Rd w w.heap.size A (zs.map (Value.int .u8))) (hc : zs.length ≤ cap) (hb : ∀ z ∈ zs, 0 ≤ z ∧ z ≤ 255) (hl : zs.length ≤ 140737488351232) :
    Calls Try.prog 7 #[.slice A zs.length cap] w fun e w' => e = .returned (.bool true) ∧ Below w.heap.size w w' := by
  have HR := Lib.hid hr
  have HB := Lib.hid hb
  clear hr hb
  go_enter Try.func7, Try.ntmps7
  go_wp2_with fail
  refine (awake2 _).mono ?_
  rintro e w1 ⟨rfl, hb1⟩
  go_wp2_with fail
  have hp2 := RdrAt.new w1
  obtain ⟨w2, hw2⟩ : ∃ w2, w2 = w1.alloc (.cells #[.int .u8 0, .int .u8 0, .int .u8 0, .int .u8 0, .int .i64 0, .int .i64 0] 46) := ⟨_, rfl⟩
  obtain ⟨p, hpe⟩ : ∃ p, p = w1.heap.size := ⟨_, rfl⟩
  have hb2 : Below w.heap.size w w2 := by rw [hw2]; exact hb1.alloc hb1.size _
  have hpl : w.heap.size ≤ p := by rw [hpe]; exact hb1.size
  rw [← hw2, ← hpe] at hp2
  rw [← hw2, ← hpe]
  have HP2 := Lib.hid hp2
  clear hw2 hpe hb1 hp2
  go_loopw [4, 18] (fun a i wr => ∃ (K P : Nat) (q : List Int), K ≤ zs.length ∧ i = .int .i64 K ∧ a = .int .i64 P ∧ HD (zs.take K) = q ∧ P + q.length = K ∧ RdrAt wr p q P ∧ Below w.heap.size w wr) (fun _ i _ => zs.length - (intOf i).toNat)
  case atStart => exact ⟨0, 0, [], by omega, rfl, rfl, rfl, rfl, HP2.out, hb2⟩
  case round =>
    obtain ⟨K, P, q, hK, rfl, rfl, hq, hP, hrd, hbr⟩ := hrel
    have HQ := Lib.hid hq
    have HRD := Lib.hid hrd
    have HP := Lib.hid hP
    have hPK : P ≤ K ∧ q.length ≤ 3 := by have := (HD_len (zs.take K)).1; rw [hq] at this; omega
    clear hq hrd hP
    by_cases hKl : K = zs.length
    · have hKl' : ¬ K < zs.length := by omega
      have HKL := Lib.hid hKl
      clear hKl
      by_cases hq0 : q = []
      · subst hq0
        have hPl : P = zs.length := by have := HP.out; rw [← HKL.out]; simpa using this
        subst hPl
        go_wp2_with fail
        refine (end_rdr p [] _ _ HRD.out (by omega) (by omega) [] 0 rfl rfl).mono ?_
        rintro e w13 h
        obtain ⟨A13, c13, xs13, rfl, _, _, hr13, hg13, _, _⟩ := h.own
        have hbe := below_grownP hbr hg13 hpl hbr.size
        have HR13 := Lib.hid hr13
        clear h hg13 hr13
        go_wp2_with fail
        refine (held_rdr p _ _ _ HR13.out).mono ?_
        rintro e w' ⟨rfl, rfl⟩
        go_wp2
        go_ret
        exact ⟨rfl, hbe⟩
      · have hq1 : 1 ≤ q.length := by
          rcases Nat.eq_zero_or_pos q.length with h | h
          · exact absurd (List.eq_nil_of_length_eq_zero h) hq0
          · exact h
        have hPl : P + q.length = zs.length := by have := HP.out; rw [← HKL.out]; exact this
        have f1 : (1 : Int) ≤ zs.length - P := by omega
        have HQE := Lib.hid (show endK q P = [⟨P, q.length, 2, []⟩] from if_neg hq0)
        clear hPl hq0
        go_wp2_with fail
        refine (end_rdr p q _ _ HRD.out (by omega) (by omega) _ 1 HQE.out rfl).mono ?_
        rintro e w13 h
        obtain ⟨A13, c13, xs13, rfl, _, _, hr13, hg13, _, _⟩ := h.own
        have hbe := below_grownP hbr hg13 hpl hbr.size
        have HR13 := Lib.hid hr13
        clear h hg13 hr13
        go_wp2_with fail
        refine (held_rdr p _ _ _ HR13.out).mono ?_
        rintro e w' ⟨rfl, rfl⟩
        go_wp2
        go_ret
        exact ⟨rfl, hbe⟩
    have hKl' : K < zs.length := by omega
    obtain ⟨b, o, rfl, hbl, hcell⟩ := rd_ints (HR.out.below hbr (Nat.le_refl _)) (by omega)
    have k1 := hcell K hKl'
    obtain ⟨hc0, hl3, hlK, hhb, e1, e2, hk4, hdl⟩ := cstep hKl' HB.out
    rw [HQ.out] at hhb e2 hk4
    obtain ⟨c, hcz⟩ : ∃ x, zs.getD K 0 = x := ⟨_, rfl⟩
    rw [hcz] at k1 hc0 e2 hk4
    rw [show ((K : Int) - q.length) = P from by have := HP.out; omega] at hk4
    obtain ⟨k2, hk2⟩ : ∃ x, KN P (q ++ [c]) = x := ⟨_, rfl⟩
    obtain ⟨n2, hn2⟩ : ∃ x, k2.length = x := ⟨_, rfl⟩
    obtain ⟨hd2, hh2⟩ : ∃ x, HD (q ++ [c]) = x := ⟨_, rfl⟩
    have hsum : sumS k2 = q.length + 1 - hd2.length := by rw [← hk2, sumS_KN, hh2]; simp
    have hsz : ∀ t ∈ k2, 1 ≤ t.size := by rw [← hk2]; exact knownF_size _ _ _
    rw [hk2, hn2] at hk4
    rw [hh2] at e2
    have hd3 : hd2.length ≤ 3 ∧ hd2.length ≤ q.length + 1 := by have := HD_len (q ++ [c]); rw [hh2] at this; simpa using this
    obtain ⟨P2, hP2⟩ : ∃ x, x = K + 1 - hd2.length := ⟨_, rfl⟩
    have hP2' : P2 + hd2.length = K + 1 := by have := HP.out; omega
    have HHB := Lib.hid hhb
    have HK2 := Lib.hid hk2
    have HN2 := Lib.hid hn2
    have HH2 := Lib.hid hh2
    have HE2 := Lib.hid e2
    have HSUM := Lib.hid hsum
    have HSZ := Lib.hid hsz
    have HP2' := Lib.hid hP2'
    clear hcell e1 e2 hhb hcz hk2 hn2 hh2 hsum hsz hP2 hl3 hlK hdl hP2'
    have e4 : (0 : Int) ≤ K := by omega
    have e5 : (K : Int) < zs.length := by omega
    go_wp2_with fail
    refine (put_rdr p q _ c _ HRD.out hPK.2 (by omega) (by omega) hc0 HHB.out k2 n2 hd2 HK2.out HN2.out HH2.out).mono ?_
    rintro e w4 h
    obtain ⟨A4, c4, xs4, rfl, ho4, ht4, hr4, hg4, hc4, hm4⟩ := h.own
    have hr4' := hr4.at_eq (b := (P2 : Int)) (by have h1 := HP2'.out; have h2 := HP.out; omega)
    have hb4 := below_grownP hbr hg4 hpl hbr.size
    have HR4 := Lib.hid hr4'
    have HO4 := Lib.hid (Rd.own ho4)
    have HT4 := Lib.hid ht4
    clear h ho4 ht4 hr4 hr4' hg4
    unfold maxLen at hm4
    go_wp2_with fail
    obtain ⟨wo, rfl⟩ : ∃ wo : World, wo = wr := ⟨_, rfl⟩
    go_loopw [4, 27] (fun a i wi => ∃ (j : Nat) (x : Int), j ≤ n2 ∧ i = .int .i64 j ∧ a = .int .i64 x ∧ 0 ≤ x ∧ x + sumS (k2.drop j) = P2 ∧ Below w4.heap.size w4 wi) (fun _ i _ => n2 - (intOf i).toNat)
    case atStart => exact ⟨0, P, by omega, rfl, rfl, by omega, by rw [List.drop_zero, HSUM.out]; have h1 := HP2'.out; have h2 := HP.out; omega, Below.refl _ _⟩
    case round =>
      obtain ⟨j, x, hj, rfl, rfl, hx0, hx, hbi⟩ := hrel
      by_cases hjn : j = n2
      · have hxP : x = (P2 : Int) := by
          rw [List.drop_of_length_le (by rw [HN2.out]; omega)] at hx
          have : sumS [] = 0 := rfl
          omega
        subst hxP
        have hjn' : ¬ j < n2 := by omega
        have hbw := hb4.trans (hbi.mono hb4.size)
        have HRI := Lib.hid (HR4.out.below hbi)
        clear hx hjn
        have hcc := hc
        by_cases hd0 : hd2 = []
        · subst hd0
          obtain rfl : P2 = K + 1 := by have := HP2'.out; simpa using this
          have f0 : ((([] : List Int).length : Nat) : Int) = 0 := rfl
          have HRI' := Lib.hid (show RdrAt wr p [] ((K : Int) + 1) from HRI.out.at_eq (by omega))
          rw [show (((K + 1 : Nat)) : Int) = (K : Int) + 1 from by omega]
          by_cases hcap : cap = K + 1
          · subst hcap
            go_wp2_with fail
            refine (held_rdr p _ _ _ HRI.out).mono ?_
            rintro e w' ⟨rfl, rfl⟩
            go_wp2_with fail
            refine (held_rdr p _ _ _ HRI.out).mono ?_
            rintro e w' ⟨rfl, rfl⟩
            go_wp2_with fail
            refine (one_at 0 _ _ [] _ _ _ _ rfl Rd.nil (by simp) (by simp) (by simp) rfl).mono ?_
            rintro e w9 ⟨rfl, hb9⟩
            have HR9 := Lib.hid (HRI'.out.below hb9)
            have hbz := hbw.trans (hb9.mono hbw.size)
            go_wp2_with fail
            refine (held_rdr p _ _ _ HR9.out).mono ?_
            rintro e w' ⟨rfl, rfl⟩
            go_wp2
            go_roundw
            case rel => exact ⟨K + 1, K + 1, [], by omega, by go_num, by go_num, HE2.out, HP2'.out, HR9.out.at_eq (by omega), hbz⟩
            case measure => simp [intOf]; omega
          · go_wp2_with fail
            refine (held_rdr p _ _ _ HRI.out).mono ?_
            rintro e w' ⟨rfl, rfl⟩
            go_wp2_with fail
            refine (held_rdr p _ _ _ HRI.out).mono ?_
            rintro e w' ⟨rfl, rfl⟩
            go_wp2_with fail
            refine (one_at 0 _ _ [] _ _ _ _ rfl Rd.nil (by simp) (by simp) (by simp) rfl).mono ?_
            rintro e w9 ⟨rfl, hb9⟩
            have HR9 := Lib.hid (HRI'.out.below hb9)
            have hbz := hbw.trans (hb9.mono hbw.size)
            go_wp2_with fail
            refine (held_rdr p _ _ _ HR9.out).mono ?_
            rintro e w' ⟨rfl, rfl⟩
            go_wp2
            go_roundw
            case rel => exact ⟨K + 1, K + 1, [], by omega, by go_num, by go_num, HE2.out, HP2'.out, HR9.out.at_eq (by omega), hbz⟩
            case measure => simp [intOf]; omega
        · have hd1 : 1 ≤ hd2.length := by
            rcases Nat.eq_zero_or_pos hd2.length with h | h
            · exact absurd (List.eq_nil_of_length_eq_zero h) hd0
            · exact h
          have hcap : ¬ cap = P2 := by have := HP2'.out; omega
          have hP2K : P2 ≤ K + 1 := by have := HP2'.out; omega
          have hsuf := HD_suffix (zs.take (K + 1))
          rw [HE2.out] at hsuf
          obtain ⟨s, n, e, ho⟩ : ∃ s n e, oneF hd2 = (s, n, e) := ⟨_, _, _, rfl⟩
          have he := hsuf.2 hd0
          rw [ho] at he
          obtain rfl : e = 2 := he
          have hrd2 : Rd wr wr.heap.size (Option.map (fun x : Addr => x.add P2) (some ⟨b, o, none⟩)) (hd2.map (Value.int .u8)) := by
            have h1 := Rd.drop (k := P2) (cap := cap) (HR.out.below hbw hbw.size) (n := zs.length) (by simp) (by omega) hc
            rw [if_neg hcap] at h1
            have h2 := h1.take (K + 1 - P2)
            rw [← List.map_drop, ← List.map_take, ← List.drop_take] at h2
            have h3 := hsuf.1
            rw [List.length_take, Nat.min_eq_left (by omega), show K + 1 - hd2.length = P2 from by have := HP2'.out; omega] at h3
            rw [h3] at h2
            exact h2
          rw [show Option.map (fun x : Addr => x.add P2) (some ⟨b, o, none⟩) = some ⟨b, o + P2, none⟩ from by simp [Addr.add]] at hrd2
          have HRD2 := Lib.hid hrd2
          have HO := Lib.hid ho
          have f1 : ((P2 : Int) + hd2.length != (K : Int) + 1) = false := by
            have := HP2'.out
            have h : ((P2 : Int) + hd2.length) = (K : Int) + 1 := by omega
            rw [h]; simp
          have f2 : (P2 : Int) ≤ (K : Int) + 1 := by omega
          clear hrd2 ho hsuf hd0
          go_wp2_with fail
          refine (held_rdr p _ _ _ HRI.out).mono ?_
          rintro e w' ⟨rfl, rfl⟩
          go_wp2_with fail
          refine (held_rdr p _ _ _ HRI.out).mono ?_
          rintro e w' ⟨rfl, rfl⟩
          go_wp2_with fail
          refine (one_at _ _ _ hd2 s n 2 _ (by have := HP2'.out; omega) HRD2.out (by omega) (by have := HP2'.out; omega) (fun z hz => by
            have h : z ∈ q ++ [c] := heldF_mem _ _ z (by rw [← HH2.out] at hz; exact hz)
            rcases List.mem_append.1 h with h | h
            · exact HHB.out z h
            · obtain rfl : z = c := by simpa using h
              exact hc0) HO.out).mono ?_
          rintro e w9 ⟨rfl, hb9⟩
          have HR9 := Lib.hid (HRI.out.below hb9)
          have hbz := hbw.trans (hb9.mono hbw.size)
          go_wp2_with fail
          refine (held_rdr p _ _ _ HR9.out).mono ?_
          rintro e w' ⟨rfl, rfl⟩
          go_wp2
          go_roundw
          case rel => exact ⟨K + 1, P2, hd2, by omega, by go_num, rfl, HE2.out, HP2'.out, HR9.out, hbz⟩
          case measure => simp [intOf]; omega
      have hjn' : j < n2 := by omega
      have hjt : j < k2.length := by rw [HN2.out]; exact hjn'
      obtain ⟨b4, o4, rfl, hbl4, q1, q2, ⟨A9, c9, q3, _, hm9, hA9⟩, q4⟩ := toks_atT (HO4.out.below hbi hbi.size) (HT4.out.below hbi hbi.size) hjt
      rw [sumS_drop hjt] at hx
      have hs1 := HSZ.out _ (List.getElem_mem hjt)
      have hs2 := sumS_pos (k2.drop (j + 1)) fun t ht => HSZ.out t (List.mem_of_mem_drop ht)
      obtain ⟨S, hS⟩ : ∃ S, S = k2[j].size := ⟨_, rfl⟩
      obtain ⟨X, hX⟩ : ∃ S, S = k2[j].pos := ⟨_, rfl⟩
      obtain ⟨E, hE⟩ : ∃ S, S = k2[j].err := ⟨_, rfl⟩
      obtain ⟨L, hL⟩ : ∃ S, S = k2[j].out.length := ⟨_, rfl⟩
      rw [← hS] at q2 hx hs1
      rw [← hX] at q1
      rw [← hE] at q4
      rw [← hL] at q3
      have hP2K : P2 ≤ K + 1 := by have := HP2'.out; omega
      have HX := Lib.hid (show x + S + sumS (k2.drop (j + 1)) = P2 by omega)
      have hxS : x + S ≤ 140737488351233 := by omega
      clear hA9 hS hX hE hL hx
      go_wp2
      go_roundw
      case rel => exact ⟨j + 1, x + S, by omega, by go_num, rfl, by omega, HX.out, hbi.trans (((Below.refl _ _).alloc (Nat.le_refl _) _).mono hbi.size)⟩
      case measure => simp [intOf]; omega
end Go.Proofs.Ytbigbkplhlmbmaa
