/- CarryFeed: the walk. -/
import Derived.Test.YtfhjphemeddjcaaCut
import Derived.Test.YtfhjphemeddjcaaLall
namespace Go.Proofs.Ytfhjphemeddjcaa
set_option linter.unusedVariables false
open Go.RowKit

theorem CInv.nextN {w wr w4 w5 : World} {p K m : Nat} {zs q : List Int} {v v5 : Value} {xs xs4 : List Value} {kn : List Tok} {hd : List Int} (hK : K ≤ zs.length) (hq : zs.take (K + q.length) = zs.take K ++ q) (hp : p < w.heap.size)
    (hown : wr.ownsRow w.heap.size 38 4 v (KN 0 (zs.take K)).length xs) (htok : Toks wr wr.heap.size xs (KN 0 (zs.take K))) (hrd : RdrAt wr p (HD (zs.take K)) ((K : Int) - (HD (zs.take K)).length)) (hgr : w.grownBy wr (some p))
    (hk : KN ((K : Int) - (HD (zs.take K)).length) (HD (zs.take K) ++ q) = kn) (hm : kn.length = m) (hh : HD (HD (zs.take K) ++ q) = hd)
    (ht4 : Toks w4 w4.heap.size xs4 kn) (hr4 : RdrAt w4 p hd ((K : Int) - (HD (zs.take K)).length + (HD (zs.take K)).length + q.length - hd.length)) (hg4 : wr.grownBy w4 (some p))
    (hown5 : w5.ownsRow w.heap.size 38 4 v5 ((KN 0 (zs.take K)).length + m) (xs ++ xs4)) (hg5 : w4.grownBy w5 v.ownBlock) : CInv w p zs (K + q.length) v5 w5 := by
  have hkeep := CInv.kept hp hown hg4
  have e1 : KN 0 (zs.take (K + q.length)) = KN 0 (zs.take K) ++ kn := by
    rw [hq, KN_app, ← hk]
    congr 2
    rw [List.length_take, Nat.min_eq_left hK]
    omega
  have e2 : HD (zs.take (K + q.length)) = hd := by rw [hq, HD_app, hh]
  subst hm
  refine ⟨xs ++ xs4, ?_, ?_, ?_, ?_⟩
  · rw [e1, List.length_append]; exact hown5
  · rw [e1]; exact (((htok.grownP hrd hg4).app ht4).grown (Nat.le_refl _) hg5.size hkeep (by decide) hg5)
  · rw [e2]; exact (hr4.grownV hkeep hp hg5).at_eq (by push_cast; omega)
  · exact grown_low (grown_seq hgr hg4) hg5 hkeep

set_option maxHeartbeats 6400000 in
theorem carryFeed_any (A : Option Addr) (cap : Nat) (zs : List Int) (A' : Option Addr) (cap' : Nat) (ss : List Int) (A'' : Option Addr) (cap'' : Nat) (cs : List Int) (w : World)
    (hr : Rd w w.heap.size A (zs.map (Value.int .u8))) (hc : zs.length ≤ cap) (hb : ∀ z ∈ zs, 0 ≤ z ∧ z ≤ 255)
    (hr' : Rd w w.heap.size A' (ss.map (Value.int .i64))) (hc' : ss.length ≤ cap') (hb' : ∀ z ∈ ss, (-9223372036854775808 : Int) ≤ z ∧ z ≤ 9223372036854775807)
    (hr'' : Rd w w.heap.size A'' (cs.map (Value.int .u8))) (hc'' : cs.length ≤ cap'') (hb'' : ∀ z ∈ cs, 0 ≤ z ∧ z ≤ 255) (hl : zs.length + ss.length + cs.length ≤ 1048576) :
    Calls Try.prog 6 #[.slice A zs.length cap, .slice A' ss.length cap', .slice A'' cs.length cap''] w fun e w' => e = .returned (.bool true) ∧ Below w.heap.size w w' := by
  obtain ⟨i0, hi, hz0, hz1, hz2⟩ := info_parts info5
  obtain ⟨i1, hi1, hy0, hy1, hy2⟩ := info_parts info44
  have HR := Lib.hid hr
  have HB := Lib.hid hb
  have HR' := Lib.hid hr'
  have HR'' := Lib.hid hr''
  have HB'' := Lib.hid hb''
  clear hr hb hr' hb' hr'' hb''
  obtain ⟨xs, hxs⟩ : ∃ xs, bytesF ss = xs := ⟨_, rfl⟩
  obtain ⟨m, hm⟩ : ∃ m, xs.length = m := ⟨_, rfl⟩
  have hml : m ≤ 4194304 := by have := bytesF_len ss; rw [hxs, hm] at this; omega
  have hxb : ∀ z ∈ xs, 0 ≤ z ∧ z ≤ 255 := by rw [← hxs]; exact bytesF_range ss
  have HXS := Lib.hid hxs
  have HM := Lib.hid hm
  have HXB := Lib.hid hxb
  clear hxs hm hxb
  go_enter Try.func6, Try.ntmps6
  go_wp2_with fail
  refine (awake2 _).mono ?_
  rintro e w1 ⟨rfl, hb1⟩
  go_wp2_with fail
  refine (bytes_own _ _ _ ss _ rfl (HR'.out.below hb1 hb1.size) (by omega) hc' xs m HXS.out HM.out).mono ?_
  rintro e w2 ⟨A2, c2, rfl, hr2, hc2, hm2, hb2⟩
  have HR2 := Lib.hid hr2
  have hbA := hb1.trans (hb2.mono hb1.size)
  clear hr2
  go_wp2_with fail
  refine (bytes_any _ _ _ ss _ rfl (HR'.out.below hbA hbA.size) (by omega) hc').mono ?_
  rintro e w3 ⟨v3, rfl, hown3, hb3⟩
  unfold OwnI at hown3
  rw [HXS.out, HM.out] at hown3
  have hbB := hbA.trans (hb3.mono hbA.size)
  go_wp2_with (at_builtin; refine wpList_app _ rfl _ _ 23 rfl w2.heap.size 5 i0 _ 1 1 Try.underlying23 hi hz0 hz1 hz2 rfl (by decide) _ _ _ rfl hown3 w3.heap.size A zs.length cap (zs.map (Value.int .u8)) rfl (by simp) (HR.out.below hbB hbB.size) (ints_one _ _) ?c3 ?c4 ?c5 ?_)
  case c3 => simp only [maxLen]; omega
  case c4 => omega
  case c5 => exact hb3.size
  intro v4 w4 hown4 hg4
  rw [← List.map_append] at hown4
  have hb4 := below_own hb3 hg4 hown3 (Nat.le_refl _) hb3.size
  have hbC := hbA.trans (hb4.mono hbA.size)
  obtain ⟨A4, c4, rfl, hc4, hm4⟩ := own_form hown4
  have hr4 := Rd.own hown4
  have HR24 := Lib.hid (HR2.out.below hb4 hb4.size)
  have HR4 := Lib.hid hr4
  clear hown3 hown4 hg4 hr4 HR2
  unfold maxLen at hm4 hm2
  go_wp2_with fail
  obtain ⟨W5, hW5⟩ : ∃ W5, W5 = w4.alloc (.cells #[.slice A zs.length cap, .slice A2 m c2, .slice A4 (m + zs.length) c4] 23) := ⟨_, rfl⟩
  obtain ⟨g, hg⟩ : ∃ g, g = w4.heap.size := ⟨_, rfl⟩
  rw [← hW5, ← hg]
  have hnw : W5.heap[g]? = some (.cells #[.slice A zs.length cap, .slice A2 m c2, .slice A4 (m + zs.length) c4] 23 (0, 0)) := by rw [hW5, hg]; exact heap_alloc_new w4 _
  have hb45 : Below w4.heap.size w4 W5 := by rw [hW5]; exact (Below.refl _ _).alloc (Nat.le_refl _) _
  have hb5 : Below w.heap.size w W5 := hbC.trans (hb45.mono hbC.size)
  have hg5 : g < W5.heap.size := by rw [hW5, hg]; simp
  have hcells : ∀ k, k < 3 → ∃ (Ak : Option Addr) (ck : Nat) (y : List Int), W5.cell? ⟨g, k, none⟩ = some (.slice Ak y.length ck) ∧ y.length ≤ ck ∧ Rd W5 W5.heap.size Ak (y.map (Value.int .u8)) ∧ (∀ z ∈ y, 0 ≤ z ∧ z ≤ 255) ∧ y.length ≤ 5242880 := by
    intro k hk
    rw [cell_of_row _ _ _ _ _ _ hnw]
    match k, hk with
    | 0, _ => exact ⟨A, cap, zs, rfl, hc, HR.out.below hb5 hb5.size, HB.out, by omega⟩
    | 1, _ => exact ⟨A2, c2, xs, by rw [HM.out]; rfl, by rw [HM.out]; exact hc2, HR24.out.below hb45 hb45.size, HXB.out, by rw [HM.out]; omega⟩
    | 2, _ => exact ⟨A4, c4, xs ++ zs, by rw [List.length_append, HM.out]; rfl, by rw [List.length_append, HM.out]; exact hc4, HR4.out.below hb45 hb45.size, fun z hz => (List.mem_append.1 hz).elim (HXB.out z) (HB.out z), by rw [List.length_append, HM.out]; omega⟩
  have HCS := Lib.hid hcells
  clear hW5 hg hnw hb45 hbB hbC hbA hb1 hb2 hb3 hb4 HR24 HR4 hcells
  go_loopw [24] (fun i wr => ∃ k : Nat, k ≤ 3 ∧ i = .int .i64 k ∧ Below W5.heap.size W5 wr) (fun i _ => 3 - (intOf i).toNat)
  case atStart => exact ⟨0, by omega, rfl, Below.refl _ _⟩
  case round =>
    obtain ⟨k, hk, rfl, hbr⟩ := hrel
    have hbz := hb5.trans (hbr.mono hb5.size)
    by_cases hk3 : k = 3
    · subst hk3
      go_wp2
      go_ret
      exact ⟨rfl, hbz⟩
    have hk3' : k < 3 := by omega
    obtain ⟨Ak, ck, y, k1, hyc, hyr, hyb, hyl⟩ := HCS.out k hk3'
    replace k1 := (hbr.cell (p := ⟨g, k, none⟩) hg5).trans k1
    have e4 : (0 : Int) ≤ k := by omega
    have e5 : (k : Int) < 3 := by omega
    have HYR := Lib.hid (hyr.below hbr hbr.size)
    have HY5 := Lib.hid hyr
    have HYB := Lib.hid hyb
    clear hyr hyb hk3
    go_wp2_with fail
    have hp6 := RdrAt.new wr
    obtain ⟨w6, hw6⟩ : ∃ w6, w6 = wr.alloc (.cells #[.int .u8 0, .int .u8 0, .int .u8 0, .int .u8 0, .int .i64 0, .int .i64 0] 43) := ⟨_, rfl⟩
    obtain ⟨p, hpe⟩ : ∃ p, p = wr.heap.size := ⟨_, rfl⟩
    have hb6 : Below wr.heap.size wr w6 := by rw [hw6]; exact (Below.refl _ _).alloc (Nat.le_refl _) _
    have hp6s : p + 1 = w6.heap.size := by rw [hw6, hpe]; simp
    rw [← hw6, ← hpe] at hp6
    rw [← hw6, ← hpe]
    rw [← hpe] at hb6
    have HY6 := Lib.hid (show Rd w6 p Ak (y.map (Value.int .u8)) from by have := HYR.out; rw [← hpe] at this; exact this.below hb6 (Nat.le_refl _))
    have hpl : w.heap.size ≤ p ∧ W5.heap.size ≤ p := by rw [hpe]; exact ⟨hbz.size, hbr.size⟩
    have HP6 := Lib.hid hp6
    have hbz6 : Below w.heap.size w w6 := hbz.trans (hb6.mono hpl.1)
    have hbr6 : Below W5.heap.size W5 w6 := hbr.trans (hb6.mono hpl.2)
    clear hw6 hpe hp6
    refine (cut_any Ak _ ck y A'' _ cap'' cs p _ rfl rfl (by omega) HY6.out hyc (by omega) (HR''.out.below hbz6 hbz6.size) hc'' HB''.out (by omega)).mono ?_
    rintro e w7 ⟨A7, c7, xs7, qs, rfl, hown7, hpar7, hfl7, hql7, hb7⟩
    have HO7 := Lib.hid hown7
    have HPA := Lib.hid hpar7
    have HFL := Lib.hid hfl7
    have HQL := Lib.hid hql7
    have HP7 := Lib.hid (HP6.out.below hb7)
    have hbz7 : Below w.heap.size w w7 := hbz6.trans (hb7.mono hbz6.size)
    have hbr7 : Below W5.heap.size W5 w7 := hbr6.trans (hb7.mono hbr6.size)
    have hp7 : p < w7.heap.size := HP7.out.lt
    clear hown7 hpar7 hfl7 hql7
    go_wp2_with fail
    obtain ⟨M, hM⟩ : ∃ M, M = cs.length + 1 := ⟨_, rfl⟩
    rw [← hM] at HO7 HQL
    have hMi : ((cs.length : Int) + 1) = M := by omega
    rw [← hM, hMi]
    have hMl : M ≤ 1048577 := by omega
    clear hM hMi
    obtain ⟨wo, rfl⟩ : ∃ wo : World, wo = wr := ⟨_, rfl⟩
    go_loopw [10, 34] (fun v i wr => ∃ j K : Nat, j ≤ M ∧ i = .int .i64 j ∧ K ≤ y.length ∧ (qs.drop j).flatten = y.drop K ∧ CInv w7 p y K v wr) (fun _ i _ => M - (intOf i).toNat)
    case atStart => exact ⟨0, 0, by omega, rfl, by omega, by simpa using HFL.out, CInv.start HP7.out⟩
    case round =>
      obtain ⟨j, K, hj, rfl, hK, hfl, hinv⟩ := hrel
      obtain ⟨xs, hown, htok, hrd, hgr⟩ := hinv
      have HFJ := Lib.hid hfl
      have HOW := Lib.hid hown
      have HTO := Lib.hid htok
      have HRD := Lib.hid hrd
      have HGR := Lib.hid hgr
      have hbzr := below_grownP hbz7 hgr hpl.1 hbz7.size
      have hbrr := below_grownP hbr7 hgr hpl.2 hbr7.size
      clear hfl hown htok hrd hgr
      by_cases hjM : j = M
      · have hKy : K = y.length := by
          have h1 := HFJ.out
          rw [List.drop_of_length_le (by rw [HQL.out]; omega)] at h1
          have h2 := congrArg List.length h1
          rw [List.length_drop] at h2
          simp at h2
          omega
        have hjM' : ¬ j < M := by omega
        have hO := HOW.out
        have hT := HTO.out
        have hR := HRD.out
        rw [hKy, KN_take_all] at hO hT hR
        obtain ⟨kn, hkn⟩ : ∃ kn, KN 0 y = kn := ⟨_, rfl⟩
        obtain ⟨n, hn⟩ : ∃ n, kn.length = n := ⟨_, rfl⟩
        obtain ⟨hd, hhd⟩ : ∃ hd, HD y = hd := ⟨_, rfl⟩
        obtain ⟨en, hen⟩ : ∃ x, endK hd ((y.length : Int) - hd.length) = x := ⟨_, rfl⟩
        obtain ⟨q, hq⟩ : ∃ x, en.length = x := ⟨_, rfl⟩
        have hall : kn ++ en = allF y.length 0 y := by rw [← all_end, hkn, hhd, ← hen]; simp
        have hlen : (kn ++ en).length = n + q := by rw [List.length_append, hn, hq]
        have hnl : n ≤ y.length := by have := KN_len 0 y; rw [hkn, hn] at this; exact this
        have hql : q ≤ 1 := by have := endK_len hd ((y.length : Int) - hd.length); rw [hen, hq] at this; exact this
        have hdl : hd.length ≤ y.length := by have := (HD_len y).2; rw [hhd] at this; exact this
        rw [hkn, hn] at hO
        rw [hkn] at hT
        rw [hhd] at hR
        have HEN := Lib.hid hen
        have HQ := Lib.hid hq
        have HALL := Lib.hid hall
        have HLEN := Lib.hid hlen
        have HO := Lib.hid hO
        have HT := Lib.hid hT
        have HRE := Lib.hid hR
        clear hkn hn hhd hen hq hall hlen hO hT hR hKy hjM HOW HTO HRD
        go_wp2_with fail
        refine (end_rdr p hd _ _ HRE.out (by omega) (by omega) en q HEN.out HQ.out).mono ?_
        rintro e w8 h
        obtain ⟨A8, c8, xs8, rfl, hown8, htok8, hr8, hg8, hc8, hm8⟩ := h.own
        have hkeep := CInv.kept hp7 HO.out hg8
        have htt := (HT.out.grownP HRE.out hg8).app htok8
        have HR8 := Lib.hid hr8
        have hb8 := below_grownP hbzr hg8 hpl.1 hbzr.size
        have hb8' := below_grownP hbrr hg8 hpl.2 hbrr.size
        clear h hr8
        go_wp2_with (at_builtin; refine wpList_app _ rfl _ _ 34 rfl w7.heap.size 38 i1 _ 4 48 Try.underlying34 hi1 hy0 hy1 hy2 rfl (by decide) _ _ _ rfl hkeep w8.heap.size A8 q c8 xs8 rfl ?c1 (Rd.own hown8) ?c2 ?c3 ?c4 ?c5 ?_)
        case c1 => exact hown8.1
        case c2 => exact htok8.one
        case c3 => simp only [maxLen]; omega
        case c4 => omega
        case c5 => exact Nat.le_trans HGR.out.size hg8.size
        intro v9 w9 hown9 hg9
        have ht9 := htt.grown (Nat.le_refl _) hg9.size hkeep (by decide) hg9
        have hr9 := HR8.out.grownV hkeep hp7 hg9
        have hb9 := below_own hb8 hg9 hkeep hbz7.size hb8.size
        have hb9' := below_own hb8' hg9 hkeep hbr7.size hb8'.size
        obtain ⟨A9, c9, rfl, hc9, hm9⟩ := own_form hown9
        have HO9 := Lib.hid (Rd.own hown9)
        have HT9 := Lib.hid ht9
        have HR9 := Lib.hid hr9
        have hyr9 : Rd w9 w9.heap.size Ak (y.map (Value.int .u8)) := HY5.out.below hb9' hb9'.size
        have HYR9 := Lib.hid hyr9
        clear hown8 htok8 hg8 hkeep hown9 hg9 htt ht9 hr9 hyr9
        go_wp2_with fail
        refine (allL_own _ _ _ y _ rfl HYR9.out (by omega) hyc HYB.out (kn ++ en) (n + q) HALL.out.symm HLEN.out).mono ?_
        rintro e w10 ⟨A10, c10, xs10, rfl, hr10, ht10, hc10, hm10, hb10⟩
        have HR10 := Lib.hid hr10
        have HT10 := Lib.hid ht10
        clear hr10 ht10
        go_wp2_with fail
        refine (same_own (n + q) _ _ _ _ (kn ++ en) _ xs10 w10.heap.size _ HLEN.out.symm (HO9.out.below hb10 hb10.size) (HT9.out.below hb10 hb10.size) HR10.out HT10.out (by rw [HLEN.out]; omega) (fun t ht => by
          rw [HALL.out] at ht
          have := allF_out _ _ _ t ht
          omega)).mono ?_
        rintro e w11 ⟨rfl, hb11⟩
        have HR11 := Lib.hid ((HR9.out.below hb10).below hb11)
        have hbE := hb9'.trans ((below_trans _ _ _ hb10 hb11).mono hb9'.size)
        go_wp2_with fail
        refine (held_rdr p _ _ _ HR11.out).mono ?_
        rintro e w' ⟨rfl, rfl⟩
        go_wp2
        go_roundw
        case rel => exact ⟨k + 1, by omega, by go_num, hbE⟩
        case measure => simp [intOf]; omega
      have hjM' : j < M := by omega
      have hjq : j < qs.length := by rw [HQL.out]; exact hjM'
      obtain ⟨Aq, cq, hxq, hqc, hqr⟩ := HPA.out.get j qs[j] (List.getElem?_eq_getElem hjq)
      obtain ⟨q, hqe⟩ : ∃ q, q = qs[j] := ⟨_, rfl⟩
      rw [← hqe] at hxq hqc hqr
      have hsplit : y.drop K = q ++ (qs.drop (j + 1)).flatten := by rw [← HFJ.out, List.drop_eq_getElem_cons hjq, ← hqe]; rfl
      have hqK : K + q.length ≤ y.length := by
        have := congrArg List.length hsplit
        rw [List.length_drop, List.length_append] at this
        omega
      have htk : y.take (K + q.length) = y.take K ++ q := by
        rw [List.take_add, hsplit, List.take_left']
        rfl
      have hfn : (qs.drop (j + 1)).flatten = y.drop (K + q.length) := by
        have h1 : y.drop (K + q.length) = (y.drop K).drop q.length := by rw [List.drop_drop]
        rw [h1, hsplit, List.drop_left']
        rfl
      have hqb : ∀ z ∈ q, 0 ≤ z ∧ z ≤ 255 := fun z hz => HYB.out z (List.mem_of_mem_drop (i := K) (by rw [hsplit]; exact List.mem_append.2 (.inl hz)))
      have hr7 := Rd.ownP HO7.out (by omega : p < w6.heap.size) HGR.out
      have hxl := HPA.out.length
      obtain ⟨b7, o7, rfl, hbl7, hc7⟩ : ∃ b7 o7, A7 = some ⟨b7, o7, none⟩ ∧ b7 < w7.heap.size ∧ ∀ i, i < xs7.length → wr.cell? ⟨b7, o7 + i, none⟩ = xs7[i]? := by
        rcases hr7 with h | h
        · rw [h] at hxl; simp at hxl; omega
        · exact h
      have k2 := (hc7 j (by omega)).trans hxq
      have hd0 : ∀ z ∈ HD (y.take K), 0 ≤ z ∧ z ≤ 255 := fun z hz => HYB.out z (List.mem_of_mem_take (heldF_mem _ _ z hz))
      have hdl := HD_len (y.take K)
      rw [List.length_take, Nat.min_eq_left hK] at hdl
      have hHD := HD_HD (y.take K)
      have hdn0 := KN_len 0 (y.take K)
      rw [List.length_take, Nat.min_eq_left hK] at hdn0
      obtain ⟨hd', hhd'⟩ : ∃ x, HD (y.take K) = x := ⟨_, rfl⟩
      obtain ⟨done, hdn⟩ : ∃ x, KN 0 (y.take K) = x := ⟨_, rfl⟩
      obtain ⟨k3, hk3e⟩ : ∃ x, KN ((K : Int) - hd'.length) (hd' ++ q) = x := ⟨_, rfl⟩
      obtain ⟨n3, hn3⟩ : ∃ x, k3.length = x := ⟨_, rfl⟩
      obtain ⟨hd3, hh3⟩ : ∃ x, HD (hd' ++ q) = x := ⟨_, rfl⟩
      have hO := HOW.out
      have hR := HRD.out
      rw [hdn] at hO hdn0
      rw [hhd'] at hR hd0 hdl hHD
      have hn3l : n3 ≤ hd'.length + q.length := by have := KN_len ((K : Int) - hd'.length) (hd' ++ q); rw [hk3e, hn3, List.length_append] at this; exact this
      have HD0 := Lib.hid hd0
      have HHH := Lib.hid hHD
      have HHD' := Lib.hid hhd'
      have HDN := Lib.hid hdn
      have HK3 := Lib.hid hk3e
      have HN3 := Lib.hid hn3
      have HH3 := Lib.hid hh3
      have HTK := Lib.hid htk
      have HFN := Lib.hid hfn
      have HQB := Lib.hid hqb
      have HQR := Lib.hid hqr
      have HO := Lib.hid hO
      have HRE := Lib.hid hR
      have e6 : (0 : Int) ≤ j := by omega
      have e7 : (j : Int) < M := by omega
      clear hxq hqe hsplit htk hfn hqb hr7 hxl hc7 hd0 hHD hhd' hdn hk3e hn3 hh3 hqr hO hR hjM
      go_wp2_with fail
      refine (feed_rdr p hd' _ _ Aq cq q _ rfl HRE.out HHH.out HD0.out (HQR.out.grownP (by omega) HGR.out) (by omega) HQB.out (by omega) (by omega) k3 n3 hd3 HK3.out HN3.out HH3.out).mono ?_
      rintro e w8 h
      obtain ⟨A8, c8, xs8, rfl, hown8, htok8, hr8, hg8, hc8, hm8⟩ := h.own
      have hkeep := CInv.kept hp7 HO.out hg8
      clear h
      go_wp2_with (at_builtin; refine wpList_app _ rfl _ _ 34 rfl w7.heap.size 38 i1 _ 4 48 Try.underlying34 hi1 hy0 hy1 hy2 rfl (by decide) _ _ _ rfl hkeep w8.heap.size A8 n3 c8 xs8 rfl ?c1 (Rd.own hown8) ?c2 ?c3 ?c4 ?c5 ?_)
      case c1 => exact hown8.1
      case c2 => exact htok8.one
      case c3 => simp only [maxLen]; omega
      case c4 => omega
      case c5 => exact Nat.le_trans HGR.out.size hg8.size
      intro v9 w9 hown9 hg9
      have hnext : CInv w7 p y (K + q.length) v9 w9 := by
        refine CInv.nextN (kn := k3) (m := n3) (hd := hd3) hK HTK.out hp7 HOW.out HTO.out HRD.out HGR.out ?_ HN3.out ?_ htok8 ?_ hg8 ?_ hg9
        · rw [HHD'.out]; exact HK3.out
        · rw [HHD'.out]; exact HH3.out
        · rw [HHD'.out]; exact hr8
        · rw [HDN.out]; exact hown9
      have HNX := Lib.hid hnext
      clear hown8 htok8 hr8 hg8 hkeep hown9 hg9 hnext
      go_wp2
      go_roundw
      case rel => exact ⟨j + 1, K + q.length, by omega, by go_num, hqK, HFN.out, HNX.out⟩
      case measure => simp [intOf]; omega
end Go.Proofs.Ytfhjphemeddjcaa
