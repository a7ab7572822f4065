/- TrieSteps: the walk. -/
import Derived.Test.YtpapemiphigfdaaTrieQ
namespace Go.Proofs.Ytpapemiphigfdaa
set_option linter.unusedVariables false
open Go.RowKit
set_option maxRecDepth 100000 in
set_option maxHeartbeats 12800000 in
theorem trieSteps_any (n : Nat) (A : Option Addr) (c : Nat) (rows : List RowL) (A' : Option Addr) (c' : Nat) (zs : List Int) (q : Int) (w : World) (hr : RwAt w w.heap.size A n c rows) (hq : -9223372036854775808 ≤ q ∧ q ≤ 9223372036854775807) :
    Calls Try.prog 5 #[.slice A n c, .slice A' zs.length c', .int .i64 q] w fun e w' => e = .returned (.bool true) ∧ Below w.heap.size w w' := by
  obtain ⟨rs, hrs⟩ : ∃ rs, rightR (rulesR rows) = rs := ⟨_, rfl⟩
  have hck := (right_rules rows).1
  have h40 := (right_rules rows).2
  rw [hrs] at hck h40
  obtain ⟨N, hN⟩ : ∃ N, N = rs.length := ⟨_, rfl⟩
  obtain ⟨Z, hZ⟩ : ∃ Z, Z = zs.length := ⟨_, rfl⟩
  rw [← hZ]
  rw [← hN] at h40
  have HR := Lib.hid hr
  have HRS := Lib.hid hrs
  have HCK := Lib.hid hck
  have HG := Lib.hid (good_of hck)
  have HN := Lib.hid hN
  clear hr hrs hck hN hZ
  go_enter Try.func5, Try.ntmps5
  go_wp2_with fail
  refine (tawake_any _).mono ?_
  rintro e w1 ⟨rfl, hb1⟩
  have hs1 := hb1.size
  go_wp2_with fail
  refine (right_any n A c rows w1.heap.size _ (HR.out.below hb1 hs1) (Nat.le_refl _) rs HRS.out).mono ?_
  rintro e w2 ⟨v2, rfl, ho2, hb2⟩
  have hs2 := hb2.size
  obtain ⟨A2, c2, rfl, hat2⟩ := ho2.form
  rw [← HN.out] at hat2 ⊢
  have HAT2 := Lib.hid hat2
  have hc2 := hat2.fits
  clear ho2 hat2
  go_wp2_with fail
  refine (of_good N A2 c2 rs w2.heap.size _ HAT2.out (Nat.le_refl _) HCK.out).mono ?_
  rintro e w3 ⟨T, ns, nV, oV, xs, ys, V, rfl, ho, ht, hb3⟩
  have hs3 := hb3.size
  have HTR := Lib.hid ho.at
  have HT := Lib.hid ht
  have HAT3 := Lib.hid (HAT2.out.below hb3 hs3)
  have hbE3 : Below w.heap.size w w3 := hb1.trans ((hb2.trans (hb3.mono hs2)).mono hs1)
  have hsE := hbE3.size
  obtain ⟨P, hPe⟩ : ∃ P, P = pathsR rs := ⟨_, rfl⟩
  have HPe := Lib.hid hPe
  have hP5 : P.length ≤ 5000 := by rw [hPe]; exact paths_le HG.out
  have HTP : Hid (TI P ns (findR rs)) := by rw [hPe]; exact ht
  obtain ⟨Nn, hNn⟩ : ∃ Nn, Nn = ns.length := ⟨_, rfl⟩
  have hNP : Nn = P.length := by rw [hNn, HTP.out.len]
  have HNn := Lib.hid hNn
  have HNP := Lib.hid hNP
  have hNn5 : Nn ≤ 5000 := by rw [hNP]; exact hP5
  have HOL : Hid (∀ o ∈ rs.map (·.2), o.length ≤ 17592186044416) := by
    show ∀ o ∈ rs.map (·.2), o.length ≤ 17592186044416
    intro o ho
    obtain ⟨r, hr, rfl⟩ := List.mem_map.1 ho
    have := (HG.out.side r hr).2.2.2.1
    omega
  have HON : Hid ((if 0 ≤ (N : Int) ∧ (N : Int) < (rs.map (·.2)).length then (rs.map (·.2)).getD (N : Int).toNat [] else []) = []) := by
    show _ = _
    rw [if_neg (by have := HN.out; simp; omega)]
  have hroot : [] ∈ P := List.mem_of_getElem? HTP.out.root
  have hi0 : idxP P [] = 0 := idxP_of HTP.out.nodup HTP.out.root
  have hn0 : 0 < ns.length := by rw [HTP.out.len]; exact lt_of_some HTP.out.root
  obtain ⟨nd0, hnd0⟩ : ∃ nd0, ns[0]? = some nd0 := ⟨_, List.getElem?_eq_getElem hn0⟩
  have hr0 : nd0.rule = -1 := by
    rw [(HTP.out.node 0 nd0 [] hnd0 HTP.out.root).rule]
    have h := (findR_neg (rs := rs) (u := [])).2 (fun r hr e => by have := (HG.out.side r hr).1; rw [e] at this; simp at this)
    have := (findR_lo rs []).1
    omega
  have HN0 := Lib.hid hnd0
  have HR0 := Lib.hid hr0
  have HI0 := Lib.hid hi0
  have HRT := Lib.hid hroot
  clear ho ht hb1 hb2 hb3 hPe hNn hNP hP5 hroot hi0 hn0 hnd0 hr0
  go_wp2
  go_loopw [36] (fun i wr => ∃ (K : Nat), K ≤ N ∧ i = .int .i64 K ∧ Below w3.heap.size w3 wr) (fun i _ => N - (intOf i).toNat)
  case atStart => exact ⟨0, by omega, rfl, Below.refl _ _⟩
  case round =>
    obtain ⟨K, hK, rfl, hb⟩ := hrel
    have hsz := hb.size
    by_cases hKn : K = N
    · have hK' : ¬ K < N := by omega
      clear hKn
      by_cases hq0 : 0 ≤ q
      · have hd0 : decide (q ≥ 0) = true := by simp; omega
        by_cases hq1 : q < Nn
        · have hd1 : decide (q < (Nn : Int)) = true := by simp; omega
          have hout : Hid (¬ (0 ≤ q + (Nn : Int) ∧ q + (Nn : Int) < ns.length)) := by show ¬ _; rw [← HNn.out]; omega
          go_wp2_with fail
          refine (size_any wr w3.heap.size T ns _ (HTR.out.below hb (Nat.le_refl _)) Nn HNn.out.symm).mono ?_
          rintro e w4 ⟨rfl, rfl⟩
          obtain ⟨wr, rfl⟩ : ∃ wr : World, wr = w4 := ⟨_, rfl⟩
          go_wp2_with fail
          refine (size_any wr w3.heap.size T ns _ (HTR.out.below hb (Nat.le_refl _)) Nn HNn.out.symm).mono ?_
          rintro e w5 ⟨rfl, rfl⟩
          obtain ⟨wr, rfl⟩ : ∃ wr : World, wr = w5 := ⟨_, rfl⟩
          go_wp2_with fail
          refine (step_out wr w3.heap.size T ns _ (HTR.out.below hb (Nat.le_refl _)) (q + (Nn : Int)) 97 hout.out).mono ?_
          rintro e w6 ⟨rfl, hb6⟩
          have hb36 := hb.trans (hb6.mono hsz)
          have hs6 := hb36.size
          clear hb6
          go_wp2_with fail
          refine (rule_out w6 w3.heap.size T ns _ (HTR.out.below hb36 (Nat.le_refl _)) (q + (Nn : Int)) hout.out).mono ?_
          rintro e w7 ⟨rfl, rfl⟩
          go_wp2_with fail
          refine (leaf_out w7 w3.heap.size T ns _ (HTR.out.below hb36 (Nat.le_refl _)) (q + (Nn : Int)) hout.out).mono ?_
          rintro e w8 ⟨rfl, rfl⟩
          go_wp2_with fail
          refine (out_any w8 w3.heap.size T ns _ (HTR.out.below hb36 (Nat.le_refl _)) (by omega) HOL.out (N : Int) [] HON.out).mono ?_
          rintro e w9 ⟨A9, c9, rfl, hu9, hb9⟩
          have hb39 := hb36.trans (hb9.mono hs6)
          have hs9 := hb39.size
          clear hb9 hu9
          go_wp2_with fail
          refine (out_any w9 w3.heap.size T ns _ (HTR.out.below hb39 (Nat.le_refl _)) (by omega) HOL.out (-1) [] (by rw [if_neg (by omega)])).mono ?_
          rintro e w10 ⟨A10, c10, rfl, hu10, hb10⟩
          have hb310 := hb39.trans (hb10.mono hs9)
          clear hb10 hu10
          go_wp2_with fail
          refine (rule_at w10 w3.heap.size T ns _ (HTR.out.below hb310 (Nat.le_refl _)) 0 nd0 HN0.out (-1) HR0.out).mono ?_
          rintro e w11 ⟨rfl, rfl⟩
          have hbE := hbE3.trans (hb310.mono hsE)
          go_wp2
          go_ret
          exact ⟨rfl, hbE⟩
        · have hd1 : decide (q < (Nn : Int)) = false := by simp; omega
          have hout : Hid (¬ (0 ≤ q ∧ q < ns.length)) := by show ¬ _; rw [← HNn.out]; omega
          go_wp2_with fail
          refine (size_any wr w3.heap.size T ns _ (HTR.out.below hb (Nat.le_refl _)) Nn HNn.out.symm).mono ?_
          rintro e w4 ⟨rfl, rfl⟩
          obtain ⟨wr, rfl⟩ : ∃ wr : World, wr = w4 := ⟨_, rfl⟩
          go_wp2_with fail
          refine (step_out wr w3.heap.size T ns _ (HTR.out.below hb (Nat.le_refl _)) q 97 hout.out).mono ?_
          rintro e w6 ⟨rfl, hb6⟩
          have hb36 := hb.trans (hb6.mono hsz)
          have hs6 := hb36.size
          clear hb6
          go_wp2_with fail
          refine (rule_out w6 w3.heap.size T ns _ (HTR.out.below hb36 (Nat.le_refl _)) q hout.out).mono ?_
          rintro e w7 ⟨rfl, rfl⟩
          go_wp2_with fail
          refine (leaf_out w7 w3.heap.size T ns _ (HTR.out.below hb36 (Nat.le_refl _)) q hout.out).mono ?_
          rintro e w8 ⟨rfl, rfl⟩
          go_wp2_with fail
          refine (out_any w8 w3.heap.size T ns _ (HTR.out.below hb36 (Nat.le_refl _)) (by omega) HOL.out (N : Int) [] HON.out).mono ?_
          rintro e w9 ⟨A9, c9, rfl, hu9, hb9⟩
          have hb39 := hb36.trans (hb9.mono hs6)
          have hs9 := hb39.size
          clear hb9 hu9
          go_wp2_with fail
          refine (out_any w9 w3.heap.size T ns _ (HTR.out.below hb39 (Nat.le_refl _)) (by omega) HOL.out (-1) [] (by rw [if_neg (by omega)])).mono ?_
          rintro e w10 ⟨A10, c10, rfl, hu10, hb10⟩
          have hb310 := hb39.trans (hb10.mono hs9)
          clear hb10 hu10
          go_wp2_with fail
          refine (rule_at w10 w3.heap.size T ns _ (HTR.out.below hb310 (Nat.le_refl _)) 0 nd0 HN0.out (-1) HR0.out).mono ?_
          rintro e w11 ⟨rfl, rfl⟩
          have hbE := hbE3.trans (hb310.mono hsE)
          go_wp2
          go_ret
          exact ⟨rfl, hbE⟩
      · have hd0 : decide (q ≥ 0) = false := by simp; omega
        have hout : Hid (¬ (0 ≤ q ∧ q < ns.length)) := by show ¬ _; omega
        go_wp2_with fail
        refine (step_out wr w3.heap.size T ns _ (HTR.out.below hb (Nat.le_refl _)) q 97 hout.out).mono ?_
        rintro e w6 ⟨rfl, hb6⟩
        have hb36 := hb.trans (hb6.mono hsz)
        have hs6 := hb36.size
        clear hb6
        go_wp2_with fail
        refine (rule_out w6 w3.heap.size T ns _ (HTR.out.below hb36 (Nat.le_refl _)) q hout.out).mono ?_
        rintro e w7 ⟨rfl, rfl⟩
        go_wp2_with fail
        refine (leaf_out w7 w3.heap.size T ns _ (HTR.out.below hb36 (Nat.le_refl _)) q hout.out).mono ?_
        rintro e w8 ⟨rfl, rfl⟩
        go_wp2_with fail
        refine (out_any w8 w3.heap.size T ns _ (HTR.out.below hb36 (Nat.le_refl _)) (by omega) HOL.out (N : Int) [] HON.out).mono ?_
        rintro e w9 ⟨A9, c9, rfl, hu9, hb9⟩
        have hb39 := hb36.trans (hb9.mono hs6)
        have hs9 := hb39.size
        clear hb9 hu9
        go_wp2_with fail
        refine (out_any w9 w3.heap.size T ns _ (HTR.out.below hb39 (Nat.le_refl _)) (by omega) HOL.out (-1) [] (by rw [if_neg (by omega)])).mono ?_
        rintro e w10 ⟨A10, c10, rfl, hu10, hb10⟩
        have hb310 := hb39.trans (hb10.mono hs9)
        clear hb10 hu10
        go_wp2_with fail
        refine (rule_at w10 w3.heap.size T ns _ (HTR.out.below hb310 (Nat.le_refl _)) 0 nd0 HN0.out (-1) HR0.out).mono ?_
        rintro e w11 ⟨rfl, rfl⟩
        have hbE := hbE3.trans (hb310.mono hsE)
        go_wp2
        go_ret
        exact ⟨rfl, hbE⟩
    have hK' : K < N := by omega
    have hK1 : K < rs.length := by rw [← HN.out]; exact hK'
    have hsd := HG.out.side _ (List.getElem_mem hK1)
    obtain ⟨b, of2, rfl, hbB, A1, n1, c1, A3, n3, c3, g1, g2, e1, e2, e3, e4, f1, f2, f3, f4⟩ := HAT3.out.at hK1
    have k1 := (hb.cell (p := ⟨b, of2 + K * 2, none⟩) (by show b < _; omega)).trans g1
    have k2 := (hb.cell (p := ⟨b, of2 + K * 2 + 1, none⟩) (by show b < _; omega)).trans g2
    have k3 : (0 : Int) ≤ K := by omega
    have k4 : (K : Int) < N := by omega
    have hl1 : n1 ≤ 8 := by rw [e1]; exact hsd.2.1
    have hl2 : n3 ≤ 8 := by rw [f1]; exact hsd.2.2.2.1
    obtain ⟨In, hIn⟩ : ∃ In, In = rs[K].1 := ⟨_, rfl⟩
    obtain ⟨Out, hOut⟩ : ∃ Out, Out = rs[K].2 := ⟨_, rfl⟩
    rw [← hIn] at e1 e4
    rw [← hOut] at f1 f4
    have HIn := Lib.hid hIn
    have HOut := Lib.hid hOut
    have E1 := Lib.hid e1
    have E4 := Lib.hid e4
    have F1 := Lib.hid f1
    have F4 := Lib.hid f4
    have hpath : ∀ j, j ≤ n1 → In.take j ∈ P := by
      intro j hj
      by_cases h0 : j = 0
      · subst h0; rw [List.take_zero]; exact HRT.out
      · rw [HPe.out, hIn]; exact take_path (List.getElem_mem hK1) (by omega) (by rw [← hIn, ← e1]; exact hj)
    have hself : findR rs In = K := by rw [hIn]; exact HG.out.self hK1
    have HPA := Lib.hid hpath
    have HSELF := Lib.hid hself
    obtain ⟨g8, hg8⟩ : ∃ g8, g8 = wr.heap.size := ⟨_, rfl⟩
    have HG8 := Lib.hid hg8
    obtain ⟨wo, rfl⟩ : ∃ wo : World, wo = wr := ⟨_, rfl⟩
    have hsW : Below wo.heap.size wo (wo.alloc (.cells #[.slice A1 n1 c1, .slice A3 n3 c3] 41)) := (Below.refl _ _).alloc (Nat.le_refl _) _
    have HSW := Lib.hid hsW
    have hqq : (wo.alloc (.cells #[.slice A1 n1 c1, .slice A3 n3 c3] 41)).heap[wo.heap.size]? = some (.cells #[.slice A1 n1 c1, .slice A3 n3 c3] 41 (0, 0)) := heap_alloc_new wo _
    have HQ := Lib.hid hqq
    unfold maxLen at e3 f3
    clear g1 g2 e1 e4 f1 f4 hsd hIn hOut hpath hself hsW hqq hg8 hKn
    go_wp2
    rw [← HG8.out]
    go_loopw [12, 44] (fun s i wr => ∃ (J : Nat), J ≤ n1 ∧ i = .int .i64 J ∧ s = .int .i64 (idxP P (In.take J) : Nat) ∧ Below w3.heap.size w3 wr ∧ Hid (wr.heap[g8]? = some (.cells #[.slice A1 n1 c1, .slice A3 n3 c3] 41 (0, 0)))) (fun _ i _ => n1 - (intOf i).toNat)
    case atStart => exact ⟨0, by omega, rfl, by rw [List.take_zero, HI0.out]; rfl, hb.trans (HSW.out.mono hsz), by rw [HG8.out]; exact HQ⟩
    case round =>
      obtain ⟨J, hJ, rfl, rfl, hb', hq'⟩ := hrel
      have hsz' := hb'.size
      have hg8l := heap_lt0 hq'.out
      obtain ⟨ka, hka⟩ : ∃ ka, ka = idxP P (In.take J) := ⟨_, rfl⟩
      have hkx : P[ka]? = some (In.take J) := by rw [hka]; exact (idxP_lt (HPA.out J hJ)).2
      have hkal : ka < ns.length := by rw [HTP.out.len]; exact lt_of_some hkx
      obtain ⟨nd, hnd⟩ : ∃ nd, ns[ka]? = some nd := ⟨_, List.getElem?_eq_getElem hkal⟩
      have hni := HTP.out.node ka nd _ hnd hkx
      rw [← hka]
      have HKX := Lib.hid hkx
      have HND := Lib.hid hnd
      have HNI := Lib.hid hni
      by_cases hJn : J = n1
      · have hJ' : ¬ J < n1 := by omega
        have hall : In.take J = In := List.take_of_length_le (by rw [← E1.out]; omega)
        have hrk : nd.rule = K := by rw [hni.rule, hall]; exact HSELF.out
        have HRK := Lib.hid hrk
        have x2 : wr.cell? ⟨g8, 1, none⟩ = some (.slice A3 n3 c3) := by rw [cell_of_row _ _ _ _ _ _ hq'.out]; rfl
        have X2 := Lib.hid x2
        have hou : (if 0 ≤ (K : Int) ∧ (K : Int) < (rs.map (·.2)).length then (rs.map (·.2)).getD (K : Int).toNat [] else []) = Out := by
          rw [if_pos (by simp; omega), HOut.out]
          simp [List.getD_eq_getElem?_getD, hK1]
        have HOU := Lib.hid hou
        have hd : decide ((K : Int) ≠ K) = false := by simp
        clear hJn hall hkx hkal hnd hni hka hrk x2 hou
        go_wp2_with fail
        refine wp_region_mixe (G := SameB g8) [(0, false), (1, false), (3, false), (2, true), (4, false), (5, false), (6, false), (7, false), (9, false), (10, false), (8, true), (11, true), (12, false), (13, false)]
          (SameB.refl _) (SameB.trans _) (by kernel_rfl) rfl (by kernel_rfl) (by kernel_rfl) ?_
        iterate 3 (refine mixe_one rfl rfl ?_; go_big_quiet_step ((intro _; rfl)); refine wpQuiet_nil ?_)
        refine mixe_call rfl ?_
        go_wp2_with fail
        refine (rule_at wr.drew w3.heap.size T ns _ (HTR.out.below hb'.drew (Nat.le_refl _)) ka nd HND.out K HRK.out).mono ?_
        rintro e w6 ⟨rfl, rfl⟩
        go_wp2_with fail
        refine ⟨SameB.refl _ _, ?_⟩
        iterate 5 (refine mixe_one rfl rfl ?_; go_big_quiet_step ((intro _; rfl)); refine wpQuiet_nil ?_)
        refine mixe_one rfl rfl ?_
        go_big_quiet_step ((intro hh; rw [hh.cell, World.cell?_drew, X2.out]; exact ⟨rfl, rfl⟩))
        refine wpQuiet_nil ?_
        refine mixe_call rfl ?_
        go_wp2_with fail
        refine (out_any wr.drew w3.heap.size T ns _ (HTR.out.below hb'.drew (Nat.le_refl _)) (by show w3.heap.size ≤ wr.heap.size; omega) HOL.out (K : Int) Out HOU.out).mono ?_
        rintro e w7 ⟨A9, c9, rfl, hu9, hb9⟩
        obtain ⟨r1, r2, r3, r4⟩ := hu9.rd
        have hb9' : Below wr.heap.size wr w7 := (Below.refl _ _).drew.trans hb9
        have hb39 := hb'.trans (hb9'.mono hsz')
        have hs9 := hb39.size
        have HU9 := Lib.hid (r4.rd (Nat.le_refl w7.heap.size))
        have HB9 := Lib.hid hb9'
        have hlo : Out.length = n3 := F1.out.symm
        have HLO := Lib.hid hlo
        clear hu9 r1 r4 hb9' hlo
        go_wp2_with fail
        refine ⟨SameB.of hb9 (by show g8 < wr.heap.size; omega), ?_⟩
        clear hb9
        refine mixe_call rfl ?_
        go_wp2_with fail
        refine (units_v Out.length n3 A9 A3 c9 c3 Out Out w7.heap.size w3.heap.size w7 true (eqB_t rfl) rfl F1.out HU9.out (F4.out.below hb39 (Nat.le_refl _)) (by rw [HLO.out]; omega)).mono ?_
        rintro e w8 ⟨rfl, m8, rfl⟩
        go_wp2_with fail
        refine ⟨SameB.of (below_dr (Below.refl w7.heap.size w7) m8) (by have := HB9.out.size; omega), ?_⟩
        iterate 2 (refine mixe_one rfl rfl ?_; go_big_quiet_step ((intro _; rfl)); refine wpQuiet_nil ?_)
        refine NoPanic.normal ?_
        have hbE := below_dr hb39 m8
        go_wp2
        exact ⟨⟨K + 1, by omega, by go_num, hbE⟩, by simp [intOf]; omega⟩
      · have hJ' : J < n1 := by omega
        have hJ1 : J < In.length := by rw [← E1.out]; exact hJ'
        obtain ⟨b1, o1, rfl, hb1B, hcell⟩ := rd_ints E4.out (by omega)
        have hc := (hb'.cell (p := ⟨b1, o1 + J, none⟩) (by show b1 < _; omega)).trans (hcell J hJ1)
        have hgd : In.getD J 0 = In[J] := by simp [List.getD_eq_getElem?_getD, hJ1]
        obtain ⟨u, hu⟩ : ∃ u, u = In[J] := ⟨_, rfl⟩
        rw [hgd, ← hu] at hc
        have hxu : In.take J ++ [u] = In.take (J + 1) := by rw [hu, List.take_succ_eq_append_getElem hJ1]
        have hin : In.take J ++ [u] ∈ P := by rw [hxu]; exact HPA.out _ (by omega)
        obtain ⟨m, hm⟩ : ∃ m, m = idxP P (In.take (J + 1)) := ⟨_, rfl⟩
        have hmx : P[m]? = some (In.take (J + 1)) := by rw [hm]; exact (idxP_lt (HPA.out _ (by omega))).2
        have hmN : m < Nn := by rw [HNP.out]; exact lt_of_some hmx
        have hm0 : 0 < m := by
          rcases Nat.eq_zero_or_pos m with h | h
          · rw [h, HTP.out.root] at hmx
            injection hmx with hmx
            have := congrArg List.length hmx
            rw [List.length_take, List.length_nil] at this
            omega
          · exact h
        have hlf : decide (nd.units.length = 0) = false := by
          have hmem := (hni.units u).2 hin
          refine decide_eq_false fun e => ?_
          rw [List.eq_nil_of_length_eq_zero e] at hmem; cases hmem
        have HLF := Lib.hid hlf
        have HM := Lib.hid hm
        have k5 : (0 : Int) ≤ J := by omega
        have k6 : (J : Int) < n1 := by omega
        have hd1 : decide ((m : Int) ≤ 0) = false := by simp; omega
        have hd2 : decide ((m : Int) ≥ (Nn : Int)) = false := by simp; omega
        have hst : (if In.take J ++ [u] ∈ P then idxP P (In.take J ++ [u]) else 0) = m := by rw [if_pos hin, hxu, hm]
        have hst2 : decide (In.take J ++ [u] ∈ P) = true := by simpa using hin
        have HST := Lib.hid hst
        have HST2 := Lib.hid hst2
        clear hcell hgd hu hka hkx hJn hxu hin hm hmx hlf hst hst2 hnd hni hkal
        go_wp2_with fail
        refine (step_at wr w3.heap.size T P (findR rs) ns _ (HTR.out.below hb' (Nat.le_refl _)) HTP.out hsz' ka (In.take J) HKX.out u m true HST2.out HST.out (by rw [← HNP.out]; exact hNn5)).mono ?_
        rintro e w6 ⟨rfl, hb6⟩
        have hb36 := hb'.trans (hb6.mono hsz')
        have hq6 : Hid (w6.heap[g8]? = some (.cells #[.slice (some ⟨b1, o1, none⟩) n1 c1, .slice A3 n3 c3] 41 (0, 0))) := (hb6.block g8 hg8l).trans hq'.out
        clear hb6
        go_wp2_with fail
        refine (size_any w6 w3.heap.size T ns _ (HTR.out.below hb36 (Nat.le_refl _)) Nn HNn.out.symm).mono ?_
        rintro e w7 ⟨rfl, rfl⟩
        go_wp2_with fail
        refine (leaf_at w7 w3.heap.size T ns _ (HTR.out.below hb36 (Nat.le_refl _)) ka nd HND.out false HLF.out).mono ?_
        rintro e w8 ⟨rfl, rfl⟩
        go_wp2
        go_roundw
        case rel => exact ⟨J + 1, by omega, by go_num, by rw [← HM.out], hb36, hq6⟩
        case measure => simp [intOf]; omega
end Go.Proofs.Ytpapemiphigfdaa
