/- MatchWaits: the walk. -/
import Derived.Test.YtmjcnopkckkaoaaMatE
import Derived.Test.YtmjcnopkckkaoaaMatchS
import Derived.Test.YtmjcnopkckkaoaaRuleK
import Derived.Test.YtmjcnopkckkaoaaTrieP
import Derived.Test.YtmjcnopkckkaoaaTrieQ
import Derived.Test.YtmjcnopkckkaoaaMatW
namespace Go.Proofs.Ytmjcnopkckkaoaa
set_option linter.unusedVariables false
open Go.RowKit
def slLen : Value → Nat
  | .slice _ n _ => n
  | _ => 0
theorem grown_then {wa w w' : World} {r : Option Nat} (h : wa.grownBy w r) (hb : Below wa.heap.size w w') : wa.grownBy w' r :=
  ⟨hb.os.trans h.os, hb.tape.trans h.tape, hb.output.trans h.output, Nat.le_trans h.size hb.size, fun k hk hr => (hb.block k hk).trans (h.block k hk hr)⟩
set_option maxHeartbeats 6400000 in
theorem matchWaits_any (n : Nat) (A : Option Addr) (c : Nat) (rows : List RowL) (A' : Option Addr) (c' : Nat) (zs : List Int) (w : World) (hr : RwAt w w.heap.size A n c rows) (hz : Rd w w.heap.size A' (zs.map (Value.int .u8))) (hzr : ∀ z ∈ zs, 0 ≤ z ∧ z ≤ 255) (hzc : zs.length ≤ c') (hzm : c' ≤ maxLen) :
    Calls Try.prog 4 #[.slice A n c, .slice A' zs.length c'] w fun e w' => e = .returned (.bool true) ∧ Below w.heap.size w w' := by
  obtain ⟨rs, hrs⟩ : ∃ rs, rightR (rulesR rows) = rs := ⟨_, rfl⟩
  have hck := (right_rules rows).1
  have h40 := (right_rules rows).2
  rw [hrs] at hck h40
  obtain ⟨N, hN⟩ : ∃ N, N = rs.length := ⟨_, rfl⟩
  obtain ⟨Z, hZ⟩ : ∃ Z, Z = zs.length := ⟨_, rfl⟩
  obtain ⟨us, hus⟩ : ∃ us, somM zs = us := ⟨_, rfl⟩
  obtain ⟨M, hM⟩ : ∃ M, us.length = M := ⟨_, rfl⟩
  have hM60 : M ≤ 60 := by rw [← hM, ← hus]; exact somM_len zs
  have hg := good_of hck
  rw [← hZ] at hzc ⊢
  rw [← hN] at h40
  unfold maxLen at hzm
  have HR := Lib.hid hr
  have HRS := Lib.hid hrs
  have HCK := Lib.hid hck
  have HGD := Lib.hid hg
  have HN := Lib.hid hN
  have HZ := Lib.hid hz
  have HZR := Lib.hid hzr
  have HZL := Lib.hid hZ
  have HUS := Lib.hid hus
  have HM := Lib.hid hM
  clear hr hrs hck hN hz hzr hZ hus hM hg
  go_enter Try.func4, Try.ntmps4
  go_wp2_with fail
  refine (rawake6_any _).mono ?_
  rintro e w1 ⟨rfl, hb1⟩
  have hs1 := hb1.size
  go_wp2_with fail
  refine (right_any n A c rows w1.heap.size _ (HR.out.below hb1 hs1) (Nat.le_refl _) rs HRS.out).mono ?_
  rintro e w2 ⟨v2, rfl, ho2, hb2⟩
  have hs2 := hb2.size
  obtain ⟨A2, c2, rfl, hat2⟩ := ho2.form
  rw [← HN.out] at hat2 ⊢
  have HAT2 := Lib.hid hat2
  clear ho2 hat2
  go_wp2_with fail
  refine (of_ok N A2 c2 rs w2.heap.size _ HAT2.out (Nat.le_refl _) HCK.out).mono ?_
  rintro e w3 ⟨T, rfl, ho, hb3⟩
  have hs3 := hb3.size
  have HO := Lib.hid ho
  have HAT3 := Lib.hid (HAT2.out.below hb3 hs3)
  have hbE3 : Below w.heap.size w w3 := hb1.trans ((hb2.trans (hb3.mono hs2)).mono hs1)
  have hsE := hbE3.size
  clear ho hb1 hb2 hb3
  go_wp2_with fail
  refine (mof_any w3 T).mono ?_
  rintro e w4 ⟨p, rfl, hp, hm4, hb4⟩
  have hs4 := hb4.size
  have hp4 := hm4.lt
  have HM4 := Lib.hid hm4
  have HB4 := Lib.hid hb4
  have hbE4 := hbE3.trans (hb4.mono hsE)
  have hsE4 := hbE4.size
  clear hb4 hm4
  go_wp2_with fail
  refine (some_any Z A' c' zs w.heap.size w4 HZL.out (HZ.out.below hbE4 (Nat.le_refl _)) HZR.out hsE4 (by omega) hzc us M HUS.out HM.out).mono ?_
  rintro e w5 ⟨A5, c5, rfl, hu5, hb5⟩
  have hs5 := hb5.size
  have hu5' : Us (fun b => b ≠ p) w5 (.slice A5 M c5) us := hu5.step (Nat.le_refl _) fun b _ hx => ⟨by have : w4.heap.size ≤ b := hx; omega, rfl⟩
  have HU5 := Lib.hid hu5'
  obtain ⟨q1, q2, q3, q4⟩ := hu5.rd
  have HM5 := Lib.hid (HM4.out.below hb5 hp4)
  have HB5 := Lib.hid (HB4.out.trans (hb5.mono hs4))
  have hbE5 := hbE4.trans (hb5.mono hsE4)
  have hsE5 := hbE5.size
  have hs35 : w3.heap.size ≤ w5.heap.size := by omega
  have hp5 : p < w5.heap.size := by omega
  have HO5 := Lib.hid (HO.out.below HB5.out (Nat.le_refl _))
  clear hu5 hu5' q1 q4 hb5 HM4 HB4 HO
  unfold maxLen at q3
  obtain ⟨i0, hi, hz0, HZ1, hz2⟩ := info_parts infoint
  go_wp2
  go_loopw [9, 10, 37] (fun v s i wr => ∃ (K : Nat) (q : List Int) (st : Int), K ≤ M ∧ i = .int .i64 K ∧ s = .int .i64 st ∧ Hid (MS rs us K q st) ∧ Hid (MAt wr p T q ((K : Int) - q.length) st) ∧ Hid (OwnW w5.heap.size wr v q) ∧ Hid (w5.grownBy wr (some p))) (fun _ _ i _ => M - (intOf i).toNat)
  case atStart => exact ⟨0, [], 0, by omega, rfl, rfl, MS.start _ _, HM5.out, OwnW.nil _ _, grownR _ _⟩
  case round =>
    obtain ⟨K, q, st, hK, rfl, rfl, HS, HMR, HWR, HGR⟩ := hrel
    have HUR := Lib.hid (HU5.out.past HGR.out (fun b hb => hb))
    have hsr := HGR.out.size
    by_cases hKn : K = M
    · have hK' : ¬ K < M := by omega
      have hbF := below_grownP hbE5 HGR.out (by omega) hsE5
      clear hKn
      go_wp2
      go_ret
      exact ⟨rfl, hbF⟩
    have hK' : K < M := by omega
    have hK1 : K < us.length := by rw [HM.out]; exact hK'
    obtain ⟨q1', q2', q3', q4'⟩ := HUR.out.rd
    obtain ⟨b, o, rfl, hbl, hcell⟩ := rd_ints (q4'.rd (Nat.le_refl wr.heap.size)) (by omega)
    have k1 := hcell K hK1
    obtain ⟨u, hu⟩ : ∃ u, us.getD K 0 = u := ⟨_, rfl⟩
    rw [hu] at k1
    have HUE := Lib.hid hu
    obtain ⟨⟨t2, rest, k⟩, hd⟩ : ∃ x, drain rs ((K : Int) - q.length) (q ++ [u]) = x := ⟨_, rfl⟩
    have hst := HS.out.step (ts := t2) (rest := rest) (k := k) (at_ := (K : Int) - q.length) HGD.out hK1 (by rw [hu]; exact hd)
    have hlen := HS.out.len
    have hstp := HS.out.steps
    have hq7 := opens_lt HGD.out HS.out.open_
    have HD := Lib.hid hd
    have HS2 := Lib.hid hst.1
    have hts8 := hst.2.1
    have hr7 := hst.2.2
    have hlen2 := hst.1.len
    have e4 : (0 : Int) ≤ K := by omega
    have e5 : (K : Int) < M := by omega
    have HBR := Lib.hid (below_of HGR.out hp hs35)
    clear hcell hu hd hst q1' q4'
    obtain ⟨m2, hm2⟩ : ∃ m2, t2.length = m2 := ⟨_, rfl⟩
    have HM2 := Lib.hid hm2
    obtain ⟨sT, hsT⟩ : ∃ sT : Int, sT = st + k := ⟨_, rfl⟩
    have HST := Lib.hid hsT
    rw [← hsT] at HS2
    have hsT0 : 0 ≤ sT := by omega
    have hsT1 : sT ≤ 100000 := by have := HS2.out.steps; omega
    obtain ⟨R, hR⟩ : ∃ R, rest.length = R := ⟨_, rfl⟩
    have HRL := Lib.hid hR
    have hbW : ∀ o', Below wr.heap.size wr (wr.alloc o') := fun o' => (Below.refl _ _).alloc (Nat.le_refl _) _
    have HWA := Lib.hid (show (∀ o', OwnW w5.heap.size (wr.alloc o') _ q) from fun o' => HWR.out.below (hbW o') (Nat.le_refl _))
    have HBW := Lib.hid hbW
    clear hm2 hsT hR hbW
    go_wp2_with (at_builtin; refine wpList_appW rfl _ _ 24 rfl w5.heap.size i0 _ Try.underlying24 hi hz0 HZ1 hz2 rfl _ q rfl (HWA.out _) (wr.heap.size + 1) ⟨wr.heap.size, 0, none⟩ 1 u rfl ?c1 ?c2 ?c3 ?_)
    case c1 => exact Rd_newR _ _ _ _ rfl
    case c2 => omega
    case c3 => simp; omega
    intro v6 w6 HOW6 hb6
    have hb6' : Below w5.heap.size wr w6 := ((HBW.out _).mono hsr).trans hb6
    have hs6 := hb6'.size
    have hsr3 : w3.heap.size ≤ w5.heap.size := hs35
    have HM6 := Lib.hid (HMR.out.below hb6' hp5)
    have HG6 := Lib.hid (grown_then HGR.out hb6')
    have HB36 := Lib.hid (HBR.out.trans (hb6'.mono hsr3))
    have hs36 : w3.heap.size ≤ w6.heap.size := by omega
    have hs56 : w5.heap.size ≤ w6.heap.size := by omega
    have hq8 : (q ++ [u]).length ≤ 8 := by simp; omega
    have HD1 := Lib.hid (show 0 + (drain rs ((K : Int) - q.length) (q ++ [u])).1.length = m2 by rw [HD.out, ← HM2.out]; simp)
    have HD2 := Lib.hid (show (drain rs ((K : Int) - q.length) (q ++ [u])).2.1 = rest by rw [HD.out])
    have HD3 := Lib.hid (show st + ((drain rs ((K : Int) - q.length) (q ++ [u])).2.2 : Nat) = sT by rw [HD.out, HST.out])
    obtain ⟨wo, rfl⟩ : ∃ wo : World, wo = wr := ⟨_, rfl⟩
    clear hb6 hb6' HWR HWA
    go_wp2
    go_loopw [9, 10, 13] (fun v s n wi => ∃ (q' : List Int) (a' s' : Int) (cn : Nat), s = .int .i64 s' ∧ n = .int .i64 cn ∧ cn + q'.length ≤ 8 ∧ 0 ≤ s' ∧ Hid (OwnW w5.heap.size wi v q') ∧ Hid (cn + (drain rs a' q').1.length = m2) ∧ Hid ((drain rs a' q').2.1 = rest) ∧ Hid (s' + ((drain rs a' q').2.2 : Nat) = sT) ∧ Below w6.heap.size w6 wi) (fun v _ _ _ => slLen v)
    case atStart => exact ⟨q ++ [u], (K : Int) - q.length, st, 0, rfl, rfl, by simpa using hq8, by omega, HOW6, HD1, HD2, HD3, Below.refl _ _⟩
    case round =>
      obtain ⟨q', a', s', cn, rfl, rfl, hcn, hs', HW, HD1, HD2, HD3, hbi⟩ := hrel
      obtain ⟨wi, rfl⟩ : ∃ wi : World, wi = wr := ⟨_, rfl⟩
      obtain ⟨Aw, cw, rfl, hLc, hcm, hrd⟩ := HW.out.form
      obtain ⟨L, hL⟩ : ∃ L, q'.length = L := ⟨_, rfl⟩
      rw [hL] at hLc hcn ⊢
      have HL := Lib.hid hL
      have hsT2 : s' ≤ sT := by have := HD3.out; omega
      have HRD := Lib.hid hrd
      rw [hL] at HW
      clear hL hrd
      by_cases hL0 : L = 0
      · have hq0 : q' = [] := List.eq_nil_of_length_eq_zero (by rw [HL.out]; exact hL0)
        have h1 := HD1.out
        have h2 := HD2.out
        have h3 := HD3.out
        rw [hq0, drain_nil] at h1 h2 h3
        obtain rfl : cn = m2 := by simpa using h1
        obtain rfl : s' = sT := by simpa using h3
        have h2' : rest = [] := h2.symm
        have hR0 : R = 0 := by rw [← HRL.out, h2']; rfl
        have hqr : q' = rest := by rw [hq0, h2']
        subst hL0 hR0
        rw [hqr] at HW
        have HWR := HW
        clear h1 h2 h3 h2' hq0 hqr HD1 HD2 HD3 HW
        have HB6i := Lib.hid hbi
        have HMi := Lib.hid (HM6.out.below hbi HM6.out.lt)
        have HB3i := Lib.hid (HB36.out.trans (hbi.mono hs36))
        have HGi := Lib.hid (grown_then HG6.out (hbi.mono hs56))
        have hsi := hbi.size
        clear hbi
        go_wp2_with fail
        refine (mput_any wi p T q _ st u HMi.out hq7 w3.heap.size rs (HO5.out.below HB3i.out (Nat.le_refl _)) hp (by omega) (by omega) (by omega) (by omega) t2 rest k HD.out).mono ?_
        rintro e w8 ⟨v8, rfl, ho8, hm8, hg8⟩
        obtain ⟨A8, c8, rfl, _⟩ := ho8.form
        rw [show (K : Int) - q.length + q.length + 1 - rest.length = ((K + 1 : Nat) : Int) - rest.length from by omega, ← HST.out] at hm8
        rw [HM2.out]
        have HM8 := Lib.hid hm8
        have HG8 := Lib.hid (grown_seq HGi.out hg8)
        have HW8 := Lib.hid (HWR.out.of_block fun g h1 h2 => hg8.block g h2 (fun e => by injection e with e; omega))
        clear ho8 hm8 hg8
        go_wp2_with fail
        refine (mheld_any w8 p T _ _ _ HM8.out _ HRL.out).mono ?_
        rintro e w' ⟨rfl, rfl⟩
        go_wp2_with fail
        refine (msteps_any w8 p T _ _ _ HM8.out).mono ?_
        rintro e w' ⟨rfl, rfl⟩
        go_wp2
        go_roundw
        case rel => exact ⟨K + 1, rest, _, by omega, by go_num, rfl, HS2, HM8, HW8, HG8⟩
        case measure => simp [intOf]; omega
      have hL1 : 1 ≤ L := by omega
      have hne : q' ≠ [] := by intro e; have := HL.out; rw [e] at this; simp at this; omega
      obtain ⟨k1, l1, o1, hlo, _⟩ := HGD.out.long q'
      have HLO := Lib.hid hlo
      have HNE := Lib.hid hne
      have HB3w := Lib.hid (HB36.out.trans (hbi.mono hs36))
      have hsi3 := hbi.size
      have hgt : 0 < L := by omega
      clear hlo hne hL0
      go_wp2_with fail
      refine (llongest_any N L A2 Aw c2 cw rs q' w3.heap.size wi.heap.size wi (HAT3.out.below (HB5.out.trans HB3w.out) (Nat.le_refl _)) HL.out.symm HRD.out hLc hcm (by omega) (Nat.le_refl _) k1 l1 o1 HLO.out).mono ?_
      rintro en w8 ⟨rfl, hb8⟩
      cases o1 with
      | true =>
        have h1 := HD1.out
        have h2 := HD2.out
        have h3 := HD3.out
        rw [drain_open HNE.out (by unfold opens; rw [HLO.out])] at h1 h2 h3
        obtain rfl : cn = m2 := by simpa using h1
        have h3' : s' + L = sT := by rw [← h3, HL.out]
        have hR0 : R = L := by rw [← HRL.out, ← h2, HL.out]
        have HWR := Lib.hid (show OwnW w5.heap.size w8 (.slice Aw L cw) rest by rw [← h2]; exact HW.out.below hb8 (Nat.le_refl _))
        subst hR0
        have hbi8 := hbi.trans (hb8.mono hbi.size)
        obtain ⟨wj, rfl⟩ : ∃ wj : World, wj = wi := ⟨_, rfl⟩
        obtain ⟨wi, rfl⟩ : ∃ wi : World, wi = w8 := ⟨_, rfl⟩
        have hbi := hbi8
        clear h1 h2 h3 HD1 HD2 HD3 HW hb8 hbi8
        have HB6i := Lib.hid hbi
        have HMi := Lib.hid (HM6.out.below hbi HM6.out.lt)
        have HB3i := Lib.hid (HB36.out.trans (hbi.mono hs36))
        have HGi := Lib.hid (grown_then HG6.out (hbi.mono hs56))
        have hsi := hbi.size
        clear hbi
        go_wp2_with fail
        refine (mput_any wi p T q _ st u HMi.out hq7 w3.heap.size rs (HO5.out.below HB3i.out (Nat.le_refl _)) hp (by omega) (by omega) (by omega) (by omega) t2 rest k HD.out).mono ?_
        rintro e w8 ⟨v8, rfl, ho8, hm8, hg8⟩
        obtain ⟨A8, c8, rfl, _⟩ := ho8.form
        rw [show (K : Int) - q.length + q.length + 1 - rest.length = ((K + 1 : Nat) : Int) - rest.length from by omega, ← HST.out] at hm8
        rw [HM2.out]
        have HM8 := Lib.hid hm8
        have HG8 := Lib.hid (grown_seq HGi.out hg8)
        have HW8 := Lib.hid (HWR.out.of_block fun g h1 h2 => hg8.block g h2 (fun e => by injection e with e; omega))
        clear ho8 hm8 hg8
        go_wp2_with fail
        refine (mheld_any w8 p T _ _ _ HM8.out _ HRL.out).mono ?_
        rintro e w' ⟨rfl, rfl⟩
        go_wp2_with fail
        refine (msteps_any w8 p T _ _ _ HM8.out).mono ?_
        rintro e w' ⟨rfl, rfl⟩
        go_wp2
        go_roundw
        case rel => exact ⟨K + 1, rest, _, by omega, by go_num, rfl, HS2, HM8, HW8, HG8⟩
        case measure => simp [intOf]; omega
      | false =>
        obtain ⟨s, x, o1', hst, hsp⟩ := HGD.out.stepP HNE.out
        obtain ⟨n, rfl⟩ : ∃ n : Nat, s = n := ⟨s.toNat, by have := hsp.lo; omega⟩
        have hn1 : 1 ≤ n := by have := hsp.lo; omega
        have hn2 : n ≤ L := by have := hsp.hi; rw [HL.out] at this; omega
        have hstep := HGD.out.step HLO.out
        have hstepN := HGD.out.stepN HLO.out
        rw [hst] at hstep hstepN
        have hcons := drain_cons (at_ := a') HNE.out (by unfold opens; rw [HLO.out]) hst (by omega)
        rw [HL.out, show ((n : Nat) : Int).toNat = n from by omega] at hcons
        have hr1 := HD1.out
        have hr2 := HD2.out
        have hr3 := HD3.out
        rw [hcons] at hr1 hr2 hr3
        have hr1' : cn + 1 + (drain rs (a' + n) (q'.drop n)).1.length = m2 := by rw [← hr1]; simp only [List.length_cons]; omega
        have hr3' : s' + L + (drain rs (a' + n) (q'.drop n)).2.2 = sT := by simp only [Int.natCast_add] at hr3; omega
        have HR1 := Lib.hid hr1'
        have HR2 := Lib.hid hr2
        have HR3 := Lib.hid hr3'
        have HDL := Lib.hid (show (q'.drop n).length = L - n by rw [List.length_drop, HL.out])
        obtain ⟨ad, hsl, hdr⟩ := HW.out.drop n hn2 hLc hcm hn1
        have HDR := Lib.hid (hdr.below hb8 (Nat.le_refl _))
        have HB8 := Lib.hid (hbi.trans (hb8.mono hbi.size))
        clear hst hcons hr1 hr2 hr3 hr1' hr3' hdr hbi hb8 HD1 HD2 HD3
        have hun : L - n + n = L := by omega
        have hms : slLen (.slice ad (L - n) (cw - n)) < slLen (.slice Aw L cw) := by simp [slLen]; omega
        have HMS := Lib.hid hms
        clear hms hun
        by_cases hk : k1 < 0
        · have he := hstepN hk
          injection he with e1 _
          obtain rfl : n = 1 := by omega
          rw [show ((1 : Nat) : Int) = 1 from rfl] at hsl
          have hd : decide (k1 < 0) = true := by simpa using hk
          clear hstep hstepN hsp e1 hk
          go_wp2
          go_roundw
          case rel => exact ⟨q'.drop 1, a' + (1 : Nat), s' + L, cn + 1, by go_num, by go_num, by rw [HDL.out]; omega, by omega, HDR, HR1, HR2, HR3, HB8.out⟩
          case measure => exact HMS.out
        · rcases hstep with ⟨h1, _⟩ | ⟨m1, h1, h2, h3, h4, K1, h5, hK5, h6, h7⟩
          · exact absurd h1 hk
          injection h7 with e1 h7
          obtain rfl : l1 = n := e1.symm
          have hd : decide (k1 < 0) = false := by simpa using hk
          clear hstepN hsp hk h1 h2 h3 h4 h5 hK5 h6 h7 e1
          go_wp2
          go_roundw
          case rel => exact ⟨q'.drop n, a' + n, s' + L, cn + 1, by go_num, by go_num, by rw [HDL.out]; omega, by omega, HDR, HR1, HR2, HR3, HB8.out⟩
          case measure => exact HMS.out
end Go.Proofs.Ytmjcnopkckkaoaa
