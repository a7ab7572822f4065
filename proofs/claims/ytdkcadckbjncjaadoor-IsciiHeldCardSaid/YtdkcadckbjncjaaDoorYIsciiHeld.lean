/- IsciiHeld: the walk. -/
import Derived.Test.YtdkcadckbjncjaaDoorZ27
import Derived.Test.YtdkcadckbjncjaaDoorZ24
import Derived.Handy
namespace Go.Proofs.YtdkcadckbjncjaaDoor
set_option linter.unusedVariables false
set_option linter.unusedSimpArgs false
set_option linter.unnecessarySimpa false
open Go.RowKit
set_option maxRecDepth 100000 in
set_option maxHeartbeats 12800000 in
theorem isciiHeld_any (I : IsApi) (A : Option Addr) (c : Nat) (zs : List Int) (w : World) (hI : I.OK w) (hz : Rd w w.heap.size A (zs.map (Value.int .u8))) (hzr : ∀ z ∈ zs, 0 ≤ z ∧ z ≤ 255) (hzc : zs.length ≤ c) (hzm : c ≤ maxLen) :
    Calls Tryd.prog 7 #[.slice A zs.length c] w fun e w' => e = .returned (.bool true) ∧ Below w.heap.size w w' := by
  obtain ⟨Z, hZ⟩ : ∃ Z, Z = zs.length := ⟨_, rfl⟩
  rw [← hZ] at hzc ⊢
  have HI := Lib.hid hI
  have HZ := Lib.hid hz
  have HZR := Lib.hid hzr
  have HZM := Lib.hid hzm
  have HZL := Lib.hid hZ
  clear hI hz hzr hzm hZ
  go_enter Tryd.func7, Tryd.ntmps7
  go_wp2_with fail
  refine (awake18_any I w HI.out).mono ?_
  rintro e w1 ⟨rfl, hb1⟩
  have HI1 := Lib.hid (I.keep HI.out hb1)
  have HB1 := Lib.hid hb1
  have hs1 := hb1.size
  clear hb1
  go_wp2_with fail
  refine (I.encode w1 HI1.out).mono ?_
  rintro e w2 ⟨pe, Fe, rfl, hE2, hfe1, hb2⟩
  have HI2 := Lib.hid (I.keep HI1.out hb2)
  have HE2 := Lib.hid hE2
  have HB2 := Lib.hid (HB1.out.trans (hb2.mono hs1))
  have hs2 := hb2.size
  have HE2K := HE2
  clear hE2 hb2
  go_wp2_with fail
  refine (I.decode w2 HI2.out).mono ?_
  rintro e w3 ⟨pd, Fd, rfl, hD3, hfd1, hb3⟩
  have hs3 := hb3.size
  have HI3 := Lib.hid (I.keep HI2.out hb3)
  have HD3 := Lib.hid hD3
  have HD3K := HD3
  have HE3 := Lib.hid (eBelow HE2.out hb3)
  have HB3 := Lib.hid (HB2.out.trans (hb3.mono (by omega)))
  clear hD3 hb3 HE2
  obtain ⟨us, hus⟩ : ∃ us, bytesI zs = us := ⟨_, rfl⟩
  obtain ⟨ss, hss⟩ : ∃ ss, scalarsI zs = ss := ⟨_, rfl⟩
  have hul : us.length ≤ 120 := by rw [← hus]; exact bytesI_len zs
  have hsl : ss.length ≤ 60 := by rw [← hss]; exact scalarsI_len zs
  have HUS := Lib.hid hus
  have HSS := Lib.hid hss
  clear hus hss
  go_wp2_with fail
  refine (bytes18_any Z A c zs w.heap.size w3 HZL.out (HZ.out.below HB3.out (Nat.le_refl _)) HZR.out HB3.out.size hzc HZM.out us HUS.out).mono ?_
  rintro e w4 ⟨v4, rfl, hi4, hb4⟩
  obtain ⟨A4, c4, rfl, -, -⟩ := hi4.form
  have hs4 := hb4.size
  have HU4 := Lib.hid (show Rd w4 w4.heap.size A4 (us.map (Value.int .i64)) from hi4.rd)
  have HU4B := Lib.hid (show IR w4 w3.heap.size (.slice A4 us.length c4) us from hi4)
  have HD4 := Lib.hid (dBelow HD3.out hb4)
  have HE4 := Lib.hid (eBelow HE3.out hb4)
  have HI4 := Lib.hid (I.keep HI3.out hb4)
  have HB4 := Lib.hid (HB3.out.trans (hb4.mono (by omega)))
  clear hi4 hb4 HD3 HE3
  obtain ⟨N, hN⟩ : ∃ N, us.length = N := ⟨_, rfl⟩
  rw [hN] at hul HU4B ⊢
  have HN := Lib.hid hN
  clear hN
  go_wp2_with fail
  obtain ⟨S1, hS1⟩ : ∃ S, w1.heap.size = S := ⟨_, rfl⟩
  obtain ⟨S2, hS2⟩ : ∃ S, w2.heap.size = S := ⟨_, rfl⟩
  obtain ⟨S3, hS3⟩ : ∃ S, w3.heap.size = S := ⟨_, rfl⟩
  rw [hS3] at HU4B
  rw [hS1] at hfe1
  rw [hS2] at hfd1
  have HFE := Lib.hid (show ∀ b, Fe b → S1 ≤ b ∧ b < S2 from fun b hb => ⟨hfe1 b hb, by have := (I.efoot HE2K.out).2 b hb; omega⟩)
  have HFD := Lib.hid (show ∀ b, Fd b → S2 ≤ b ∧ b < S3 from fun b hb => ⟨hfd1 b hb, by have := (I.dfoot HD3K.out).2 b hb; omega⟩)
  rw [hS1] at hs1 hs2
  rw [hS2] at hs2 hs3
  rw [hS3] at hs3 hs4
  clear hS1 hS2 hS3 HE2K HD3K hfe1 hfd1 HI1 HI2 HI3 HI4 HB1 HB2 HB3 HU4
  obtain ⟨W0, hW0⟩ : ∃ W, w4 = W := ⟨_, rfl⟩
  rw [hW0] at HD4 HE4 HU4B HB4 hs4 ⊢
  have HMI0 := Lib.hid (Mid.refl Fd W0)
  have HW0S := Lib.hid hs4
  have HU0 := HU4B
  clear hW0 w4
  go_loopw [22] (fun i wr => ∃ (K : Nat) (q : List Int) (a sc : Int) (acc : List Tk) (G F : Nat → Prop), K ≤ N ∧ i = .int .i64 K ∧ Hid (DS us K q a sc acc) ∧ Hid (I.D G F wr pd q a sc) ∧ Hid (I.E Fe Fe wr pe [] 0 [] 0) ∧ Hid (Mid Fd W0 wr) ∧ Hid (Below w.heap.size w wr) ∧ S3 ≤ wr.heap.size ∧ Hid (∀ b, G b → Fd b ∨ W0.heap.size ≤ b)) (fun i _ => N - (intOf i).toNat)
  case atStart => exact ⟨0, [], 0, 0, [], Fd, Fd, by omega, rfl, Lib.hid (DS.start us), HD4, HE4, HMI0, HB4, hs4, Lib.hid (fun b hb => .inl hb)⟩
  case round =>
    clear HD4 HE4 HU4B HB4 hs4 HMI0
    obtain ⟨K, q, a, sc, acc, G, F, hK, rfl, hds, hD, hE, hmid, hb, hwr, hgg⟩ := hrel
    have hrow := Lib.hid (HU0.out.mid hmid.out (fun b e hb => by have h1 := (HFD.out b hb).2; have h2 := (HU0.out.lt e).1; omega))
    by_cases hKn : K = N
    · have hK' : ¬ K < N := by omega
      obtain ⟨w5, rfl⟩ : ∃ w5 : World, w5 = wr := ⟨_, rfl⟩
      clear hKn hds hD hrow hmid hgg
      go_wp2_with fail
      refine (scalars_any Z A c zs w.heap.size w5 HZL.out (HZ.out.below hb.out (Nat.le_refl _)) HZR.out hb.out.size hzc HZM.out ss HSS.out).mono ?_
      rintro e w6 ⟨v6, rfl, hi6, hb6⟩
      obtain ⟨A6, c6, rfl, -, -⟩ := hi6.form
      have HU6 := Lib.hid (hi6.low (show S2 ≤ w5.heap.size by omega))
      have HE6 := Lib.hid (eBelow hE.out hb6)
      have HB6 := Lib.hid (hb.out.trans (hb6.mono hb.out.size))
      have hs6 := hb6.size
      clear hi6 hb6 hE hb
      obtain ⟨M, hM⟩ : ∃ M, ss.length = M := ⟨_, rfl⟩
      rw [hM] at hsl HU6 ⊢
      have HM := Lib.hid hM
      clear hM
      go_wp2_with fail
      obtain ⟨V0, hV0⟩ : ∃ W, w6 = W := ⟨_, rfl⟩
      rw [hV0] at HE6 HU6 HB6 hs6 ⊢
      have HMJ0 := Lib.hid (Mid.refl Fe V0)
      clear hV0 w6
      go_loopw [36] (fun i wr => ∃ (K : Nat) (q ah : List Int) (a sc : Int) (acc : List Tk) (G F : Nat → Prop), K ≤ M ∧ i = .int .i64 K ∧ Hid (ES ss K q a ah sc acc) ∧ Hid (I.E G F wr pe q a ah sc) ∧ Hid (Mid Fe V0 wr) ∧ Hid (Below w.heap.size w wr) ∧ S2 ≤ wr.heap.size ∧ Hid (∀ b, G b → Fe b ∨ V0.heap.size ≤ b)) (fun i _ => M - (intOf i).toNat)
      case atStart => exact ⟨0, [], [], 0, 0, [], Fe, Fe, by omega, rfl, Lib.hid (ES.start ss), HE6, HMJ0, HB6, by omega, Lib.hid (fun b hb => .inl hb)⟩
      case round =>
        clear HE6 HB6 HMJ0
        obtain ⟨K, q, ah, a, sc, acc, G, F, hK, rfl, hes, hE, hmid, hb, hwr2, hgg⟩ := hrel
        have hrow := Lib.hid (HU6.out.mid hmid.out (fun b e hb => by have h1 := (HFE.out b hb).2; have h2 := (HU6.out.lt e).1; omega))
        by_cases hKn : K = M
        · have hK' : ¬ K < M := by omega
          clear hKn
          go_wp2
          go_ret
          exact ⟨rfl, hb.out⟩
        have hK' : K < M := by omega
        have hK1 : K < ss.length := by rw [HM.out]; exact hK'
        have k3 : (0 : Int) ≤ K := by omega
        have k4 : (K : Int) < M := by omega
        obtain ⟨b3, o3, rfl, -, hc3⟩ := rd_ints (show Rd wr wr.heap.size A6 (ss.map (Value.int .i64)) from hrow.out.rd) (by omega)
        have r3 := hc3 K hK1
        obtain ⟨s, hs⟩ : ∃ s, ss.getD K 0 = s := ⟨_, rfl⟩
        obtain ⟨ts, q', a', ah', sc', hd⟩ : ∃ ts q' a' ah' sc', ePut q a ah sc (ss.getD K 0) = (ts, q', a', ah', sc') := ⟨_, _, _, _, _, rfl⟩
        have hes2 := hes.out.step hK1 hd
        have hq1 := hes.out.one
        obtain ⟨-, ha1, -, hah, ha0, hsc0, hsc1⟩ := hes.out
        have HES2 := Lib.hid hes2
        have hq2 := hes2.one
        rw [hs] at r3 hd
        have hI5 := I.keep HI.out hb.out
        have P1 := Lib.hid (I.eput s ts q' a' ah' sc' hE.out hI5 hq1 hah ha0 (by omega) hsc0 hsc1 hd)
        obtain ⟨n2, hn2⟩ : ∃ n, q'.length = n := ⟨_, rfl⟩
        have HN2 := Lib.hid hn2
        rw [hn2] at hq2
        have HSG := Lib.hid (show ∀ b, G b → w.heap.size ≤ b from fun b hb => by rcases hgg.out b hb with h | h; have := (HFE.out b h).1; omega; omega)
        clear hes hes2 hs hd hI5 hE hn2 hc3 hKn hrow
        go_wp2_with fail
        refine P1.out.mono ?_
        rintro e w8 ⟨v8, G', F', B8, rfl, -, hE8, hT8⟩
        have hm8 := hT8.mid
        have HMI8 := Lib.hid (hmid.out.then hm8 hgg.out)
        have HGG8 := Lib.hid (show ∀ b, G' b → Fe b ∨ V0.heap.size ≤ b from fun b hb => by
          rcases hT8.gnew b hb with h | h
          · exact hgg.out b h
          · exact .inr (Nat.le_trans hmid.out.size h))
        have HB8 := Lib.hid (hb.out.trans (hm8.below HSG.out hb.out.size))
        have hs8 : S2 ≤ w8.heap.size := Nat.le_trans hwr2 hm8.size
        have H1 := Lib.hid (I.eheld n2 hE8 (I.keep HI.out HB8.out) HN2.out)
        have HSG8 := Lib.hid (show ∀ b, G' b → w.heap.size ≤ b from fun b hb => by rcases HGG8.out b hb with h | h; have := (HFE.out b h).1; omega; omega)
        have d1 : decide ((n2 : Int) > 1) = false := by simp; omega
        clear hb hE8 hm8 P1 hmid hgg hT8 HSG
        go_wp2_with fail
        refine H1.out.mono ?_
        rintro e w9 ⟨G9, F9, B9, rfl, hE9, hT9⟩
        have HE9 := Lib.hid hE9
        have HMI9 := Lib.hid (HMI8.out.then hT9.mid HGG8.out)
        have HGG9 := Lib.hid (show ∀ b, G9 b → Fe b ∨ V0.heap.size ≤ b from fun b hb => by
          rcases hT9.gnew b hb with h | h
          · exact HGG8.out b h
          · exact .inr (Nat.le_trans HMI8.out.size h))
        have HB9 := Lib.hid (HB8.out.trans (hT9.mid.below HSG8.out HB8.out.size))
        have hs9 : S2 ≤ w9.heap.size := Nat.le_trans hs8 hT9.mid.size
        clear hE9 hT9 HB8 H1 HMI8 HGG8 HSG8
        go_wp2_with fail
        go_roundw
        case rel => exact ⟨K + 1, q', ah', a', sc', _, G9, F9, by omega, by go_num, HES2, HE9, HMI9, HB9, hs9, HGG9⟩
        case measure => simp [intOf]; omega
    have hK' : K < N := by omega
    have hK1 : K < us.length := by rw [HN.out]; exact hK'
    have k3 : (0 : Int) ≤ K := by omega
    have k4 : (K : Int) < N := by omega
    obtain ⟨b3, o3, rfl, -, hc3⟩ := rd_ints (show Rd wr wr.heap.size A4 (us.map (Value.int .i64)) from hrow.out.rd) (by omega)
    have r3 := hc3 K hK1
    obtain ⟨u, hu⟩ : ∃ u, us.getD K 0 = u := ⟨_, rfl⟩
    obtain ⟨ts, rest, k, hd⟩ : ∃ ts rest k, drain inR a (q ++ [us.getD K 0]) = (ts, rest, k) := ⟨_, _, _, rfl⟩
    obtain ⟨ms, sc', hm⟩ : ∃ ms sc', meanT sc ts = (ms, sc') := ⟨_, _, rfl⟩
    have hds2 := hds.out.step hK1 hd hm
    have hq1 := hds.out.one
    obtain ⟨-, ha1, -, ha0, hsc0, hsc1⟩ := hds.out
    have HDS2 := Lib.hid hds2
    have hq2 := hds2.one
    rw [hu] at r3 hd
    have hI5 := I.keep HI.out hb.out
    have P1 := Lib.hid (I.dput u ts rest k ms sc' hD.out hI5 hq1 ha0 (by omega) hsc0 hsc1 hd hm)
    obtain ⟨n2, hn2⟩ : ∃ n, rest.length = n := ⟨_, rfl⟩
    have HN2 := Lib.hid hn2
    rw [hn2] at hq2
    have HSG := Lib.hid (show ∀ b, G b → S2 ≤ b from fun b hb => by rcases hgg.out b hb with h | h; have := (HFD.out b h).1; omega; have := HW0S.out; omega)
    clear hds hds2 hu hd hm hI5 hD hn2 hc3 hKn hrow
    go_wp2_with fail
    refine P1.out.mono ?_
    rintro e w8 ⟨v8, G', F', B8, rfl, -, hD8, hT8⟩
    have hm8 := hT8.mid
    have HMI8 := Lib.hid (hmid.out.then hm8 hgg.out)
    have HGG8 := Lib.hid (show ∀ b, G' b → Fd b ∨ W0.heap.size ≤ b from fun b hb => by
      rcases hT8.gnew b hb with h | h
      · exact hgg.out b h
      · exact .inr (Nat.le_trans hmid.out.size h))
    have HB8 := Lib.hid (hb.out.trans (hm8.below (fun b hb => by have := HSG.out b hb; omega) hb.out.size))
    have HE8 := Lib.hid (eMid hE.out hm8 (fun b hb e => by have h1 := HSG.out b e; have h2 := (HFE.out b hb).2; omega))
    have hs8 : S3 ≤ w8.heap.size := Nat.le_trans hwr hm8.size
    have H1 := Lib.hid (I.dheld n2 hD8 (I.keep HI.out HB8.out) HN2.out)
    have HSG8 := Lib.hid (show ∀ b, G' b → S2 ≤ b from fun b hb => by rcases HGG8.out b hb with h | h; have := (HFD.out b h).1; omega; have := HW0S.out; omega)
    have d1 : decide ((n2 : Int) > 1) = false := by simp; omega
    clear hb hD8 hm8 P1 hE hmid hgg hT8 HSG
    go_wp2_with fail
    refine H1.out.mono ?_
    rintro e w9 ⟨G9, F9, B9, rfl, hD9, hT9⟩
    have HD9 := Lib.hid hD9
    have HE9 := Lib.hid (eMid HE8.out hT9.mid (fun b hb e => by have h1 := HSG8.out b e; have h2 := (HFE.out b hb).2; omega))
    have HMI9 := Lib.hid (HMI8.out.then hT9.mid HGG8.out)
    have HGG9 := Lib.hid (show ∀ b, G9 b → Fd b ∨ W0.heap.size ≤ b from fun b hb => by
      rcases hT9.gnew b hb with h | h
      · exact HGG8.out b h
      · exact .inr (Nat.le_trans HMI8.out.size h))
    have HB9 := Lib.hid (HB8.out.trans (hT9.mid.below (fun b hb => by have := HSG8.out b hb; omega) HB8.out.size))
    have hs9 : S3 ≤ w9.heap.size := Nat.le_trans hs8 hT9.mid.size
    clear hD9 hT9 HE8 HB8 H1 HMI8 HGG8 HSG8
    go_wp2_with fail
    go_roundw
    case rel => exact ⟨K + 1, rest, _, sc', _, G9, F9, by omega, by go_num, HDS2, HD9, HE9, HMI9, HB9, hs9, HGG9⟩
    case measure => simp [intOf]; omega
end Go.Proofs.YtdkcadckbjncjaaDoor
