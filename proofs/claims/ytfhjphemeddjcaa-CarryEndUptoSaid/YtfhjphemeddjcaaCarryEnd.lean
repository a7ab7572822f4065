/- CarryEnd: the walk. -/
import Derived.Test.YtfhjphemeddjcaaCarryF
import Derived.Test.YtfhjphemeddjcaaMixt
namespace Go.Proofs.Ytfhjphemeddjcaa
set_option linter.unusedVariables false
open Go.RowKit

set_option maxHeartbeats 3200000 in
theorem carryEnd_any (A : Option Addr) (cap : Nat) (za : List Int) (A' : Option Addr) (cap' : Nat) (zb : List Int) (w : World)
    (hr : Rd w w.heap.size A (za.map (Value.int .u8))) (hc : za.length ≤ cap) (hb : ∀ z ∈ za, 0 ≤ z ∧ z ≤ 255)
    (hr' : Rd w w.heap.size A' (zb.map (Value.int .u8))) (hc' : zb.length ≤ cap') (hb' : ∀ z ∈ zb, 0 ≤ z ∧ z ≤ 255) (hl : za.length + zb.length ≤ 1048576) :
    Calls Try.prog 8 #[.slice A za.length cap, .slice A' zb.length cap'] w fun e w' => e = .returned (.bool true) ∧ Below w.heap.size w w' := by
  obtain ⟨i0, hi, hz0, hz1, hz2⟩ := info_parts info44
  have HR := Lib.hid hr
  have HB := Lib.hid hb
  have HR' := Lib.hid hr'
  have HB' := Lib.hid hb'
  clear hr hb hr' hb'
  obtain ⟨ka, hka⟩ : ∃ x, KN 0 za = x := ⟨_, rfl⟩
  obtain ⟨na, hna⟩ : ∃ x, ka.length = x := ⟨_, rfl⟩
  obtain ⟨ha, hha⟩ : ∃ x, HD za = x := ⟨_, rfl⟩
  obtain ⟨ea, hea⟩ : ∃ x, endK ha ((0 : Int) + ([] : List Int).length + za.length - ha.length) = x := ⟨_, rfl⟩
  obtain ⟨ma, hma⟩ : ∃ x, ea.length = x := ⟨_, rfl⟩
  obtain ⟨kb, hkb⟩ : ∃ x, KN za.length zb = x := ⟨_, rfl⟩
  obtain ⟨nb, hnb⟩ : ∃ x, kb.length = x := ⟨_, rfl⟩
  obtain ⟨hb, hhb⟩ : ∃ x, HD zb = x := ⟨_, rfl⟩
  obtain ⟨eb, heb⟩ : ∃ x, endK hb ((za.length : Int) + ([] : List Int).length + zb.length - hb.length) = x := ⟨_, rfl⟩
  obtain ⟨mb, hmb⟩ : ∃ x, eb.length = x := ⟨_, rfl⟩
  have bna : na ≤ za.length := by have := KN_len 0 za; rw [hka, hna] at this; exact this
  have bma : ma ≤ 1 := by have := endK_len ha ((0 : Int) + ([] : List Int).length + za.length - ha.length); rw [hea, hma] at this; exact this
  have bnb : nb ≤ zb.length := by have := KN_len za.length zb; rw [hkb, hnb] at this; exact this
  have bmb : mb ≤ 1 := by have := endK_len hb ((za.length : Int) + ([] : List Int).length + zb.length - hb.length); rw [heb, hmb] at this; exact this
  have bha : ha.length ≤ 3 ∧ ha.length ≤ za.length := by have := HD_len za; rw [hha] at this; exact this
  have bhb : hb.length ≤ 3 ∧ hb.length ≤ zb.length := by have := HD_len zb; rw [hhb] at this; exact this
  have hta : ka ++ ea = allF za.length 0 za := by rw [← all_end, hka, hha, ← hea]; simp
  have htb : kb ++ eb = allF zb.length za.length zb := by rw [← all_end, hkb, hhb, ← heb]; simp
  have hla : (ka ++ ea).length = na + ma := by rw [List.length_append, hna, hma]
  have hlb : (kb ++ eb).length = nb + mb := by rw [List.length_append, hnb, hmb]
  obtain ⟨ta, hta'⟩ : ∃ x, x = ka ++ ea := ⟨_, rfl⟩
  obtain ⟨tb, htb'⟩ : ∃ x, x = kb ++ eb := ⟨_, rfl⟩
  have HKA := Lib.hid hka
  have HNA := Lib.hid hna
  have HHA := Lib.hid hha
  have HEA := Lib.hid hea
  have HMA := Lib.hid hma
  have HKB := Lib.hid hkb
  have HNB := Lib.hid hnb
  have HHB := Lib.hid hhb
  have HEB := Lib.hid heb
  have HMB := Lib.hid hmb
  have HTA := Lib.hid hta'
  have HTB := Lib.hid htb'
  rw [← hta'] at hta hla
  rw [← htb'] at htb hlb
  have HTA' := Lib.hid hta
  have HTB' := Lib.hid htb
  have HLA := Lib.hid hla
  have HLB := Lib.hid hlb
  clear hka hna hha hea hma hkb hnb hhb heb hmb hta htb hla hlb hta' htb'
  go_enter Try.func8, Try.ntmps8
  go_wp2_with fail
  refine (awake2 _).mono ?_
  rintro e w1 ⟨rfl, hb1⟩
  go_wp2_with fail
  have hp2 := RdrAt.new w1
  obtain ⟨w2, hw2⟩ : ∃ w2, w2 = w1.alloc (.cells #[.int .u8 0, .int .u8 0, .int .u8 0, .int .u8 0, .int .i64 0, .int .i64 0] 43) := ⟨_, rfl⟩
  obtain ⟨p, hpe⟩ : ∃ p, p = w1.heap.size := ⟨_, rfl⟩
  have hb2 : Below w.heap.size w w2 := by rw [hw2]; exact hb1.alloc hb1.size _
  have hpl : w.heap.size ≤ p := by rw [hpe]; exact hb1.size
  rw [← hw2, ← hpe] at hp2
  rw [← hw2, ← hpe]
  have hps := hp2.lt
  clear hw2 hpe hb1
  refine (feed_rdr p [] 0 _ A cap za _ rfl hp2 rfl (by simp) ((HR.out.below hb2 (Nat.le_refl _)).mono hpl) (by omega) HB.out (by omega) (by omega) ka na ha HKA.out HNA.out HHA.out).mono ?_
  rintro e w3 h
  obtain ⟨A3, c3, xs3, rfl, ho3, ht3, hr3, hg3, hc3, hm3⟩ := h.own
  have hb3 := below_grownP hb2 hg3 hpl hb2.size
  have HR3 := Lib.hid hr3
  clear h hr3 hp2
  go_wp2_with fail
  refine (end_rdr p ha _ _ HR3.out (by simp; omega) (by simp; omega) ea ma HEA.out HMA.out).mono ?_
  rintro e w4 h
  obtain ⟨A4, c4, xs4, rfl, ho4, ht4, hr4, hg4, hc4, hm4⟩ := h.own
  have hb4 := below_grownP hb3 hg4 hpl hb3.size
  have hk4 := CInv.kept hps ho3 hg4
  have ht34 := (ht3.grownP HR3.out hg4).app ht4
  have HR4 := Lib.hid hr4
  clear h hr4
  go_wp2_with (at_builtin; refine wpList_app _ rfl _ _ 34 rfl w2.heap.size 38 i0 _ 4 48 Try.underlying34 hi hz0 hz1 hz2 rfl (by decide) _ _ _ rfl hk4 w4.heap.size A4 ma c4 xs4 rfl ?c1 (Rd.own ho4) ?c2 ?c3 ?c4 ?c5 ?_)
  case c1 => exact ho4.1
  case c2 => exact ht4.one
  case c3 => simp only [maxLen]; omega
  case c4 => omega
  case c5 => exact Nat.le_trans hg3.size hg4.size
  intro v5 w5 ho5 hg5
  have hr5 := (HR4.out.grownV hk4 hps hg5).at_eq (b := za.length) (by simp)
  have ht5 := ht34.grown (Nat.le_refl _) hg5.size hk4 (by decide) hg5
  rw [← HTA.out] at ht5
  have hb5 := below_own hb4 hg5 hk4 hb2.size hb4.size
  obtain ⟨A5, c5, rfl, hc5, hm5⟩ := own_form ho5
  have hl25 : w2.heap.size ≤ w5.heap.size := Nat.le_trans (Nat.le_trans hg3.size hg4.size) hg5.size
  have HR5 := Lib.hid hr5
  have HT5 := Lib.hid ht5
  have HO5 := Lib.hid ho5
  clear ho3 ht3 hg3 ho4 ht4 hg4 hk4 ht34 hg5 hr5 ht5 ho5 hb2 hb3 hb4
  have hps5 : p < w5.heap.size := HR5.out.lt
  go_wp2_with fail
  refine (feed_rdr p [] za.length _ A' cap' zb _ rfl HR5.out rfl (by simp) ((HR'.out.below hb5 (Nat.le_refl _)).mono hpl) (by omega) HB'.out (by omega) (by omega) kb nb hb HKB.out HNB.out HHB.out).mono ?_
  rintro e w6 h
  obtain ⟨A6, c6, xs6, rfl, ho6, ht6, hr6, hg6, hc6, hm6⟩ := h.own
  have HR6 := Lib.hid hr6
  clear h hr6
  go_wp2_with fail
  refine (end_rdr p hb _ _ HR6.out (by simp; omega) (by simp; omega) eb mb HEB.out HMB.out).mono ?_
  rintro e w7 h
  obtain ⟨A7, c7, xs7, rfl, ho7, ht7, hr7, hg7, hc7, hm7⟩ := h.own
  have hk7 := CInv.kept hps5 ho6 hg7
  have ht67 := (ht6.grownP HR6.out hg7).app ht7
  have HR7 := Lib.hid hr7
  clear h hr7
  go_wp2_with (at_builtin; refine wpList_app _ rfl _ _ 34 rfl w5.heap.size 38 i0 _ 4 48 Try.underlying34 hi hz0 hz1 hz2 rfl (by decide) _ _ _ rfl hk7 w7.heap.size A7 mb c7 xs7 rfl ?c1 (Rd.own ho7) ?c2 ?c3 ?c4 ?c5 ?_)
  case c1 => exact ho7.1
  case c2 => exact ht7.one
  case c3 => simp only [maxLen]; omega
  case c4 => omega
  case c5 => exact Nat.le_trans hg6.size hg7.size
  intro v8 w8 ho8 hg8
  have hr8 := (HR7.out.grownV hk7 hps5 hg8)
  have ht8 := ht67.grown (Nat.le_refl _) hg8.size hk7 (by decide) hg8
  rw [← HTB.out] at ht8
  have hg58 := grown_low (grown_seq hg6 hg7) hg8 hk7
  have hx8 := Rd.ownP HO5.out (by omega) hg58
  have hxt8 := HT5.out.grownQ (Nat.le_refl _) HR5.out hg58
  have hb8 := below_grownP hb5 hg58 hpl hb5.size
  obtain ⟨A8, c8, rfl, hc8, hm8⟩ := own_form ho8
  have HR8 := Lib.hid hr8
  have HT8 := Lib.hid ht8
  have HO8 := Lib.hid ho8
  have HX8 := Lib.hid hx8
  have HXT8 := Lib.hid hxt8
  have hl58 : w5.heap.size ≤ w8.heap.size := hg58.size
  clear ho6 ht6 hg6 ho7 ht7 hg7 hk7 ht67 hg8 hr8 ht8 ho8 hx8 hxt8 hg58 HT5 HO5 HR5 HR3 HR4 HR6 HR7
  unfold maxLen at hm5 hm8
  go_wp2_with fail
  obtain ⟨N, hN⟩ : ∃ N, N = nb + mb := ⟨_, rfl⟩
  rw [← hN] at hc8 HO8 HLB ⊢
  have hNi : (nb : Int) + mb = N := by omega
  have hNl : N ≤ zb.length + 1 := by omega
  rw [hNi]
  clear hN hNi
  go_loopw [27] (fun i wr => ∃ (K : Nat) (xs : List Value), K ≤ N ∧ i = .int .i64 K ∧ wr.ownsRow w5.heap.size 38 4 (.slice A8 N c8) N xs ∧ Toks wr wr.heap.size xs (mixT (-(za.length : Int)) K tb) ∧ Below w5.heap.size w8 wr) (fun i _ => N - (intOf i).toNat)
  case atStart => exact ⟨0, _, by omega, rfl, HO8.out, by simpa [mixT] using HT8.out, Below.refl _ _⟩
  case round =>
    obtain ⟨K, xs, hK, rfl, hown, htok, hbr⟩ := hrel
    have HOW := Lib.hid hown
    have HTO := Lib.hid htok
    clear hown htok
    by_cases hKk : K = N
    · have hKk' : ¬ K < N := by omega
      have hmix : mixT (-(za.length : Int)) K tb = allF zb.length 0 zb := by unfold mixT; rw [hKk, ← HLB.out, List.take_length, List.drop_length, List.append_nil, HTB'.out, allF_shift0]
      have hmixl : tb.length = (allF zb.length 0 zb).length := by rw [← hmix, mixT_len]
      have hTO' := HTO.out
      rw [hmix] at hTO'
      have HTO2 := Lib.hid hTO'
      have HROW := Lib.hid (Rd.own HOW.out)
      have hbw := hb8.trans (hbr.mono (by omega))
      have hx := HX8.out.below hbr (Nat.le_refl _)
      have hxt := HXT8.out.below hbr (Nat.le_refl _)
      have hrp := HR8.out.belowB hbr hps5
      have HX := Lib.hid hx
      have HXT := Lib.hid hxt
      have HRP := Lib.hid hrp
      clear hmix hTO' hx hxt hrp
      go_wp2_with fail
      refine (all_own _ _ _ za _ rfl (HR.out.below hbw hbw.size) (by omega) hc HB.out ta (na + ma) HTA'.out.symm HLA.out).mono ?_
      rintro e w9 ⟨A9, c9, xs9, rfl, hr9, ht9, hc9, hm9, hb9⟩
      have HT9 := Lib.hid ht9
      have HR9 := Lib.hid hr9
      have hbx := hbw.trans (hb9.mono hbw.size)
      clear hr9 ht9
      go_wp2_with fail
      refine (same_own (na + ma) _ _ _ _ ta _ xs9 w9.heap.size _ HLA.out.symm ((HX.out.mono (by have := hbr.size; omega)).below hb9 hb9.size) ((HXT.out.mono (by have := hbr.size; omega)).below hb9 hb9.size) HR9.out HT9.out (by rw [HLA.out]; omega) (fun t ht => by
        rw [HTA'.out] at ht
        have := allF_out _ _ _ t ht
        omega)).mono ?_
      rintro e w10 ⟨rfl, hb10⟩
      have hby := hbx.trans (hb10.mono hbx.size)
      go_wp2_with fail
      refine (all_own _ _ _ zb _ rfl (HR'.out.below hby hby.size) (by omega) hc' HB'.out _ N rfl (by rw [← hmixl]; exact HLB.out)).mono ?_
      rintro e w11 ⟨A11, c11, xs11, rfl, hr11, ht11, hc11, hm11, hb11⟩
      have HT11 := Lib.hid ht11
      have HR11 := Lib.hid hr11
      have hb911 := below_trans _ _ _ (below_trans _ _ _ hb9 hb10) hb11
      have hbz := hby.trans (hb11.mono hby.size)
      clear hr11 ht11
      go_wp2_with fail
      refine (same_own N _ _ _ _ (allF zb.length 0 zb) xs xs11 w11.heap.size _ (by rw [← hmixl]; exact HLB.out.symm) (HROW.out.below hb911 hb911.size) (HTO2.out.below hb911 hb911.size) HR11.out HT11.out (by rw [← hmixl, HLB.out]; omega) (fun t ht => by
        have := allF_out _ _ _ t ht
        omega)).mono ?_
      rintro e w12 ⟨rfl, hb12⟩
      have hb912 := below_trans _ _ _ hb911 hb12
      have hbq := hbz.trans (hb12.mono hbz.size)
      have HRE := Lib.hid (HRP.out.below hb912)
      go_wp2_with fail
      refine (end_rdr p [] _ _ HRE.out (by simp; omega) (by simp; omega) [] 0 rfl rfl).mono ?_
      rintro e w13 h
      obtain ⟨A13, c13, xs13, rfl, _, _, _, hg13, _, _⟩ := h.own
      have hbe := below_grownP hbq hg13 hpl hbq.size
      clear h hg13
      go_wp2
      go_ret
      exact ⟨rfl, hbe⟩
    have hKk' : K < N := by omega
    have hKt : K < tb.length := by rw [HLB.out]; exact hKk'
    obtain ⟨g, cg, hform⟩ := ownsRow_form' HOW.out (by omega)
    injection hform with hA _ hcg
    subst hA hcg
    have hcell := Toks.cell HTO.out K _ (mixT_at hKt)
    have k1 := (HOW.out.cellAt (K * 4) (by omega)).trans hcell.1
    have kf := HOW.out.frozenAt (K * 4)
    have hpos := allF_pos zb.length za.length zb tb[K] (by rw [← HTB'.out]; exact List.getElem_mem hKt)
    obtain ⟨P, hP⟩ : ∃ x, x = tb[K].pos := ⟨_, rfl⟩
    rw [← hP] at k1 hpos
    have HP := Lib.hid hP
    clear hcell hP
    have e4 : (0 : Int) ≤ K := by omega
    have e5 : (K : Int) < N := by omega
    go_wp2
    go_roundw
    case rel =>
      have hst := HOW.out.stored (K * 4) (.int .i64 (P - za.length))
      have hset := Toks.setPos (q := P - za.length) K _ (mixT_at hKt) HTO.out
      rw [show (mixT (-(za.length : Int)) K tb).set K ⟨P - za.length, tb[K].size, tb[K].err, tb[K].out⟩ = mixT (-(za.length : Int)) (K + 1) tb from by rw [← mixT_step hKt, HP.out, Int.sub_eq_add_neg]; rfl] at hset
      refine ⟨K + 1, _, by omega, by go_num, hst.1, hset.keep hst.2.size (fun b c fr hl hc => ?_), hbr.setCell (HOW.out.lt g rfl).1 _⟩
      have hne : b ≠ g := by
        rintro rfl
        rcases HOW.out.2 with ⟨h1, _⟩ | ⟨g', cap', cur, h1, _, hh, _⟩
        · cases h1
        · injection h1 with h1 _ _
          injection h1 with h1
          injection h1 with h1 _ _
          subst h1
          rw [hh] at hc
          injection hc with hc
          injection hc with _ hc
          exact absurd hc (by decide)
      exact heap_setCell_other wr _ b _ (by simpa using hne)
    case measure => simp [intOf]; omega
end Go.Proofs.Ytfhjphemeddjcaa
