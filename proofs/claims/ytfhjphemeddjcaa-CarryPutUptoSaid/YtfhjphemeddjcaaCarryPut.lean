/- CarryPut: the walk. -/
import Derived.Test.YtfhjphemeddjcaaCarryE
namespace Go.Proofs.Ytfhjphemeddjcaa
set_option linter.unusedVariables false
open Go.RowKit

set_option maxHeartbeats 1600000 in
theorem carryPut_any (A : Option Addr) (cap : Nat) (zs : List Int) (w : World) (hr : Rd w w.heap.size A (zs.map (Value.int .u8))) (hc : zs.length ≤ cap) (hb : ∀ z ∈ zs, 0 ≤ z ∧ z ≤ 255) (hl : zs.length ≤ 1048576) :
    Calls Try.prog 9 #[.slice A zs.length cap] w fun e w' => e = .returned (.bool true) ∧ Below w.heap.size w w' := by
  obtain ⟨i0, hi, hz0, hz1, hz2⟩ := info_parts info44
  have HR := Lib.hid hr
  have HB := Lib.hid hb
  clear hr hb
  go_enter Try.func9, Try.ntmps9
  go_wp2_with fail
  refine (awake2 _).mono ?_
  rintro e w1 ⟨rfl, hb1⟩
  go_wp2_with fail
  obtain ⟨w2, hw2⟩ : ∃ w2, w2 = (w1.alloc (.cells #[.int .u8 0, .int .u8 0, .int .u8 0, .int .u8 0, .int .i64 0, .int .i64 0] 43)).alloc (.cells #[.int .u8 0, .int .u8 0, .int .u8 0, .int .u8 0, .int .i64 0, .int .i64 0] 43) := ⟨_, rfl⟩
  obtain ⟨p, hpe⟩ : ∃ p, p = w1.heap.size := ⟨_, rfl⟩
  rw [← hw2, ← hpe]
  have hp1 : RdrAt w2 p [] 0 := by rw [hw2, hpe]; exact (RdrAt.new w1).below ((Below.refl _ _).alloc (Nat.le_refl _) _)
  have hp2 : RdrAt w2 (p + 1) [] 0 := by
    rw [hw2, hpe]
    have := RdrAt.new (w1.alloc (.cells #[.int .u8 0, .int .u8 0, .int .u8 0, .int .u8 0, .int .i64 0, .int .i64 0] 43))
    simpa using this
  have hb2 : Below w.heap.size w w2 := by rw [hw2]; exact (hb1.alloc hb1.size _).alloc (by have := hb1.size; simp; omega) _
  have hpl : w.heap.size ≤ p := by rw [hpe]; exact hb1.size
  have hps := hp2.lt
  have HP1 := Lib.hid hp1
  have HP2 := Lib.hid hp2
  clear hw2 hpe hp1 hp2 hb1
  go_loopw [5, 16] (fun v i wr => ∃ K : Nat, K ≤ zs.length ∧ i = .int .i64 K ∧ CInv w2 p zs K v wr) (fun _ i _ => zs.length - (intOf i).toNat)
  case atStart => exact ⟨0, by omega, rfl, CInv.start HP1.out⟩
  case round =>
    obtain ⟨K, hK, rfl, hinv⟩ := hrel
    obtain ⟨xs, hown, htok, hrd, hgr⟩ := hinv
    have HOW := Lib.hid hown
    have HTO := Lib.hid htok
    have HRD := Lib.hid hrd
    have HGR := Lib.hid hgr
    clear hown htok hrd hgr
    by_cases hKl : K = zs.length
    · have hKl' : ¬ K < zs.length := by omega
      have hO := HOW.out
      have hT := HTO.out
      have hR := HRD.out
      rw [hKl, KN_take_all] at hO hT hR
      obtain ⟨A5, c5, rfl, hc5, hm5⟩ := own_form hO
      obtain ⟨kn, hkn⟩ : ∃ kn, KN 0 zs = kn := ⟨_, rfl⟩
      obtain ⟨n, hn⟩ : ∃ n, kn.length = n := ⟨_, rfl⟩
      obtain ⟨hd, hhd⟩ : ∃ hd, HD zs = hd := ⟨_, rfl⟩
      rw [hkn, hn] at hO hc5
      rw [hkn] at hT
      rw [hhd] at hR
      rw [hkn, hn]
      have hout : ∀ t ∈ kn, t.out.length ≤ 140737488355328 := fun t ht => by
        rw [← hkn] at ht
        have := (knownF_out _ _ _ t ht).1
        omega
      have hnl : n ≤ 1048576 := by have := KN_len 0 zs; rw [hkn, hn] at this; omega
      have HO := Lib.hid hO
      have HT := Lib.hid hT
      have HR5 := Lib.hid hR
      have HKN := Lib.hid hkn
      have HN := Lib.hid hn
      have HHD := Lib.hid hhd
      have HOUT := Lib.hid hout
      have hbr := below_grownP hb2 HGR.out hpl hb2.size
      clear hKl hO hT hR hkn hn hhd hout
      go_wp2_with fail
      refine (feed_rdr (p + 1) [] 0 _ A cap zs _ rfl (HP2.out.other HGR.out (by omega)) rfl (by simp) ((HR.out.below hbr (Nat.le_refl _)).mono (by omega)) (by omega) HB.out (by omega) (by omega) kn n hd HKN.out HN.out HHD.out).mono ?_
      rintro e w4 h
      obtain ⟨A4, c4, xs4, rfl, ho4, ht4, hr4, hg4, hc4, hm4⟩ := h.own
      have ho5 := CInv.kept (p := p + 1) hps HO.out hg4
      have ht5 := HT.out.grownP (HP2.out.other HGR.out (by omega)) hg4
      have hr5 := HR5.out.other hg4 (by omega)
      have hb4 := below_grownP hbr hg4 (by omega) hbr.size
      have HR4 := Lib.hid hr4
      have HR5' := Lib.hid hr5
      clear h hr4 hr5
      go_wp2_with fail
      refine (same_own n _ _ _ _ kn xs xs4 w4.heap.size _ HN.out.symm (Rd.own ho5) ht5 (Rd.own ho4) ht4 (by rw [HN.out]; omega) HOUT.out).mono ?_
      rintro e w6 ⟨rfl, hb6⟩
      have HR6 := Lib.hid (HR4.out.below hb6)
      have HR7 := Lib.hid (HR5'.out.below hb6)
      have hb7 := hb4.trans (hb6.mono hb4.size)
      clear ho5 ht5 ho4 ht4 hg4
      go_wp2_with fail
      refine (held_rdr p _ _ _ HR7.out).mono ?_
      rintro e w' ⟨rfl, rfl⟩
      go_wp2_with fail
      refine (held_rdr (p + 1) _ _ _ HR6.out).mono ?_
      rintro e w' ⟨rfl, rfl⟩
      have hee : ((hd.length : Int) == hd.length) = true := by simp
      go_wp2
      go_ret
      exact ⟨rfl, hb7⟩
    have hKl' : K < zs.length := by omega
    have hbr := below_grownP hb2 HGR.out hpl hb2.size
    obtain ⟨b, o, rfl, hbl, hcell⟩ := rd_ints (HR.out.below hbr (Nat.le_refl _)) (by omega)
    have k1 := hcell K hKl'
    obtain ⟨hc0, hl3, hlK, hhb, e1, e2, hk4, hdl⟩ := cstep hKl' HB.out
    obtain ⟨hd', hhd'⟩ : ∃ x, HD (zs.take K) = x := ⟨_, rfl⟩
    obtain ⟨done, hdn⟩ : ∃ x, KN 0 (zs.take K) = x := ⟨_, rfl⟩
    obtain ⟨c, hcz⟩ : ∃ x, zs.getD K 0 = x := ⟨_, rfl⟩
    obtain ⟨k2, hk2⟩ : ∃ x, KN ((K : Int) - hd'.length) (hd' ++ [c]) = x := ⟨_, rfl⟩
    obtain ⟨n2, hn2⟩ : ∃ x, k2.length = x := ⟨_, rfl⟩
    obtain ⟨hd2, hh2⟩ : ∃ x, HD (hd' ++ [c]) = x := ⟨_, rfl⟩
    have hO := HOW.out
    have hR := HRD.out
    rw [hdn] at hO
    rw [hhd'] at hR
    rw [hcz] at k1
    rw [hcz, hhd', hk2, hn2] at hk4
    rw [hcz] at hc0
    rw [hhd'] at hl3 hlK hhb
    rw [hdn] at hdl
    have HHB := Lib.hid hhb
    have HHD' := Lib.hid hhd'
    have HDN := Lib.hid hdn
    have HCZ := Lib.hid hcz
    have HK2 := Lib.hid hk2
    have HN2 := Lib.hid hn2
    have HH2 := Lib.hid hh2
    have HO := Lib.hid hO
    have HR5 := Lib.hid hR
    clear hcell e1 e2 hhb hhd' hdn hcz hk2 hn2 hh2 hO hR
    have e4 : (0 : Int) ≤ K := by omega
    have e5 : (K : Int) < zs.length := by omega
    go_wp2_with fail
    refine (put_rdr p hd' _ c _ HR5.out hl3 (by omega) (by omega) hc0 HHB.out k2 n2 hd2 HK2.out HN2.out HH2.out).mono ?_
    rintro e w4 h
    obtain ⟨A4, c4, xs4, rfl, hown4, htok4, hrd4, hg4, hc4, hm4⟩ := h.own
    have hkeep := CInv.kept (p := p) (Nat.lt_of_succ_lt hps) HO.out hg4
    clear h
    go_wp2_with (at_builtin; refine wpList_app _ rfl _ _ 34 rfl w2.heap.size 38 i0 _ 4 48 Try.underlying34 hi hz0 hz1 hz2 rfl (by decide) _ _ _ rfl hkeep w4.heap.size A4 n2 c4 xs4 rfl ?c1 (Rd.own hown4) ?c2 ?c3 ?c4 ?c5 ?_)
    case c1 => exact hown4.1
    case c2 => exact htok4.one
    case c3 => simp only [maxLen]; omega
    case c4 => omega
    case c5 => exact Nat.le_trans HGR.out.size hg4.size
    intro v5 w5 hown5 hg5
    have hnext : CInv w2 p zs (K + 1) v5 w5 := by
      refine CInv.next (kn := k2) (m := n2) (hd := hd2) hKl' HB.out (Nat.lt_of_succ_lt hps) HOW.out HTO.out HRD.out HGR.out ?_ HN2.out ?_ htok4 ?_ hg4 ?_ hg5
      · rw [HCZ.out, HHD'.out]; exact HK2.out
      · rw [HCZ.out, HHD'.out]; exact HH2.out
      · rw [HHD'.out]; exact hrd4
      · rw [HDN.out]; exact hown5
    have HNX := Lib.hid hnext
    clear hown4 htok4 hrd4 hg4 hkeep hown5 hg5 hnext
    go_wp2
    go_roundw
    case rel => exact ⟨K + 1, by omega, by go_num, HNX.out⟩
    case measure => simp [intOf]; omega
end Go.Proofs.Ytfhjphemeddjcaa
