/- Layer 22: the law ScriptActs. -/
import Derived.Test.YtncpokioagpclaaGreatDoorZ8
namespace Go.Proofs.YtncpokioagpclaaGreatDoor
set_option linter.unusedVariables false
set_option linter.unusedSimpArgs false
set_option linter.unnecessarySimpa false
open Go.RowKit
set_option maxRecDepth 100000 in
set_option maxHeartbeats 3200000 in
theorem scriptActs_any (I : ScrApi) (A0 : Option Addr) (c0 : Nat) (zs : List Int) (w : World) (hI : I.OK w) (hr : Rd w w.heap.size A0 (zs.map (Value.int .u8))) (hb : ∀ u ∈ zs, 0 ≤ u ∧ u ≤ 255) (hc : zs.length ≤ c0) (hm : c0 ≤ maxLen) (hl : zs.length ≤ 1048576) :
    Calls Tryz.prog 8 #[.slice A0 zs.length c0] w fun e w' => e = .returned (.bool true) ∧ Below w.heap.size w w' := by
  obtain ⟨n, hn⟩ : ∃ n, zs.length = n := ⟨_, rfl⟩
  obtain ⟨hok, hsum⟩ := acts_ok zs.length zs hb
  have hlen := acts_len zs.length zs
  obtain ⟨az, has⟩ : ∃ az, actsL zs = az := ⟨_, rfl⟩
  rw [show actsF zs.length zs = az from has] at hok hlen
  rw [hn] at hc hl hlen ⊢
  have HI := Lib.hid hI
  have HR := Lib.hid hr
  have HB := Lib.hid hb
  have HN := Lib.hid hn
  have HAS := Lib.hid has
  have HOK := Lib.hid (show ∀ a ∈ az, a.text.length ≤ 31 from fun a ha => (hok a ha).2.2.1)
  have HC := Lib.hid (show n ≤ c0 ∧ c0 ≤ maxLen ∧ n ≤ 1048576 from ⟨hc, hm, hl⟩)
  obtain ⟨M, hM⟩ : ∃ M, az.length = M := ⟨_, rfl⟩
  rw [hM] at hlen
  have HM := Lib.hid hM
  clear hI hr hb hn has hok hsum hc hm hM
  go_enter Tryz.func8, Tryz.ntmps8
  go_wp2_with fail
  refine (awake22_any I w HI.out).mono ?_
  rintro e w1 ⟨rfl, hb1⟩
  have HB1 := Lib.hid hb1
  have C2 := Lib.hid (I.acts w1 n A0 c0 zs w1.heap.size az (I.keep HI.out hb1) HN.out (HR.out.below hb1 hb1.size) (Nat.le_refl _) HC.out.1 HC.out.2.1 HC.out.2.2 HB.out HAS.out)
  clear hb1
  go_wp2_with fail
  refine C2.out.mono ?_
  rintro e w2 ⟨v2, rfl, ho2, hb2⟩
  have HB2 := Lib.hid (HB1.out.trans (hb2.mono HB1.out.size))
  obtain ⟨A2, c2, hv2, -⟩ := ho2.form
  rw [HM.out] at hv2
  subst hv2
  have HO2 := Lib.hid ho2
  have C3 := Lib.hid (lacts_any n A0 c0 zs w2.heap.size az w2 HN.out (HR.out.below HB2.out HB2.out.size) (Nat.le_refl _) HC.out.1 HC.out.2.1 HC.out.2.2 HB.out HAS.out)
  clear ho2 hb2 C2
  go_wp2_with fail
  refine C3.out.mono ?_
  rintro e w3 ⟨v3, rfl, ho3, hb3⟩
  have HB3 := Lib.hid (HB2.out.trans (hb3.mono HB2.out.size))
  obtain ⟨A3, c3, hv3, -⟩ := ho3.form
  rw [HM.out] at hv3
  subst hv3
  have C4 := Lib.hid (lsame_any az M A2 c2 A3 c3 _ _ w3 HM.out (by have := HC.out.2.2; omega) (HO2.out.below hb3) ho3 HOK.out)
  clear ho3 hb3 C3
  go_wp2_with fail
  refine C4.out.mono ?_
  rintro e w4 ⟨rfl, hb4⟩
  have HB4 := Lib.hid (HB3.out.trans (hb4.mono HB3.out.size))
  clear hb4 C4
  go_wp2_with fail
  go_ret
  exact ⟨rfl, HB4.out⟩
end Go.Proofs.YtncpokioagpclaaGreatDoor
