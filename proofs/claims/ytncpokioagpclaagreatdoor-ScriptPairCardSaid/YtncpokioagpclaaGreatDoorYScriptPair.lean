/- Layer 22: the law ScriptPair. -/
import Derived.Test.YtncpokioagpclaaGreatDoorZ8
namespace Go.Proofs.YtncpokioagpclaaGreatDoor
set_option linter.unusedVariables false
set_option linter.unusedSimpArgs false
set_option linter.unnecessarySimpa false
open Go.RowKit
set_option maxRecDepth 100000 in
set_option maxHeartbeats 3200000 in
theorem scriptPair_any (I : ScrApi) (z : Int) (w : World) (hI : I.OK w) (hz0 : 0 ≤ z) (hz1 : z ≤ 255) : Calls Tryz.prog 9 #[.int .u8 z] w fun e w' => e = .returned (.bool true) ∧ Below w.heap.size w w' := by
  obtain ⟨k1, hk1⟩ : ∃ k : Nat, z % 8 = (k : Int) := ⟨(z % 8).toNat, by omega⟩
  obtain ⟨k2, hk2⟩ : ∃ k : Nat, z / 8 % 8 = (k : Int) := ⟨(z / 8 % 8).toNat, by omega⟩
  obtain ⟨q, hq⟩ : ∃ q, z / 64 % 3 = q := ⟨_, rfl⟩
  have k11 : k1 < 8 := by omega
  have k21 : k2 < 8 := by omega
  have HI := Lib.hid hI
  have E2 := Lib.hid (fun W hW => I.pair W z k1 k2 q hz0 hz1 hk1 hk2 hq hW)
  have HK := Lib.hid (And.intro hk1 (And.intro hk2 hq))
  clear hI hk1 hk2 hq
  go_enter Tryz.func9, Tryz.ntmps9
  go_wp2_with fail
  refine (awake22_any I w HI.out).mono ?_
  rintro e w1 ⟨rfl, hb1⟩
  have HB1 := Lib.hid hb1
  have C2 := Lib.hid (E2.out w1 (I.keep HI.out hb1))
  clear hb1
  go_wp2_with fail
  refine C2.out.mono ?_
  rintro e w2 ⟨rfl, hb2⟩
  have HB2 := Lib.hid (HB1.out.trans (hb2.mono HB1.out.size))
  have C3 := Lib.hid (I.names w2 (I.keep HI.out HB2.out))
  obtain ⟨n1, hn1⟩ : ∃ n, I.nm k1 = n := ⟨_, rfl⟩
  obtain ⟨n2, hn2⟩ : ∃ n, I.nm k2 = n := ⟨_, rfl⟩
  rw [hn1, hn2]
  have HN1 := Lib.hid hn1
  have HN2 := Lib.hid hn2
  clear hb2 hn1 hn2 C2
  go_wp2_with fail
  refine C3.out.mono ?_
  rintro e w3 ⟨p, c, rfl, hcl, hb3⟩
  have hx1 := hcl k1 k11
  have hx2 := hcl k2 k21
  rw [HN1.out] at hx1
  rw [HN2.out] at hx2
  have HB3 := Lib.hid (HB2.out.trans (hb3.mono HB2.out.size))
  obtain ⟨h1, h2, h3⟩ := HK.out
  have i1 : (0 : Int) ≤ (k1 : Int) := by omega
  have i2 : (0 : Int) ≤ (k2 : Int) := by omega
  have i3 : (k1 : Int) < 8 := by omega
  have i4 : (k2 : Int) < 8 := by omega
  have e1 : (n1.toList == n1.toList) = true := by simp
  have e2 : (n2.toList == n2.toList) = true := by simp
  have e3 : (q == q) = true := by simp
  have hw : IntKind.i64.wrap q = q := by rw [IntKind.wrap_i64]; omega
  clear hcl hb3 C3
  go_wp2_with fail
  go_ret
  exact ⟨rfl, HB3.out⟩
end Go.Proofs.YtncpokioagpclaaGreatDoor
