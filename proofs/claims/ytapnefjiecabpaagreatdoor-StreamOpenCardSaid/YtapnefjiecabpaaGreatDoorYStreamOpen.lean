/- Layer 20: the law StreamOpen. -/
import Derived.Test.YtapnefjiecabpaaGreatDoorZ39
namespace Go.Proofs.YtapnefjiecabpaaGreatDoor
set_option linter.unusedVariables false
set_option linter.unusedSimpArgs false
set_option linter.unnecessarySimpa false
open Go.RowKit
theorem nmLow (k : Nat) (hk : k < 8) : nameB (lowT (nmB k)) = some k := by
  obtain ⟨h1, h2, _⟩ := nm_low k hk
  rw [lowT_ascii _ h2]; exact h1
set_option maxRecDepth 100000 in
set_option maxHeartbeats 1600000 in
/-- the codecs and the policy of a number -/
theorem lnames20_any (z : Int) (w : World) (hz0 : 0 ≤ z) (hz1 : z ≤ 255) (k1 k2 : Nat) (h1 : z % 8 = (k1 : Int)) (h2 : z / 8 % 8 = (k2 : Int)) (pol : Int) (hp : z / 64 % 3 = pol) :
    Calls Tryz.prog 30 #[.int .u8 z] w fun e w' => e = .returned (.tuple #[.string (nmB k1), .string (nmB k2), .int .i64 pol]) ∧ Below w.heap.size w w' := by
  have k11 : k1 < 8 := by omega
  have k21 : k2 < 8 := by omega
  have i1 : (0 : Int) ≤ (k1 : Int) := by omega
  have i2 : (0 : Int) ≤ (k2 : Int) := by omega
  have i3 : (k1 : Int) < 8 := by omega
  have i4 : (k2 : Int) < 8 := by omega
  have hb2 := below_allocS w (.cells nmC 9)
  have hx1 := names_cell w k1 k11
  have hx2 := names_cell w k2 k21
  have HB := Lib.hid hb2
  have hw64 : IntKind.i64.wrap z = z := by rw [IntKind.wrap_i64]; omega
  clear hb2
  go_enter Tryz.func30, Tryz.ntmps30
  go_wp2_with (go_at_call 44; refine (cnames_any w).mono ?_; rintro e wq ⟨rfl, rfl⟩)
  go_quiet (fail)
  go_wp2_with fail
  go_ret3
  exact ⟨rfl, HB.out.trans (below_drewS _ _ _)⟩
set_option maxRecDepth 100000 in
set_option maxHeartbeats 6400000 in
theorem streamOpen_any (I : StrApi) (a b : ByteArray) (z p : Int) (w : World) (hI : I.OK w) (hz0 : 0 ≤ z) (hz1 : z ≤ 255) (hp0 : -128 ≤ p) (hp1 : p ≤ 127) :
    Calls Tryz.prog 7 #[.string a, .string b, .int .u8 z, .int .i8 p] w fun e w' => e = .returned (.bool true) ∧ Below w.heap.size w w' := by
  obtain ⟨k1, hk1⟩ : ∃ k : Nat, z % 8 = (k : Int) := ⟨(z % 8).toNat, by omega⟩
  obtain ⟨k2, hk2⟩ : ∃ k : Nat, z / 8 % 8 = (k : Int) := ⟨(z / 8 % 8).toNat, by omega⟩
  obtain ⟨q, hq⟩ : ∃ q, z / 64 % 3 = q := ⟨_, rfl⟩
  have HK := Lib.hid (show k1 < 8 ∧ k2 < 8 ∧ 0 ≤ q ∧ q ≤ 2 by omega)
  have HI := Lib.hid hI
  have LN := Lib.hid (fun W => lnames20_any z W hz0 hz1 k1 k2 hk1 hk2 q hq)
  clear hI hk1 hk2 hq
  go_enter Tryz.func7, Tryz.ntmps7
  go_wp2_with fail
  refine (awake20_any I w HI.out).mono ?_
  rintro e w1 ⟨rfl, hb1⟩
  have HB1 := Lib.hid hb1
  go_wp2_with fail
  refine (LN.out w1).mono ?_
  rintro e w2 ⟨rfl, hb2⟩
  have HB2 := Lib.hid (HB1.out.trans (hb2.mono HB1.out.size))
  clear hb1 hb2
  go_wp2_with fail
  go_quiet (fail)
  have hs1 : (a.extract 0 (min (a.size : Int) 30).toNat).size ≤ 1000 := by rw [ByteArray.size_extract]; omega
  have hs2 : (b.extract 0 (min (b.size : Int) 30).toNat).size ≤ 1000 := by rw [ByteArray.size_extract]; omega
  generalize a.extract 0 (min (a.size : Int) 30).toNat = s1 at hs1 ⊢
  generalize b.extract 0 (min (b.size : Int) 30).toNat = s2 at hs2 ⊢
  have hb3 := HB2.out.trans (below_drewS w.heap.size w2 nq)
  obtain ⟨W3, hW3⟩ : ∃ W, w2.drewN nq = W := ⟨_, rfl⟩
  rw [hW3] at hb3 ⊢
  have HB3 := Lib.hid hb3
  have HS1 := Lib.hid hs1
  have HS2 := Lib.hid hs2
  have hwp : IntKind.i64.wrap p = p := by rw [IntKind.wrap_i64]; omega
  clear hb3 hs1 hs2 hW3 LN
  cases ho1 : nameB (lowT s1) with
  | none =>
    have HO1 := Lib.hid ho1
    clear ho1
    cases ho2 : nameB (lowT s2) with
    | none =>
      have HO2 := Lib.hid ho2
      clear ho2
      have N1 : Hid (Calls Tryz.prog 34 #[.string s1] W3 fun e w' => e = .returned (.tuple #[.string ⟨#[]⟩, .int .i64 6]) ∧ Below W3.heap.size W3 w') := Lib.hid (I.name s1 W3 HS1.out (I.keep HI.out HB3.out) (none) HO1.out)
      go_wp2_with fail
      refine N1.out.mono ?_
      rintro e w4 ⟨rfl, hb4⟩
      have HB4 := Lib.hid (HB3.out.trans (hb4.mono HB3.out.size))
      have N2 : Hid (Calls Tryz.prog 34 #[.string s2] w4 fun e w' => e = .returned (.tuple #[.string ⟨#[]⟩, .int .i64 6]) ∧ Below w4.heap.size w4 w') := Lib.hid (I.name s2 w4 HS2.out (I.keep HI.out HB4.out) (none) HO2.out)
      clear hb4 N1
      go_wp2_with fail
      refine N2.out.mono ?_
      rintro e w5 ⟨rfl, hb5⟩
      have HB5 := Lib.hid (HB4.out.trans (hb5.mono HB4.out.size))
      have OP := Lib.hid (I.openN w5 s1 s2 p HS1.out HS2.out (.inl HO1.out) (I.keep HI.out HB5.out))
      clear hb5 N2
      go_wp2_with fail
      refine OP.out.mono ?_
      rintro e w6 ⟨rfl, hb6⟩
      have HB6 := Lib.hid (HB5.out.trans (hb6.mono HB5.out.size))
      have OY := Lib.hid (I.openY w6 (nmB k1) (nmB k2) q k1 k2 (nm_low k1 HK.out.1).2.2 (nm_low k2 HK.out.2.1).2.2 (nmLow k1 HK.out.1) (nmLow k2 HK.out.2.1) HK.out.2.2.1 HK.out.2.2.2 (I.keep HI.out HB6.out))
      clear hb6 OP
      go_wp2_with fail
      refine OY.out.mono ?_
      rintro e w7 ⟨q2, rfl, hfr, -, hb7⟩
      have HB7 := Lib.hid (HB6.out.trans (hb7.mono HB6.out.size))
      have AP := Lib.hid (I.allP w7 k1 k2 7 HK.out.1 HK.out.2.1 (by decide) (I.keep HI.out HB7.out))
      have HFR := Lib.hid hfr
      clear hb7 hfr OY
      go_wp2_with fail
      refine AP.out.mono ?_
      rintro e w8 ⟨rfl, hb8⟩
      simp only [fltV, F0]
      have hb9 := below_allocS w8 (.cells #[.int .i64 0, .int .i64 0, .int .i64 0] 61)
      have hfr9 := I.frB (I.frB HFR.out hb8) hb9
      have HB9 := Lib.hid (HB7.out.trans ((hb8.trans (hb9.mono hb8.size)).mono HB7.out.size))
      have FA := Lib.hid (I.fault hfr9)
      have HF9 := Lib.hid hfr9
      have hq0 := flt_eq0
      clear hb8 hb9 hfr9 AP
      go_wp2_with fail
      refine FA.out.mono ?_
      rintro e w10 ⟨rfl, hb10⟩
      simp only [fltV, F0]
      have OW := Lib.hid (I.owed (I.frB HF9.out hb10))
      have HB10 := Lib.hid (HB9.out.trans (hb10.mono HB9.out.size))
      clear hb10 FA
      go_wp2_with fail
      refine OW.out.mono ?_
      rintro e w11 ⟨rfl, hb11⟩
      have HB11 := Lib.hid (HB10.out.trans (hb11.mono HB10.out.size))
      clear hb11 OW
      go_wp2_with fail
      go_ret
      exact ⟨rfl, HB11.out⟩
    | some j2 =>
      have HO2 := Lib.hid ho2
      clear ho2
      have N1 : Hid (Calls Tryz.prog 34 #[.string s1] W3 fun e w' => e = .returned (.tuple #[.string ⟨#[]⟩, .int .i64 6]) ∧ Below W3.heap.size W3 w') := Lib.hid (I.name s1 W3 HS1.out (I.keep HI.out HB3.out) (none) HO1.out)
      go_wp2_with fail
      refine N1.out.mono ?_
      rintro e w4 ⟨rfl, hb4⟩
      have HB4 := Lib.hid (HB3.out.trans (hb4.mono HB3.out.size))
      have N2 : Hid (Calls Tryz.prog 34 #[.string s2] w4 fun e w' => e = .returned (.tuple #[.string (nmB j2), .int .i64 0]) ∧ Below w4.heap.size w4 w') := Lib.hid (I.name s2 w4 HS2.out (I.keep HI.out HB4.out) (some j2) HO2.out)
      clear hb4 N1
      go_wp2_with fail
      refine N2.out.mono ?_
      rintro e w5 ⟨rfl, hb5⟩
      have HB5 := Lib.hid (HB4.out.trans (hb5.mono HB4.out.size))
      have OP := Lib.hid (I.openN w5 s1 s2 p HS1.out HS2.out (.inl HO1.out) (I.keep HI.out HB5.out))
      clear hb5 N2
      go_wp2_with fail
      refine OP.out.mono ?_
      rintro e w6 ⟨rfl, hb6⟩
      have HB6 := Lib.hid (HB5.out.trans (hb6.mono HB5.out.size))
      have OY := Lib.hid (I.openY w6 (nmB k1) (nmB k2) q k1 k2 (nm_low k1 HK.out.1).2.2 (nm_low k2 HK.out.2.1).2.2 (nmLow k1 HK.out.1) (nmLow k2 HK.out.2.1) HK.out.2.2.1 HK.out.2.2.2 (I.keep HI.out HB6.out))
      clear hb6 OP
      go_wp2_with fail
      refine OY.out.mono ?_
      rintro e w7 ⟨q2, rfl, hfr, -, hb7⟩
      have HB7 := Lib.hid (HB6.out.trans (hb7.mono HB6.out.size))
      have AP := Lib.hid (I.allP w7 k1 k2 7 HK.out.1 HK.out.2.1 (by decide) (I.keep HI.out HB7.out))
      have HFR := Lib.hid hfr
      clear hb7 hfr OY
      go_wp2_with fail
      refine AP.out.mono ?_
      rintro e w8 ⟨rfl, hb8⟩
      simp only [fltV, F0]
      have hb9 := below_allocS w8 (.cells #[.int .i64 0, .int .i64 0, .int .i64 0] 61)
      have hfr9 := I.frB (I.frB HFR.out hb8) hb9
      have HB9 := Lib.hid (HB7.out.trans ((hb8.trans (hb9.mono hb8.size)).mono HB7.out.size))
      have FA := Lib.hid (I.fault hfr9)
      have HF9 := Lib.hid hfr9
      have hq0 := flt_eq0
      clear hb8 hb9 hfr9 AP
      go_wp2_with fail
      refine FA.out.mono ?_
      rintro e w10 ⟨rfl, hb10⟩
      simp only [fltV, F0]
      have OW := Lib.hid (I.owed (I.frB HF9.out hb10))
      have HB10 := Lib.hid (HB9.out.trans (hb10.mono HB9.out.size))
      clear hb10 FA
      go_wp2_with fail
      refine OW.out.mono ?_
      rintro e w11 ⟨rfl, hb11⟩
      have HB11 := Lib.hid (HB10.out.trans (hb11.mono HB10.out.size))
      clear hb11 OW
      go_wp2_with fail
      go_ret
      exact ⟨rfl, HB11.out⟩
  | some j1 =>
    have HO1 := Lib.hid ho1
    clear ho1
    cases ho2 : nameB (lowT s2) with
    | none =>
      have HO2 := Lib.hid ho2
      clear ho2
      have N1 : Hid (Calls Tryz.prog 34 #[.string s1] W3 fun e w' => e = .returned (.tuple #[.string (nmB j1), .int .i64 0]) ∧ Below W3.heap.size W3 w') := Lib.hid (I.name s1 W3 HS1.out (I.keep HI.out HB3.out) (some j1) HO1.out)
      go_wp2_with fail
      refine N1.out.mono ?_
      rintro e w4 ⟨rfl, hb4⟩
      have HB4 := Lib.hid (HB3.out.trans (hb4.mono HB3.out.size))
      have N2 : Hid (Calls Tryz.prog 34 #[.string s2] w4 fun e w' => e = .returned (.tuple #[.string ⟨#[]⟩, .int .i64 6]) ∧ Below w4.heap.size w4 w') := Lib.hid (I.name s2 w4 HS2.out (I.keep HI.out HB4.out) (none) HO2.out)
      clear hb4 N1
      go_wp2_with fail
      refine N2.out.mono ?_
      rintro e w5 ⟨rfl, hb5⟩
      have HB5 := Lib.hid (HB4.out.trans (hb5.mono HB4.out.size))
      have OP := Lib.hid (I.openN w5 s1 s2 p HS1.out HS2.out (.inr HO2.out) (I.keep HI.out HB5.out))
      clear hb5 N2
      go_wp2_with fail
      refine OP.out.mono ?_
      rintro e w6 ⟨rfl, hb6⟩
      have HB6 := Lib.hid (HB5.out.trans (hb6.mono HB5.out.size))
      have OY := Lib.hid (I.openY w6 (nmB k1) (nmB k2) q k1 k2 (nm_low k1 HK.out.1).2.2 (nm_low k2 HK.out.2.1).2.2 (nmLow k1 HK.out.1) (nmLow k2 HK.out.2.1) HK.out.2.2.1 HK.out.2.2.2 (I.keep HI.out HB6.out))
      clear hb6 OP
      go_wp2_with fail
      refine OY.out.mono ?_
      rintro e w7 ⟨q2, rfl, hfr, -, hb7⟩
      have HB7 := Lib.hid (HB6.out.trans (hb7.mono HB6.out.size))
      have AP := Lib.hid (I.allP w7 k1 k2 7 HK.out.1 HK.out.2.1 (by decide) (I.keep HI.out HB7.out))
      have HFR := Lib.hid hfr
      clear hb7 hfr OY
      go_wp2_with fail
      refine AP.out.mono ?_
      rintro e w8 ⟨rfl, hb8⟩
      simp only [fltV, F0]
      have hb9 := below_allocS w8 (.cells #[.int .i64 0, .int .i64 0, .int .i64 0] 61)
      have hfr9 := I.frB (I.frB HFR.out hb8) hb9
      have HB9 := Lib.hid (HB7.out.trans ((hb8.trans (hb9.mono hb8.size)).mono HB7.out.size))
      have FA := Lib.hid (I.fault hfr9)
      have HF9 := Lib.hid hfr9
      have hq0 := flt_eq0
      clear hb8 hb9 hfr9 AP
      go_wp2_with fail
      refine FA.out.mono ?_
      rintro e w10 ⟨rfl, hb10⟩
      simp only [fltV, F0]
      have OW := Lib.hid (I.owed (I.frB HF9.out hb10))
      have HB10 := Lib.hid (HB9.out.trans (hb10.mono HB9.out.size))
      clear hb10 FA
      go_wp2_with fail
      refine OW.out.mono ?_
      rintro e w11 ⟨rfl, hb11⟩
      have HB11 := Lib.hid (HB10.out.trans (hb11.mono HB10.out.size))
      clear hb11 OW
      go_wp2_with fail
      go_ret
      exact ⟨rfl, HB11.out⟩
    | some j2 =>
      have HO2 := Lib.hid ho2
      clear ho2
      by_cases hp2 : 0 ≤ p
      · by_cases hp3 : p ≤ 2
        · have hn2 : ¬ p < 0 := by omega
          have hn3 : ¬ 2 < p := by omega
          have N1 : Hid (Calls Tryz.prog 34 #[.string s1] W3 fun e w' => e = .returned (.tuple #[.string (nmB j1), .int .i64 0]) ∧ Below W3.heap.size W3 w') := Lib.hid (I.name s1 W3 HS1.out (I.keep HI.out HB3.out) (some j1) HO1.out)
          go_wp2_with fail
          refine N1.out.mono ?_
          rintro e w4 ⟨rfl, hb4⟩
          have HB4 := Lib.hid (HB3.out.trans (hb4.mono HB3.out.size))
          have N2 : Hid (Calls Tryz.prog 34 #[.string s2] w4 fun e w' => e = .returned (.tuple #[.string (nmB j2), .int .i64 0]) ∧ Below w4.heap.size w4 w') := Lib.hid (I.name s2 w4 HS2.out (I.keep HI.out HB4.out) (some j2) HO2.out)
          clear hb4 N1
          go_wp2_with fail
          refine N2.out.mono ?_
          rintro e w5 ⟨rfl, hb5⟩
          have HB5 := Lib.hid (HB4.out.trans (hb5.mono HB4.out.size))
          have OP := Lib.hid (I.openY w5 s1 s2 p j1 j2 HS1.out HS2.out HO1.out HO2.out hp2 hp3 (I.keep HI.out HB5.out))
          clear hb5 N2
          go_wp2_with fail
          refine OP.out.mono ?_
          rintro e w6 ⟨q1, rfl, -, -, hb6⟩
          have HB6 := Lib.hid (HB5.out.trans (hb6.mono HB5.out.size))
          have OY := Lib.hid (I.openY w6 (nmB k1) (nmB k2) q k1 k2 (nm_low k1 HK.out.1).2.2 (nm_low k2 HK.out.2.1).2.2 (nmLow k1 HK.out.1) (nmLow k2 HK.out.2.1) HK.out.2.2.1 HK.out.2.2.2 (I.keep HI.out HB6.out))
          clear hb6 OP
          go_wp2_with fail
          refine OY.out.mono ?_
          rintro e w7 ⟨q2, rfl, hfr, -, hb7⟩
          have HB7 := Lib.hid (HB6.out.trans (hb7.mono HB6.out.size))
          have AP := Lib.hid (I.allP w7 k1 k2 7 HK.out.1 HK.out.2.1 (by decide) (I.keep HI.out HB7.out))
          have HFR := Lib.hid hfr
          clear hb7 hfr OY
          go_wp2_with fail
          refine AP.out.mono ?_
          rintro e w8 ⟨rfl, hb8⟩
          simp only [fltV, F0]
          have hb9 := below_allocS w8 (.cells #[.int .i64 0, .int .i64 0, .int .i64 0] 61)
          have hfr9 := I.frB (I.frB HFR.out hb8) hb9
          have HB9 := Lib.hid (HB7.out.trans ((hb8.trans (hb9.mono hb8.size)).mono HB7.out.size))
          have FA := Lib.hid (I.fault hfr9)
          have HF9 := Lib.hid hfr9
          have hq0 := flt_eq0
          clear hb8 hb9 hfr9 AP
          go_wp2_with fail
          refine FA.out.mono ?_
          rintro e w10 ⟨rfl, hb10⟩
          simp only [fltV, F0]
          have OW := Lib.hid (I.owed (I.frB HF9.out hb10))
          have HB10 := Lib.hid (HB9.out.trans (hb10.mono HB9.out.size))
          clear hb10 FA
          go_wp2_with fail
          refine OW.out.mono ?_
          rintro e w11 ⟨rfl, hb11⟩
          have HB11 := Lib.hid (HB10.out.trans (hb11.mono HB10.out.size))
          clear hb11 OW
          go_wp2_with fail
          go_ret
          exact ⟨rfl, HB11.out⟩
        · have hn2 : ¬ p < 0 := by omega
          have hn3 : 2 < p := by omega
          have N1 : Hid (Calls Tryz.prog 34 #[.string s1] W3 fun e w' => e = .returned (.tuple #[.string (nmB j1), .int .i64 0]) ∧ Below W3.heap.size W3 w') := Lib.hid (I.name s1 W3 HS1.out (I.keep HI.out HB3.out) (some j1) HO1.out)
          go_wp2_with fail
          refine N1.out.mono ?_
          rintro e w4 ⟨rfl, hb4⟩
          have HB4 := Lib.hid (HB3.out.trans (hb4.mono HB3.out.size))
          have N2 : Hid (Calls Tryz.prog 34 #[.string s2] w4 fun e w' => e = .returned (.tuple #[.string (nmB j2), .int .i64 0]) ∧ Below w4.heap.size w4 w') := Lib.hid (I.name s2 w4 HS2.out (I.keep HI.out HB4.out) (some j2) HO2.out)
          clear hb4 N1
          go_wp2_with fail
          refine N2.out.mono ?_
          rintro e w5 ⟨rfl, hb5⟩
          have HB5 := Lib.hid (HB4.out.trans (hb5.mono HB4.out.size))
          have OP := Lib.hid (I.openP w5 s1 s2 p j1 j2 HS1.out HS2.out HO1.out HO2.out (by omega) (I.keep HI.out HB5.out))
          clear hb5 N2
          go_wp2_with fail
          refine OP.out.mono ?_
          rintro e w6 ⟨rfl, hb6⟩
          have HB6 := Lib.hid (HB5.out.trans (hb6.mono HB5.out.size))
          have OY := Lib.hid (I.openY w6 (nmB k1) (nmB k2) q k1 k2 (nm_low k1 HK.out.1).2.2 (nm_low k2 HK.out.2.1).2.2 (nmLow k1 HK.out.1) (nmLow k2 HK.out.2.1) HK.out.2.2.1 HK.out.2.2.2 (I.keep HI.out HB6.out))
          clear hb6 OP
          go_wp2_with fail
          refine OY.out.mono ?_
          rintro e w7 ⟨q2, rfl, hfr, -, hb7⟩
          have HB7 := Lib.hid (HB6.out.trans (hb7.mono HB6.out.size))
          have AP := Lib.hid (I.allP w7 k1 k2 7 HK.out.1 HK.out.2.1 (by decide) (I.keep HI.out HB7.out))
          have HFR := Lib.hid hfr
          clear hb7 hfr OY
          go_wp2_with fail
          refine AP.out.mono ?_
          rintro e w8 ⟨rfl, hb8⟩
          simp only [fltV, F0]
          have hb9 := below_allocS w8 (.cells #[.int .i64 0, .int .i64 0, .int .i64 0] 61)
          have hfr9 := I.frB (I.frB HFR.out hb8) hb9
          have HB9 := Lib.hid (HB7.out.trans ((hb8.trans (hb9.mono hb8.size)).mono HB7.out.size))
          have FA := Lib.hid (I.fault hfr9)
          have HF9 := Lib.hid hfr9
          have hq0 := flt_eq0
          clear hb8 hb9 hfr9 AP
          go_wp2_with fail
          refine FA.out.mono ?_
          rintro e w10 ⟨rfl, hb10⟩
          simp only [fltV, F0]
          have OW := Lib.hid (I.owed (I.frB HF9.out hb10))
          have HB10 := Lib.hid (HB9.out.trans (hb10.mono HB9.out.size))
          clear hb10 FA
          go_wp2_with fail
          refine OW.out.mono ?_
          rintro e w11 ⟨rfl, hb11⟩
          have HB11 := Lib.hid (HB10.out.trans (hb11.mono HB10.out.size))
          clear hb11 OW
          go_wp2_with fail
          go_ret
          exact ⟨rfl, HB11.out⟩
      · have hn2 : p < 0 := by omega
        have N1 : Hid (Calls Tryz.prog 34 #[.string s1] W3 fun e w' => e = .returned (.tuple #[.string (nmB j1), .int .i64 0]) ∧ Below W3.heap.size W3 w') := Lib.hid (I.name s1 W3 HS1.out (I.keep HI.out HB3.out) (some j1) HO1.out)
        go_wp2_with fail
        refine N1.out.mono ?_
        rintro e w4 ⟨rfl, hb4⟩
        have HB4 := Lib.hid (HB3.out.trans (hb4.mono HB3.out.size))
        have N2 : Hid (Calls Tryz.prog 34 #[.string s2] w4 fun e w' => e = .returned (.tuple #[.string (nmB j2), .int .i64 0]) ∧ Below w4.heap.size w4 w') := Lib.hid (I.name s2 w4 HS2.out (I.keep HI.out HB4.out) (some j2) HO2.out)
        clear hb4 N1
        go_wp2_with fail
        refine N2.out.mono ?_
        rintro e w5 ⟨rfl, hb5⟩
        have HB5 := Lib.hid (HB4.out.trans (hb5.mono HB4.out.size))
        have OP := Lib.hid (I.openP w5 s1 s2 p j1 j2 HS1.out HS2.out HO1.out HO2.out (by omega) (I.keep HI.out HB5.out))
        clear hb5 N2
        go_wp2_with fail
        refine OP.out.mono ?_
        rintro e w6 ⟨rfl, hb6⟩
        have HB6 := Lib.hid (HB5.out.trans (hb6.mono HB5.out.size))
        have OY := Lib.hid (I.openY w6 (nmB k1) (nmB k2) q k1 k2 (nm_low k1 HK.out.1).2.2 (nm_low k2 HK.out.2.1).2.2 (nmLow k1 HK.out.1) (nmLow k2 HK.out.2.1) HK.out.2.2.1 HK.out.2.2.2 (I.keep HI.out HB6.out))
        clear hb6 OP
        go_wp2_with fail
        refine OY.out.mono ?_
        rintro e w7 ⟨q2, rfl, hfr, -, hb7⟩
        have HB7 := Lib.hid (HB6.out.trans (hb7.mono HB6.out.size))
        have AP := Lib.hid (I.allP w7 k1 k2 7 HK.out.1 HK.out.2.1 (by decide) (I.keep HI.out HB7.out))
        have HFR := Lib.hid hfr
        clear hb7 hfr OY
        go_wp2_with fail
        refine AP.out.mono ?_
        rintro e w8 ⟨rfl, hb8⟩
        simp only [fltV, F0]
        have hb9 := below_allocS w8 (.cells #[.int .i64 0, .int .i64 0, .int .i64 0] 61)
        have hfr9 := I.frB (I.frB HFR.out hb8) hb9
        have HB9 := Lib.hid (HB7.out.trans ((hb8.trans (hb9.mono hb8.size)).mono HB7.out.size))
        have FA := Lib.hid (I.fault hfr9)
        have HF9 := Lib.hid hfr9
        have hq0 := flt_eq0
        clear hb8 hb9 hfr9 AP
        go_wp2_with fail
        refine FA.out.mono ?_
        rintro e w10 ⟨rfl, hb10⟩
        simp only [fltV, F0]
        have OW := Lib.hid (I.owed (I.frB HF9.out hb10))
        have HB10 := Lib.hid (HB9.out.trans (hb10.mono HB9.out.size))
        clear hb10 FA
        go_wp2_with fail
        refine OW.out.mono ?_
        rintro e w11 ⟨rfl, hb11⟩
        have HB11 := Lib.hid (HB10.out.trans (hb11.mono HB10.out.size))
        clear hb11 OW
        go_wp2_with fail
        go_ret
        exact ⟨rfl, HB11.out⟩
end Go.Proofs.YtapnefjiecabpaaGreatDoor
