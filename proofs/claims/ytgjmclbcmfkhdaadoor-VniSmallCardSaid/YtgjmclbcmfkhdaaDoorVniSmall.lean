/- VniSmall: the walk. -/
import Derived.Test.YtgjmclbcmfkhdaaDoorVnE
import Derived.Test.YtgjmclbcmfkhdaaDoorVnK
namespace Go.Proofs.YtgjmclbcmfkhdaaDoor
set_option linter.unusedVariables false
set_option linter.unusedSimpArgs false
set_option linter.unnecessarySimpa false
open Go.RowKit Go.Shelf
attribute [local go_sem] run_store_complex
set_option maxRecDepth 100000 in
set_option maxHeartbeats 3200000 in
theorem vniSmall_any (n : Int) (re im : Nat) (w : World) (hn : 0 ≤ n ∧ n ≤ 255) (hT : TabN w) :
    Calls Tryd.prog 3 #[.int .u8 n, .float .f64 re, .float .f64 im] w fun e w' => e = .returned (.bool true) ∧ Below w.heap.size w w' := by
  have A0 := Lib.hid (awake13_any w hT)
  have HT := Lib.hid hT
  have n0 := hn.1
  have n1 := hn.2
  have hw1 : IntKind.i64.wrap n = n := by rw [IntKind.wrap_i64]; omega
  obtain ⟨K, hK⟩ : ∃ K : Nat, n % 74 = (K : Int) := ⟨(n % 74).toNat, by omega⟩
  have hK74 : K < 74 := by omega
  have hKt : n.tmod 74 = (K : Int) := by rw [Int.tmod_eq_emod_of_nonneg n0]; exact hK
  have D1 := Lib.hid (fun W => letter_at13 K (by omega) W)
  have M1 := Lib.hid (fun W h => vnsmall_at K hK74 W h)
  have M2 := Lib.hid (fun W => lsmall_any K hK74 W)
  have J1 := Lib.hid (fun W h => join_any (LB K) re im W h)
  have M3 := Lib.hid (fun W h hj => vnsmall_no (LB K) re im W h hj)
  have hln := vnL_len K (by omega)
  rw [vnletV] at M1
  obtain ⟨L, hLe⟩ : ∃ v, vnL K = v := ⟨_, rfl⟩
  obtain ⟨s, hs⟩ : ∃ v, LS K = v := ⟨_, rfl⟩
  obtain ⟨bx, hbx⟩ : ∃ v, LB K = v := ⟨_, rfl⟩
  obtain ⟨rx, hrx⟩ : ∃ v, fl (LM K) = v := ⟨_, rfl⟩
  obtain ⟨ix, hix⟩ : ∃ v, fl (LT K) = v := ⟨_, rfl⟩
  rw [hbx, hrx, hix, hs] at D1
  rw [hbx, hrx, hix, hLe] at M1
  rw [hLe] at M2 hln
  rw [hbx] at J1 M3
  clear hT hn hLe hs hbx hrx hix
  go_enter Tryd.func3, Tryd.ntmps3
  go_wp2_with fail
  refine A0.out.mono ?_
  rintro e w1 ⟨rfl, hb1⟩
  have hs1 := hb1.size
  have HB1 := Lib.hid hb1
  clear hb1 A0
  go_wp2_with fail
  refine (D1.out w1).mono ?_
  rintro e w2 ⟨rfl, hb2⟩
  have HB2 := Lib.hid ((HB1.out.trans (hb2.mono hs1)).alloc (by have := hb2.size; omega) (.cells #[.int .i64 bx, .complex .f64 rx ix] 26))
  have HQ2 := Lib.hid (Held.new w2 #[.int .i64 bx, .complex .f64 rx ix] 26)
  obtain ⟨p, hp⟩ : ∃ p, w2.heap.size = p := ⟨_, rfl⟩
  obtain ⟨W2, hW2⟩ : ∃ W2, w2.alloc (.cells #[.int .i64 bx, .complex .f64 rx ix] 26) = W2 := ⟨_, rfl⟩
  rw [hW2] at HB2 HQ2
  rw [hp] at HQ2
  have c0 := HQ2.out.cell 0
  have c1 := HQ2.out.cell 1
  have hp2 := HQ2.out.lt
  have hs2 := HB2.out.size
  clear hb2 HB1 D1
  go_wp2_with fail
  refine (M1.out _ (HT.out.below HB2.out)).mono ?_
  rintro e w3 ⟨v3, rfl, hI3, hb3⟩
  obtain ⟨A3, c3, rfl, -, -⟩ := hI3.form
  have hs3 := hb3.size
  have HR3 := Lib.hid hI3.rd
  have HB3 := Lib.hid (HB2.out.trans (hb3.mono hs2))
  have HQ3 := Lib.hid (HQ2.out.below hb3 hp2)
  clear hI3 hb3 HB2 HQ2 c0 c1 hp hW2
  go_wp2_with fail
  refine (M2.out w3).mono ?_
  rintro e w4 ⟨v4, rfl, hI4, hb4⟩
  obtain ⟨A4, c4, rfl, -, -⟩ := hI4.form
  have hs4 := hb4.size
  have HB4 := Lib.hid (HB3.out.trans (hb4.mono (by omega)))
  have HQ4 := Lib.hid (HQ3.out.below hb4 (by omega))
  obtain ⟨m, hm⟩ : ∃ m, L.length = m := ⟨_, rfl⟩
  have U1 := Lib.hid (units_any m m A3 A4 c3 c4 L L w4 rfl hm.symm hm.symm (HR3.out.below hb4) hI4.rd (by omega))
  rw [hm]
  clear hI4 hb4 HB3 HQ3 HR3 M1 M2 hm hln
  go_wp2_with fail
  refine U1.out.mono ?_
  rintro e w5 ⟨rfl, hb5⟩
  have hs5 := hb5.size
  have HB5 := Lib.hid (HB4.out.trans (hb5.mono (by omega)))
  have HQ5 := Lib.hid (HQ4.out.below hb5 (by omega))
  have d0 := HQ5.out.cell 0
  have hp5 := HQ5.out.lt
  clear hb5 HB4 HQ4 U1
  go_wp2_with fail
  have HB6 := Lib.hid (HB5.out.alloc (by omega) (.cells #[.int .i64 bx, .complex .f64 re im] 26))
  have HQ6 := Lib.hid (Held.new w5 #[.int .i64 bx, .complex .f64 re im] 26)
  have hs6 : w.heap.size ≤ (w5.alloc (.cells #[.int .i64 bx, .complex .f64 re im] 26)).heap.size := HB6.out.size
  refine (J1.out _ (HT.out.below HB6.out).rows).mono ?_
  rintro e w7 ⟨rfl, hb7⟩
  have HB7 := Lib.hid (HB6.out.trans (hb7.mono hs6))
  have HQ7 := Lib.hid (HQ6.out.below hb7 HQ6.out.lt)
  have e0 := HQ7.out.cell 0
  have e1 := HQ7.out.cell 1
  have hs7 := HB7.out.size
  obtain ⟨q, hq⟩ : ∃ q, w5.heap.size = q := ⟨_, rfl⟩
  rw [hq] at e0 e1 ⊢
  clear hb7 HQ6 HB6 HB5 d0 hs6 HQ7 hq
  cases hj : joinF bx re im with
  | some k =>
    rw [show (some k : Option Nat).isSome = true from rfl]
    clear J1 M3 hj
    go_wp2_with fail
    go_ret
    exact ⟨rfl, HB7.out⟩
  | none =>
    rw [show (none : Option Nat).isSome = false from rfl]
    have M4 := Lib.hid (fun W h => M3.out W h hj)
    clear J1 M3 hj
    go_wp2_with fail
    refine (M4.out _ (HT.out.below HB7.out)).mono ?_
    rintro e w8 ⟨rfl, hb8⟩
    have HB8 := Lib.hid (HB7.out.trans (hb8.mono hs7))
    clear hb8 HB7
    go_wp2_with fail
    go_ret
    exact ⟨rfl, HB8.out⟩
end Go.Proofs.YtgjmclbcmfkhdaaDoor
