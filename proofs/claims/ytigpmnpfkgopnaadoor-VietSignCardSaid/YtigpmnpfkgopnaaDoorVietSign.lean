/- VietSign: the walk. -/
import Derived.Test.YtigpmnpfkgopnaaDoorVietE
namespace Go.Proofs.YtigpmnpfkgopnaaDoor
set_option linter.unusedVariables false
set_option linter.unusedSimpArgs false
set_option linter.unnecessarySimpa false
open Go.RowKit Go.Shelf
attribute [local go_sem] run_store_complex

theorem mk_self (k : Nat) (h : k < 8) : feq (mkR k) (mkR k) = true ∧ feq (mkI k) (mkI k) = true := by
  have := all_range (show (List.range 8).all (fun k => feq (mkR k) (mkR k) && feq (mkI k) (mkI k)) = true by decide +kernel) k h
  simpa using this
theorem sgK_self (s : Int) : ∀ K, K ≤ 8 → feq (sgK K s).1 (sgK K s).1 = true ∧ feq (sgK K s).2.1 (sgK K s).2.1 = true
  | 0, _ => ⟨show feq 0 0 = true by decide +kernel, show feq 0 0 = true by decide +kernel⟩
  | K + 1, h => by
    unfold sgK
    split
    · exact mk_self K (by omega)
    · exact sgK_self s K (by omega)

set_option maxHeartbeats 3200000 in
theorem vietSign_any (s n : Int) (w : World) (hn : 0 ≤ n ∧ n ≤ 255) (hR : RowsV w) :
    Calls Tryd.prog 6 #[.int .i64 s, .int .u8 n] w fun e w' => e = .returned (.bool true) ∧ Below w.heap.size w w' := by
  have A0 := Lib.hid (tawake9_any w hR)
  obtain ⟨a, ha⟩ : ∃ a, n % 48 = a := ⟨_, rfl⟩
  have a0 : 0 ≤ a := by omega
  have a1 : a < 48 := by omega
  have hw : IntKind.i64.wrap (768 + a) = 768 + a := by rw [IntKind.wrap_i64]; omega
  clear hR
  go_enter Tryd.func6, Tryd.ntmps6
  go_wp2_with fail
  refine A0.out.mono ?_
  rintro e w1 ⟨rfl, hb1⟩
  have hs1 := hb1.size
  have HB1 := Lib.hid hb1
  clear hb1
  go_wp2_with fail
  refine (lmarks_any w1).mono ?_
  rintro e w2 ⟨rfl, hq1, hq2, hb2⟩
  obtain ⟨p, hp⟩ : ∃ p, w1.heap.size = p := ⟨_, rfl⟩
  rw [hp] at hq1 hq2 ⊢
  have hs2 : w.heap.size ≤ w2.heap.size := by have := hb2.size; omega
  have HB2 := Lib.hid (HB1.out.trans (hb2.mono hs1))
  have HQ1 := Lib.hid hq1
  have HQ2 := Lib.hid hq2
  have hl2 := hq2.lt
  clear hp hb2 hq1 hq2 HB1 hs1
  clear w1
  go_wp2_with fail
  obtain ⟨d, hd⟩ : ∃ d, 768 + a = d := ⟨_, rfl⟩
  rw [hd]
  have q := Held.new w2 #[.int .i64 s, .int .i64 d] 3
  have hb3 := HB2.out.alloc hs2 (.cells #[.int .i64 s, .int .i64 d] 3)
  have q3 := HQ1.out.alloc (.cells #[.int .i64 s, .int .i64 d] 3)
  have q4 := HQ2.out.alloc (.cells #[.int .i64 s, .int .i64 d] 3)
  obtain ⟨W2, hW2⟩ : ∃ W2, w2.alloc (.cells #[.int .i64 s, .int .i64 d] 3) = W2 := ⟨_, rfl⟩
  obtain ⟨g, hg⟩ : ∃ g, w2.heap.size = g := ⟨_, rfl⟩
  rw [hW2] at q hb3 q3 q4 ⊢
  rw [hg] at q ⊢
  have HQ := Lib.hid q
  have HB3 := Lib.hid hb3
  have HS := Lib.hid q3
  have HZ := Lib.hid q4
  have hcell : ∀ k, k < 2 → ∃ x, (#[Value.int .i64 s, .int .i64 d])[k]? = some (.int .i64 x) := by
    intro k hk
    match k, hk with
    | 0, _ => exact ⟨s, rfl⟩
    | 1, _ => exact ⟨d, rfl⟩
  have HC := Lib.hid hcell
  clear hW2 hg q hb3 q3 q4 HQ1 HQ2 HB2 hcell hw hd ha A0 hs2 hl2
  clear w2
  go_loopw [27] (fun i wr => ∃ I : Nat, I ≤ 2 ∧ i = .int .i64 I ∧ wr = W2) (fun i _ => 2 - (intOf i).toNat)
  case atStart => exact ⟨0, by omega, rfl, rfl⟩
  case round =>
    obtain ⟨I, hI, rfl, hwr⟩ := hrel
    subst hwr
    by_cases hI3 : I = 2
    · subst hI3
      go_wp2
      go_ret
      exact ⟨rfl, HB3.out⟩
    have hI' : I < 2 := by omega
    have hIi : (I : Int) < 2 := by omega
    have hIi0 : (0 : Int) ≤ I := by omega
    obtain ⟨x, hx⟩ := HC.out I hI'
    have cx := (HQ.out.cell I).trans hx
    obtain ⟨e1, e2⟩ := sgK_self x 8 (by omega)
    have HS1 := Lib.hid (sign_any x wr)
    have hf1 := ord_eq (sgK 8 x).1 (sgK 8 x).1
    have hf2 := ord_eq (sgK 8 x).2.1 (sgK 8 x).2.1
    rw [e1] at hf1
    rw [e2] at hf2
    obtain ⟨r8, hr8⟩ : ∃ z, (sgK 8 x).1 = z := ⟨_, rfl⟩
    obtain ⟨i8, hi8⟩ : ∃ z, (sgK 8 x).2.1 = z := ⟨_, rfl⟩
    obtain ⟨b8, hb8⟩ : ∃ z, (sgK 8 x).2.2 = z := ⟨_, rfl⟩
    have H8 := Lib.hid (show sgK 8 x = (r8, i8, b8) by rw [← hr8, ← hi8, ← hb8])
    rw [hr8] at hf1
    rw [hi8] at hf2
    rw [hr8, hi8, hb8] at HS1
    have hbb : (b8 != b8) = false := by simp
    clear hx e1 e2 hr8 hi8 hb8
    go_wp2_with fail
    refine HS1.out.mono ?_
    rintro e w2 ⟨rfl, h⟩
    subst h
    go_wp2_with fail
    obtain ⟨wo, hwo⟩ : ∃ wo : World, wo = w2 := ⟨_, rfl⟩
    go_loopw [11, 12, 38] (fun z b k wi => ∃ K : Nat, K ≤ 8 ∧ k = .int .i64 K ∧ z = .complex .f64 (sgK K x).1 (sgK K x).2.1 ∧ b = .bool (sgK K x).2.2 ∧ wi = w2) (fun _ _ k _ => 8 - (intOf k).toNat)
    case atStart => exact ⟨0, by omega, rfl, rfl, rfl, rfl⟩
    case round =>
      obtain ⟨K, hK, rfl, rfl, rfl, hwi⟩ := hrel
      subst hwi
      by_cases hK8 : K = 8
      · subst hK8
        rw [H8.out]
        go_wp2
        go_roundw
        case rel => exact ⟨I + 1, by omega, by go_num, by trivial⟩
        case measure => simp [intOf]; omega
      have hK' : K < 8 := by omega
      have hKi : (K : Int) < 8 := by omega
      have hKi0 : (0 : Int) ≤ K := by omega
      have k0 : wr.cell? ⟨p, K, none⟩ = some (.int .i64 (mkS K)) := by rw [HS.out.cell]; simp [hK']
      have k1 : wr.cell? ⟨p + 1, K, none⟩ = some (.complex .f64 (mkR K) (mkI K)) := by rw [HZ.out.cell]; simp [hK']
      have hst : sgK (K + 1) x = if mkS K == x then (mkR K, mkI K, true) else sgK K x := rfl
      obtain ⟨m, hm⟩ : ∃ m, mkS K = m := ⟨_, rfl⟩
      rw [hm] at k0 hst
      clear hm
      cases hmx : (m == x) with
      | true =>
        rw [hmx] at hst
        have HST := Lib.hid (show sgK (K + 1) x = (mkR K, mkI K, true) from hst)
        clear hst
        go_wp2
        go_roundw
        case rel => exact ⟨K + 1, by omega, by go_num, by rw [HST.out], by rw [HST.out], by trivial⟩
        case measure => simp [intOf]; omega
      | false =>
        rw [hmx] at hst
        have HST := Lib.hid (show sgK (K + 1) x = sgK K x from hst)
        clear hst
        go_wp2
        go_roundw
        case rel => exact ⟨K + 1, by omega, by go_num, by rw [HST.out], by rw [HST.out], by trivial⟩
        case measure => simp [intOf]; omega
end Go.Proofs.YtigpmnpfkgopnaaDoor
