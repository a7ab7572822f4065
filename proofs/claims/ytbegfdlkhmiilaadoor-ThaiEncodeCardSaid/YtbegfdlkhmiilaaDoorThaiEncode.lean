/- ThaiEncode: the walk. -/
import Derived.Test.YtbegfdlkhmiilaaDoorThaiL
namespace Go.Proofs.YtbegfdlkhmiilaaDoor
set_option linter.unusedVariables false
open Go.RowKit
/-- what the law's inner loop has found behind K bytes -/
def wantF (x : Int) : Nat → Int × Bool
  | 0 => (0, false)
  | K + 1 => if (scF (K : Int)).2 = true ∧ (scF (K : Int)).1 = x then (K, true) else wantF x K
theorem wantF_from (x : Int) : ∀ K : Nat, K ≤ 256 → wantF x K = if (ecF x).2 = true ∧ (ecF x).1 < K then ecF x else (0, false) := by
  intro K
  induction K with
  | zero => intro _; unfold wantF ecF; (repeat' split) <;> first | rfl | (simp at *; done) | (simp only [] at *; omega)
  | succ K ih =>
    intro hK
    have ih := ih (by omega)
    unfold wantF
    rw [ih]
    unfold scF ecF
    (repeat' split) <;> first | rfl | (simp only [Prod.mk.injEq, and_true, Bool.true_eq_false, Bool.false_eq_true, and_false, false_and, not_false_eq_true, true_and] at *; omega) | (simp at *; omega) | (simp at *; done)
theorem wantF_all (x : Int) : wantF x 256 = ecF x := by
  rw [wantF_from x 256 (Nat.le_refl _)]
  unfold ecF
  (repeat' split) <;> first | rfl | (simp at *; omega) | (simp at *; done)
theorem wantF_range (x : Int) (K : Nat) (hK : K ≤ 256) : 0 ≤ (wantF x K).1 ∧ (wantF x K).1 ≤ 255 := by
  induction K with
  | zero => exact ⟨by simp [wantF], by simp [wantF]⟩
  | succ K ih => unfold wantF; split; exact ⟨by simp, by simp; omega⟩; exact ih (by omega)

set_option maxRecDepth 100000 in
set_option maxHeartbeats 3200000 in
theorem thaiEncode_any (s n : Int) (w : World) (h0 : -9223372036854775808 ≤ s ∧ s ≤ 9223372036854775807) (h1 : 0 ≤ n ∧ n ≤ 65535) (hh : HighAt w) :
    Calls Tryd.prog 4 #[.int .i64 s, .int .u16 n] w fun e w' => e = .returned (.bool true) ∧ Below w.heap.size w w' := by
  have A1 := Lib.hid (tawake7_any w hh)
  have k1 := h1.1
  have k2 := h1.2
  obtain ⟨a, ha⟩ : ∃ a, n % 300 = a := ⟨_, rfl⟩
  obtain ⟨b, hb⟩ : ∃ b, n % 120 = b := ⟨_, rfl⟩
  have a1 : 0 ≤ a := by omega
  have a2 : a < 300 := by omega
  have b1 : 0 ≤ b := by omega
  have b2 : b < 120 := by omega
  have H0 := Lib.hid h0
  clear hh h0 h1
  go_enter Tryd.func4, Tryd.ntmps4
  go_wp2_with fail
  refine A1.out.mono ?_
  rintro e w' ⟨rfl, rfl⟩
  go_wp2_with fail
  obtain ⟨R, hR⟩ : ∃ R, R = w'.heap.size := ⟨_, rfl⟩
  obtain ⟨W, hW⟩ : ∃ W, W = w'.alloc (.cells #[.int .i64 s, .int .i64 a, .int .i64 (3568 + b)] 3) := ⟨_, rfl⟩
  have q0 : ∀ o', W.cell? ⟨w'.heap.size, o', none⟩ = (#[.int .i64 s, .int .i64 a, .int .i64 (3568 + b)] : Array Value)[o']? := by intro o'; rw [hW]; exact World.cell?_alloc_new (w := w') _ _ o'
  have hbW : Below w'.heap.size w' W := by rw [hW]; exact (Below.refl _ _).alloc (Nat.le_refl _) _
  have Q : Hid (∀ K : Nat, K < 3 → ∃ x : Int, (-9223372036854775808 ≤ x ∧ x ≤ 9223372036854775807) ∧ W.cell? ⟨R, K, none⟩ = some (.int .i64 x)) := by
    have h0 := H0.out
    rw [hR]
    intro K hK
    rcases K with _ | K
    · exact ⟨s, h0, q0 0⟩
    rcases K with _ | K
    · exact ⟨a, by omega, q0 1⟩
    rcases K with _ | K
    · exact ⟨3568 + b, by omega, q0 2⟩
    omega
  rw [← hW, ← hR]
  have HBW := Lib.hid hbW
  clear hW q0 hbW hR H0 ha hb
  go_loopw [26] (fun i wr => ∃ K : Nat, K ≤ 3 ∧ i = .int .i64 K ∧ wr = W) (fun i _ => 3 - (intOf i).toNat)
  case atStart => exact ⟨0, by omega, rfl, rfl⟩
  case round =>
    obtain ⟨K, hK, rfl, rfl⟩ := hrel
    by_cases hKn : K = 3
    · subst hKn
      go_wp2_with fail
      go_ret
      exact ⟨rfl, HBW.out⟩
    have hK' : K < 3 := by omega
    obtain ⟨x, hx, hc⟩ := Q.out K hK'
    have k3 : (0 : Int) ≤ K := by omega
    have k4 : (K : Int) < 3 := by omega
    have X1 := Lib.hid hx.1
    have X2 := Lib.hid hx.2
    clear hx
    go_wp2_with fail
    go_loopw [7, 8, 9] (fun v b c wi => ∃ J : Nat, J ≤ 256 ∧ c = .int .i64 J ∧ v = .int .u8 (wantF x J).1 ∧ b = .bool (wantF x J).2 ∧ wi = wr) (fun _ _ c _ => 256 - (intOf c).toNat)
    case atStart => exact ⟨0, by omega, rfl, rfl, rfl, rfl⟩
    case round =>
      obtain ⟨J, hJ, rfl, rfl, rfl, rfl⟩ := hrel
      obtain ⟨v, b, hvb⟩ : ∃ v b, wantF x J = (v, b) := ⟨_, _, rfl⟩
      by_cases hJn : J = 256
      · have hec : Hid (ecF x = (v, b)) := by rw [← wantF_all, ← hJn, hvb]; exact Eq.refl (v, b)
        rw [hvb]
        have E1 := encode_any x wr X1.out X2.out
        rw [hec.out] at E1
        have E1 := Lib.hid E1
        subst hJn
        clear hvb
        go_wp2_with fail
        refine E1.out.mono ?_
        rintro e w' ⟨rfl, rfl⟩
        go_wp2_with fail
        go_roundw
        case rel => exact ⟨K + 1, by omega, by go_num, by trivial⟩
        case measure => simp [intOf]; omega
      have hJ' : J < 256 := by omega
      have j3 : (0 : Int) ≤ J := by omega
      have j4 : (J : Int) < 256 := by omega
      have HV := Lib.hid hvb
      obtain ⟨t, ok, hs⟩ : ∃ t ok, scF (J : Int) = (t, ok) := ⟨_, _, rfl⟩
      have D1 := scalarL_any J wr j3 (by omega)
      rw [hs] at D1
      have D1 := Lib.hid D1
      have HS : Hid (wantF x (J + 1) = if ok = true ∧ t = x then ((J : Int), true) else (v, b)) := by unfold wantF; rw [hs, hvb]; exact Eq.refl _
      rw [hvb]
      clear hs hvb
      go_wp2_with fail
      refine D1.out.mono ?_
      rintro e w' ⟨rfl, rfl⟩
      cases ok with
      | false =>
        go_wp2
        go_roundw
        case rel => exact ⟨J + 1, by omega, by go_num, by rw [HS.out]; rfl, by rw [HS.out]; rfl, by trivial⟩
        case measure => simp [intOf]; omega
      | true =>
        by_cases ht : t = x
        · have ht' : (t == x) = true := by simpa using ht
          have HT := Lib.hid ht
          clear ht
          go_wp2
          go_roundw
          case rel => exact ⟨J + 1, by omega, by go_num, by rw [HS.out, if_pos ⟨by trivial, HT.out⟩], by rw [HS.out, if_pos ⟨by trivial, HT.out⟩], by trivial⟩
          case measure => simp [intOf]; omega
        · have ht' : (t == x) = false := by simpa using ht
          have HT := Lib.hid ht
          clear ht
          go_wp2
          go_roundw
          case rel => exact ⟨J + 1, by omega, by go_num, by rw [HS.out, if_neg (fun h => HT.out h.2)], by rw [HS.out, if_neg (fun h => HT.out h.2)], by trivial⟩
          case measure => simp [intOf]; omega
end Go.Proofs.YtbegfdlkhmiilaaDoor
