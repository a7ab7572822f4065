/- Layer 9: floats: equality with small whole numbers; a sum that may be no number. -/
import Derived.Test.YtgjmclbcmfkhdaaDoorVietN
namespace Go.Proofs.YtgjmclbcmfkhdaaDoor
set_option linter.unusedVariables false
set_option linter.unusedSimpArgs false
set_option linter.unnecessarySimpa false
open Go.RowKit

/-- equality of float64 -/
def feq (a b : Nat) : Bool := FloatKind.f64.format.order a b == some .eq

theorem cmp_eq {a b : Int} (h : compare a b = .eq) : a = b := by
  rw [Int.compare_eq_ite_lt] at h
  split at h
  · cases h
  · split at h
    · cases h
    · omega
theorem cmp_self (a : Int) : compare a a = .eq := by
  rw [Int.compare_eq_ite_lt]; simp
theorem order_eq {x y : Ieee.Datum} (h : x.order y = some .eq) :
    (∃ s, x = .infinity s ∧ y = .infinity s) ∨ ∃ s m i t n j, x = .number s m i ∧ y = .number t n j ∧ Ieee.signed s m (i - min i j).toNat = Ieee.signed t n (j - min i j).toNat := by
  cases x with
  | nan a b => cases y <;> simp [Ieee.Datum.order] at h
  | infinity s =>
    cases y with
    | nan a b => simp [Ieee.Datum.order] at h
    | infinity t =>
      left
      cases s <;> cases t <;> first | exact ⟨_, rfl, rfl⟩ | (exfalso; revert h; decide)
    | number t n j => cases s <;> simp [Ieee.Datum.order] at h
  | number s m i =>
    cases y with
    | nan a b => simp [Ieee.Datum.order] at h
    | infinity t => cases t <;> simp [Ieee.Datum.order] at h
    | number t n j =>
      right
      simp only [Ieee.Datum.order, Option.some.injEq] at h
      exact ⟨s, m, i, t, n, j, rfl, rfl, cmp_eq h⟩
theorem order_comm_eq {x y : Ieee.Datum} (h : x.order y = some .eq) : y.order x = some .eq := by
  rcases order_eq h with ⟨s, rfl, rfl⟩ | ⟨s, m, i, t, n, j, rfl, rfl, e⟩
  · exact h
  · simp only [Ieee.Datum.order, Option.some.injEq]
    rw [Int.min_comm j i, e]
    exact cmp_self _
theorem order_self_eq {x y : Ieee.Datum} (h : x.order y = some .eq) : x.order x = some .eq := by
  rcases order_eq h with ⟨s, rfl, rfl⟩ | ⟨s, m, i, t, n, j, rfl, rfl, e⟩
  · exact h
  · simp only [Ieee.Datum.order, Option.some.injEq]
    exact cmp_self _
theorem feq_iff {a b : Nat} : feq a b = true ↔ (FloatKind.f64.format.read a).order (FloatKind.f64.format.read b) = some .eq := by
  unfold feq
  rw [beq_iff_eq]
  exact Iff.rfl
theorem feq_comm (a b : Nat) : feq a b = feq b a := by
  rw [Bool.eq_iff_iff, feq_iff, feq_iff]
  exact ⟨order_comm_eq, order_comm_eq⟩
theorem feq_self {a b : Nat} (h : feq a b = true) : feq a a = true := feq_iff.2 (order_self_eq (feq_iff.1 h))
theorem signed_scale (s : Bool) (m a b : Nat) : Ieee.signed s m (a + b) = Ieee.signed s m a * 2 ^ b := by
  unfold Ieee.signed
  simp only [Nat.shiftLeft_eq, Nat.pow_add]
  cases s <;> simp [Int.mul_assoc, Int.neg_mul]

/-- what a float that equals m stands for -/
def FIs (a m : Nat) : Prop := ∃ s n i, FloatKind.f64.format.read a = .number s n i ∧ Ieee.signed s n (i - min i (-1074)).toNat = (m : Int) * 2 ^ (-(min i (-1074))).toNat
theorem fis_of {a m : Nat} (P : Int) (M : Nat) (hr : FloatKind.f64.format.read (fl m) = .number false M P) (hP : -1074 ≤ P) (hM : Ieee.signed false M (P + 1074).toNat = (m : Int) * 2 ^ 1074) (h : feq a (fl m) = true) : FIs a m := by
  rcases order_eq (feq_iff.1 h) with ⟨s, _, e⟩ | ⟨s, n, i, t, n', j, e1, e2, e⟩
  · rw [hr] at e; cases e
  · rw [hr] at e2
    injection e2 with t1 t2 t3
    subst t1 t2 t3
    refine ⟨s, n, i, e1, ?_⟩
    have k1 : (i - min i (-1074)).toNat = (i - min i P).toNat + (min i P - min i (-1074)).toNat := by omega
    have k2 : (P - min i (-1074)).toNat = (P - min i P).toNat + (min i P - min i (-1074)).toNat := by omega
    have k3 : (P - min i (-1074)).toNat = (P + 1074).toNat + (-1074 - min i (-1074)).toNat := by omega
    have k4 : (-(min i (-1074))).toNat = 1074 + (-1074 - min i (-1074)).toNat := by omega
    rw [k1, signed_scale, e, ← signed_scale, ← k2, k3, signed_scale, hM, k4, Int.mul_assoc, ← Int.pow_add]
theorem fis_fl {a m : Nat} (hm : m ≤ 6) (h : feq a (fl m) = true) : FIs a m := by
  match m, hm with
  | 0, _ => exact fis_of (-1074) 0 (by kernel_rfl) (by decide) (by decide +kernel) h
  | 1, _ => exact fis_of (-52) (2 ^ 52) (by kernel_rfl) (by decide) (by decide +kernel) h
  | 2, _ => exact fis_of (-51) (2 ^ 52) (by kernel_rfl) (by decide) (by decide +kernel) h
  | 3, _ => exact fis_of (-51) (3 * 2 ^ 51) (by kernel_rfl) (by decide) (by decide +kernel) h
  | 4, _ => exact fis_of (-50) (2 ^ 52) (by kernel_rfl) (by decide) (by decide +kernel) h
  | 5, _ => exact fis_of (-50) (5 * 2 ^ 50) (by kernel_rfl) (by decide) (by decide +kernel) h
  | 6, _ => exact fis_of (-50) (6 * 2 ^ 50) (by kernel_rfl) (by decide) (by decide +kernel) h
theorem fis_inj {a m n : Nat} (h : FIs a m) (k : FIs a n) : m = n := by
  obtain ⟨s, u, i, e1, e⟩ := h
  obtain ⟨s', u', i', e1', e'⟩ := k
  rw [e1] at e1'
  injection e1' with t1 t2 t3
  subst t1 t2 t3
  rw [e] at e'
  have h2 : (2 : Int) ^ (-(min i (-1074))).toNat ≠ 0 := by
    have : (0 : Int) < 2 ^ (-(min i (-1074))).toNat := Int.pow_pos (by decide)
    omega
  have := Int.eq_of_mul_eq_mul_right h2 e'
  omega
/-- a float equals one small whole number at most -/
theorem feq_inj {a m n : Nat} (hm : m ≤ 6) (hn : n ≤ 6) (h : feq a (fl m) = true) (k : feq a (fl n) = true) : m = n := fis_inj (fis_fl hm h) (fis_fl hn k)
theorem feq_fl_self (m : Nat) (hm : m ≤ 6) : feq (fl m) (fl m) = true := by
  match m, hm with
  | 0, _ => decide +kernel
  | 1, _ => decide +kernel
  | 2, _ => decide +kernel
  | 3, _ => decide +kernel
  | 4, _ => decide +kernel
  | 5, _ => decide +kernel
  | 6, _ => decide +kernel
theorem feq_fl (m n : Nat) (hm : m ≤ 6) (hn : n ≤ 6) : feq (fl m) (fl n) = (m == n) := by
  cases h : feq (fl m) (fl n) with
  | true => rw [feq_inj hm hn (feq_fl_self m hm) h]; simp
  | false =>
    cases e : m == n with
    | false => rfl
    | true => rw [eq_of_beq e, feq_fl_self n hn] at h; cases h

/-- letter k fits a base and a sign -/
def jnP (b : Int) (re im : Nat) (k : Nat) : Bool := b == LB k && (feq re (fl (LM k)) && feq im (fl (LT k)))
theorem jnP_inj {b : Int} {re im : Nat} (i j : Nat) (hi : i < 148) (hj : j < 148) (h1 : jnP b re im i = true) (h2 : jnP b re im j = true) : i = j := by
  unfold jnP at h1 h2
  simp only [Bool.and_eq_true, beq_iff_eq] at h1 h2
  have hi' := letter_small i hi
  have hj' := letter_small j hj
  exact LK_inj i j hi hj (by rw [← h1.1, ← h2.1]) (feq_inj (by omega) (by omega) h1.2.1 h2.2.1) (feq_inj (by omega) (by omega) h1.2.2 h2.2.2)
theorem join_same (b : Int) (re im : Nat) : findP (jnP b re im) = findL (jnP b re im) := find_same fun i j hi hj h1 h2 => jnP_inj i j hi hj h1 h2
theorem jnP_self (k : Nat) (hk : k < 148) : jnP (LB k) (fl (LM k)) (fl (LT k)) k = true := by
  have h := letter_small k hk
  unfold jnP
  rw [feq_fl_self _ (by omega), feq_fl_self _ (by omega)]
  simp
theorem join_of (k : Nat) (hk : k < 148) : findP (jnP (LB k) (fl (LM k)) (fl (LT k))) = some k :=
  findP_some hk (jnP_self k hk) fun j hj h => jnP_inj j k hj hk h (jnP_self k hk)

/-! sums -/
theorem fread_nan (x : Nat) (h : 9218868437227405312 < x % 9223372036854775808) : ∃ s t, FloatKind.f64.format.read x = .nan s t := by
  have e1 : FloatKind.f64.format.signWeight = 9223372036854775808 := by decide +kernel
  have e2 : FloatKind.f64.format.binade = 4503599627370496 := by decide +kernel
  have e3 : FloatKind.f64.format.infRung = 9218868437227405312 := by decide +kernel
  simp only [Ieee.Format.read]
  split
  · rename_i h1; rw [e1, e2] at h1; omega
  · split
    · rename_i h1; rw [e1, e3] at h1; omega
    · split
      · rename_i h1; rw [e1, e3] at h1; omega
      · exact ⟨_, _, rfl⟩
theorem feq_nan {x : Nat} (h : 9218868437227405312 < x % 9223372036854775808) (z : Nat) : feq x z = false := by
  obtain ⟨s, t, e⟩ := fread_nan x h
  cases k : feq x z with
  | false => rfl
  | true =>
    have := feq_iff.1 k
    rw [e] at this
    cases hz : FloatKind.f64.format.read z <;> rw [hz] at this <;> simp [Ieee.Datum.order] at this
/-- what a + c may be -/
def SumIs (a c r : Nat) : Prop := floatBits .add .f64 a c = some r ∨ (floatBits .add .f64 a c = none ∧ ∀ z, feq r z = false)
theorem SumIs.same {a c r r' z : Nat} (h : SumIs a c r) (k : SumIs a c r') (hz : feq r z = true) : r = r' ∧ floatBits .add .f64 a c = some r := by
  rcases h with h | ⟨_, h⟩
  · rcases k with k | ⟨k, _⟩
    · rw [h] at k; injection k with k; exact ⟨k, h⟩
    · rw [h] at k; cases k
  · rw [h z] at hz; cases hz
theorem SumIs.eqv {a c r r' z : Nat} (h : SumIs a c r) (k : SumIs a c r') : feq r z = feq r' z := by
  rcases h with h | ⟨h1, h⟩ <;> rcases k with k | ⟨k1, k⟩
  · rw [h] at k; injection k with k; rw [k]
  · rw [h] at k1; cases k1
  · rw [k] at h1; cases h1
  · rw [h, k]
section
variable {P : Program} (w : World)
theorem run_fadd (a c : Nat) : ∃ r m, m ≤ 1 ∧ (Op.Complex.arith .add .f64 a c).run P w = .ok r (w.drewN m) ∧ SumIs a c r := by
  cases h : floatBits .add .f64 a c with
  | some r => exact ⟨r, 0, by omega, run_carith w h, .inl h⟩
  | none =>
    refine ⟨(Question.nanBits .f64 a c).cut (w.tape w.drawn (.nanBits .f64 a c)), 1, by omega, ?_, .inr ⟨h, fun z => feq_nan ?_ z⟩⟩
    · have h' : FloatKind.f64.format.add a c = none := h
      simp [Op.Complex.arith, Op.floatArith, h', Question.forced, World.drewN]
    · simp only [Question.cut, Nat.reducePow, Nat.reduceSub]
      obtain ⟨r, hr⟩ : ∃ r, w.tape w.drawn (Question.nanBits FloatKind.f64 a c) / 2 % 4503599627370495 = r := ⟨_, rfl⟩
      obtain ⟨u, hu⟩ : ∃ u, w.tape w.drawn (Question.nanBits FloatKind.f64 a c) % 2 = u := ⟨_, rfl⟩
      rw [hr, hu]
      have h1 : r < 4503599627370495 := by omega
      have h2 : u < 2 := by omega
      clear hr hu
      match u, h2 with
      | 0, _ => omega
      | 1, _ => omega
theorem run_cadd (t : TypeId) (a b c d : Nat) : ∃ re im m, m ≤ 2 ∧ (binOp .add t (.complex .f64 a b) (.complex .f64 c d)).run P w = .ok (.complex .f64 re im) (w.drewN m) ∧ SumIs a c re ∧ SumIs b d im := by
  obtain ⟨re, m, hm, h1, h2⟩ := run_fadd (P := P) w a c
  obtain ⟨im, n, hn, h3, h4⟩ := run_fadd (P := P) (w.drewN m) b d
  refine ⟨re, im, m + n, by omega, ?_, h2, h4⟩
  simp [binOp, Op.complexOp, h1, h3, World.drewN_drewN]
end
end Go.Proofs.YtgjmclbcmfkhdaaDoor
