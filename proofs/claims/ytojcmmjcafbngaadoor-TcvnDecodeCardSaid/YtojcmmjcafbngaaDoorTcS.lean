/- Layer 12: the law's scalar. -/
import Derived.Test.YtojcmmjcafbngaaDoorTcL
namespace Go.Proofs.YtojcmmjcafbngaaDoor
set_option linter.unusedVariables false
set_option linter.unusedSimpArgs false
set_option linter.unnecessarySimpa false
open Go.RowKit
theorem ret_ibS {k : IntKind} {a c : Int} {b d : Bool} (h1 : a = c) (h2 : b = d) : Ending.returned (.tuple #[.int k c, .bool d]) = .returned (.tuple #[.int k a, .bool b]) := by
  rw [h1, h2]
set_option maxRecDepth 100000 in
set_option maxHeartbeats 3200000 in
theorem lscal_any (c : Nat) (w : World) (h1 : c < 256) :
    Calls Tryd.prog 11 #[.int .i64 (c : Int)] w fun e w' => e = .returned (.tuple #[.int .i64 (tcD c), .bool (tcK c)]) ∧ Below w.heap.size w w' := by
  by_cases hl : c < 128
  · have n1 : (c : Int) < 128 := by omega
    rw [tcD_low c hl, tcK_low c hl]
    clear hl h1
    go_enter Tryd.func11, Tryd.ntmps11
    go_wp2_with fail
    go_ret2
    exact ⟨rfl, Below.refl _ _⟩
  have n1 : ¬ (c : Int) < 128 := by omega
  have T1 := Lib.hid (tcrows_any w)
  go_enter Tryd.func11, Tryd.ntmps11
  go_wp2_with fail
  refine T1.out.mono ?_
  rintro e w1 ⟨rfl, hq, hb1⟩
  obtain ⟨g, hg⟩ : ∃ g, w.heap.size = g := ⟨_, rfl⟩
  have HQ := Lib.hid hq
  have HB := Lib.hid hb1
  rw [hg] at HQ ⊢
  have hgl := HQ.out.lt
  clear hq hb1 hg T1
  go_wp2_with fail
  go_loopw [11] (fun i wr => ∃ K : Nat, K ≤ 74 ∧ i = .int .i64 K ∧ Hid (∀ k, k < K → (tcRowL.getD k (0, 0)).1 ≠ (c : Int)) ∧ Hid (Held wr g tcTab 37) ∧ Hid (Below w.heap.size w wr)) (fun i _ => 74 - (intOf i).toNat)
  case atStart => exact ⟨0, by omega, rfl, Lib.hid (fun k h => absurd h (by omega)), HQ, HB⟩
  case round =>
    clear HQ HB hgl
    obtain ⟨K, hK, rfl, hn, HQ, HB⟩ := hrel
    by_cases hK2 : K = 74
    · subst hK2
      have hno : tcK c = false := by
        cases e : tcK c with
        | false => rfl
        | true =>
          obtain ⟨j, hj, he⟩ := tcRow_has c h1 (by omega) e
          exact absurd he (hn.out j hj)
      have E := Lib.hid (And.intro (tcK_no hno) hno)
      clear hn hno
      go_wp2_with fail
      go_ret2
      exact ⟨ret_ibS E.out.1 E.out.2, HB.out⟩
    have hK' : K < 74 := by omega
    have k3 : (0 : Int) ≤ K := by omega
    have k4 : (K : Int) < 74 := by omega
    obtain ⟨t0, t1⟩ := tcTab_at K hK'
    have c0 := (HQ.out.cell (K * 2)).trans t0
    have c1 := (HQ.out.cell (K * 2 + 1)).trans t1
    have hql := HQ.out.lt
    have hbs := HB.out.size
    obtain ⟨r, hr, hr1, hr2, hr3⟩ := tcRow_at K hK'
    rw [hr] at c0 c1
    have HR := Lib.hid hr
    by_cases hs : r = c
    · subst hs
      have E := Lib.hid hr3
      have hb : ((r : Int) == (r : Int)) = true := by simp
      obtain ⟨d, hd⟩ : ∃ d, tcD r = d := ⟨_, rfl⟩
      rw [hd] at c1
      have HD := Lib.hid hd
      have HBn := Lib.hid (HB.out.alloc hbs (.cells #[.int .i64 (r : Int), .int .i64 d] 37))
      clear t0 t1 hr hr3 hn hd
      go_wp2_with fail
      go_ret2
      exact ⟨ret_ibS HD.out E.out, HBn.out⟩
    · have hN := Lib.hid (show ∀ k, k < K + 1 → (tcRowL.getD k (0, 0)).1 ≠ (c : Int) from fun k hk => by
        rcases Nat.lt_or_ge k K with h | h
        · exact hn.out k h
        · obtain rfl : k = K := by omega
          rw [HR.out]; exact fun e => hs (by have : (r : Int) = c := e; omega))
      have hb : ((r : Int) == (c : Int)) = false := by
        have : (r : Int) ≠ c := by omega
        simpa using this
      obtain ⟨d, hd⟩ : ∃ d, tcD r = d := ⟨_, rfl⟩
      rw [hd] at c1
      have HBn := Lib.hid (HB.out.alloc hbs (.cells #[.int .i64 (r : Int), .int .i64 d] 37))
      have HQn := Lib.hid (HQ.out.alloc (.cells #[.int .i64 (r : Int), .int .i64 d] 37))
      clear t0 t1 hr hr3 hn hd hs
      go_wp2_with fail
      go_roundw
      case rel => exact ⟨K + 1, by omega, by go_num, hN, HQn, HBn⟩
      case measure => simp [intOf]; omega
end Go.Proofs.YtojcmmjcafbngaaDoor
