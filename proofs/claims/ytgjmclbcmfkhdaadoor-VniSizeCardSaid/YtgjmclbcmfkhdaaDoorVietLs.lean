/- Layer 9: the law's Split: for seats that hold the law's functions alone, too. -/
import Derived.Test.YtgjmclbcmfkhdaaDoorVietT
namespace Go.Proofs.YtgjmclbcmfkhdaaDoor
set_option linter.unusedVariables false
set_option linter.unusedSimpArgs false
set_option linter.unnecessarySimpa false
open Go.RowKit
attribute [local go_sem] run_store_complex

theorem spP_uniq {s : Int} {i j : Nat} (hi : i < 148) (hj : j < 148) (h : spP s i = true) (k : spP s j = true) : i = j := LS_inj i j hi hj (by unfold spP at h k; rw [← eq_of_beq h, ← eq_of_beq k])
theorem splitF_at {s : Int} {k : Nat} (hk : k < 148) (h : spP s k = true) : splitF s = some k := findP_some hk h fun j hj hp => spP_uniq hj hk hp h
theorem splitF_no {s : Int} (h : ∀ k, k < 148 → spP s k = false) : splitF s = none := findP_none h
theorem none_snoc {p : Nat → Bool} {N : Nat} (h : ∀ k, k < N → p k = false) (hN : p N = false) : ∀ k, k < N + 1 → p k = false := fun k hk => by
  by_cases e : k = N
  · rw [e]; exact hN
  · exact h k (by omega)

set_option maxHeartbeats 3200000 in
theorem lsplit_any (s : Int) (w : World) :
    Calls Tryd.prog 35 #[.int .i64 s] w fun e w' => e = .returned (.tuple #[.agg (lV (splitF s)), .bool (splitF s).isSome]) ∧ Below w.heap.size w w' := by
  have HLT := Lib.hid (fun (N : Nat) (h : N < 148) (W : World) => letR_at N h ▸ letter_any (N : Int) W)
  go_enter Tryd.func35, Tryd.ntmps35
  go_wp2_with fail
  have hq0 : Held (w.alloc (.cells #[.int .i64 0, .complex .f64 0 0] 26)) w.heap.size #[.int .i64 0, .complex .f64 0 0] 26 := Held.new w _ _
  have hb0 : Below w.heap.size w (w.alloc (.cells #[.int .i64 0, .complex .f64 0 0] 26)) := (Below.refl _ w).alloc (Nat.le_refl _) _
  obtain ⟨p, hp⟩ : ∃ p, w.heap.size = p := ⟨_, rfl⟩
  have hpl2 : w.heap.size ≤ p := by omega
  have HB0 := Lib.hid (show Below p w (w.alloc (.cells #[.int .i64 0, .complex .f64 0 0] 26)) by rw [← hp]; exact hb0)
  rw [hp] at hq0 ⊢
  clear hb0 hp
  go_loopw [4] (fun i wr => ∃ N : Nat, N ≤ 148 ∧ i = .int .i64 N ∧ Hid (∀ k, k < N → spP s k = false) ∧ Hid (Held wr p #[.int .i64 0, .complex .f64 0 0] 26) ∧ Hid (Below p w wr)) (fun i _ => 148 - (intOf i).toNat)
  case atStart => exact ⟨0, by omega, rfl, Lib.hid (fun k h => absurd h (by omega)), Lib.hid hq0, HB0⟩
  case round =>
    obtain ⟨N, hN, rfl, hno, HQ, HB⟩ := hrel
    clear hq0 HB0
    by_cases h148 : N = 148
    · subst h148
      have f0 := HQ.out.frozen 0
      have f1 := HQ.out.frozen 1
      have c0 := HQ.out.cell 0
      have c1 := HQ.out.cell 1
      go_wp2
      have hF := HQ.out.set2 (.int .i64 0) (.complex .f64 0 0)
      exact letter_ret1 rfl rfl hF rfl rfl rfl ⟨by rw [splitF_no hno.out]; rfl, ((HB.out.setCell (p := ⟨p, 0, none⟩) (by simp) _).setCell (p := ⟨p, 1, none⟩) (by simp) _).mono hpl2⟩
    have hN' : N < 148 := by omega
    have hNi : (N : Int) < 148 := by omega
    have hpw := HQ.out.lt
    go_wp2_with fail
    refine (HLT.out N hN' wr).mono ?_
    rintro e w2 ⟨rfl, hb2⟩
    have HQ2 := Lib.hid (HQ.out.below hb2 hpw)
    have HB2 := Lib.hid (HB.out.trans (hb2.mono (by omega)))
    have hpw2 := HQ2.out.lt
    have hv : letV N = #[.int .i64 (LB N), .complex .f64 (fl (LM N)) (fl (LT N))] := rfl
    have HV := Lib.hid hv
    obtain ⟨bx, hbx⟩ : ∃ v, LB N = v := ⟨_, rfl⟩
    obtain ⟨rx, hrx⟩ : ∃ v, fl (LM N) = v := ⟨_, rfl⟩
    obtain ⟨ix, hix⟩ : ∃ v, fl (LT N) = v := ⟨_, rfl⟩
    have hsx0 : spP s N = (s == LS N) := rfl
    obtain ⟨sx, hsx⟩ : ∃ v, LS N = v := ⟨_, rfl⟩
    rw [hbx, hrx, hix] at hv HV
    rw [hsx] at hsx0 ⊢
    rw [hv]
    clear hv hbx hrx hix hsx hb2 HB HQ hpw
    have f0 := HQ2.out.frozen 0
    have f1 := HQ2.out.frozen 1
    have c0 := HQ2.out.cell 0
    have c1 := HQ2.out.cell 1
    cases hh : spP s N with
    | true =>
      have he : (sx == s) = true := by rw [hh] at hsx0; rw [Bool.beq_comm, ← hsx0]
      have HS := Lib.hid hh
      clear hh hsx0
      go_wp2
      have hF : Held _ p #[.int .i64 bx, .complex .f64 rx ix] 26 := (HQ2.out.set2 (.int .i64 bx) (.complex .f64 rx ix)).alloc (.cells #[.int .i64 bx, .complex .f64 rx ix] 26)
      exact letter_ret1 rfl rfl hF rfl rfl rfl ⟨by rw [splitF_at hN' HS.out]; show _ = Ending.returned (.tuple #[.agg (letV N), _]); rw [HV.out]; rfl, (((HB2.out.setCell (p := ⟨p, 0, none⟩) (by simp) _).setCell (p := ⟨p, 1, none⟩) (by simp) _).alloc (by simp; omega) _).mono hpl2⟩
    | false =>
      have he : (sx == s) = false := by rw [hh] at hsx0; rw [Bool.beq_comm, ← hsx0]
      have hno2 := Lib.hid (none_snoc hno.out hh)
      clear hh hsx0 hno
      go_wp2
      go_roundw
      case rel => exact ⟨N + 1, by omega, by go_num, hno2, Lib.hid (HQ2.out.alloc _), Lib.hid (HB2.out.alloc (by omega) _)⟩
      case measure => simp [intOf]; omega
end Go.Proofs.YtgjmclbcmfkhdaaDoor
