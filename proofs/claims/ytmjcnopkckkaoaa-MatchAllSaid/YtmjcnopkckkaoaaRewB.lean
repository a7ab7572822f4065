/- Layer 5: the law's All. -/
import Derived.Test.YtmjcnopkckkaoaaRewA
import Derived.Test.YtmjcnopkckkaoaaTrieQ
namespace Go.Proofs.Ytmjcnopkckkaoaa
set_option linter.unusedVariables false
open Go.RowKit
set_option maxHeartbeats 3200000 in
theorem lall_any (N : Nat) (A0 : Option Addr) (c0 : Nat) (rs : List Rl) (B : Nat) (w : World) (h : RsAt w B A0 N c0 rs) (hg : Good rs) (hB : B ≤ w.heap.size) (n : Nat) (A : Option Addr) (c : Nat) (us : List Int) (B' : Nat) (hn : n = us.length) (hr : Rd w B' A (us.map (Value.int .i64))) (hB' : B' ≤ w.heap.size) (hnc : n ≤ c) (hc : c ≤ maxLen) (hl : n ≤ 1048576) (ts : List Tk) (hv : rewA rs 0 us = ts) :
    Calls Try.prog 16 #[.slice A0 N c0, .slice A n c] w fun en w' => ∃ v, en = .returned v ∧ OwnTk w.heap.size w' v ts ∧ Below w.heap.size w w' := by
  obtain ⟨i0, hi, hz0, HZ1, hz2⟩ := info_parts infotok
  have hc01 := h.fits
  have hc02 := h.small
  have H := Lib.hid h
  have HG := Lib.hid hg
  have HN := Lib.hid hn
  have HR := Lib.hid hr
  have HV := Lib.hid hv
  unfold maxLen at hc hc02
  clear h hg hn hr hv
  go_enter Try.func16, Try.ntmps16
  go_wp2
  go_loopw [5, 6] (fun v i wr => ∃ (K : Nat) (acc : List Tk), K ≤ n ∧ i = .int .i64 K ∧ Hid (OwnTk w.heap.size wr v acc) ∧ acc.length ≤ K ∧ Hid (acc ++ rewA rs K (us.drop K) = ts) ∧ Below w.heap.size w wr) (fun _ i _ => n - (intOf i).toNat)
  case atStart => exact ⟨0, [], by omega, rfl, OwnTk.nil _ _, by simp, HV.out, Below.refl _ _⟩
  case round =>
    obtain ⟨K, acc, hK, rfl, ho, hacc, hf, hb⟩ := hrel
    have hs := hb.size
    by_cases hKn : K = n
    · have hK' : ¬ K < n := by omega
      have HE := Lib.hid (rew_stop hf.out (by rw [← HN.out, hKn]; omega))
      clear hKn
      go_wp2
      go_ret
      exact ⟨_, rfl, by rw [HE.out]; exact ho.out, hb⟩
    have hK' : K < n := by omega
    have hK1 : K < us.length := by rw [← HN.out]; exact hK'
    have hne : us.drop K ≠ [] := by intro e; rw [List.drop_eq_nil_iff] at e; omega
    obtain ⟨k, l, op, hlo, _⟩ := HG.out.long (us.drop K)
    have HLO := Lib.hid hlo
    have HNE := Lib.hid hne
    obtain ⟨A3, c3, rfl, hat⟩ := ho.out.form
    have hat2 := hat.fits
    have hat3 := hat.small
    unfold maxLen at hat3
    have k3 : (0 : Int) ≤ K := by omega
    have k4 : (K : Int) ≤ n := by omega
    have hrd := Rd.drop (k := K) (cap := c) (HR.out.below (hb.mono hB') (Nat.le_refl _)) (n := n) (by simp; exact HN.out) (by omega) hnc
    rw [← List.map_drop] at hrd
    have hcapK : ¬ c = K := by omega
    rw [if_neg hcapK] at hrd
    have HRD := Lib.hid hrd
    clear hKn hlo hne hat hrd
    go_wp2_with fail
    refine (llongest_any N (n - K) A0 _ c0 (c - K) rs (us.drop K) B B' wr (H.out.below (hb.mono hB) (Nat.le_refl _)) (by rw [List.length_drop, HN.out]) HRD.out (by omega) (by unfold maxLen; omega) (by omega) (by omega) k l op HLO.out).mono ?_
    rintro en w1 ⟨rfl, hb1⟩
    have hs1 := hb1.size
    have hbl := hb.trans (hb1.mono hs)
    obtain ⟨xs, hown, hx⟩ := ho.out.below hb1 (Nat.le_refl _)
    have hlow : ∀ x, (Value.slice A3 acc.length c3).ownBlock = some x → w.heap.size ≤ x ∧ x < wr.heap.size := fun x hx => ⟨(hown.lt x hx).1, own_lt (ho.out.choose_spec.1) hx⟩
    have HLOW := Lib.hid hlow
    have HX := Lib.hid hx
    have hbA : ∀ o1, Below w1.heap.size w1 (w1.alloc o1) := fun o1 => ((Below.refl _ _).alloc (Nat.le_refl _) _)
    have HBA := Lib.hid hbA
    clear hx hlow hbA
    by_cases hk : k < 0
    · have hst := HG.out.stepN HLO.out hk
      obtain ⟨s', e', o', hst', hp⟩ := HG.out.stepP HNE.out
      obtain ⟨rfl, rfl, rfl⟩ : s' = 1 ∧ e' = 3 ∧ o' = [] := by rw [hst] at hst'; simpa [eq_comm] using hst'
      have HE := Lib.hid (rew_next (m := 1) hf.out hK1 hst hp rfl)
      have hd : decide (k < 0) = true := by simpa using hk
      clear hst hst' hp hk
      go_wp2_with (at_builtin; refine wpList_appB _ rfl _ _ 36 rfl w.heap.size 49 i0 _ 4 48 Try.underlying36 hi hz0 HZ1 hz2 rfl (by decide) _ _ _ rfl (hown.alloc _) (w1.heap.size + 1) _ 1 1 [.int .i64 K, .int .i64 1, .slice none 0 0, .int .i64 3] rfl rfl ?c1 ?c2 ?c3 ?c4 ?c5 ?_)
      case c1 => exact Rd_newR _ _ _ _ rfl
      case c2 => intro u hu; simp at hu; rcases hu with rfl | rfl | rfl | rfl <;> rfl
      case c3 => simp only [maxLen]; omega
      case c4 => omega
      case c5 => simp; omega
      intro v' w4 hown4 hg4 hv4
      have hpush : OwnTk w.heap.size w4 v' (acc ++ [⟨K, 1, [], 3⟩]) := by
        refine tok_push (v := .slice A3 acc.length c3) (xs := xs) (by simpa using hown4) (HX.out.step (HBA.out _).size fun b hb hx => ⟨hx, (HBA.out _).block b hb⟩) ?_ hg4 (by simpa using hv4)
        exact ⟨none, 0, rfl, by simp, by simp [maxLen], .inl rfl⟩
      have hbE : Below w.heap.size w w4 := below_own (hbl.trans ((HBA.out _).mono (by omega))) hg4 (hown.alloc _) (Nat.le_refl _) (by simp; omega)
      have HP := Lib.hid hpush
      clear hown4 hpush hg4 hv4
      go_wp2
      go_roundw
      case rel => exact ⟨K + 1, _, by omega, by go_num, HP, by simp; omega, HE, hbE⟩
      case measure => simp [intOf]; omega
    · rcases HG.out.step HLO.out with ⟨h1, _⟩ | ⟨q, h1, h2, h3, h4, J, h5, hJ, h6, h7⟩
      · exact absurd h1 hk
      obtain ⟨s', e', o', hst', hp⟩ := HG.out.stepP HNE.out
      obtain ⟨rfl, rfl, rfl⟩ : s' = l ∧ e' = 0 ∧ o' = rs[J].2 := by rw [h7] at hst'; simpa [eq_comm] using hst'
      have HE := Lib.hid (rew_next (m := q) hf.out hK1 hst' hp h1)
      have hJN : J < N := by rw [H.out.len]; exact hJ
      obtain ⟨b, of, rfl, hbB, A1, n1, c1, A2, n2, c2, g1, g2, e1, e2, e3, e4, f1, f2, f3, f4⟩ := H.out.at hJ
      have m2 := (hbl.cell (p := ⟨b, of + J * 2 + 1, none⟩) (by show b < _; omega)).trans g2
      have hd : decide ((J : Int) < 0) = false := by simp
      have k5 : (0 : Int) ≤ J := by omega
      have k6 : (J : Int) < N := by omega
      have hu : Us (fun b => (Value.slice A3 acc.length c3).ownBlock ≠ some b) w1 (.slice A2 n2 c2) rs[J].2 := (us_at f1 f2 f3 (f4.below (hbl.mono hB) (Nat.le_refl _))).step (Nat.le_refl _) fun b _ hx => ⟨fun e => by have := (HLOW.out _ e).1; have : b < B := hx; omega, rfl⟩
      have HU := Lib.hid hu
      rw [List.length_drop, ← HN.out] at h3
      obtain ⟨out, hout⟩ : ∃ out, out = rs[J].2 := ⟨_, rfl⟩
      rw [← hout] at HE HU
      subst h5 h1
      clear hk h6 h7 hst' hp g1 g2 e1 e4 f1 f4 hu hJ hout hb1
      go_wp2_with (at_builtin; refine wpList_appB _ rfl _ _ 36 rfl w.heap.size 49 i0 _ 4 48 Try.underlying36 hi hz0 HZ1 hz2 rfl (by decide) _ _ _ rfl (hown.alloc _) (w1.heap.size + 1) _ 1 1 [.int .i64 K, .int .i64 q, .slice A2 n2 c2, .int .i64 0] rfl rfl ?c1 ?c2 ?c3 ?c4 ?c5 ?_)
      case c1 => exact Rd_newR _ _ _ _ rfl
      case c2 => intro u hu; simp at hu; rcases hu with rfl | rfl | rfl | rfl <;> rfl
      case c3 => simp only [maxLen]; omega
      case c4 => omega
      case c5 => simp; omega
      intro v' w4 hown4 hg4 hv4
      have hpush : OwnTk w.heap.size w4 v' (acc ++ [⟨K, q, out, 0⟩]) := by
        refine tok_push (v := .slice A3 acc.length c3) (xs := xs) (by simpa using hown4) (HX.out.step (HBA.out _).size fun b hb hx => ⟨hx, (HBA.out _).block b hb⟩) ?_ hg4 (by simpa using hv4)
        exact HU.out.step (HBA.out _).size fun b hb hx => ⟨hx, (HBA.out _).block b hb⟩
      have hbE : Below w.heap.size w w4 := below_own (hbl.trans ((HBA.out _).mono (by omega))) hg4 (hown.alloc _) (Nat.le_refl _) (by simp; omega)
      have HP := Lib.hid hpush
      clear hown4 hpush hg4 hv4
      go_wp2
      go_roundw
      case rel => exact ⟨K + q, _, by omega, by go_num, HP, by simp; omega, HE, hbE⟩
      case measure => simp [intOf]; omega
end Go.Proofs.Ytmjcnopkckkaoaa
