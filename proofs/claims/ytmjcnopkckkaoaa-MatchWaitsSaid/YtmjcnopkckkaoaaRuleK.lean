/- Layer 3: the law's Right. -/
import Derived.Test.YtmjcnopkckkaoaaRuleI
namespace Go.Proofs.Ytmjcnopkckkaoaa
set_option linter.unusedVariables false
open Go.RowKit
set_option maxHeartbeats 3200000 in
theorem right_any (n : Nat) (A : Option Addr) (c : Nat) (rows : List RowL) (B : Nat) (w : World) (hr : RwAt w B A n c rows) (hB : B ≤ w.heap.size) (ts : List Rl) (ht : rightR (rulesR rows) = ts) :
    Calls Try.prog 9 #[.slice A n c] w fun e w' => ∃ v, e = .returned v ∧ OwnRs w.heap.size w' v ts ∧ Below w.heap.size w w' := by
  obtain ⟨i0, hi, hz0, HZ1, hz2⟩ := info_parts inforl
  obtain ⟨rs, hrs⟩ : ∃ rs, rulesR rows = rs := ⟨_, rfl⟩
  rw [hrs] at ht
  have hl40 : rs.length ≤ 40 := by rw [← hrs]; exact rulesR_len rows
  have HR := Lib.hid hr
  have HT := Lib.hid ht
  have HRS := Lib.hid hrs
  clear hr ht hrs
  go_enter Try.func9, Try.ntmps9
  go_wp2_with fail
  refine (rules_any n A c rows B _ HR.out hB rs HRS.out).mono ?_
  rintro e w1 ⟨v1, rfl, ho1, hb1⟩
  obtain ⟨A1, c1, rfl, hat1⟩ := ho1.form
  obtain ⟨N, hN⟩ : ∃ N, N = rs.length := ⟨_, rfl⟩
  rw [← hN] at hat1 hl40 ⊢
  have HAT := Lib.hid hat1
  have HN := Lib.hid hN
  have hs0 := hb1.size
  have hc1 := hat1.fits
  have hc2 := hat1.small
  unfold maxLen at hc2
  obtain ⟨S, hS⟩ : ∃ S, S = w1.heap.size := ⟨_, rfl⟩
  have hS1 : S ≤ w1.heap.size := Nat.le_of_eq hS
  have hS2 : w1.heap.size ≤ S := Nat.le_of_eq hS.symm
  clear ho1 hat1 hN hS
  go_wp2
  go_loopw [3, 9] (fun v i wr => ∃ (K : Nat) (acc : List Rl), K ≤ N ∧ i = .int .i64 K ∧ Hid (OwnRs S wr v acc) ∧ acc.length ≤ K ∧ Hid (rightFrom acc (rs.drop K) = ts) ∧ Below S w1 wr) (fun _ i _ => N - (intOf i).toNat)
  case atStart => exact ⟨0, [], by omega, rfl, OwnRs.nil _ _, by simp, HT.out, Below.refl _ _⟩
  case round =>
    obtain ⟨K, acc, hK, rfl, ho, hacc, hf, hb⟩ := hrel
    have hs := hb.size
    by_cases hKq : K = N
    · have hK' : ¬ K < N := by omega
      have HE : Hid (ts = acc) := right_end hf.out (by rw [← HN.out]; omega)
      clear hKq
      go_wp2
      go_ret
      exact ⟨_, rfl, by rw [HE.out]; exact ho.out.low (by omega), hb1.trans (hb.mono (by omega))⟩
    have hK' : K < N := by omega
    have hK1 : K < rs.length := by rw [← HN.out]; exact hK'
    obtain ⟨b, o, rfl, hbB, A2, n2, c2, A3, n3, c3, g1, g2, e1, e2, e3, e4, f1, f2, f3, f4⟩ := HAT.out.at hK1
    have hcl : ∀ o', wr.cell? ⟨b, o', none⟩ = w1.cell? ⟨b, o', none⟩ := fun o' => hb.cell (p := ⟨b, o', none⟩) (by show b < _; omega)
    have k1 := (hcl _).trans g1
    have k2 := (hcl _).trans g2
    have k3 : (0 : Int) ≤ K := by omega
    have k4 : (K : Int) < N := by omega
    have E1 := Lib.hid e1
    have F1 := Lib.hid f1
    have E4 := Lib.hid (e4.below (hb.mono hS2) (Nat.le_refl _))
    have F4 := Lib.hid (f4.below (hb.mono hS2) (Nat.le_refl _))
    have M1 : Hid (n2 ≤ 9223372036854775807) := by unfold maxLen at e3; exact (show n2 ≤ 9223372036854775807 by omega)
    have M2 : Hid (n3 ≤ 9223372036854775807) := by unfold maxLen at f3; exact (show n3 ≤ 9223372036854775807 by omega)
    have E3 := Lib.hid e3
    have F3 := Lib.hid f3
    obtain ⟨a, ha⟩ : ∃ a, sideB rs[K].1 = a := ⟨_, rfl⟩
    obtain ⟨d, hd⟩ : ∃ d, sideB rs[K].2 = d := ⟨_, rfl⟩
    have HA := Lib.hid ha
    have HD := Lib.hid hd
    obtain ⟨A7, c7, rfl, hat7⟩ := ho.out.form
    have HAT7 := Lib.hid hat7
    have hsz : ∀ (wz : World) o, (wz.alloc o).heap.size = wz.heap.size + 1 := fun wz o => by simp
    have hbA : ∀ o, Below wr.heap.size wr (wr.alloc o) := fun o => (Below.refl _ _).alloc (Nat.le_refl _) _
    have HSZ := Lib.hid hsz
    have HBA := Lib.hid hbA
    clear g1 g2 e1 e4 f1 f4 e3 f3 ha hd hcl hat7 hsz hbA
    cases a with
    | false =>
      have HE := Lib.hid (right_no hf.out hK1 (by rw [HA.out]; simp))
      go_wp2_with fail
      refine (may_any n2 A2 c2 rs[K].1 w1.heap.size _ E1.out (E4.out.below ((HBA.out _).mono (by omega)) (Nat.le_refl _)) M1.out _ HA.out).mono ?_
      rintro e w2 ⟨rfl, rfl⟩
      go_wp2
      go_roundw
      case rel => exact ⟨K + 1, acc, by omega, by go_num, ho.out.below (HBA.out _) (by omega), by omega, HE, hb.trans ((HBA.out _).mono (by omega))⟩
      case measure => simp [intOf]; omega
    | true =>
      cases d with
      | false =>
        have HE := Lib.hid (right_no hf.out hK1 (by rw [HD.out]; simp))
        go_wp2_with fail
        refine (may_any n2 A2 c2 rs[K].1 w1.heap.size _ E1.out (E4.out.below ((HBA.out _).mono (by omega)) (Nat.le_refl _)) M1.out _ HA.out).mono ?_
        rintro e w2 ⟨rfl, rfl⟩
        go_wp2_with fail
        refine (may_any n3 A3 c3 rs[K].2 w1.heap.size _ F1.out (F4.out.below ((HBA.out _).mono (by omega)) (Nat.le_refl _)) M2.out _ HD.out).mono ?_
        rintro e w2 ⟨rfl, rfl⟩
        go_wp2
        go_roundw
        case rel => exact ⟨K + 1, acc, by omega, by go_num, ho.out.below (HBA.out _) (by omega), by omega, HE, hb.trans ((HBA.out _).mono (by omega))⟩
        case measure => simp [intOf]; omega
      | true =>
        have hfe := findR_lo acc rs[K].1
        obtain ⟨fd, hfd⟩ : ∃ fd, findR acc rs[K].1 = fd := ⟨_, rfl⟩
        rw [hfd] at hfe
        have HFD := Lib.hid hfd
        clear hfd
        go_wp2_with fail
        refine (may_any n2 A2 c2 rs[K].1 w1.heap.size _ E1.out (E4.out.below ((HBA.out _).mono (by omega)) (Nat.le_refl _)) M1.out _ HA.out).mono ?_
        rintro e w2 ⟨rfl, rfl⟩
        go_wp2_with fail
        refine (may_any n3 A3 c3 rs[K].2 w1.heap.size _ F1.out (F4.out.below ((HBA.out _).mono (by omega)) (Nat.le_refl _)) M2.out _ HD.out).mono ?_
        rintro e w2 ⟨rfl, rfl⟩
        go_wp2_with fail
        refine (find_law _ _ A7 A2 c7 c2 acc rs[K].1 wr.heap.size w1.heap.size _ (HAT7.out.below (HBA.out _) (Nat.le_refl _)) E1.out (E4.out.below ((HBA.out _).mono (by omega)) (Nat.le_refl _)) e2 E3.out (by simp) (by simp; omega) fd HFD.out).mono ?_
        rintro e w2 ⟨rfl, hb2⟩
        have hbl : Below wr.heap.size wr w2 := (HBA.out _).trans (hb2.mono (by simp))
        have hz1 : wr.heap.size < w2.heap.size := by have := hb2.size; simp at this; omega
        have q0 : w2.cell? ⟨wr.heap.size, 0, none⟩ = some (.slice A2 n2 c2) := by rw [hb2.cell (p := ⟨wr.heap.size, 0, none⟩) (by simp)]; exact World.cell?_alloc_new (w := wr) _ _ 0
        have q1 : w2.cell? ⟨wr.heap.size, 1, none⟩ = some (.slice A3 n3 c3) := by rw [hb2.cell (p := ⟨wr.heap.size, 1, none⟩) (by simp)]; exact World.cell?_alloc_new (w := wr) _ _ 1
        by_cases hfd0 : fd < 0
        · have HE := Lib.hid (right_yes hf.out hK1 ⟨HA.out, HD.out, by rw [HFD.out]; exact hfd0⟩)
          have hfdb : decide (fd < 0) = true := by simpa using hfd0
          obtain ⟨xs, hown, hx⟩ := ho.out.below hbl (Nat.le_refl _)
          have HX := Lib.hid hx
          have hlow : ∀ x, (Value.slice A7 acc.length c7).ownBlock = some x → S ≤ x := fun x hx => (hown.lt x hx).1
          have UV1 : Us (fun b => (Value.slice A7 acc.length c7).ownBlock ≠ some b) w2 (.slice A2 n2 c2) rs[K].1 := (us_at E1.out e2 E3.out (E4.out.below (hbl.mono (by omega)) (Nat.le_refl _))).step (Nat.le_refl _) fun b _ hx => ⟨fun e => by have := hlow _ e; have : b < w1.heap.size := hx; omega, rfl⟩
          have UV2 : Us (fun b => (Value.slice A7 acc.length c7).ownBlock ≠ some b) w2 (.slice A3 n3 c3) rs[K].2 := (us_at F1.out f2 F3.out (F4.out.below (hbl.mono (by omega)) (Nat.le_refl _))).step (Nat.le_refl _) fun b _ hx => ⟨fun e => by have := hlow _ e; have : b < w1.heap.size := hx; omega, rfl⟩
          have HLOW := Lib.hid hlow
          clear hx hlow
          go_wp2_with (at_builtin; refine wpList_appB _ rfl _ _ 26 rfl S 53 i0 _ 2 48 Try.underlying26 hi hz0 HZ1 hz2 rfl (by decide) _ _ _ rfl (hown.alloc _) (w2.heap.size + 1) _ 1 1 [.slice A2 n2 c2, .slice A3 n3 c3] rfl rfl ?c1 ?c2 ?c3 ?c4 ?c5 ?_)
          case c1 => exact Rd_newR _ _ _ _ rfl
          case c2 => intro u hu; simp at hu; rcases hu with rfl | rfl <;> rfl
          case c3 => simp only [maxLen]; omega
          case c4 => omega
          case c5 => simp; omega
          intro v' w4 hown4 hg4 hv4
          have hbA : Below w2.heap.size w2 (w2.alloc (.cells #[.slice A2 n2 c2, .slice A3 n3 c3] 53)) := (Below.refl _ _).alloc (Nat.le_refl _) _
          have hpush : OwnRs S w4 v' (acc ++ [rs[K]]) := by
            refine own_push (v := .slice A7 acc.length c7) (xs := xs) (by simpa using hown4) (HX.out.step hbA.size fun b hb hx => ⟨hx, hbA.block b hb⟩) ?_ ?_ hg4 (by simpa using hv4)
            · exact UV1.step hbA.size fun b hb hx => ⟨hx, hbA.block b hb⟩
            · exact UV2.step hbA.size fun b hb hx => ⟨hx, hbA.block b hb⟩
          have HP := Lib.hid hpush
          have hbE : Below S w1 w4 := below_own (hb.trans ((hbl.mono (by omega)).trans (hbA.mono (by omega)))) hg4 (hown.alloc _) (Nat.le_refl _) (by simp; omega)
          clear hown4 hpush
          go_wp2
          go_roundw
          case rel => exact ⟨K + 1, _, by omega, by go_num, HP, by simp; omega, HE, hbE⟩
          case measure => simp [intOf]; omega
        · have HE := Lib.hid (right_no hf.out hK1 (by rw [HFD.out]; omega))
          have hfdb : decide (fd < 0) = false := by simpa using hfd0
          go_wp2
          go_roundw
          case rel => exact ⟨K + 1, acc, by omega, by go_num, ho.out.below hbl (by omega), by omega, HE, hb.trans (hbl.mono (by omega))⟩
          case measure => simp [intOf]; omega
end Go.Proofs.Ytmjcnopkckkaoaa
