/- RuleTurn: the walk. -/
import Derived.Test.YtaljkdljinkemaaRuleL
namespace Go.Proofs.Ytaljkdljinkemaa
set_option linter.unusedVariables false
open Go.RowKit
theorem rules_big {rows : List RowL} (h : ∀ r ∈ rows, r.ain.length ≤ 17592186044416 ∧ r.aout.length ≤ 17592186044416) : ∀ r ∈ rulesR rows, r.1.length ≤ 17592186044416 ∧ r.2.length ≤ 17592186044416 := by
  intro r hr
  simp only [rulesR, List.mem_map] at hr
  obtain ⟨x, hx, rfl⟩ := hr
  have := h x (List.mem_of_mem_take hx)
  have h1 := unitsR_len x.inp 97
  have h2 := unitsR_len x.out 97
  unfold rowR
  split
  · exact this
  · simp only; omega
theorem turn_big {rs : List Rl} (h : ∀ r ∈ rs, r.1.length ≤ 17592186044416 ∧ r.2.length ≤ 17592186044416) : ∀ r ∈ turnR rs, r.1.length ≤ 17592186044416 ∧ r.2.length ≤ 17592186044416 := by
  intro r hr
  obtain ⟨x, hx, rfl⟩ := turnR_mem hr
  exact ⟨(h x hx).2, (h x hx).1⟩
set_option maxHeartbeats 3200000 in
theorem ruleTurn_any (n : Nat) (A : Option Addr) (c : Nat) (rows : List RowL) (w : World) (hr : RwAt w w.heap.size A n c rows) (hbig : ∀ r ∈ rows, r.ain.length ≤ 17592186044416 ∧ r.aout.length ≤ 17592186044416) :
    Calls Try.prog 6 #[.slice A n c] w fun e w' => e = .returned (.bool true) ∧ Below w.heap.size w w' := by
  obtain ⟨i0, hi, hz0, HZ1, hz2⟩ := info_parts inforl
  obtain ⟨rs, hrs⟩ : ∃ rs, rulesR rows = rs := ⟨_, rfl⟩
  obtain ⟨ts, hts⟩ : ∃ ts, turnR rs = ts := ⟨_, rfl⟩
  obtain ⟨us, hus⟩ : ∃ us, turnR ts = us := ⟨_, rfl⟩
  obtain ⟨N, hN⟩ : ∃ N, N = rs.length := ⟨_, rfl⟩
  obtain ⟨M, hM⟩ : ∃ M, M = ts.length := ⟨_, rfl⟩
  obtain ⟨U, hU⟩ : ∃ U, U = us.length := ⟨_, rfl⟩
  have h40 : N ≤ 40 := by rw [hN, ← hrs]; exact rulesR_len rows
  have hMN : M ≤ N := by rw [hM, hN, ← hts]; exact turnR_len rs
  have hUM : U ≤ M := by rw [hU, hM, ← hus]; exact turnR_len ts
  have B1 : Hid (∀ r ∈ rs, r.1.length ≤ 17592186044416 ∧ r.2.length ≤ 17592186044416) := by rw [← hrs]; exact rules_big hbig
  have B2 : Hid (∀ r ∈ ts, r.1.length ≤ 17592186044416 ∧ r.2.length ≤ 17592186044416) := by rw [← hts]; exact turn_big B1.out
  have TT : Hid (∀ r ∈ us, 0 ≤ findR rs r.1) := by intro r hr; rw [← hus, ← hts] at hr; exact turn_turn hr
  have HR := Lib.hid hr
  have HRS := Lib.hid hrs
  have HTS := Lib.hid hts
  have HUS := Lib.hid hus
  have HN := Lib.hid hN
  have HM := Lib.hid hM
  have HU := Lib.hid hU
  clear hr hrs hts hus hN hM hU hbig
  go_enter Try.func6, Try.ntmps6
  go_wp2_with fail
  refine (rawake_any _).mono ?_
  rintro e w1 ⟨rfl, hb1⟩
  have hs1 := hb1.size
  go_wp2_with fail
  refine (rules_any n A c rows w1.heap.size _ (HR.out.below hb1 hs1) (Nat.le_refl _) rs HRS.out).mono ?_
  rintro e w2 ⟨v2, rfl, ho2, hb2⟩
  have hs2 := hb2.size
  obtain ⟨A2, c2, rfl, hat2⟩ := ho2.form
  rw [← HN.out] at hat2 ⊢
  have hc2 := hat2.fits
  have HAT2 := Lib.hid hat2
  have hb12 := hb1.trans (hb2.mono hs1)
  have hs12 := hb12.size
  obtain ⟨S, hS⟩ : ∃ S, S = w2.heap.size := ⟨_, rfl⟩
  have hS1 : S ≤ w2.heap.size := Nat.le_of_eq hS
  have hS2 : w2.heap.size ≤ S := Nat.le_of_eq hS.symm
  clear ho2 hat2 hS
  go_wp2
  go_loopw [4, 18] (fun v i wr => ∃ (K : Nat) (acc : List Rl), K ≤ N ∧ i = .int .i64 K ∧ Hid (OwnRs S wr v acc) ∧ acc.length ≤ K ∧ Below S w2 wr ∧ Hid (turnFrom acc (rs.drop K) = ts)) (fun _ i _ => N - (intOf i).toNat)
  case atStart => exact ⟨0, [], by omega, rfl, OwnRs.nil _ _, by simp, Below.refl _ _, HTS.out⟩
  case round =>
    obtain ⟨K, acc, hK, rfl, ho, hacc, hb, hf⟩ := hrel
    have hs := hb.size
    by_cases hKn : K = N
    · have hK' : ¬ K < N := by omega
      have HE := Lib.hid (turn_end hf.out (by rw [← HN.out, hKn]; omega))
      clear hKn
      obtain ⟨A3, c3, rfl, hat3⟩ := ho.out.form
      rw [← HE.out, ← HM.out] at hat3
      have haM : acc.length = M := by rw [← HE.out, HM.out]
      rw [haM]
      have HAT3 := Lib.hid hat3
      clear hat3 haM
      go_wp2_with fail
      refine (turn_any N A2 c2 rs w2.heap.size _ (HAT2.out.below (hb.mono hS2) (Nat.le_refl _)) hs (by omega) B1.out ts HTS.out).mono ?_
      rintro e w4 ⟨v4, rfl, ho4, hb4⟩
      have hs4 := hb4.size
      obtain ⟨A4, c4, rfl, hat4⟩ := ho4.form
      rw [← HM.out] at hat4 ⊢
      have HAT4 := Lib.hid hat4
      have hc4 := hat4.fits
      clear hat4 ho4
      go_wp2_with fail
      refine (rsame_true M M A4 A3 c4 c3 ts w4.heap.size wr.heap.size _ HAT4.out (HAT3.out.below hb4 (Nat.le_refl _))).mono ?_
      rintro e w5 ⟨rfl, m5, hw5⟩
      have hb5 : Below w4.heap.size w4 w5 := by rw [hw5]; exact below_dr (Below.refl _ _) _
      have hs5 := hb5.size
      clear hw5
      go_wp2_with fail
      refine (turn_any M A4 c4 ts w4.heap.size _ (HAT4.out.below hb5 (Nat.le_refl _)) hs5 (by omega) B2.out us HUS.out).mono ?_
      rintro e w6 ⟨v6, rfl, ho6, hb6⟩
      have hs6 := hb6.size
      obtain ⟨A6, c6, rfl, hat6⟩ := ho6.form
      rw [← HU.out] at hat6 ⊢
      have HAT6 := Lib.hid hat6
      have hc6 := hat6.fits
      have hb26 : Below S w2 w6 := hb.trans ((hb4.trans (hb5.trans (hb6.mono hs5) |>.mono hs4)).mono (by omega))
      have hs26 := hb26.size
      have HAT7 := Lib.hid (HAT2.out.below (hb26.mono hS2) (Nat.le_refl _))
      have hle : decide (U ≤ M) = true := by simpa using hUM
      clear hat6 ho6
      go_wp2
      obtain ⟨wo, rfl⟩ : ∃ wo : World, wo = wr := ⟨_, rfl⟩
      go_loopw [46] (fun i wr => ∃ J : Nat, J ≤ U ∧ i = .int .i64 J ∧ Below w6.heap.size w6 wr) (fun i _ => U - (intOf i).toNat)
      case atStart => exact ⟨0, by omega, rfl, Below.refl _ _⟩
      case round =>
        obtain ⟨J, hJ, rfl, hbz⟩ := hrel
        have hsz := hbz.size
        by_cases hJU : J = U
        · have hJ' : ¬ J < U := by omega
          clear hJU
          go_wp2
          go_ret
          exact ⟨rfl, hb12.trans ((hb26.trans (hbz.mono (by omega))).mono (by omega))⟩
        have hJ' : J < U := by omega
        have hJ1 : J < us.length := by rw [← HU.out]; exact hJ'
        obtain ⟨b, o, rfl, hbB, A8, n8, c8, A9, n9, c9, g1, g2, e1, e2, e3, e4, f1, f2, f3, f4⟩ := (HAT6.out.below hbz hsz).at hJ1
        have k3 : (0 : Int) ≤ J := by omega
        have k4 : (J : Int) < U := by omega
        obtain ⟨fx, hfx⟩ : ∃ fx, findR rs us[J].1 = fx := ⟨_, rfl⟩
        have hf0 : ¬ fx < 0 := by have := TT.out _ (List.getElem_mem hJ1); omega
        have HFX := Lib.hid hfx
        have E1 := Lib.hid e1
        have E3 := Lib.hid e3
        have E4 := Lib.hid e4
        clear hfx e1 e3 e4 f1 f2 f3 f4
        go_wp2_with fail
        refine (find_law N n8 A2 A8 c2 c8 rs us[J].1 w2.heap.size wr.heap.size _ (HAT7.out.below (hbz.alloc hsz _ |>.mono (by omega)) (Nat.le_refl _)) E1.out (E4.out.below ((Below.refl _ _).alloc (Nat.le_refl _) _) (Nat.le_refl _)) e2 E3.out (by simp; omega) (by simp) fx HFX.out).mono ?_
        rintro e w8 ⟨rfl, hb8⟩
        have hb8' : Below wr.heap.size wr w8 := ((Below.refl _ _).alloc (Nat.le_refl _) _).trans (hb8.mono (by simp))
        go_wp2
        go_roundw
        case rel => exact ⟨J + 1, by omega, by go_num, hbz.trans (hb8'.mono hsz)⟩
        case measure => simp [intOf]; omega
    have hK' : K < N := by omega
    have hK1 : K < rs.length := by rw [← HN.out]; exact hK'
    obtain ⟨b, o, rfl, hbB, A1, n1, c1, A5, n2, c5, g1, g2, e1, e2, e3, e4, f1, f2, f3, f4⟩ := (HAT2.out.below (hb.mono hS2) (Nat.le_refl _)).at hK1
    have k3 : (0 : Int) ≤ K := by omega
    have k4 : (K : Int) < N := by omega
    have E1 := Lib.hid e1
    have F1 := Lib.hid f1
    have E4 := Lib.hid e4
    have F4 := Lib.hid f4
    have E3 := Lib.hid e3
    have F3 := Lib.hid f3
    obtain ⟨A7, c7, rfl, hat7⟩ := ho.out.form
    have HAT7 := Lib.hid hat7
    obtain ⟨fd, hfd⟩ : ∃ fd, findR acc rs[K].2 = fd := ⟨_, rfl⟩
    have HFD := Lib.hid hfd
    clear e1 e4 f1 f4 e3 f3 hat7 hfd
    go_wp2_with fail
    refine (find_law _ _ A7 A5 c7 c5 acc rs[K].2 wr.heap.size w2.heap.size _ (HAT7.out.below ((Below.refl _ _).alloc (Nat.le_refl _) _) (Nat.le_refl _)) F1.out (F4.out.below (((Below.refl _ _).alloc (Nat.le_refl _) _).mono (by omega)) (Nat.le_refl _)) f2 F3.out (by simp) (by simp; omega) fd HFD.out).mono ?_
    rintro e w3 ⟨rfl, hb3⟩
    have hbl : Below wr.heap.size wr w3 := ((Below.refl _ _).alloc (Nat.le_refl _) _).trans (hb3.mono (by simp))
    have hz1 : wr.heap.size < w3.heap.size := by have := hb3.size; simp at this; omega
    have q0 : w3.cell? ⟨wr.heap.size, 0, none⟩ = some (.slice A1 n1 c1) := by rw [hb3.cell (p := ⟨wr.heap.size, 0, none⟩) (by simp)]; exact World.cell?_alloc_new (w := wr) _ _ 0
    have q1 : w3.cell? ⟨wr.heap.size, 1, none⟩ = some (.slice A5 n2 c5) := by rw [hb3.cell (p := ⟨wr.heap.size, 1, none⟩) (by simp)]; exact World.cell?_alloc_new (w := wr) _ _ 1
    by_cases hfd0 : fd < 0
    · have HE := Lib.hid (turn_take hf.out hK1 (by rw [HFD.out]; omega))
      obtain ⟨xs, hown, hx⟩ := ho.out.below hbl (Nat.le_refl _)
      have HX := Lib.hid hx
      have hlow : ∀ x, (Value.slice A7 acc.length c7).ownBlock = some x → S ≤ x := fun x hx => (hown.lt x hx).1
      have UV1 : Us (fun b => (Value.slice A7 acc.length c7).ownBlock ≠ some b) w3 (.slice A1 n1 c1) rs[K].1 := (us_at E1.out e2 E3.out (E4.out.below (hbl.mono (by omega)) (Nat.le_refl _))).step (Nat.le_refl _) fun b _ hx => ⟨fun e => by have := hlow _ e; have : b < w2.heap.size := hx; omega, rfl⟩
      have UV2 : Us (fun b => (Value.slice A7 acc.length c7).ownBlock ≠ some b) w3 (.slice A5 n2 c5) rs[K].2 := (us_at F1.out f2 F3.out (F4.out.below (hbl.mono (by omega)) (Nat.le_refl _))).step (Nat.le_refl _) fun b _ hx => ⟨fun e => by have := hlow _ e; have : b < w2.heap.size := hx; omega, rfl⟩
      have HLOW := Lib.hid hlow
      clear hx hlow
      go_wp2_with (at_builtin; refine wpList_appB _ rfl _ _ 24 rfl S 28 i0 _ 2 48 Try.underlying24 hi hz0 HZ1 hz2 rfl (by decide) _ _ _ rfl (hown.alloc _) (w3.heap.size + 1) _ 1 1 [.slice A5 n2 c5, .slice A1 n1 c1] rfl rfl ?c1 ?c2 ?c3 ?c4 ?c5 ?_)
      case c1 => exact Rd_newR _ _ _ _ rfl
      case c2 => intro u hu; simp at hu; rcases hu with rfl | rfl <;> rfl
      case c3 => simp only [maxLen]; omega
      case c4 => omega
      case c5 => simp; omega
      intro v' w4 hown4 hg4 hv4
      have hbA : Below w3.heap.size w3 (w3.alloc (.cells #[.slice A5 n2 c5, .slice A1 n1 c1] 28)) := (Below.refl _ _).alloc (Nat.le_refl _) _
      have hpush : OwnRs S w4 v' (acc ++ [(rs[K].2, rs[K].1)]) := by
        refine own_push (r := (rs[K].2, rs[K].1)) (v := .slice A7 acc.length c7) (xs := xs) (by simpa using hown4) (HX.out.step hbA.size fun b hb hx => ⟨hx, hbA.block b hb⟩) ?_ ?_ hg4 (by simpa using hv4)
        · exact UV2.step hbA.size fun b hb hx => ⟨hx, hbA.block b hb⟩
        · exact UV1.step hbA.size fun b hb hx => ⟨hx, hbA.block b hb⟩
      have HP := Lib.hid hpush
      have hbE : Below S w2 w4 := below_own (hb.trans ((hbl.mono (by omega)).trans (hbA.mono (by omega)))) hg4 (hown.alloc _) (Nat.le_refl _) (by simp; omega)
      clear hown4 hpush
      go_wp2
      go_roundw
      case rel => exact ⟨K + 1, _, by omega, by go_num, HP, by simp; omega, hbE, HE⟩
      case measure => simp [intOf]; omega
    · have HE := Lib.hid (turn_skip hf.out hK1 (by rw [HFD.out]; omega))
      go_wp2
      go_roundw
      case rel => exact ⟨K + 1, acc, by omega, by go_num, ho.out.below hbl (Nat.le_refl _), by omega, hb.trans (hbl.mono (by omega)), HE⟩
      case measure => simp [intOf]; omega
end Go.Proofs.Ytaljkdljinkemaa
