/- TableOf: the walk. -/
import Derived.Test.YtpbmaacchjedpaaZ13
import Derived.Test.YtpbmaacchjedpaaZ3
namespace Go.Proofs.Ytpbmaacchjedpaa
set_option linter.unusedVariables false
set_option linter.unusedSimpArgs false
set_option linter.unnecessarySimpa false
open Go.RowKit
theorem check_cases : ∀ (rs done : List (List Int × List Int)) (k : Int), checkFrom k done rs = (-1, 0) ∨ ∃ q d, checkFrom k done rs = (q, d) ∧ d ≠ 0
  | [], done, k => .inl rfl
  | r :: rs, done, k => by
    simp only [checkFrom]
    split
    · exact .inr ⟨_, _, rfl, by decide⟩
    · split
      · exact .inr ⟨_, _, rfl, by decide⟩
      · split
        · exact .inr ⟨_, _, rfl, by decide⟩
        · exact check_cases rs _ _
set_option maxRecDepth 100000 in
set_option maxHeartbeats 6400000 in
theorem tableOf_any (I : TabApi) (n : Nat) (A : Option Addr) (c : Nat) (rows : List RowL) (w : World) (hr : RwAt w w.heap.size A n c rows) :
    Calls Try.prog 3 #[.slice A n c] w fun e w' => e = .returned (.bool true) ∧ Below w.heap.size w w' := by
  obtain ⟨rs, hrs⟩ : ∃ rs, rulesR rows = rs := ⟨_, rfl⟩
  have h40 : rs.length ≤ 40 := by rw [← hrs]; exact rulesR_len rows
  obtain ⟨N, hN⟩ : ∃ N, N = rs.length := ⟨_, rfl⟩
  rw [← hN] at h40
  have HR := Lib.hid hr
  have HRS := Lib.hid hrs
  have HN := Lib.hid hN
  clear hr hrs hN
  go_enter Try.func3, Try.ntmps3
  go_wp2_with fail
  refine (awake15_any I _).mono ?_
  rintro e w1 ⟨rfl, hb1⟩
  have hs1 := hb1.size
  go_wp2_with fail
  refine (rules_any n A c rows w1.heap.size _ (HR.out.below hb1 hs1) (Nat.le_refl _) rs HRS.out).mono ?_
  rintro e w2 ⟨v2, rfl, ho2, hb2⟩
  obtain ⟨A2, c2, rfl, hat2⟩ := ho2.form
  rw [← HN.out] at hat2 ⊢
  have HAT2 := Lib.hid hat2
  have HB2 := Lib.hid (hb1.trans (hb2.mono hs1))
  have hs2 := HB2.out.size
  clear ho2 hat2 hb1 hb2 hs1 HR
  rcases check_cases rs [] 0 with hck | ⟨k, d, hck, hd⟩
  · have HCK := Lib.hid (show checkR rs = (-1, 0) from hck)
    have HG := Lib.hid (good_of HCK.out)
    have HSD := Lib.hid (fun r hr => (HG.out.side r hr).1)
    clear hck
    cases hcl : closedR rs with
    | true =>
      have HCL := Lib.hid hcl
      clear hcl
      go_wp2_with fail
      refine (I.of_ok N A2 c2 rs w2.heap.size _ HAT2.out (Nat.le_refl _) (by omega) HCK.out HCL.out).mono ?_
      rintro e w3 ⟨T, rfl, hT, hb3⟩
      have HT := Lib.hid hT
      have HB23 := Lib.hid hb3
      have hs3 := hb3.size
      clear hT hb3
      go_wp2_with fail
      refine (check_any N A2 c2 rs w2.heap.size w3 (HAT2.out.below HB23.out (Nat.le_refl _)) HB23.out.size (-1) 0 HCK.out).mono ?_
      rintro e w4 ⟨rfl, hb4⟩
      have HB24 := Lib.hid (HB23.out.trans (hb4.mono hs3))
      have HB34 := Lib.hid hb4
      clear hb4
      go_wp2_with fail
      refine (lclosed_any N A2 c2 rs w2.heap.size w4 (HAT2.out.below HB24.out (Nat.le_refl _)) HB24.out.size HSD.out true HCL.out).mono ?_
      rintro e w5 ⟨rfl, hb5⟩
      have HB25 := Lib.hid (HB24.out.trans (hb5.mono HB24.out.size))
      have HB35 := Lib.hid (HB34.out.trans (hb5.mono HB34.out.size))
      clear hb5 HB24 HB34
      obtain ⟨x, hx⟩ : ∃ x, longR rs = x := ⟨_, rfl⟩
      obtain ⟨y, hy⟩ : ∃ y, longR (turnR rs) = y := ⟨_, rfl⟩
      have L1 := I.longest w5 w3.heap.size T rs (I.below HT.out HB35.out (Nat.le_refl _)) HB35.out.size
      rw [hx, hy] at L1
      have L1' := Lib.hid L1
      have HX := Lib.hid hx
      have HY := Lib.hid hy
      clear L1 hx hy
      go_wp2_with fail
      refine L1'.out.mono ?_
      rintro e w6 ⟨rfl, hb6⟩
      have HB26 := Lib.hid (HB25.out.trans (hb6.mono HB25.out.size))
      have HB36 := Lib.hid (HB35.out.trans (hb6.mono HB35.out.size))
      clear hb6 L1' HB25 HB35
      go_wp2_with fail
      refine (longest_any N A2 c2 rs w2.heap.size w6 (HAT2.out.below HB26.out (Nat.le_refl _)) HB26.out.size x HX.out).mono ?_
      rintro e w7 ⟨rfl, hb7⟩
      have HB27 := Lib.hid (HB26.out.trans (hb7.mono HB26.out.size))
      have HB37 := Lib.hid (HB36.out.trans (hb7.mono HB36.out.size))
      clear hb7 HB26 HB36
      go_wp2_with fail
      refine (turn_any N A2 c2 rs w2.heap.size w7 (HAT2.out.below HB27.out (Nat.le_refl _)) HB27.out.size (by omega) (fun r hr => by have := HG.out.side r hr; omega) (turnR rs) rfl).mono ?_
      rintro e w8 ⟨v8, rfl, ho8, hb8⟩
      obtain ⟨A8, c8, rfl, hat8⟩ := ho8.form
      obtain ⟨N8, hN8⟩ : ∃ N8, (turnR rs).length = N8 := ⟨_, rfl⟩
      rw [hN8] at hat8 ⊢
      have HAT8 := Lib.hid hat8
      have HB28 := Lib.hid (HB27.out.trans (hb8.mono HB27.out.size))
      have HB38 := Lib.hid (HB37.out.trans (hb8.mono HB37.out.size))
      clear ho8 hat8 hb8 hN8 HB27 HB37
      go_wp2_with fail
      refine (longest_any N8 A8 c8 (turnR rs) w8.heap.size w8 HAT8.out (Nat.le_refl _) y HY.out).mono ?_
      rintro e w9 ⟨rfl, hb9⟩
      have HB29 := Lib.hid (HB28.out.trans (hb9.mono HB28.out.size))
      have HB39 := Lib.hid (HB38.out.trans (hb9.mono HB38.out.size))
      clear hb9 HB28 HB38
      go_wp2_with fail
      refine (I.read w9 w3.heap.size T rs (I.below HT.out HB39.out (Nat.le_refl _)) HB39.out.size).mono ?_
      rintro e w10 ⟨R1, rfl, hb10, -⟩
      have HB210 := Lib.hid (HB29.out.trans (hb10.mono HB29.out.size))
      have HB310 := Lib.hid (HB39.out.trans (hb10.mono HB39.out.size))
      clear hb10 HB29 HB39
      go_wp2_with fail
      refine (I.write w10 w3.heap.size T rs (I.below HT.out HB310.out (Nat.le_refl _)) HB310.out.size).mono ?_
      rintro e w11 ⟨R2, rfl, hb11, -⟩
      have HBF := Lib.hid (HB2.out.trans ((HB210.out.trans (hb11.mono HB210.out.size)).mono hs2))
      clear hb11
      go_wp2_with fail
      go_ret
      exact ⟨ret_bool (by simp), HBF.out⟩
    | false =>
      have HCL := Lib.hid hcl
      clear hcl
      go_wp2_with fail
      refine (I.of_open N A2 c2 rs w2.heap.size _ HAT2.out (Nat.le_refl _) (by omega) HCK.out HCL.out).mono ?_
      rintro e w3 ⟨rfl, hb3⟩
      have HB23 := Lib.hid hb3
      clear hb3
      go_wp2_with fail
      refine (check_any N A2 c2 rs w2.heap.size w3 (HAT2.out.below HB23.out (Nat.le_refl _)) HB23.out.size (-1) 0 HCK.out).mono ?_
      rintro e w4 ⟨rfl, hb4⟩
      have HB24 := Lib.hid (HB23.out.trans (hb4.mono HB23.out.size))
      clear hb4
      go_wp2_with fail
      refine (lclosed_any N A2 c2 rs w2.heap.size w4 (HAT2.out.below HB24.out (Nat.le_refl _)) HB24.out.size HSD.out false HCL.out).mono ?_
      rintro e w5 ⟨rfl, hb5⟩
      have HBF := Lib.hid (HB2.out.trans ((HB24.out.trans (hb5.mono HB24.out.size)).mono hs2))
      clear hb5
      go_wp2_with fail
      go_ret
      exact ⟨rfl, HBF.out⟩
  · have HCK := Lib.hid (show checkR rs = (k, d) from hck)
    have hne : (d != 0) = true := by simpa using hd
    have HD := Lib.hid hd
    clear hck hd
    go_wp2_with fail
    refine (I.of_bad N A2 c2 rs w2.heap.size _ HAT2.out (Nat.le_refl _) (by omega) k d HCK.out HD.out).mono ?_
    rintro e w3 ⟨rfl, hb3⟩
    have HB23 := Lib.hid hb3
    clear hb3
    go_wp2_with fail
    refine (check_any N A2 c2 rs w2.heap.size w3 (HAT2.out.below HB23.out (Nat.le_refl _)) HB23.out.size k d HCK.out).mono ?_
    rintro e w4 ⟨rfl, hb4⟩
    have HBF := Lib.hid (HB2.out.trans ((HB23.out.trans (hb4.mono HB23.out.size)).mono hs2))
    clear hb4
    go_wp2_with fail
    go_ret
    exact ⟨ret_bool (by simp), HBF.out⟩
end Go.Proofs.Ytpbmaacchjedpaa
