/- Layer 3: Check. -/
import Derived.Test.YthgomhmalmmhlaaDoorRuleE
namespace Go.Proofs.YthgomhmalmmhlaaDoor
set_option linter.unusedVariables false
open Go.RowKit
theorem check_lim {rs : List Rl} {K : Nat} {k e : Int} (h : checkFrom K (rs.take K) (rs.drop K) = (k, e)) (hK : K < rs.length) (hf : 512 ≤ K) : k = K ∧ e = 7 := by
  rw [List.drop_eq_getElem_cons hK] at h
  simp only [checkFrom, if_pos (show (512 : Int) ≤ K by omega), Prod.mk.injEq] at h
  exact ⟨h.1.symm, h.2.symm⟩
theorem check_arg {rs : List Rl} {K : Nat} {k e : Int} (h : checkFrom K (rs.take K) (rs.drop K) = (k, e)) (hK : K < rs.length) (hf : K < 512) (hs : (sideB rs[K].1 && sideB rs[K].2) = false) : k = K ∧ e = 9 := by
  rw [List.drop_eq_getElem_cons hK] at h
  simp only [checkFrom, if_neg (show ¬ (512 : Int) ≤ K by omega), if_pos hs, Prod.mk.injEq] at h
  exact ⟨h.1.symm, h.2.symm⟩
theorem check_two {rs : List Rl} {K : Nat} {k e : Int} (h : checkFrom K (rs.take K) (rs.drop K) = (k, e)) (hK : K < rs.length) (hf : K < 512) (hs : (sideB rs[K].1 && sideB rs[K].2) = true) (h2 : 0 ≤ findR (rs.take K) rs[K].1) : k = K ∧ e = 8 := by
  rw [List.drop_eq_getElem_cons hK] at h
  simp only [checkFrom, if_neg (show ¬ (512 : Int) ≤ K by omega), if_neg (show ¬ (sideB rs[K].1 && sideB rs[K].2) = false by rw [hs]; simp), if_pos h2, Prod.mk.injEq] at h
  exact ⟨h.1.symm, h.2.symm⟩
theorem check_next {rs : List Rl} {K : Nat} {k e : Int} (h : checkFrom K (rs.take K) (rs.drop K) = (k, e)) (hK : K < rs.length) (hf : K < 512) (hs : (sideB rs[K].1 && sideB rs[K].2) = true) (h2 : ¬ 0 ≤ findR (rs.take K) rs[K].1) : checkFrom ((K + 1 : Nat) : Int) (rs.take (K + 1)) (rs.drop (K + 1)) = (k, e) := by
  rw [List.drop_eq_getElem_cons hK] at h
  simp only [checkFrom, if_neg (show ¬ (512 : Int) ≤ K by omega), if_neg (show ¬ (sideB rs[K].1 && sideB rs[K].2) = false by rw [hs]; simp), if_neg h2] at h
  rw [List.take_succ_eq_append_getElem hK]
  exact h
theorem check_end {rs : List Rl} {K : Nat} {k e : Int} (h : checkFrom K (rs.take K) (rs.drop K) = (k, e)) (hK : rs.length ≤ K) : k = -1 ∧ e = 0 := by
  rw [List.drop_of_length_le hK] at h
  simp only [checkFrom, Prod.mk.injEq] at h
  exact ⟨h.1.symm, h.2.symm⟩
theorem ret_pair {a b c d : Int} {k l : IntKind} (h : a = c ∧ b = d) : Ending.returned (.tuple #[.int k c, .int l d]) = .returned (.tuple #[.int k a, .int l b]) := by rw [h.1, h.2]

set_option maxRecDepth 100000 in
set_option maxHeartbeats 3200000 in
theorem check_any (n : Nat) (A : Option Addr) (c : Nat) (rs : List Rl) (B : Nat) (w : World) (hr : RsAt w B A n c rs) (hB : B ≤ w.heap.size) (k e : Int) (hv : checkR rs = (k, e)) :
    Calls Tryd.prog 22 #[.slice A n c] w fun en w' => en = .returned (.tuple #[.int .i64 k, .int .i64 e]) ∧ Below w.heap.size w w' := by
  have HR := Lib.hid hr
  have HV := Lib.hid hv
  have hn1 := hr.fits
  have hn2 := hr.small
  unfold maxLen at hn2
  clear hr hv
  go_enter Tryd.func22, Tryd.ntmps22
  go_wp2
  go_loopw [8] (fun i wr => ∃ K : Nat, K ≤ n ∧ i = .int .i64 K ∧ Below w.heap.size w wr ∧ Hid (checkFrom K (rs.take K) (rs.drop K) = (k, e))) (fun i _ => n - (intOf i).toNat)
  case atStart => exact ⟨0, by omega, rfl, Below.refl _ _, HV.out⟩
  case round =>
    obtain ⟨K, hK, rfl, hb, hf⟩ := hrel
    by_cases hKn : K = n
    · have hK' : ¬ K < n := by omega
      have HE := Lib.hid (check_end hf.out (by rw [← HR.out.len, hKn]; omega))
      clear hKn
      go_wp2
      go_ret2
      exact ⟨ret_pair HE.out, hb⟩
    have hK' : K < n := by omega
    have hK1 : K < rs.length := by rw [← HR.out.len]; exact hK'
    obtain ⟨b, o, rfl, hbB, A1, n1, c1, A2, n2, c2, g1, g2, e1, e2, e3, e4, f1, f2, f3, f4⟩ := HR.out.at hK1
    have k1 := (hb.cell (p := ⟨b, o + K * 2, none⟩) (by show b < _; omega)).trans g1
    have k2 := (hb.cell (p := ⟨b, o + K * 2 + 1, none⟩) (by show b < _; omega)).trans g2
    have k3 : (0 : Int) ≤ K := by omega
    have k4 : (K : Int) < n := by omega
    have k5 : K ≤ c := by omega
    have E1 := Lib.hid e1
    have F1 := Lib.hid f1
    have E4 := Lib.hid (e4.below (hb.mono hB) (Nat.le_refl _))
    have F4 := Lib.hid (f4.below (hb.mono hB) (Nat.le_refl _))
    have hs1 := hb.size
    have E3 := Lib.hid e3
    have HM3 : Hid (n1 ≤ 9223372036854775807) := by unfold maxLen at e3; exact (show n1 ≤ 9223372036854775807 by omega)
    have HM4 : Hid (n2 ≤ 9223372036854775807) := by unfold maxLen at f3; exact (show n2 ≤ 9223372036854775807 by omega)
    have M3 := Lib.hid e3
    have M4 := Lib.hid f3
    clear g1 g2 e1 e4 f1 f4 e3 f3 E3
    by_cases hlim : 512 ≤ K
    · have HE := Lib.hid (check_lim hf.out hK1 hlim)
      go_wp2
      go_ret2
      exact ⟨ret_pair HE.out, hb.trans (((Below.refl _ _).alloc (Nat.le_refl _) _).mono hb.size)⟩
    have hl2 : K < 512 := by omega
    have hbA : ∀ o, Below B wr (wr.alloc o) := fun o => ((Below.refl _ _).alloc (Nat.le_refl _) _).mono (by omega)
    have HBA := Lib.hid hbA
    obtain ⟨s1, hs1'⟩ : ∃ s, sideB rs[K].1 = s := ⟨_, rfl⟩
    obtain ⟨s2, hs2'⟩ : ∃ s, sideB rs[K].2 = s := ⟨_, rfl⟩
    have S1 := Lib.hid hs1'
    have S2 := Lib.hid hs2'
    clear hs1' hs2' hbA
    cases s1 with
    | false =>
      have HE := Lib.hid (check_arg hf.out hK1 hl2 (by rw [S1.out]; rfl))
      go_wp2_with fail
      refine (side_any n1 A1 c1 rs[K].1 B _ E1.out (E4.out.below (HBA.out _) (Nat.le_refl _)) HM3.out _ S1.out).mono ?_
      rintro en w1 ⟨rfl, rfl⟩
      go_wp2
      go_ret2
      exact ⟨ret_pair HE.out, hb.trans (((Below.refl _ _).alloc (Nat.le_refl _) _).mono hb.size)⟩
    | true =>
      cases s2 with
      | false =>
        have HE := Lib.hid (check_arg hf.out hK1 hl2 (by rw [S1.out, S2.out]; rfl))
        go_wp2_with fail
        refine (side_any n1 A1 c1 rs[K].1 B _ E1.out (E4.out.below (HBA.out _) (Nat.le_refl _)) HM3.out _ S1.out).mono ?_
        rintro en w1 ⟨rfl, rfl⟩
        go_wp2_with fail
        refine (side_any n2 A2 c2 rs[K].2 B _ F1.out (F4.out.below (HBA.out _) (Nat.le_refl _)) HM4.out _ S2.out).mono ?_
        rintro en w1 ⟨rfl, rfl⟩
        go_wp2
        go_ret2
        exact ⟨ret_pair HE.out, hb.trans (((Below.refl _ _).alloc (Nat.le_refl _) _).mono hb.size)⟩
      | true =>
        have hss : (sideB rs[K].1 && sideB rs[K].2) = true := by rw [S1.out, S2.out]; rfl
        have HSS := Lib.hid hss
        clear hss
        obtain ⟨fd, hfd⟩ : ∃ fd, findR (rs.take K) rs[K].1 = fd := ⟨_, rfl⟩
        have HFD := Lib.hid hfd
        have hcut := Lib.hid (HR.out.cut K (by omega))
        clear hfd
        go_wp2_with fail
        refine (side_any n1 A1 c1 rs[K].1 B _ E1.out (E4.out.below (HBA.out _) (Nat.le_refl _)) HM3.out _ S1.out).mono ?_
        rintro en w1 ⟨rfl, rfl⟩
        go_wp2_with fail
        refine (side_any n2 A2 c2 rs[K].2 B _ F1.out (F4.out.below (HBA.out _) (Nat.le_refl _)) HM4.out _ S2.out).mono ?_
        rintro en w1 ⟨rfl, rfl⟩
        go_wp2_with fail
        obtain ⟨W, hW⟩ : ∃ W, W = wr.alloc (.cells #[.slice A1 n1 c1, .slice A2 n2 c2] 49) := ⟨_, rfl⟩
        have q0 : W.cell? ⟨wr.heap.size, 0, none⟩ = some (.slice A1 n1 c1) := by rw [hW]; exact World.cell?_alloc_new (w := wr) _ _ 0
        have hbW : Below wr.heap.size wr W := by rw [hW]; exact (Below.refl _ _).alloc (Nat.le_refl _) _
        have hsW : wr.heap.size < W.heap.size := by rw [hW]; simp
        rw [← hW]
        have HW := Lib.hid hW
        clear hW
        refine wp_region_mixe (G := SameB wr.heap.size) [(0, false), (1, false), (2, false), (3, false), (4, false), (5, true), (6, false), (7, false)]
          (SameB.refl _) (SameB.trans _) (by kernel_rfl) rfl (by kernel_rfl) (by kernel_rfl) ?_
        iterate 4 (refine mixe_one rfl rfl ?_; go_big_quiet_step ((intro _; rfl)); refine wpQuiet_nil ?_)
        refine mixe_one rfl rfl ?_
        go_big_quiet_step ((intro hh; rw [hh.cell, World.cell?_drew, q0]; exact ⟨rfl, rfl⟩))
        refine wpQuiet_nil ?_
        refine mixe_call rfl ?_
        go_wp2_with fail
        have hbD : Below wr.heap.size wr W.drew := hbW.drew
        refine (find_any _ _ (some ⟨b, o, none⟩) A1 c c1 (rs.take K) rs[K].1 B B _ (hcut.out.below ((hb.trans (hbD.mono hs1)).mono hB) (Nat.le_refl _)) E1.out (E4.out.below (hbD.mono (by omega)) (Nat.le_refl _)) e2 M3.out (by show B ≤ W.heap.size; omega) (by show B ≤ W.heap.size; omega) fd HFD.out).mono ?_
        rintro en w2 ⟨rfl, hb2⟩
        have hbE := hb.trans ((hbD.trans (hb2.mono (by show wr.heap.size ≤ W.heap.size; omega))).mono hs1)
        go_wp2_with fail
        refine ⟨SameB.of hb2 (by show wr.heap.size < W.heap.size; omega), ?_⟩
        iterate 2 (refine mixe_one rfl rfl ?_; go_big_quiet_step ((intro _; rfl)); refine wpQuiet_nil ?_)
        refine NoPanic.normal ?_
        by_cases hfd0 : 0 ≤ fd
        · have HE := Lib.hid (check_two hf.out hK1 hl2 HSS.out (by rw [HFD.out]; exact hfd0))
          go_wp2
          go_ret2
          exact ⟨ret_pair HE.out, hbE⟩
        · have HE := Lib.hid (check_next hf.out hK1 hl2 HSS.out (by rw [HFD.out]; exact hfd0))
          go_wp2
          go_roundw
          case rel => exact ⟨K + 1, by omega, by go_num, hbE, HE⟩
          case measure => simp [intOf]; omega
end Go.Proofs.YthgomhmalmmhlaaDoor
