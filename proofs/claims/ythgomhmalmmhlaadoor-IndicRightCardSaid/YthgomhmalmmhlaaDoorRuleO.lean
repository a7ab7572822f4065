/- Layer 3: Turn. -/
import Derived.Test.YthgomhmalmmhlaaDoorRuleE
namespace Go.Proofs.YthgomhmalmmhlaaDoor
set_option linter.unusedVariables false
open Go.RowKit
theorem turn_skip {rs acc ts : List Rl} {K : Nat} (h : turnFrom acc (rs.drop K) = ts) (hK : K < rs.length) (hf : 0 ≤ findR acc rs[K].2) : turnFrom acc (rs.drop (K + 1)) = ts := by
  rw [List.drop_eq_getElem_cons hK] at h
  simp only [turnFrom, if_pos hf] at h
  exact h
theorem turn_take {rs acc ts : List Rl} {K : Nat} (h : turnFrom acc (rs.drop K) = ts) (hK : K < rs.length) (hf : ¬ 0 ≤ findR acc rs[K].2) : turnFrom (acc ++ [(rs[K].2, rs[K].1)]) (rs.drop (K + 1)) = ts := by
  rw [List.drop_eq_getElem_cons hK] at h
  simp only [turnFrom, if_neg hf] at h
  exact h
theorem turn_end {rs acc ts : List Rl} {K : Nat} (h : turnFrom acc (rs.drop K) = ts) (hK : rs.length ≤ K) : ts = acc := by
  rw [List.drop_of_length_le hK] at h
  exact h.symm

set_option maxHeartbeats 1600000 in
set_option maxRecDepth 100000 in
theorem turn_any (n : Nat) (A : Option Addr) (c : Nat) (rs : List Rl) (B : Nat) (w : World) (hr : RsAt w B A n c rs) (hB : B ≤ w.heap.size) (hn : n ≤ 1048576) (hl : ∀ r ∈ rs, r.1.length ≤ 17592186044416 ∧ r.2.length ≤ 17592186044416) (ts : List Rl) (ht : turnR rs = ts) :
    Calls Tryd.prog 23 #[.slice A n c] w fun e w' => ∃ v, e = .returned v ∧ OwnRs w.heap.size w' v ts ∧ Below w.heap.size w w' := by
  obtain ⟨i0, hi, hz0, hz1, hz2⟩ := info_parts inforl
  have HR := Lib.hid hr
  have HT := Lib.hid ht
  have HL := Lib.hid hl
  have hn1 := hr.fits
  have hn2 := hr.small
  unfold maxLen at hn2
  clear hr ht hl
  go_enter Tryd.func23, Tryd.ntmps23
  go_wp2
  go_loopw [3, 8] (fun v i wr => ∃ (K : Nat) (acc : List Rl), K ≤ n ∧ i = .int .i64 K ∧ Hid (OwnRs w.heap.size wr v acc) ∧ acc.length ≤ K ∧ Below w.heap.size w wr ∧ Hid (turnFrom acc (rs.drop K) = ts)) (fun _ i _ => n - (intOf i).toNat)
  case atStart => exact ⟨0, [], by omega, rfl, OwnRs.nil _ _, by simp, Below.refl _ _, HT.out⟩
  case round =>
    obtain ⟨K, acc, hK, rfl, ho, hacc, hb, hf⟩ := hrel
    by_cases hKn : K = n
    · have hK' : ¬ K < n := by omega
      have HE := Lib.hid (turn_end hf.out (by rw [← HR.out.len, hKn]; omega))
      clear hKn
      go_wp2
      go_ret
      exact ⟨_, rfl, by rw [HE.out]; exact ho.out, hb⟩
    have hK' : K < n := by omega
    have hK1 : K < rs.length := by rw [← HR.out.len]; exact hK'
    have hlK := HL.out _ (List.getElem_mem hK1)
    obtain ⟨b, o, rfl, hbB, A1, n1, c1, A2, n2, c2, g1, g2, e1, e2, e3, e4, f1, f2, f3, f4⟩ := HR.out.at hK1
    have k1 := (hb.cell (p := ⟨b, o + K * 2, none⟩) (by show b < _; omega)).trans g1
    have k2 := (hb.cell (p := ⟨b, o + K * 2 + 1, none⟩) (by show b < _; omega)).trans g2
    have k3 : (0 : Int) ≤ K := by omega
    have k4 : (K : Int) < n := by omega
    have hl1 : n1 ≤ 17592186044416 := by rw [e1]; exact hlK.1
    have hl2 : n2 ≤ 17592186044416 := by rw [f1]; exact hlK.2
    have E1 := Lib.hid e1
    have F1 := Lib.hid f1
    have E4 := Lib.hid (e4.below (hb.mono hB) (Nat.le_refl _))
    have F4 := Lib.hid (f4.below (hb.mono hB) (Nat.le_refl _))
    obtain ⟨A3, c3, rfl, hat⟩ := ho.out.form
    have HAT := Lib.hid hat
    have hat2 := hat.fits
    have hat3 := hat.small
    unfold maxLen at hat3
    clear g1 g2 e1 e4 f1 f4 hat hlK
    have hfe := findR_lo acc rs[K].2
    obtain ⟨fd, hfd⟩ : ∃ fd, findR acc rs[K].2 = fd := ⟨_, rfl⟩
    rw [hfd] at hfe
    have HFD := Lib.hid hfd
    clear hfd
    go_wp2_with fail
    refine (find_any _ _ A3 A2 c3 c2 acc rs[K].2 wr.heap.size B _ (HAT.out.below ((Below.refl _ _).alloc (Nat.le_refl _) _) (Nat.le_refl _)) F1.out (F4.out.below (((Below.refl _ _).alloc (Nat.le_refl _) _).mono (Nat.le_trans hB hb.size)) (Nat.le_refl _)) f2 f3 (by simp) (by have := hb.size; simp; omega) fd HFD.out).mono ?_
    rintro e w1 ⟨rfl, hb1⟩
    have hbl : Below wr.heap.size wr w1 := ((Below.refl _ _).alloc (Nat.le_refl _) _).trans (hb1.mono (by simp))
    have hzg : wr.heap.size < w1.heap.size := by have := hb1.size; simp at this; omega
    have q0 : w1.cell? ⟨wr.heap.size, 0, none⟩ = some (.slice A1 n1 c1) := by rw [hb1.cell (p := ⟨wr.heap.size, 0, none⟩) (by simp)]; exact World.cell?_alloc_new (w := wr) _ _ 0
    have q1 : w1.cell? ⟨wr.heap.size, 1, none⟩ = some (.slice A2 n2 c2) := by rw [hb1.cell (p := ⟨wr.heap.size, 1, none⟩) (by simp)]; exact World.cell?_alloc_new (w := wr) _ _ 1
    by_cases hfd0 : 0 ≤ fd
    · have HE := Lib.hid (turn_skip hf.out hK1 (by rw [HFD.out]; exact hfd0))
      go_wp2
      go_roundw
      case rel => exact ⟨K + 1, acc, by omega, by go_num, ho.out.below hbl (Nat.le_refl _), by omega, hb.trans (hbl.mono hb.size), HE⟩
      case measure => simp [intOf]; omega
    · have HE := Lib.hid (turn_take hf.out hK1 (by rw [HFD.out]; exact hfd0))
      go_wp2_with fail
      have hs1 := hb.size
      have hs2 := hbl.size
      have E5 := Lib.hid (E4.out.below (hbl.mono (Nat.le_trans hB hb.size)) (Nat.le_refl _))
      have F5 := Lib.hid (F4.out.below (hbl.mono (Nat.le_trans hB hb.size)) (Nat.le_refl _))
      have O1 := Lib.hid (ho.out.below hbl (Nat.le_refl _))
      obtain ⟨g, hg⟩ : ∃ g, g = wr.heap.size := ⟨_, rfl⟩
      have ho3 : (Value.slice A3 acc.length c3).ownBlock ≠ some g := by
        obtain ⟨xs, ho1, _⟩ := ho.out
        intro hx; have := own_lt ho1 hx; omega
      have HO3 := Lib.hid ho3
      have HG := Lib.hid hg
      rw [← hg] at q0 q1 hzg ⊢
      clear hg ho3
      refine wp_region_mixe (G := SameB g) [(0, false), (1, false), (2, false), (4, false), (5, false), (3, true), (6, true), (7, false), (8, true), (9, true), (10, false)]
        (SameB.refl _) (SameB.trans _) (by kernel_rfl) rfl (by kernel_rfl) (by kernel_rfl) ?_
      iterate 2 (refine mixe_one rfl rfl ?_; go_big_quiet_step ((intro _; rfl)); refine wpQuiet_nil ?_)
      refine mixe_one rfl rfl ?_
      go_big_quiet_step ((intro hh; rw [hh.cell, World.cell?_drew, q1]; exact ⟨rfl, rfl⟩))
      refine wpQuiet_nil ?_
      refine mixe_one rfl rfl ?_
      go_big_quiet_step ((intro _; rfl))
      refine wpQuiet_nil ?_
      refine mixe_one rfl rfl ?_
      go_big_quiet_step ((intro hh; rw [hh.cell, World.cell?_drew, q0]; exact ⟨rfl, rfl⟩))
      refine wpQuiet_nil ?_
      refine mixe_call rfl ?_
      go_wp2_with fail
      refine (clone_any n2 A2 c2 rs[K].2 B _ F1.out (Rd.drew F5.out) (by show B ≤ w1.heap.size; omega) hl2).mono ?_
      rintro e w2 ⟨A4, c4, rfl, hu4, hb2⟩
      have HU4 := Lib.hid hu4
      have hb2' : Below w1.heap.size w1 w2 := (Below.refl _ _).drew.trans hb2
      have hz2' : w1.heap.size ≤ w2.heap.size := hb2'.size
      clear hu4
      go_wp2_with fail
      refine ⟨SameB.of hb2 (by show g < w1.heap.size; omega), ?_⟩
      refine mixe_call rfl ?_
      go_wp2_with fail
      refine (clone_any n1 A1 c1 rs[K].1 B _ E1.out (E5.out.below (hb2'.mono (by omega)) (Nat.le_refl _)) (by omega) hl1).mono ?_
      rintro e w3 ⟨A5, c5, rfl, hu5, hb3⟩
      have HU5 := Lib.hid hu5
      have hz3 : w2.heap.size ≤ w3.heap.size := hb3.size
      clear hu5
      go_wp2_with fail
      refine ⟨SameB.of hb3 (by omega), ?_⟩
      refine mixe_one rfl rfl ?_
      go_big_quiet_step ((intro _; rfl))
      refine wpQuiet_nil ?_
      refine mixe_call rfl ?_
      go_wp2_with fail
      refine ⟨SameB.of ((Below.refl w3.heap.size w3).alloc (Nat.le_refl _) _) (by omega), ?_⟩
      refine mixe_call rfl ?_
      obtain ⟨W, hW⟩ : ∃ W, W = w3.alloc (.cells #[.slice A4 n2 c4, .slice A5 n1 c5] 49) := ⟨_, rfl⟩
      have hbW : Below w3.heap.size w3 W := by rw [hW]; exact (Below.refl _ _).alloc (Nat.le_refl _) _
      have hsW : W.heap.size = w3.heap.size + 1 := by rw [hW]; simp
      have hrW : Rd W (w3.heap.size + 1) (some ⟨w3.heap.size, 0, none⟩) [.slice A4 n2 c4, .slice A5 n1 c5] := by rw [hW]; exact Rd_new w3 _ _
      have hbWr : Below wr.heap.size wr W := hbl.trans (((hb2'.trans (hb3.mono hz2')).trans (hbW.mono (by omega))).mono hs2)
      obtain ⟨xs, hown, hx⟩ := ho.out.below hbWr (Nat.le_refl _)
      have HX := Lib.hid hx
      have hlow := own_low hown (Nat.le_refl _)
      have hoB : ∀ x, (Value.slice A3 acc.length c3).ownBlock = some x → x < w1.heap.size := by
        intro x hx
        obtain ⟨ys, h1, _⟩ := ho.out
        have := own_lt h1 hx; omega
      have HOB := Lib.hid hoB
      have HRW := Lib.hid hrW
      have HSW := Lib.hid hsW
      rw [← hW]
      have HW := Lib.hid hW
      clear hx hoB hW hrW hsW
      go_wp2_with (at_builtin; refine wpList_appB _ rfl _ _ 41 rfl w.heap.size 49 i0 _ 2 48 Tryd.underlying41 hi hz0 hz1 hz2 rfl (by decide) _ _ _ rfl hlow (w3.heap.size + 1) _ 1 1 [.slice A4 n2 c4, .slice A5 n1 c5] rfl rfl HRW.out ?c2 ?c3 ?c4 ?c5 ?_)
      case c2 => intro u hu; simp at hu; rcases hu with rfl | rfl <;> rfl
      case c3 => simp only [maxLen]; omega
      case c4 => omega
      case c5 => rw [HSW.out]; omega
      intro v' w4 hown4 hg4 hv4
      have hz4 := hg4.size
      have hsame : SameB g W w4 := SameB.grown hg4 (by rw [HSW.out]; omega) HO3.out
      have hpush : OwnRs w.heap.size w4 v' (acc ++ [(rs[K].2, rs[K].1)]) := by
        refine own_push (r := (rs[K].2, rs[K].1)) hown4 HX.out ?_ ?_ hg4 hv4
        · refine HU4.out.step (by rw [HSW.out]; omega) fun b hb hle => ⟨?_, ?_⟩
          · intro e; have := HOB.out _ e; have : w1.heap.size ≤ b := hle; omega
          · exact (hb3.trans (hbW.mono hz3)).block b hb
        · refine HU5.out.step (by rw [HSW.out]; omega) fun b hb hle => ⟨?_, ?_⟩
          · intro e; have := HOB.out _ e; have : w2.heap.size ≤ b := hle; omega
          · exact hbW.block b hb
      have HP := Lib.hid hpush
      have hbE : Below w.heap.size w w4 := below_own (hb.trans (hbWr.mono hs1)) hg4 hlow (Nat.le_refl _) (by rw [HSW.out]; omega)
      clear hown4 hpush
      go_wp2_with fail
      refine ⟨hsame, ?_⟩
      refine mixe_one rfl rfl ?_
      go_big_quiet_step ((intro _; rfl))
      refine wpQuiet_nil ?_
      refine NoPanic.normal ?_
      go_wp2
      exact ⟨⟨K + 1, _, by omega, by go_num, HP, by simp; omega, hbE, HE⟩, by simp [intOf]; omega⟩
end Go.Proofs.YthgomhmalmmhlaaDoor
