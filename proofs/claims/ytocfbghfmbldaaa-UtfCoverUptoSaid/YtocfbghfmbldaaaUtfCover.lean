/- UtfCover: the walk. -/
import Derived.Test.YtocfbghfmbldaaaUtfOwn
namespace Go.Proofs.Ytocfbghfmbldaaa
set_option linter.unusedVariables false
open Go.RowKit

set_option maxHeartbeats 1600000 in
theorem utfCover_any (A : Option Addr) (cap : Nat) (zs : List Int) (w : World) (hr : Rd w w.heap.size A (zs.map (Value.int .u8))) (hc : zs.length ≤ cap) (hb : ∀ z ∈ zs, 0 ≤ z ∧ z ≤ 255) (hl : zs.length ≤ 1048576) :
    Calls Try.prog 5 #[.slice A zs.length cap] w fun e w' => e = .returned (.bool true) ∧ Below w.heap.size w w' := by
  have HR := Lib.hid hr
  have HB := Lib.hid hb
  clear hr hb
  obtain ⟨ts, hts⟩ : ∃ ts, allF zs.length 0 zs = ts := ⟨_, rfl⟩
  obtain ⟨m, hm⟩ : ∃ m, ts.length = m := ⟨_, rfl⟩
  have HTS := Lib.hid hts
  have HM := Lib.hid hm
  clear hts hm
  go_enter Try.func5, Try.ntmps5
  go_wp2_with (first
    | (go_at_call 7; refine (awake_any _).mono ?_; rintro e w1 ⟨rfl, hb1⟩)
    | (go_at_call 14; refine (all_own _ _ _ zs _ rfl (HR.out.below hb1 hb1.size) (by omega) hc HB.out ts m HTS.out HM.out).mono ?_; rintro e w2 ⟨A2, c2, xs2, rfl, hr2, ht2, hc2, hm2, hb2⟩))
  have HR2 := Lib.hid hr2
  have HT2 := Lib.hid ht2
  have hbA := hb1.trans (hb2.mono hb1.size)
  clear hr2 ht2
  unfold maxLen at hm2
  go_loopw [3, 11] (fun p i wr => ∃ (K P f : Nat), K ≤ m ∧ P ≤ zs.length ∧ zs.length - P ≤ f ∧ ts.drop K = allF f P (zs.drop P) ∧ p = .int .i64 P ∧ i = .int .i64 K ∧ Below w2.heap.size w2 wr) (fun _ i _ => m - (intOf i).toNat)
  case atStart => exact ⟨0, 0, zs.length, by omega, by omega, by omega, by simpa using HTS.out.symm, rfl, rfl, Below.refl _ _⟩
  case round =>
    obtain ⟨K, P, f, hK, hP, hf, hdr, rfl, rfl, hbr⟩ := hrel
    have HD := Lib.hid hdr
    clear hdr
    by_cases hKm : K = m
    · have hPl : (P : Int) = zs.length := by
        have h1 := HD.out
        rw [List.drop_of_length_le (by rw [HM.out]; omega)] at h1
        rcases Nat.lt_or_ge P zs.length with h2 | h2
        · obtain ⟨f', rfl⟩ : ∃ f', f = f' + 1 := ⟨f - 1, by omega⟩
          rw [List.drop_eq_getElem_cons h2] at h1
          cases h1
        · omega
      have hlast : ((P : Int) == zs.length) = true := beq_iff_eq.2 hPl
      have hKm' : ¬ K < m := by omega
      clear hKm hPl
      go_wp2
      go_ret
      exact ⟨rfl, hbA.trans (hbr.mono hbA.size)⟩
    have hKm' : K < m := by omega
    have hKt : K < ts.length := by rw [HM.out]; exact hKm'
    obtain ⟨s, n, e, f', hPl, ho, ht, hn1, hn2, he0, he2, hsh, hf', htl⟩ := allF_step (by rw [← List.drop_eq_getElem_cons hKt]; exact HD.out) hf
    have hget : ts[K]? = some ts[K] := List.getElem?_eq_getElem hKt
    rw [ht] at hget
    obtain ⟨b8, o8, rfl, hbl8, hcell8⟩ := toks_at HR2.out HT2.out (by omega)
    obtain ⟨g1, g2, ⟨A9, c9, g3, g4, g5, g6⟩, g7⟩ := hcell8 K _ hget
    have k1 := (hbr.cell (p := ⟨b8, o8 + K * 4, none⟩) hbl8).trans g1
    have k2 := (hbr.cell (p := ⟨b8, o8 + K * 4 + 1, none⟩) hbl8).trans g2
    have k3 := (hbr.cell (p := ⟨b8, o8 + K * 4 + 2, none⟩) hbl8).trans g3
    have k4 := (hbr.cell (p := ⟨b8, o8 + K * 4 + 3, none⟩) hbl8).trans g7
    have HO := Lib.hid ho
    have HTL := Lib.hid htl
    have HSH := Lib.hid hsh
    simp only at k1 k2 k3 k4
    clear g1 g2 g3 g7 hcell8 hget ht ho htl hsh hKt
    by_cases hz : e = 0
    · subst hz
      simp only [if_true, List.length_cons, List.length_nil] at k3 g6
      obtain ⟨N, rfl⟩ := Int.eq_ofNat_of_zero_le (show 0 ≤ n by omega)
      obtain ⟨hsc, htk, _, _⟩ := one_sound (zs.drop P) s N (fun z hz => HB.out z (List.mem_of_mem_drop hz)) HO.out
      rw [Int.toNat_natCast] at htk
      have HTK := Lib.hid htk
      obtain ⟨b9, o9, rfl, hbl9, hcell9⟩ := rd_ints g6 (by simp)
      have k5 := (hbr.cell (p := ⟨b9, o9, none⟩) hbl9).trans (hcell9 0 (by simp))
      simp at k5 k3
      have n9 : b9 < wr.heap.size := Nat.lt_of_lt_of_le hbl9 hbr.size
      have hcapP : ¬ cap = P := by omega
      have hPP : ((P : Int) != (P : Int)) = false := by simp
      have hcv := fun (w : World) (A : Option Addr) (zs : List Int) (n cap : Nat) => run_str (P := Try.prog) w 23 9 5 Try.underlying23 Try.underlying5 Try.underlying9 w.heap.size A zs n cap
      have HCV := Lib.hid hcv
      clear htk g6 hcell9 hcv
      go_wp2_with fail
      obtain ⟨W1, hW1⟩ : ∃ W1, W1 = wr.alloc (.cells #[.int .i64 P, .int .i64 N, .slice (some ⟨b9, o9, none⟩) 1 c9, .int .i64 0] 38) := ⟨_, rfl⟩
      rw [← hW1]
      have hz1 : wr.heap.size < W1.heap.size := by rw [hW1]; simp
      have q1 : W1.cell? ⟨wr.heap.size, 1, none⟩ = some (.int .i64 N) := by rw [hW1]; exact World.cell?_alloc_new (w := wr) _ _ 1
      have q2 : W1.cell? ⟨wr.heap.size, 2, none⟩ = some (.slice (some ⟨b9, o9, none⟩) 1 c9) := by rw [hW1]; exact World.cell?_alloc_new (w := wr) _ _ 2
      have q3 : W1.cell? ⟨wr.heap.size, 3, none⟩ = some (.int .i64 0) := by rw [hW1]; exact World.cell?_alloc_new (w := wr) _ _ 3
      have hbW : Below wr.heap.size wr W1 := by rw [hW1]; exact (Below.refl _ _).alloc (Nat.le_refl _) _
      have q5 := (hbW.cell (p := ⟨b9, o9, none⟩) n9).trans k5
      have hrW : Rd W1 W1.heap.size (Option.map (fun x => x.add P) A) ((encL s).map (Value.int .u8)) := by
        have h1 := Rd.drop (k := P) (cap := cap) (((HR.out.below hbA hbA.size).below hbr hbr.size).below hbW hbW.size) (n := zs.length) (by simp) (by omega) hc
        rw [if_neg hcapP, ← List.map_drop] at h1
        have h2 := h1.take N
        rw [← List.map_take, HTK.out] at h2
        exact h2
      have hNl : N = (encL s).length := by rw [← HTK.out]; simp; omega
      have HNL := Lib.hid hNl
      have HRW := Lib.hid hrW
      have HW := Lib.hid hW1
      have HN9 := Lib.hid (Nat.lt_trans n9 hz1)
      clear hW1 hrW hNl k1 k2 k3 k4 k5
      refine wp_region_mix (G := fun w w' => Below w.heap.size w w') [(0, false), (1, false), (2, false), (3, false), (4, false), (5, false), (6, false), (7, false), (10, false), (11, false), (12, false), (13, false), (14, false), (15, false), (16, false), (17, false), (8, true), (9, false), (18, false), (19, false), (20, false), (21, false), (22, false), (23, false), (24, false), (25, false), (26, false), (27, false), (28, false), (29, false), (30, false), (31, false), (32, false), (33, false)]
        below_refl below_trans (by kernel_rfl) rfl (by kernel_rfl) (by kernel_rfl) (below_refl _).drew ?_
      iterate 1 (refine mix_one rfl rfl ?_; go_big_quiet_step ((intro _; rfl)); refine wpQuiet_nil ?_)
      refine mix_one rfl rfl ?_
      go_big_quiet_step ((intro hh; rw [(hh.cell (p := ⟨wr.heap.size, 3, none⟩) (by omega)).trans q3]; exact ⟨rfl, rfl⟩))
      refine wpQuiet_nil ?_
      iterate 3 (refine mix_one rfl rfl ?_; go_big_quiet_step ((intro _; rfl)); refine wpQuiet_nil ?_)
      refine mix_one rfl rfl ?_
      go_big_quiet_step ((intro hh; rw [(hh.cell (p := ⟨wr.heap.size, 2, none⟩) (by omega)).trans q2]; exact ⟨rfl, rfl⟩))
      refine wpQuiet_nil ?_
      iterate 1 (refine mix_one rfl rfl ?_; go_big_quiet_step ((intro _; rfl)); refine wpQuiet_nil ?_)
      refine mix_one rfl rfl ?_
      go_big_quiet_step ((intro hh; rw [(hh.cell (p := ⟨b9, o9, none⟩) HN9.out).trans q5]; exact ⟨rfl, rfl⟩))
      refine wpQuiet_nil ?_
      iterate 4 (refine mix_one rfl rfl ?_; go_big_quiet_step ((intro _; rfl)); refine wpQuiet_nil ?_)
      refine mix_one rfl rfl ?_
      go_big_quiet_step ((intro hh; rw [(hh.cell (p := ⟨wr.heap.size, 1, none⟩) (by omega)).trans q1]; exact ⟨rfl, rfl⟩))
      refine wpQuiet_nil ?_
      iterate 2 (refine mix_one rfl rfl ?_; go_big_quiet_step ((intro _; rfl)); refine wpQuiet_nil ?_)
      refine mix_one rfl rfl ?_
      go_big_quiet_step ((intro hh; rw [HCV.out _ (Option.map (fun x => x.add P) A) (encL s) N (cap - P) HNL.out (HRW.out.below hh hh.size)]; exact ⟨rfl, rfl⟩))
      refine wpQuiet_nil ?_
      refine mix_call rfl ?_
      intro w4 hb4
      go_wp2_with fail
      refine (put_own 0 _ _ [] s _ rfl Rd.nil (by simp) (by simp) hsc (encL s) (encL s).length rfl rfl).mono ?_
      rintro e w5 ⟨A5, c5, rfl, hr5, hc5, _, hb5⟩
      have hb45 := below_trans _ _ _ hb4 hb5
      have hz5 := hb45.size
      go_wp2_with fail
      refine ⟨hb5, ?_⟩
      refine mix_one rfl rfl ?_
      go_big_quiet_step ((intro hh; rw [HCV.out _ A5 (encL s) (encL s).length c5 rfl (hr5.below hh hh.size)]; exact ⟨rfl, rfl⟩))
      refine wpQuiet_nil ?_
      iterate 4 (refine mix_one rfl rfl ?_; go_big_quiet_step ((intro _; rfl)); refine wpQuiet_nil ?_)
      refine mix_one rfl rfl ?_
      go_big_quiet_step ((intro hh; rw [((below_trans _ _ _ hb45 hh).cell (p := ⟨wr.heap.size, 3, none⟩) (by omega)).trans q3]; exact ⟨rfl, rfl⟩))
      refine wpQuiet_nil ?_
      iterate 11 (refine mix_one rfl rfl ?_; go_big_quiet_step ((intro _; rfl)); refine wpQuiet_nil ?_)
      refine mix_nil ?_
      intro w6 hb6
      have hbE := below_trans _ _ _ hb45 hb6
      have r1 := (hbE.cell (p := ⟨wr.heap.size, 1, none⟩) (by omega)).trans q1
      refine NoPanic.normal ?_
      go_wp2
      exact ⟨⟨K + 1, P + N, f', by omega, by omega, hf', HTL.out, by go_num, by go_num, hbr.trans ((hbW.trans (hbE.mono hbW.size)).mono hbr.size)⟩, by simp [intOf]; omega⟩
    · simp only [if_neg hz, List.length_nil] at k3
      have hze : (e == 0) = false := beq_eq_false_iff_ne.2 hz
      have hPP : ((P : Int) != (P : Int)) = false := by simp
      clear g6 g4 g5
      by_cases h2 : e = 2
      · have hend : ((P : Int) + n != zs.length) = false := by rw [HSH.out h2]; simp
        subst h2
        go_wp2_with fail
        go_quiet (fail)
        go_wp2
        exact ⟨⟨K + 1, P + n.toNat, f', by omega, by omega, hf', HTL.out, by rw [show (((P + n.toNat : Nat)) : Int) = P + n from by omega], by go_num, hbr.trans ((((Below.refl _ _).alloc (Nat.le_refl _) _).trans (below_drewN' _ _)).mono hbr.size)⟩, by simp [intOf]; omega⟩
      · have hze2 : (e == 2) = false := beq_eq_false_iff_ne.2 h2
        go_wp2_with fail
        go_quiet (fail)
        go_wp2
        exact ⟨⟨K + 1, P + n.toNat, f', by omega, by omega, hf', HTL.out, by rw [show (((P + n.toNat : Nat)) : Int) = P + n from by omega], by go_num, hbr.trans ((((Below.refl _ _).alloc (Nat.le_refl _) _).trans (below_drewN' _ _)).mono hbr.size)⟩, by simp [intOf]; omega⟩
end Go.Proofs.Ytocfbghfmbldaaa
