/- Texts of this seat, one behind the other: TmS. -/
import Derived.Test.YtamembaodpiggaaDoorZ5
import Derived.Test.YtamembaodpiggaaDoorZ4
namespace Go.Proofs.YtamembaodpiggaaDoor
set_option linter.unusedVariables false
set_option linter.unusedSimpArgs false
set_option linter.unnecessarySimpa false
open Go.RowKit
def tmSg : List Int := [3014, 3015, 3016, 3021, 3006, 3007, 3008, 3031, 3018, 3019, 3020, 2949, 97]
def tmSgt : Array Value := (tmSg.map (Value.int .i64)).toArray
def smT (z : Int) : Int := if 140 < z then tmSg.getD (z.toNat % 13) 0 else tmC.getD (z.toNat % 22) 0
def someT (zs : List Int) : List Int := (zs.take 60).map smT
theorem someT_len (zs : List Int) : (someT zs).length ≤ 60 := by unfold someT; rw [List.length_map, List.length_take]; omega
set_option maxRecDepth 100000 in
set_option maxHeartbeats 6400000 in
theorem someT_any (n : Nat) (A : Option Addr) (c : Nat) (zs : List Int) (B : Nat) (w : World) (hn : n = zs.length) (hr : Rd w B A (zs.map (Value.int .u8))) (hw : ∀ z ∈ zs, 0 ≤ z ∧ z ≤ 255) (hB : B ≤ w.heap.size) (hc : n ≤ c) (hcm : c ≤ maxLen) (us : List Int) (hu : someT zs = us) :
    Calls Tryd.prog 23 #[.slice A n c] w fun e w' => ∃ v, e = .returned v ∧ IR w' w.heap.size v us ∧ Below w.heap.size w w' := by
  unfold maxLen at hcm
  obtain ⟨q, hq1, hq2, hqn, hq4⟩ : ∃ q : Nat, min (n : Int) 60 = (q : Int) ∧ (if (60 : Int) < (n : Int) then (60 : Int) else (n : Int)) = (q : Int) ∧ q ≤ n ∧ q ≤ 60 := by
    by_cases h : n < 60
    · exact ⟨n, by omega, by rw [if_neg (by omega)], by omega, by omega⟩
    · exact ⟨60, by omega, by split <;> omega, by omega, by omega⟩
  have hq0 : (0 : Int) ≤ (q : Int) := by omega
  have hqi : (q : Int) ≤ n := by omega
  have hqc : (q : Int) ≤ c := by omega
  obtain ⟨ys, hys⟩ : ∃ ys, zs.take q = ys := ⟨_, rfl⟩
  have hyl : ys.length = q := by rw [← hys, List.length_take]; omega
  have hyr : ∀ z ∈ ys, 0 ≤ z ∧ z ≤ 255 := fun z h => hw z (by rw [← hys] at h; exact List.mem_of_mem_take h)
  have hyd : Rd w B A (ys.map (Value.int .u8)) := by rw [← hys, List.map_take]; exact hr.take q
  have hyu : ys.map smT = us := by
    rw [← hu, ← hys]; unfold someT
    by_cases h : n < 60
    · rw [List.take_of_length_le (show zs.length ≤ q by omega), List.take_of_length_le (show zs.length ≤ 60 by omega)]
    · rw [show q = 60 by omega]
  have HYL := Lib.hid hyl
  have HYR := Lib.hid hyr
  have HYD := Lib.hid hyd
  have HYU := Lib.hid hyu
  have HQ0 := Lib.hid (Held.new w tmSgt 3)
  have HB0 := Lib.hid (below_allocT w (.cells tmSgt 3))
  clear hn hr hw hu hys hyl hyr hyd hyu
  go_enter Tryd.func23, Tryd.ntmps23
  go_wp2_with (refine wpList_bs rfl 30 13 _ rfl (.slice (some ⟨w.heap.size, 0, none⟩) 13 13) (w.alloc (.cells tmSgt 3)) (by kernel_rfl) ?_)
  go_wp2_with fail
  obtain ⟨W1, hW1⟩ : ∃ W1, w.alloc (.cells tmSgt 3) = W1 := ⟨_, rfl⟩
  obtain ⟨M, hM⟩ : ∃ M, w.heap.size = M := ⟨_, rfl⟩
  have hMS : M < W1.heap.size := by rw [← hW1, ← hM]; simp
  rw [hW1] at HQ0 HB0 ⊢
  rw [hM] at HQ0 HB0 hB ⊢
  obtain ⟨S, hS⟩ : ∃ S, W1.heap.size = S := ⟨_, rfl⟩
  rw [hS] at hMS
  have HSE := Lib.hid hS
  have HME := Lib.hid hM
  have HYD1 := Lib.hid (HYD.out.below (HB0.out.mono hB) (Nat.le_refl _))
  have HB1 := Lib.hid (show Below S W1 W1 from Below.refl _ _)
  clear hW1 hM hS HYD
  go_loopw [4, 15] (fun v i wr => ∃ K : Nat, K ≤ q ∧ i = .int .i64 K ∧ Hid (IR wr S v ((ys.take K).map smT)) ∧ Hid (Below S W1 wr)) (fun _ i _ => q - (intOf i).toNat)
  case atStart => exact ⟨0, by omega, rfl, Lib.hid (IR.nil _ _), HB1⟩
  case round =>
    obtain ⟨K, hK, rfl, hi, hb⟩ := hrel
    have hsz := hb.out.size
    rw [HSE.out] at hsz
    by_cases hKn : K = q
    · have hK' : ¬ K < q := by omega
      have hfin := hi.out
      rw [List.take_of_length_le (by rw [HYL.out]; omega), HYU.out] at hfin
      obtain ⟨A9, c9, rfl, -, -⟩ := hi.out.form
      have HF := Lib.hid (hfin.low (show M ≤ S by omega))
      have HBF := Lib.hid (HB0.out.trans (hb.out.mono (by omega)))
      clear hKn hi hb hfin
      go_wp2
      go_ret
      exact ⟨_, rfl, by rw [HME.out]; exact HF.out, by rw [HME.out]; exact HBF.out⟩
    have hK' : K < q := by omega
    have hK1 : K < ys.length := by rw [HYL.out]; exact hK'
    have k3 : (0 : Int) ≤ K := by omega
    have k4 : (K : Int) < q := by omega
    obtain ⟨b3, o3, rfl, hb3, hc3⟩ : ∃ b o, A = some ⟨b, o, none⟩ ∧ b < B ∧ ∀ j, j < ys.length → W1.cell? ⟨b, o + j, none⟩ = some (.int .u8 (ys.getD j 0)) := by
      rcases HYD1.out with h | ⟨b, o, h1, h2, h3⟩
      · rw [List.map_eq_nil_iff] at h; rw [h] at hK1; simp at hK1
      · refine ⟨b, o, h1, h2, fun j hj => ?_⟩
        rw [h3 j (by simpa using hj), List.getElem?_map, List.getD_eq_getElem?_getD, List.getElem?_eq_getElem hj]; rfl
    have r3 := (hb.out.cell (p := ⟨b3, o3 + K, none⟩) (by show b3 < S; omega)).trans (hc3 K hK1)
    have hnx : (ys.take (K + 1)).map smT = (ys.take K).map smT ++ [smT (ys.getD K 0)] := by
      rw [List.take_succ_eq_append_getElem hK1, List.map_append, List.getD_eq_getElem?_getD, List.getElem?_eq_getElem hK1]; rfl
    have hz := HYR.out (ys.getD K 0) (by rw [List.getD_eq_getElem?_getD, List.getElem?_eq_getElem hK1]; exact List.getElem_mem hK1)
    obtain ⟨z, hze⟩ : ∃ z, ys.getD K 0 = z := ⟨_, rfl⟩
    rw [hze] at r3 hnx hz
    obtain ⟨hz0, hz1⟩ := hz
    obtain ⟨a, ha⟩ : ∃ a : Nat, z.toNat % 22 = a := ⟨_, rfl⟩
    obtain ⟨d, hd⟩ : ∃ d : Nat, z.toNat % 13 = d := ⟨_, rfl⟩
    have ha2 : a < 22 := by omega
    have hd2 : d < 13 := by omega
    have hza : z % 22 = (a : Int) := by omega
    have hzd : z % 13 = (d : Int) := by omega
    have hwz : IntKind.i64.wrap z = z := by rw [IntKind.wrap_i64]; omega
    have hsm : smT z = if 140 < z then tmSg.getD d 0 else tmC.getD a 0 := by unfold smT; rw [ha, hd]
    have ct := (Held.new wr tmCt 3).cell a
    rw [show tmCt[a]? = some (.int .i64 (tmC.getD a 0)) from tab_ints tmC a ha2] at ct
    have hba : Below wr.heap.size wr (wr.alloc (.cells tmCt 3)) := below_allocT wr _
    have st := ((HQ0.out.below hb.out hMS).alloc (.cells tmCt 3)).cell d
    rw [show tmSgt[d]? = some (.int .i64 (tmSg.getD d 0)) from tab_ints tmSg d hd2] at st
    obtain ⟨ca, hca⟩ : ∃ ca, tmC.getD a 0 = ca := ⟨_, rfl⟩
    obtain ⟨sd, hsd⟩ : ∃ sd, tmSg.getD d 0 = sd := ⟨_, rfl⟩
    rw [hca] at ct hsm
    rw [hsd] at st hsm
    obtain ⟨A9, c9, rfl, -, -⟩ := hi.out.form
    obtain ⟨acc, hacc⟩ : ∃ acc, (ys.take K).map smT = acc := ⟨_, rfl⟩
    have hal : acc.length = K := by rw [← hacc, List.length_map, List.length_take, HYL.out]; omega
    rw [hacc] at hi hnx ⊢
    obtain ⟨k9, hk9⟩ : ∃ k, acc.length = k := ⟨_, rfl⟩
    have HK9 := Lib.hid (show acc.length ≤ 60 by omega)
    rw [hk9] at hi ⊢
    have HI8 := Lib.hid (hi.out.below hba (Nat.le_refl _))
    have HB8 := Lib.hid (hb.out.trans (hba.mono hsz))
    have hsb := HB8.out.size
    rw [HSE.out] at hsb
    have hw22 : (0 : Int) ≤ z := hz0
    clear hc3 hze ha hd hca hsd hacc hal hk9 hi hb hba hKn hK1
    by_cases h140 : 140 < z
    · rw [if_pos h140] at hsm
      rw [hsm] at hnx
      have HNX := Lib.hid hnx
      have d1 : decide (z > 140) = true := by simpa using h140
      clear hnx hsm h140
      go_wp2_with fail
      refine (lcons_any wr).mono ?_
      rintro e w8 ⟨rfl, rfl⟩
      go_wp2_with (at_builtin; refine wpList_appI1 rfl _ _ rfl S (.slice A9 k9 c9) acc sd rfl HI8.out _ rfl (by simp) (by have := HK9.out; omega) hsb ?_)
      intro v9 w9 HI9 HG9
      have HB9 := Lib.hid (IR.keepsB HB8.out HG9.out HI8.out (Nat.le_refl _) hsb)
      have HI9' : Hid (IR w9 S v9 ((ys.take (K + 1)).map smT)) := by rw [HNX.out]; exact HI9
      clear HI9 HG9 HI8 HB8
      go_wp2_with fail
      go_roundw
      case rel => exact ⟨K + 1, by omega, by go_num, HI9', HB9⟩
      case measure => simp [intOf]; omega
    · rw [if_neg h140] at hsm
      rw [hsm] at hnx
      have HNX := Lib.hid hnx
      have d1 : decide (z > 140) = false := by simpa using h140
      clear hnx hsm h140
      go_wp2_with fail
      refine (lcons_any wr).mono ?_
      rintro e w8 ⟨rfl, rfl⟩
      go_wp2_with (at_builtin; refine wpList_appI1 rfl _ _ rfl S (.slice A9 k9 c9) acc ca rfl HI8.out _ rfl (by simp) (by have := HK9.out; omega) hsb ?_)
      intro v9 w9 HI9 HG9
      have HB9 := Lib.hid (IR.keepsB HB8.out HG9.out HI8.out (Nat.le_refl _) hsb)
      have HI9' : Hid (IR w9 S v9 ((ys.take (K + 1)).map smT)) := by rw [HNX.out]; exact HI9
      clear HI9 HG9 HI8 HB8
      go_wp2_with fail
      go_roundw
      case rel => exact ⟨K + 1, by omega, by go_num, HI9', HB9⟩
      case measure => simp [intOf]; omega
end Go.Proofs.YtamembaodpiggaaDoor
