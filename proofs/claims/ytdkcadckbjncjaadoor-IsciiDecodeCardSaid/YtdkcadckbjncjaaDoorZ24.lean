/- Texts of this seat, one behind the other: IscS, IscB. -/
import Derived.Test.YtdkcadckbjncjaaDoorZ16
import Derived.Test.YtdkcadckbjncjaaDoorZ20
namespace Go.Proofs.YtdkcadckbjncjaaDoor
set_option linter.unusedVariables false
set_option linter.unusedSimpArgs false
set_option linter.unnecessarySimpa false
open Go.RowKit
theorem tab_ints18 (l : List Int) (k : Nat) (h : k < l.length) : (l.map (Value.int .i64)).toArray[k]? = some (.int .i64 (l.getD k 0)) := by
  rw [List.getElem?_toArray, List.getElem?_map, List.getD_eq_getElem?_getD, List.getElem?_eq_getElem h]; rfl
def scG : List Int := [8204, 8205, 2404, 97, 2364, 2381, 2509, 2492, 2314, 3349]
def scGt : Array Value := (scG.map (Value.int .i64)).toArray
def scT (z : Int) : Int := if z < 30 then scG.getD (z % 10).toNat 0 else if z < 140 then 2304 + z % 128 else if z < 220 then 2432 + z % 128 else 2304 + 128 * (z % 9) + 21
def scalarsI (zs : List Int) : List Int := (zs.take 60).map scT
theorem scalarsI_len (zs : List Int) : (scalarsI zs).length ≤ 60 := by unfold scalarsI; rw [List.length_map, List.length_take]; omega
theorem scT_sc (z : Int) (h0 : 0 ≤ z) (h1 : z ≤ 255) : scB (scT z) = true := by
  rw [scB_t]
  unfold scT
  by_cases h30 : z < 30
  · rw [if_pos h30]
    have hd : (z % 10).toNat < 10 := by omega
    have := all_rangeI (show (List.range 10).all (fun k => decide (0 ≤ scG.getD k 0 ∧ scG.getD k 0 < 55296)) = true by decide +kernel) _ hd
    simp only [decide_eq_true_eq] at this
    exact .inl this
  · rw [if_neg h30]
    split
    · omega
    · split <;> omega
theorem scalarsI_sc (zs : List Int) (h : ∀ z ∈ zs, 0 ≤ z ∧ z ≤ 255) : ∀ s ∈ scalarsI zs, scB s = true := by
  intro s hs
  obtain ⟨z, hz, rfl⟩ := List.mem_map.1 hs
  obtain ⟨h0, h1⟩ := h z (List.mem_of_mem_take hz)
  exact scT_sc z h0 h1
set_option maxRecDepth 100000 in
set_option maxHeartbeats 6400000 in
theorem scalars_any (n : Nat) (A : Option Addr) (c : Nat) (zs : List Int) (B : Nat) (w : World) (hn : n = zs.length) (hr : Rd w B A (zs.map (Value.int .u8))) (hw : ∀ z ∈ zs, 0 ≤ z ∧ z ≤ 255) (hB : B ≤ w.heap.size) (hc : n ≤ c) (hcm : c ≤ maxLen) (us : List Int) (hu : scalarsI zs = us) :
    Calls Tryd.prog 18 #[.slice A n c] w fun e w' => ∃ v, e = .returned v ∧ IR w' w.heap.size v us ∧ Below w.heap.size w w' := by
  unfold maxLen at hcm
  obtain ⟨q, hq1, hq2, hqn, hq4⟩ : ∃ q : Nat, min (n : Int) 60 = (q : Int) ∧ (if (60 : Int) < (n : Int) then (60 : Int) else (n : Int)) = (q : Int) ∧ q ≤ n ∧ q ≤ 60 := by
    by_cases h : n < 60
    · exact ⟨n, by omega, by rw [if_neg (by omega)], by omega, by omega⟩
    · exact ⟨60, by omega, by split <;> omega, by omega, by omega⟩
  have hq0 : (0 : Int) ≤ (q : Int) := by omega
  have hqi : (q : Int) ≤ n := by omega
  have hqc : (q : Int) ≤ c := by omega
  obtain ⟨ys, hys⟩ : ∃ ys, zs.take q = ys := ⟨_, rfl⟩
  have hyl : ys.length = q := by rw [← hys, List.length_take]; omega
  have hyr : ∀ z ∈ ys, 0 ≤ z ∧ z ≤ 255 := fun z h => hw z (by rw [← hys] at h; exact List.mem_of_mem_take h)
  have hyd : Rd w B A (ys.map (Value.int .u8)) := by rw [← hys, List.map_take]; exact hr.take q
  have hyu : ys.map scT = us := by
    rw [← hu, ← hys]; unfold scalarsI
    by_cases h : n < 60
    · rw [List.take_of_length_le (show zs.length ≤ q by omega), List.take_of_length_le (show zs.length ≤ 60 by omega)]
    · rw [show q = 60 by omega]
  have HYL := Lib.hid hyl
  have HYR := Lib.hid hyr
  have HYD := Lib.hid hyd
  have HYU := Lib.hid hyu
  obtain ⟨S, hS⟩ : ∃ S, w.heap.size = S := ⟨_, rfl⟩
  rw [hS] at hB
  have HSE := Lib.hid hS
  have HB1 := Lib.hid (show Below S w w from Below.refl _ _)
  clear hn hr hw hu hys hyl hyr hyd hyu hS
  go_enter Tryd.func18, Tryd.ntmps18
  go_wp2_with fail
  go_loopw [3, 12] (fun v i wr => ∃ K : Nat, K ≤ q ∧ i = .int .i64 K ∧ Hid (IR wr S v ((ys.take K).map scT)) ∧ Hid (Below S w wr)) (fun _ i _ => q - (intOf i).toNat)
  case atStart => exact ⟨0, by omega, rfl, Lib.hid (IR.nil _ _), HB1⟩
  case round =>
    obtain ⟨K, hK, rfl, hi, hb⟩ := hrel
    have hsz := hb.out.size
    rw [HSE.out] at hsz
    by_cases hKn : K = q
    · have hK' : ¬ K < q := by omega
      have hfin := hi.out
      rw [List.take_of_length_le (by rw [HYL.out]; omega), HYU.out] at hfin
      have HF := Lib.hid hfin
      obtain ⟨A9, c9, rfl, -, -⟩ := hi.out.form
      clear hKn hi hfin
      go_wp2
      go_ret
      exact ⟨_, rfl, by rw [HSE.out]; exact HF.out, by rw [HSE.out]; exact hb.out⟩
    have hK' : K < q := by omega
    have hK1 : K < ys.length := by rw [HYL.out]; exact hK'
    have k3 : (0 : Int) ≤ K := by omega
    have k4 : (K : Int) < q := by omega
    obtain ⟨b3, o3, rfl, hb3, hc3⟩ : ∃ b o, A = some ⟨b, o, none⟩ ∧ b < B ∧ ∀ j, j < ys.length → w.cell? ⟨b, o + j, none⟩ = some (.int .u8 (ys.getD j 0)) := by
      rcases HYD.out with h | ⟨b, o, h1, h2, h3⟩
      · rw [List.map_eq_nil_iff] at h; rw [h] at hK1; simp at hK1
      · refine ⟨b, o, h1, h2, fun j hj => ?_⟩
        rw [h3 j (by simpa using hj), List.getElem?_map, List.getD_eq_getElem?_getD, List.getElem?_eq_getElem hj]; rfl
    have r3 := (hb.out.cell (p := ⟨b3, o3 + K, none⟩) (by show b3 < S; omega)).trans (hc3 K hK1)
    have hnx : (ys.take (K + 1)).map scT = (ys.take K).map scT ++ [scT (ys.getD K 0)] := by
      rw [List.take_succ_eq_append_getElem hK1, List.map_append, List.getD_eq_getElem?_getD, List.getElem?_eq_getElem hK1]; rfl
    have hz := HYR.out (ys.getD K 0) (by rw [List.getD_eq_getElem?_getD, List.getElem?_eq_getElem hK1]; exact List.getElem_mem hK1)
    obtain ⟨z, hze⟩ : ∃ z, ys.getD K 0 = z := ⟨_, rfl⟩
    rw [hze] at r3 hnx hz
    obtain ⟨hz0, hz1⟩ := hz
    obtain ⟨A9, c9, rfl, -, -⟩ := hi.out.form
    obtain ⟨acc, hacc⟩ : ∃ acc, (ys.take K).map scT = acc := ⟨_, rfl⟩
    have hal : acc.length ≤ 200 := by
      rw [← hacc]
      rw [List.length_map, List.length_take]; omega
    rw [hacc] at hi hnx ⊢
    obtain ⟨k9, hk9⟩ : ∃ k, acc.length = k := ⟨_, rfl⟩
    have HK9 := Lib.hid hal
    rw [hk9] at hi ⊢
    clear hc3 hze hacc hal hk9 hKn hK1 hb3
    by_cases h30 : z < 30
    · have hv : scT z = scG.getD (z % 10).toNat 0 := by unfold scT; rw [if_pos h30]
      rw [hv] at hnx
      have d0 : decide (z < 30) = true := by simp; omega
      obtain ⟨d, hd⟩ : ∃ d : Nat, z.toNat % 10 = d := ⟨_, rfl⟩
      have hd2 : d < 10 := by omega
      have hzd : z % 10 = (d : Int) := by omega
      have ct := (Held.new wr scGt 3).cell d
      rw [show scGt[d]? = some (.int .i64 (scG.getD d 0)) from tab_ints18 scG d hd2] at ct
      rw [show z % 10 = (d : Int) from hzd, Int.toNat_natCast] at hnx
      obtain ⟨x, hx⟩ : ∃ x, scG.getD d 0 = x := ⟨_, rfl⟩
      rw [hx] at ct hnx
      have hba : Below wr.heap.size wr (wr.alloc (.cells scGt 3)) := (Below.refl _ wr).alloc (Nat.le_refl _) _
      have HI8 := Lib.hid (hi.out.below hba (Nat.le_refl _))
      have HB8 := Lib.hid (hb.out.trans (hba.mono hsz))
      have hsb := HB8.out.size
      rw [HSE.out] at hsb
      have HNX := Lib.hid hnx
      clear hd hx hi hb hba hnx
      clear hv h30
      go_wp2_with (first | refine wpList_bs rfl 24 10 _ rfl (.slice (some ⟨wr.heap.size, 0, none⟩) 10 10) (wr.alloc (.cells scGt 3)) (by kernel_rfl) ?_ | (at_builtin; refine wpList_appI1 rfl _ _ rfl S (.slice A9 k9 c9) acc x rfl HI8.out _ rfl (by simp) (by have := HK9.out; omega) hsb ?_))
      intro v9 w9 HI9 HG9
      have HB9 := Lib.hid (IR.keepsB HB8.out HG9.out HI8.out (Nat.le_refl _) hsb)
      have HI9' : Hid (IR w9 S v9 ((ys.take (K + 1)).map scT)) := by rw [HNX.out]; exact HI9
      clear HI9 HG9 HI8 HB8
      go_wp2_with fail
      go_roundw
      case rel => exact ⟨K + 1, by omega, by go_num, HI9', HB9⟩
      case measure => simp [intOf]; omega
    by_cases h140 : z < 140
    · have hv : scT z = 2304 + z % 128 := by unfold scT; rw [if_neg h30, if_pos h140]
      rw [hv] at hnx
      have d0 : decide (z < 30) = false := by simp; omega
      have d1 : decide (z < 140) = true := by simp; omega
      obtain ⟨d, hd⟩ : ∃ d : Nat, z % 128 = (d : Int) := ⟨(z % 128).toNat, by omega⟩
      have hd0 : (0 : Int) ≤ d := by omega
      have hd2 : (d : Int) < 128 := by omega
      rw [hd] at hnx
      have hwz : IntKind.i64.wrap z = z := by rw [IntKind.wrap_i64]; omega
      have hwd : IntKind.i64.wrap (d : Int) = d := by rw [IntKind.wrap_i64]; omega
      have HNX := Lib.hid hnx
      clear hnx hv h30 h140
      have HI8 := hi
      have HB8 := hb
      have hsb := hsz
      clear hi hb
      go_wp2_with (at_builtin; refine wpList_appI1 rfl _ _ rfl S (.slice A9 k9 c9) acc (2304 + (d : Int)) rfl HI8.out _ rfl (by simp) (by have := HK9.out; omega) hsb ?_)
      intro v9 w9 HI9 HG9
      have HB9 := Lib.hid (IR.keepsB HB8.out HG9.out HI8.out (Nat.le_refl _) hsb)
      have HI9' : Hid (IR w9 S v9 ((ys.take (K + 1)).map scT)) := by rw [HNX.out]; exact HI9
      clear HI9 HG9 HI8 HB8
      go_wp2_with fail
      go_roundw
      case rel => exact ⟨K + 1, by omega, by go_num, HI9', HB9⟩
      case measure => simp [intOf]; omega
    by_cases h220 : z < 220
    · have hv : scT z = 2432 + z % 128 := by unfold scT; rw [if_neg h30, if_neg h140, if_pos h220]
      rw [hv] at hnx
      have d0 : decide (z < 30) = false := by simp; omega
      have d1 : decide (z < 140) = false := by simp; omega
      have d2 : decide (z < 220) = true := by simp; omega
      obtain ⟨d, hd⟩ : ∃ d : Nat, z % 128 = (d : Int) := ⟨(z % 128).toNat, by omega⟩
      have hd0 : (0 : Int) ≤ d := by omega
      have hd2 : (d : Int) < 128 := by omega
      rw [hd] at hnx
      have hwz : IntKind.i64.wrap z = z := by rw [IntKind.wrap_i64]; omega
      have hwd : IntKind.i64.wrap (d : Int) = d := by rw [IntKind.wrap_i64]; omega
      have HNX := Lib.hid hnx
      clear hnx hv h30 h140 h220
      have HI8 := hi
      have HB8 := hb
      have hsb := hsz
      clear hi hb
      go_wp2_with (at_builtin; refine wpList_appI1 rfl _ _ rfl S (.slice A9 k9 c9) acc (2432 + (d : Int)) rfl HI8.out _ rfl (by simp) (by have := HK9.out; omega) hsb ?_)
      intro v9 w9 HI9 HG9
      have HB9 := Lib.hid (IR.keepsB HB8.out HG9.out HI8.out (Nat.le_refl _) hsb)
      have HI9' : Hid (IR w9 S v9 ((ys.take (K + 1)).map scT)) := by rw [HNX.out]; exact HI9
      clear HI9 HG9 HI8 HB8
      go_wp2_with fail
      go_roundw
      case rel => exact ⟨K + 1, by omega, by go_num, HI9', HB9⟩
      case measure => simp [intOf]; omega
    have hv : scT z = 2304 + 128 * (z % 9) + 21 := by unfold scT; rw [if_neg h30, if_neg h140, if_neg h220]
    rw [hv] at hnx
    have d0 : decide (z < 30) = false := by simp; omega
    have d1 : decide (z < 140) = false := by simp; omega
    have d2 : decide (z < 220) = false := by simp; omega
    obtain ⟨d, hd⟩ : ∃ d : Nat, z % 9 = (d : Int) := ⟨(z % 9).toNat, by omega⟩
    have hd0 : (0 : Int) ≤ d := by omega
    have hd2 : (d : Int) < 9 := by omega
    rw [hd] at hnx
    have hwz : IntKind.i64.wrap z = z := by rw [IntKind.wrap_i64]; omega
    have hwd : IntKind.i64.wrap (d : Int) = d := by rw [IntKind.wrap_i64]; omega
    have HNX := Lib.hid hnx
    clear hnx hv h30 h140 h220
    have HI8 := hi
    have HB8 := hb
    have hsb := hsz
    clear hi hb
    go_wp2_with (at_builtin; refine wpList_appI1 rfl _ _ rfl S (.slice A9 k9 c9) acc (2304 + 128 * (d : Int) + 21) rfl HI8.out _ rfl (by simp) (by have := HK9.out; omega) hsb ?_)
    intro v9 w9 HI9 HG9
    have HB9 := Lib.hid (IR.keepsB HB8.out HG9.out HI8.out (Nat.le_refl _) hsb)
    have HI9' : Hid (IR w9 S v9 ((ys.take (K + 1)).map scT)) := by rw [HNX.out]; exact HI9
    clear HI9 HG9 HI8 HB8
    go_wp2_with fail
    go_roundw
    case rel => exact ⟨K + 1, by omega, by go_num, HI9', HB9⟩
    case measure => simp [intOf]; omega
end Go.Proofs.YtdkcadckbjncjaaDoor
namespace Go.Proofs.YtdkcadckbjncjaaDoor
set_option linter.unusedVariables false
set_option linter.unusedSimpArgs false
set_option linter.unnecessarySimpa false
open Go.RowKit
def byG : List Int := [232, 233, 234, 217, 240, 184, 191, 161, 239, 66]
def byGt : Array Value := (byG.map (Value.int .i64)).toArray
def byT (z : Int) : List Int := if z < 20 then [239, inCd.getD (z % 9).toNat 0] else if z < 60 then [byG.getD (z % 10).toNat 0] else [z]
def bytesI (zs : List Int) : List Int := (zs.take 60).flatMap byT
theorem flat_len : ∀ zs : List Int, (zs.flatMap byT).length ≤ 2 * zs.length
  | [] => by simp
  | z :: zs => by
    rw [List.flatMap_cons, List.length_append, List.length_cons]
    have ih := flat_len zs
    have : (byT z).length ≤ 2 := by unfold byT; split; simp; split <;> simp
    omega
theorem bytesI_len (zs : List Int) : (bytesI zs).length ≤ 120 := by
  have := flat_len (zs.take 60)
  rw [List.length_take] at this
  unfold bytesI
  omega
set_option maxRecDepth 100000 in
set_option maxHeartbeats 6400000 in
theorem bytes18_any (n : Nat) (A : Option Addr) (c : Nat) (zs : List Int) (B : Nat) (w : World) (hn : n = zs.length) (hr : Rd w B A (zs.map (Value.int .u8))) (hw : ∀ z ∈ zs, 0 ≤ z ∧ z ≤ 255) (hB : B ≤ w.heap.size) (hc : n ≤ c) (hcm : c ≤ maxLen) (us : List Int) (hu : bytesI zs = us) :
    Calls Tryd.prog 10 #[.slice A n c] w fun e w' => ∃ v, e = .returned v ∧ IR w' w.heap.size v us ∧ Below w.heap.size w w' := by
  unfold maxLen at hcm
  obtain ⟨q, hq1, hq2, hqn, hq4⟩ : ∃ q : Nat, min (n : Int) 60 = (q : Int) ∧ (if (60 : Int) < (n : Int) then (60 : Int) else (n : Int)) = (q : Int) ∧ q ≤ n ∧ q ≤ 60 := by
    by_cases h : n < 60
    · exact ⟨n, by omega, by rw [if_neg (by omega)], by omega, by omega⟩
    · exact ⟨60, by omega, by split <;> omega, by omega, by omega⟩
  have hq0 : (0 : Int) ≤ (q : Int) := by omega
  have hqi : (q : Int) ≤ n := by omega
  have hqc : (q : Int) ≤ c := by omega
  obtain ⟨ys, hys⟩ : ∃ ys, zs.take q = ys := ⟨_, rfl⟩
  have hyl : ys.length = q := by rw [← hys, List.length_take]; omega
  have hyr : ∀ z ∈ ys, 0 ≤ z ∧ z ≤ 255 := fun z h => hw z (by rw [← hys] at h; exact List.mem_of_mem_take h)
  have hyd : Rd w B A (ys.map (Value.int .u8)) := by rw [← hys, List.map_take]; exact hr.take q
  have hyu : ys.flatMap byT = us := by
    rw [← hu, ← hys]; unfold bytesI
    by_cases h : n < 60
    · rw [List.take_of_length_le (show zs.length ≤ q by omega), List.take_of_length_le (show zs.length ≤ 60 by omega)]
    · rw [show q = 60 by omega]
  have HYL := Lib.hid hyl
  have HYR := Lib.hid hyr
  have HYD := Lib.hid hyd
  have HYU := Lib.hid hyu
  obtain ⟨S, hS⟩ : ∃ S, w.heap.size = S := ⟨_, rfl⟩
  rw [hS] at hB
  have HSE := Lib.hid hS
  have HB1 := Lib.hid (show Below S w w from Below.refl _ _)
  clear hn hr hw hu hys hyl hyr hyd hyu hS
  go_enter Tryd.func10, Tryd.ntmps10
  go_wp2_with fail
  go_loopw [3, 12] (fun v i wr => ∃ K : Nat, K ≤ q ∧ i = .int .i64 K ∧ Hid (IR wr S v ((ys.take K).flatMap byT)) ∧ Hid (Below S w wr)) (fun _ i _ => q - (intOf i).toNat)
  case atStart => exact ⟨0, by omega, rfl, Lib.hid (IR.nil _ _), HB1⟩
  case round =>
    obtain ⟨K, hK, rfl, hi, hb⟩ := hrel
    have hsz := hb.out.size
    rw [HSE.out] at hsz
    by_cases hKn : K = q
    · have hK' : ¬ K < q := by omega
      have hfin := hi.out
      rw [List.take_of_length_le (by rw [HYL.out]; omega), HYU.out] at hfin
      have HF := Lib.hid hfin
      obtain ⟨A9, c9, rfl, -, -⟩ := hi.out.form
      clear hKn hi hfin
      go_wp2
      go_ret
      exact ⟨_, rfl, by rw [HSE.out]; exact HF.out, by rw [HSE.out]; exact hb.out⟩
    have hK' : K < q := by omega
    have hK1 : K < ys.length := by rw [HYL.out]; exact hK'
    have k3 : (0 : Int) ≤ K := by omega
    have k4 : (K : Int) < q := by omega
    obtain ⟨b3, o3, rfl, hb3, hc3⟩ : ∃ b o, A = some ⟨b, o, none⟩ ∧ b < B ∧ ∀ j, j < ys.length → w.cell? ⟨b, o + j, none⟩ = some (.int .u8 (ys.getD j 0)) := by
      rcases HYD.out with h | ⟨b, o, h1, h2, h3⟩
      · rw [List.map_eq_nil_iff] at h; rw [h] at hK1; simp at hK1
      · refine ⟨b, o, h1, h2, fun j hj => ?_⟩
        rw [h3 j (by simpa using hj), List.getElem?_map, List.getD_eq_getElem?_getD, List.getElem?_eq_getElem hj]; rfl
    have r3 := (hb.out.cell (p := ⟨b3, o3 + K, none⟩) (by show b3 < S; omega)).trans (hc3 K hK1)
    have hnx : (ys.take (K + 1)).flatMap byT = (ys.take K).flatMap byT ++ byT (ys.getD K 0) := by
      rw [List.take_succ_eq_append_getElem hK1, List.flatMap_append, List.getD_eq_getElem?_getD, List.getElem?_eq_getElem hK1]; simp
    have hz := HYR.out (ys.getD K 0) (by rw [List.getD_eq_getElem?_getD, List.getElem?_eq_getElem hK1]; exact List.getElem_mem hK1)
    obtain ⟨z, hze⟩ : ∃ z, ys.getD K 0 = z := ⟨_, rfl⟩
    rw [hze] at r3 hnx hz
    obtain ⟨hz0, hz1⟩ := hz
    obtain ⟨A9, c9, rfl, -, -⟩ := hi.out.form
    obtain ⟨acc, hacc⟩ : ∃ acc, (ys.take K).flatMap byT = acc := ⟨_, rfl⟩
    have hal : acc.length ≤ 200 := by
      rw [← hacc]
      refine Nat.le_trans (flat_len (ys.take K)) ?_
      rw [List.length_take]; omega
    rw [hacc] at hi hnx ⊢
    obtain ⟨k9, hk9⟩ : ∃ k, acc.length = k := ⟨_, rfl⟩
    have HK9 := Lib.hid hal
    rw [hk9] at hi ⊢
    clear hc3 hze hacc hal hk9 hKn hK1 hb3
    by_cases h20 : z < 20
    · have hv : byT z = [239, inCd.getD (z % 9).toNat 0] := by unfold byT; rw [if_pos h20]
      rw [hv] at hnx
      have d0 : decide (z < 20) = true := by simp; omega
      obtain ⟨d, hd⟩ : ∃ d : Nat, z.toNat % 9 = d := ⟨_, rfl⟩
      have hd2 : d < 9 := by omega
      have hzd : z % 9 = (d : Int) := by omega
      have ct := (Held.new wr cdTab 3).cell d
      rw [show cdTab[d]? = some (.int .i64 (inCd.getD d 0)) from tab_ints18 inCd d hd2] at ct
      rw [show z % 9 = (d : Int) from hzd, Int.toNat_natCast] at hnx
      obtain ⟨x, hx⟩ : ∃ x, inCd.getD d 0 = x := ⟨_, rfl⟩
      rw [hx] at ct hnx
      have hba : Below wr.heap.size wr (wr.alloc (.cells cdTab 3)) := (Below.refl _ wr).alloc (Nat.le_refl _) _
      have HI8 := Lib.hid (hi.out.below hba (Nat.le_refl _))
      have HB8 := Lib.hid (hb.out.trans (hba.mono hsz))
      have hsb := HB8.out.size
      rw [HSE.out] at hsb
      have HNX := Lib.hid hnx
      clear hd hx hi hb hba hnx hv h20
      go_wp2_with fail
      refine (lcodes_any wr).mono ?_
      rintro e w8 ⟨rfl, rfl⟩
      go_wp2_with (at_builtin; refine wpList_appIL rfl _ _ rfl S (.slice A9 k9 c9) acc [239, x] rfl HI8.out _ 2 2 rfl (by simp) rfl rfl (by have := HK9.out; simp; omega) hsb ?_)
      intro v9 w9 HI9 HG9
      have HB9 := Lib.hid (IR.keepsB HB8.out HG9.out HI8.out (Nat.le_refl _) hsb)
      have HI9' : Hid (IR w9 S v9 ((ys.take (K + 1)).flatMap byT)) := by rw [HNX.out]; exact HI9
      clear HI9 HG9 HI8 HB8
      go_wp2_with fail
      go_roundw
      case rel => exact ⟨K + 1, by omega, by go_num, HI9', HB9⟩
      case measure => simp [intOf]; omega
    by_cases h60 : z < 60
    · have hv : byT z = [byG.getD (z % 10).toNat 0] := by unfold byT; rw [if_neg h20, if_pos h60]
      rw [hv] at hnx
      have d0 : decide (z < 20) = false := by simp; omega
      have d1 : decide (z < 60) = true := by simp; omega
      obtain ⟨d, hd⟩ : ∃ d : Nat, z.toNat % 10 = d := ⟨_, rfl⟩
      have hd2 : d < 10 := by omega
      have hzd : z % 10 = (d : Int) := by omega
      have ct := (Held.new wr byGt 3).cell d
      rw [show byGt[d]? = some (.int .i64 (byG.getD d 0)) from tab_ints18 byG d hd2] at ct
      rw [show z % 10 = (d : Int) from hzd, Int.toNat_natCast] at hnx
      obtain ⟨x, hx⟩ : ∃ x, byG.getD d 0 = x := ⟨_, rfl⟩
      rw [hx] at ct hnx
      have hba : Below wr.heap.size wr (wr.alloc (.cells byGt 3)) := (Below.refl _ wr).alloc (Nat.le_refl _) _
      have HI8 := Lib.hid (hi.out.below hba (Nat.le_refl _))
      have HB8 := Lib.hid (hb.out.trans (hba.mono hsz))
      have hsb := HB8.out.size
      rw [HSE.out] at hsb
      have HNX := Lib.hid hnx
      clear hd hx hi hb hba hnx
      clear hv h20 h60
      go_wp2_with (first | refine wpList_bs rfl 24 10 _ rfl (.slice (some ⟨wr.heap.size, 0, none⟩) 10 10) (wr.alloc (.cells byGt 3)) (by kernel_rfl) ?_ | (at_builtin; refine wpList_appI1 rfl _ _ rfl S (.slice A9 k9 c9) acc x rfl HI8.out _ rfl (by simp) (by have := HK9.out; omega) hsb ?_))
      intro v9 w9 HI9 HG9
      have HB9 := Lib.hid (IR.keepsB HB8.out HG9.out HI8.out (Nat.le_refl _) hsb)
      have HI9' : Hid (IR w9 S v9 ((ys.take (K + 1)).flatMap byT)) := by rw [HNX.out]; exact HI9
      clear HI9 HG9 HI8 HB8
      go_wp2_with fail
      go_roundw
      case rel => exact ⟨K + 1, by omega, by go_num, HI9', HB9⟩
      case measure => simp [intOf]; omega
    have hv : byT z = [z] := by unfold byT; rw [if_neg h20, if_neg h60]
    rw [hv] at hnx
    have d0 : decide (z < 20) = false := by simp; omega
    have d1 : decide (z < 60) = false := by simp; omega
    have hwz : IntKind.i64.wrap z = z := by rw [IntKind.wrap_i64]; omega
    have HNX := Lib.hid hnx
    clear hnx hv h20 h60
    have HI8 := hi
    have HB8 := hb
    have hsb := hsz
    clear hi hb
    go_wp2_with (at_builtin; refine wpList_appI1 rfl _ _ rfl S (.slice A9 k9 c9) acc z rfl HI8.out _ rfl (by simp) (by have := HK9.out; omega) hsb ?_)
    intro v9 w9 HI9 HG9
    have HB9 := Lib.hid (IR.keepsB HB8.out HG9.out HI8.out (Nat.le_refl _) hsb)
    have HI9' : Hid (IR w9 S v9 ((ys.take (K + 1)).flatMap byT)) := by rw [HNX.out]; exact HI9
    clear HI9 HG9 HI8 HB8
    go_wp2_with fail
    go_roundw
    case rel => exact ⟨K + 1, by omega, by go_num, HI9', HB9⟩
    case measure => simp [intOf]; omega
end Go.Proofs.YtdkcadckbjncjaaDoor
