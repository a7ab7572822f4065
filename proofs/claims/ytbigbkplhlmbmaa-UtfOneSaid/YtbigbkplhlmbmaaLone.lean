/- Layer 1: the law's own one. -/
import Derived.Test.YtbigbkplhlmbmaaBegc
import Derived.Test.YtbigbkplhlmbmaaOneM
namespace Go.Proofs.Ytbigbkplhlmbmaa
set_option linter.unusedVariables false
open Go.RowKit

def RetL (zs : List Int) (w : World) (e : Ending) (w' : World) : Prop := e = .returned (.tuple #[.int .i64 (oneF zs).1, .int .i64 (oneF zs).2.1, .int .i64 (oneF zs).2.2]) ∧ Below w.heap.size w w'
theorem retL {zs : List Int} {w w' : World} {s n e : Int} (h : oneF zs = (s, n, e)) (hb : Below w.heap.size w w') : RetL zs w (.returned (.tuple #[.int .i64 s, .int .i64 n, .int .i64 e])) w' := ⟨by rw [h], hb⟩
theorem str_dec {xs ys : List Int} (hx : ∀ z ∈ xs, 0 ≤ z ∧ z ≤ 255) (hy : ∀ z ∈ ys, 0 ≤ z ∧ z ≤ 255) : ((strOfNums xs).toList == (strOfNums ys).toList) = decide (xs = ys) := by
  by_cases h : xs = ys
  · subst h; simp
  · have hne : ¬ (strOfNums xs).toList = (strOfNums ys).toList := by
      rw [strOfNums_list, strOfNums_list]
      exact fun he => h (bytes_map_inj hx hy he)
    rw [beq_eq_false_iff_ne.2 hne, decide_eq_false h]

set_option maxHeartbeats 400000 in
theorem lone_nil (A : Option Addr) (cap : Nat) (w : World) :
    Calls Try.prog 16 #[.slice A 0 cap] w (RetL [] w) := by
  go_enter Try.func16, Try.ntmps16
  go_wp2
  go_loop [5] (fun i => i = .int .i64 1) (fun _ => 0)
  case atStart => rfl
  case round =>
    obtain rfl := hrel
    go_wp2
    go_loop [7] (fun i => i = .int .i64 0) (fun _ => 0)
    case atStart => rfl
    case round =>
      obtain rfl := hrel
      go_wp2
      go_ret3
      exact retL rfl (Below.refl _ _)

set_option maxRecDepth 100000 in
set_option maxHeartbeats 6400000 in
theorem lone_some (b o cap : Nat) (zs : List Int) (w : World) (h0 : 0 < zs.length) (hcl : ∀ j, j < zs.length → w.cell? ⟨b, o + j, none⟩ = some (.int .u8 (zs.getD j 0))) (hb : b < w.heap.size) (hw : ∀ z ∈ zs, 0 ≤ z ∧ z ≤ 255) (hl : zs.length ≤ 140737488355300) (hc : zs.length ≤ cap) :
    Calls Try.prog 16 #[.slice (some ⟨b, o, none⟩) zs.length cap] w (RetL zs w) := by
  have HCL := Lib.hid hcl
  have HW := Lib.hid hw
  have hcv := fun (w : World) (A : Option Addr) (zs : List Int) (n cap : Nat) => run_str (P := Try.prog) w 23 9 5 Try.underlying23 Try.underlying5 Try.underlying9 w.heap.size A zs n cap
  have HCV := Lib.hid hcv
  clear hcl hw hcv
  have hrdk : ∀ (W : World) (k : Nat), Below w.heap.size w W → k ≤ zs.length → Rd W W.heap.size (some ⟨b, o, none⟩) ((zs.take k).map (Value.int .u8)) := by
    intro W k hbW hk
    have h1 : Rd w w.heap.size (some ⟨b, o, none⟩) (zs.map (Value.int .u8)) := .inr ⟨b, o, rfl, hb, fun j hj => by
      rw [List.length_map] at hj
      rw [HCL.out j hj, getD_ints j hj]⟩
    have h2 := (h1.below hbW hbW.size).take k
    rw [← List.map_take] at h2
    exact h2
  have HRD := Lib.hid hrdk
  clear hrdk
  go_enter Try.func16, Try.ntmps16
  go_wp2
  go_loopw [5] (fun i wr => ∃ K : Nat, 1 ≤ K ∧ K ≤ 5 ∧ K ≤ zs.length + 1 ∧ i = .int .i64 K ∧ (∀ n, 1 ≤ n → n < K → ¬ oneF zs = (valF zs n, (n : Int), 0)) ∧ Below w.heap.size w wr) (fun i _ => 5 - (intOf i).toNat)
  case atStart => exact ⟨1, by omega, by omega, by omega, rfl, fun n h1 h2 => by omega, Below.refl _ _⟩
  case round =>
    obtain ⟨K, hK1, hK5, hKl, rfl, hno, hbr⟩ := hrel
    have HNO := Lib.hid hno
    clear hno
    by_cases hgo : K ≤ 4 ∧ K ≤ zs.length
    · obtain ⟨hg4, hgl⟩ := hgo
      have hcase : K = 1 ∨ K = 2 ∨ K = 3 ∨ K = 4 := by omega
      rcases hcase with rfl | rfl | rfl | rfl
      · have k0 := (hbr.cell (p := ⟨b, o + 0, none⟩) hb).trans (HCL.out 0 (by omega))
        obtain ⟨z0, hz0⟩ : ∃ z, z = zs.getD 0 0 := ⟨_, rfl⟩
        rw [← hz0] at k0
        have hr0 := getD_range HW.out 0 (by omega)
        rw [← hz0] at hr0
        rw [Nat.add_zero] at k0
        obtain ⟨V, hV⟩ : ∃ V, V = z0 := ⟨_, rfl⟩
        have hVv : V = valF zs 1 := by rw [hV, hz0]; rfl
        have hVb : 0 ≤ V ∧ V ≤ 2097151 := by omega
        have HV := Lib.hid hV
        have HVV := Lib.hid hVv
        clear hV hVv hz0
        go_wp2
        obtain ⟨W, hW⟩ : ∃ W, W = wr := ⟨_, rfl⟩
        have hbW : Below w.heap.size w W := by rw [hW]; exact hbr
        rw [← hW]
        have hV0 := HV.out
        subst hV0
        clear k0 
        cases p3 : scB V
        · have HNX := Lib.hid (show ∀ n, 1 ≤ n → n < 1 + 1 → ¬ oneF zs = (valF zs n, (n : Int), 0) from fun n h1 h2 => by
            by_cases e : n = 1
            · rw [e]
              intro h
              obtain ⟨h3, _⟩ := one_sound zs _ _ HW.out h
              rw [← HVV.out, p3] at h3
              cases h3
            · exact HNO.out n h1 (by omega))
          refine wp_region_mix (G := fun w w' => Below w.heap.size w w') [(0, false), (1, true), (2, false), (3, false), (5, false), (6, false), (7, false), (8, false), (4, true), (9, false), (10, false)]
            below_refl below_trans (by kernel_rfl) rfl (by kernel_rfl) (by kernel_rfl) (below_refl _).drew ?_
          iterate 1 (refine mix_one rfl rfl ?_; go_big_quiet_step ((intro _; rfl)); refine wpQuiet_nil ?_)
          refine mix_call rfl ?_
          intro w3 hb3
          go_wp2_with fail
          refine (scalarL V _).mono ?_
          rintro e w' ⟨rfl, rfl⟩
          go_wp2_with fail
          refine ⟨below_refl _, ?_⟩
          iterate 6 (refine mix_one rfl rfl ?_; go_big_quiet_step ((intro _; rfl)); refine wpQuiet_nil ?_)
          refine mix_call rfl ?_
          intro w4 hb4
          go_wp2_with fail
          refine ⟨below_refl _, ?_⟩
          iterate 2 (refine mix_one rfl rfl ?_; go_big_quiet_step ((intro _; rfl)); refine wpQuiet_nil ?_)
          refine mix_nil ?_
          intro w6 hb6
          have hbE := hbW.trans ((below_trans _ _ _ (below_trans _ _ _ hb3 hb4) hb6).mono hbW.size)
          refine NoPanic.normal ?_
          go_wp2
          go_roundw
          case rel => exact ⟨1 + 1, by omega, by omega, by omega, by go_num, HNX.out, hbE⟩
          case measure => simp [intOf]
        · have HTK := Lib.hid (show (zs.take 1).length = 1 by rw [List.length_take, Nat.min_eq_left hgl])
          have hsd := str_dec (encL_bytes V p3) (fun z hz => HW.out z (List.mem_of_mem_take (i := 1) hz))
          have P3 := Lib.hid p3
          obtain ⟨tk, htk⟩ : ∃ tk, tk = zs.take 1 := ⟨_, rfl⟩
          rw [← htk] at hsd HTK
          have HTQ := Lib.hid htk
          clear htk
          by_cases p4 : encL V = tk
          · rw [decide_eq_true p4] at hsd
            have HSD := Lib.hid hsd
            clear hsd
            have HONE := Lib.hid (show oneF zs = (V, 1, 0) by
              rw [HVV.out]
              exact one_of_val (by rw [← HVV.out]; exact P3.out) (by rw [← HVV.out, p4, HTQ.out]) hgl)
            clear p4
            refine wp_region_mix (G := fun w w' => Below w.heap.size w w') [(0, false), (1, true), (2, false), (3, false), (5, false), (6, false), (7, false), (8, false), (4, true), (9, false), (10, false)]
              below_refl below_trans (by kernel_rfl) rfl (by kernel_rfl) (by kernel_rfl) (below_refl _).drew ?_
            iterate 1 (refine mix_one rfl rfl ?_; go_big_quiet_step ((intro _; rfl)); refine wpQuiet_nil ?_)
            refine mix_call rfl ?_
            intro w3 hb3
            go_wp2_with fail
            refine (scalarL V _).mono ?_
            rintro e w' ⟨rfl, rfl⟩
            go_wp2_with fail
            refine ⟨below_refl _, ?_⟩
            iterate 4 (refine mix_one rfl rfl ?_; go_big_quiet_step ((intro _; rfl)); refine wpQuiet_nil ?_)
            refine mix_one rfl rfl ?_
            go_big_quiet_step ((intro _; rfl))
            refine wpQuiet_nil ?_
            refine mix_one rfl rfl ?_
            go_big_quiet_step ((intro hh; rw [HCV.out _ (some ⟨b, o, none⟩) tk 1 cap HTK.out.symm (by rw [HTQ.out]; exact HRD.out _ 1 (hbW.trans ((below_trans _ _ _ hb3 hh).mono hbW.size)) hgl)]; exact ⟨rfl, rfl⟩))
            refine wpQuiet_nil ?_
            refine mix_call rfl ?_
            intro w4 hb4
            go_wp2_with fail
            refine (bytesL V _ P3.out).mono ?_
            rintro e w5 ⟨rfl, hb5⟩
            go_wp2_with fail
            refine ⟨hb5, ?_⟩
            have hsd := HSD.out
            iterate 2 (refine mix_one rfl rfl ?_; go_big_quiet_step ((intro _; rfl)); refine wpQuiet_nil ?_)
            clear hsd
            refine mix_nil ?_
            intro w6 hb6
            have hbE := hbW.trans ((below_trans _ _ _ (below_trans _ _ _ (below_trans _ _ _ hb3 hb4) hb5) hb6).mono hbW.size)
            refine NoPanic.normal ?_
            go_wp2
            go_ret3
            exact retL HONE.out hbE
          · rw [decide_eq_false p4] at hsd
            have HSD := Lib.hid hsd
            clear hsd
            have HNX := Lib.hid (show ∀ n, 1 ≤ n → n < 1 + 1 → ¬ oneF zs = (valF zs n, (n : Int), 0) from fun n h1 h2 => by
              by_cases e : n = 1
              · rw [e]
                intro h
                obtain ⟨_, h4, _, _⟩ := one_sound zs _ _ HW.out h
                rw [← HVV.out] at h4
                exact p4 (by rw [HTQ.out]; exact h4.symm)
              · exact HNO.out n h1 (by omega))
            clear p4
            refine wp_region_mix (G := fun w w' => Below w.heap.size w w') [(0, false), (1, true), (2, false), (3, false), (5, false), (6, false), (7, false), (8, false), (4, true), (9, false), (10, false)]
              below_refl below_trans (by kernel_rfl) rfl (by kernel_rfl) (by kernel_rfl) (below_refl _).drew ?_
            iterate 1 (refine mix_one rfl rfl ?_; go_big_quiet_step ((intro _; rfl)); refine wpQuiet_nil ?_)
            refine mix_call rfl ?_
            intro w3 hb3
            go_wp2_with fail
            refine (scalarL V _).mono ?_
            rintro e w' ⟨rfl, rfl⟩
            go_wp2_with fail
            refine ⟨below_refl _, ?_⟩
            iterate 4 (refine mix_one rfl rfl ?_; go_big_quiet_step ((intro _; rfl)); refine wpQuiet_nil ?_)
            refine mix_one rfl rfl ?_
            go_big_quiet_step ((intro _; rfl))
            refine wpQuiet_nil ?_
            refine mix_one rfl rfl ?_
            go_big_quiet_step ((intro hh; rw [HCV.out _ (some ⟨b, o, none⟩) tk 1 cap HTK.out.symm (by rw [HTQ.out]; exact HRD.out _ 1 (hbW.trans ((below_trans _ _ _ hb3 hh).mono hbW.size)) hgl)]; exact ⟨rfl, rfl⟩))
            refine wpQuiet_nil ?_
            refine mix_call rfl ?_
            intro w4 hb4
            go_wp2_with fail
            refine (bytesL V _ P3.out).mono ?_
            rintro e w5 ⟨rfl, hb5⟩
            go_wp2_with fail
            refine ⟨hb5, ?_⟩
            have hsd := HSD.out
            iterate 2 (refine mix_one rfl rfl ?_; go_big_quiet_step ((intro _; rfl)); refine wpQuiet_nil ?_)
            clear hsd
            refine mix_nil ?_
            intro w6 hb6
            have hbE := hbW.trans ((below_trans _ _ _ (below_trans _ _ _ (below_trans _ _ _ hb3 hb4) hb5) hb6).mono hbW.size)
            refine NoPanic.normal ?_
            go_wp2
            go_roundw
            case rel => exact ⟨1 + 1, by omega, by omega, by omega, by go_num, HNX.out, hbE⟩
            case measure => simp [intOf]
      · have k0 := (hbr.cell (p := ⟨b, o + 0, none⟩) hb).trans (HCL.out 0 (by omega))
        obtain ⟨z0, hz0⟩ : ∃ z, z = zs.getD 0 0 := ⟨_, rfl⟩
        rw [← hz0] at k0
        have hr0 := getD_range HW.out 0 (by omega)
        rw [← hz0] at hr0
        have k1 := (hbr.cell (p := ⟨b, o + 1, none⟩) hb).trans (HCL.out 1 (by omega))
        obtain ⟨z1, hz1⟩ : ∃ z, z = zs.getD 1 0 := ⟨_, rfl⟩
        rw [← hz1] at k1
        have hr1 := getD_range HW.out 1 (by omega)
        rw [← hz1] at hr1
        rw [Nat.add_zero] at k0
        have hm0 : bits .and .u8 z0 31 = z0 % 32 := u8_and31 z0 hr0.1 (by omega)
        have hm1 : bits .and .u8 z1 63 = z1 % 64 := u8_and63 z1 hr1.1 (by omega)
        obtain ⟨V, hV⟩ : ∃ V, V = z0 % 32 * 64 + z1 % 64 := ⟨_, rfl⟩
        have hVv : V = valF zs 2 := by rw [hV, hz0, hz1]; rfl
        have hVb : 0 ≤ V ∧ V ≤ 2097151 := by omega
        have HV := Lib.hid hV
        have HVV := Lib.hid hVv
        clear hV hVv hz0 hz1
        go_wp2
        go_quiet (fail)
        go_wp2
        rw [← HV.out]
        obtain ⟨W, hW⟩ : ∃ W, W = wr.drewN nq := ⟨_, rfl⟩
        have hbW : Below w.heap.size w W := by rw [hW]; exact hbr.drewN nq
        rw [← hW]
        clear hW
        clear k0 k1 hm0 hm1
        cases p3 : scB V
        · have HNX := Lib.hid (show ∀ n, 1 ≤ n → n < 2 + 1 → ¬ oneF zs = (valF zs n, (n : Int), 0) from fun n h1 h2 => by
            by_cases e : n = 2
            · rw [e]
              intro h
              obtain ⟨h3, _⟩ := one_sound zs _ _ HW.out h
              rw [← HVV.out, p3] at h3
              cases h3
            · exact HNO.out n h1 (by omega))
          refine wp_region_mix (G := fun w w' => Below w.heap.size w w') [(0, false), (1, true), (2, false), (3, false), (5, false), (6, false), (7, false), (8, false), (4, true), (9, false), (10, false)]
            below_refl below_trans (by kernel_rfl) rfl (by kernel_rfl) (by kernel_rfl) (below_refl _).drew ?_
          iterate 1 (refine mix_one rfl rfl ?_; go_big_quiet_step ((intro _; rfl)); refine wpQuiet_nil ?_)
          refine mix_call rfl ?_
          intro w3 hb3
          go_wp2_with fail
          refine (scalarL V _).mono ?_
          rintro e w' ⟨rfl, rfl⟩
          go_wp2_with fail
          refine ⟨below_refl _, ?_⟩
          iterate 6 (refine mix_one rfl rfl ?_; go_big_quiet_step ((intro _; rfl)); refine wpQuiet_nil ?_)
          refine mix_call rfl ?_
          intro w4 hb4
          go_wp2_with fail
          refine ⟨below_refl _, ?_⟩
          iterate 2 (refine mix_one rfl rfl ?_; go_big_quiet_step ((intro _; rfl)); refine wpQuiet_nil ?_)
          refine mix_nil ?_
          intro w6 hb6
          have hbE := hbW.trans ((below_trans _ _ _ (below_trans _ _ _ hb3 hb4) hb6).mono hbW.size)
          refine NoPanic.normal ?_
          go_wp2
          go_roundw
          case rel => exact ⟨2 + 1, by omega, by omega, by omega, by go_num, HNX.out, hbE⟩
          case measure => simp [intOf]
        · have HTK := Lib.hid (show (zs.take 2).length = 2 by rw [List.length_take, Nat.min_eq_left hgl])
          have hsd := str_dec (encL_bytes V p3) (fun z hz => HW.out z (List.mem_of_mem_take (i := 2) hz))
          have P3 := Lib.hid p3
          obtain ⟨tk, htk⟩ : ∃ tk, tk = zs.take 2 := ⟨_, rfl⟩
          rw [← htk] at hsd HTK
          have HTQ := Lib.hid htk
          clear htk
          by_cases p4 : encL V = tk
          · rw [decide_eq_true p4] at hsd
            have HSD := Lib.hid hsd
            clear hsd
            have HONE := Lib.hid (show oneF zs = (V, 2, 0) by
              rw [HVV.out]
              exact one_of_val (by rw [← HVV.out]; exact P3.out) (by rw [← HVV.out, p4, HTQ.out]) hgl)
            clear p4
            refine wp_region_mix (G := fun w w' => Below w.heap.size w w') [(0, false), (1, true), (2, false), (3, false), (5, false), (6, false), (7, false), (8, false), (4, true), (9, false), (10, false)]
              below_refl below_trans (by kernel_rfl) rfl (by kernel_rfl) (by kernel_rfl) (below_refl _).drew ?_
            iterate 1 (refine mix_one rfl rfl ?_; go_big_quiet_step ((intro _; rfl)); refine wpQuiet_nil ?_)
            refine mix_call rfl ?_
            intro w3 hb3
            go_wp2_with fail
            refine (scalarL V _).mono ?_
            rintro e w' ⟨rfl, rfl⟩
            go_wp2_with fail
            refine ⟨below_refl _, ?_⟩
            iterate 4 (refine mix_one rfl rfl ?_; go_big_quiet_step ((intro _; rfl)); refine wpQuiet_nil ?_)
            refine mix_one rfl rfl ?_
            go_big_quiet_step ((intro _; rfl))
            refine wpQuiet_nil ?_
            refine mix_one rfl rfl ?_
            go_big_quiet_step ((intro hh; rw [HCV.out _ (some ⟨b, o, none⟩) tk 2 cap HTK.out.symm (by rw [HTQ.out]; exact HRD.out _ 2 (hbW.trans ((below_trans _ _ _ hb3 hh).mono hbW.size)) hgl)]; exact ⟨rfl, rfl⟩))
            refine wpQuiet_nil ?_
            refine mix_call rfl ?_
            intro w4 hb4
            go_wp2_with fail
            refine (bytesL V _ P3.out).mono ?_
            rintro e w5 ⟨rfl, hb5⟩
            go_wp2_with fail
            refine ⟨hb5, ?_⟩
            have hsd := HSD.out
            iterate 2 (refine mix_one rfl rfl ?_; go_big_quiet_step ((intro _; rfl)); refine wpQuiet_nil ?_)
            clear hsd
            refine mix_nil ?_
            intro w6 hb6
            have hbE := hbW.trans ((below_trans _ _ _ (below_trans _ _ _ (below_trans _ _ _ hb3 hb4) hb5) hb6).mono hbW.size)
            refine NoPanic.normal ?_
            go_wp2
            go_ret3
            exact retL HONE.out hbE
          · rw [decide_eq_false p4] at hsd
            have HSD := Lib.hid hsd
            clear hsd
            have HNX := Lib.hid (show ∀ n, 1 ≤ n → n < 2 + 1 → ¬ oneF zs = (valF zs n, (n : Int), 0) from fun n h1 h2 => by
              by_cases e : n = 2
              · rw [e]
                intro h
                obtain ⟨_, h4, _, _⟩ := one_sound zs _ _ HW.out h
                rw [← HVV.out] at h4
                exact p4 (by rw [HTQ.out]; exact h4.symm)
              · exact HNO.out n h1 (by omega))
            clear p4
            refine wp_region_mix (G := fun w w' => Below w.heap.size w w') [(0, false), (1, true), (2, false), (3, false), (5, false), (6, false), (7, false), (8, false), (4, true), (9, false), (10, false)]
              below_refl below_trans (by kernel_rfl) rfl (by kernel_rfl) (by kernel_rfl) (below_refl _).drew ?_
            iterate 1 (refine mix_one rfl rfl ?_; go_big_quiet_step ((intro _; rfl)); refine wpQuiet_nil ?_)
            refine mix_call rfl ?_
            intro w3 hb3
            go_wp2_with fail
            refine (scalarL V _).mono ?_
            rintro e w' ⟨rfl, rfl⟩
            go_wp2_with fail
            refine ⟨below_refl _, ?_⟩
            iterate 4 (refine mix_one rfl rfl ?_; go_big_quiet_step ((intro _; rfl)); refine wpQuiet_nil ?_)
            refine mix_one rfl rfl ?_
            go_big_quiet_step ((intro _; rfl))
            refine wpQuiet_nil ?_
            refine mix_one rfl rfl ?_
            go_big_quiet_step ((intro hh; rw [HCV.out _ (some ⟨b, o, none⟩) tk 2 cap HTK.out.symm (by rw [HTQ.out]; exact HRD.out _ 2 (hbW.trans ((below_trans _ _ _ hb3 hh).mono hbW.size)) hgl)]; exact ⟨rfl, rfl⟩))
            refine wpQuiet_nil ?_
            refine mix_call rfl ?_
            intro w4 hb4
            go_wp2_with fail
            refine (bytesL V _ P3.out).mono ?_
            rintro e w5 ⟨rfl, hb5⟩
            go_wp2_with fail
            refine ⟨hb5, ?_⟩
            have hsd := HSD.out
            iterate 2 (refine mix_one rfl rfl ?_; go_big_quiet_step ((intro _; rfl)); refine wpQuiet_nil ?_)
            clear hsd
            refine mix_nil ?_
            intro w6 hb6
            have hbE := hbW.trans ((below_trans _ _ _ (below_trans _ _ _ (below_trans _ _ _ hb3 hb4) hb5) hb6).mono hbW.size)
            refine NoPanic.normal ?_
            go_wp2
            go_roundw
            case rel => exact ⟨2 + 1, by omega, by omega, by omega, by go_num, HNX.out, hbE⟩
            case measure => simp [intOf]
      · have k0 := (hbr.cell (p := ⟨b, o + 0, none⟩) hb).trans (HCL.out 0 (by omega))
        obtain ⟨z0, hz0⟩ : ∃ z, z = zs.getD 0 0 := ⟨_, rfl⟩
        rw [← hz0] at k0
        have hr0 := getD_range HW.out 0 (by omega)
        rw [← hz0] at hr0
        have k1 := (hbr.cell (p := ⟨b, o + 1, none⟩) hb).trans (HCL.out 1 (by omega))
        obtain ⟨z1, hz1⟩ : ∃ z, z = zs.getD 1 0 := ⟨_, rfl⟩
        rw [← hz1] at k1
        have hr1 := getD_range HW.out 1 (by omega)
        rw [← hz1] at hr1
        have k2 := (hbr.cell (p := ⟨b, o + 2, none⟩) hb).trans (HCL.out 2 (by omega))
        obtain ⟨z2, hz2⟩ : ∃ z, z = zs.getD 2 0 := ⟨_, rfl⟩
        rw [← hz2] at k2
        have hr2 := getD_range HW.out 2 (by omega)
        rw [← hz2] at hr2
        rw [Nat.add_zero] at k0
        have hm0 : bits .and .u8 z0 15 = z0 % 16 := u8_and15 z0 hr0.1 (by omega)
        have hm1 : bits .and .u8 z1 63 = z1 % 64 := u8_and63 z1 hr1.1 (by omega)
        have hm2 : bits .and .u8 z2 63 = z2 % 64 := u8_and63 z2 hr2.1 (by omega)
        obtain ⟨V, hV⟩ : ∃ V, V = z0 % 16 * 4096 + z1 % 64 * 64 + z2 % 64 := ⟨_, rfl⟩
        have hVv : V = valF zs 3 := by rw [hV, hz0, hz1, hz2]; rfl
        have hVb : 0 ≤ V ∧ V ≤ 2097151 := by omega
        have HV := Lib.hid hV
        have HVV := Lib.hid hVv
        clear hV hVv hz0 hz1 hz2
        go_wp2
        go_quiet (fail)
        go_wp2
        rw [← HV.out]
        obtain ⟨W, hW⟩ : ∃ W, W = wr.drewN nq := ⟨_, rfl⟩
        have hbW : Below w.heap.size w W := by rw [hW]; exact hbr.drewN nq
        rw [← hW]
        clear hW
        clear k0 k1 k2 hm0 hm1 hm2
        cases p3 : scB V
        · have HNX := Lib.hid (show ∀ n, 1 ≤ n → n < 3 + 1 → ¬ oneF zs = (valF zs n, (n : Int), 0) from fun n h1 h2 => by
            by_cases e : n = 3
            · rw [e]
              intro h
              obtain ⟨h3, _⟩ := one_sound zs _ _ HW.out h
              rw [← HVV.out, p3] at h3
              cases h3
            · exact HNO.out n h1 (by omega))
          refine wp_region_mix (G := fun w w' => Below w.heap.size w w') [(0, false), (1, true), (2, false), (3, false), (5, false), (6, false), (7, false), (8, false), (4, true), (9, false), (10, false)]
            below_refl below_trans (by kernel_rfl) rfl (by kernel_rfl) (by kernel_rfl) (below_refl _).drew ?_
          iterate 1 (refine mix_one rfl rfl ?_; go_big_quiet_step ((intro _; rfl)); refine wpQuiet_nil ?_)
          refine mix_call rfl ?_
          intro w3 hb3
          go_wp2_with fail
          refine (scalarL V _).mono ?_
          rintro e w' ⟨rfl, rfl⟩
          go_wp2_with fail
          refine ⟨below_refl _, ?_⟩
          iterate 6 (refine mix_one rfl rfl ?_; go_big_quiet_step ((intro _; rfl)); refine wpQuiet_nil ?_)
          refine mix_call rfl ?_
          intro w4 hb4
          go_wp2_with fail
          refine ⟨below_refl _, ?_⟩
          iterate 2 (refine mix_one rfl rfl ?_; go_big_quiet_step ((intro _; rfl)); refine wpQuiet_nil ?_)
          refine mix_nil ?_
          intro w6 hb6
          have hbE := hbW.trans ((below_trans _ _ _ (below_trans _ _ _ hb3 hb4) hb6).mono hbW.size)
          refine NoPanic.normal ?_
          go_wp2
          go_roundw
          case rel => exact ⟨3 + 1, by omega, by omega, by omega, by go_num, HNX.out, hbE⟩
          case measure => simp [intOf]
        · have HTK := Lib.hid (show (zs.take 3).length = 3 by rw [List.length_take, Nat.min_eq_left hgl])
          have hsd := str_dec (encL_bytes V p3) (fun z hz => HW.out z (List.mem_of_mem_take (i := 3) hz))
          have P3 := Lib.hid p3
          obtain ⟨tk, htk⟩ : ∃ tk, tk = zs.take 3 := ⟨_, rfl⟩
          rw [← htk] at hsd HTK
          have HTQ := Lib.hid htk
          clear htk
          by_cases p4 : encL V = tk
          · rw [decide_eq_true p4] at hsd
            have HSD := Lib.hid hsd
            clear hsd
            have HONE := Lib.hid (show oneF zs = (V, 3, 0) by
              rw [HVV.out]
              exact one_of_val (by rw [← HVV.out]; exact P3.out) (by rw [← HVV.out, p4, HTQ.out]) hgl)
            clear p4
            refine wp_region_mix (G := fun w w' => Below w.heap.size w w') [(0, false), (1, true), (2, false), (3, false), (5, false), (6, false), (7, false), (8, false), (4, true), (9, false), (10, false)]
              below_refl below_trans (by kernel_rfl) rfl (by kernel_rfl) (by kernel_rfl) (below_refl _).drew ?_
            iterate 1 (refine mix_one rfl rfl ?_; go_big_quiet_step ((intro _; rfl)); refine wpQuiet_nil ?_)
            refine mix_call rfl ?_
            intro w3 hb3
            go_wp2_with fail
            refine (scalarL V _).mono ?_
            rintro e w' ⟨rfl, rfl⟩
            go_wp2_with fail
            refine ⟨below_refl _, ?_⟩
            iterate 4 (refine mix_one rfl rfl ?_; go_big_quiet_step ((intro _; rfl)); refine wpQuiet_nil ?_)
            refine mix_one rfl rfl ?_
            go_big_quiet_step ((intro _; rfl))
            refine wpQuiet_nil ?_
            refine mix_one rfl rfl ?_
            go_big_quiet_step ((intro hh; rw [HCV.out _ (some ⟨b, o, none⟩) tk 3 cap HTK.out.symm (by rw [HTQ.out]; exact HRD.out _ 3 (hbW.trans ((below_trans _ _ _ hb3 hh).mono hbW.size)) hgl)]; exact ⟨rfl, rfl⟩))
            refine wpQuiet_nil ?_
            refine mix_call rfl ?_
            intro w4 hb4
            go_wp2_with fail
            refine (bytesL V _ P3.out).mono ?_
            rintro e w5 ⟨rfl, hb5⟩
            go_wp2_with fail
            refine ⟨hb5, ?_⟩
            have hsd := HSD.out
            iterate 2 (refine mix_one rfl rfl ?_; go_big_quiet_step ((intro _; rfl)); refine wpQuiet_nil ?_)
            clear hsd
            refine mix_nil ?_
            intro w6 hb6
            have hbE := hbW.trans ((below_trans _ _ _ (below_trans _ _ _ (below_trans _ _ _ hb3 hb4) hb5) hb6).mono hbW.size)
            refine NoPanic.normal ?_
            go_wp2
            go_ret3
            exact retL HONE.out hbE
          · rw [decide_eq_false p4] at hsd
            have HSD := Lib.hid hsd
            clear hsd
            have HNX := Lib.hid (show ∀ n, 1 ≤ n → n < 3 + 1 → ¬ oneF zs = (valF zs n, (n : Int), 0) from fun n h1 h2 => by
              by_cases e : n = 3
              · rw [e]
                intro h
                obtain ⟨_, h4, _, _⟩ := one_sound zs _ _ HW.out h
                rw [← HVV.out] at h4
                exact p4 (by rw [HTQ.out]; exact h4.symm)
              · exact HNO.out n h1 (by omega))
            clear p4
            refine wp_region_mix (G := fun w w' => Below w.heap.size w w') [(0, false), (1, true), (2, false), (3, false), (5, false), (6, false), (7, false), (8, false), (4, true), (9, false), (10, false)]
              below_refl below_trans (by kernel_rfl) rfl (by kernel_rfl) (by kernel_rfl) (below_refl _).drew ?_
            iterate 1 (refine mix_one rfl rfl ?_; go_big_quiet_step ((intro _; rfl)); refine wpQuiet_nil ?_)
            refine mix_call rfl ?_
            intro w3 hb3
            go_wp2_with fail
            refine (scalarL V _).mono ?_
            rintro e w' ⟨rfl, rfl⟩
            go_wp2_with fail
            refine ⟨below_refl _, ?_⟩
            iterate 4 (refine mix_one rfl rfl ?_; go_big_quiet_step ((intro _; rfl)); refine wpQuiet_nil ?_)
            refine mix_one rfl rfl ?_
            go_big_quiet_step ((intro _; rfl))
            refine wpQuiet_nil ?_
            refine mix_one rfl rfl ?_
            go_big_quiet_step ((intro hh; rw [HCV.out _ (some ⟨b, o, none⟩) tk 3 cap HTK.out.symm (by rw [HTQ.out]; exact HRD.out _ 3 (hbW.trans ((below_trans _ _ _ hb3 hh).mono hbW.size)) hgl)]; exact ⟨rfl, rfl⟩))
            refine wpQuiet_nil ?_
            refine mix_call rfl ?_
            intro w4 hb4
            go_wp2_with fail
            refine (bytesL V _ P3.out).mono ?_
            rintro e w5 ⟨rfl, hb5⟩
            go_wp2_with fail
            refine ⟨hb5, ?_⟩
            have hsd := HSD.out
            iterate 2 (refine mix_one rfl rfl ?_; go_big_quiet_step ((intro _; rfl)); refine wpQuiet_nil ?_)
            clear hsd
            refine mix_nil ?_
            intro w6 hb6
            have hbE := hbW.trans ((below_trans _ _ _ (below_trans _ _ _ (below_trans _ _ _ hb3 hb4) hb5) hb6).mono hbW.size)
            refine NoPanic.normal ?_
            go_wp2
            go_roundw
            case rel => exact ⟨3 + 1, by omega, by omega, by omega, by go_num, HNX.out, hbE⟩
            case measure => simp [intOf]
      · have k0 := (hbr.cell (p := ⟨b, o + 0, none⟩) hb).trans (HCL.out 0 (by omega))
        obtain ⟨z0, hz0⟩ : ∃ z, z = zs.getD 0 0 := ⟨_, rfl⟩
        rw [← hz0] at k0
        have hr0 := getD_range HW.out 0 (by omega)
        rw [← hz0] at hr0
        have k1 := (hbr.cell (p := ⟨b, o + 1, none⟩) hb).trans (HCL.out 1 (by omega))
        obtain ⟨z1, hz1⟩ : ∃ z, z = zs.getD 1 0 := ⟨_, rfl⟩
        rw [← hz1] at k1
        have hr1 := getD_range HW.out 1 (by omega)
        rw [← hz1] at hr1
        have k2 := (hbr.cell (p := ⟨b, o + 2, none⟩) hb).trans (HCL.out 2 (by omega))
        obtain ⟨z2, hz2⟩ : ∃ z, z = zs.getD 2 0 := ⟨_, rfl⟩
        rw [← hz2] at k2
        have hr2 := getD_range HW.out 2 (by omega)
        rw [← hz2] at hr2
        have k3 := (hbr.cell (p := ⟨b, o + 3, none⟩) hb).trans (HCL.out 3 (by omega))
        obtain ⟨z3, hz3⟩ : ∃ z, z = zs.getD 3 0 := ⟨_, rfl⟩
        rw [← hz3] at k3
        have hr3 := getD_range HW.out 3 (by omega)
        rw [← hz3] at hr3
        rw [Nat.add_zero] at k0
        have hm0 : bits .and .u8 z0 7 = z0 % 8 := u8_and7 z0 hr0.1 (by omega)
        have hm1 : bits .and .u8 z1 63 = z1 % 64 := u8_and63 z1 hr1.1 (by omega)
        have hm2 : bits .and .u8 z2 63 = z2 % 64 := u8_and63 z2 hr2.1 (by omega)
        have hm3 : bits .and .u8 z3 63 = z3 % 64 := u8_and63 z3 hr3.1 (by omega)
        obtain ⟨V, hV⟩ : ∃ V, V = z0 % 8 * 262144 + z1 % 64 * 4096 + z2 % 64 * 64 + z3 % 64 := ⟨_, rfl⟩
        have hVv : V = valF zs 4 := by rw [hV, hz0, hz1, hz2, hz3]; rfl
        have hVb : 0 ≤ V ∧ V ≤ 2097151 := by omega
        have HV := Lib.hid hV
        have HVV := Lib.hid hVv
        clear hV hVv hz0 hz1 hz2 hz3
        go_wp2
        go_quiet (fail)
        go_wp2
        rw [← HV.out]
        obtain ⟨W, hW⟩ : ∃ W, W = wr.drewN nq := ⟨_, rfl⟩
        have hbW : Below w.heap.size w W := by rw [hW]; exact hbr.drewN nq
        rw [← hW]
        clear hW
        clear k0 k1 k2 k3 hm0 hm1 hm2 hm3
        cases p3 : scB V
        · have HNX := Lib.hid (show ∀ n, 1 ≤ n → n < 4 + 1 → ¬ oneF zs = (valF zs n, (n : Int), 0) from fun n h1 h2 => by
            by_cases e : n = 4
            · rw [e]
              intro h
              obtain ⟨h3, _⟩ := one_sound zs _ _ HW.out h
              rw [← HVV.out, p3] at h3
              cases h3
            · exact HNO.out n h1 (by omega))
          refine wp_region_mix (G := fun w w' => Below w.heap.size w w') [(0, false), (1, true), (2, false), (3, false), (5, false), (6, false), (7, false), (8, false), (4, true), (9, false), (10, false)]
            below_refl below_trans (by kernel_rfl) rfl (by kernel_rfl) (by kernel_rfl) (below_refl _).drew ?_
          iterate 1 (refine mix_one rfl rfl ?_; go_big_quiet_step ((intro _; rfl)); refine wpQuiet_nil ?_)
          refine mix_call rfl ?_
          intro w3 hb3
          go_wp2_with fail
          refine (scalarL V _).mono ?_
          rintro e w' ⟨rfl, rfl⟩
          go_wp2_with fail
          refine ⟨below_refl _, ?_⟩
          iterate 6 (refine mix_one rfl rfl ?_; go_big_quiet_step ((intro _; rfl)); refine wpQuiet_nil ?_)
          refine mix_call rfl ?_
          intro w4 hb4
          go_wp2_with fail
          refine ⟨below_refl _, ?_⟩
          iterate 2 (refine mix_one rfl rfl ?_; go_big_quiet_step ((intro _; rfl)); refine wpQuiet_nil ?_)
          refine mix_nil ?_
          intro w6 hb6
          have hbE := hbW.trans ((below_trans _ _ _ (below_trans _ _ _ hb3 hb4) hb6).mono hbW.size)
          refine NoPanic.normal ?_
          go_wp2
          go_roundw
          case rel => exact ⟨4 + 1, by omega, by omega, by omega, by go_num, HNX.out, hbE⟩
          case measure => simp [intOf]
        · have HTK := Lib.hid (show (zs.take 4).length = 4 by rw [List.length_take, Nat.min_eq_left hgl])
          have hsd := str_dec (encL_bytes V p3) (fun z hz => HW.out z (List.mem_of_mem_take (i := 4) hz))
          have P3 := Lib.hid p3
          obtain ⟨tk, htk⟩ : ∃ tk, tk = zs.take 4 := ⟨_, rfl⟩
          rw [← htk] at hsd HTK
          have HTQ := Lib.hid htk
          clear htk
          by_cases p4 : encL V = tk
          · rw [decide_eq_true p4] at hsd
            have HSD := Lib.hid hsd
            clear hsd
            have HONE := Lib.hid (show oneF zs = (V, 4, 0) by
              rw [HVV.out]
              exact one_of_val (by rw [← HVV.out]; exact P3.out) (by rw [← HVV.out, p4, HTQ.out]) hgl)
            clear p4
            refine wp_region_mix (G := fun w w' => Below w.heap.size w w') [(0, false), (1, true), (2, false), (3, false), (5, false), (6, false), (7, false), (8, false), (4, true), (9, false), (10, false)]
              below_refl below_trans (by kernel_rfl) rfl (by kernel_rfl) (by kernel_rfl) (below_refl _).drew ?_
            iterate 1 (refine mix_one rfl rfl ?_; go_big_quiet_step ((intro _; rfl)); refine wpQuiet_nil ?_)
            refine mix_call rfl ?_
            intro w3 hb3
            go_wp2_with fail
            refine (scalarL V _).mono ?_
            rintro e w' ⟨rfl, rfl⟩
            go_wp2_with fail
            refine ⟨below_refl _, ?_⟩
            iterate 4 (refine mix_one rfl rfl ?_; go_big_quiet_step ((intro _; rfl)); refine wpQuiet_nil ?_)
            refine mix_one rfl rfl ?_
            go_big_quiet_step ((intro _; rfl))
            refine wpQuiet_nil ?_
            refine mix_one rfl rfl ?_
            go_big_quiet_step ((intro hh; rw [HCV.out _ (some ⟨b, o, none⟩) tk 4 cap HTK.out.symm (by rw [HTQ.out]; exact HRD.out _ 4 (hbW.trans ((below_trans _ _ _ hb3 hh).mono hbW.size)) hgl)]; exact ⟨rfl, rfl⟩))
            refine wpQuiet_nil ?_
            refine mix_call rfl ?_
            intro w4 hb4
            go_wp2_with fail
            refine (bytesL V _ P3.out).mono ?_
            rintro e w5 ⟨rfl, hb5⟩
            go_wp2_with fail
            refine ⟨hb5, ?_⟩
            have hsd := HSD.out
            iterate 2 (refine mix_one rfl rfl ?_; go_big_quiet_step ((intro _; rfl)); refine wpQuiet_nil ?_)
            clear hsd
            refine mix_nil ?_
            intro w6 hb6
            have hbE := hbW.trans ((below_trans _ _ _ (below_trans _ _ _ (below_trans _ _ _ hb3 hb4) hb5) hb6).mono hbW.size)
            refine NoPanic.normal ?_
            go_wp2
            go_ret3
            exact retL HONE.out hbE
          · rw [decide_eq_false p4] at hsd
            have HSD := Lib.hid hsd
            clear hsd
            have HNX := Lib.hid (show ∀ n, 1 ≤ n → n < 4 + 1 → ¬ oneF zs = (valF zs n, (n : Int), 0) from fun n h1 h2 => by
              by_cases e : n = 4
              · rw [e]
                intro h
                obtain ⟨_, h4, _, _⟩ := one_sound zs _ _ HW.out h
                rw [← HVV.out] at h4
                exact p4 (by rw [HTQ.out]; exact h4.symm)
              · exact HNO.out n h1 (by omega))
            clear p4
            refine wp_region_mix (G := fun w w' => Below w.heap.size w w') [(0, false), (1, true), (2, false), (3, false), (5, false), (6, false), (7, false), (8, false), (4, true), (9, false), (10, false)]
              below_refl below_trans (by kernel_rfl) rfl (by kernel_rfl) (by kernel_rfl) (below_refl _).drew ?_
            iterate 1 (refine mix_one rfl rfl ?_; go_big_quiet_step ((intro _; rfl)); refine wpQuiet_nil ?_)
            refine mix_call rfl ?_
            intro w3 hb3
            go_wp2_with fail
            refine (scalarL V _).mono ?_
            rintro e w' ⟨rfl, rfl⟩
            go_wp2_with fail
            refine ⟨below_refl _, ?_⟩
            iterate 4 (refine mix_one rfl rfl ?_; go_big_quiet_step ((intro _; rfl)); refine wpQuiet_nil ?_)
            refine mix_one rfl rfl ?_
            go_big_quiet_step ((intro _; rfl))
            refine wpQuiet_nil ?_
            refine mix_one rfl rfl ?_
            go_big_quiet_step ((intro hh; rw [HCV.out _ (some ⟨b, o, none⟩) tk 4 cap HTK.out.symm (by rw [HTQ.out]; exact HRD.out _ 4 (hbW.trans ((below_trans _ _ _ hb3 hh).mono hbW.size)) hgl)]; exact ⟨rfl, rfl⟩))
            refine wpQuiet_nil ?_
            refine mix_call rfl ?_
            intro w4 hb4
            go_wp2_with fail
            refine (bytesL V _ P3.out).mono ?_
            rintro e w5 ⟨rfl, hb5⟩
            go_wp2_with fail
            refine ⟨hb5, ?_⟩
            have hsd := HSD.out
            iterate 2 (refine mix_one rfl rfl ?_; go_big_quiet_step ((intro _; rfl)); refine wpQuiet_nil ?_)
            clear hsd
            refine mix_nil ?_
            intro w6 hb6
            have hbE := hbW.trans ((below_trans _ _ _ (below_trans _ _ _ (below_trans _ _ _ hb3 hb4) hb5) hb6).mono hbW.size)
            refine NoPanic.normal ?_
            go_wp2
            go_roundw
            case rel => exact ⟨4 + 1, by omega, by omega, by omega, by go_num, HNX.out, hbE⟩
            case measure => simp [intOf]
    · have hKe : ¬ (K ≤ 4 ∧ K ≤ zs.length) := hgo
      have hne0 : (oneF zs).2.2 ≠ 0 := by
        intro h
        obtain ⟨s, n, e, ho⟩ : ∃ s n e, oneF zs = (s, n, e) := ⟨_, _, _, rfl⟩
        rw [ho] at h
        obtain rfl : e = 0 := h
        obtain ⟨k, rfl, k1, k4, kl, rfl, _⟩ := val_of_one HW.out ho
        exact HNO.out k k1 (by omega) ho
      have HNE := Lib.hid hne0
      clear hne0
      have hex : ¬ K ≤ 4 ∨ (K ≤ 4 ∧ ¬ K ≤ zs.length) := by omega
      have hK1' : 0 < K := by omega
      clear hgo hKe
      rcases hex with hex | ⟨hex, hex2⟩
      · go_wp2
        obtain ⟨wo, hwo⟩ : ∃ wo : World, wo = wr := ⟨_, rfl⟩
        rw [← hwo]
        rw [← hwo] at hbr
        clear hwo
        go_loopw [7] (fun i wr => ∃ n : Nat, n ≤ zs.length ∧ n ≤ 3 ∧ i = .int .i64 n ∧ (∀ j, 1 ≤ j → j ≤ n → (oneF (zs.take j)).2.2 = 2) ∧ Below w.heap.size w wr) (fun i _ => 4 - (intOf i).toNat)
        case atStart => exact ⟨0, by omega, by omega, rfl, fun j h1 h2 => by omega, hbr⟩
        case round =>
          obtain ⟨n, hnl, hn3, rfl, hsh, hbn⟩ := hrel
          have HSH := Lib.hid hsh
          clear hsh
          by_cases hn : n = zs.length
          · have hfin : oneF zs = (0, (n : Int), 2) := by
              rw [hn]
              refine one_all zs h0 ?_
              have := HSH.out n (by omega) (Nat.le_refl _)
              rw [hn, List.take_length] at this
              exact this
            have HF := Lib.hid hfin
            have hn1 : ¬ n < zs.length := by omega
            have hn2 : ((n : Int) == zs.length) = true := beq_iff_eq.2 (by omega)
            clear hfin hn
            go_wp2
            go_ret3
            exact retL HF.out hbn
          have hnl' : n < zs.length := by omega
          have hn4 : n < 4 := by omega
          have hn2 : ((n : Int) == zs.length) = false := beq_eq_false_iff_ne.2 (by omega)
          have hcy : ∀ j, j < (zs.take (n + 1)).length → wr.cell? ⟨b, o + j, none⟩ = some (.int .u8 ((zs.take (n + 1)).getD j 0)) := by
            intro j hj
            rw [List.length_take] at hj
            rw [(hbn.cell (p := ⟨b, o + j, none⟩) hb).trans (HCL.out j (by omega)), List.getD_eq_getElem?_getD, List.getD_eq_getElem?_getD, List.getElem?_take, if_pos (by omega)]
          have hyl : n + 1 = (zs.take (n + 1)).length := by rw [List.length_take]; omega
          have HCY := Lib.hid hcy
          have HYL := Lib.hid hyl
          have hbb : b < wr.heap.size := Nat.lt_of_lt_of_le hb hbn.size
          clear hcy hyl hn
          by_cases hs2 : (oneF (zs.take (n + 1))).2.2 = 2
          · have HS2 := Lib.hid hs2
            have hn33 : n + 1 ≤ 3 := by
              cases hzt : zs.take (n + 1) with
              | nil => have := HYL.out; rw [hzt] at this; simp at this
              | cons z y =>
                have h1 := oneF_short_len z y (by rw [← hzt]; exact hs2)
                have := HYL.out
                rw [hzt, List.length_cons] at this
                omega
            clear hs2
            go_wp2_with fail
            refine (begins_iff b o (n + 1) cap (zs.take (n + 1)) _ true HYL.out (by omega) (by omega) HCY.out hbb (fun z hz => HW.out z (List.mem_of_mem_take hz)) (by omega) (by simp [HS2.out])).mono ?_
            rintro e w4 ⟨rfl, hb4⟩
            have HSN := Lib.hid (show ∀ j, 1 ≤ j → j ≤ n + 1 → (oneF (zs.take j)).2.2 = 2 from fun j h1 h2 => by
              by_cases e : j = n + 1
              · rw [e]; exact HS2.out
              · exact HSH.out j h1 (by omega))
            go_wp2
            go_roundw
            case rel => exact ⟨n + 1, by omega, by omega, by go_num, HSN.out, hbn.trans (hb4.mono hbn.size)⟩
            case measure => simp [intOf]; omega
          · have HF := Lib.hid (one_stop zs n hnl' HSH.out hs2 HNE.out)
            have HS2 := Lib.hid hs2
            clear hs2
            by_cases hn00 : n = 0
            · subst hn00
              go_wp2_with fail
              refine (begins_iff b o _ cap (zs.take (0 + 1)) _ false HYL.out (by omega) (by omega) HCY.out hbb (fun z hz => HW.out z (List.mem_of_mem_take hz)) (by omega) (by simp [HS2.out])).mono ?_
              rintro e w4 ⟨rfl, hb4⟩
              go_wp2
              go_ret3
              exact retL HF.out (hbn.trans (hb4.mono hbn.size))
            · have hn11 : ¬ n < 1 := by omega
              have HMX := Lib.hid (show ((max n 1 : Nat) : Int) = n by omega)
              go_wp2_with fail
              refine (begins_iff b o (n + 1) cap (zs.take (n + 1)) _ false HYL.out (by omega) (by omega) HCY.out hbb (fun z hz => HW.out z (List.mem_of_mem_take hz)) (by omega) (by simp [HS2.out])).mono ?_
              rintro e w4 ⟨rfl, hb4⟩
              go_wp2
              go_ret3
              exact retL (HF.out.trans (by rw [HMX.out])) (hbn.trans (hb4.mono hbn.size))
      · go_wp2
        obtain ⟨wo, hwo⟩ : ∃ wo : World, wo = wr := ⟨_, rfl⟩
        rw [← hwo]
        rw [← hwo] at hbr
        clear hwo
        go_loopw [7] (fun i wr => ∃ n : Nat, n ≤ zs.length ∧ n ≤ 3 ∧ i = .int .i64 n ∧ (∀ j, 1 ≤ j → j ≤ n → (oneF (zs.take j)).2.2 = 2) ∧ Below w.heap.size w wr) (fun i _ => 4 - (intOf i).toNat)
        case atStart => exact ⟨0, by omega, by omega, rfl, fun j h1 h2 => by omega, hbr⟩
        case round =>
          obtain ⟨n, hnl, hn3, rfl, hsh, hbn⟩ := hrel
          have HSH := Lib.hid hsh
          clear hsh
          by_cases hn : n = zs.length
          · have hfin : oneF zs = (0, (n : Int), 2) := by
              rw [hn]
              refine one_all zs h0 ?_
              have := HSH.out n (by omega) (Nat.le_refl _)
              rw [hn, List.take_length] at this
              exact this
            have HF := Lib.hid hfin
            have hn1 : ¬ n < zs.length := by omega
            have hn2 : ((n : Int) == zs.length) = true := beq_iff_eq.2 (by omega)
            clear hfin hn
            go_wp2
            go_ret3
            exact retL HF.out hbn
          have hnl' : n < zs.length := by omega
          have hn4 : n < 4 := by omega
          have hn2 : ((n : Int) == zs.length) = false := beq_eq_false_iff_ne.2 (by omega)
          have hcy : ∀ j, j < (zs.take (n + 1)).length → wr.cell? ⟨b, o + j, none⟩ = some (.int .u8 ((zs.take (n + 1)).getD j 0)) := by
            intro j hj
            rw [List.length_take] at hj
            rw [(hbn.cell (p := ⟨b, o + j, none⟩) hb).trans (HCL.out j (by omega)), List.getD_eq_getElem?_getD, List.getD_eq_getElem?_getD, List.getElem?_take, if_pos (by omega)]
          have hyl : n + 1 = (zs.take (n + 1)).length := by rw [List.length_take]; omega
          have HCY := Lib.hid hcy
          have HYL := Lib.hid hyl
          have hbb : b < wr.heap.size := Nat.lt_of_lt_of_le hb hbn.size
          clear hcy hyl hn
          by_cases hs2 : (oneF (zs.take (n + 1))).2.2 = 2
          · have HS2 := Lib.hid hs2
            have hn33 : n + 1 ≤ 3 := by
              cases hzt : zs.take (n + 1) with
              | nil => have := HYL.out; rw [hzt] at this; simp at this
              | cons z y =>
                have h1 := oneF_short_len z y (by rw [← hzt]; exact hs2)
                have := HYL.out
                rw [hzt, List.length_cons] at this
                omega
            clear hs2
            go_wp2_with fail
            refine (begins_iff b o (n + 1) cap (zs.take (n + 1)) _ true HYL.out (by omega) (by omega) HCY.out hbb (fun z hz => HW.out z (List.mem_of_mem_take hz)) (by omega) (by simp [HS2.out])).mono ?_
            rintro e w4 ⟨rfl, hb4⟩
            have HSN := Lib.hid (show ∀ j, 1 ≤ j → j ≤ n + 1 → (oneF (zs.take j)).2.2 = 2 from fun j h1 h2 => by
              by_cases e : j = n + 1
              · rw [e]; exact HS2.out
              · exact HSH.out j h1 (by omega))
            go_wp2
            go_roundw
            case rel => exact ⟨n + 1, by omega, by omega, by go_num, HSN.out, hbn.trans (hb4.mono hbn.size)⟩
            case measure => simp [intOf]; omega
          · have HF := Lib.hid (one_stop zs n hnl' HSH.out hs2 HNE.out)
            have HS2 := Lib.hid hs2
            clear hs2
            by_cases hn00 : n = 0
            · subst hn00
              go_wp2_with fail
              refine (begins_iff b o _ cap (zs.take (0 + 1)) _ false HYL.out (by omega) (by omega) HCY.out hbb (fun z hz => HW.out z (List.mem_of_mem_take hz)) (by omega) (by simp [HS2.out])).mono ?_
              rintro e w4 ⟨rfl, hb4⟩
              go_wp2
              go_ret3
              exact retL HF.out (hbn.trans (hb4.mono hbn.size))
            · have hn11 : ¬ n < 1 := by omega
              have HMX := Lib.hid (show ((max n 1 : Nat) : Int) = n by omega)
              go_wp2_with fail
              refine (begins_iff b o (n + 1) cap (zs.take (n + 1)) _ false HYL.out (by omega) (by omega) HCY.out hbb (fun z hz => HW.out z (List.mem_of_mem_take hz)) (by omega) (by simp [HS2.out])).mono ?_
              rintro e w4 ⟨rfl, hb4⟩
              go_wp2
              go_ret3
              exact retL (HF.out.trans (by rw [HMX.out])) (hbn.trans (hb4.mono hbn.size))
end Go.Proofs.Ytbigbkplhlmbmaa
