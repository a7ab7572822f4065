/- VcanonTwice: what is put together is so, once and for all: the whole walk of the law. -/
import Derived.Test.YtjolbdfkkhphiaaDoorVcH
import Derived.Test.YtjolbdfkkhphiaaDoorMixe
namespace Go.Proofs.YtjolbdfkkhphiaaDoor
set_option linter.unusedVariables false
set_option linter.unusedSimpArgs false
set_option linter.unnecessarySimpa false
open Go.RowKit Go.Shelf

set_option maxHeartbeats 6400000 in
theorem vcanonTwice_any (n : Nat) (A : Option Addr) (cap : Nat) (l : List Int) (n' : Nat) (A' : Option Addr) (cap' : Nat) (ss : List Int) (w : World) (hn : n = l.length) (hr : Rd w w.heap.size A (l.map (Value.int .u8))) (hc : n ≤ cap) (hw : ∀ z ∈ l, 0 ≤ z ∧ z ≤ 255)
    (hn' : n' = ss.length) (hr' : Rd w w.heap.size A' (ss.map (Value.int .i64))) (hc' : n' ≤ cap') (hT : TabV w) :
    Calls Tryd.prog 5 #[.slice A n cap, .slice A' n' cap'] w fun e w' => e = .returned (.bool true) ∧ Below w.heap.size w w' := by
  obtain ⟨q, hq, hqn, hq6⟩ : ∃ q : Nat, ((if 60 < n' then 60 else n') = q) ∧ q ≤ n' ∧ q ≤ 60 := ⟨_, rfl, by split <;> omega, by split <;> omega⟩
  have hmin : (if (60 : Int) < (n' : Int) then (60 : Int) else (n' : Int)) = (q : Int) := by rw [← hq]; split <;> split <;> omega
  have hqc : q ≤ cap' := by omega
  have hq0 : (0 : Int) ≤ (q : Int) := by omega
  have hrt := Rd.take q hr'
  rw [← List.map_take] at hrt
  have hql : (ss.take q).length = q := by rw [List.length_take]; omega
  obtain ⟨S, hS⟩ : ∃ S, ss.take q = S := ⟨_, rfl⟩
  rw [hS] at hrt hql
  have HRS := Lib.hid (show RI w A' S from hrt)
  have HQL := Lib.hid hql
  obtain ⟨X, hX⟩ : ∃ X, someF l = X := ⟨_, rfl⟩
  have hxl : X.length ≤ 60 := by rw [← hX]; exact someF_len l
  obtain ⟨m, hm⟩ : ∃ m, X.length = m := ⟨_, rfl⟩
  have HM := Lib.hid hm
  have hm60 : m ≤ 60 := by omega
  have HS0 := Lib.hid (fun W hr => some_at n A cap l W hn hr hc hw X hX m hm)
  have HR := Lib.hid hr
  have HT := Lib.hid hT
  clear hr hr' hT hn hn' hw hS hrt hql hX hm hq hxl
  go_enter Tryd.func5, Tryd.ntmps5
  go_wp2_with fail
  refine (awake10_any w HT.out).mono ?_
  rintro e w1 ⟨rfl, hb1⟩
  have HB1 := Lib.hid hb1
  clear hb1
  go_wp2_with fail
  refine wp_region_mixe (G := fun w w' => Below w.heap.size w w') [(0, false), (2, false), (3, false), (4, false), (5, false), (6, false), (9, false), (1, true), (7, true), (8, false)]
    below_refl below_trans (by kernel_rfl) rfl (by kernel_rfl) (by kernel_rfl) ?_
  iterate 7 (refine mixe_one rfl rfl ?_; go_big_quiet_step ((intro _; rfl)); refine wpQuiet_nil ?_)
  refine mixe_call rfl ?_
  go_wp2_with fail
  refine (HS0.out w1.drew (HR.out.below HB1.out.drew HB1.out.size)).mono ?_
  rintro e w4 ⟨A5, c5, rfl, hr4, hc5, hd5, hb4'⟩
  have HB4 := Lib.hid (HB1.out.trans (((Below.refl _ w1).drew.trans hb4').mono HB1.out.size))
  have HR4 := Lib.hid hr4.rd
  have hsE4 := HB4.out.size
  clear hr4
  go_wp2_with fail
  refine ⟨hb4', ?_⟩
  clear hb4'
  refine mixe_call rfl ?_
  go_wp2_with fail
  have hbX : Below w4.heap.size w4 (w4.alloc (.cells #[.slice A5 m c5, .slice A' q cap'] 23)) := (Below.refl _ _).alloc (Nat.le_refl _) _
  refine ⟨hbX, ?_⟩
  iterate 1 (refine mixe_one rfl rfl ?_; go_big_quiet_step ((intro _; rfl)); refine wpQuiet_nil ?_)
  refine NoPanic.normal ?_
  obtain ⟨wX, hwX⟩ : ∃ wX, wX = w4.alloc (.cells #[.slice A5 m c5, .slice A' q cap'] 23) := ⟨_, rfl⟩
  obtain ⟨G, hG⟩ : ∃ G, G = w4.heap.size := ⟨_, rfl⟩
  rw [← hwX] at hbX ⊢
  have hcX : Held wX G #[.slice A5 m c5, .slice A' q cap'] 23 := by rw [hwX, hG]; exact Held.new w4 _ _
  have HBX := Lib.hid (HB4.out.trans (hbX.mono hsE4))
  have hsX := HBX.out.size
  have hXl := hcX.lt
  have hX0 : wX.cell? ⟨G, 0, none⟩ = some (.slice A5 m c5) := hcX.cell 0
  have hX1 : wX.cell? ⟨G, 1, none⟩ = some (.slice A' q cap') := hcX.cell 1
  have hxs : ∀ k : Nat, k < 2 → ∃ Ax Mx cx, ∃ xs : List Int, wX.cell? ⟨G, k, none⟩ = some (.slice Ax Mx cx) ∧ xs.length = Mx ∧ Mx ≤ 60 ∧ RI wX Ax xs := by
    intro k hk
    have : k = 0 ∨ k = 1 := by omega
    rcases this with rfl | rfl
    · exact ⟨A5, m, c5, X, hX0, HM.out, hm60, HR4.out.below hbX⟩
    · exact ⟨A', q, cap', S, hX1, HQL.out, hq6, HRS.out.below HBX.out⟩
  have HXS := Lib.hid hxs
  rw [← hG]
  clear hwX hG hX0 hX1 hxs hbX HR4 HB4 hmin hcX hsE4
  go_wp2
  go_loopw [19] (fun i wr => ∃ J : Nat, J ≤ 2 ∧ i = .int .i64 J ∧ Hid (Below wX.heap.size wX wr)) (fun i _ => 2 - (intOf i).toNat)
  case atStart => exact ⟨0, by omega, rfl, Lib.hid (Below.refl _ _)⟩
  case round =>
    obtain ⟨J, hJ, rfl, HBJ⟩ := hrel
    have hsJ := HBJ.out.size
    have HBE := Lib.hid (HBX.out.trans (HBJ.out.mono hsX))
    by_cases hJ2 : J = 2
    · subst hJ2
      go_wp2
      go_ret
      exact ⟨rfl, HBE.out⟩
    have hJ1 : J < 2 := by omega
    obtain ⟨Ax, Mx, cx, xs, hcell, hxl, hMx, hux⟩ := HXS.out J hJ1
    have hcJ := (HBJ.out.cell (p := ⟨G, J, none⟩) hXl).trans hcell
    have HUX := Lib.hid (hux.below HBJ.out)
    have HMX := Lib.hid hxl
    have hJ0 : (0 : Int) ≤ J := by omega
    have hJ3 : (J : Int) < 2 := by omega
    obtain ⟨Y, hY⟩ : ∃ Y, cGo 0 xs = Y := ⟨_, rfl⟩
    have hYY : cGo 0 Y = Y := by rw [← hY, cGo_twice]
    have hyl : Y.length ≤ Mx := by have := cGo_len 0 xs; rw [hY, kn_zero, List.length_nil] at this; omega
    obtain ⟨my, hmy⟩ : ∃ m, Y.length = m := ⟨_, rfl⟩
    have HMY := Lib.hid hmy
    have hmi : ¬ ((Mx : Int) < (my : Int)) := by omega
    have hmi2 : my ≤ 60 := by omega
    have HA := Lib.hid (fun n A cap (W : World) hn hr hR => all_at n A cap xs W hn hr (by omega) hR Y hY my hmy)
    have HA2 := Lib.hid (fun n A cap (W : World) hn hr hR => all_at n A cap Y W hn hr (by omega) hR Y hYY my hmy)
    clear hcell hxl hux hJ2 hY hYY hyl hmy
    go_wp2_with fail
    refine (HA.out Mx Ax cx wr HMX.out.symm HUX.out (HT.out.below HBE.out).rows).mono ?_
    rintro e w6 ⟨A6, c6, rfl, hr6, hc6, hd6, hb6⟩
    have HB6 := Lib.hid (HBE.out.trans (hb6.mono HBE.out.size))
    have HBJ6 := Lib.hid (HBJ.out.trans (hb6.mono hsJ))
    have HR6 := Lib.hid hr6.rd
    clear hr6 hb6 HBE HBJ HUX
    go_wp2_with fail
    refine (HA2.out my A6 c6 w6 HMY.out.symm HR6.out (HT.out.below HB6.out).rows).mono ?_
    rintro e w7 ⟨A7, c7, rfl, hr7, hc7, hd7, hb7⟩
    have HB7 := Lib.hid (HB6.out.trans (hb7.mono HB6.out.size))
    have HBJ7 := Lib.hid (HBJ6.out.trans (hb7.mono HBJ6.out.size))
    have HR67 := Lib.hid (HR6.out.below hb7)
    have HR7 := Lib.hid hr7.rd
    clear hr7 hb7 HB6 HBJ6 HR6
    go_wp2_with fail
    refine (units_any my my A7 A6 c7 c6 _ _ w7 rfl HMY.out.symm HMY.out.symm HR7.out HR67.out (by rw [HMY.out]; omega)).mono ?_
    rintro e w8 ⟨rfl, hb8⟩
    have HBJ8 := Lib.hid (HBJ7.out.trans (hb8.mono HBJ7.out.size))
    clear hb8
    go_wp2
    go_roundw
    case rel => exact ⟨J + 1, by omega, by go_num, HBJ8⟩
    case measure => simp [intOf]; omega
end Go.Proofs.YtjolbdfkkhphiaaDoor
