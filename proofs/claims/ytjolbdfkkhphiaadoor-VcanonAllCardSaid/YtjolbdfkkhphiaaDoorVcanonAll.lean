/- VcanonAll: what All answers is what the document says: the whole walk of the law. -/
import Derived.Test.YtjolbdfkkhphiaaDoorVcH
namespace Go.Proofs.YtjolbdfkkhphiaaDoor
set_option linter.unusedVariables false
set_option linter.unusedSimpArgs false
set_option linter.unnecessarySimpa false
open Go.RowKit Go.Shelf

set_option maxHeartbeats 3200000 in
theorem vcanonAll_any (n : Nat) (A : Option Addr) (cap : Nat) (l : List Int) (n' : Nat) (A' : Option Addr) (cap' : Nat) (ss : List Int) (w : World) (hn : n = l.length) (hr : Rd w w.heap.size A (l.map (Value.int .u8))) (hc : n ≤ cap) (hw : ∀ z ∈ l, 0 ≤ z ∧ z ≤ 255)
    (hn' : n' = ss.length) (hr' : Rd w w.heap.size A' (ss.map (Value.int .i64))) (hc' : n' ≤ cap') (hT : TabV w) :
    Calls Tryd.prog 3 #[.slice A n cap, .slice A' n' cap'] w fun e w' => e = .returned (.bool true) ∧ Below w.heap.size w w' := by
  obtain ⟨q, hq, hqn, hq6⟩ : ∃ q : Nat, ((if 60 < n' then 60 else n') = q) ∧ q ≤ n' ∧ q ≤ 60 := ⟨_, rfl, by split <;> omega, by split <;> omega⟩
  have hmin : (if (60 : Int) < (n' : Int) then (60 : Int) else (n' : Int)) = (q : Int) := by rw [← hq]; split <;> split <;> omega
  have hqc : q ≤ cap' := by omega
  have hq0 : (0 : Int) ≤ (q : Int) := by omega
  have hrt := Rd.take q hr'
  rw [← List.map_take] at hrt
  have hql : (ss.take q).length = q := by rw [List.length_take]; omega
  obtain ⟨S, hS⟩ : ∃ S, ss.take q = S := ⟨_, rfl⟩
  rw [hS] at hrt hql
  have HRS := Lib.hid (show RI w A' S from hrt)
  have HQL := Lib.hid hql
  obtain ⟨X, hX⟩ : ∃ X, someF l = X := ⟨_, rfl⟩
  have hxl : X.length ≤ 60 := by rw [← hX]; exact someF_len l
  obtain ⟨m, hm⟩ : ∃ m, X.length = m := ⟨_, rfl⟩
  have HM := Lib.hid hm
  obtain ⟨Y, hY⟩ : ∃ Y, cGo 0 X = Y := ⟨_, rfl⟩
  obtain ⟨Z, hZ⟩ : ∃ Z, cGo 0 S = Z := ⟨_, rfl⟩
  have hyl : Y.length ≤ 60 := by have := cGo_len 0 X; rw [hY, kn_zero, List.length_nil] at this; omega
  have hzl : Z.length ≤ 60 := by have := cGo_len 0 S; rw [hZ, kn_zero, List.length_nil] at this; omega
  obtain ⟨my, hmy⟩ : ∃ m, Y.length = m := ⟨_, rfl⟩
  obtain ⟨mz, hmz⟩ : ∃ m, Z.length = m := ⟨_, rfl⟩
  have HS0 := Lib.hid (fun W hr => some_at n A cap l W hn hr hc hw X hX m hm)
  have HR := Lib.hid hr
  have HT := Lib.hid hT
  have HA := Lib.hid (fun n A cap (W : World) hn hr hR => all_at n A cap X W hn hr (by omega) hR Y hY my hmy)
  have HC := Lib.hid (fun n A cap (W : World) hn hr => canon_at n A cap X W hn hr (by omega) Y hY my hmy)
  have HA2 := Lib.hid (fun n A cap (W : World) hn hr hR => all_at n A cap S W hn hr (by omega) hR Z hZ mz hmz)
  have HC2 := Lib.hid (fun n A cap (W : World) hn hr => canon_at n A cap S W hn hr (by omega) Z hZ mz hmz)
  have HMY := Lib.hid hmy
  have HMZ := Lib.hid hmz
  have HYL := Lib.hid hyl
  have HZL := Lib.hid hzl
  clear hr hr' hT hn hn' hw hS hrt hql hX hm hY hZ hmy hmz hq hyl hzl hxl
  go_enter Tryd.func3, Tryd.ntmps3
  go_wp2_with fail
  refine (awake10_any w HT.out).mono ?_
  rintro e w1 ⟨rfl, hb1⟩
  have HB1 := Lib.hid hb1
  clear hb1
  go_wp2_with fail
  refine (HS0.out w1 (HR.out.below HB1.out HB1.out.size)).mono ?_
  rintro e w2 ⟨A2, c2, rfl, hr2, hc2, hd2, hb2⟩
  have HB2 := Lib.hid (HB1.out.trans (hb2.mono HB1.out.size))
  have HR2 := Lib.hid hr2.rd
  have HT2 := Lib.hid (HT.out.below HB2.out)
  clear hr2 hb2 HB1
  clear w1
  go_wp2_with fail
  refine (HA.out m A2 c2 w2 HM.out.symm HR2.out HT2.out.rows).mono ?_
  rintro e w3 ⟨A3, c3, rfl, hr3, hc3, hd3, hb3⟩
  have HB3 := Lib.hid (HB2.out.trans (hb3.mono HB2.out.size))
  have HR23 := Lib.hid (HR2.out.below hb3)
  have HR3 := Lib.hid hr3.rd
  clear hr3 hb3 HB2 HR2 HT2
  clear w2
  go_wp2_with fail
  refine (HC.out m A2 c2 w3 HM.out.symm HR23.out).mono ?_
  rintro e w4 ⟨A4, c4, rfl, hr4, hc4, hd4, hb4⟩
  have HB4 := Lib.hid (HB3.out.trans (hb4.mono HB3.out.size))
  have HR34 := Lib.hid (HR3.out.below hb4)
  have HR4 := Lib.hid hr4.rd
  clear hr4 hb4 HB3 HR3 HR23
  clear w3
  go_wp2_with fail
  refine (units_any my my A3 A4 c3 c4 _ _ w4 rfl HMY.out.symm HMY.out.symm HR34.out HR4.out (by have := HYL.out; omega)).mono ?_
  rintro e w5 ⟨rfl, hb5⟩
  have HB5 := Lib.hid (HB4.out.trans (hb5.mono HB4.out.size))
  clear hb5 HB4 HR34 HR4
  clear w4
  go_wp2_with fail
  refine (HA2.out q A' cap' w5 HQL.out.symm (HRS.out.below HB5.out) (HT.out.below HB5.out).rows).mono ?_
  rintro e w6 ⟨A6, c6, rfl, hr6, hc6, hd6, hb6⟩
  have HB6 := Lib.hid (HB5.out.trans (hb6.mono HB5.out.size))
  have HR6 := Lib.hid hr6.rd
  clear hr6 hb6 HB5
  clear w5
  go_wp2_with fail
  refine (HC2.out q A' cap' w6 HQL.out.symm (HRS.out.below HB6.out)).mono ?_
  rintro e w7 ⟨A7, c7, rfl, hr7, hc7, hd7, hb7⟩
  have HB7 := Lib.hid (HB6.out.trans (hb7.mono HB6.out.size))
  have HR67 := Lib.hid (HR6.out.below hb7)
  have HR7 := Lib.hid hr7.rd
  clear hr7 hb7 HB6 HR6
  clear w6
  go_wp2_with fail
  refine (units_any mz mz A6 A7 c6 c7 _ _ w7 rfl HMZ.out.symm HMZ.out.symm HR67.out HR7.out (by have := HZL.out; omega)).mono ?_
  rintro e w8 ⟨rfl, hb8⟩
  have HB8 := Lib.hid (HB7.out.trans (hb8.mono HB7.out.size))
  clear hb8
  go_wp2
  go_ret
  exact ⟨rfl, HB8.out⟩
end Go.Proofs.YtjolbdfkkhphiaaDoor
