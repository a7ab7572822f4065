/- VcanonBack: what is apart, put together, is what it was: the whole walk of the law. -/
import Derived.Test.YtjolbdfkkhphiaaDoorVcH
namespace Go.Proofs.YtjolbdfkkhphiaaDoor
set_option linter.unusedVariables false
set_option linter.unusedSimpArgs false
set_option linter.unnecessarySimpa false
open Go.RowKit Go.Shelf

set_option maxHeartbeats 3200000 in
theorem vcanonBack_any (n : Nat) (A : Option Addr) (cap : Nat) (l : List Int) (w : World) (hn : n = l.length) (hr : Rd w w.heap.size A (l.map (Value.int .u8))) (hc : n ≤ cap) (hw : ∀ z ∈ l, 0 ≤ z ∧ z ≤ 255) (hT : TabV w) :
    Calls Tryd.prog 7 #[.slice A n cap] w fun e w' => e = .returned (.bool true) ∧ Below w.heap.size w w' := by
  obtain ⟨X, hX⟩ : ∃ X, someF l = X := ⟨_, rfl⟩
  have hxl : X.length ≤ 60 := by rw [← hX]; exact someF_len l
  obtain ⟨m, hm⟩ : ∃ m, X.length = m := ⟨_, rfl⟩
  obtain ⟨Y, hY⟩ : ∃ Y, cGo 0 X = Y := ⟨_, rfl⟩
  obtain ⟨Z, hZ⟩ : ∃ Z, apF X = Z := ⟨_, rfl⟩
  have hY2 : cGo 0 Z = Y := by rw [← hZ, cGo_apF, hY]
  have hyl : Y.length ≤ 60 := by have := cGo_len 0 X; rw [hY, kn_zero, List.length_nil] at this; omega
  have hzl := apF_len X
  rw [hZ] at hzl
  obtain ⟨my, hmy⟩ : ∃ m, Y.length = m := ⟨_, rfl⟩
  obtain ⟨mz, hmz⟩ : ∃ m, Z.length = m := ⟨_, rfl⟩
  have hmm : m ≤ mz := by omega
  have HS0 := Lib.hid (fun W hr => some_at n A cap l W hn hr hc hw X hX m hm)
  have HR := Lib.hid hr
  have HT := Lib.hid hT
  have HM := Lib.hid hm
  have HMY := Lib.hid hmy
  have HMZ := Lib.hid hmz
  have HYL := Lib.hid hyl
  have HA := Lib.hid (fun n A cap (W : World) hn hr hR => all_at n A cap X W hn hr (by omega) hR Y hY my hmy)
  have HA2 := Lib.hid (fun n A cap (W : World) hn hr hR => all_at n A cap Z W hn hr (by omega) hR Y hY2 my hmy)
  have HP := Lib.hid (fun n A cap (W : World) hn hr hT => apart_at n A cap X W hn hr (by omega) hT Z hZ mz hmz)
  clear hr hT hn hw hX hm hY hZ hmy hmz hyl hzl hxl hY2
  go_enter Tryd.func7, Tryd.ntmps7
  go_wp2_with fail
  refine (awake10_any w HT.out).mono ?_
  rintro e w1 ⟨rfl, hb1⟩
  have HB1 := Lib.hid hb1
  clear hb1
  go_wp2_with fail
  refine (HS0.out w1 (HR.out.below HB1.out HB1.out.size)).mono ?_
  rintro e w2 ⟨A2, c2, rfl, hr2, hc2, hd2, hb2⟩
  have HB2 := Lib.hid (HB1.out.trans (hb2.mono HB1.out.size))
  have HR2 := Lib.hid hr2.rd
  clear hr2 hb2 HB1
  clear w1
  go_wp2_with fail
  refine (HP.out m A2 c2 w2 HM.out.symm HR2.out (HT.out.below HB2.out)).mono ?_
  rintro e w3 ⟨A3, c3, rfl, hr3, hc3, hd3, hb3⟩
  have HB3 := Lib.hid (HB2.out.trans (hb3.mono HB2.out.size))
  have HR23 := Lib.hid (HR2.out.below hb3)
  have HR3 := Lib.hid hr3.rd
  clear hr3 hb3 HB2 HR2
  clear w2
  go_wp2_with fail
  refine (HA2.out mz A3 c3 w3 HMZ.out.symm HR3.out (HT.out.below HB3.out).rows).mono ?_
  rintro e w4 ⟨A4, c4, rfl, hr4, hc4, hd4, hb4⟩
  have HB4 := Lib.hid (HB3.out.trans (hb4.mono HB3.out.size))
  have HR24 := Lib.hid (HR23.out.below hb4)
  have HR4 := Lib.hid hr4.rd
  clear hr4 hb4 HB3 HR3 HR23
  clear w3
  go_wp2_with fail
  refine (HA.out m A2 c2 w4 HM.out.symm HR24.out (HT.out.below HB4.out).rows).mono ?_
  rintro e w5 ⟨A5, c5, rfl, hr5, hc5, hd5, hb5⟩
  have HB5 := Lib.hid (HB4.out.trans (hb5.mono HB4.out.size))
  have HR25 := Lib.hid (HR24.out.below hb5)
  have HR45 := Lib.hid (HR4.out.below hb5)
  have HR5 := Lib.hid hr5.rd
  clear hr5 hb5 HB4 HR24 HR4
  clear w4
  go_wp2_with fail
  refine (units_any my my A4 A5 c4 c5 _ _ w5 rfl HMY.out.symm HMY.out.symm HR45.out HR5.out (by have := HYL.out; omega)).mono ?_
  rintro e w6 ⟨rfl, hb6⟩
  have HB6 := Lib.hid (HB5.out.trans (hb6.mono HB5.out.size))
  have HR26 := Lib.hid (HR25.out.below hb6)
  clear hb6 HB5 HR45 HR5 HR25
  clear w5
  go_wp2_with fail
  refine (HP.out m A2 c2 w6 HM.out.symm HR26.out (HT.out.below HB6.out)).mono ?_
  rintro e w7 ⟨A7, c7, rfl, hr7, hc7, hd7, hb7⟩
  have HB7 := Lib.hid (HB6.out.trans (hb7.mono HB6.out.size))
  clear hr7 hb7
  have hmi : (m : Int) ≤ (mz : Int) := by omega
  go_wp2
  go_ret
  exact ⟨rfl, HB7.out⟩
end Go.Proofs.YtjolbdfkkhphiaaDoor
