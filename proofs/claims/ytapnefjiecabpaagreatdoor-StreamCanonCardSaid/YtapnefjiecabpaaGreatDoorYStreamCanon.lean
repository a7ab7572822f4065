/- Layer 20: the law StreamCanon. -/
import Derived.Test.YtapnefjiecabpaaGreatDoorZ39
import Derived.Test.YtapnefjiecabpaaGreatDoorZ34
import Derived.Test.YtapnefjiecabpaaGreatDoorZ7
import Derived.Test.YtapnefjiecabpaaGreatDoorZ2
namespace Go.Proofs.YtapnefjiecabpaaGreatDoor
set_option linter.unusedVariables false
set_option linter.unusedSimpArgs false
set_option linter.unnecessarySimpa false
open Go.RowKit
def nm3C : Array Value := #[.string (nmB 2), .string (nmB 3), .string (nmB 4)]
theorem nm3_cell (w : World) (j : Nat) (h : j < 3) : (w.alloc (.cells nm3C 9)).cell? ⟨w.heap.size, j, none⟩ = some (.string (nmB (2 + j))) := by
  rw [(Held.new w nm3C 9).cell j]
  match j, h with
  | 0, _ => rfl
  | 1, _ => rfl
  | 2, _ => rfl
theorem fix_ok (s : Int) : scB (fixS s) = true := by
  unfold fixS
  split
  · assumption
  · decide
theorem bytes_flat (cc : List Int) : bytesF cc = (cc.map fixS).flatMap encL := by unfold bytesF; rw [List.flatMap_map]
/-- what the law asks, plainly -/
theorem canon_law {k : Nat} (h2 : 2 ≤ k) (h4 : k ≤ 4) (cc : List Int) (hl : cc.length ≤ 60) (zs : List Int) (hz : bytesF cc = zs) : zs.length ≤ 240 ∧ (∀ u ∈ zs, 0 ≤ u ∧ u ≤ 255) ∧ ∃ x f y, allS 0 k 0 zs = (x, f) ∧ allS k 0 0 x = (y, F0) ∧ x.length ≤ 480 ∧ y.length ≤ zs.length ∧ (∀ u ∈ x, 0 ≤ u ∧ u ≤ 255) ∧ ((f = F0 ∧ y = zs) ∨ (f.err ≠ 0 ∧ f.side = 2 ∧ zs.take y.length = y)) := by
  have hs : ∀ s ∈ cc.map fixS, scB s = true := fun s hs => by
    obtain ⟨q, _, rfl⟩ := List.mem_map.1 hs
    exact fix_ok q
  have hb : bytesB (cdR k) = true := by
    match k, h2, h4 with
    | 2, _, _ => exact viet_bytes.1
    | 3, _, _ => exact viet_bytes.2.1
    | 4, _, _ => exact viet_bytes.2.2
  obtain ⟨x, f, g1, g2, g3, g4⟩ := canon_plain (k := k) (by omega) (by omega) hb (cc.map fixS) hs
  rw [← bytes_flat, hz] at g1
  rw [List.length_map] at g3
  have hzl := bytesF_len cc
  rw [hz] at hzl
  have hzb := utBytes hs
  rw [← bytes_flat, hz] at hzb
  refine ⟨by omega, hzb, ?_⟩
  rcases g4 with ⟨g5, g6⟩ | ⟨g5, g6, j, g7, g8⟩
  · rw [← bytes_flat, hz] at g6
    exact ⟨x, f, zs, g1, g6, by omega, Nat.le_refl _, g2, .inl ⟨g5, rfl⟩⟩
  · have ht := flat_take (cc.map fixS) j
    rw [← bytes_flat, hz] at ht
    refine ⟨x, f, _, g1, g8, by omega, ?_, g2, .inr ⟨g5, g6, ht.symm⟩⟩
    rw [ht, List.length_take]
    omega
set_option maxRecDepth 100000 in
set_option maxHeartbeats 3200000 in
theorem streamCanon_any (I : StrApi) (A0 : Option Addr) (c0 : Nat) (l : List Int) (z : Int) (w : World) (hI : I.OK w) (hr : Rd w w.heap.size A0 (l.map (Value.int .u8))) (hb : ∀ u ∈ l, 0 ≤ u ∧ u ≤ 255) (hc : l.length ≤ c0) (hm : c0 ≤ maxLen) (hz0 : 0 ≤ z) (hz1 : z ≤ 255) :
    Calls Tryz.prog 10 #[.slice A0 l.length c0, .int .u8 z] w fun e w' => e = .returned (.bool true) ∧ Below w.heap.size w w' := by
  obtain ⟨j, hj, hj3⟩ : ∃ j : Nat, z % 3 = (j : Int) ∧ j < 3 := ⟨(z % 3).toNat, by omega, by omega⟩
  have j3 : (0 : Int) ≤ (j : Int) := by omega
  have j4 : (j : Int) < 3 := by omega
  obtain ⟨n, hn⟩ : ∃ n, n = l.length := ⟨_, rfl⟩
  rw [← hn] at hc ⊢
  have HI := Lib.hid hI
  have HR := Lib.hid hr
  have HN := Lib.hid hn
  have HY := Lib.hid hb
  clear hI hr hb hn hm
  go_enter Tryz.func10, Tryz.ntmps10
  go_wp2_with fail
  refine (awake20_any I w HI.out).mono ?_
  rintro e w1 ⟨rfl, hb1⟩
  have HB1 := Lib.hid hb1
  obtain ⟨nm, hnm⟩ : ∃ nm, nmB (2 + j) = nm := ⟨_, rfl⟩
  have hlit : ∀ h : j < [Value.string ⟨#[118, 105, 115, 99, 105, 105]⟩, Value.string ⟨#[116, 99, 118, 110, 51]⟩, Value.string ⟨#[118, 110, 105]⟩].length, [Value.string ⟨#[118, 105, 115, 99, 105, 105]⟩, Value.string ⟨#[116, 99, 118, 110, 51]⟩, Value.string ⟨#[118, 110, 105]⟩][j]'h = .string nm := by
    intro h
    rw [← hnm]
    match j, hj3 with
    | 0, _ => rfl
    | 1, _ => rfl
    | 2, _ => rfl
  have HNM := Lib.hid hnm
  obtain ⟨kk, hkk⟩ : ∃ kk, kk = 2 + j := ⟨_, rfl⟩
  have HK := Lib.hid (show 2 ≤ kk ∧ kk ≤ 4 by omega)
  have HKJ := Lib.hid hkk
  clear hnm hkk
  have HA := Lib.hid (below_allocS w1 (.cells nm3C 9))
  have HB2 := Lib.hid (hb1.trans ((below_allocS w1 (.cells nm3C 9)).mono hb1.size))
  have C2 := Lib.hid (some10_any n A0 c0 l (w1.alloc (.cells nm3C 9)) HN.out (HR.out.below HB2.out HB2.out.size) hc HY.out)
  clear hb1
  go_wp2_with fail
  refine C2.out.mono ?_
  rintro e w3 ⟨v3, rfl, ho3, hb3⟩
  obtain ⟨A3, c3, rfl, -, -⟩ := ho3.form
  have HB3 := Lib.hid (HB2.out.trans (hb3.mono HB2.out.size))
  have hxl := someF_len l
  obtain ⟨X, hX⟩ : ∃ X, someF l = X := ⟨_, rfl⟩
  rw [hX] at ho3 hxl ⊢
  have C4 := Lib.hid (all10_any X.length A3 c3 X w3 rfl ho3.rd (by omega) (I.rows (I.keep HI.out HB3.out)))
  obtain ⟨mx, hmx⟩ : ∃ mx, X.length = mx := ⟨_, rfl⟩
  rw [hmx] at C4 ⊢
  have hyl : (cGo 0 X).length ≤ 60 := by have := cGo_len 0 X; rw [kn_zero, List.length_nil] at this; omega
  clear ho3 hb3 hX hmx hxl C2
  go_wp2_with fail
  refine C4.out.mono ?_
  rintro e w4 ⟨v4, rfl, ho4, hb4⟩
  obtain ⟨A4, c4, rfl, hc41, -⟩ := ho4.form
  have HB4 := Lib.hid (HB3.out.trans (hb4.mono HB3.out.size))
  obtain ⟨Y, hY⟩ : ∃ Y, cGo 0 X = Y := ⟨_, rfl⟩
  rw [hY] at ho4 hyl hc41 ⊢
  have C5 := Lib.hid (bytes_any Y.length A4 c4 Y w4 rfl ho4.rd (by omega) hc41)
  obtain ⟨zs, hzs⟩ : ∃ zs, bytesF Y = zs := ⟨_, rfl⟩
  obtain ⟨hzl, hzb, x, f, y, hx1, hy1, hxl, hyz, hxb, hcase⟩ := canon_law HK.out.1 HK.out.2 Y hyl zs hzs
  rw [hzs] at C5
  obtain ⟨my, hmy⟩ : ∃ my, Y.length = my := ⟨_, rfl⟩
  rw [hmy] at C5 ⊢
  have HX1 := Lib.hid hx1
  have HY1 := Lib.hid hy1
  have HZB := Lib.hid hzb
  have HXB := Lib.hid hxb
  have HXL := Lib.hid hxl
  have HZL := Lib.hid hzl
  have HYZ := Lib.hid hyz
  have HCASE := Lib.hid hcase
  clear ho4 hb4 hY hyl hc41 hzs hmy hx1 hy1 hzb hxb hxl hzl hyz hcase C4
  go_wp2_with fail
  refine C5.out.mono ?_
  rintro e w5 ⟨v5, rfl, ho5, hb5⟩
  obtain ⟨A5, c5, rfl, hc51, hc52⟩ := own_form ho5
  have HB5 := Lib.hid (HB4.out.trans (hb5.mono HB4.out.size))
  have hr5 : Rd w5 w5.heap.size A5 (zs.map (Value.int .u8)) := Rd.own ho5
  have HR5 := Lib.hid hr5
  have C6 := Lib.hid (I.all w5 0 kk 0 zs.length A5 c5 zs w5.heap.size x f (by decide) (by have := HK.out.2; omega) (by decide) (by decide) (I.keep HI.out HB5.out) rfl hr5 (Nat.le_refl _) hc51 hc52 (by have := HZL.out; omega) HZB.out HX1.out)
  obtain ⟨mz, hmz⟩ : ∃ mz, zs.length = mz := ⟨_, rfl⟩
  have HMZ := Lib.hid hmz
  have HMC5 := Lib.hid (show mz ≤ c5 by rw [← hmz]; exact hc51)
  rw [hmz] at C6 ⊢
  have hnk : nmB kk = nm := by rw [← HNM.out, HKJ.out]
  rw [hnk] at C6
  have HNK := Lib.hid hnk
  clear ho5 hb5 hr5 hc51 hc52 hmz hnk C5
  go_wp2_with fail
  refine C6.out.mono ?_
  rintro e w6 ⟨A6, c6, rfl, hr6, hl6, hm6, hb6⟩
  obtain ⟨fs, fa, fe⟩ := f
  simp only [fltV]
  have HB6 := Lib.hid (HB5.out.trans (hb6.mono HB5.out.size))
  have HB56 := Lib.hid hb6
  obtain ⟨W7, hW7⟩ : ∃ W, w6.alloc (.cells #[.int .i64 fs, .int .i64 fa, .int .i64 fe] 61) = W := ⟨_, rfl⟩
  have hf7 : Held W7 w6.heap.size #[.int .i64 fs, .int .i64 fa, .int .i64 fe] 61 := by rw [← hW7]; exact Held.new w6 _ _
  have hb67 : Below w6.heap.size w6 W7 := by rw [← hW7]; exact below_allocS _ _
  have hs7 : W7.heap.size = w6.heap.size + 1 := by rw [← hW7]; simp
  have HB67 := Lib.hid hb67
  have HB7 := Lib.hid (HB6.out.trans (hb67.mono HB6.out.size))
  have HF7 := Lib.hid hf7
  have HS7 := Lib.hid hs7
  have HW7 := Lib.hid hW7
  have C8 := Lib.hid (I.all W7 kk 0 0 x.length A6 c6 x w6.heap.size y F0 (by have := HK.out.2; omega) (by decide) (by decide) (by decide) (I.keep HI.out HB7.out) rfl (hr6.below hb67 (Nat.le_refl _)) hb67.size hl6 hm6 (by have := HXL.out; omega) HXB.out HY1.out)
  rw [HNK.out] at C8
  obtain ⟨lx, hlx⟩ : ∃ lx, x.length = lx := ⟨_, rfl⟩
  rw [hlx] at C8 ⊢
  clear hr6 hl6 hm6 hb6 hW7 hf7 hb67 hs7 hlx C6
  go_wp2_with fail
  rw [HW7.out]
  refine C8.out.mono ?_
  rintro e w8 ⟨A8, c8, rfl, hr8, hl8, hm8, hb8⟩
  simp only [fltV, F0]
  have HB78 := Lib.hid hb8
  obtain ⟨W9, hW9⟩ : ∃ W, w8.alloc (.cells #[.int .i64 0, .int .i64 0, .int .i64 0] 61) = W := ⟨_, rfl⟩
  have hf9 : Held W9 w8.heap.size #[.int .i64 0, .int .i64 0, .int .i64 0] 61 := by rw [← hW9]; exact Held.new w8 _ _
  have hb89 : Below w8.heap.size w8 W9 := by rw [← hW9]; exact below_allocS _ _
  have hb79 : Below W7.heap.size W7 W9 := hb8.trans (hb89.mono hb8.size)
  have hb59 : Below w5.heap.size w5 W9 := HB56.out.trans ((HB67.out.trans (hb79.mono HB67.out.size)).mono HB56.out.size)
  have HB9 := Lib.hid (HB7.out.trans (hb79.mono HB7.out.size))
  have hg7 : Held W9 w6.heap.size _ _ := HF7.out.below hb79 (by rw [HS7.out]; omega)
  have z0 := hg7.cell 0
  have z2 := hg7.cell 2
  have y2 := hf9.cell 2
  have hr9 := hr8.below hb89 hb89.size
  have hr59 := HR5.out.below hb59 hb59.size
  have hly := HYZ.out
  rw [HMZ.out] at hly
  have HCY : ∀ k, (convert 22 9 (.slice A8 y.length c8)).run Tryz.prog (W9.drewN k) = .ok (.string (strOfNums y)) (W9.drewN k) := fun k => run_str (P := Tryz.prog) (W9.drewN k) 22 9 5 Tryz.underlying22 Tryz.underlying5 Tryz.underlying9 _ A8 y y.length c8 rfl (hr9 : Rd (W9.drewN k) _ A8 _)
  have HCY0 : (convert 22 9 (.slice A8 y.length c8)).run Tryz.prog W9 = .ok (.string (strOfNums y)) W9 := HCY 0
  have HCZ : ∀ (k : Nat) (us : List Int) (m : Nat), us = zs.take m → m ≤ mz → (convert 22 9 (.slice A5 m c5)).run Tryz.prog (W9.drewN k) = .ok (.string (strOfNums us)) (W9.drewN k) := fun k us m hu hm => by
    subst hu
    have h1 := Rd.take m hr59
    rw [← List.map_take] at h1
    exact run_str (P := Tryz.prog) (W9.drewN k) 22 9 5 Tryz.underlying22 Tryz.underlying5 Tryz.underlying9 _ A5 (zs.take m) m c5 (by rw [List.length_take, HMZ.out]; omega) (h1 : Rd (W9.drewN k) _ A5 _)
  have HCZ0 : ∀ (us : List Int) (m : Nat), us = zs.take m → m ≤ mz → (convert 22 9 (.slice A5 m c5)).run Tryz.prog W9 = .ok (.string (strOfNums us)) W9 := fun us m h1 h2 => HCZ 0 us m h1 h2
  have HMC := Lib.hid hly
  subst hW9
  rcases HCASE.out with ⟨hf, hyz⟩ | ⟨hfe, hfs, hty⟩
  · injection hf with hf1 hf2 hf3
    subst hf1 hf2 hf3
    have hcz := HCZ0 zs mz (by rw [← HMZ.out, List.take_length]) (Nat.le_refl _)
    have hcy := HCY0
    have hlen : y.length = mz := by rw [hyz, HMZ.out]
    rw [hyz, HMZ.out] at hcy ⊢
    obtain ⟨st, hst⟩ : ∃ st, strOfNums zs = st := ⟨_, rfl⟩
    rw [hst] at hcy hcz
    have heq : (st.toList == st.toList) = true := by simp
    clear HCY HCY0 HCZ HCZ0 hyz hlen hst hly hr9 hr59 hb59 hb79 hb89 hf9 hg7 hr8 hl8 hm8 hb8 C8
    go_wp2_with fail
    go_ret
    exact ⟨rfl, HB9.out⟩
  · have hne : (fe != 0) = true := by simpa using hfe
    have hne2 : (fe == 0) = false := by simpa using hfe
    have hfs2 : (fs == 2) = true := by simpa using hfs
    obtain ⟨ly, hlyn⟩ : ∃ ly, y.length = ly := ⟨_, rfl⟩
    rw [hlyn] at hly hty HCY HCY0 ⊢
    have HCZL := fun k => HCZ k y ly hty.symm hly
    have hlc : ly ≤ c5 := by have := HMC5.out; omega
    obtain ⟨st, hst⟩ : ∃ st, strOfNums y = st := ⟨_, rfl⟩
    rw [hst] at HCY HCZL
    have heq : (st.toList == st.toList) = true := by simp
    have l0 : (0 : Int) ≤ (ly : Int) := by omega
    have l1 : (ly : Int) ≤ (c5 : Int) := by omega
    clear HCY0 HCZ HCZ0 hlyn hst hr9 hr59 hb59 hb79 hb89 hf9 hg7 hr8 hl8 hm8 hb8 C8 hfe hty hfs
    go_wp2_with fail
    go_quiet (fail)
    go_wp2_with fail
    go_ret
    exact ⟨rfl, HB9.out.trans (below_drewS _ _ _)⟩
end Go.Proofs.YtapnefjiecabpaaGreatDoor
