/- RewriteSum: the walk. -/
import Derived.Test.YtfbncepkmhfbmaaRewC
import Derived.Test.YtfbncepkmhfbmaaRewE
import Derived.Test.YtfbncepkmhfbmaaTokSet
import Derived.Test.YtfbncepkmhfbmaaTrieQ
namespace Go.Proofs.Ytfbncepkmhfbmaa
set_option linter.unusedVariables false
open Go.RowKit
theorem outs_take_le {ts : List Tk} (K : Nat) : (outsT (ts.take K)).length ≤ (outsT ts).length := by
  have h := outsT_app (ts.take K) (ts.drop K)
  rw [List.take_append_drop] at h
  rw [h]; simp
theorem Us.rdN {X : Nat → Prop} {w : World} {A : Option Addr} {n c : Nat} {us : List Int} (h : Us X w (.slice A n c) us) : Rd w w.heap.size A (us.map (Value.int .i64)) := h.rd.2.2.2.rd (Nat.le_refl _)
set_option maxHeartbeats 6400000 in
theorem rewriteSum_any (p : Int) (hp : 0 ≤ p ∧ p ≤ 255) (n : Nat) (A : Option Addr) (c : Nat) (tsA : List Tk) (w : World) (hr : TkAt w w.heap.size A n c tsA) (hl : (outsT tsA).length ≤ 1048576) :
    Calls Try.prog 8 #[.slice A n c, .int .u8 p] w fun e w' => e = .returned (.bool true) ∧ Below w.heap.size w w' := by
  obtain ⟨i0, hi, hz0, HZ1, hz2⟩ := info_parts infoint
  obtain ⟨q, hq, hqn, hq6⟩ : ∃ q : Nat, ((if 60 < n then 60 else n) = q) ∧ q ≤ n ∧ q ≤ 60 := ⟨_, rfl, by split <;> omega, by split <;> omega⟩
  have hmin : min (n : Int) 60 = (q : Int) := by rw [← hq]; split <;> omega
  obtain ⟨ts, hts⟩ : ∃ ts, ts = tsA.take q := ⟨_, rfl⟩
  have hcut := hr.cut q hqn
  rw [← hts] at hcut
  have hl' : (outsT ts).length ≤ 1048576 := by have := outs_take_le (ts := tsA) q; rw [← hts] at this; omega
  have hc1 := hr.fits
  have hc2 := hr.small
  unfold maxLen at hc2
  have hqc : q ≤ c := by omega
  have hq0 : (0 : Int) ≤ (q : Int) := by omega
  obtain ⟨K, hK⟩ : ∃ K : Nat, p % ((q : Int) + 1) = K := ⟨(p % ((q : Int) + 1)).toNat, by have := Int.emod_nonneg p (show (q : Int) + 1 ≠ 0 by omega); omega⟩
  have hKq : K ≤ q := by have := Int.emod_lt_of_pos p (show (0 : Int) < (q : Int) + 1 by omega); omega
  have k0 : (0 : Int) ≤ K := by omega
  have k1 : (K : Int) ≤ q := by omega
  have hwr : wrap64 ((q : Int) + 1) = q + 1 := by unfold wrap64; omega
  have ht1 := hcut.cut K hKq
  have ht2 := hcut.drop K hKq
  have hsp : outsT ts = outsT (ts.take K) ++ outsT (ts.drop K) := by rw [← outsT_app, List.take_append_drop]
  have hwp : wrongT ts = if (wrongT (ts.take K)).err = 0 then wrongT (ts.drop K) else wrongT (ts.take K) := by rw [← wrongT_app, List.take_append_drop]
  have hlen := congrArg List.length hsp
  rw [List.length_append] at hlen
  obtain ⟨us1, hus1⟩ : ∃ x, outsT (ts.take K) = x := ⟨_, rfl⟩
  obtain ⟨us2, hus2⟩ : ∃ x, outsT (ts.drop K) = x := ⟨_, rfl⟩
  obtain ⟨X, hX⟩ : ∃ x, wrongT (ts.take K) = x := ⟨_, rfl⟩
  obtain ⟨Y, hY⟩ : ∃ x, wrongT (ts.drop K) = x := ⟨_, rfl⟩
  obtain ⟨Z, hZ⟩ : ∃ x, wrongT ts = x := ⟨_, rfl⟩
  rw [hX, hY, hZ] at hwp
  rw [hus1, hus2] at hsp hlen
  obtain ⟨m1, hm1⟩ : ∃ m, us1.length = m := ⟨_, rfl⟩
  obtain ⟨m2, hm2⟩ : ∃ m, us2.length = m := ⟨_, rfl⟩
  obtain ⟨xl, hxl⟩ : ∃ m, X.out.length = m := ⟨_, rfl⟩
  obtain ⟨yl, hyl⟩ : ∃ m, Y.out.length = m := ⟨_, rfl⟩
  obtain ⟨zl, hzl⟩ : ∃ m, Z.out.length = m := ⟨_, rfl⟩
  rw [hm1, hm2] at hlen
  have hm12 : m1 + m2 ≤ 1048576 := by omega
  have hm3 : (us1 ++ us2).length = m1 + m2 := by rw [List.length_append, hm1, hm2]
  have H := Lib.hid hcut
  have HT1 := Lib.hid ht1
  have HL := Lib.hid hl'
  have HL1 := Lib.hid (show (outsT (ts.take K)).length ≤ 17592186044415 by rw [hus1, hm1]; omega)
  have HL2 := Lib.hid (show (outsT (ts.drop K)).length ≤ 17592186044415 by rw [hus2, hm2]; omega)
  have HL3 := Lib.hid (show (outsT ts).length ≤ 17592186044415 by omega)
  have HU1 := Lib.hid hus1
  have HU2 := Lib.hid hus2
  have HU3 := Lib.hid hsp
  have HX := Lib.hid hX
  have HY := Lib.hid hY
  have HZ := Lib.hid hZ
  have HM1 := Lib.hid hm1
  have HM2 := Lib.hid hm2
  have HM3 := Lib.hid hm3
  have HXL := Lib.hid hxl
  have HYL := Lib.hid hyl
  have HZL := Lib.hid hzl
  have HWP := Lib.hid hwp
  have HEQ := Lib.hid (show eqB (us1 ++ us2) (us1 ++ us2) = true by simp [eqB])
  clear hr hl hcut ht1 hl' hus1 hus2 hsp hX hY hZ hm1 hm2 hm3 hxl hyl hzl hwp hts hq hlen
  by_cases hcK : c = K
  · have hqK : q = K := by omega
    subst hcK hqK
    rw [if_pos rfl, Nat.sub_self] at ht2
    have HT2 := Lib.hid ht2
    clear ht2
    go_enter Try.func8, Try.ntmps8
    go_wp2_with fail
    refine (rawake5_any _).mono ?_
    rintro e w1 ⟨rfl, hb1⟩
    have hs1 := hb1.size
    go_wp2_with fail
    refine (unitsT_any q A q (ts.take q) w.heap.size w1 (HT1.out.below hb1 (Nat.le_refl _)) hs1 HL1.out us1 X m1 xl HU1.out HX.out HM1.out HXL.out).mono ?_
    rintro e w2 ⟨A1, c1, A2, c2, rfl, hu1, hu2, hb2⟩
    have hb02 := hb1.trans (hb2.mono hs1)
    have hs2 := hb02.size
    have hbA2 : ∀ o, Below w2.heap.size w2 (w2.alloc o) := fun o => (Below.refl _ _).alloc (Nat.le_refl _) _
    have HBA2 := Lib.hid hbA2
    have HUA := Lib.hid hu1
    clear hu1 hu2 hbA2 hb2
    go_wp2_with fail
    refine (unitsT_any 0 A 0 (ts.drop q) w.heap.size _ (HT2.out.below (hb02.trans ((HBA2.out _).mono hs2)) (Nat.le_refl _)) (by simp; omega) HL2.out us2 Y m2 yl HU2.out HY.out HM2.out HYL.out).mono ?_
    rintro e w3 ⟨A3, c3, A4, c4, rfl, hu3, hu4, hb3⟩
    have hb23 := (HBA2.out _).trans (hb3.mono (by simp))
    have hb03 := hb02.trans (hb23.mono hs2)
    have hs3 := hb03.size
    have hs23 : w2.heap.size + 1 ≤ w3.heap.size := by have := hb3.size; simpa using this
    have hx7 : w3.heap[w2.heap.size]? = some (.cells #[.int .i64 X.pos, .int .i64 X.size, .slice A2 xl c2, .int .i64 X.err] 39 (0, 0)) := (hb3.block _ (by simp)).trans (heap_alloc_new w2 _)
    have HX7 := Lib.hid hx7
    have hbA3 : ∀ o, Below w3.heap.size w3 (w3.alloc o) := fun o => (Below.refl _ _).alloc (Nat.le_refl _) _
    have HBA3 := Lib.hid hbA3
    have HUB := Lib.hid hu3
    have HB23 := Lib.hid hb23
    clear hu3 hu4 hbA3 hb3 hx7 hb23
    go_wp2_with fail
    refine (unitsT_any q A q ts w.heap.size _ (H.out.below (hb03.trans ((HBA3.out _).mono hs3)) (Nat.le_refl _)) (by simp; omega) HL3.out (us1 ++ us2) Z (m1 + m2) zl HU3.out HZ.out HM3.out HZL.out).mono ?_
    rintro e w4 ⟨A5, c5, A6, c6, rfl, hu5, hu6, hb4⟩
    have hb34 := (HBA3.out _).trans (hb4.mono (by simp))
    have hb04 := hb03.trans (hb34.mono hs3)
    have hs34 : w3.heap.size + 1 ≤ w4.heap.size := by have := hb4.size; simpa using this
    have hx9 : w4.heap[w3.heap.size]? = some (.cells #[.int .i64 Y.pos, .int .i64 Y.size, .slice A4 yl c4, .int .i64 Y.err] 39 (0, 0)) := (hb4.block _ (by simp)).trans (heap_alloc_new w3 _)
    obtain ⟨W4, hW4⟩ : ∃ W4, W4 = w4.alloc (.cells #[.int .i64 Z.pos, .int .i64 Z.size, .slice A6 zl c6, .int .i64 Z.err] 39) := ⟨_, rfl⟩
    have hb44 : Below w4.heap.size w4 W4 := by rw [hW4]; exact (Below.refl _ _).alloc (Nat.le_refl _) _
    have hW4s : W4.heap.size = w4.heap.size + 1 := by rw [hW4]; simp
    have z11 : W4.heap[w4.heap.size]? = some (.cells #[.int .i64 Z.pos, .int .i64 Z.size, .slice A6 zl c6, .int .i64 Z.err] 39 (0, 0)) := by rw [hW4]; exact heap_alloc_new w4 _
    have z9 : W4.heap[w3.heap.size]? = some (.cells #[.int .i64 Y.pos, .int .i64 Y.size, .slice A4 yl c4, .int .i64 Y.err] 39 (0, 0)) := (hb44.block _ (by omega)).trans hx9
    have z7 : W4.heap[w2.heap.size]? = some (.cells #[.int .i64 X.pos, .int .i64 X.size, .slice A2 xl c2, .int .i64 X.err] 39 (0, 0)) := (hb44.block _ (by omega)).trans ((hb34.block _ (by omega)).trans HX7.out)
    have UA : Hid (Us (fun b => b ≠ w3.heap.size) W4 (.slice A1 m1 c1) us1) := by
      refine HUA.out.step (by have := HB23.out.size; omega) fun b hb hx => ⟨by have := HB23.out.size; omega, (hb44.block b (by have := HB23.out.size; omega)).trans ((hb34.block b (by have := HB23.out.size; omega)).trans (HB23.out.block b hb))⟩
    have UB : Hid (Us (fun b => b ≠ w3.heap.size) W4 (.slice A3 m2 c3) us2) := by
      refine HUB.out.step (by omega) fun b hb hx => ⟨by omega, (hb44.block b (by omega)).trans (hb34.block b hb)⟩
    have UC : Hid (Us (fun b => b ≠ w3.heap.size) W4 (.slice A5 (m1 + m2) c5) (us1 ++ us2)) := by
      refine hu5.step (by omega) fun b hb hx => ⟨by have : (w3.alloc _).heap.size ≤ b := hx; simp at this; omega, hb44.block b hb⟩
    have hbF : Below w.heap.size w W4 := hb04.trans (hb44.mono (by omega))
    have Z9 := Lib.hid z9
    have Z7 := Lib.hid z7
    have Z11 := Lib.hid z11
    have HW4 := Lib.hid hW4
    have HBF := Lib.hid hbF
    obtain ⟨x0, x1, x2, x3, xf⟩ := tok_cells z7
    obtain ⟨y0, y1, y2, y3, yf⟩ := tok_cells z9
    have z9a := z9
    rw [hW4] at z9a
    have HZ9A := Lib.hid z9a
    rw [hW4] at x0 x1 x2 x3 xf y0 y1 y2 y3 yf
    clear z9a hu5 hu6 hx9 z11 z9 z7 hW4 hbF hb4 hb44
    by_cases hX0 : X.err = 0
    · have hYZ : Hid (Z = Y) := by rw [HWP.out, if_pos hX0]; rfl
      have hd : (X.err != 0) = false := by simpa using hX0
      go_wp2_with (first | (at_builtin; refine wpList_appB _ rfl _ _ 24 rfl (w4.heap.size + 1) 3 i0 _ 1 8 Try.underlying24 hi hz0 HZ1 hz2 rfl (by decide) _ _ _ rfl (World.ownsRow_nil _ _ _ _) (w4.heap.size + 1) A1 m1 c1 (us1.map (Value.int .i64)) rfl ?c0 ?c1 ?c2 ?c3 ?c4 ?c5 ?_))
      case c0 => simp; exact HM1.out
      case c1 => rw [← HW4.out]; exact hW4s ▸ UA.out.rdN
      case c2 => exact ints_one _ _
      case c3 => simp only [maxLen]; omega
      case c4 => omega
      case c5 => rw [← HW4.out]; omega
      rw [← HW4.out]
      clear x0 x1 x2 x3 xf y0 y1 y2 y3 yf
      obtain ⟨W, hW⟩ : ∃ W, W = W4 := ⟨_, rfl⟩
      rw [← hW]
      have hbW : Below w.heap.size w W := by rw [hW]; exact HBF.out
      have hWs : W.heap.size = w4.heap.size + 1 := by rw [hW]; exact hW4s
      have hoth : ∀ b, b ≠ w3.heap.size → W.heap[b]? = W4.heap[b]? := fun b hb => by rw [hW]
      have hy : W.heap[w3.heap.size]? = some (.cells #[.int .i64 Y.pos, .int .i64 Y.size, .slice A4 yl c4, .int .i64 Y.err] 39 (0, 0)) := by rw [hW]; exact Z9.out
      have hz : W.heap[w4.heap.size]? = _ := (hoth _ (by omega)).trans Z11.out
      have UA' : Hid (Us (fun _ => True) W (.slice A1 m1 c1) us1) := UA.out.step (by omega) fun b _ hx => ⟨trivial, hoth b hx⟩
      have UB' : Hid (Us (fun _ => True) W (.slice A3 m2 c3) us2) := UB.out.step (by omega) fun b _ hx => ⟨trivial, hoth b hx⟩
      have UC' : Hid (Us (fun _ => True) W (.slice A5 (m1 + m2) c5) (us1 ++ us2)) := UC.out.step (by omega) fun b _ hx => ⟨trivial, hoth b hx⟩
      intro v1 w6 hown6 hg6 hv6
      have hb6 : Below W.heap.size W w6 := (Below.refl _ _).grown hg6 (Nat.le_refl _) (by intro k hk; simp [Value.ownBlock] at hk)
      have hs6 := hb6.size
      go_wp2_with (at_builtin; refine wpList_appB _ rfl _ _ 24 rfl (w4.heap.size + 1) 3 i0 _ 1 8 Try.underlying24 hi hz0 HZ1 hz2 rfl (by decide) _ _ _ rfl hown6 W.heap.size A3 m2 c3 (us2.map (Value.int .i64)) rfl ?c0 ?c1 ?c2 ?c3 ?c4 ?c5 ?_)
      case c0 => simp; exact HM2.out
      case c1 => exact UB'.out.rdN.below hb6 (Nat.le_refl _)
      case c2 => exact ints_one _ _
      case c3 => simp only [maxLen]; omega
      case c4 => omega
      case c5 => omega
      intro v2 w7 hown7 hg7 hv7
      have hb7 : Below W.heap.size W w7 := hb6.grown hg7 hs6 (fun k hk => by
        rcases hv6 with e | e
        · rw [e] at hk; simp [Value.ownBlock] at hk
        · rw [e] at hk; injection hk with hk; omega)
      have hs7 := hb7.size
      obtain ⟨A8, c8, rfl, h81, h82⟩ := own_form hown7
      rw [← List.map_append] at hown7
      have hro := Rd.own hown7
      have HRO := Lib.hid hro
      have hy7 := (hb7.block _ (by omega)).trans hy
      have hz7 := (hb7.block _ (by omega)).trans hz
      rw [hYZ.out] at hz7
      have HY7 := Lib.hid hy7
      have HZ7 := Lib.hid hz7
      have hb07 := hbW.trans (hb7.mono (by omega))
      have HB7 := Lib.hid hb7
      clear hown6 hown7 hg6 hg7 hv6 hv7 hro hy7 hz7 hy hz hoth hb7 hW
      go_wp2_with fail
      refine (units_v (m1 + m2) (m1 + m2) A8 A5 _ _ (us1 ++ us2) (us1 ++ us2) w7.heap.size W.heap.size w7 true HEQ.out HM3.out.symm HM3.out.symm HRO.out (UC'.out.rdN.below HB7.out (Nat.le_refl _)) (by omega)).mono ?_
      rintro e w8 ⟨rfl, k8, hk8⟩
      have hbE : Below w.heap.size w w8 := by rw [hk8]; exact hb07.trans (below_drewN k8)
      obtain ⟨x0, x1, x2, x3, xf⟩ := tok_cells (show w8.heap[w3.heap.size]? = _ by rw [hk8]; exact HY7.out)
      obtain ⟨y0, y1, y2, y3, yf⟩ := tok_cells (show w8.heap[w4.heap.size]? = _ by rw [hk8]; exact HZ7.out)
      clear hk8
      go_wp2
      go_ret
      exact ⟨by simp, hbE⟩
    · have hYZ : Hid (Z = X) := by rw [HWP.out, if_neg hX0]; rfl
      have hd : (X.err != 0) = true := by simpa using hX0
      go_wp2_with (first | (at_builtin; refine wpList_appB _ rfl _ _ 24 rfl (w4.heap.size + 1) 3 i0 _ 1 8 Try.underlying24 hi hz0 HZ1 hz2 rfl (by decide) _ _ _ rfl (World.ownsRow_nil _ _ _ _) (w4.heap.size + 1) A1 m1 c1 (us1.map (Value.int .i64)) rfl ?c0 ?c1 ?c2 ?c3 ?c4 ?c5 ?_) | (refine wpList_store_row rfl _ _ _ rfl w3.heap.size #[.int .i64 X.pos, .int .i64 X.size, .slice A2 xl c2, .int .i64 X.err] rfl rfl _ _ HZ9A.out infotok4 rfl (by simp [Value.oneCell']) ?_))
      case c0 => simp; exact HM1.out
      case c1 => rw [← HW4.out]; have h := (UA.out.step (w' := W4.setRow w3.heap.size #[.int .i64 X.pos, .int .i64 X.size, .slice A2 xl c2, .int .i64 X.err]) (Y := fun _ => True) (by rw [setRow_size]; exact Nat.le_refl _) fun b _ hx => ⟨trivial, setRow_other _ _ _ _ hx⟩).rdN; rw [setRow_size, hW4s] at h; exact h
      case c2 => exact ints_one _ _
      case c3 => simp only [maxLen]; omega
      case c4 => omega
      case c5 => rw [← HW4.out]; rw [setRow_size]; omega
      rw [← HW4.out]
      clear x0 x1 x2 x3 xf y0 y1 y2 y3 yf
      obtain ⟨W, hW⟩ : ∃ W, W = W4.setRow w3.heap.size #[.int .i64 X.pos, .int .i64 X.size, .slice A2 xl c2, .int .i64 X.err] := ⟨_, rfl⟩
      rw [← hW]
      have hbW : Below w.heap.size w W := by rw [hW]; exact below_row HBF.out (by omega) _
      have hWs : W.heap.size = w4.heap.size + 1 := by rw [hW]; rw [setRow_size]; exact hW4s
      have hoth : ∀ b, b ≠ w3.heap.size → W.heap[b]? = W4.heap[b]? := fun b hb => by rw [hW]; exact setRow_other _ _ _ _ hb
      have hy : W.heap[w3.heap.size]? = some (.cells #[.int .i64 X.pos, .int .i64 X.size, .slice A2 xl c2, .int .i64 X.err] 39 (0, 0)) := by rw [hW]; exact setRow_heap W4 _ _ _ _ _ Z9.out
      have hz : W.heap[w4.heap.size]? = _ := (hoth _ (by omega)).trans Z11.out
      have UA' : Hid (Us (fun _ => True) W (.slice A1 m1 c1) us1) := UA.out.step (by omega) fun b _ hx => ⟨trivial, hoth b hx⟩
      have UB' : Hid (Us (fun _ => True) W (.slice A3 m2 c3) us2) := UB.out.step (by omega) fun b _ hx => ⟨trivial, hoth b hx⟩
      have UC' : Hid (Us (fun _ => True) W (.slice A5 (m1 + m2) c5) (us1 ++ us2)) := UC.out.step (by omega) fun b _ hx => ⟨trivial, hoth b hx⟩
      intro v1 w6 hown6 hg6 hv6
      have hb6 : Below W.heap.size W w6 := (Below.refl _ _).grown hg6 (Nat.le_refl _) (by intro k hk; simp [Value.ownBlock] at hk)
      have hs6 := hb6.size
      go_wp2_with (at_builtin; refine wpList_appB _ rfl _ _ 24 rfl (w4.heap.size + 1) 3 i0 _ 1 8 Try.underlying24 hi hz0 HZ1 hz2 rfl (by decide) _ _ _ rfl hown6 W.heap.size A3 m2 c3 (us2.map (Value.int .i64)) rfl ?c0 ?c1 ?c2 ?c3 ?c4 ?c5 ?_)
      case c0 => simp; exact HM2.out
      case c1 => exact UB'.out.rdN.below hb6 (Nat.le_refl _)
      case c2 => exact ints_one _ _
      case c3 => simp only [maxLen]; omega
      case c4 => omega
      case c5 => omega
      intro v2 w7 hown7 hg7 hv7
      have hb7 : Below W.heap.size W w7 := hb6.grown hg7 hs6 (fun k hk => by
        rcases hv6 with e | e
        · rw [e] at hk; simp [Value.ownBlock] at hk
        · rw [e] at hk; injection hk with hk; omega)
      have hs7 := hb7.size
      obtain ⟨A8, c8, rfl, h81, h82⟩ := own_form hown7
      rw [← List.map_append] at hown7
      have hro := Rd.own hown7
      have HRO := Lib.hid hro
      have hy7 := (hb7.block _ (by omega)).trans hy
      have hz7 := (hb7.block _ (by omega)).trans hz
      rw [hYZ.out] at hz7
      have HY7 := Lib.hid hy7
      have HZ7 := Lib.hid hz7
      have hb07 := hbW.trans (hb7.mono (by omega))
      have HB7 := Lib.hid hb7
      clear hown6 hown7 hg6 hg7 hv6 hv7 hro hy7 hz7 hy hz hoth hb7 hW
      go_wp2_with fail
      refine (units_v (m1 + m2) (m1 + m2) A8 A5 _ _ (us1 ++ us2) (us1 ++ us2) w7.heap.size W.heap.size w7 true HEQ.out HM3.out.symm HM3.out.symm HRO.out (UC'.out.rdN.below HB7.out (Nat.le_refl _)) (by omega)).mono ?_
      rintro e w8 ⟨rfl, k8, hk8⟩
      have hbE : Below w.heap.size w w8 := by rw [hk8]; exact hb07.trans (below_drewN k8)
      obtain ⟨x0, x1, x2, x3, xf⟩ := tok_cells (show w8.heap[w3.heap.size]? = _ by rw [hk8]; exact HY7.out)
      obtain ⟨y0, y1, y2, y3, yf⟩ := tok_cells (show w8.heap[w4.heap.size]? = _ by rw [hk8]; exact HZ7.out)
      clear hk8
      go_wp2
      go_ret
      exact ⟨by simp, hbE⟩
  · rw [if_neg hcK] at ht2
    have HT2 := Lib.hid ht2
    clear ht2
    go_enter Try.func8, Try.ntmps8
    go_wp2_with fail
    refine (rawake5_any _).mono ?_
    rintro e w1 ⟨rfl, hb1⟩
    have hs1 := hb1.size
    go_wp2_with fail
    refine (unitsT_any K A c (ts.take K) w.heap.size w1 (HT1.out.below hb1 (Nat.le_refl _)) hs1 HL1.out us1 X m1 xl HU1.out HX.out HM1.out HXL.out).mono ?_
    rintro e w2 ⟨A1, c1, A2, c2, rfl, hu1, hu2, hb2⟩
    have hb02 := hb1.trans (hb2.mono hs1)
    have hs2 := hb02.size
    have hbA2 : ∀ o, Below w2.heap.size w2 (w2.alloc o) := fun o => (Below.refl _ _).alloc (Nat.le_refl _) _
    have HBA2 := Lib.hid hbA2
    have HUA := Lib.hid hu1
    clear hu1 hu2 hbA2 hb2
    go_wp2_with fail
    refine (unitsT_any (q - K) _ (c - K) (ts.drop K) w.heap.size _ (HT2.out.below (hb02.trans ((HBA2.out _).mono hs2)) (Nat.le_refl _)) (by simp; omega) HL2.out us2 Y m2 yl HU2.out HY.out HM2.out HYL.out).mono ?_
    rintro e w3 ⟨A3, c3, A4, c4, rfl, hu3, hu4, hb3⟩
    have hb23 := (HBA2.out _).trans (hb3.mono (by simp))
    have hb03 := hb02.trans (hb23.mono hs2)
    have hs3 := hb03.size
    have hs23 : w2.heap.size + 1 ≤ w3.heap.size := by have := hb3.size; simpa using this
    have hx7 : w3.heap[w2.heap.size]? = some (.cells #[.int .i64 X.pos, .int .i64 X.size, .slice A2 xl c2, .int .i64 X.err] 39 (0, 0)) := (hb3.block _ (by simp)).trans (heap_alloc_new w2 _)
    have HX7 := Lib.hid hx7
    have hbA3 : ∀ o, Below w3.heap.size w3 (w3.alloc o) := fun o => (Below.refl _ _).alloc (Nat.le_refl _) _
    have HBA3 := Lib.hid hbA3
    have HUB := Lib.hid hu3
    have HB23 := Lib.hid hb23
    clear hu3 hu4 hbA3 hb3 hx7 hb23
    go_wp2_with fail
    refine (unitsT_any q A c ts w.heap.size _ (H.out.below (hb03.trans ((HBA3.out _).mono hs3)) (Nat.le_refl _)) (by simp; omega) HL3.out (us1 ++ us2) Z (m1 + m2) zl HU3.out HZ.out HM3.out HZL.out).mono ?_
    rintro e w4 ⟨A5, c5, A6, c6, rfl, hu5, hu6, hb4⟩
    have hb34 := (HBA3.out _).trans (hb4.mono (by simp))
    have hb04 := hb03.trans (hb34.mono hs3)
    have hs34 : w3.heap.size + 1 ≤ w4.heap.size := by have := hb4.size; simpa using this
    have hx9 : w4.heap[w3.heap.size]? = some (.cells #[.int .i64 Y.pos, .int .i64 Y.size, .slice A4 yl c4, .int .i64 Y.err] 39 (0, 0)) := (hb4.block _ (by simp)).trans (heap_alloc_new w3 _)
    obtain ⟨W4, hW4⟩ : ∃ W4, W4 = w4.alloc (.cells #[.int .i64 Z.pos, .int .i64 Z.size, .slice A6 zl c6, .int .i64 Z.err] 39) := ⟨_, rfl⟩
    have hb44 : Below w4.heap.size w4 W4 := by rw [hW4]; exact (Below.refl _ _).alloc (Nat.le_refl _) _
    have hW4s : W4.heap.size = w4.heap.size + 1 := by rw [hW4]; simp
    have z11 : W4.heap[w4.heap.size]? = some (.cells #[.int .i64 Z.pos, .int .i64 Z.size, .slice A6 zl c6, .int .i64 Z.err] 39 (0, 0)) := by rw [hW4]; exact heap_alloc_new w4 _
    have z9 : W4.heap[w3.heap.size]? = some (.cells #[.int .i64 Y.pos, .int .i64 Y.size, .slice A4 yl c4, .int .i64 Y.err] 39 (0, 0)) := (hb44.block _ (by omega)).trans hx9
    have z7 : W4.heap[w2.heap.size]? = some (.cells #[.int .i64 X.pos, .int .i64 X.size, .slice A2 xl c2, .int .i64 X.err] 39 (0, 0)) := (hb44.block _ (by omega)).trans ((hb34.block _ (by omega)).trans HX7.out)
    have UA : Hid (Us (fun b => b ≠ w3.heap.size) W4 (.slice A1 m1 c1) us1) := by
      refine HUA.out.step (by have := HB23.out.size; omega) fun b hb hx => ⟨by have := HB23.out.size; omega, (hb44.block b (by have := HB23.out.size; omega)).trans ((hb34.block b (by have := HB23.out.size; omega)).trans (HB23.out.block b hb))⟩
    have UB : Hid (Us (fun b => b ≠ w3.heap.size) W4 (.slice A3 m2 c3) us2) := by
      refine HUB.out.step (by omega) fun b hb hx => ⟨by omega, (hb44.block b (by omega)).trans (hb34.block b hb)⟩
    have UC : Hid (Us (fun b => b ≠ w3.heap.size) W4 (.slice A5 (m1 + m2) c5) (us1 ++ us2)) := by
      refine hu5.step (by omega) fun b hb hx => ⟨by have : (w3.alloc _).heap.size ≤ b := hx; simp at this; omega, hb44.block b hb⟩
    have hbF : Below w.heap.size w W4 := hb04.trans (hb44.mono (by omega))
    have Z9 := Lib.hid z9
    have Z7 := Lib.hid z7
    have Z11 := Lib.hid z11
    have HW4 := Lib.hid hW4
    have HBF := Lib.hid hbF
    obtain ⟨x0, x1, x2, x3, xf⟩ := tok_cells z7
    obtain ⟨y0, y1, y2, y3, yf⟩ := tok_cells z9
    have z9a := z9
    rw [hW4] at z9a
    have HZ9A := Lib.hid z9a
    rw [hW4] at x0 x1 x2 x3 xf y0 y1 y2 y3 yf
    clear z9a hu5 hu6 hx9 z11 z9 z7 hW4 hbF hb4 hb44
    by_cases hX0 : X.err = 0
    · have hYZ : Hid (Z = Y) := by rw [HWP.out, if_pos hX0]; rfl
      have hd : (X.err != 0) = false := by simpa using hX0
      go_wp2_with (first | (at_builtin; refine wpList_appB _ rfl _ _ 24 rfl (w4.heap.size + 1) 3 i0 _ 1 8 Try.underlying24 hi hz0 HZ1 hz2 rfl (by decide) _ _ _ rfl (World.ownsRow_nil _ _ _ _) (w4.heap.size + 1) A1 m1 c1 (us1.map (Value.int .i64)) rfl ?c0 ?c1 ?c2 ?c3 ?c4 ?c5 ?_))
      case c0 => simp; exact HM1.out
      case c1 => rw [← HW4.out]; exact hW4s ▸ UA.out.rdN
      case c2 => exact ints_one _ _
      case c3 => simp only [maxLen]; omega
      case c4 => omega
      case c5 => rw [← HW4.out]; omega
      rw [← HW4.out]
      clear x0 x1 x2 x3 xf y0 y1 y2 y3 yf
      obtain ⟨W, hW⟩ : ∃ W, W = W4 := ⟨_, rfl⟩
      rw [← hW]
      have hbW : Below w.heap.size w W := by rw [hW]; exact HBF.out
      have hWs : W.heap.size = w4.heap.size + 1 := by rw [hW]; exact hW4s
      have hoth : ∀ b, b ≠ w3.heap.size → W.heap[b]? = W4.heap[b]? := fun b hb => by rw [hW]
      have hy : W.heap[w3.heap.size]? = some (.cells #[.int .i64 Y.pos, .int .i64 Y.size, .slice A4 yl c4, .int .i64 Y.err] 39 (0, 0)) := by rw [hW]; exact Z9.out
      have hz : W.heap[w4.heap.size]? = _ := (hoth _ (by omega)).trans Z11.out
      have UA' : Hid (Us (fun _ => True) W (.slice A1 m1 c1) us1) := UA.out.step (by omega) fun b _ hx => ⟨trivial, hoth b hx⟩
      have UB' : Hid (Us (fun _ => True) W (.slice A3 m2 c3) us2) := UB.out.step (by omega) fun b _ hx => ⟨trivial, hoth b hx⟩
      have UC' : Hid (Us (fun _ => True) W (.slice A5 (m1 + m2) c5) (us1 ++ us2)) := UC.out.step (by omega) fun b _ hx => ⟨trivial, hoth b hx⟩
      intro v1 w6 hown6 hg6 hv6
      have hb6 : Below W.heap.size W w6 := (Below.refl _ _).grown hg6 (Nat.le_refl _) (by intro k hk; simp [Value.ownBlock] at hk)
      have hs6 := hb6.size
      go_wp2_with (at_builtin; refine wpList_appB _ rfl _ _ 24 rfl (w4.heap.size + 1) 3 i0 _ 1 8 Try.underlying24 hi hz0 HZ1 hz2 rfl (by decide) _ _ _ rfl hown6 W.heap.size A3 m2 c3 (us2.map (Value.int .i64)) rfl ?c0 ?c1 ?c2 ?c3 ?c4 ?c5 ?_)
      case c0 => simp; exact HM2.out
      case c1 => exact UB'.out.rdN.below hb6 (Nat.le_refl _)
      case c2 => exact ints_one _ _
      case c3 => simp only [maxLen]; omega
      case c4 => omega
      case c5 => omega
      intro v2 w7 hown7 hg7 hv7
      have hb7 : Below W.heap.size W w7 := hb6.grown hg7 hs6 (fun k hk => by
        rcases hv6 with e | e
        · rw [e] at hk; simp [Value.ownBlock] at hk
        · rw [e] at hk; injection hk with hk; omega)
      have hs7 := hb7.size
      obtain ⟨A8, c8, rfl, h81, h82⟩ := own_form hown7
      rw [← List.map_append] at hown7
      have hro := Rd.own hown7
      have HRO := Lib.hid hro
      have hy7 := (hb7.block _ (by omega)).trans hy
      have hz7 := (hb7.block _ (by omega)).trans hz
      rw [hYZ.out] at hz7
      have HY7 := Lib.hid hy7
      have HZ7 := Lib.hid hz7
      have hb07 := hbW.trans (hb7.mono (by omega))
      have HB7 := Lib.hid hb7
      clear hown6 hown7 hg6 hg7 hv6 hv7 hro hy7 hz7 hy hz hoth hb7 hW
      go_wp2_with fail
      refine (units_v (m1 + m2) (m1 + m2) A8 A5 _ _ (us1 ++ us2) (us1 ++ us2) w7.heap.size W.heap.size w7 true HEQ.out HM3.out.symm HM3.out.symm HRO.out (UC'.out.rdN.below HB7.out (Nat.le_refl _)) (by omega)).mono ?_
      rintro e w8 ⟨rfl, k8, hk8⟩
      have hbE : Below w.heap.size w w8 := by rw [hk8]; exact hb07.trans (below_drewN k8)
      obtain ⟨x0, x1, x2, x3, xf⟩ := tok_cells (show w8.heap[w3.heap.size]? = _ by rw [hk8]; exact HY7.out)
      obtain ⟨y0, y1, y2, y3, yf⟩ := tok_cells (show w8.heap[w4.heap.size]? = _ by rw [hk8]; exact HZ7.out)
      clear hk8
      go_wp2
      go_ret
      exact ⟨by simp, hbE⟩
    · have hYZ : Hid (Z = X) := by rw [HWP.out, if_neg hX0]; rfl
      have hd : (X.err != 0) = true := by simpa using hX0
      go_wp2_with (first | (at_builtin; refine wpList_appB _ rfl _ _ 24 rfl (w4.heap.size + 1) 3 i0 _ 1 8 Try.underlying24 hi hz0 HZ1 hz2 rfl (by decide) _ _ _ rfl (World.ownsRow_nil _ _ _ _) (w4.heap.size + 1) A1 m1 c1 (us1.map (Value.int .i64)) rfl ?c0 ?c1 ?c2 ?c3 ?c4 ?c5 ?_) | (refine wpList_store_row rfl _ _ _ rfl w3.heap.size #[.int .i64 X.pos, .int .i64 X.size, .slice A2 xl c2, .int .i64 X.err] rfl rfl _ _ HZ9A.out infotok4 rfl (by simp [Value.oneCell']) ?_))
      case c0 => simp; exact HM1.out
      case c1 => rw [← HW4.out]; have h := (UA.out.step (w' := W4.setRow w3.heap.size #[.int .i64 X.pos, .int .i64 X.size, .slice A2 xl c2, .int .i64 X.err]) (Y := fun _ => True) (by rw [setRow_size]; exact Nat.le_refl _) fun b _ hx => ⟨trivial, setRow_other _ _ _ _ hx⟩).rdN; rw [setRow_size, hW4s] at h; exact h
      case c2 => exact ints_one _ _
      case c3 => simp only [maxLen]; omega
      case c4 => omega
      case c5 => rw [← HW4.out]; rw [setRow_size]; omega
      rw [← HW4.out]
      clear x0 x1 x2 x3 xf y0 y1 y2 y3 yf
      obtain ⟨W, hW⟩ : ∃ W, W = W4.setRow w3.heap.size #[.int .i64 X.pos, .int .i64 X.size, .slice A2 xl c2, .int .i64 X.err] := ⟨_, rfl⟩
      rw [← hW]
      have hbW : Below w.heap.size w W := by rw [hW]; exact below_row HBF.out (by omega) _
      have hWs : W.heap.size = w4.heap.size + 1 := by rw [hW]; rw [setRow_size]; exact hW4s
      have hoth : ∀ b, b ≠ w3.heap.size → W.heap[b]? = W4.heap[b]? := fun b hb => by rw [hW]; exact setRow_other _ _ _ _ hb
      have hy : W.heap[w3.heap.size]? = some (.cells #[.int .i64 X.pos, .int .i64 X.size, .slice A2 xl c2, .int .i64 X.err] 39 (0, 0)) := by rw [hW]; exact setRow_heap W4 _ _ _ _ _ Z9.out
      have hz : W.heap[w4.heap.size]? = _ := (hoth _ (by omega)).trans Z11.out
      have UA' : Hid (Us (fun _ => True) W (.slice A1 m1 c1) us1) := UA.out.step (by omega) fun b _ hx => ⟨trivial, hoth b hx⟩
      have UB' : Hid (Us (fun _ => True) W (.slice A3 m2 c3) us2) := UB.out.step (by omega) fun b _ hx => ⟨trivial, hoth b hx⟩
      have UC' : Hid (Us (fun _ => True) W (.slice A5 (m1 + m2) c5) (us1 ++ us2)) := UC.out.step (by omega) fun b _ hx => ⟨trivial, hoth b hx⟩
      intro v1 w6 hown6 hg6 hv6
      have hb6 : Below W.heap.size W w6 := (Below.refl _ _).grown hg6 (Nat.le_refl _) (by intro k hk; simp [Value.ownBlock] at hk)
      have hs6 := hb6.size
      go_wp2_with (at_builtin; refine wpList_appB _ rfl _ _ 24 rfl (w4.heap.size + 1) 3 i0 _ 1 8 Try.underlying24 hi hz0 HZ1 hz2 rfl (by decide) _ _ _ rfl hown6 W.heap.size A3 m2 c3 (us2.map (Value.int .i64)) rfl ?c0 ?c1 ?c2 ?c3 ?c4 ?c5 ?_)
      case c0 => simp; exact HM2.out
      case c1 => exact UB'.out.rdN.below hb6 (Nat.le_refl _)
      case c2 => exact ints_one _ _
      case c3 => simp only [maxLen]; omega
      case c4 => omega
      case c5 => omega
      intro v2 w7 hown7 hg7 hv7
      have hb7 : Below W.heap.size W w7 := hb6.grown hg7 hs6 (fun k hk => by
        rcases hv6 with e | e
        · rw [e] at hk; simp [Value.ownBlock] at hk
        · rw [e] at hk; injection hk with hk; omega)
      have hs7 := hb7.size
      obtain ⟨A8, c8, rfl, h81, h82⟩ := own_form hown7
      rw [← List.map_append] at hown7
      have hro := Rd.own hown7
      have HRO := Lib.hid hro
      have hy7 := (hb7.block _ (by omega)).trans hy
      have hz7 := (hb7.block _ (by omega)).trans hz
      rw [hYZ.out] at hz7
      have HY7 := Lib.hid hy7
      have HZ7 := Lib.hid hz7
      have hb07 := hbW.trans (hb7.mono (by omega))
      have HB7 := Lib.hid hb7
      clear hown6 hown7 hg6 hg7 hv6 hv7 hro hy7 hz7 hy hz hoth hb7 hW
      go_wp2_with fail
      refine (units_v (m1 + m2) (m1 + m2) A8 A5 _ _ (us1 ++ us2) (us1 ++ us2) w7.heap.size W.heap.size w7 true HEQ.out HM3.out.symm HM3.out.symm HRO.out (UC'.out.rdN.below HB7.out (Nat.le_refl _)) (by omega)).mono ?_
      rintro e w8 ⟨rfl, k8, hk8⟩
      have hbE : Below w.heap.size w w8 := by rw [hk8]; exact hb07.trans (below_drewN k8)
      obtain ⟨x0, x1, x2, x3, xf⟩ := tok_cells (show w8.heap[w3.heap.size]? = _ by rw [hk8]; exact HY7.out)
      obtain ⟨y0, y1, y2, y3, yf⟩ := tok_cells (show w8.heap[w4.heap.size]? = _ by rw [hk8]; exact HZ7.out)
      clear hk8
      go_wp2
      go_ret
      exact ⟨by simp, hbE⟩
end Go.Proofs.Ytfbncepkmhfbmaa
