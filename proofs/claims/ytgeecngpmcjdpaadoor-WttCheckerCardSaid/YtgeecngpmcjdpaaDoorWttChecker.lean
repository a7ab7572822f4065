/- WttChecker: the walk. -/
import Derived.Test.YtgeecngpmcjdpaaDoorWttH
namespace Go.Proofs.YtgeecngpmcjdpaaDoor
set_option linter.unusedVariables false
open Go.RowKit
theorem head_bytes (A : Option Addr) (L c n : Nat) (h : n ≤ L) (hc : L ≤ c) (hm : c ≤ 2 ^ 63 - 1) : ∀ W : World, (Instr.sliceAt 33 (.slice A L c) none (some (.int .i64 n)) none).run Tryd.prog W = .ok (.slice A n c) W := fun W => by
  have e2 : (0 : Int) ≤ n := by omega
  have e4 : (n : Int) ≤ c := by omega
  cases A <;> go_simp
theorem wt_grown {w w' : World} {p : Nat} (hw : Wt w) (hg : w.grownBy w' (some p)) (hp : 1 ≠ p ∧ 0 ≠ p) : Wt w' := by
  have hl := hw.lt
  exact ⟨tab_block (g := 1) hw.hi (by kernel_rfl) (hg.block _ hl.1 (by intro e; injection e with e; exact hp.1 e)), strs_block (g := 0) hw.ro (by kernel_rfl) (hg.block _ hl.2 (by intro e; injection e with e; exact hp.2 e))⟩
set_option maxHeartbeats 3200000 in
theorem wttChecker_any (A : Option Addr) (cap : Nat) (zs : List Int) (l : Int) (w : World) (hz : Rd w w.heap.size A (zs.map (Value.int .u8))) (hzr : ∀ z ∈ zs, 0 ≤ z ∧ z ≤ 255) (hcap : zs.length ≤ cap) (hm : zs.length ≤ 140737488351232) (hl : -128 ≤ l ∧ l ≤ 127) (hw : Wt w) :
    Calls Tryd.prog 6 #[.slice A zs.length cap, .int .i8 l] w fun e w' => e = .returned (.bool true) ∧ Below w.heap.size w w' := by
  have A0 := Lib.hid (tawake8_any w hw)
  have HW := Lib.hid hw
  have HZ := Lib.hid hz
  have HZR := Lib.hid hzr
  obtain ⟨i0, hi, hz0, hz1, hz2⟩ := info_parts infou8
  obtain ⟨v0, v1⟩ := level_range l hl
  obtain ⟨v, hv⟩ : ∃ v, l.tmod 3 = v := ⟨_, rfl⟩
  rw [hv] at v0 v1
  obtain ⟨n, hn⟩ : ∃ n, n = zs.length := ⟨_, rfl⟩
  rw [← hn] at hm hcap ⊢
  have HN := Lib.hid hn
  have hwl := hw.lt
  clear hz hzr hw hn
  go_enter Tryd.func6, Tryd.ntmps6
  go_wp2_with fail
  refine A0.out.mono ?_
  rintro e w1 ⟨rfl, hb1⟩
  have HW1 := Lib.hid (HW.out.below hb1)
  have HZ1 := Lib.hid (HZ.out.below hb1 (Nat.le_refl _))
  have hs1 := hb1.size
  go_wp2_with fail
  refine (wof_any v w1).mono ?_
  rintro e w2 ⟨rfl, hck, hb2⟩
  obtain ⟨p, hp⟩ : ∃ p, p = w1.heap.size := ⟨_, rfl⟩
  rw [← hp] at hck ⊢
  have hps : p < w2.heap.size := hck.lt
  have hpl : w.heap.size ≤ p := by omega
  have hne : 1 ≠ p ∧ 0 ≠ p := by omega
  have HW2 := Lib.hid (HW1.out.below hb2)
  have HZ2 := Lib.hid (HZ1.out.below (hb2.mono hs1) (Nat.le_refl _))
  have hb02 := hb1.trans (hb2.mono hs1)
  have hs2 := hb02.size
  have HCK := Lib.hid hck
  clear hp hb1 hb2 hck
  go_wp2_with fail
  refine (bad_any p v [] w2 HCK.out (-1) rfl).mono ?_
  rintro e w' ⟨rfl, h⟩
  subst h
  obtain ⟨W2, hW2⟩ : ∃ W : World, W = w' := ⟨_, rfl⟩
  rw [← hW2] at HCK HW2 HZ2 hb02 hs2 hps ⊢
  clear hW2
  go_wp2_with (at_builtin; refine wpList_app _ rfl _ _ 33 rfl W2.heap.size 5 i0 _ 1 1 Tryd.underlying33 hi hz0 hz1 hz2 rfl (by decide) _ _ _ rfl (World.ownsRow_nil _ _ _ _) w.heap.size A n cap (zs.map (Value.int .u8)) rfl (by simp [HN.out]) HZ2.out (ints_one _ _) ?c3 ?c4 ?c5 ?_)
  case c3 => simp only [maxLen]; omega
  case c4 => omega
  case c5 => exact Nat.le_refl _
  intro v3 w3 hown3 hg3
  obtain ⟨A3, c3, rfl, hc3, hm3⟩ := own_form hown3
  have hb23 : Below W2.heap.size W2 w3 := below_nil hg3
  have hx3 : HiRow w3 W2.heap.size A3 n c3 0 zs := by unfold HiRow; rw [mixM_zero]; simpa using hown3
  have HX3 := Lib.hid hx3
  have HCK3 := Lib.hid (show CkAt w3 p v ((zs.map hiF).take 0) by rw [List.take_zero]; exact HCK.out.below hb23 hps)
  have HW3 := Lib.hid (HW2.out.below hb23)
  have hs23 := hb23.size
  have hb3 := hb02.trans (hb23.mono hs2)
  unfold maxLen at hm3
  clear hg3 hown3 hx3 hb23
  go_wp2_with fail
  go_loopw [27] (fun i wr => ∃ K : Nat, K ≤ n ∧ i = .int .i64 K ∧ Hid (HiRow wr W2.heap.size A3 n c3 K zs) ∧ Hid (CkAt wr p v ((zs.map hiF).take K)) ∧ Hid (Wt wr) ∧ Below w.heap.size w wr) (fun i _ => n - (intOf i).toNat)
  case atStart => exact ⟨0, by omega, rfl, HX3, HCK3, HW3, hb3⟩
  case round =>
    obtain ⟨K, hK, rfl, hx, hck, hwr, hbr⟩ := hrel
    by_cases hKn : K = n
    · have hK' : ¬ K < n := by omega
      clear hKn
      go_wp2
      go_ret
      exact ⟨rfl, hbr⟩
    have hK' : K < n := by omega
    obtain ⟨g, rfl, hg1, hg2, hcell, hfr, hst, hcell'⟩ := hx.out.at HN.out hK'
    obtain ⟨x0, x1⟩ := getD_range HZR.out K (by rw [← HN.out]; exact hK')
    have htk : (zs.map hiF).take (K + 1) = (zs.map hiF).take K ++ [hiF (zs.getD K 0)] := by
      rw [take_snocB (by simp; rw [← HN.out]; exact hK')]
      simp [List.getD_eq_getElem?_getD, List.getElem?_eq_getElem (show K < zs.length by rw [← HN.out]; exact hK')]
    obtain ⟨q, hq⟩ : ∃ p, zs.getD K 0 = p := ⟨_, rfl⟩
    rw [hq] at hcell hst x0 x1 hcell' htk
    have hv : hiF q = 161 + q % 91 := rfl
    obtain ⟨W4, hW4⟩ : ∃ W4, W4 = wr.setCell ⟨g, K, none⟩ (.int .u8 (161 + q % 91)) := ⟨_, rfl⟩
    have hst4 : HiRow W4 W2.heap.size (some ⟨g, 0, none⟩) n c3 (K + 1) zs := by rw [hW4]; exact hst
    have hc4 : W4.cell? ⟨g, K, none⟩ = some (.int .u8 (161 + q % 91)) := by rw [hW4]; exact hcell'
    have hb4 : Below W2.heap.size wr W4 := by rw [hW4]; exact (Below.refl _ _).setCell (p := ⟨g, K, none⟩) hg1 _
    have hck4 : CkAt W4 p v ((zs.map hiF).take K) := hck.out.below hb4 hps
    have hwt4 : Wt W4 := ⟨tab_block (g := 1) hwr.out.hi (by kernel_rfl) (hb4.block _ (by omega)), strs_block (g := 0) hwr.out.ro (by kernel_rfl) (hb4.block _ (by omega))⟩
    have hbE4 : Below w.heap.size w W4 := hbr.trans (hb4.mono hs2)
    have hW2s : W2.heap.size ≤ W4.heap.size := by have := hb4.size; omega
    have hKn1 : ((zs.map hiF).take K).length ≤ 4611686018427387904 := by simp; omega
    have hr0 : 0 ≤ 161 + q % 91 ∧ 161 + q % 91 ≤ 255 := by omega
    have HST := Lib.hid hst4
    have HCK4 := Lib.hid hck4
    have HWT4 := Lib.hid hwt4
    have HTK := Lib.hid htk
    have HW4 := Lib.hid hW4
    clear hq hst hst4 hck4 hwt4 htk hcell' hx hck hwr hv hb4
    go_wp2_with (rw [← HW4.out])
    refine (wput_any p v ((zs.map hiF).take K) (161 + q % 91) W4 HCK4.out HWT4.out hr0 (by omega) hKn1).mono ?_
    rintro e w5 ⟨rfl, hck5, hg5⟩
    have hx5 : HiRow w5 W2.heap.size (some ⟨g, 0, none⟩) n c3 (K + 1) zs := World.ownsRow.kept HST.out hg5 (.inr (by intro e; have e : some g = some p := e; injection e with e; omega))
    have hwt5 := wt_grown HWT4.out hg5 hne
    have hb5 : Below w.heap.size w w5 := below_up hbE4 hg5 hpl hbE4.size
    have hl5 := hb5.size
    have hW2s5 : W2.heap.size ≤ w5.heap.size := Nat.le_trans hW2s hg5.size
    have hrd5 := hx5.rd.take (K + 1)
    rw [← List.map_take, mixM_take (by rw [← HN.out]; exact hK'), HTK.out] at hrd5
    have htk' := HTK.out
    obtain ⟨ys, hys⟩ : ∃ ys, (zs.map hiF).take K ++ [161 + q % 91] = ys := ⟨_, rfl⟩
    have hys' : (zs.map hiF).take K ++ [hiF q] = ys := hys
    rw [hys'] at hrd5
    rw [hys] at hck5 ⊢
    have hyn : K + 1 = ys.length := by rw [← hys]; simp; rw [← HN.out]; omega
    have hyr : ∀ z ∈ ys, 0 ≤ z ∧ z ≤ 255 := by
      rw [← hys', ← htk']; intro z hz; exact hi_range z (List.mem_of_mem_take hz)
    have hck6 : CkAt w5 p v ((zs.map hiF).take (K + 1)) := by rw [htk', hys']; exact hck5
    obtain ⟨r, hr⟩ : ∃ r, chkF ys v = r := ⟨_, rfl⟩
    rw [hr]
    have HR := Lib.hid hr
    have HY5 := Lib.hid hrd5
    have HYN := Lib.hid hyn
    have HYR := Lib.hid hyr
    have HCK5 := Lib.hid hck5
    have HX5 := Lib.hid hx5
    have HCK6 := Lib.hid hck6
    have HWT5 := Lib.hid hwt5
    have hsl := head_bytes (some ⟨g, 0, none⟩) n c3 (K + 1) (by omega) hc3 hm3
    rw [show (((K + 1 : Nat)) : Int) = (K : Int) + 1 from by omega] at hsl
    have e1 : (decide (r < 0) != decide (r < 0)) = false := by simp
    have e2 : (r != r) = false := by simp
    clear hr hrd5 hyn hyr hck5 hx5 hck6 hwt5 hys hys' htk' hg5
    go_wp2_with fail
    refine (checkL_any (K + 1) (some ⟨g, 0, none⟩) c3 ys v _ w5 (Nat.le_refl _) HYN.out HY5.out HYR.out (by omega) (by omega)).mono ?_
    rintro e w6 ⟨rfl, hb6⟩
    rw [HR.out]
    have HCK7 := Lib.hid (HCK5.out.below hb6 (by omega))
    go_wp2_with fail
    refine (bad_any p v ys w6 HCK7.out r HR.out).mono ?_
    rintro e w7 ⟨rfl, h⟩
    subst h
    have HX7 := Lib.hid (show HiRow w7 W2.heap.size (some ⟨g, 0, none⟩) n c3 (K + 1) zs from own_below HX5.out hb6 (Nat.le_refl _))
    have HCK8 := Lib.hid (HCK6.out.below hb6 (by omega))
    have HWT7 := Lib.hid (HWT5.out.below hb6)
    have HB7 := Lib.hid (hb5.trans (hb6.mono hl5))
    clear hb6 hsl
    go_wp2
    go_roundw
    case rel => exact ⟨K + 1, by omega, by go_num, HX7, HCK8, HWT7, HB7.out⟩
    case measure => simp [intOf]; omega
end Go.Proofs.YtgeecngpmcjdpaaDoor
