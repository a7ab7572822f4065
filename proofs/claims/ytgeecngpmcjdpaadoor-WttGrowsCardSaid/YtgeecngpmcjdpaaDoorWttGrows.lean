/- WttGrows: the walk. -/
import Derived.Test.YtgeecngpmcjdpaaDoorWttE
namespace Go.Proofs.YtgeecngpmcjdpaaDoor
set_option linter.unusedVariables false
open Go.RowKit
set_option maxHeartbeats 1600000 in
theorem wttGrows_any (A : Option Addr) (cap : Nat) (zs : List Int) (c l : Int) (w : World) (hz : Rd w w.heap.size A (zs.map (Value.int .u8))) (hzr : ∀ z ∈ zs, 0 ≤ z ∧ z ≤ 255) (hm : zs.length ≤ 140737488351232) (hcap : zs.length ≤ cap)
    (hc : 0 ≤ c ∧ c ≤ 255) (hl : -128 ≤ l ∧ l ≤ 127) (hw : Wt w) :
    Calls Tryd.prog 9 #[.slice A zs.length cap, .int .u8 c, .int .i8 l] w fun e w' => e = .returned (.bool true) ∧ Below w.heap.size w w' := by
  have A0 := Lib.hid (tawake8_any w hw)
  have HW := Lib.hid hw
  have HZ := Lib.hid hz
  have HZR := Lib.hid hzr
  obtain ⟨i0, hi, hz0, hz1, hz2⟩ := info_parts infou8
  obtain ⟨n, hn⟩ : ∃ n, n = zs.length := ⟨_, rfl⟩
  rw [← hn] at hm hcap ⊢
  have HN := Lib.hid hn
  obtain ⟨v0, v1⟩ := level_range l hl
  obtain ⟨v, hv⟩ : ∃ v, l.tmod 3 = v := ⟨_, rfl⟩
  rw [hv] at v0 v1
  clear hz hzr hw hn
  go_enter Tryd.func9, Tryd.ntmps9
  go_wp2_with fail
  refine A0.out.mono ?_
  rintro e w1 ⟨rfl, hb1⟩
  have HW1 := Lib.hid (HW.out.below hb1)
  have HZ1 := Lib.hid (HZ.out.below hb1 (Nat.le_refl _))
  have hs1 := hb1.size
  go_wp2_with fail
  refine (check_any n A cap zs v _ w1 HN.out HZ1.out HZR.out (by omega) (by omega) HW1.out).mono ?_
  rintro e w2 ⟨rfl, m2, h⟩
  have hb2 : Below w1.heap.size w1 w2 := by rw [h]; exact below_drewN (Below.refl _ _) m2
  have HW2 := Lib.hid (HW1.out.below hb2)
  have HZ2 := Lib.hid (HZ1.out.below (hb2.mono hs1) (Nat.le_refl _))
  have hb12 := hb1.trans (hb2.mono hs1)
  have hs2 := hb12.size
  obtain ⟨p, hp⟩ : ∃ p, chkF zs v = p := ⟨_, rfl⟩
  have HP := Lib.hid hp
  rw [hp]
  clear h hb1 hb2 hp
  go_wp2_with (at_builtin; refine wpList_app _ rfl _ _ 33 rfl w2.heap.size 5 i0 _ 1 1 Tryd.underlying33 hi hz0 hz1 hz2 rfl (by decide) _ _ _ rfl (World.ownsRow_nil _ _ _ _) w.heap.size A n cap (zs.map (Value.int .u8)) rfl (by simp [HN.out]) HZ2.out (ints_one _ _) ?c3 ?c4 ?c5 ?_)
  case c3 => simp only [maxLen]; omega
  case c4 => omega
  case c5 => exact Nat.le_refl _
  intro v3 w3 hown3 hg3
  obtain ⟨A3, c3, rfl, hc3, hm3⟩ := own_form hown3
  have hb23 : Below w2.heap.size w2 w3 := below_nil hg3
  have HW3 := Lib.hid (HW2.out.below hb23)
  have hb13 := hb12.trans (hb23.mono hs2)
  have hs3 := hb13.size
  have hs23 := hb23.size
  have hb23' := hb23
  clear hg3 hb23
  have hbN : Below w3.heap.size w3 (w3.alloc (.cells #[.int .u8 c] 5)) := (Below.refl _ _).alloc (Nat.le_refl _) _
  have hrN : Rd (w3.alloc (.cells #[.int .u8 c] 5)) (w3.alloc (.cells #[.int .u8 c] 5)).heap.size (some ⟨w3.heap.size, 0, none⟩) ([c].map (Value.int .u8)) := rd_new_ints w3 .u8 [c] 5 #[.int .u8 c] rfl
  have hown3' := own_below hown3 hbN (Nat.le_refl _)
  have hsN := hbN.size
  go_wp2_with (at_builtin; refine wpList_app _ rfl _ _ 33 rfl w2.heap.size 5 i0 _ 1 1 Tryd.underlying33 hi hz0 hz1 hz2 rfl (by decide) _ _ _ rfl hown3' _ (some ⟨w3.heap.size, 0, none⟩) 1 1 ([c].map (Value.int .u8)) rfl rfl hrN (ints_one _ _) ?c3 ?c4 ?c5 ?_)
  case c3 => simp only [maxLen]; omega
  case c4 => omega
  case c5 => omega
  intro v4 w4 hown4 hg4
  obtain ⟨A4, c4, rfl, hc4, hm4⟩ := own_form hown4
  have hb34 : Below w2.heap.size w2 w4 := below_own (hb23'.trans (hbN.mono hs23)) hg4 hown3' (Nat.le_refl _) (by omega)
  have HW4 := Lib.hid (HW2.out.below hb34)
  have hb14 := hb12.trans (hb34.mono hs2)
  have hs4 := hb14.size
  have hr4 : Rd w4 w4.heap.size A4 ((zs ++ [c]).map (Value.int .u8)) := by rw [List.map_append]; exact Rd.own hown4
  have HR4 := Lib.hid hr4
  have hn4 : n + 1 = (zs ++ [c]).length := by simp [HN.out]
  have HN4 := Lib.hid hn4
  clear hown3 hown3' hown4 hg4 hbN hrN hr4 hn4 hb34
  go_wp2_with fail
  refine (check_any (n + 1) A4 c4 (zs ++ [c]) v _ w4 HN4.out HR4.out (fun z hz => (List.mem_append.1 hz).elim (HZR.out z) fun h => by simp at h; rw [h]; exact hc) (by omega) (by omega) HW4.out).mono ?_
  rintro e w5 ⟨rfl, m5, h⟩
  have HBF := Lib.hid (hb14.trans ((show Below w4.heap.size w4 w5 by rw [h]; exact below_drewN (Below.refl _ _) m5).mono hs4))
  obtain ⟨q, hq⟩ : ∃ q, chkF (zs ++ [c]) v = q := ⟨_, rfl⟩
  rw [hq]
  by_cases hp0 : 0 ≤ p
  · have hpq : q = p := by rw [← hq, ← HP.out]; exact chk_app_bad [c] (by rw [HP.out]; exact hp0)
    subst hpq
    clear hq h
    go_wp2
    go_ret
    exact ⟨ret_bool (by simp), HBF.out⟩
  · have hqq : q = -1 ∨ q = n := by
      have := chk_snoc zs c v
      rw [if_neg (by rw [HP.out]; exact hp0), hq] at this
      rw [HN.out]
      split at this
      · exact .inl this
      · exact .inr this
    clear hq h
    by_cases hq1 : q = -1
    · subst hq1
      go_wp2
      go_ret
      exact ⟨rfl, HBF.out⟩
    · obtain rfl : q = n := hqq.resolve_left hq1
      have e1 : ((n : Int) == -1) = false := by simp
      clear hqq
      go_wp2
      go_ret
      exact ⟨ret_bool (by simp), HBF.out⟩
end Go.Proofs.YtgeecngpmcjdpaaDoor
