/- WttCheck: the walk. -/
import Derived.Test.YtgeecngpmcjdpaaDoorWttH
namespace Go.Proofs.YtgeecngpmcjdpaaDoor
set_option linter.unusedVariables false
open Go.RowKit
set_option maxHeartbeats 3200000 in
theorem wttCheck_any (A : Option Addr) (cap : Nat) (zs : List Int) (l : Int) (w : World) (hz : Rd w w.heap.size A (zs.map (Value.int .u8))) (hzr : ∀ z ∈ zs, 0 ≤ z ∧ z ≤ 255) (hcap : zs.length ≤ cap) (hm : zs.length ≤ 140737488351232) (hl : -128 ≤ l ∧ l ≤ 127) (hw : Wt w) :
    Calls Tryd.prog 5 #[.slice A zs.length cap, .int .i8 l] w fun e w' => e = .returned (.bool true) ∧ Below w.heap.size w w' := by
  have A0 := Lib.hid (tawake8_any w hw)
  have HW := Lib.hid hw
  have HZ := Lib.hid hz
  have HZR := Lib.hid hzr
  obtain ⟨i0, hi, hz0, hz1, hz2⟩ := info_parts infou8
  obtain ⟨n, hn⟩ : ∃ n, n = zs.length := ⟨_, rfl⟩
  rw [← hn] at hm hcap ⊢
  have HN := Lib.hid hn
  clear hz hzr hw hn
  go_enter Tryd.func5, Tryd.ntmps5
  go_wp2_with fail
  refine A0.out.mono ?_
  rintro e w1 ⟨rfl, hb1⟩
  have HW1 := Lib.hid (HW.out.below hb1)
  have HZ1 := Lib.hid (HZ.out.below hb1 (Nat.le_refl _))
  have hs1 := hb1.size
  go_wp2_with (at_builtin; refine wpList_app _ rfl _ _ 33 rfl w1.heap.size 5 i0 _ 1 1 Tryd.underlying33 hi hz0 hz1 hz2 rfl (by decide) _ _ _ rfl (World.ownsRow_nil _ _ _ _) w.heap.size A n cap (zs.map (Value.int .u8)) rfl (by simp [HN.out]) HZ1.out (ints_one _ _) ?c3 ?c4 ?c5 ?_)
  case c3 => simp only [maxLen]; omega
  case c4 => omega
  case c5 => exact Nat.le_refl _
  intro v2 w2 hown2 hg2
  obtain ⟨A2, c2, rfl, hc2, hm2⟩ := own_form hown2
  have hb12 : Below w1.heap.size w1 w2 := below_nil hg2
  have hx2 : HiRow w2 w1.heap.size A2 n c2 0 zs := by unfold HiRow; rw [mixM_zero]; simpa using hown2
  have HX2 := Lib.hid hx2
  have hs12 := hb12.size
  unfold maxLen at hm2
  clear hg2 hown2 hx2
  go_wp2_with fail
  go_loopw [18] (fun i wr => ∃ K : Nat, K ≤ n ∧ i = .int .i64 K ∧ Hid (HiRow wr w1.heap.size A2 n c2 K zs) ∧ Below w1.heap.size w1 wr) (fun i _ => n - (intOf i).toNat)
  case atStart => exact ⟨0, by omega, rfl, HX2, hb12⟩
  case round =>
    obtain ⟨K, hK, rfl, hx, hbr⟩ := hrel
    by_cases hKn : K = n
    · have hK' : ¬ K < n := by omega
      have hxr := hx.out.rd
      rw [mixM_all (hKn.trans HN.out)] at hxr
      have HXR := Lib.hid hxr
      clear hKn hxr
      have hbR := hb1.trans (hbr.mono hs1)
      have hsR := hbR.size
      have HWr := Lib.hid (HW1.out.below hbr)
      go_wp2_with fail
      obtain ⟨W5, hW5⟩ : ∃ W5, W5 = wr.alloc (.cells #[.slice A n cap, .slice A2 n c2] 33) := ⟨_, rfl⟩
      obtain ⟨g, hg⟩ : ∃ g, g = wr.heap.size := ⟨_, rfl⟩
      rw [← hW5, ← hg]
      have hnw : W5.heap[g]? = some (.cells #[.slice A n cap, .slice A2 n c2] 33 (0, 0)) := by rw [hW5, hg]; exact heap_alloc_new wr _
      have hb45 : Below wr.heap.size wr W5 := by rw [hW5]; exact (Below.refl _ _).alloc (Nat.le_refl _) _
      have hb5 : Below w.heap.size w W5 := hbR.trans (hb45.mono hsR)
      have hs5 := hb5.size
      have hg5 : g < W5.heap.size := by rw [hW5, hg]; simp
      have HW5 := Lib.hid (HWr.out.below hb45)
      have hcells : ∀ k, k < 2 → ∃ (Ak : Option Addr) (ck : Nat) (y : List Int), W5.cell? ⟨g, k, none⟩ = some (.slice Ak n ck) ∧ n = y.length ∧ Rd W5 W5.heap.size Ak (y.map (Value.int .u8)) ∧ (∀ z ∈ y, 0 ≤ z ∧ z ≤ 255) := by
        intro k hk
        rw [cell_of_row _ _ _ _ _ _ hnw]
        match k, hk with
        | 0, _ => exact ⟨A, cap, zs, rfl, HN.out, HZ.out.below hb5 hs5, HZR.out⟩
        | 1, _ => exact ⟨A2, c2, zs.map hiF, rfl, by rw [List.length_map]; exact HN.out, HXR.out.below hb45 hb45.size, hi_range⟩
      have HCS := Lib.hid hcells
      clear hW5 hg hnw hb45 hbR hcells HWr HXR hx hbr hb1 hb12
      go_loopw [34] (fun i wr => ∃ I : Nat, I ≤ 2 ∧ i = .int .i64 I ∧ Below W5.heap.size W5 wr) (fun i _ => 2 - (intOf i).toNat)
      case atStart => exact ⟨0, by omega, rfl, Below.refl _ _⟩
      case round =>
        obtain ⟨I, hI, rfl, hb6⟩ := hrel
        obtain ⟨wo, rfl⟩ : ∃ wo : World, wo = wr := ⟨_, rfl⟩
        by_cases hI2 : I = 2
        · subst hI2
          go_wp2
          go_ret
          exact ⟨rfl, hb5.trans (hb6.mono hs5)⟩
        have hI' : I < 2 := by omega
        have hI0 : (0 : Int) ≤ I := by omega
        have hI1 : (I : Int) < 2 := by omega
        obtain ⟨Ay, cy, y, hc, hny, hry, hyr⟩ := HCS.out I hI'
        have hc6 := (hb6.cell (p := ⟨g, I, none⟩) hg5).trans hc
        have HNY := Lib.hid hny
        have HRY := Lib.hid (hry.below hb6 hb6.size)
        have HYR := Lib.hid hyr
        have HW6 := Lib.hid (HW5.out.below hb6)
        have hs6 := hb6.size
        have hbE := hb5.trans (hb6.mono hs5)
        have hsE := hbE.size
        clear hc hny hry hyr
        go_wp2_with fail
        obtain ⟨W7, hW7⟩ : ∃ W7, W7 = wo.alloc (.cells #[.int .i64 l, .int .i64 0, .int .i64 1, .int .i64 2] 31) := ⟨_, rfl⟩
        obtain ⟨h, hh⟩ : ∃ g, g = wo.heap.size := ⟨_, rfl⟩
        rw [← hW7, ← hh]
        have hnw : W7.heap[h]? = some (.cells #[.int .i64 l, .int .i64 0, .int .i64 1, .int .i64 2] 31 (0, 0)) := by rw [hW7, hh]; exact heap_alloc_new wo _
        have hb7 : Below wo.heap.size wo W7 := by rw [hW7]; exact (Below.refl _ _).alloc (Nat.le_refl _) _
        have hh7 : h < W7.heap.size := by rw [hW7, hh]; simp
        have hlv : ∀ k, k < 4 → ∃ v : Int, W7.cell? ⟨h, k, none⟩ = some (.int .i64 v) ∧ -128 ≤ v ∧ v ≤ 127 := by
          intro k hk
          rw [cell_of_row _ _ _ _ _ _ hnw]
          match k, hk with
          | 0, _ => exact ⟨l, rfl, hl⟩
          | 1, _ => exact ⟨0, rfl, by decide, by decide⟩
          | 2, _ => exact ⟨1, rfl, by decide, by decide⟩
          | 3, _ => exact ⟨2, rfl, by decide, by decide⟩
        have HLV := Lib.hid hlv
        have HW7 := Lib.hid (HW6.out.below hb7)
        have HRY7 := Lib.hid (HRY.out.below hb7 hb7.size)
        have hbE7 := hbE.trans (hb7.mono hsE)
        have hsE7 := hbE7.size
        have hb57 := hb6.trans (hb7.mono hs6)
        have hs57 := hb57.size
        clear hW7 hh hnw hb7 hlv
        go_loopw [42] (fun i wr => ∃ J : Nat, J ≤ 4 ∧ i = .int .i64 J ∧ Below W7.heap.size W7 wr) (fun i _ => 4 - (intOf i).toNat)
        case atStart => exact ⟨0, by omega, rfl, Below.refl _ _⟩
        case round =>
          obtain ⟨J, hJ, rfl, hb8⟩ := hrel
          by_cases hJ4 : J = 4
          · subst hJ4
            go_wp2
            go_roundw
            case rel => exact ⟨I + 1, by omega, by go_num, hb57.trans (hb8.mono hs57)⟩
            case measure => simp [intOf]; omega
          have hJ' : J < 4 := by omega
          have hJ0 : (0 : Int) ≤ J := by omega
          have hJ1 : (J : Int) < 4 := by omega
          obtain ⟨v, hv, v0, v1⟩ := HLV.out J hJ'
          have hv8 := (hb8.cell (p := ⟨h, J, none⟩) hh7).trans hv
          have HW8 := Lib.hid (HW7.out.below hb8)
          have HRY8 := Lib.hid (HRY7.out.below hb8 hb8.size)
          have hs8 := hb8.size
          have e0 : (chkF y v != chkF y v) = false := by simp
          obtain ⟨q, hq⟩ : ∃ q, chkF y v = q := ⟨_, rfl⟩
          rw [hq] at e0
          have HQ := Lib.hid hq
          clear hv hq
          go_wp2_with fail
          refine (check_any n Ay cy y v _ wr HNY.out HRY8.out HYR.out (by omega) (by omega) HW8.out).mono ?_
          rintro e w9 ⟨rfl, m9, h9⟩
          have hb9 : Below wr.heap.size wr w9 := by rw [h9]; exact below_drewN (Below.refl _ _) m9
          have hs9 := hb9.size
          have HRY9 := Lib.hid (HRY8.out.below hb9 hb9.size)
          rw [HQ.out]
          clear h9
          go_wp2_with fail
          refine (checkL_any n Ay cy y v _ w9 (Nat.le_refl _) HNY.out HRY9.out HYR.out (by omega) (by omega)).mono ?_
          rintro e w10 ⟨rfl, hb10⟩
          have HBR := Lib.hid (hb8.trans ((hb9.trans (hb10.mono hs9)).mono hs8))
          rw [HQ.out]
          clear hb9 hb10
          go_wp2
          go_roundw
          case rel => exact ⟨J + 1, by omega, by go_num, HBR.out⟩
          case measure => simp [intOf]; omega
    have hK' : K < n := by omega
    obtain ⟨g, rfl, hg1, hg2, hcell, hfr, hst, _⟩ := hx.out.at HN.out hK'
    obtain ⟨x0, x1⟩ := getD_range HZR.out K (by rw [← HN.out]; exact hK')
    obtain ⟨p, hp⟩ : ∃ p, zs.getD K 0 = p := ⟨_, rfl⟩
    rw [hp] at hcell hst x0 x1
    have hv : hiF p = 161 + p % 91 := rfl
    have HST := Lib.hid hst
    have HV := Lib.hid hv
    clear hp hst hv hx
    go_wp2
    go_roundw
    case rel => exact ⟨K + 1, by omega, by go_num, HST, bel_set hbr hg1 _⟩
    case measure => simp [intOf]; omega
end Go.Proofs.YtgeecngpmcjdpaaDoor
