/- Texts of this seat, one behind the other: StrI, StrW, CdLr, CdLx. -/
import Derived.Test.YtncpokioagpclaaGreatDoorZ37
import Derived.Test.YtncpokioagpclaaGreatDoorZ40
import Derived.Test.YtncpokioagpclaaGreatDoorZ31
import Derived.Handy
import Derived.Test.YtncpokioagpclaaGreatDoorZ23
import Derived.Test.YtncpokioagpclaaGreatDoorZ35
namespace Go.Proofs.YtncpokioagpclaaGreatDoor
set_option linter.unusedVariables false
set_option linter.unusedSimpArgs false
set_option linter.unnecessarySimpa false
open Go.RowKit
/-- a fault, as the program hands it on -/
def fltV (f : Flt) : Value := .agg #[.int .i64 f.side, .int .i64 f.at_, .int .i64 f.err]
end Go.Proofs.YtncpokioagpclaaGreatDoor
namespace Go.Proofs.YtncpokioagpclaaGreatDoor
set_option linter.unusedVariables false
set_option linter.unusedSimpArgs false
set_option linter.unnecessarySimpa false
open Go.RowKit
theorem below_allocS (w : World) (o : Obj) : Below w.heap.size w (w.alloc o) := (Below.refl _ w).alloc (Nat.le_refl _) o
theorem below_drewS (B : Nat) (w : World) (m : Nat) : Below B w (w.drewN m) := ⟨rfl, rfl, rfl, Nat.le_refl _, fun _ _ => rfl⟩
theorem rdx_rd {X : Nat → Prop} {w : World} {A : Option Addr} {xs : List Value} (h : Rdx X w A xs) : Rd w w.heap.size A xs := by
  rcases h with h | ⟨b, off, h1, h2, _, h3⟩
  · exact .inl h
  · exact .inr ⟨b, off, h1, h2, h3⟩
end Go.Proofs.YtncpokioagpclaaGreatDoor
namespace Go.Proofs.YtncpokioagpclaaGreatDoor
set_option linter.unusedVariables false
set_option linter.unusedSimpArgs false
set_option linter.unnecessarySimpa false
open Go.RowKit
theorem cascii_any (c : Int) (w : World) (h0 : 0 ≤ c) (h1 : c ≤ 255) :
    Calls Tryz.prog 113 #[.int .u8 c] w fun e w' => e = .returned (.tuple #[.int .i64 (if c < 128 then c else 0), .bool (decide (c < 128))]) ∧ w = w' := by
  by_cases hc : c < 128
  · have h2 : ¬ 128 ≤ c := by omega
    have hw : wrap64 c = c := by unfold wrap64; omega
    have hw2 : IntKind.i64.wrap c = c := by rw [IntKind.wrap_i64]; omega
    rw [if_pos hc, decide_eq_true hc]
    go_enter Tryz.func113, Tryz.ntmps113
    go_wp2
    go_ret2
    exact ⟨rfl, rfl⟩
  · have h2 : 128 ≤ c := by omega
    rw [if_neg hc, decide_eq_false hc]
    go_enter Tryz.func113, Tryz.ntmps113
    go_wp2
    go_ret2
    exact ⟨rfl, rfl⟩
theorem asR_min (K : Nat) (h : 128 ≤ K) : asR (min (K + 1) 128) = asR (min K 128) := by rw [Nat.min_eq_right h, Nat.min_eq_right (by omega)]
set_option maxRecDepth 100000 in
set_option maxHeartbeats 3200000 in
theorem singles_as (w : World) : Calls Tryz.prog 112 #[.func (.func 113) #[] #[]] w fun e w' => ∃ v, e = .returned v ∧ OwnRs w.heap.size w' v (asR 128) ∧ Below w.heap.size w w' := by
  have HB0 := Lib.hid (Below.refl w.heap.size w)
  go_enter Tryz.func112, Tryz.ntmps112
  go_wp2
  go_loopw [3, 7] (fun v i wr => ∃ K : Nat, K ≤ 256 ∧ i = .int .i64 K ∧ Hid (OwnRs w.heap.size wr v (asR (min K 128))) ∧ Hid (Below w.heap.size w wr)) (fun _ i _ => 256 - (intOf i).toNat)
  case atStart => exact ⟨0, by omega, rfl, Lib.hid (OwnRs.nil _ _), HB0⟩
  case round =>
    obtain ⟨K, hK, rfl, ho, hb⟩ := hrel
    by_cases hKn : K = 256
    · subst hKn
      go_wp2_with fail
      go_ret
      exact ⟨_, rfl, ho.out, hb.out⟩
    have hK' : K < 256 := by omega
    have k3 : (0 : Int) ≤ K := by omega
    have k4 : (K : Int) < 256 := by omega
    have hwr := hb.out.size
    have hal : (asR (min K 128)).length ≤ 128 := by rw [asR_len]; omega
    obtain ⟨A3, c3, hv3, _⟩ := ho.out.form
    have k5 : IntKind.u8.wrap (K : Int) = K := by rw [IntKind.wrap_u8]; omega
    have k6 : (K : Int) % 256 = K := by omega
    have D1 := Lib.hid (cascii_any (K : Int) wr k3 (by omega))
    by_cases hc : K < 128
    · have hc' : (K : Int) < 128 := by omega
      rw [if_pos hc', decide_eq_true hc'] at D1
      have HB := Lib.hid hb.out
      have HS := Lib.hid (show asR (min (K + 1) 128) = asR (min K 128) ++ [([(K : Int)], [(K : Int)])] by rw [Nat.min_eq_left (by omega), Nat.min_eq_left (by omega), asR_succ])
      obtain ⟨acc, hacc⟩ : ∃ acc, asR (min K 128) = acc := ⟨_, rfl⟩
      rw [hacc] at ho HS hal hv3
      subst hv3
      have HAL := Lib.hid (show acc.length ≤ 1048576 by omega)
      clear hc hc' hacc hal hKn hb
      go_wp2_with (first | (go_at_call 113; refine D1.out.mono ?_; rintro e w5 ⟨rfl, rfl⟩) | (at_builtin; refine wpList_appRl rfl _ _ rfl w.heap.size (.slice A3 acc.length c3) acc (K : Int) (K : Int) rfl ho.out rfl HAL.out hwr ?_))
      intro v' w4 HN HBB
      have HB4 := Lib.hid (HBB.out w.heap.size w (Nat.le_refl _) HB.out)
      have HN2 : Hid (OwnRs w.heap.size w4 v' (asR (min (K + 1) 128))) := by rw [HS.out]; exact HN
      clear HN
      go_wp2_with fail
      go_roundw
      case rel => exact ⟨K + 1, by omega, by go_num, HN2, HB4⟩
      case measure => simp [intOf]; omega
    · have hc' : ¬ (K : Int) < 128 := by omega
      rw [if_neg hc', decide_eq_false hc'] at D1
      have HN2 := Lib.hid (asR_min K (by omega))
      have HB4 := Lib.hid hb.out
      clear hc hc' hal hKn hb hv3
      go_wp2_with (go_at_call 113; refine D1.out.mono ?_; rintro e w' ⟨rfl, rfl⟩)
      go_roundw
      case rel => exact ⟨K + 1, by omega, by go_num, by rw [HN2.out]; exact ho, HB4⟩
      case measure => simp [intOf]; omega
set_option maxRecDepth 100000 in
set_option maxHeartbeats 3200000 in
theorem singles_th (w : World) : Calls Tryz.prog 112 #[.func (.func 56) #[] #[]] w fun e w' => ∃ v, e = .returned v ∧ OwnRs w.heap.size w' v (thR 256) ∧ Below w.heap.size w w' := by
  have HB0 := Lib.hid (Below.refl w.heap.size w)
  go_enter Tryz.func112, Tryz.ntmps112
  go_wp2
  go_loopw [3, 7] (fun v i wr => ∃ K : Nat, K ≤ 256 ∧ i = .int .i64 K ∧ Hid (OwnRs w.heap.size wr v (thR K)) ∧ Hid (Below w.heap.size w wr)) (fun _ i _ => 256 - (intOf i).toNat)
  case atStart => exact ⟨0, by omega, rfl, Lib.hid (OwnRs.nil _ _), HB0⟩
  case round =>
    obtain ⟨K, hK, rfl, ho, hb⟩ := hrel
    by_cases hKn : K = 256
    · subst hKn
      go_wp2_with fail
      go_ret
      exact ⟨_, rfl, ho.out, hb.out⟩
    have hK' : K < 256 := by omega
    have k3 : (0 : Int) ≤ K := by omega
    have k4 : (K : Int) < 256 := by omega
    have hwr := hb.out.size
    have hal : (thR K).length ≤ 256 := by have := thR_le K; omega
    obtain ⟨A3, c3, hv3, _⟩ := ho.out.form
    have k5 : IntKind.u8.wrap (K : Int) = K := by rw [IntKind.wrap_u8]; omega
    have k6 : (K : Int) % 256 = K := by omega
    have D1 := Lib.hid (decode_any (K : Int) wr k3 (by omega))
    obtain ⟨d, t, hd⟩ : ∃ d t, scF (K : Int) = (d, t) := ⟨_, _, rfl⟩
    rw [hd] at D1
    cases t with
    | false =>
      have HN2 := Lib.hid (thR_no K (by rw [hd]))
      have HB4 := Lib.hid hb.out
      clear hd hal hKn hb hv3
      go_wp2_with (go_at_call 56; refine D1.out.mono ?_; rintro e w' ⟨rfl, rfl⟩)
      go_roundw
      case rel => exact ⟨K + 1, by omega, by go_num, by rw [HN2.out]; exact ho, HB4⟩
      case measure => simp [intOf]; omega
    | true =>
      have HB := Lib.hid hb.out
      have HS := Lib.hid (show thR (K + 1) = thR K ++ [([(K : Int)], [d])] by rw [thR_yes K (by rw [hd]), hd])
      obtain ⟨acc, hacc⟩ : ∃ acc, thR K = acc := ⟨_, rfl⟩
      rw [hacc] at ho HS hal hv3
      subst hv3
      have HAL := Lib.hid (show acc.length ≤ 1048576 by omega)
      clear hd hacc hal hKn hb
      go_wp2_with (first | (go_at_call 56; refine D1.out.mono ?_; rintro e w5 ⟨rfl, rfl⟩) | (at_builtin; refine wpList_appRl rfl _ _ rfl w.heap.size (.slice A3 acc.length c3) acc (K : Int) d rfl ho.out rfl HAL.out hwr ?_))
      intro v' w4 HN HBB
      have HB4 := Lib.hid (HBB.out w.heap.size w (Nat.le_refl _) HB.out)
      have HN2 : Hid (OwnRs w.heap.size w4 v' (thR (K + 1))) := by rw [HS.out]; exact HN
      clear HN
      go_wp2_with fail
      go_roundw
      case rel => exact ⟨K + 1, by omega, by go_num, HN2, HB4⟩
      case measure => simp [intOf]; omega
set_option maxRecDepth 100000 in
set_option maxHeartbeats 1600000 in
theorem rules_1 (w : World) (hT : Tabs w) : Calls Tryz.prog 80 #[.int .i64 1] w fun e w' => ∃ v, e = .returned v ∧ OwnRs w.heap.size w' v (cdR 1) ∧ Below w.heap.size w w' := by
  go_enter Tryz.func80, Tryz.ntmps80
  go_wp2_with fail
  refine (singles_as w).mono ?_
  rintro e w2 ⟨v2, rfl, ho2, hb2⟩
  have HO2 := Lib.hid ho2
  have HB2 := Lib.hid hb2
  clear ho2 hb2 hT
  go_wp2_with fail
  go_ret
  exact ⟨_, rfl, HO2.out, HB2.out⟩
set_option maxRecDepth 100000 in
set_option maxHeartbeats 1600000 in
theorem rules_2 (w : World) (hT : Tabs w) : Calls Tryz.prog 80 #[.int .i64 2] w fun e w' => ∃ v, e = .returned v ∧ OwnRs w.heap.size w' v (cdR 2) ∧ Below w.heap.size w w' := by
  go_enter Tryz.func80, Tryz.ntmps80
  go_wp2_with fail
  refine (vrules_any w hT.vis).mono ?_
  rintro e w2 ⟨v2, rfl, ho2, hb2⟩
  have HO2 := Lib.hid ho2
  have HB2 := Lib.hid hb2
  clear ho2 hb2 hT
  go_wp2_with fail
  go_ret
  exact ⟨_, rfl, HO2.out, HB2.out⟩
set_option maxRecDepth 100000 in
set_option maxHeartbeats 1600000 in
theorem rules_3 (w : World) (hT : Tabs w) : Calls Tryz.prog 80 #[.int .i64 3] w fun e w' => ∃ v, e = .returned v ∧ OwnRs w.heap.size w' v (cdR 3) ∧ Below w.heap.size w w' := by
  go_enter Tryz.func80, Tryz.ntmps80
  go_wp2_with fail
  refine (trules_any w hT.tc).mono ?_
  rintro e w2 ⟨v2, rfl, ho2, hb2⟩
  have HO2 := Lib.hid ho2
  have HB2 := Lib.hid hb2
  clear ho2 hb2 hT
  go_wp2_with fail
  go_ret
  exact ⟨_, rfl, HO2.out, HB2.out⟩
set_option maxRecDepth 100000 in
set_option maxHeartbeats 1600000 in
theorem rules_4 (w : World) (hT : Tabs w) : Calls Tryz.prog 80 #[.int .i64 4] w fun e w' => ∃ v, e = .returned v ∧ OwnRs w.heap.size w' v (cdR 4) ∧ Below w.heap.size w w' := by
  go_enter Tryz.func80, Tryz.ntmps80
  go_wp2_with fail
  refine (vnrules_any w hT.vn).mono ?_
  rintro e w2 ⟨v2, rfl, ho2, hb2⟩
  have HO2 := Lib.hid ho2
  have HB2 := Lib.hid hb2
  clear ho2 hb2 hT
  go_wp2_with fail
  go_ret
  exact ⟨_, rfl, HO2.out, HB2.out⟩
set_option maxRecDepth 100000 in
set_option maxHeartbeats 1600000 in
theorem rules_5 (w : World) (hT : Tabs w) : Calls Tryz.prog 80 #[.int .i64 5] w fun e w' => ∃ v, e = .returned v ∧ OwnRs w.heap.size w' v (cdR 5) ∧ Below w.heap.size w w' := by
  go_enter Tryz.func80, Tryz.ntmps80
  go_wp2_with fail
  refine (singles_th w).mono ?_
  rintro e w2 ⟨v2, rfl, ho2, hb2⟩
  have HO2 := Lib.hid ho2
  have HB2 := Lib.hid hb2
  clear ho2 hb2 hT
  go_wp2_with fail
  go_ret
  exact ⟨_, rfl, HO2.out, HB2.out⟩
set_option maxRecDepth 100000 in
set_option maxHeartbeats 1600000 in
theorem rules_6 (w : World) (hT : Tabs w) : Calls Tryz.prog 80 #[.int .i64 6] w fun e w' => ∃ v, e = .returned v ∧ OwnRs w.heap.size w' v (cdR 6) ∧ Below w.heap.size w w' := by
  go_enter Tryz.func80, Tryz.ntmps80
  go_wp2_with fail
  refine (tmrules_any w hT.tm).mono ?_
  rintro e w2 ⟨v2, rfl, ho2, hb2⟩
  have HO2 := Lib.hid ho2
  have HB2 := Lib.hid hb2
  clear ho2 hb2 hT
  go_wp2_with fail
  go_ret
  exact ⟨_, rfl, HO2.out, HB2.out⟩
theorem crules_any (k : Nat) (h1 : 1 ≤ k) (h6 : k ≤ 6) (w : World) (hT : Tabs w) : Calls Tryz.prog 80 #[.int .i64 (k : Int)] w fun e w' => ∃ v, e = .returned v ∧ OwnRs w.heap.size w' v (cdR k) ∧ Below w.heap.size w w' := by
  match k, h1, h6 with
  | 1, _, _ => exact rules_1 w hT
  | 2, _, _ => exact rules_2 w hT
  | 3, _, _ => exact rules_3 w hT
  | 4, _, _ => exact rules_4 w hT
  | 5, _, _ => exact rules_5 w hT
  | 6, _, _ => exact rules_6 w hT
theorem cdR_ne (k : Nat) (h1 : 1 ≤ k) (h6 : k ≤ 6) : 0 < (cdR k).length ∧ (cdR k).length ≤ 1024 := by
  match k, h1, h6 with
  | 1, _, _ => decide +kernel
  | 2, _, _ => decide +kernel
  | 3, _, _ => decide +kernel
  | 4, _, _ => decide +kernel
  | 5, _, _ => decide +kernel
  | 6, _, _ => decide +kernel
set_option maxRecDepth 100000 in
theorem slice_nil (g n c : Nat) : ∀ W : World, (binOp .eql 41 (.slice (Option.some ⟨g, 0, none⟩) n c) (.slice none 0 0)).run Tryz.prog W = .ok (.bool false) W := by
  intro W; simp only [binOp]; rfl
theorem OwnRs.some {base : Nat} {w : World} {v : Value} {rs : List Rl} (h : OwnRs base w v rs) (hp : 0 < rs.length) : ∃ g c, v = .slice (Option.some ⟨g, 0, none⟩) rs.length c := by
  obtain ⟨xs, ho, -⟩ := h
  rcases ho.2 with ⟨rfl, h2⟩ | ⟨g, cap, cur, h1, -⟩
  · have := ho.1
    omega
  · exact ⟨g, cap, h1⟩
set_option maxRecDepth 100000 in
set_option maxHeartbeats 1600000 in
theorem cof_any (k : Nat) (h1 : 1 ≤ k) (h6 : k ≤ 6) (w : World) (hT : Tabs w) : Calls Tryz.prog 47 #[.int .i64 (k : Int)] w fun e w' => ∃ T, e = .returned (.pointer (some ⟨T, 0, none⟩)) ∧ TabAt w' w'.heap.size T (cdR k) ∧ Stab w.heap.size w'.heap.size w' (fun W => TabAt W w'.heap.size T (cdR k)) ∧ w.heap.size ≤ T ∧ Below w.heap.size w w' := by
  have C1 := Lib.hid (crules_any k h1 h6 w hT)
  have HP := Lib.hid (cdR_p h1 h6)
  have HNE := Lib.hid (cdR_ne k h1 h6)
  clear hT
  go_enter Tryz.func47, Tryz.ntmps47
  go_wp2_with fail
  refine C1.out.mono ?_
  rintro e w1 ⟨v1, rfl, ho1, hb1⟩
  obtain ⟨g, c, rfl⟩ := ho1.some HNE.out.1
  obtain ⟨rs, hrs⟩ : ∃ rs, cdR k = rs := ⟨_, rfl⟩
  have HRS := Lib.hid hrs
  rw [hrs] at ho1 HP HNE ⊢
  have C2 := Lib.hid (tab_of_okS rs.length _ c rs w1.heap.size w1 ho1.at (Nat.le_refl _) HNE.out.2 HP.out.right HP.out.closed)
  obtain ⟨n, hn⟩ : ∃ n, rs.length = n := ⟨_, rfl⟩
  rw [hn] at C2 ⊢
  have HB1 := Lib.hid hb1
  have hnil := slice_nil g n c
  clear ho1 hb1 C1 hrs hn
  go_wp2_with fail
  refine C2.out.mono ?_
  rintro e w2 ⟨T, rfl, h2, h3, h4, h5⟩
  have HA := Lib.hid h2
  have HS := Lib.hid h3
  have HL := Lib.hid h4
  have HB2 := Lib.hid (HB1.out.trans (h5.mono HB1.out.size))
  clear h2 h3 h4 h5 C2
  go_wp2_with fail
  go_ret
  rw [HRS.out]
  exact ⟨T, rfl, HA.out, HS.out.mono HB1.out.size (Nat.le_refl _), Nat.le_trans HB1.out.size HL.out, HB2.out⟩
end Go.Proofs.YtncpokioagpclaaGreatDoor
namespace Go.Proofs.YtncpokioagpclaaGreatDoor
set_option linter.unusedVariables false
set_option linter.unusedSimpArgs false
set_option linter.unnecessarySimpa false
open Go.RowKit Go.Lib
/-- what the package looks at, but for ISCII's tables -/
structure CodOK (w : World) : Prop where
  tabs : Tabs w
  case : CaseVar 5 caseA w
  utf : Lib.Utf8Tabs 7 8 w
theorem CodOK.below {w w' : World} (h : CodOK w) (hb : Below w.heap.size w w') : CodOK w' := ⟨h.tabs.below hb, CaseVar_below h.case hb, Utf8Tabs_below h.utf hb⟩
theorem EAtF.lowL {L L' : Nat} {X : Nat → Prop} {w : World} {B p T : Nat} {rs : List Rl} {R : List Value} {q : List Int} {at_ st : Int} {ah : List Int} (h : EAtF L X w B p rs T R q at_ st ah) (hl : L' ≤ L) : EAtF L' X w B p rs T R q at_ st ah :=
  { h with tab := by obtain ⟨T0, ⟨a, b⟩, c⟩ := h.tab; exact ⟨T0, ⟨by omega, b.mono hl (Nat.le_refl _)⟩, c⟩ }
theorem find_nm (k : Nat) (hk : k < 8) (w : World) (h : CodOK w) : Calls Tryz.prog 44 #[.string (nmB k)] w fun e w' => e = .returned (.tuple #[.int .i64 (k : Int), .bool true]) ∧ Below w.heap.size w w' := by
  obtain ⟨h1, h2, h3⟩ := nm_low k hk
  exact cfind_any (nmB k) w h3 h.case h.utf (some k) (by rw [lowT_ascii _ h2]; exact h1)
set_option maxRecDepth 100000 in
set_option maxHeartbeats 1600000 in
theorem cdecode_any (k : Nat) (h1 : 1 ≤ k) (h6 : k ≤ 6) (w : World) (h : CodOK w) : Calls Tryz.prog 12 #[.string (nmB k)] w fun e w' => ∃ V, e = .returned (.tuple #[V, .int .i64 0]) ∧ DT k w.heap.size w'.heap.size w' V ∧ Below w.heap.size w w' := by
  have C1 := Lib.hid (find_nm k (by omega) w h)
  have HO := Lib.hid h
  obtain ⟨s, hs⟩ : ∃ s, nmB k = s := ⟨_, rfl⟩
  rw [hs] at C1 ⊢
  have hk0 : ¬ (k : Int) = 0 := by omega
  have hk7 : ¬ (k : Int) = 7 := by omega
  have e0 : ((k : Int) == 0) = false := by simpa using hk0
  have e7 : ((k : Int) == 7) = false := by simpa using hk7
  clear h hs
  go_enter Tryz.func12, Tryz.ntmps12
  go_wp2_with fail
  refine C1.out.mono ?_
  rintro e w1 ⟨rfl, hb1⟩
  have C2 := Lib.hid (cof_any k h1 h6 w1 (HO.out.below hb1).tabs)
  have HB1 := Lib.hid hb1
  clear hb1 C1
  go_wp2_with fail
  refine C2.out.mono ?_
  rintro e w2 ⟨T, rfl, ha, hst, hl, hb2⟩
  have C3 := Lib.hid (mdecode_anyS w2 w1.heap.size w2.heap.size T (cdR k) hst hl (Nat.le_refl _) hb2.size)
  have HB2 := Lib.hid (HB1.out.trans (hb2.mono HB1.out.size))
  have HS2 := Lib.hid hb2.size
  clear ha hst hl hb2 C2
  go_wp2_with fail
  refine C3.out.mono ?_
  rintro e w3 ⟨p, R, B', rfl, hT, hp, hB, hm, hb3⟩
  have HT := Lib.hid hT
  have HP := Lib.hid hp
  have HB' := Lib.hid hB
  have HM := Lib.hid hm
  have HB3 := Lib.hid (HB2.out.trans (hb3.mono HB2.out.size))
  clear hT hp hB hm hb3 C3
  go_wp2_with fail
  go_ret2
  have hs1 := HB1.out.size
  have hs2 := HS2.out
  have hB := HB'.out
  exact ⟨_, rfl, ⟨p, R, B', rfl, HT.out.mono (by omega) (Nat.le_refl _), by omega, HP.out, HM.out.lt, Nat.le_refl _, HM.out⟩, HB3.out⟩
set_option maxRecDepth 100000 in
set_option maxHeartbeats 1600000 in
theorem cencode_any (k : Nat) (h1 : 1 ≤ k) (h6 : k ≤ 6) (w : World) (h : CodOK w) : Calls Tryz.prog 25 #[.string (nmB k)] w fun e w' => ∃ V, e = .returned (.tuple #[V, .int .i64 0]) ∧ ET k w.heap.size w'.heap.size w' V ∧ Below w.heap.size w w' := by
  have C1 := Lib.hid (find_nm k (by omega) w h)
  have HO := Lib.hid h
  obtain ⟨s, hs⟩ : ∃ s, nmB k = s := ⟨_, rfl⟩
  rw [hs] at C1 ⊢
  have hk0 : ¬ (k : Int) = 0 := by omega
  have hk7 : ¬ (k : Int) = 7 := by omega
  have e0 : ((k : Int) == 0) = false := by simpa using hk0
  have e7 : ((k : Int) == 7) = false := by simpa using hk7
  clear h hs
  go_enter Tryz.func25, Tryz.ntmps25
  go_wp2_with fail
  refine C1.out.mono ?_
  rintro e w1 ⟨rfl, hb1⟩
  have C2 := Lib.hid (cof_any k h1 h6 w1 (HO.out.below hb1).tabs)
  have HB1 := Lib.hid hb1
  clear hb1 C1
  go_wp2_with fail
  refine C2.out.mono ?_
  rintro e w2 ⟨T, rfl, ha, hst, hl, hb2⟩
  have C3 := Lib.hid (mencode_anyF w2 w1.heap.size w2.heap.size T (cdR k) hst hl (Nat.le_refl _))
  have HB2 := Lib.hid (HB1.out.trans (hb2.mono HB1.out.size))
  have HS2 := Lib.hid hb2.size
  clear ha hst hl hb2 C2
  go_wp2_with fail
  refine C3.out.mono ?_
  rintro e w3 ⟨p, T', R, rfl, hp, hE, hb3⟩
  have HP := Lib.hid hp
  have HE := Lib.hid hE
  have HB3 := Lib.hid (HB2.out.trans (hb3.mono HB2.out.size))
  clear hp hE hb3 C3
  go_wp2_with fail
  go_ret2
  have hs1 := HB1.out.size
  have hs2 := HS2.out
  have hE := HE.out (fun _ => False) fun b hb => hb.elim
  exact ⟨_, rfl, ⟨p, T', _, R, rfl, by omega, hE.lt, Nat.le_refl _, hE.lowL (by omega)⟩, HB3.out⟩
end Go.Proofs.YtncpokioagpclaaGreatDoor
