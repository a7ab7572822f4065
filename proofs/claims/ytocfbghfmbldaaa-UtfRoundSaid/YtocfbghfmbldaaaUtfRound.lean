/- UtfRound: the walk. -/
import Derived.Test.YtocfbghfmbldaaaUtfOwn
namespace Go.Proofs.Ytocfbghfmbldaaa
set_option linter.unusedVariables false
open Go.RowKit

set_option maxHeartbeats 400000 in
theorem round_no (s t : Int) (w : World) (hs : 0 ≤ s ∧ s ≤ 4294967295) (ht : 0 ≤ t ∧ t ≤ 4294967295) (h : scB (s % 1114112) = false ∨ scB (s % 1114112) = true ∧ scB (t % 1114112) = false) :
    Calls Try.prog 4 #[.int .u32 s, .int .u32 t] w fun e w' => e = .returned (.bool true) ∧ Below w.heap.size w w' := by
  have hA : scB (s % 1114112) = false → szI (s % 1114112) = 0 := fun h => by simp [szI, h]
  have hB : scB (t % 1114112) = false → szI (t % 1114112) = 0 := fun h => by simp [szI, h]
  have hC : scB (s % 1114112) = true → (szI (s % 1114112) == 0) = false := fun h => beq_eq_false_iff_ne.2 (by simp only [szI, h, Bool.true_eq_false, if_false]; (repeat' split) <;> omega)
  rcases h with h | ⟨h1, h2⟩
  · have hz := hA h
    clear hA hB hC
    go_enter Try.func4, Try.ntmps4
    go_wp2_with (first
      | (go_at_call 7; refine (awake_any _).mono ?_; rintro e w1 ⟨rfl, hb1⟩)
      | (go_at_call 10; refine (scalarU _ _).mono ?_; rintro e w' ⟨rfl, rfl⟩)
      | (go_at_call 11; refine (sizeU _ _).mono ?_; rintro e w' ⟨rfl, rfl⟩))
    go_ret
    exact ⟨rfl, hb1⟩
  · have hz := hB h2
    have hz1 := hC h1
    clear hA hB hC
    go_enter Try.func4, Try.ntmps4
    go_wp2_with (first
      | (go_at_call 7; refine (awake_any _).mono ?_; rintro e w1 ⟨rfl, hb1⟩)
      | (go_at_call 10; refine (scalarU _ _).mono ?_; rintro e w' ⟨rfl, rfl⟩)
      | (go_at_call 11; refine (sizeU _ _).mono ?_; rintro e w' ⟨rfl, rfl⟩))
    go_ret
    exact ⟨rfl, hb1⟩

set_option maxHeartbeats 800000 in
theorem round_yes (s t : Int) (w : World) (hs : 0 ≤ s ∧ s ≤ 4294967295) (ht : 0 ≤ t ∧ t ≤ 4294967295) (h1 : scB (s % 1114112) = true) (h2 : scB (t % 1114112) = true) :
    Calls Try.prog 4 #[.int .u32 s, .int .u32 t] w fun e w' => e = .returned (.bool true) ∧ Below w.heap.size w w' := by
  obtain ⟨ea, hea⟩ : ∃ ea, encL (s % 1114112) = ea := ⟨_, rfl⟩
  obtain ⟨eb, heb⟩ : ∃ eb, encL (t % 1114112) = eb := ⟨_, rfl⟩
  have hla : ea.length ≤ 4 := hea ▸ encL_len _
  have hlb : eb.length ≤ 4 := heb ▸ encL_len _
  have hpa : 0 < ea.length := hea ▸ encL_pos _
  have hpb : 0 < eb.length := heb ▸ encL_pos _
  have hba : ∀ z ∈ ea, 0 ≤ z ∧ z ≤ 255 := hea ▸ encL_bytes _ h1
  have hbb : ∀ z ∈ eb, 0 ≤ z ∧ z ≤ 255 := heb ▸ encL_bytes _ h2
  have hone : oneF (ea ++ eb) = (s % 1114112, (ea.length : Int), 0) := by rw [← hea, encL_sz _ h1]; exact one_enc _ h1 _
  have htwo : oneF eb = (t % 1114112, (eb.length : Int), 0) := by rw [← heb, encL_sz _ h2]; simpa using one_enc _ h2 []
  have hsz : szI (s % 1114112) = (ea.length : Int) := by rw [← hea, encL_sz _ h1]
  have HEA := Lib.hid hea
  have HEB := Lib.hid heb
  have H1 := Lib.hid hone
  have H2 := Lib.hid htwo
  have HBA := Lib.hid hba
  have HBB := Lib.hid hbb
  clear hea heb hone htwo hba hbb
  go_enter Try.func4, Try.ntmps4
  go_wp2_with (first
      | (go_at_call 7; refine (awake_any _).mono ?_; rintro e w1 ⟨rfl, hb1⟩)
      | (go_at_call 10; refine (scalarU _ _).mono ?_; rintro e w' ⟨rfl, rfl⟩))
  refine (put_own 0 _ _ [] _ _ rfl Rd.nil (by simp) (by simp) h1 ea ea.length HEA.out rfl).mono ?_
  rintro e w2 ⟨A2, c2, rfl, hr2, hc2, _, hb2⟩
  go_wp2_with fail
  refine (put_own ea.length _ _ ea _ _ rfl hr2 (by omega) hc2 h2 (ea ++ eb) (ea.length + eb.length) (by rw [HEB.out]) (by simp)).mono ?_
  rintro e w3 ⟨A3, c3, rfl, hr3, hc3, hm3, hb3⟩
  have HC2 := Lib.hid hc2
  clear hr2 hc2
  go_wp2_with fail
  refine (one_at _ _ _ (ea ++ eb) _ _ _ _ (by simp) hr3 (by simp; omega) (by simp; omega) (fun z hz => (List.mem_append.1 hz).elim (HBA.out z) (HBB.out z)) H1.out).mono ?_
  rintro e w4 ⟨rfl, hb4⟩
  unfold maxLen at hm3
  have hr4 := Rd.drop (k := ea.length) (n := (ea ++ eb).length) (cap := c3) (hr3.below hb4 hb4.size) (by simp) (by simp) (by simp; omega)
  have hne : ¬ c3 = ea.length := by omega
  rw [if_neg hne, ← List.map_drop, List.drop_left] at hr4
  have HR4 := Lib.hid hr4
  have HR3 := Lib.hid hr3
  clear hr3 hr4
  go_wp2_with fail
  refine (one_at _ _ _ eb _ _ _ _ rfl HR4.out (by omega) (by omega) HBB.out H2.out).mono ?_
  rintro e w5 ⟨rfl, hb5⟩
  have e1 : ((s % 1114112) == (s % 1114112)) = true := by simp
  have e2 : ((t % 1114112) == (t % 1114112)) = true := by simp
  have e3 : ((ea.length : Int) == (ea.length : Int)) = true := by simp
  have hcv := fun (w : World) (A : Option Addr) (zs : List Int) (n cap : Nat) => run_str (P := Try.prog) w 23 9 5 Try.underlying23 Try.underlying5 Try.underlying9 w.heap.size A zs n cap
  have HCV := Lib.hid hcv
  clear hcv
  go_wp2_with fail
  refine wp_region_mix (G := fun w w' => Below w.heap.size w w') [(0, false), (1, false), (2, false), (3, false), (4, false), (5, false), (6, false), (7, false), (8, false), (9, false), (10, false), (11, false), (12, false), (13, false), (14, false), (15, false), (16, false), (17, false), (18, false), (19, true), (20, false), (21, false), (22, false), (23, false), (24, false), (25, false), (26, false), (27, false), (28, false), (29, false), (30, false), (31, false), (34, false), (38, false), (39, false), (40, false), (32, true), (33, false), (35, true), (36, false), (37, false), (41, false), (42, false), (43, false)]
    below_refl below_trans (by kernel_rfl) rfl (by kernel_rfl) (by kernel_rfl) (below_refl _).drew ?_
  iterate 19 (refine mix_one rfl rfl ?_; go_big_quiet_step ((intro _; rfl)); refine wpQuiet_nil ?_)
  refine mix_call rfl ?_
  intro w6 hb6
  go_wp2_with (go_at_call 11; refine (sizeU _ _).mono ?_; rintro e w' ⟨rfl, rfl⟩)
  refine ⟨Below.refl _ _, ?_⟩
  iterate 16 (refine mix_one rfl rfl ?_; go_big_quiet_step ((intro _; rfl)); refine wpQuiet_nil ?_)
  refine mix_call rfl ?_
  intro w7 hb7
  go_wp2_with fail
  refine (put_own 0 _ _ [] (s % 1114112) _ rfl Rd.nil (by simp) (by simp) h1 ea ea.length HEA.out rfl).mono ?_
  rintro e w8 ⟨A8, c8, rfl, hr8, hc8, _, hb8⟩
  go_wp2_with fail
  refine ⟨hb8, ?_⟩
  refine mix_one rfl rfl ?_
  go_big_quiet_step ((intro hh; rw [HCV.out _ A8 ea ea.length c8 rfl (hr8.below hh hh.size)]; exact ⟨rfl, rfl⟩))
  refine wpQuiet_nil ?_
  refine mix_call rfl ?_
  intro w9 hb9
  go_wp2_with fail
  refine (put_own 0 _ _ [] (t % 1114112) _ rfl Rd.nil (by simp) (by simp) h2 eb eb.length HEB.out rfl).mono ?_
  rintro e w10 ⟨A10, c10, rfl, hr10, hc10, _, hb10⟩
  go_wp2_with fail
  refine ⟨hb10, ?_⟩
  refine mix_one rfl rfl ?_
  go_big_quiet_step ((intro hh; rw [HCV.out _ A10 eb eb.length c10 rfl (hr10.below hh hh.size)]; exact ⟨rfl, rfl⟩))
  refine wpQuiet_nil ?_
  iterate 4 (refine mix_one rfl rfl ?_; go_big_quiet_step ((intro _; rfl)); refine wpQuiet_nil ?_)
  refine mix_nil ?_
  intro w11 hb11
  refine NoPanic.normal ?_
  go_wp2
  go_ret
  refine ⟨ret_bool (str_eq HEA.out HEB.out h1 h2), ?_⟩
  have q1 := below_trans _ _ _ hb1 hb2
  have q2 := below_trans _ _ _ q1 hb3
  have q3 := below_trans _ _ _ q2 hb4
  have q4 := below_trans _ _ _ q3 hb5
  have q5 := below_trans _ _ _ q4 hb6
  have q6 := below_trans _ _ _ q5 hb7
  have q7 := below_trans _ _ _ q6 hb8
  have q8 := below_trans _ _ _ q7 hb9
  have q9 := below_trans _ _ _ q8 hb10
  exact below_trans _ _ _ q9 hb11

theorem utfRound_any (s t : Int) (w : World) (hs : 0 ≤ s ∧ s ≤ 4294967295) (ht : 0 ≤ t ∧ t ≤ 4294967295) :
    Calls Try.prog 4 #[.int .u32 s, .int .u32 t] w fun e w' => e = .returned (.bool true) ∧ Below w.heap.size w w' := by
  cases h1 : scB (s % 1114112)
  · exact round_no s t w hs ht (.inl h1)
  · cases h2 : scB (t % 1114112)
    · exact round_no s t w hs ht (.inr ⟨h1, h2⟩)
    · exact round_yes s t w hs ht h1 h2
end Go.Proofs.Ytocfbghfmbldaaa
