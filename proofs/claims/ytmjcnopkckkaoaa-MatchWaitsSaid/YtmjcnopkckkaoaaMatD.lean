/- Layer 6: drop, look. -/
import Derived.Test.YtmjcnopkckkaoaaMatA
namespace Go.Proofs.Ytmjcnopkckkaoaa
set_option linter.unusedVariables false
open Go.RowKit
theorem slice8 (p n L : Nat) (hn : n ≤ L) (hL : L ≤ 8) : ∃ ad, (∀ W : World, (Instr.sliceAt 65 (.pointer (some ⟨p, 1, none⟩)) (some (.int .i64 n)) (some (.int .i64 L)) none).run Try.prog W = .ok (.slice ad (L - n) (8 - n)) W) ∧ (n < 8 → ad = some ⟨p, 1 + n, none⟩) := by
  by_cases h : n = 8
  · obtain rfl : L = 8 := by omega
    subst h
    exact ⟨some ⟨p, 1, none⟩, fun W => by go_simp, fun h => by omega⟩
  · refine ⟨some ⟨p, 1 + n, none⟩, fun W => ?_, fun _ => rfl⟩
    have e1 : ¬ 8 = n := by omega
    have e2 : (0 : Int) ≤ n := by omega
    have e3 : (n : Int) ≤ L := by omega
    have e4 : (L : Int) ≤ 8 := by omega
    go_simp
theorem slice8z (p L : Nat) (hL : L ≤ 8) : ∀ W : World, (Instr.sliceAt 65 (.pointer (some ⟨p, 1, none⟩)) none (some (.int .i64 L)) none).run Try.prog W = .ok (.slice (some ⟨p, 1, none⟩) L 8) W := fun W => by
  have e2 : (0 : Int) ≤ L := by omega
  have e4 : (L : Int) ≤ 8 := by omega
  go_simp
/-- units laid into a Match's block -/
theorem matb_lay {w : World} {p T : Nat} {xs vs : List Int} {h at_ st : Int} {o : Nat} (hx : o + vs.length ≤ xs.length) (hp : w.heap[p]? = some (.cells (lays (Value.pointer (some (⟨T, 0, none⟩ : Addr)) :: (xs.map (Value.int .i64) ++ [.int .i64 h, .int .i64 at_, .int .i64 st])) (o + 1) (vs.map (Value.int .i64))).toArray 67 (0, 0))) :
    w.heap[p]? = some (MatB T (lays xs o vs) h at_ st) := by
  rw [lays_mid (by simpa using hx), lays_map] at hp
  exact hp
set_option maxHeartbeats 1600000 in
theorem mdrop_any (w : World) (p T : Nat) (q : List Int) (at_ st : Int) (hp : MAt w p T q at_ st) (n : Nat) (h1 : 1 ≤ n) (hn : n ≤ q.length) (h0 : 0 ≤ at_) (h9 : at_ ≤ 4503599627370496) :
    Calls Try.prog 42 #[.pointer (some ⟨p, 0, none⟩), .int .i64 n] w fun e w' => e = .returned (.tuple #[]) ∧ MAt w' p T (q.drop n) (at_ + n) st ∧ w.grownBy w' (some p) := by
  have h8 := hp.le8
  obtain ⟨c0, c9, c10, c11, cf, _⟩ := hp.cells
  have hcs : ∀ j v, ((q.drop n).map (Value.int .i64))[j]? = some v → w.cell? ⟨p, 1 + n + j, none⟩ = some v := by
    intro j v hj
    have hrd := hp.rd (B := p + 1) (by omega)
    rcases hrd with h | ⟨b, o, e, _, hc⟩
    · rw [List.map_eq_nil_iff] at h; subst h; simp at hj
    · injection e with e; injection e with e1 e2; subst e1 e2
      rw [List.map_drop, List.getElem?_drop] at hj
      have hl : n + j < (q.map (Value.int .i64)).length := (List.getElem?_eq_some_iff.1 hj).1
      rw [Nat.add_assoc]
      exact (hc _ hl).trans hj
  obtain ⟨xs, hx, hb, hq⟩ := hp
  have hmv := moved hq (by omega) hn
  obtain ⟨L, hL⟩ : ∃ L, q.length = L := ⟨_, rfl⟩
  rw [hL] at c9 hb hmv h8 hn
  obtain ⟨ad2, hs2, hsa⟩ := slice8 p n L hn h8
  have hfr0 : (Value.pointer (some (⟨T, 0, none⟩ : Addr)) :: (xs.map (Value.int .i64) ++ [.int .i64 L, .int .i64 at_, .int .i64 st])).length = 12 := by simp [hx]
  have HFR0 := Lib.hid hfr0
  have HC := Lib.hid hcs
  have HX := Lib.hid hx
  have HB := Lib.hid hb
  have HMV := Lib.hid hmv
  have HL := Lib.hid hL
  have HSA := Lib.hid hsa
  have e2 : (0 : Int) ≤ n := by omega
  have e3 : (n : Int) ≤ L := by omega
  have e4 : (L : Int) ≤ 8 := by omega
  have hdl : (q.drop n).length = L - n := by rw [List.length_drop, hL]
  have HDL := Lib.hid hdl
  clear hcs hx hb hq hmv hL hsa hfr0 hdl
  go_enter Try.func42, Try.ntmps42
  go_wp2
  go_region_law (refine step_copyG rfl (.tmp 7) (.tmp 16) 24 24 rfl 3 Try.underlying24 (by kernel_rfl) (some ⟨p, 1, none⟩) ad2 8 8 (L - n) (8 - n) rfl rfl p 1 _ 67 HB.out ((q.drop n).map (Value.int .i64)) (by rw [List.length_map, HDL.out]; exact (Nat.min_eq_left (by omega)).symm) (fun hh => ⟨rfl, _, HSA.out (by rw [List.length_map, HDL.out] at hh; omega), fun j v hj => by rw [Addr.add_lit]; exact HC.out j v hj⟩) (by rw [HFR0.out, List.length_map, HDL.out]; omega) (ints_one _ _) ?_; intro w4 hg4 hb4)
  have hm4 := matb_lay (by rw [HDL.out, HX.out]; omega) hg4.out
  have hx4 : (lays xs 0 (q.drop n)).length = 8 := by rw [lays_len (by rw [HDL.out, HX.out]; omega), HX.out]
  obtain ⟨_, d9, d10, _, df, _⟩ := matb_get T _ _ _ _ hx4 hm4
  obtain ⟨ys, hys⟩ : ∃ ys, lays xs 0 (q.drop n) = ys := ⟨_, rfl⟩
  have hmv := HMV.out
  rw [hys] at hm4 hx4 hmv
  have HX4 := Lib.hid hx4
  have HM4 := Lib.hid hm4
  have HMV4 := Lib.hid hmv
  have hfr4 : (Value.pointer (some (⟨T, 0, none⟩ : Addr)) :: (ys.map (Value.int .i64) ++ [.int .i64 L, .int .i64 at_, .int .i64 st])).length = 12 := by simp [hx4]
  have HFR4 := Lib.hid hfr4
  obtain ⟨k, hk⟩ : ∃ k, k = L - n := ⟨_, rfl⟩
  obtain ⟨ad3, hs3, hsb⟩ := slice8 p k L (by omega) h8
  have hk8 : k < 8 := by omega
  obtain rfl := hsb hk8
  have hki : (L : Int) - n = k := by omega
  have hkn : L - k = n := by omega
  have hkw : IntKind.i64.wrap (k : Int) = k := by rw [IntKind.wrap_i64]; omega
  rw [← hk] at hmv
  rw [hkn] at hs3
  have HG4 := Lib.hid (grown_seq (grown_drew (grownR w (some p))) hb4.out)
  have HKN := Lib.hid hk
  clear hm4 hx4 hys hmv hfr4 hb4 hg4 hk hkn HMV c0 c9 c10 c11 cf hs2
  go_wp2
  go_region_law (refine step_clearG rfl (.tmp 31) 24 rfl 3 (.int .i64 0) Try.underlying24 (fun _ => rfl) rfl rfl p (1 + k) n (8 - k) rfl _ 67 HM4.out (by omega) (by rw [HFR4.out]; omega) ?_; intro w5 hg5 hb5)
  all_goals (
    have hg5' := hg5.out
    rw [show List.replicate n (Value.int .i64 0) = (List.replicate n (0 : Int)).map (Value.int .i64) from by rw [List.map_replicate], Nat.add_comm 1 k] at hg5'
    have hm5 := matb_lay (by rw [HX4.out]; simp; omega) hg5'
    have hx5 : (lays ys k (List.replicate n 0)).length = 8 := by rw [lays_len (by rw [HX4.out]; simp; omega), HX4.out]
    obtain ⟨zs, hzs⟩ : ∃ zs, lays ys k (List.replicate n 0) = zs := ⟨_, rfl⟩
    rw [hzs] at hm5 hx5
    obtain ⟨_, f9, f10, _, ff, _⟩ := matb_get T _ _ _ _ hx5 hm5
    have hmv5 := HMV4.out.1
    rw [← HKN.out, hzs] at hmv5
    have HX5 := Lib.hid hx5
    have HM5 := Lib.hid hm5
    have HMV5 := Lib.hid hmv5
    have HG5 := Lib.hid (grown_seq HG4.out (grown_seq (grown_drew (grownR w4 (some p))) hb5.out))
    clear hg5' hm5 hx5 hzs hmv5 hg5 hb5 d9 d10 df hs3
    go_wp2
    go_end0
    have g9 := (matb_set T zs _ _ _ HX5.out HM5.out (k : Int)).1
    have g10 := (matb_set T zs _ _ _ HX5.out g9 (at_ + n)).2.1
    have hdl := HDL.out
    rw [← HKN.out] at hdl
    exact ⟨rfl, ⟨zs, HX5.out, by rw [hdl]; exact g10, by rw [hdl]; exact HMV5.out⟩, grown_set (grown_set HG5.out _ _) _ _⟩)
set_option maxHeartbeats 1600000 in
theorem mlook_any (w : World) (p T : Nat) (q : List Int) (at_ st : Int) (hp : MAt w p T q at_ st) (B : Nat) (rs : List Rl) (ht : TrieOK w B T rs) (hB : B ≤ p) (h0 : 0 ≤ st) (h9 : st ≤ 4503599627370496) (k m : Int) (o : Bool) (hv : longL rs q = (k, m, o)) :
    Calls Try.prog 40 #[.pointer (some ⟨p, 0, none⟩)] w fun e w' => e = .returned (.tuple #[.int .i64 k, .int .i64 m, .bool o]) ∧ MAt w' p T q at_ (st + q.length) ∧ w.grownBy w' (some p) := by
  have h8 := hp.le8
  have hlt := hp.lt
  obtain ⟨c0, c9, c10, c11, cf, _⟩ := hp.cells
  obtain ⟨xs, hx, hb, hq⟩ := hp
  obtain ⟨L, hL⟩ : ∃ L, q.length = L := ⟨_, rfl⟩
  rw [hL] at c9 hb h8 hq ⊢
  have HX := Lib.hid hx
  have HB := Lib.hid hb
  have HQ := Lib.hid hq
  have HL := Lib.hid hL
  have HT := Lib.hid ht
  have HV := Lib.hid hv
  clear hx hb hq hL ht hv
  go_enter Try.func40, Try.ntmps40
  go_wp2
  go_region
  obtain ⟨w2, hw2⟩ : ∃ w2, w2 = (w.setCell ⟨p, 11, none⟩ (.int .i64 (st + L))).drew := ⟨_, rfl⟩
  have hm2 : w2.heap[p]? = some (MatB T xs L at_ (st + L)) := by rw [hw2]; exact (matb_set T xs _ _ _ HX.out HB.out (st + L)).2.2.1
  have hg2 : w.grownBy w2 (some p) := by rw [hw2]; exact grown_drew (grown_set (grownR w _) _ _)
  rw [← hw2]
  have hma2 : MAt w2 p T q at_ (st + L) := ⟨xs, HX.out, by rw [HL.out]; exact hm2, by rw [HL.out]; exact HQ.out⟩
  have hlt2 := hma2.lt
  obtain ⟨d0, d9, d10, _, df, _⟩ := hma2.cells
  rw [HL.out] at d9
  have hs2 := slice8z p L h8
  have D0 := Lib.hid d0
  have D9 := Lib.hid d9
  have HMA := Lib.hid hma2
  have HG2 := Lib.hid hg2
  have HB2 := Lib.hid (below_grownP (Below.refl B w) hg2 hB (by omega))
  have HRD := Lib.hid (hma2.rd (B := w2.heap.size) hlt2)
  clear hw2 c0 c9 c10 c11 cf hma2 hm2 hg2
  go_wp2
  refine wp_region_mixe (G := SameB p) [(0, false), (1, false), (2, false), (3, false), (4, false), (5, false), (6, false), (7, false), (8, false), (9, false), (10, false), (11, false), (12, true), (13, false), (14, false), (15, false), (16, false), (17, false), (18, false)]
    (SameB.refl _) (SameB.trans _) (by kernel_rfl) rfl (by kernel_rfl) (by kernel_rfl) ?_
  iterate 3 (refine mixe_one rfl rfl ?_; go_big_quiet_step ((intro _; rfl)); refine wpQuiet_nil ?_)
  refine mixe_one rfl rfl ?_
  go_big_quiet_step ((intro hh; rw [hh.cell, World.cell?_drew, D0.out]; exact ⟨rfl, rfl⟩))
  refine wpQuiet_nil ?_
  iterate 6 (refine mixe_one rfl rfl ?_; go_big_quiet_step ((intro _; rfl)); refine wpQuiet_nil ?_)
  refine mixe_one rfl rfl ?_
  go_big_quiet_step ((intro hh; rw [hh.cell, World.cell?_drew, D9.out]; exact ⟨rfl, rfl⟩))
  refine wpQuiet_nil ?_
  refine mixe_one rfl rfl ?_
  go_big_quiet_step ((intro _; rfl))
  refine wpQuiet_nil ?_
  refine mixe_call rfl ?_
  go_wp2_with fail
  refine (long_ok w2.drew B T rs (HT.out.below HB2.out.drew (Nat.le_refl _)) (by show B ≤ w2.heap.size; omega) L (some ⟨p, 1, none⟩) 8 q w2.heap.size HL.out.symm (HRD.out.below (Below.refl _ _).drew (Nat.le_refl _)) (Nat.le_refl _) h8 (by simp [maxLen]) k m o HV.out).mono ?_
  rintro e w3 ⟨rfl, hb3⟩
  have hb23 : Below w2.heap.size w2 w3 := (Below.refl _ _).drew.trans hb3
  have HM3 := Lib.hid (HMA.out.below hb23 hlt2)
  have HG3 := Lib.hid (grown_seq HG2.out (grown_below hb23))
  go_wp2_with fail
  refine ⟨SameB.of hb3 (by show p < w2.heap.size; omega), ?_⟩
  clear hb3 hb23
  iterate 6 (refine mixe_one rfl rfl ?_; go_big_quiet_step ((intro _; rfl)); refine wpQuiet_nil ?_)
  refine NoPanic.normal ?_
  go_wp2
  go_ret3
  exact ⟨rfl, HM3.out, HG3.out⟩
end Go.Proofs.Ytmjcnopkckkaoaa
