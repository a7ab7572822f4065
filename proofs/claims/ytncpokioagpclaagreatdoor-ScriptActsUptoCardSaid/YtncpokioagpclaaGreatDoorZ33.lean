/- Texts of this seat, one behind the other: TabQ0, TabQf, TabQr. -/
import Derived.Test.YtncpokioagpclaaGreatDoorZ29
import Derived.Test.YtncpokioagpclaaGreatDoorZ6
import Derived.Test.YtncpokioagpclaaGreatDoorZ32
import Derived.Test.YtncpokioagpclaaGreatDoorZ1
import Derived.Test.YtncpokioagpclaaGreatDoorZ4
namespace Go.Proofs.YtncpokioagpclaaGreatDoor
set_option linter.unusedVariables false
set_option linter.unusedSimpArgs false
set_option linter.unnecessarySimpa false
open Go.RowKit
theorem joinsR_long {rs : List (List Int × List Int)} (h : Good rs) {ah us : List Int} {k n : Int} {o : Bool} (hl : longL rs (ah ++ us) = (k, n, o)) (hne : ah ≠ []) : joinsR rs ah us = decide ((ah.length : Int) < n) := by
  have ha : 0 < ah.length := List.length_pos_iff.2 hne
  obtain ⟨k', n', o', h1, h2⟩ := h.long (ah ++ us)
  rw [hl] at h1
  injection h1 with _ h1
  injection h1 with h1 _
  subst h1
  by_cases hn : (ah.length : Int) < n
  · rw [decide_eq_true hn]
    rcases h.step hl with ⟨_, e⟩ | ⟨m, e1, e2, e3, _, K, _, hK, e6, _⟩
    · omega
    · have hml : rs[K].1.length = m := by rw [e6, List.length_take]; omega
      refine joinsR_iff.2 ⟨rs[K], List.getElem_mem hK, ha, by omega, ?_, by rw [hml]; exact e6.symm⟩
      rw [hml]; simpa using e3
  · rw [decide_eq_false hn, Bool.eq_false_iff]
    intro hj
    obtain ⟨r, hr, _, g1, g2, g3⟩ := joinsR_iff.1 hj
    have := h2.max r hr (by simpa using g2) g3
    omega
theorem longR_ge {rs : List (List Int × List Int)} {r : List Int × List Int} (h : r ∈ rs) : (r.1.length : Int) ≤ longR rs := (longFrom_ge rs 0).2.1 r h
theorem joinsR_full {rs : List (List Int × List Int)} {ah us : List Int} (h : longR rs ≤ ah.length) : joinsR rs ah us = false := by
  rw [Bool.eq_false_iff]; intro hj
  obtain ⟨r, hr, _, g1, _⟩ := joinsR_iff.1 hj
  have := longR_ge hr
  omega
/-- no In reaches further than the longest one -/
theorem joinsR_cut {rs : List (List Int × List Int)} {ah us : List Int} {M : Nat} (h : M = us.length ∨ longR rs ≤ (ah.length : Int) + M) : joinsR rs ah (us.take M) = joinsR rs ah us := by
  rcases h with rfl | h
  · rw [List.take_length]
  rw [Bool.eq_iff_iff, joinsR_iff, joinsR_iff]
  have key : ∀ r ∈ rs, (ah ++ us.take M).take r.1.length = (ah ++ us).take r.1.length := fun r hr => by
    have := longR_ge hr
    rw [List.take_append, List.take_append, List.take_take, Nat.min_eq_left (by omega)]
  constructor
  · rintro ⟨r, hr, g0, g1, g2, g3⟩
    rw [key r hr] at g3
    exact ⟨r, hr, g0, g1, by rw [List.length_take] at g2; omega, g3⟩
  · rintro ⟨r, hr, g0, g1, g2, g3⟩
    have := longR_ge hr
    rw [← key r hr] at g3
    exact ⟨r, hr, g0, g1, by rw [List.length_take]; omega, g3⟩
theorem TrieOKO.cells {w : World} {B T O : Nat} {rs : List Rl} (h : TrieOKO w B T O rs) : ∃ A n c A' n' c', w.cell? ⟨T, O, none⟩ = some (.slice A n c) ∧ w.cell? ⟨T, O + 1, none⟩ = some (.slice A' n' c') := by
  obtain ⟨hg, ns, g, h2⟩ := h
  obtain ⟨-, A, c, xs, A', c', ys, V, k1, k2, k3, k4, k5, k6, _⟩ := g
  exact ⟨_, _, _, _, _, _, k1, k6⟩
/-- at block T, below B, lies a table of the rules -/
structure TabAt (w : World) (B T : Nat) (rs : List Rl) : Prop where
  lt : T < B
  is : ∃ A1 n1 c1 A2 n2 c2 A3 n3 c3 A4 n4 c4, Held w T #[.slice A1 n1 c1, .slice A2 n2 c2, .slice A3 n3 c3, .slice A4 n4 c4, .int .i64 (longR rs), .int .i64 (longR (turnR rs))] 110
  read : TrieOKO w B T 0 rs
  write : TrieOKO w B T 2 (turnR rs)
theorem TabAt.below {w w' : World} {B B' T : Nat} {rs : List Rl} (h : TabAt w B T rs) (hb : Below B w w') (hB : B ≤ B') : TabAt w' B' T rs := by
  obtain ⟨h1, ⟨A1, n1, c1, A2, n2, c2, A3, n3, c3, A4, n4, c4, h2⟩, h3, h4⟩ := h
  exact ⟨by omega, ⟨A1, n1, c1, A2, n2, c2, A3, n3, c3, A4, n4, c4, (hb.block T h1).trans h2⟩, h3.below hb hB, h4.below hb hB⟩
/-- what Joins and Join ask of a table: at cell O of block T, below B -/
structure TabJo (w : World) (B T O : Nat) (rs : List Rl) : Prop where
  lt : T < B
  long : w.cell? ⟨T, O + 4, none⟩ = some (.int .i64 (longR rs))
  read : TrieOKO w B T O rs
theorem TabJo.below {w w' : World} {B B' T O : Nat} {rs : List Rl} (h : TabJo w B T O rs) (hb : Below B w w') (hB : B ≤ B') : TabJo w' B' T O rs :=
  ⟨Nat.lt_of_lt_of_le h.lt hB, (hb.cell (p := ⟨T, O + 4, none⟩) h.lt).trans h.long, h.read.below hb hB⟩
set_option maxRecDepth 100000 in
set_option maxHeartbeats 3200000 in
theorem tab_joinsO (w : World) (B T O : Nat) (rs : List Rl) (h : TabJo w B T O rs) (hB : B ≤ w.heap.size) (na : Nat) (Aa : Option Addr) (ca : Nat) (ahead : List Int) (Ba : Nat) (hna : na = ahead.length) (hra : Rd w Ba Aa (ahead.map (Value.int .i64))) (hBa : Ba ≤ w.heap.size) (hnac : na ≤ ca) (hcam : ca ≤ maxLen) (hna64 : na ≤ 64)
    (n : Nat) (A : Option Addr) (c : Nat) (us : List Int) (B' : Nat) (hn : n = us.length) (hr : Rd w B' A (us.map (Value.int .i64))) (hB' : B' ≤ w.heap.size) (hnc : n ≤ c) (hcm : c ≤ maxLen) (hn64 : n ≤ 64) (v : Bool) (hv : joinsR rs ahead us = v) :
    Calls Tryz.prog 234 #[.pointer (some ⟨T, O, none⟩), .slice Aa na ca, .slice A n c] w fun e w' => e = .returned (.bool v) ∧ Below w.heap.size w w' := by
  have g4 := h.long
  have H3 := Lib.hid h.read
  have HG := Lib.hid h.read.good
  have hTw : T < w.heap.size := Nat.lt_of_lt_of_le h.lt hB
  have hlr := longR_rng rs 8 (fun r hr => (h.read.good.side r hr).2.1)
  obtain ⟨x, hx⟩ : ∃ x, longR rs = x := ⟨_, rfl⟩
  rw [hx] at g4 hlr
  have HX := Lib.hid hx
  have HNA := Lib.hid hna
  have HRA := Lib.hid hra
  have HN := Lib.hid hn
  have HR := Lib.hid hr
  have HV := Lib.hid hv
  unfold maxLen at hcam hcm
  clear h hna hra hn hr hv hx
  by_cases hz : na = 0
  · have hv' : v = false := by
      rw [← HV.out]
      have : ahead = [] := List.eq_nil_of_length_eq_zero (by rw [← HNA.out]; exact hz)
      rw [this, joinsR_nil]
    subst hz hv'
    go_enter Tryz.func234, Tryz.ntmps234
    go_wp2
    go_ret
    exact ⟨rfl, Below.refl _ _⟩
  have d0 : ((na : Int) == 0) = false := by simp; omega
  by_cases hf : x ≤ na
  · have hv' : v = false := by
      rw [← HV.out]
      exact joinsR_full (by rw [HX.out, ← HNA.out]; exact hf)
    subst hv'
    have d1 : decide ((na : Int) ≥ x) = true := by simp; omega
    go_enter Tryz.func234, Tryz.ntmps234
    go_wp2
    go_ret
    exact ⟨rfl, Below.refl _ _⟩
  have d1 : decide ((na : Int) ≥ x) = false := by simp; omega
  obtain ⟨q, hq⟩ : ∃ q : Nat, x - (na : Int) = q := ⟨(x - na).toNat, by omega⟩
  obtain ⟨M, hM⟩ : ∃ M, min n q = M := ⟨_, rfl⟩
  have hmin1 : (if (q : Int) < (n : Int) then (q : Int) else (n : Int)) = M := by rw [← hM]; split <;> omega
  have hmin2 : min (n : Int) (q : Int) = M := by omega
  have hMn : M ≤ n := by omega
  have hwq : IntKind.i64.wrap (q : Int) = q := by rw [IntKind.wrap_i64]; omega
  have hM0 : (0 : Int) ≤ M := by omega
  have hMc : (M : Int) ≤ c := by omega
  have hMt : (M : Int).toNat = M := by omega
  obtain ⟨xs, hxs⟩ : ∃ xs, us.take M = xs := ⟨_, rfl⟩
  have hcut : joinsR rs ahead xs = v := by
    rw [← hxs, joinsR_cut ?_, HV.out]
    rw [← HN.out, HX.out, ← HNA.out]
    omega
  have HRX : Hid (M = xs.length ∧ Rd w B' A (xs.map (Value.int .i64))) := by
    refine ⟨by rw [← hxs, List.length_take, ← HN.out]; omega, ?_⟩
    rw [← hxs]; exact rd_tk M HR.out
  have HQQ := Lib.hid hq
  have hne : Hid (ahead ≠ []) := fun e => hz (by rw [HNA.out, e]; rfl)
  have hz1 : 0 < na := by omega
  have HVX := Lib.hid hcut
  obtain ⟨k, m, o, hl, hls⟩ := HG.out.long (ahead ++ xs)
  have hdec := joinsR_long HG.out hl hne.out
  rw [HVX.out, ← HNA.out] at hdec
  have HL := Lib.hid hl
  have hd1 : decide (m > (na : Int)) = v := hdec.symm
  have HDD := Lib.hid hd1
  clear hl hls hcut hxs hz hf hdec hM hd1
  go_enter Tryz.func234, Tryz.ntmps234
  go_wp2_with fail
  refine wp_region_mixe (G := fun w w' => Below w.heap.size w w') [(0, false), (1, false), (2, false), (3, false), (4, false), (5, true), (6, true), (7, true), (8, false), (9, false), (10, false), (11, false), (12, false), (13, false), (14, false)]
    below_refl below_trans (by kernel_rfl) rfl (by kernel_rfl) (by kernel_rfl) ?_
  iterate 5 (refine mixe_one rfl rfl ?_; go_big_quiet_step ((intro _; rfl)); refine wpQuiet_nil ?_)
  refine mixe_call rfl ?_
  go_wp2_with fail
  have hb1 : Below w.heap.size w ((w.alloc (.cells #[.slice Aa na ca, .slice A M c] 34)).drew) := (((Below.refl _ w).alloc (Nat.le_refl _) _)).drew
  have HN1 : Hid (Held ((w.alloc (.cells #[.slice Aa na ca, .slice A M c] 34)).drew) w.heap.size #[.slice Aa na ca, .slice A M c] 34) := Held.new w.drew #[.slice Aa na ca, .slice A M c] 34
  refine ⟨((Below.refl _ w.drew).alloc (Nat.le_refl _) (.cells #[.slice Aa na ca, .slice A M c] 34)), ?_⟩
  obtain ⟨W1, hW1⟩ : ∃ W1, (w.alloc (.cells #[.slice Aa na ca, .slice A M c] 34)).drew = W1 := ⟨_, rfl⟩
  rw [hW1] at hb1 HN1 ⊢
  have HB1 := Lib.hid hb1
  have hs1 := hb1.size
  have C1 := Lib.hid (concat_any na Aa ca ahead Ba M A c xs B' W1 w.heap.size HN1.out HNA.out (HRA.out.below (hb1.mono hBa) (Nat.le_refl _)) (Nat.le_trans hBa hs1) HRX.out.1 (HRX.out.2.below (hb1.mono hB') (Nat.le_refl _)) (Nat.le_trans hB' hs1) (by omega) (by omega) (by omega))
  clear hb1 hW1
  refine mixe_call rfl ?_
  go_wp2_with fail
  refine C1.out.mono ?_
  rintro e w2 ⟨v2, rfl, ho2, hb2⟩
  obtain ⟨A5, c5, rfl, hc5, hc6⟩ := ho2.form
  obtain ⟨L, hL⟩ : ∃ L, (ahead ++ xs).length = L := ⟨_, rfl⟩
  have hrd := ho2.rd
  rw [hL] at hc5 ⊢
  have hs2 := hb2.size
  have HB2 := Lib.hid (HB1.out.trans (hb2.mono hs1))
  have L1 := Lib.hid (long_okO w2 B T O rs (H3.out.below (HB2.out.mono hB) (Nat.le_refl _)) (Nat.le_trans hB HB2.out.size) L A5 c5 (ahead ++ xs) w2.heap.size hL.symm hrd (Nat.le_refl _) hc5 hc6 k m o HL.out)
  have HB12 := Lib.hid hb2
  clear ho2 hb2 C1 hrd
  go_wp2_with fail
  refine ⟨HB12.out, ?_⟩
  refine mixe_call rfl ?_
  go_wp2_with fail
  refine L1.out.mono ?_
  rintro e w3 ⟨rfl, hb3⟩
  have HB3 := Lib.hid (HB2.out.trans (hb3.mono HB2.out.size))
  have HB23 := Lib.hid hb3
  clear hb3 L1
  go_wp2_with fail
  refine ⟨HB23.out, ?_⟩
  iterate 7 (refine mixe_one rfl rfl ?_; go_big_quiet_step ((intro _; rfl)); refine wpQuiet_nil ?_)
  refine NoPanic.normal ?_
  have hd1 := HDD.out
  go_wp2_with fail
  go_ret
  exact ⟨rfl, HB3.out⟩
set_option maxRecDepth 100000 in
set_option maxHeartbeats 3200000 in
theorem tab_joinXO (w : World) (B T O : Nat) (rs : List Rl) (h : TabJo w B T O rs) (hB : B ≤ w.heap.size) (na : Nat) (Aa : Option Addr) (ca : Nat) (ahead : List Int) (Ba : Nat) (hna : na = ahead.length) (hra : Rd w Ba Aa (ahead.map (Value.int .i64))) (hBa : Ba ≤ w.heap.size) (hnac : na ≤ ca) (hcam : ca ≤ maxLen) (hna64 : na ≤ 64)
    (n : Nat) (A : Option Addr) (c : Nat) (us : List Int) (B' : Nat) (hn : n = us.length) (hr : Rd w B' A (us.map (Value.int .i64))) (hB' : B' ≤ w.heap.size) (hnc : n ≤ c) (hcm : c ≤ maxLen) (hn64 : n ≤ 64) (p z d : Int) :
    Calls Tryz.prog 232 #[.pointer (some ⟨T, O, none⟩), .slice Aa na ca, .agg #[.int .i64 p, .int .i64 z, .slice A n c, .int .i64 d]] w fun e w' => (d = 0 ∧ joinsR rs ahead us = true ∧ e = .returned (.agg #[.int .i64 p, .int .i64 z, .slice none 0 0, .int .i64 3]) ∨ ¬ (d = 0 ∧ joinsR rs ahead us = true) ∧ e = .returned (.agg #[.int .i64 p, .int .i64 z, .slice A n c, .int .i64 d])) ∧ Below w.heap.size w w' := by
  have hb0 : Below w.heap.size w ((w.alloc (.cells #[.int .i64 p, .int .i64 z, .slice A n c, .int .i64 d] 51)).alloc (.cells #[.int .i64 0, .int .i64 0, .slice none 0 0, .int .i64 0] 51)) := ((Below.refl _ w).alloc (Nat.le_refl _) _).alloc (by simp) _
  have HB0 := Lib.hid hb0
  have HX0 := Lib.hid ((Held.new w #[.int .i64 p, .int .i64 z, .slice A n c, .int .i64 d] 51).alloc (.cells #[.int .i64 0, .int .i64 0, .slice none 0 0, .int .i64 0] 51))
  have HZ0 : Hid (Held ((w.alloc (.cells #[.int .i64 p, .int .i64 z, .slice A n c, .int .i64 d] 51)).alloc (.cells #[.int .i64 0, .int .i64 0, .slice none 0 0, .int .i64 0] 51)) (w.heap.size + 1) #[.int .i64 0, .int .i64 0, .slice none 0 0, .int .i64 0] 51) := by
    have := Held.new (w.alloc (.cells #[.int .i64 p, .int .i64 z, .slice A n c, .int .i64 d] 51)) #[.int .i64 0, .int .i64 0, .slice none 0 0, .int .i64 0] 51
    simp only [World.size_alloc] at this
    exact this
  by_cases hd : d = 0
  · subst hd
    obtain ⟨x, hx⟩ : ∃ x, joinsR rs ahead us = x := ⟨_, rfl⟩
    have J1 := Lib.hid (tab_joinsO _ B T O rs (h.below (hb0.mono hB) (Nat.le_refl _)) (Nat.le_trans hB hb0.size) na Aa ca ahead Ba hna (hra.below (hb0.mono hBa) (Nat.le_refl _)) (Nat.le_trans hBa hb0.size) hnac hcam hna64 n A c us B' hn (hr.below (hb0.mono hB') (Nat.le_refl _)) (Nat.le_trans hB' hb0.size) hnc hcm hn64 x hx)
    have HX := Lib.hid hx
    clear hb0 h hna hra hn hr hx
    go_enter Tryz.func232, Tryz.ntmps232
    go_wp2_with fail
    refine J1.out.mono ?_
    rintro e w3 ⟨rfl, hb3⟩
    have HX3 := Lib.hid (HX0.out.below hb3 HX0.out.lt)
    have HZ3 := Lib.hid (HZ0.out.below hb3 HZ0.out.lt)
    have HB3 := Lib.hid (HB0.out.trans (hb3.mono HB0.out.size))
    have c0 := HX3.out.cell 0
    have c1 := HX3.out.cell 1
    have c2 := HX3.out.cell 2
    have c3 := HX3.out.cell 3
    have hblk : w3.heap[w.heap.size + 1]? = some (.cells #[.int .i64 0, .int .i64 0, .slice none 0 0, .int .i64 0] 51 (0, 0)) := HZ3.out
    clear hb3 J1
    cases x with
    | true =>
      go_wp2_with (refine wpList_store_row rfl _ _ _ rfl (w.heap.size + 1) #[.int .i64 p, .int .i64 z, .slice none 0 0, .int .i64 3] rfl rfl _ _ hblk infotok4 rfl (by simp [Value.oneCell']) ?_)
      have hq := setRow_heap w3 (w.heap.size + 1) _ #[.int .i64 p, .int .i64 z, .slice none 0 0, .int .i64 3] _ _ hblk
      go_wp2_with fail
      exact tok_ret (g := w.heap.size + 1) rfl rfl hq rfl rfl ⟨.inl ⟨by trivial, HX.out, rfl⟩, below_row HB3.out (by omega) _⟩
    | false =>
      go_wp2_with (refine wpList_store_row rfl _ _ _ rfl (w.heap.size + 1) #[.int .i64 p, .int .i64 z, .slice A n c, .int .i64 0] rfl rfl _ _ hblk infotok4 rfl (by simp [Value.oneCell']) ?_)
      have hq := setRow_heap w3 (w.heap.size + 1) _ #[.int .i64 p, .int .i64 z, .slice A n c, .int .i64 0] _ _ hblk
      go_wp2_with fail
      exact tok_ret (g := w.heap.size + 1) rfl rfl hq rfl rfl ⟨.inr ⟨fun h => (by rw [HX.out] at h; cases h.2), rfl⟩, below_row HB3.out (by omega) _⟩
  · have hne : (d == 0) = false := by simpa using hd
    have HND := Lib.hid hd
    clear hb0 h hna hra hn hr hd
    go_enter Tryz.func232, Tryz.ntmps232
    go_wp2_with fail
    have hbr : Below w.heap.size w ((w.alloc (.cells #[.int .i64 p, .int .i64 z, .slice A n c, .int .i64 d] 51)).alloc (.cells #[.int .i64 p, .int .i64 z, .slice A n c, .int .i64 d] 51)) := ((Below.refl _ w).alloc (Nat.le_refl _) _).alloc (by simp) _
    have hq : ((w.alloc (.cells #[.int .i64 p, .int .i64 z, .slice A n c, .int .i64 d] 51)).alloc (.cells #[.int .i64 p, .int .i64 z, .slice A n c, .int .i64 d] 51)).heap[w.heap.size + 1]? = some (.cells #[.int .i64 p, .int .i64 z, .slice A n c, .int .i64 d] 51 (0, 0)) := by
      have := Held.new (w.alloc (.cells #[.int .i64 p, .int .i64 z, .slice A n c, .int .i64 d] 51)) #[.int .i64 p, .int .i64 z, .slice A n c, .int .i64 d] 51
      simp only [World.size_alloc] at this
      exact this
    exact tok_ret (g := w.heap.size + 1) rfl rfl hq rfl rfl ⟨.inr ⟨fun h => HND.out h.1, rfl⟩, hbr⟩
end Go.Proofs.YtncpokioagpclaaGreatDoor
namespace Go.Proofs.YtncpokioagpclaaGreatDoor
set_option linter.unusedVariables false
set_option linter.unusedSimpArgs false
set_option linter.unnecessarySimpa false
open Go.RowKit
theorem find_isT (rs : List (List Int × List Int)) (u : List Int) : rs.any (isT u) = decide (¬ findR rs u < 0) := by
  by_cases h : findR rs u < 0
  · rw [decide_eq_false (by omega), Bool.eq_false_iff]
    intro hk
    obtain ⟨r, hr, e⟩ := List.any_eq_true.1 hk
    exact findR_neg.1 h r hr (of_decide_eq_true e)
  · rw [decide_eq_true h]
    rw [findR_neg] at h
    refine List.any_eq_true.2 ?_
    rcases findFrom_eq rs u 0 with ⟨_, h2⟩ | ⟨_, _, r, hr, h3⟩
    · exact absurd h2 h
    · exact ⟨r, hr, decide_eq_true h3⟩
theorem turn_check {rs : List (List Int × List Int)} (h : checkR rs = (-1, 0)) : checkR (turnR rs) = (-1, 0) := by
  rcases check_good rs [] 0 h (by omega) with ⟨g1, g2, g3⟩ | g
  · refine check_ok _ _ _ (by have := turnR_len rs; omega) ?_ (turnFrom_apart _ _ trivial)
    intro r hr
    obtain ⟨s, hs, rfl⟩ := turnR_mem hr
    exact ⟨(g2 s hs).2, (g2 s hs).1⟩
  · subst g; rfl
set_option maxRecDepth 100000 in
set_option maxHeartbeats 3200000 in
theorem ends1_any (P : Nat) (u : Int) (A3 : Option Addr) (n3 c3 : Nat) (v4 : Value) (xs : List Int) (B : Nat) (w : World) (hP : w.cell? ⟨P, 0, none⟩ = some (.int .i64 u)) (hPl : P < w.heap.size) (hv4 : ∃ A4 n4 c4, v4 = .slice A4 n4 c4)
    (hn : n3 = xs.length) (hr : Rd w B A3 (xs.map (Value.int .i64))) (hB : B ≤ w.heap.size) (h1 : 1 ≤ n3) (h3 : n3 ≤ c3) (hc : c3 ≤ maxLen) (v : Bool) (hv : (xs.getD (xs.length - 1) 0 == u) = v) :
    Calls Tryz.prog 162 #[.agg #[.slice A3 n3 c3, v4], .pointer (some ⟨P, 0, none⟩)] w fun e w' => e = .returned (.bool v) ∧ Below w.heap.size w w' := by
  obtain ⟨A4, n4, c4, rfl⟩ := hv4
  have hb : ∀ o, Below w.heap.size w (w.alloc o) := fun o => (Below.refl _ _).alloc (Nat.le_refl _) _
  have HB := Lib.hid hb
  obtain ⟨b5, o5, rfl, h5, hc5⟩ := rd_ints hr (by omega)
  have r5 := hc5 (n3 - 1) (by omega)
  obtain ⟨l, hl⟩ : ∃ l, xs.getD (n3 - 1) 0 = l := ⟨_, rfl⟩
  rw [hl] at r5
  rw [← hn, hl] at hv
  obtain ⟨L, hL⟩ : ∃ L : Nat, (n3 : Int) - 1 = (L : Int) := ⟨n3 - 1, by omega⟩
  rw [show n3 - 1 = L by omega] at r5
  have hL0 : (0 : Int) ≤ L := by omega
  have hL1 : (L : Int) < n3 := by omega
  have hwL : IntKind.i64.wrap (L : Int) = L := by rw [IntKind.wrap_i64]; unfold maxLen at hc; omega
  have r6 : (w.alloc (.cells #[.slice (some ⟨b5, o5, none⟩) n3 c3, .slice A4 n4 c4] 104)).cell? ⟨b5, o5 + L, none⟩ = some (.int .i64 l) := ((hb _).cell (p := ⟨b5, o5 + L, none⟩) (by show b5 < _; omega)).trans r5
  have r7 : (w.alloc (.cells #[.slice (some ⟨b5, o5, none⟩) n3 c3, .slice A4 n4 c4] 104)).cell? ⟨P, 0, none⟩ = some (.int .i64 u) := ((hb _).cell (p := ⟨P, 0, none⟩) (by show P < _; omega)).trans hP
  have HV := Lib.hid hv
  have q0 : (w.alloc (.cells #[.slice (some ⟨b5, o5, none⟩) n3 c3, .slice A4 n4 c4] 104)).cell? ⟨w.heap.size, 0, none⟩ = some (.slice (some ⟨b5, o5, none⟩) n3 c3) := World.cell?_alloc_new (w := w) _ _ 0
  clear hr hc5 hl hv hb hn r5 hP
  go_enter Tryz.func162, Tryz.ntmps162
  go_wp2_with fail
  go_quiet (fail)
  go_wp2_with fail
  go_ret
  exact ⟨ret_bool HV.out.symm, (HB.out _).trans ((below_dN _ _).mono (HB.out _).size)⟩
set_option maxRecDepth 100000 in
set_option maxHeartbeats 3200000 in
theorem endsI_any (n : Nat) (A : Option Addr) (c : Nat) (rs : List Rl) (B : Nat) (P : Nat) (u : Int) (w : World) (hr : RsAt w B A n c rs) (hB : B ≤ w.heap.size) (hs : ∀ r ∈ rs, 1 ≤ r.1.length) (hP : Held w P #[.int .i64 u] 3) :
    Calls Tryz.prog 170 #[.slice A n c, .func (.func 162) #[] #[.pointer (some ⟨P, 0, none⟩)]] w fun e w' => ∃ k : Int, e = .returned (.int .i64 k) ∧ decide (0 ≤ k) = rs.any (endsT u) ∧ Below w.heap.size w w' := by
  have HR := Lib.hid hr
  have HS := Lib.hid hs
  have HP := Lib.hid hP
  have hn1 := hr.fits
  have hn2 := hr.small
  unfold maxLen at hn2
  clear hr hs hP
  go_enter Tryz.func170, Tryz.ntmps170
  go_wp2
  go_loopw [8] (fun i wr => ∃ K : Nat, K ≤ n ∧ i = .int .i64 K ∧ Hid (Below w.heap.size w wr) ∧ Hid ((rs.take K).any (endsT u) = false)) (fun i _ => n - (intOf i).toNat)
  case atStart => exact ⟨0, by omega, rfl, Lib.hid (Below.refl _ _), Lib.hid (by simp)⟩
  case round =>
    obtain ⟨K, hK, rfl, hb, hf⟩ := hrel
    by_cases hKn : K = n
    · have hK' : ¬ K < n := by omega
      have HE : Hid (rs.any (endsT u) = false) := by
        have := hf.out
        rwa [List.take_of_length_le (by rw [← HR.out.len, hKn]; omega)] at this
      clear hKn hf
      go_wp2
      go_ret
      exact ⟨-1, rfl, by rw [HE.out]; rfl, hb.out⟩
    have hK' : K < n := by omega
    have hK1 : K < rs.length := by rw [← HR.out.len]; exact hK'
    obtain ⟨b, of2, rfl, hbB, A3, n3, c3, A4, n4, c4, g1, g2, e1, e2, e3, e4, f1, f2, f3, f4⟩ := HR.out.at hK1
    have k1 := (hb.out.cell (p := ⟨b, of2 + K * 2, none⟩) (by show b < _; omega)).trans g1
    have k2 := (hb.out.cell (p := ⟨b, of2 + K * 2 + 1, none⟩) (by show b < _; omega)).trans g2
    have k3 : (0 : Int) ≤ K := by omega
    have k4 : (K : Int) < n := by omega
    have hsx := HS.out _ (List.getElem_mem hK1)
    have hp7 := any_take (p := endsT u) hK1
    rw [hf.out, Bool.false_or] at hp7
    have hb2 : endsT u rs[K] = (rs[K].1.getD (rs[K].1.length - 1) 0 == u) := rfl
    rw [hb2] at hp7
    obtain ⟨x, hx⟩ : ∃ x, (rs[K].1.getD (rs[K].1.length - 1) 0 == u) = x := ⟨_, rfl⟩
    rw [hx] at hp7
    have HQ := Lib.hid (HP.out.below hb.out HP.out.lt)
    have hsz := hb.out.size
    have E1 := Lib.hid (ends1_any P u A3 n3 c3 (.slice A4 n4 c4) rs[K].1 B wr (HQ.out.cell 0) HQ.out.lt ⟨_, _, _, rfl⟩ e1 (e4.below (hb.out.mono hB) (Nat.le_refl _)) (by omega) (by omega) e2 e3 x hx)
    have HF := Lib.hid hp7
    have hany : Hid (x = true → rs.any (endsT u) = true) := fun h => by
      rw [← List.take_append_drop (K + 1) rs, List.any_append, HF.out, h]; rfl
    clear g1 g2 e1 e4 f1 f4 hb2 hx hp7 hKn hf hsx e3 f3
    go_wp2_with fail
    refine E1.out.mono ?_
    rintro e w5 ⟨rfl, hb5⟩
    have HB5 := Lib.hid (hb.out.trans (hb5.mono hsz))
    clear hb5 hb
    cases x with
    | true =>
      go_wp2_with fail
      go_ret
      exact ⟨K, rfl, by rw [hany.out (by trivial)]; simp, HB5.out⟩
    | false =>
      go_wp2_with fail
      go_roundw
      case rel => exact ⟨K + 1, by omega, by go_num, HB5, HF⟩
      case measure => simp [intOf]; omega
set_option maxRecDepth 100000 in
set_option maxHeartbeats 3200000 in
theorem endsQ_any (n : Nat) (A : Option Addr) (c : Nat) (rs : List Rl) (B : Nat) (u : Int) (w : World) (hr : RsAt w B A n c rs) (hB : B ≤ w.heap.size) (hs : ∀ r ∈ rs, 1 ≤ r.1.length) (v : Bool) (hv : rs.any (endsT u) = v) :
    Calls Tryz.prog 148 #[.slice A n c, .int .i64 u] w fun e w' => e = .returned (.bool v) ∧ Below w.heap.size w w' := by
  have hb1 : Below w.heap.size w (w.alloc (.cells #[.int .i64 u] 3)) := (Below.refl _ _).alloc (Nat.le_refl _) _
  have hC : Hid (Calls Tryz.prog 161 #[.slice A n c, .func (.func 162) #[] #[.pointer (some ⟨w.heap.size, 0, none⟩)]] (w.alloc (.cells #[.int .i64 u] 3)) fun e w' => e = .returned (.bool v) ∧ Below w.heap.size w w') := by
    have I1 := Lib.hid (endsI_any n A c rs B w.heap.size u _ (hr.below (hb1.mono hB) (Nat.le_refl _)) (Nat.le_trans hB hb1.size) hs (Held.new w #[.int .i64 u] 3))
    have HB1 := Lib.hid hb1
    have HV := Lib.hid hv
    obtain ⟨W, hW⟩ : ∃ W, w.alloc (.cells #[.int .i64 u] 3) = W := ⟨_, rfl⟩
    rw [hW] at HB1 I1 ⊢
    obtain ⟨p, hp⟩ : ∃ p, w.heap.size = p := ⟨_, rfl⟩
    rw [hp] at I1 ⊢
    have HPP := Lib.hid hp
    have hs1 : p ≤ W.heap.size := by have := HB1.out.size; omega
    clear hr hv hW hb1 hp
    show Calls _ _ _ _ _
    go_enter Tryz.func161, Tryz.ntmps161
    go_wp2_with fail
    refine I1.out.mono ?_
    rintro e w5 ⟨k, rfl, hk, hb5⟩
    have HK := Lib.hid (hk.trans HV.out)
    have HB5 := Lib.hid (HB1.out.trans (hb5.mono HB1.out.size))
    have hd : decide (k ≥ 0) = v := HK.out
    clear hk hb5
    go_wp2_with fail
    go_ret
    exact ⟨by trivial, by rw [← HPP.out]; exact HB5.out⟩
  clear hr hs hv hb1
  go_enter Tryz.func148, Tryz.ntmps148
  go_wp2_with fail
  refine hC.out.mono ?_
  rintro e w5 ⟨rfl, hb5⟩
  go_wp2_with fail
  go_ret
  exact ⟨rfl, hb5⟩
set_option maxRecDepth 100000 in
set_option maxHeartbeats 12800000 in
theorem ordered_any (R : Nat) (n : Nat) (A : Option Addr) (c : Nat) (rs : List Rl) (B : Nat) (w : World) (hT : TrieOK w B R rs) (hr : RsAt w B A n c rs) (hB : B ≤ w.heap.size) (v : Bool) (hv : closedR rs = v) :
    Calls Tryz.prog 115 #[.pointer (some ⟨R, 0, none⟩), .slice A n c] w fun e w' => e = .returned (.bool v) ∧ Below w.heap.size w w' := by
  obtain ⟨hg, ns, h1, h2⟩ := hT
  have hs : ∀ r ∈ rs, 1 ≤ r.1.length := fun r hr => (hg.side r hr).1
  have hPl := paths_le hg
  obtain ⟨P, hPe⟩ : ∃ P, P = pathsR rs := ⟨_, rfl⟩
  rw [← hPe] at h2 hPl
  obtain ⟨outs, ho⟩ : ∃ outs, rs.map (·.2) = outs := ⟨_, rfl⟩
  rw [ho] at h1
  have HPe := Lib.hid hPe
  have H := Lib.hid h1
  have HT := Lib.hid h2
  have HPL := Lib.hid hPl
  have HR := Lib.hid hr
  have HV := Lib.hid hv
  have HS := Lib.hid hs
  have hroot : [] ∈ P := List.mem_of_getElem? h2.root
  have hi0 : idxP P [] = 0 := idxP_of h2.nodup h2.root
  have HRT := Lib.hid hroot
  have HI0 := Lib.hid hi0
  have hn1 := hr.fits
  have hn2 := hr.small
  unfold maxLen at hn2
  clear hr hv hs h1 h2 hPl hPe ho hg hroot hi0
  go_enter Tryz.func115, Tryz.ntmps115
  go_wp2
  go_loopw [12] (fun i wr => ∃ K : Nat, K ≤ n ∧ i = .int .i64 K ∧ Hid (Below w.heap.size w wr) ∧ Hid (∀ r ∈ rs.take K, okR rs r = true)) (fun i _ => n - (intOf i).toNat)
  case atStart => exact ⟨0, by omega, rfl, Lib.hid (Below.refl _ _), Lib.hid (by simp)⟩
  case round =>
    obtain ⟨K, hK, rfl, hb, hf⟩ := hrel
    by_cases hKn : K = n
    · have hK' : ¬ K < n := by omega
      have HE := Lib.hid (show v = true by
        rw [← HV.out]
        refine closedR_yes fun r hr => hf.out r ?_
        rw [List.take_of_length_le (by rw [← HR.out.len, hKn]; omega)]; exact hr)
      clear hKn hf
      go_wp2
      go_ret
      exact ⟨ret_bool HE.out, hb.out⟩
    have hK' : K < n := by omega
    have hK1 : K < rs.length := by rw [← HR.out.len]; exact hK'
    obtain ⟨b, of2, rfl, hbB, A3, n3, c3, A4, n4, c4, g1, g2, e1, e2, e3, e4, f1, f2, f3, f4⟩ := HR.out.at hK1
    have k1 := (hb.out.cell (p := ⟨b, of2 + K * 2, none⟩) (by show b < _; omega)).trans g1
    have k2 := (hb.out.cell (p := ⟨b, of2 + K * 2 + 1, none⟩) (by show b < _; omega)).trans g2
    have k3 : (0 : Int) ≤ K := by omega
    have k4 : (K : Int) < n := by omega
    obtain ⟨In, hIn⟩ : ∃ In, In = rs[K].1 := ⟨_, rfl⟩
    have hsd := HS.out _ (List.getElem_mem hK1)
    rw [← hIn] at e1 e4 hsd
    have hba : Below wr.heap.size wr (wr.alloc (.cells #[.slice A3 n3 c3, .slice A4 n4 c4] 104)) := (Below.refl _ _).alloc (Nat.le_refl _) _
    obtain ⟨M, hM⟩ : ∃ M : Nat, (n3 : Int) - 1 = (M : Int) := ⟨n3 - 1, by omega⟩
    have hM0 : (0 : Int) ≤ M := by omega
    have hMc : (M : Int) ≤ c3 := by omega
    have hMt : (M : Int).toNat = M := by omega
    have hMw : IntKind.i64.wrap (M : Int) = M := by rw [IntKind.wrap_i64]; unfold maxLen at e3; omega
    have E1 := Lib.hid e1
    have HMM := Lib.hid (show M + 1 = n3 by omega)
    have HIn := Lib.hid hIn
    have HSD := Lib.hid hsd
    have HB1 := Lib.hid (hb.out.trans (hba.mono hb.out.size))
    have E4 := Lib.hid (e4.below (HB1.out.mono hB) (Nat.le_refl _))
    have q0 : (wr.alloc (.cells #[.slice A3 n3 c3, .slice A4 n4 c4] 104)).cell? ⟨wr.heap.size, 0, none⟩ = some (.slice A3 n3 c3) := World.cell?_alloc_new (w := wr) _ _ 0
    unfold maxLen at e3 f3
    clear g1 g2 e1 e4 f1 f4 hIn hsd hba hKn hb
    go_wp2_with fail
    clear k1 k2 q0
    obtain ⟨W1, hW1⟩ : ∃ W1, wr.alloc (.cells #[.slice A3 n3 c3, .slice A4 n4 c4] 104) = W1 := ⟨_, rfl⟩
    rw [hW1] at HB1 E4 ⊢
    clear hW1
    go_loopw [7, 24] (fun a i w2 => ∃ (J ka : Nat), J ≤ M ∧ i = .int .i64 J ∧ a = .int .i64 ka ∧ Hid (ka = idxP P (In.take J)) ∧ Hid (In.take J ∈ P) ∧ Hid (Below W1.heap.size W1 w2) ∧ Hid (∀ m, 1 ≤ m → m ≤ J → closeAt rs rs[K] m = true)) (fun _ i _ => M - (intOf i).toNat)
    case atStart => exact ⟨0, 0, by omega, rfl, rfl, Lib.hid (by rw [List.take_zero]; exact HI0.out.symm), Lib.hid (by rw [List.take_zero]; exact HRT.out), Lib.hid (Below.refl _ _), Lib.hid (fun m h1 h2 => by omega)⟩
    case round =>
      obtain ⟨J, ka, hJ, rfl, rfl, hka, hin, hb, hc⟩ := hrel
      have hsz2 := hb.out.size
      have j3 : (0 : Int) ≤ J := by omega
      by_cases hJn : J = M
      · have hJ' : ¬ J < M := by omega
        have HF : Hid (∀ r ∈ rs.take (K + 1), okR rs r = true) := by
          intro r hr
          rw [List.take_succ_eq_append_getElem hK1] at hr
          rcases List.mem_append.1 hr with hr | hr
          · exact hf.out r hr
          · obtain rfl : r = rs[K] := by simpa using hr
            refine okR_yes fun m h1 h2 => hc.out m h1 ?_
            rw [← HIn.out, ← E1.out] at h2
            have := HMM.out
            omega
        have HB3 := Lib.hid (HB1.out.trans (hb.out.mono HB1.out.size))
        clear hJn hc hb hka hin
        go_wp2
        go_roundw
        case rel => exact ⟨K + 1, by omega, by go_num, HB3, HF⟩
        case measure => simp [intOf]; omega
      have hJ' : J < M := by omega
      have j4 : (J : Int) < M := by omega
      have hJ1 : J < In.length := by rw [← E1.out]; have := HMM.out; omega
      have HBw := Lib.hid (HB1.out.trans (hb.out.mono HB1.out.size))
      have hBw : B ≤ wr.heap.size := Nat.le_trans hB HBw.out.size
      have hi4 := E4.out.below (hb.out.mono (show B ≤ W1.heap.size by have := HB1.out.size; omega)) (Nat.le_refl _)
      obtain ⟨b3, o3, rfl, -, hc3⟩ := rd_ints hi4 (by omega)
      have r3 := hc3 J hJ1
      obtain ⟨u, hu⟩ : ∃ u, In.getD J 0 = u := ⟨_, rfl⟩
      rw [hu] at r3
      have hgd : In[J] = u := by rw [← hu]; simp [List.getD_eq_getElem?_getD, hJ1]
      have htk : In.take (J + 1) = In.take J ++ [u] := by rw [← hgd, List.take_succ_eq_append_getElem hJ1]
      have hin1 : In.take (J + 1) ∈ P := by rw [HPe.out, HIn.out]; exact take_path (List.getElem_mem hK1) (by omega) (by rw [← HIn.out]; omega)
      have hkx : P[ka]? = some (In.take J) := by rw [hka.out]; exact (idxP_lt hin.out).2
      obtain ⟨m1, hm1⟩ : ∃ m1, m1 = idxP P (In.take (J + 1)) := ⟨_, rfl⟩
      have hkx1 : P[m1]? = some (In.take (J + 1)) := by rw [hm1]; exact (idxP_lt hin1).2
      have hkl1 : m1 < ns.length := by rw [HT.out.len]; exact lt_of_some hkx1
      obtain ⟨nd1, hnd1⟩ : ∃ nd1, ns[m1]? = some nd1 := ⟨_, List.getElem?_eq_getElem hkl1⟩
      have hni1 := HT.out.node m1 nd1 _ hnd1 hkx1
      obtain ⟨r, hr1⟩ : ∃ r, nd1.rule = r := ⟨_, rfl⟩
      have hfr : findR rs (In.take (J + 1)) = r := by rw [← hni1.rule, hr1]
      have hHC : closeAt rs rs[K] (J + 1) = (rs.any (isT (In.take (J + 1))) || (decide (J + 1 = 1) && !rs.any (endsT (In.getD 0 0)))) := by rw [closeAt_eq, ← HIn.out]
      rw [find_isT, hfr] at hHC
      have HTr := Lib.hid (H.out.below (HBw.out.mono hB) (Nat.le_refl _))
      have hp : In.take J ++ [u] ∈ P := by rw [← htk]; exact hin1
      have S1 := Lib.hid (step_at wr B R P (findR rs) ns outs HTr.out HT.out hBw ka (In.take J) hkx u m1 true (by simpa using hp) (by rw [if_pos hp, hm1, htk]) HPL.out)
      have HND1 := Lib.hid hnd1
      have HR1 := Lib.hid hr1
      have HM1 := Lib.hid hm1
      have HIN1 := Lib.hid hin1
      have HNO : Hid (closeAt rs rs[K] (J + 1) = false → v = false) := fun h => by
        rw [← HV.out]
        exact closedR_no hK1 (okR_no (by omega) (by rw [← HIn.out, ← E1.out]; have := HMM.out; omega) h)
      have HYES : Hid (closeAt rs rs[K] (J + 1) = true → ∀ m, 1 ≤ m → m ≤ J + 1 → closeAt rs rs[K] m = true) := fun h m h1 h2 => by
        rcases Nat.lt_or_ge m (J + 1) with h3 | h3
        · exact hc.out m h1 (by omega)
        · obtain rfl : m = J + 1 := by omega
          exact h
      have HC := Lib.hid hHC
      have HU := Lib.hid hu
      clear hc3 hu hgd htk hin1 hkx hm1 hkx1 hkl1 hnd1 hni1 hr1 hfr hHC hp hi4 hc hka hin hJn hJ1
      go_wp2_with fail
      refine S1.out.mono ?_
      rintro e w5 ⟨rfl, hb5⟩
      have HB5 := Lib.hid (HBw.out.trans (hb5.mono HBw.out.size))
      have HB15 := Lib.hid (hb.out.trans (hb5.mono hsz2))
      have HTr5 := Lib.hid (H.out.below (HB5.out.mono hB) (Nat.le_refl _))
      clear hb5 S1 r3
      go_wp2_with fail
      refine (rule_at w5 B R ns outs HTr5.out m1 nd1 HND1.out r HR1.out).mono ?_
      rintro e w6 ⟨rfl, hw6⟩
      subst hw6
      by_cases hr0 : r < 0
      · have hd0 : decide (r < 0) = true := by simpa using hr0
        by_cases hJ0 : J = 0
        · subst hJ0
          obtain ⟨x7, hx7⟩ : ∃ x, rs.any (endsT u) = x := ⟨_, rfl⟩
          have HC2 : Hid (closeAt rs rs[K] (0 + 1) = !x7) := by
            show closeAt rs rs[K] (0 + 1) = _
            rw [HC.out, decide_eq_false (show ¬ (0 ≤ r) by omega), HU.out, hx7]; rfl
          have N2 := Lib.hid (endsQ_any n (some ⟨b, of2, none⟩) c rs B u w6 (HR.out.below (HB5.out.mono hB) (Nat.le_refl _)) (Nat.le_trans hB HB5.out.size) HS.out x7 hx7)
          clear hx7 hr0 HC
          have hd5 : decide ((0 : Int) > 0) = false := by decide
          cases x7 with
          | true =>
            have HN := Lib.hid (HNO.out (by rw [HC2.out]; rfl))
            go_wp2_with fail
            refine N2.out.mono ?_
            rintro e w6 ⟨rfl, hb6⟩
            have HBF := Lib.hid (HB5.out.trans (hb6.mono HB5.out.size))
            clear hb6
            go_wp2_with fail
            go_ret
            exact ⟨ret_bool HN.out, HBF.out⟩
          | false =>
            have HY := Lib.hid (HYES.out (by rw [HC2.out]; rfl))
            go_wp2_with fail
            refine N2.out.mono ?_
            rintro e w6 ⟨rfl, hb6⟩
            have HB16 := Lib.hid (HB15.out.trans (hb6.mono (HB15.out.size)))
            clear hb6
            go_wp2_with fail
            go_roundw
            case rel => exact ⟨0 + 1, m1, by omega, by go_num, rfl, HM1, HIN1, HB16, HY⟩
            case measure => simp [intOf]; omega
        · have HN := Lib.hid (HNO.out (by rw [HC.out, decide_eq_false (show ¬ (0 ≤ r) by omega), decide_eq_false (show ¬ (J + 1 = 1) by omega)]; rfl))
          have d1 : decide ((J : Int) > 0) = true := by simp; omega
          have d1' : decide (0 < J) = true := by simp; omega
          go_wp2_with fail
          go_ret
          exact ⟨ret_bool HN.out, HB5.out⟩
      · have hd0 : decide (r < 0) = false := by simpa using hr0
        have HY := Lib.hid (HYES.out (by rw [HC.out, decide_eq_true (show 0 ≤ r by omega)]; rfl))
        go_wp2_with fail
        go_roundw
        case rel => exact ⟨J + 1, m1, by omega, by go_num, rfl, HM1, HIN1, HB15, HY⟩
        case measure => simp [intOf]; omega
end Go.Proofs.YtncpokioagpclaaGreatDoor
namespace Go.Proofs.YtncpokioagpclaaGreatDoor
set_option linter.unusedVariables false
set_option linter.unusedSimpArgs false
set_option linter.unnecessarySimpa false
open Go.RowKit
set_option maxRecDepth 100000 in
theorem tab_writeX (w : World) (B T : Nat) (rs : List Rl) (h : TabAt w B T rs) (hB : B ≤ w.heap.size) :
    Calls Tryz.prog 94 #[.pointer (some ⟨T, 0, none⟩)] w fun e w' => ∃ R, e = .returned (.pointer (some ⟨R, 0, none⟩)) ∧ Below w.heap.size w w' ∧ TrieOK w' w'.heap.size R (turnR rs) ∧ w.heap.size ≤ R ∧ (∀ v, w.cell? ⟨T, 2, none⟩ = some v → w'.cell? ⟨R, 0, none⟩ = some v) ∧ (∀ v, w.cell? ⟨T, 3, none⟩ = some v → w'.cell? ⟨R, 1, none⟩ = some v) := by
  have hb : ∀ o, Below w.heap.size w (w.alloc o) := fun o => (Below.refl _ _).alloc (Nat.le_refl _) _
  obtain ⟨A1, n1, c1, A2, n2, c2, A3, n3, c3, A4, n4, c4, h2⟩ := h.is
  have HR := Lib.hid h.write
  have g0 := h2.cell 2
  have g1 := h2.cell 3
  have G0 := Lib.hid g0
  have G1 := Lib.hid g1
  have HBL := Lib.hid hb
  have HN := Lib.hid (Held.new w #[.slice A3 n3 c3, .slice A4 n4 c4] 108)
  clear h h2 hb
  go_enter Tryz.func94, Tryz.ntmps94
  go_wp2
  go_ret
  have c0 : ∀ v, w.cell? ⟨T, 2, none⟩ = some v → (w.alloc (.cells #[.slice A3 n3 c3, .slice A4 n4 c4] 108)).cell? ⟨w.heap.size, 0, none⟩ = some v := fun v hv => by
    rw [G0.out] at hv
    exact (HN.out.cell 0).trans hv
  have c1 : ∀ v, w.cell? ⟨T, 3, none⟩ = some v → (w.alloc (.cells #[.slice A3 n3 c3, .slice A4 n4 c4] 108)).cell? ⟨w.heap.size, 1, none⟩ = some v := fun v hv => by
    rw [G1.out] at hv
    exact (HN.out.cell 1).trans hv
  exact ⟨w.heap.size, rfl, HBL.out _, HR.out.copy ((HBL.out _).mono hB) (Nat.le_trans hB (HBL.out _).size) (by simp) c0 c1, Nat.le_refl _, c0, c1⟩
end Go.Proofs.YtncpokioagpclaaGreatDoor
