/- VietRound: the walk. -/
import Derived.Test.YtigpmnpfkgopnaaDoorVietF2
namespace Go.Proofs.YtigpmnpfkgopnaaDoor
set_option linter.unusedVariables false
set_option linter.unusedSimpArgs false
set_option linter.unnecessarySimpa false
open Go.RowKit Go.Shelf
attribute [local go_sem] run_store_complex

set_option maxRecDepth 100000 in
set_option maxHeartbeats 6400000 in
theorem vietRound_any (n m : Int) (w : World) (hn : 0 ≤ n ∧ n ≤ 255) (hm : 0 ≤ m ∧ m ≤ 255) (hR : RowsV w) :
    Calls Tryd.prog 8 #[.int .u8 n, .int .u8 m] w fun e w' => e = .returned (.bool true) ∧ Below w.heap.size w w' := by
  have A0 := Lib.hid (tawake9_any w hR)
  have HR := Lib.hid hR
  obtain ⟨N, hN⟩ : ∃ N : Nat, n % 148 = (N : Int) := ⟨(n % 148).toNat, by omega⟩
  have hN' : N < 148 := by omega
  obtain ⟨M, hM⟩ : ∃ M : Nat, m % 148 = (M : Int) := ⟨(m % 148).toNat, by omega⟩
  have hM' : M < 148 := by omega
  clear hR
  go_enter Tryd.func8, Tryd.ntmps8
  go_wp2_with fail
  refine A0.out.mono ?_
  rintro e w1 ⟨rfl, hb1⟩
  have HR1 := Lib.hid (HR.out.below hb1)
  have hs1 := hb1.size
  have HB1 := Lib.hid hb1
  clear hb1 A0 HR
  go_wp2_with fail
  refine (two_any w1 HR1.out).mono ?_
  rintro e w2 ⟨g, c, h, d, rfl, ht, hb2, hc1, hc2, hd1, hd2⟩
  have HT := Lib.hid ht
  have HR2 := Lib.hid (HR1.out.below hb2)
  have HB2 := Lib.hid (HB1.out.trans (hb2.mono hs1))
  have hs2 : w.heap.size ≤ w2.heap.size := HB2.out.size
  clear hb2 ht HR1 HB1 hs1
  clear w1
  go_wp2_with fail
  go_quiet (fail)
  obtain ⟨W, hW⟩ : ∃ W, W = w2.drewN nq := ⟨_, rfl⟩
  have ht2 : Two W g h := by rw [hW]; exact ⟨HT.out.lb, HT.out.lz, HT.out.ls, HT.out.lg, HT.out.lh⟩
  have hr2 : RowsV W := by rw [hW]; exact HR2.out.of rfl
  have hb2 : Below w.heap.size w W := by rw [hW]; exact below_drewN9 HB2.out nq
  rw [← hW]
  clear hW HT HR2 HB2 hs2
  clear w2
  have hs2 := hb2.size
  have HT := Lib.hid ht2
  have HB2 := Lib.hid hb2
  have HR2 := Lib.hid hr2
  clear ht2 hb2 hr2
  have hNc : (N : Int) < 148 := by omega
  have hN0 : (0 : Int) ≤ N := by omega
  have hMc : (M : Int) < 148 := by omega
  have hM0 : (0 : Int) ≤ M := by omega
  have t0 := HT.out.lb N hN'
  have t1 := HT.out.lz N hN'
  have t2 := HT.out.ls N hN'
  have t3 := HT.out.ls M hM'
  have hls := letter_small N hN'
  have hr0 := feq_fl_self (LM N) (by omega)
  have hi0 := feq_fl_self (LT N) (by omega)
  have hE : (LS N == LS M) = ((N : Int) == (M : Int)) := by
    rw [Bool.eq_iff_iff, beq_iff_eq, beq_iff_eq]
    exact ⟨fun h => congrArg _ (LS_inj N M hN' hM' h), fun h => by rw [show N = M by omega]⟩
  have JJ := join_any (LB N) (fl (LM N)) (fl (LT N)) W HR2.out
  have hjo : joinF (LB N) (fl (LM N)) (fl (LT N)) = some N := join_of N hN'
  rw [hjo] at JJ
  have SS := fun X h => split_any (LS N) X h
  have hso : splitF (LS N) = some N := split_of N hN'
  rw [hso] at SS
  have hvN : lV (some N) = #[.int .i64 (LB N), .complex .f64 (fl (LM N)) (fl (LT N))] := rfl
  have hjN : jS (some N) = LS N := rfl
  rw [hvN] at SS
  rw [hjN] at JJ
  have hgt : N < 74 → LS (N + 74) = upI (LS N) := fun h => (letter_great N h).2.2.2
  obtain ⟨b, hb⟩ : ∃ v, LB N = v := ⟨_, rfl⟩
  obtain ⟨r, hr⟩ : ∃ v, fl (LM N) = v := ⟨_, rfl⟩
  obtain ⟨i, hi⟩ : ∃ v, fl (LT N) = v := ⟨_, rfl⟩
  obtain ⟨s, hs⟩ : ∃ v, LS N = v := ⟨_, rfl⟩
  obtain ⟨s', hs'⟩ : ∃ v, LS M = v := ⟨_, rfl⟩
  rw [hr] at hr0
  rw [hi] at hi0
  rw [hb] at t0
  rw [hr, hi] at t1
  rw [hs] at t2 hE hls hgt
  rw [hs'] at t3 hE
  rw [hb, hr, hi, hs] at JJ
  rw [hs, hb, hr, hi] at SS
  have heq := fun W => eq_letters b b r i r i W
  rw [hr0, hi0] at heq
  simp only [Bool.and_self, Bool.and_true, beq_self_eq_true] at heq
  have HJJ := Lib.hid JJ
  have HSS := Lib.hid SS
  have HGT := Lib.hid hgt
  have US := Lib.hid (fun W => upper_any s W (by omega) (by omega))
  obtain ⟨us, hus⟩ : ∃ v, upI s = v := ⟨_, rfl⟩
  rw [hus] at US HGT
  obtain ⟨E, hEE⟩ : ∃ E, ((N : Int) == (M : Int)) = E := ⟨_, rfl⟩
  rw [hEE] at hE
  have hEs : (E == E) = true := by simp
  have hss : (s == s) = true := by simp
  have hll := HT.out.lh
  clear JJ SS hgt hjo hso hvN hjN hr0 hi0 hls hus
  have HBS := Lib.hid (And.intro (And.intro hb hr) (And.intro (And.intro hi hs) hs'))
  clear hb hr hi hs hs'
  go_wp2_with fail
  refine HJJ.out.mono ?_
  rintro e w3 ⟨rfl, hb3⟩
  have HT3 := Lib.hid (HT.out.below hb3)
  have HR3 := Lib.hid (HR2.out.below hb3)
  have HB3 := Lib.hid (HB2.out.trans (hb3.mono hs2))
  have c2 := HT3.out.ls N hN'
  rw [HBS.out.2.1.2] at c2
  have hs3 := HB3.out.size
  clear hb3 t0 t1 t2 t3 HT HR2 HB2 hs2 HJJ hll
  clear W
  go_wp2_with fail
  refine (HSS.out w3 HR3.out).mono ?_
  rintro e w4 ⟨rfl, hb4⟩
  have HT4 := Lib.hid (HT3.out.below hb4)
  have HB4 := Lib.hid (HB3.out.trans (hb4.mono hs3))
  have hs4 := HB4.out.size
  clear hb4 c2 HT3 HR3 HB3 hs3 HSS
  clear w3
  go_upto_region 9 with fail
  have q := Held.new w4 #[.int .i64 b, .complex .f64 r i] 29
  have hb5 := HB4.out.alloc hs4 (.cells #[.int .i64 b, .complex .f64 r i] 29)
  have hT5 := HT4.out.below ((Below.refl _ w4).alloc (Nat.le_refl _) (.cells #[.int .i64 b, .complex .f64 r i] 29))
  obtain ⟨W5, hW5⟩ : ∃ W5, w4.alloc (.cells #[.int .i64 b, .complex .f64 r i] 29) = W5 := ⟨_, rfl⟩
  obtain ⟨p, hp⟩ : ∃ p, w4.heap.size = p := ⟨_, rfl⟩
  rw [hW5] at q hb5 hT5 ⊢
  rw [hp] at q ⊢
  have p0 := q.cell 0
  have p1 := q.cell 1
  have t0 := hT5.lb N hN'
  have t1 := hT5.lz N hN'
  have t2 := hT5.ls N hN'
  have t3 := hT5.ls M hM'
  have HT5 := Lib.hid hT5
  have HB5 := Lib.hid hb5
  obtain ⟨⟨hb, hr⟩, ⟨hi, hs⟩, hs'⟩ := HBS.out
  rw [hb] at t0
  rw [hr, hi] at t1
  rw [hs] at t2
  rw [hs'] at t3
  clear hb hr hi hs hs' hW5 hp q hb5 hT5 HT4 HB4 hs4
  clear w4
  have hus : (us == us) = true := by simp
  have US5 := Lib.hid (fun k => US.out (W5.drewN k))
  by_cases h74 : N < 74
  · have t4 := HT5.out.ls (N + 74) (by omega)
    rw [HGT.out h74] at t4
    have g1 : decide ((74 : Int) ≤ N) = false := by simp; omega
    have g2 : (0 : Int) ≤ (N : Int) + 74 := by omega
    have g3 : (N : Int) + 74 < 148 := by omega
    have g4 : ((N : Int) + 74).toNat = N + 74 := by omega
    have g5 : IntKind.i64.wrap ((N : Int) + 74) = (N : Int) + 74 := by rw [IntKind.wrap_i64]; omega
    have g6 : ¬ ((74 : Int) ≤ N) := by omega
    clear hN hM
    go_quiet ((go_at_call 20; exact Calls.quiet_of_same (US5.out _)))
    go_wp2
    go_ret
    exact ⟨rfl, below_drewN9 HB5.out nq⟩
  · have g1 : decide ((74 : Int) ≤ N) = true := by simp; omega
    have g6 : (74 : Int) ≤ N := by omega
    clear hN hM
    go_quiet (fail)
    go_wp2
    go_ret
    exact ⟨rfl, below_drewN9 HB5.out nq⟩
end Go.Proofs.YtigpmnpfkgopnaaDoor
