/- VietAdd: the walk. -/
import Derived.Test.YtigpmnpfkgopnaaDoorVietE
namespace Go.Proofs.YtigpmnpfkgopnaaDoor
set_option linter.unusedVariables false
set_option linter.unusedSimpArgs false
set_option linter.unnecessarySimpa false
open Go.RowKit Go.Shelf
attribute [local go_sem] run_store_complex

theorem joinF_congr {b : Int} {r r' i i' : Nat} (h : ∀ z, feq r z = feq r' z) (k : ∀ z, feq i z = feq i' z) : joinF b r i = joinF b r' i' := by
  have e : jnP b r i = jnP b r' i' := by funext n; unfold jnP; rw [h, k]
  unfold joinF; rw [e]
/-- what comes of Add, in three cases -/
def AddCase (b : Int) (r i x y : Nat) (B : Bool) (mr mi : Nat) (ok : Bool) : Prop :=
  (B = true ∧ ok = false ∧ mr = r ∧ mi = i) ∨
  (B = false ∧ ok = true ∧ SumIs r x mr ∧ SumIs i y mi ∧ (joinF b mr mi).isSome = true) ∨
  (B = false ∧ ok = false ∧ mr = r ∧ mi = i ∧ ∃ re im, SumIs r x re ∧ SumIs i y im ∧ (joinF b re im).isSome = false)
theorem addIs_case {b : Int} {r i x y : Nat} {e : Ending} (h : AddIs b r i x y e) : ∃ mr mi ok, e = .returned (.tuple #[.agg #[.int .i64 b, .complex .f64 mr mi], .bool ok]) ∧ AddCase b r i x y (bothF r i x y) mr mi ok := by
  rcases h with ⟨h1, h2⟩ | ⟨h1, re, im, h2, h3, ⟨h4, h5⟩ | ⟨h4, h5⟩⟩
  · exact ⟨r, i, false, h2, .inl ⟨h1, rfl, rfl, rfl⟩⟩
  · exact ⟨re, im, true, h5, .inr (.inl ⟨h1, rfl, h2, h3, h4⟩)⟩
  · exact ⟨r, i, false, h5, .inr (.inr ⟨h1, rfl, rfl, rfl, re, im, h2, h3, h4⟩)⟩
theorem join_feq {b : Int} {re im : Nat} (h : (joinF b re im).isSome = true) : ∃ z z', feq re z = true ∧ feq im z' = true := by
  obtain ⟨k, hk⟩ := Option.isSome_iff_exists.1 h
  have := (findP_lt hk).2
  unfold jnP at this
  simp only [Bool.and_eq_true] at this
  exact ⟨_, _, this.2.1, this.2.2⟩
theorem sum_valid {b : Int} {r i x y mr mi : Nat} (h : SumIs r x mr) (k : SumIs i y mi) (hj : (joinF b mr mi).isSome = true) : cSumBits .add .f64 r i x y = some (mr, mi) ∧ feq mr mr = true ∧ feq mi mi = true := by
  obtain ⟨z, z', h1, h2⟩ := join_feq hj
  have e1 := (h.same h h1).2
  have e2 := (k.same k h2).2
  refine ⟨?_, feq_self h1, feq_self h2⟩
  unfold cSumBits
  rw [e1, e2]
  rfl
theorem below_dN (w : World) (m : Nat) : Below w.heap.size w (w.drewN m) := ⟨rfl, rfl, rfl, Nat.le_refl _, fun _ _ => rfl⟩
theorem mk_cells (j : Nat) (h : j < 8) : ((List.range 8).map fun k => Value.complex .f64 (mkR k) (mkI k)).toArray[j]? = some (.complex .f64 (mkR j) (mkI j)) := by simp [h]

set_option maxRecDepth 100000 in
set_option maxHeartbeats 16000000 in
theorem vietAdd_any (n k : Int) (re im : Nat) (w : World) (hn : 0 ≤ n ∧ n ≤ 255) (hk : 0 ≤ k ∧ k ≤ 255) (hR : RowsV w) :
    Calls Tryd.prog 7 #[.int .u8 n, .int .u8 k, .float .f64 re, .float .f64 im] w fun e w' => e = .returned (.bool true) ∧ Below w.heap.size w w' := by
  have A0 := Lib.hid (tawake9_any w hR)
  have HR := Lib.hid hR
  obtain ⟨N, hN⟩ : ∃ N : Nat, n % 148 = (N : Int) := ⟨(n % 148).toNat, by omega⟩
  have hN' : N < 148 := by omega
  have HLT := Lib.hid (fun (W : World) => letR_at N hN' ▸ letter_any (N : Int) W)
  have hls := letter_small N hN'
  have hv : letV N = #[.int .i64 (LB N), .complex .f64 (fl (LM N)) (fl (LT N))] := rfl
  have hr0 := feq_fl_self (LM N) (by omega)
  have hi0 := feq_fl_self (LT N) (by omega)
  obtain ⟨b, hb⟩ : ∃ v, LB N = v := ⟨_, rfl⟩
  obtain ⟨r, hr⟩ : ∃ v, fl (LM N) = v := ⟨_, rfl⟩
  obtain ⟨i, hi⟩ : ∃ v, fl (LT N) = v := ⟨_, rfl⟩
  obtain ⟨s, hs⟩ : ∃ v, LS N = v := ⟨_, rfl⟩
  rw [hb, hr, hi] at hv
  rw [hr] at hr0
  rw [hi] at hi0
  rw [hv, hs] at HLT
  have HF := Lib.hid (And.intro hr0 hi0)
  clear hls hv hb hr hi hs hr0 hi0
  obtain ⟨j, hj⟩ : ∃ j : Nat, k % 8 = (j : Int) := ⟨(k % 8).toNat, by omega⟩
  have hj' : j < 8 := by omega
  have hji : (j : Int) < 8 := by omega
  have hj0 : (0 : Int) ≤ j := by omega
  clear hR
  go_enter Tryd.func7, Tryd.ntmps7
  go_wp2_with fail
  refine A0.out.mono ?_
  rintro e w1 ⟨rfl, hb1⟩
  have HR1 := Lib.hid (HR.out.below hb1)
  have hs1 := hb1.size
  have HB1 := Lib.hid hb1
  clear hb1 A0 HR
  go_wp2_with fail
  refine (HLT.out w1).mono ?_
  rintro e w2 ⟨rfl, hb2⟩
  have HR2 := Lib.hid (HR1.out.below hb2)
  have HB2 := Lib.hid (HB1.out.trans (hb2.mono hs1))
  have hs2 : w.heap.size ≤ w2.heap.size := HB2.out.size
  clear hb2 HR1 HB1 hs1
  clear w1
  go_wp2_with fail
  have q := Held.new w2 #[.int .i64 b, .complex .f64 r i] 29
  have hb3 := HB2.out.alloc hs2 (.cells #[.int .i64 b, .complex .f64 r i] 29)
  have hR3 := HR2.out.below ((Below.refl _ w2).alloc (Nat.le_refl _) (.cells #[.int .i64 b, .complex .f64 r i] 29))
  obtain ⟨W3, hW3⟩ : ∃ W3, w2.alloc (.cells #[.int .i64 b, .complex .f64 r i] 29) = W3 := ⟨_, rfl⟩
  obtain ⟨pl, hpl⟩ : ∃ p, w2.heap.size = p := ⟨_, rfl⟩
  rw [hW3] at q hb3 hR3 ⊢
  rw [hpl] at q ⊢
  have HL := Lib.hid q
  have HB3 := Lib.hid hb3
  have HR3 := Lib.hid hR3
  have hs3 := hb3.size
  have hl3 := q.lt
  clear hW3 hpl q hb3 hR3 HR2 HB2 hs2
  clear w2
  refine (lmarks_any W3).mono ?_
  rintro e w4 ⟨rfl, hq1, hq2, hb4⟩
  clear hq1
  have HL4 := Lib.hid (HL.out.below hb4 hl3)
  have HR4 := Lib.hid (HR3.out.below hb4)
  have HB4 := Lib.hid (HB3.out.trans (hb4.mono hs3))
  have hs4 : w.heap.size ≤ w4.heap.size := HB4.out.size
  have hcj := (hq2.cell j).trans (mk_cells j hj')
  obtain ⟨mr, hmr⟩ : ∃ m, mkR j = m := ⟨_, rfl⟩
  obtain ⟨mi, hmi⟩ : ∃ m, mkI j = m := ⟨_, rfl⟩
  rw [hmr, hmi] at hcj
  clear hmr hmi hb4 hq2 HB3 HR3 HL hs3 hl3
  go_wp2_with fail
  obtain ⟨fm, hfm⟩ : ∃ x, floatOfInt FloatKind.f64 (k % 5) = x := ⟨_, rfl⟩
  obtain ⟨ft, hft⟩ : ∃ x, floatOfInt FloatKind.f64 (k / 5 % 6) = x := ⟨_, rfl⟩
  rw [hfm, hft]
  obtain ⟨cs, hcs⟩ : ∃ cs : Array Value, #[.complex .f64 mr mi, .complex .f64 0 0, .complex .f64 re im, .complex .f64 fm ft, .complex .f64 re 0] = cs := ⟨_, rfl⟩
  have hcell : ∀ k, k < 5 → ∃ x y, cs[k]? = some (.complex .f64 x y) := by
    intro k hk
    rw [← hcs]
    match k, hk with
    | 0, _ => exact ⟨_, _, rfl⟩
    | 1, _ => exact ⟨_, _, rfl⟩
    | 2, _ => exact ⟨_, _, rfl⟩
    | 3, _ => exact ⟨_, _, rfl⟩
    | 4, _ => exact ⟨_, _, rfl⟩
  rw [hcs]
  have q := Held.new w4 cs 27
  have hb5 := HB4.out.alloc hs4 (.cells cs 27)
  have hR5 := HR4.out.below ((Below.refl _ w4).alloc (Nat.le_refl _) (.cells cs 27))
  have hL5 := HL4.out.alloc (.cells cs 27)
  obtain ⟨W5, hW5⟩ : ∃ W5, w4.alloc (.cells cs 27) = W5 := ⟨_, rfl⟩
  obtain ⟨g, hg⟩ : ∃ g, w4.heap.size = g := ⟨_, rfl⟩
  rw [hW5] at q hb5 hR5 hL5 ⊢
  rw [hg] at q ⊢
  have HQ := Lib.hid q
  have HB := Lib.hid hb5
  have HR := Lib.hid hR5
  have HL := Lib.hid hL5
  have HC := Lib.hid hcell
  clear hW5 hg q hb5 hR5 hL5 hs4 HR4 HB4 HL4 hcell hcs hfm hft hcj hj hN HLT
  clear w4
  go_loopw [55] (fun v wr => ∃ I : Nat, I ≤ 5 ∧ v = .int .i64 I ∧ Hid (Held wr g cs 27) ∧ Hid (Held wr pl #[.int .i64 b, .complex .f64 r i] 29) ∧ Hid (RowsV wr) ∧ Hid (Below w.heap.size w wr)) (fun v _ => 5 - (intOf v).toNat)
  case atStart => exact ⟨0, by omega, rfl, HQ, HL, HR, HB⟩
  case round =>
    clear HQ HL HR HB
    obtain ⟨I, hI, rfl, HQ, HL, HR, HB⟩ := hrel
    by_cases hI3 : I = 5
    · subst hI3
      go_wp2
      go_ret
      exact ⟨rfl, HB.out⟩
    have hI' : I < 5 := by omega
    have hIi : (I : Int) < 5 := by omega
    have hIi0 : (0 : Int) ≤ I := by omega
    obtain ⟨x, y, hx⟩ := HC.out I hI'
    have cx := (HQ.out.cell I).trans hx
    have l0 := HL.out.cell 0
    have l1 := HL.out.cell 1
    have hltq := HQ.out.lt
    have hltl := HL.out.lt
    have HAD := Lib.hid (add_any b r i x y wr HR.out)
    clear hx
    go_wp2_with fail
    refine HAD.out.mono ?_
    rintro e w2 ⟨hadd, hb2⟩
    obtain ⟨m1, m2, ok, rfl, hcase⟩ := addIs_case hadd
    have HCASE := Lib.hid hcase
    have HQ2 := Lib.hid (HQ.out.below hb2 hltq)
    have HL2 := Lib.hid (HL.out.below hb2 hltl)
    have HR2 := Lib.hid (HR.out.below hb2)
    have HB2 := Lib.hid (HB.out.trans (hb2.mono HB.out.size))
    have hs2 : w.heap.size ≤ w2.heap.size := HB2.out.size
    clear hb2 hadd hcase HQ HL HR HB l0 l1 cx hltq hltl HAD
    clear wr
    go_upto_region 9 with fail
    have q := Held.new w2 #[.int .i64 b, .complex .f64 m1 m2] 29
    have hb3 := HB2.out.alloc hs2 (.cells #[.int .i64 b, .complex .f64 m1 m2] 29)
    have hR3 := HR2.out.below ((Below.refl _ w2).alloc (Nat.le_refl _) (.cells #[.int .i64 b, .complex .f64 m1 m2] 29))
    have hL3 := HL2.out.alloc (.cells #[.int .i64 b, .complex .f64 m1 m2] 29)
    have hQ3 := HQ2.out.alloc (.cells #[.int .i64 b, .complex .f64 m1 m2] 29)
    obtain ⟨W3, hW3⟩ : ∃ W3, w2.alloc (.cells #[.int .i64 b, .complex .f64 m1 m2] 29) = W3 := ⟨_, rfl⟩
    have hpg : pl ≠ w2.heap.size := by have := HL2.out.lt; omega
    obtain ⟨pm, hpm⟩ : ∃ p, w2.heap.size = p := ⟨_, rfl⟩
    rw [hW3] at q hb3 hR3 hL3 hQ3 ⊢
    rw [hpm] at q hpg ⊢
    have l0 := hL3.cell 0
    have l1 := hL3.cell 1
    have p0 := q.cell 0
    have p1 := q.cell 1
    have HQ := Lib.hid hQ3
    have HL := Lib.hid hL3
    have HM := Lib.hid q
    have HR := Lib.hid hR3
    have HB := Lib.hid hb3
    clear hW3 hpm q hb3 hR3 hL3 hQ3 HQ2 HL2 HR2 HB2 hs2
    clear w2
    obtain ⟨B, hBB⟩ : ∃ B, bothF r i x y = B := ⟨_, rfl⟩
    rw [hBB] at HCASE
    have HBO := Lib.hid hBB
    clear hBB
    go_cut [18] (fun s18 wx => s18 = .bool B ∧ wx = W3)
    case first =>
      have hB := HBO.out
      unfold bothF at hB
      have a1 := ord_ne r 0
      have a2 := ord_ne x 0
      have a3 := ord_ne i 0
      have a4 := ord_ne y 0
      clear HCASE HBO
      cases h1 : feq r 0 <;> cases h2 : feq x 0 <;> cases h3 : feq i 0 <;> cases h4 : feq y 0
      all_goals
        rw [h1] at a1 hB
        rw [h2] at a2 hB
        rw [h3] at a3 hB
        rw [h4] at a4 hB
        simp only [Bool.not_true, Bool.not_false, Bool.and_true, Bool.and_false, Bool.or_true, Bool.or_false, Bool.true_and, Bool.false_and, Bool.true_or, Bool.false_or, Bool.or_self, Bool.and_self] at a1 a2 a3 a4 hB
        subst hB
        clear h1 h2 h3 h4
        go_wp2
        go_meet
        exact ⟨rfl, rfl⟩
    case rest =>
      obtain ⟨rfl, hwc⟩ := hcut
      subst hwc
      have HJ := Lib.hid (fun a c W => ljoin_any b a c W)
      have hs3 := HB.out.size
      have hltm := HM.out.lt
      have hltl := HL.out.lt
      have hltq := HQ.out.lt
      rcases HCASE.out with ⟨rfl, rfl, hm1, hm2⟩ | ⟨rfl, rfl, hsr, hsi, hj⟩ | ⟨rfl, rfl, hm1, hm2, re', im', hsr, hsi, hj⟩
      · obtain rfl := hm1.symm
        obtain rfl := hm2.symm
        have heq := fun W => eq_letters b b r i r i W
        rw [HF.out.1, HF.out.2] at heq
        simp only [Bool.and_self, Bool.and_true, beq_self_eq_true] at heq
        go_wp2_with (first | (have hh := hsA1; refine wpList_cadd rfl _ _ _ _ rfl r i x y rfl rfl ?_; intro v1 v2 d hd hsB1 hsB2) | (refine wpList_cadd rfl _ _ _ _ rfl r i x y rfl rfl ?_; intro u1 u2 c hc hsA1 hsA2))
        obtain ⟨z, hz⟩ : ∃ z, (joinF b u1 v2).isSome = z := ⟨_, rfl⟩
        refine (HJ.out _ _ _).mono ?_
        rintro e w4 ⟨rfl, hb4⟩
        rw [hz]
        clear hsA1 hsA2 hsB1 hsB2 hz
        have hb4 : Below wc.heap.size wc w4 := (below_dN wc _).trans hb4
        have HQ4 := Lib.hid (HQ.out.below hb4 hltq)
        have HL4 := Lib.hid (HL.out.below hb4 hltl)
        have HR4 := Lib.hid (HR.out.below hb4)
        have HB4 := Lib.hid (HB.out.trans (hb4.mono hs3))
        have hM4 := HM.out.below hb4 hltm
        have l0 := HL4.out.cell 0
        have l1 := HL4.out.cell 1
        have p0 := hM4.cell 0
        have p1 := hM4.cell 1
        clear hb4 hM4
        go_wp2
        go_roundw
        case rel => exact ⟨I + 1, by omega, by go_num, HQ4, HL4, HR4, HB4⟩
        case measure => simp [intOf]; omega
      · obtain ⟨hcs, hf1, hf2⟩ := sum_valid hsr hsi hj
        have hsum := fun W => run_complex_sum (P := Tryd.prog) W .add (.inl rfl) 27 .f64 r i x y m1 m2 hcs
        have g1 := ord_eq m1 m1
        have g2 := ord_eq m2 m2
        rw [hf1] at g1
        rw [hf2] at g2
        have hbb : (b != b) = false := by simp
        have HJJ := Lib.hid hj
        clear hsr hsi hcs hf1 hf2 hj
        go_wp2_with fail
        refine (HJ.out m1 m2 _).mono ?_
        rintro e w4 ⟨rfl, hb4⟩
        rw [HJJ.out]
        have HQ4 := Lib.hid (HQ.out.below hb4 hltq)
        have HL4 := Lib.hid (HL.out.below hb4 hltl)
        have HR4 := Lib.hid (HR.out.below hb4)
        have HB4 := Lib.hid (HB.out.trans (hb4.mono hs3))
        have hM4 := HM.out.below hb4 hltm
        have l0 := HL4.out.cell 0
        have l1 := HL4.out.cell 1
        have p0 := hM4.cell 0
        have p1 := hM4.cell 1
        clear hb4 hM4
        go_wp2
        go_roundw
        case rel => exact ⟨I + 1, by omega, by go_num, HQ4, HL4, HR4, HB4⟩
        case measure => simp [intOf]; omega
      · obtain rfl := hm1.symm
        obtain rfl := hm2.symm
        have heq := fun W => eq_letters b b r i r i W
        rw [HF.out.1, HF.out.2] at heq
        simp only [Bool.and_self, Bool.and_true, beq_self_eq_true] at heq
        have HSR := Lib.hid hsr
        have HSI := Lib.hid hsi
        have HJJ := Lib.hid hj
        clear hsr hsi hj
        go_wp2_with (first | (have hh := hsA1; refine wpList_cadd rfl _ _ _ _ rfl r i x y rfl rfl ?_; intro v1 v2 d hd hsB1 hsB2) | (refine wpList_cadd rfl _ _ _ _ rfl r i x y rfl rfl ?_; intro u1 u2 c hc hsA1 hsA2))
        have hz : (joinF b u1 v2).isSome = false := by rw [joinF_congr (fun z => hsA1.eqv HSR.out (z := z)) (fun z => hsB2.eqv HSI.out (z := z))]; exact HJJ.out
        refine (HJ.out _ _ _).mono ?_
        rintro e w4 ⟨rfl, hb4⟩
        rw [hz]
        clear hsA1 hsA2 hsB1 hsB2 hz
        have hb4 : Below wc.heap.size wc w4 := (below_dN wc _).trans hb4
        have HQ4 := Lib.hid (HQ.out.below hb4 hltq)
        have HL4 := Lib.hid (HL.out.below hb4 hltl)
        have HR4 := Lib.hid (HR.out.below hb4)
        have HB4 := Lib.hid (HB.out.trans (hb4.mono hs3))
        have hM4 := HM.out.below hb4 hltm
        have l0 := HL4.out.cell 0
        have l1 := HL4.out.cell 1
        have p0 := hM4.cell 0
        have p1 := hM4.cell 1
        clear hb4 hM4
        go_wp2
        go_roundw
        case rel => exact ⟨I + 1, by omega, by go_num, HQ4, HL4, HR4, HB4⟩
        case measure => simp [intOf]; omega
end Go.Proofs.YtigpmnpfkgopnaaDoor
