/- Layer 10: the law's canon. -/
import Derived.Test.YtjolbdfkkhphiaaDoorVcE
namespace Go.Proofs.YtjolbdfkkhphiaaDoor
set_option linter.unusedVariables false
set_option linter.unusedSimpArgs false
set_option linter.unnecessarySimpa false
open Go.RowKit Go.Shelf
attribute [local go_sem] run_store_complex

theorem ljoin_letter (k : Nat) (hk : k < 148) (w : World) :
    Calls Tryd.prog 26 #[.int .i64 (LB k), .float .f64 (fl (LM k)), .float .f64 (fl (LT k))] w fun e w' => e = .returned (.tuple #[.int .i64 (LS k), .bool true]) ∧ Below w.heap.size w w' :=
  (ljoin_any (LB k) (fl (LM k)) (fl (LT k)) w).mono fun e w' ⟨h, hb⟩ => ⟨by rw [h]; unfold joinF; rw [join_of k hk]; rfl, hb⟩
/-- the law's Join of a letter with a sign more -/
theorem ljoin_sum (k j : Nat) (hk : k < 148) (hj : j < 8) (h : bothK k j = false) (w : World) :
    Calls Tryd.prog 26 #[.int .i64 (LB k), .float .f64 (fl (LM k + mM j)), .float .f64 (fl (LT k + mT j))] w fun e w' => e = .returned (.tuple #[.int .i64 (jS (sumK k j)), .bool (sumK k j).isSome]) ∧ Below w.heap.size w w' :=
  (ljoin_any (LB k) (fl (LM k + mM j)) (fl (LT k + mT j)) w).mono fun e w' ⟨h1, hb⟩ => ⟨by rw [h1, join_sum k j hk hj h], hb⟩
/-- where nothing more is added the letter is told -/
theorem go_brk {c y : Int} {t : List Int} (hc : c ≠ 0) (h : tog c y = none) : cGo c (y :: t) = c :: cGo 0 (y :: t) := by
  have e1 : stepC c y = if isL y = true then (y, kn c) else (0, kn c ++ [y]) := by unfold stepC; rw [h]
  have e0 : stepC 0 y = if isL y = true then (y, kn 0) else (0, kn 0 ++ [y]) := by unfold stepC; rw [tog_zero]
  simp only [cGo, e1, e0, kn_ne hc, kn_zero]
  cases isL y <;> simp
theorem drop_at {zs : List Int} {K : Nat} (h : K < zs.length) : zs.drop K = zs.getD K 0 :: zs.drop (K + 1) := by
  rw [List.drop_eq_getElem_cons h]; simp [List.getD_eq_getElem?_getD, h]
theorem ord_ne10 (a b : Nat) : (FloatKind.f64.format.order a b != some .eq) = !feq a b := rfl
theorem sum_bits {r i x y a b : Nat} (h : floatBits .add .f64 r x = some a) (k : floatBits .add .f64 i y = some b) : cSumBits .add .f64 r i x y = some (a, b) := by
  unfold cSumBits; rw [h, k]; rfl
theorem run_csum {P : Program} (w : World) (op : BinOp) (t : TypeId) (k : FloatKind) (a b c d r i : Nat) (h : cSumBits .add k a b c d = some (r, i)) : (binOp .add t (.complex k a b) (.complex k c d)).run P w = .ok (.complex k r i) w := by
  unfold cSumBits at h
  cases h1 : floatBits .add k a c with
  | none => rw [h1] at h; cases h
  | some x =>
    cases h2 : floatBits .add k b d with
    | none => rw [h1, h2] at h; cases h
    | some y =>
      rw [h1, h2] at h
      simp only [Option.bind_some, Option.some.injEq, Prod.mk.injEq] at h
      obtain ⟨rfl, rfl⟩ := h
      simp [binOp, Op.complexOp, run_carith w h1, run_carith w h2]
theorem cGo_len0 (zs : List Int) (K : Nat) {out : List Int} (h : out ++ cGo 0 (zs.drop K) = cGo 0 zs) : out.length ≤ zs.length := by
  have h1 := congrArg List.length h
  have h2 := cGo_len 0 zs
  rw [List.length_append] at h1
  rw [kn_zero, List.length_nil] at h2
  omega

set_option maxRecDepth 100000 in
set_option maxHeartbeats 12800000 in
theorem canon_any (n : Nat) (A : Option Addr) (cap : Nat) (zs : List Int) (w : World) (hn : n = zs.length) (hr : RI w A zs) (hl : zs.length ≤ 1000000) :
    Calls Tryd.prog 14 #[.slice A n cap] w fun e w' => ∃ v, e = .returned v ∧ IR w' w.heap.size v (cGo 0 zs) ∧ Below w.heap.size w w' := by
  have HR := Lib.hid hr
  have HN := Lib.hid hn
  have hnl : n ≤ 1000000 := by omega
  clear hr hn hl
  go_enter Tryd.func14, Tryd.ntmps14
  go_wp2
  go_loopw [3, 4] (fun v k wr => ∃ (K : Nat) (out : List Int), K ≤ n ∧ k = .int .i64 K ∧ Hid (IR wr w.heap.size v out) ∧ Hid (out ++ cGo 0 (zs.drop K) = cGo 0 zs) ∧ out.length ≤ K ∧ Hid (Below w.heap.size w wr)) (fun _ k _ => n - (intOf k).toNat)
  case atStart => exact ⟨0, [], by omega, rfl, Lib.hid (IR.nil _ _), Lib.hid rfl, by simp, Lib.hid (Below.refl _ _)⟩
  case round =>
    obtain ⟨K, out, hK, rfl, HO, HG, hol, HB⟩ := hrel
    by_cases hKl : K = n
    · have HF := Lib.hid (show out = cGo 0 zs by rw [← HG.out, hKl, HN.out, List.drop_length]; simp [cGo, kn_zero])
      have hKl' : ¬ K < n := by omega
      clear hKl
      go_wp2
      go_ret
      exact ⟨_, rfl, by rw [← HF.out]; exact HO.out, HB.out⟩
    have hKl' : K < n := by omega
    have hbs := HB.out.size
    obtain ⟨b, off, rfl, hbl, hcell⟩ := rd_ints (HR.out.below HB.out) (by rw [← HN.out]; omega)
    have HC := Lib.hid (show ∀ (W : World), Below w.heap.size w W → ∀ j, j < n → W.cell? ⟨b, off + j, none⟩ = some (.int .i64 (zs.getD j 0)) ∧ b < W.heap.size by
      intro W hW j hj
      obtain ⟨b', off', e, h1, h2⟩ := rd_ints (HR.out.below hW) (by rw [← HN.out]; omega)
      injection e with e
      injection e with e1 e2
      subst e1 e2
      exact ⟨h2 j (by rw [← HN.out]; exact hj), h1⟩)
    have hx := hcell K (by rw [← HN.out]; exact hKl')
    have hda := drop_at (zs := zs) (K := K) (by rw [← HN.out]; exact hKl')
    have hx2 : ∀ (W : World), Below w.heap.size w W → W.cell? ⟨b, off + K, none⟩ = some (.int .i64 (zs.getD K 0)) := fun W hW => (HC.out W hW K hKl').1
    obtain ⟨x, hxe⟩ : ∃ x, x = zs.getD K 0 := ⟨_, rfl⟩
    rw [← hxe] at hx hda hx2
    have HX2 := Lib.hid hx2
    have HGX := HG.out
    rw [hda] at HGX
    have HDA := Lib.hid HGX
    clear hcell hxe hda HG hx2 HGX
    have hwK : IntKind.i64.wrap ((K : Int) + 1) = (K : Int) + 1 := by rw [IntKind.wrap_i64]; omega
    have hwK2 : IntKind.i64.wrap ((K : Int) + 1 - 1) = (K : Int) := by rw [IntKind.wrap_i64]; omega
    have hwK3 : IntKind.i64.wrap (K : Int) = (K : Int) := by rw [IntKind.wrap_i64]; omega
    have hKi : (K : Int) < n := by omega
    have hK0 : (0 : Int) ≤ K := by omega
    go_wp2_with fail
    refine (lsplit_any x wr).mono ?_
    rintro e w2 ⟨rfl, hb2⟩
    have hs2 := hb2.size
    cases hk : splitF x with
    | none =>
      have HE := Lib.hid (show (out ++ [x]) ++ cGo 0 (zs.drop (K + 1)) = cGo 0 zs by
        rw [← HDA.out]
        have hs : stepC 0 x = (0, [x]) := by unfold stepC; rw [tog_zero]; simp [isL, hk, kn_zero]
        simp only [cGo, hs, List.append_assoc])
      rw [show lV none = #[.int .i64 0, .complex .f64 0 0] from rfl]
      have HO2 := Lib.hid ((HO.out.below hb2 (Nat.le_refl _)).alloc (.cells #[.int .i64 0, .complex .f64 0 0] 35))
      have HB1 := Lib.hid (HB.out.trans (hb2.mono hbs))
      have HB2 := Lib.hid (HB1.out.alloc (by omega) (.cells #[.int .i64 0, .complex .f64 0 0] 35))
      have hx3 := HX2.out _ HB2.out
      have hx4 := HX2.out _ HB1.out
      have hbw2 : b < w2.heap.size := by omega
      clear hb2 hk HO HB HDA hx
      simp only [Option.isSome_none]
      go_wp2_with (refine wpList_appI1 rfl _ _ rfl w.heap.size u3 out x rfl HO2.out _ rfl (by simp) (by omega) (by simp; omega) ?_; intro v4 w4 hO4 hG4)
      exact ⟨⟨K + 1, out ++ [x], by omega, by go_num, hO4, HE, by simp; omega, Lib.hid (IR.keepsB HB2.out hG4.out HO2.out (Nat.le_refl _) (by simp; omega))⟩, by simp [intOf]; omega⟩
    | some j0 =>
      have hj0 := (splitF_LS hk).1
      have hxj := (splitF_LS hk).2
      have hG0 : out ++ cGo (LS j0) (zs.drop (K + 1)) = cGo 0 zs := by
        rw [← HDA.out]
        have hL := isL_at j0 hj0
        have hs : stepC 0 x = (x, []) := by unfold stepC; rw [tog_zero, hxj]; simp [hL, kn_zero]
        simp only [cGo, hs, List.nil_append]
        rw [hxj]
      have HG0 := Lib.hid hG0
      have hv : lV (some j0) = #[.int .i64 (LB j0), .complex .f64 (fl (LM j0)) (fl (LT j0))] := rfl
      rw [hv]
      have hq0 := Held.new w2 #[.int .i64 (LB j0), .complex .f64 (fl (LM j0)) (fl (LT j0))] 35
      have hO2 := ((HO.out.below hb2 (Nat.le_refl _)).alloc (.cells #[.int .i64 (LB j0), .complex .f64 (fl (LM j0)) (fl (LT j0))] 35))
      have hB2 := ((HB.out.trans (hb2.mono hbs)).alloc (by omega) (.cells #[.int .i64 (LB j0), .complex .f64 (fl (LM j0)) (fl (LT j0))] 35))
      simp only [Option.isSome_some]
      clear hb2 hk HO HB HDA hG0 hxj hx HX2 hv
      clear hbl
      go_upto_region 8 with fail
      obtain ⟨W2, hW2⟩ : ∃ W, w2.alloc (.cells #[.int .i64 (LB j0), .complex .f64 (fl (LM j0)) (fl (LT j0))] 35) = W := ⟨_, rfl⟩
      rw [hW2] at hq0 hO2 hB2 ⊢
      obtain ⟨p, hp⟩ : ∃ p, w2.heap.size = p := ⟨_, rfl⟩
      have hpl : w.heap.size ≤ p := by omega
      rw [hp] at hq0 ⊢
      have HQ0 := Lib.hid hq0
      have HO0 := Lib.hid hO2
      have HB0 := Lib.hid hB2
      clear hq0 hO2 hB2 hW2 hp hs2 hbs
      clear w2 wr
      go_loopw [4] (fun k wr => ∃ (K2 j : Nat), K2 ≤ n ∧ K + 1 ≤ K2 ∧ j < 148 ∧ k = .int .i64 K2 ∧ Hid (IR wr w.heap.size u3 out) ∧ Hid (Held wr p #[.int .i64 (LB j), .complex .f64 (fl (LM j)) (fl (LT j))] 35) ∧ Hid (out ++ cGo (LS j) (zs.drop K2) = cGo 0 zs) ∧ Hid (Below w.heap.size w wr)) (fun k _ => n - (intOf k).toNat)
      case atStart => exact ⟨K + 1, j0, by omega, by omega, hj0, by go_num, HO0, HQ0, HG0, HB0⟩
      case round =>
        obtain ⟨K2, j, hK2, hKK, hj, rfl, HO, HQ, HG, HB⟩ := hrel
        clear HO0 HQ0 HG0 HB0 hj0
        have hbs := HB.out.size
        have hLn := isL_ne (isL_at j hj)
        have HLN := Lib.hid hLn
        clear hLn
        by_cases hKl2 : K2 = n
        · have HFA := Lib.hid (show out ++ LS j :: cGo 0 (zs.drop K2) = cGo 0 zs by
            have := HG.out
            rw [hKl2, HN.out, List.drop_length] at this ⊢
            rw [← this]; simp [cGo, kn_zero, kn_ne HLN.out])
          have hKl2' : ¬ K2 < n := by omega
          clear HG hKl2
          have HEND := Lib.hid (show out ++ LS j :: cGo 0 (zs.drop K2) = cGo 0 zs from HFA.out)
          have HJ := Lib.hid (fun W => ljoin_letter j hj W)
          obtain ⟨bx, hbx⟩ : ∃ v, LB j = v := ⟨_, rfl⟩
          obtain ⟨rx, hrx⟩ : ∃ v, fl (LM j) = v := ⟨_, rfl⟩
          obtain ⟨ix, hix⟩ : ∃ v, fl (LT j) = v := ⟨_, rfl⟩
          obtain ⟨sx, hsx⟩ : ∃ v, LS j = v := ⟨_, rfl⟩
          rw [hbx, hrx, hix] at HQ
          rw [hbx, hrx, hix, hsx] at HJ
          rw [hsx] at HEND
          clear hbx hrx hix hsx
          have c0 := HQ.out.cell 0
          have c1 := HQ.out.cell 1
          have hbs := HB.out.size
          go_wp2_with fail
          refine (HJ.out wr).mono ?_
          rintro e w5 ⟨rfl, hb5⟩
          have hs5 := hb5.size
          have HO5 := Lib.hid (HO.out.below hb5 (Nat.le_refl _))
          have HB5 := Lib.hid (HB.out.trans (hb5.mono hbs))
          clear hb5 c0 c1
          go_wp2_with (refine wpList_appI1 rfl _ _ rfl w.heap.size u3 out sx rfl HO5.out _ rfl rfl (by omega) (by omega) ?_; intro v6 w6 hO6 hG6)
          exact ⟨⟨K2, out ++ [sx], hK2, by go_num, hO6, by rw [List.append_assoc]; exact HEND, by simp; omega, Lib.hid (IR.keepsB HB5.out hG6.out HO5.out (Nat.le_refl _) (by omega))⟩, by simp [intOf]; omega⟩
        have hK2' : K2 < n := by omega
        have hK2i : (K2 : Int) < n := by omega
        have hK20 : (0 : Int) ≤ K2 := by omega
        have hwL : IntKind.i64.wrap ((K2 : Int) + 1) = (K2 : Int) + 1 := by rw [IntKind.wrap_i64]; omega
        have hx := (HC.out wr HB.out K2 hK2').1
        have hbw := (HC.out wr HB.out K2 hK2').2
        have hda := drop_at (zs := zs) (K := K2) (by rw [← HN.out]; exact hK2')
        obtain ⟨y, hye⟩ : ∃ y, y = zs.getD K2 0 := ⟨_, rfl⟩
        rw [← hye] at hx hda
        have HBRK := Lib.hid (show tog (LS j) y = none → out ++ LS j :: cGo 0 (zs.drop K2) = cGo 0 zs from fun h => by
          rw [← HG.out, hda, go_brk HLN.out h])
        have HGO := Lib.hid (show ∀ i, tog (LS j) y = some (LS i) → out ++ cGo (LS i) (zs.drop (K2 + 1)) = cGo 0 zs from fun i h => by
          rw [← HG.out, hda]
          have hs : stepC (LS j) y = (LS i, []) := by unfold stepC; rw [h]
          simp only [cGo, hs, List.nil_append])
        clear hye hda HG
        have HQL := Lib.hid (show splitF (LS j) = some j from split_of j hj)
        go_wp2_with fail
        refine (lsign_any y wr).mono ?_
        rintro e w3 ⟨rfl, hb3⟩
        have hs3 := hb3.size
        have HO3 := Lib.hid (HO.out.below hb3 (Nat.le_refl _))
        have HQ3 := Lib.hid (HQ.out.below hb3 HQ.out.lt)
        have HB3 := Lib.hid (HB.out.trans (hb3.mono hbs))
        clear hb3 HO HQ HB hx hbw hs3 hbs
        clear wr
        obtain ⟨wr, hwr⟩ : ∃ w, w3 = w := ⟨_, rfl⟩
        rw [hwr] at HO3 HQ3 HB3 ⊢
        clear hwr w3
        have hbs3 := HB3.out.size
        have HO := HO3
        have HQ := HQ3
        have HB := HB3
        clear HO3 HQ3 HB3
        cases hsy : sgI y with
        | none =>
          have HFA := Lib.hid (HBRK.out (by unfold tog; rw [hsy]))
          rw [show sgV y = .tuple #[.complex .f64 0 0, .bool false] by unfold sgV; rw [hsy]]
          clear hsy HGO HBRK
          have HEND := Lib.hid (show out ++ LS j :: cGo 0 (zs.drop K2) = cGo 0 zs from HFA.out)
          have HJ := Lib.hid (fun W => ljoin_letter j hj W)
          obtain ⟨bx, hbx⟩ : ∃ v, LB j = v := ⟨_, rfl⟩
          obtain ⟨rx, hrx⟩ : ∃ v, fl (LM j) = v := ⟨_, rfl⟩
          obtain ⟨ix, hix⟩ : ∃ v, fl (LT j) = v := ⟨_, rfl⟩
          obtain ⟨sx, hsx⟩ : ∃ v, LS j = v := ⟨_, rfl⟩
          rw [hbx, hrx, hix] at HQ
          rw [hbx, hrx, hix, hsx] at HJ
          rw [hsx] at HEND
          clear hbx hrx hix hsx
          have c0 := HQ.out.cell 0
          have c1 := HQ.out.cell 1
          have hbs := HB.out.size
          go_wp2_with fail
          refine (HJ.out wr).mono ?_
          rintro e w5 ⟨rfl, hb5⟩
          have hs5 := hb5.size
          have HO5 := Lib.hid (HO.out.below hb5 (Nat.le_refl _))
          have HB5 := Lib.hid (HB.out.trans (hb5.mono hbs))
          clear hb5 c0 c1
          go_wp2_with (refine wpList_appI1 rfl _ _ rfl w.heap.size u3 out sx rfl HO5.out _ rfl rfl (by omega) (by omega) ?_; intro v6 w6 hO6 hG6)
          exact ⟨⟨K2, out ++ [sx], hK2, by go_num, hO6, by rw [List.append_assoc]; exact HEND, by simp; omega, Lib.hid (IR.keepsB HB5.out hG6.out HO5.out (Nat.le_refl _) (by omega))⟩, by simp [intOf]; omega⟩
        | some i8 =>
          have hi8 := (sgI_lt hsy).1
          have htg : tog (LS j) y = (addK j i8).map LS := by unfold tog; rw [hsy, HQL.out]
          rw [show sgV y = .tuple #[.complex .f64 (fl (mM i8)) (fl (mT i8)), .bool true] by unfold sgV; rw [hsy]]
          have hls := letter_small j hj
          have hms := mk_fl i8 hi8
          have hmu1 := fmul_small (LM j) (mM i8) (by omega) (by omega)
          have hmu2 := fmul_small (LT j) (mT i8) (by omega) (by omega)
          have had1 := fadd_small (LM j) (mM i8) (by omega) (by omega)
          have had2 := fadd_small (LT j) (mT i8) (by omega) (by omega)
          obtain ⟨m1, hm1⟩ : ∃ v, fl (LM j * mM i8) = v := ⟨_, rfl⟩
          obtain ⟨m2, hm2⟩ : ∃ v, fl (LT j * mT i8) = v := ⟨_, rfl⟩
          rw [hm1] at hmu1
          rw [hm2] at hmu2
          obtain ⟨hmu1, hz1⟩ := hmu1
          obtain ⟨hmu2, hz2⟩ := hmu2
          have HTG := Lib.hid htg
          have HSB := Lib.hid (sum_bits had1 had2)
          have HBO := Lib.hid (show bothK j i8 = ((!feq m1 0) || (!feq m2 0)) by
            unfold bothK; rw [hz1, hz2]
            cases h1 : (LM j == 0) <;> cases h2 : (mM i8 == 0) <;> cases h3 : (LT j == 0) <;> cases h4 : (mT i8 == 0) <;> simp [bne, h1, h2, h3, h4])
          obtain ⟨B, hBd⟩ : ∃ B, bothK j i8 = B := ⟨_, rfl⟩
          have HBd := Lib.hid hBd
          rw [hBd] at HBO
          have HQB := HQ
          obtain ⟨bx, hbx⟩ : ∃ v, LB j = v := ⟨_, rfl⟩
          obtain ⟨rx, hrx⟩ : ∃ v, fl (LM j) = v := ⟨_, rfl⟩
          obtain ⟨ix, hix⟩ : ∃ v, fl (LT j) = v := ⟨_, rfl⟩
          obtain ⟨px, hpx⟩ : ∃ v, fl (mM i8) = v := ⟨_, rfl⟩
          obtain ⟨qx, hqx⟩ : ∃ v, fl (mT i8) = v := ⟨_, rfl⟩
          rw [hbx, hrx, hix] at HQB
          rw [hrx, hpx] at hmu1
          rw [hix, hqx] at hmu2
          rw [hpx, hqx]
          have c0 := HQB.out.cell 0
          have c1 := HQB.out.cell 1
          have HH := Lib.hid (show LB j = bx ∧ fl (LM j) = rx ∧ fl (LT j) = ix ∧ fl (mM i8) = px ∧ fl (mT i8) = qx from ⟨hbx, hrx, hix, hpx, hqx⟩)
          clear hbx hrx hix hpx hqx hBd hz1 hz2 hm1 hm2 had1 had2 hls hms htg hsy HQB
          have hM1 : ∀ W, (binOp .mul 42 (.float .f64 rx) (.float .f64 px)).run Tryd.prog W = .ok (.float .f64 m1) W := fun W => run_float_arith W .mul _ .f64 rx px m1 hmu1
          have hM2 : ∀ W, (binOp .mul 42 (.float .f64 ix) (.float .f64 qx)).run Tryd.prog W = .ok (.float .f64 m2) W := fun W => run_float_arith W .mul _ .f64 ix qx m2 hmu2
          go_upto_region 10 with fail
          go_cut [68] (fun s wx => s = .bool B ∧ wx = wr)
          case first =>
            have hB := HBO.out
            have a1 := ord_ne10 m1 0
            have a2 := ord_ne10 m2 0
            cases h1 : feq m1 0 <;> cases h2 : feq m2 0
            all_goals
              rw [h1] at a1 hB
              rw [h2] at a2 hB
              simp only [Bool.not_true, Bool.not_false, Bool.or_true, Bool.or_false, Bool.true_or, Bool.false_or, Bool.or_self] at a1 a2 hB
              subst hB
              clear h1 h2
              go_wp2
              go_meet
              exact ⟨rfl, rfl⟩
          case rest =>
            obtain ⟨rfl, hwc⟩ := hcut
            subst hwc
            obtain ⟨wr, hwr⟩ : ∃ w, wc = w := ⟨_, rfl⟩
            rw [hwr] at HO HQ HB c0 c1 ⊢
            clear hwr hM1 hM2 hmu1 hmu2
            have hbs := HB.out.size
            cases B with
            | true =>
              have HFA := Lib.hid (HBRK.out (by rw [HTG.out]; unfold addK; rw [HBd.out]; rfl))
              clear HGO HBRK HH HSB HTG HBd HBO c0 c1
              skip
              have HEND := Lib.hid (show out ++ LS j :: cGo 0 (zs.drop K2) = cGo 0 zs from HFA.out)
              have HJ := Lib.hid (fun W => ljoin_letter j hj W)
              obtain ⟨bx, hbx⟩ : ∃ v, LB j = v := ⟨_, rfl⟩
              obtain ⟨rx, hrx⟩ : ∃ v, fl (LM j) = v := ⟨_, rfl⟩
              obtain ⟨ix, hix⟩ : ∃ v, fl (LT j) = v := ⟨_, rfl⟩
              obtain ⟨sx, hsx⟩ : ∃ v, LS j = v := ⟨_, rfl⟩
              rw [hbx, hrx, hix] at HQ
              rw [hbx, hrx, hix, hsx] at HJ
              rw [hsx] at HEND
              clear hbx hrx hix hsx
              have c0 := HQ.out.cell 0
              have c1 := HQ.out.cell 1
              have hbs := HB.out.size
              go_wp2_with fail
              refine (HJ.out wr).mono ?_
              rintro e w5 ⟨rfl, hb5⟩
              have hs5 := hb5.size
              have HO5 := Lib.hid (HO.out.below hb5 (Nat.le_refl _))
              have HB5 := Lib.hid (HB.out.trans (hb5.mono hbs))
              clear hb5 c0 c1
              go_wp2_with (refine wpList_appI1 rfl _ _ rfl w.heap.size u3 out sx rfl HO5.out _ rfl rfl (by omega) (by omega) ?_; intro v6 w6 hO6 hG6)
              exact ⟨⟨K2, out ++ [sx], hK2, by go_num, hO6, by rw [List.append_assoc]; exact HEND, by simp; omega, Lib.hid (IR.keepsB HB5.out hG6.out HO5.out (Nat.le_refl _) (by omega))⟩, by simp [intOf]; omega⟩
            | false =>
              have hH := HH.out
              have HBF := HBd
              have hadd : addK j i8 = sumK j i8 := by unfold addK; rw [HBF.out]; rfl
              have HADD := Lib.hid hadd
              have hsb := HSB.out
              have hlj := fun W => ljoin_sum j i8 hj hi8 HBF.out W
              obtain ⟨s1, hs1⟩ : ∃ v, fl (LM j + mM i8) = v := ⟨_, rfl⟩
              obtain ⟨s2, hs2⟩ : ∃ v, fl (LT j + mT i8) = v := ⟨_, rfl⟩
              rw [hs1, hs2] at hlj hsb
              rw [hH.1] at hlj
              rw [hH.2.1, hH.2.2.1, hH.2.2.2.1, hH.2.2.2.2] at hsb
              have HSS := Lib.hid (show fl (LM j + mM i8) = s1 ∧ fl (LT j + mT i8) = s2 from ⟨hs1, hs2⟩)
              have HLJ := Lib.hid hlj
              have hqb : Held wr p #[.int .i64 bx, .complex .f64 rx ix] 35 := by have := HQ.out; rw [hH.1, hH.2.1, hH.2.2.1] at this; exact this
              have HQB := Lib.hid hqb
              have hC1 : ∀ W, (binOp .add 33 (.complex .f64 rx ix) (.complex .f64 px qx)).run Tryd.prog W = .ok (.complex .f64 s1 s2) W := fun W => run_csum W .add _ .f64 rx ix px qx s1 s2 hsb
              clear hadd hsb hlj hs1 hs2 hH hqb HBO HBd
              go_wp2_with fail
              refine (HLJ.out wr).mono ?_
              rintro e w4 ⟨rfl, hb4⟩
              have hpw := HQ.out.lt
              have HO4 := Lib.hid (HO.out.below hb4 (Nat.le_refl _))
              have HQ4 := Lib.hid (HQ.out.below hb4 hpw)
              have HQB4 := Lib.hid (HQB.out.below hb4 hpw)
              have HB4 := Lib.hid (HB.out.trans (hb4.mono hbs))
              clear hb4 HO HQ HQB HB c0 c1 hpw hbs
              clear wr
              obtain ⟨wr, hwr⟩ : ∃ w, w4 = w := ⟨_, rfl⟩
              rw [hwr] at HO4 HQ4 HQB4 HB4 ⊢
              clear hwr w4
              have hbs := HB4.out.size
              have c0 := HQB4.out.cell 0
              have c1 := HQB4.out.cell 1
              have f0 := HQB4.out.frozen 1
              have hpw := HQB4.out.lt
              cases hsk : sumK j i8 with
              | none =>
                have HFA := Lib.hid (HBRK.out (by rw [HTG.out, HADD.out, hsk]; rfl))
                have HO := HO4
                have HQ := HQ4
                have HB := HB4
                simp only [Option.isSome_none]
                clear HGO HBRK HH HTG HBF HADD hsk hC1 HLJ HSS HQB4 HQ4 HO4 HB4 c0 c1 f0
                skip
                have HEND := Lib.hid (show out ++ LS j :: cGo 0 (zs.drop K2) = cGo 0 zs from HFA.out)
                have HJ := Lib.hid (fun W => ljoin_letter j hj W)
                obtain ⟨bx, hbx⟩ : ∃ v, LB j = v := ⟨_, rfl⟩
                obtain ⟨rx, hrx⟩ : ∃ v, fl (LM j) = v := ⟨_, rfl⟩
                obtain ⟨ix, hix⟩ : ∃ v, fl (LT j) = v := ⟨_, rfl⟩
                obtain ⟨sx, hsx⟩ : ∃ v, LS j = v := ⟨_, rfl⟩
                rw [hbx, hrx, hix] at HQ
                rw [hbx, hrx, hix, hsx] at HJ
                rw [hsx] at HEND
                clear hbx hrx hix hsx
                have c0 := HQ.out.cell 0
                have c1 := HQ.out.cell 1
                have hbs := HB.out.size
                go_wp2_with fail
                refine (HJ.out wr).mono ?_
                rintro e w5 ⟨rfl, hb5⟩
                have hs5 := hb5.size
                have HO5 := Lib.hid (HO.out.below hb5 (Nat.le_refl _))
                have HB5 := Lib.hid (HB.out.trans (hb5.mono hbs))
                clear hb5 c0 c1
                go_wp2_with (refine wpList_appI1 rfl _ _ rfl w.heap.size u3 out sx rfl HO5.out _ rfl rfl (by omega) (by omega) ?_; intro v6 w6 hO6 hG6)
                exact ⟨⟨K2, out ++ [sx], hK2, by go_num, hO6, by rw [List.append_assoc]; exact HEND, by simp; omega, Lib.hid (IR.keepsB HB5.out hG6.out HO5.out (Nat.le_refl _) (by omega))⟩, by simp [intOf]; omega⟩
              | some i =>
                obtain ⟨hi, h3, h4, h5⟩ := sumK_lt hsk
                have HG2 := Lib.hid (HGO.out i (by rw [HTG.out, HADD.out, hsk]; rfl))
                have HLI := Lib.hid (show #[.int .i64 bx, .complex .f64 s1 s2] = #[Value.int .i64 (LB i), .complex .f64 (fl (LM i)) (fl (LT i))] by
                  rw [h3, h4, h5, HSS.out.1, HSS.out.2, HH.out.1])
                simp only [Option.isSome_some]
                clear HGO HBRK HH HTG HBF HADD hsk HLJ HSS HQ4 h3 h4 h5 hj
                go_wp2
                have hbl5 : Below w.heap.size w (wr.setCell ⟨p, 1, none⟩ (.complex .f64 s1 s2)) := HB4.out.setCell (p := ⟨p, 1, none⟩) hpl _
                have hq5 := heap_setCell_same wr p 1 _ _ (.complex .f64 s1 s2) HQB4.out
                go_roundw
                case rel => exact ⟨K2 + 1, i, by omega, by omega, hi, by go_num, Lib.hid (HO4.out.grownP HQB4.out (by decide) (grownBy_setCellK wr ⟨p, 1, none⟩ _)), Lib.hid (by rw [← HLI.out]; exact hq5), HG2, Lib.hid hbl5⟩
                case measure => simp [intOf]; omega
end Go.Proofs.YtjolbdfkkhphiaaDoor
