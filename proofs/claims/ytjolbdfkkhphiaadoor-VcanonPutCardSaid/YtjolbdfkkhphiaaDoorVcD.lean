/- Layer 10: Apart. -/
import Derived.Test.YtjolbdfkkhphiaaDoorVcC
namespace Go.Proofs.YtjolbdfkkhphiaaDoor
set_option linter.unusedVariables false
set_option linter.unusedSimpArgs false
set_option linter.unnecessarySimpa false
open Go.RowKit Go.Shelf
attribute [local go_sem] run_store_complex

theorem apS_len (k : Nat) : (apS k).length ≤ 8 := apN_len k 8
theorem fl_four : fl 4 = 4616189618054758400 := by decide +kernel
theorem apF_snoc (t : List Int) (x : Int) : apF (t ++ [x]) = apF t ++ ap1 x := by simp [apF]

set_option maxHeartbeats 3200000 in
theorem apart_any (n : Nat) (A : Option Addr) (cap : Nat) (zs : List Int) (w : World) (hn : n = zs.length) (hr : RI w A zs) (hl : zs.length ≤ 1000000) (hT : TabV w) :
    Calls Tryd.prog 20 #[.slice A n cap] w fun e w' => ∃ v, e = .returned v ∧ IR w' w.heap.size v (apF zs) ∧ Below w.heap.size w w' := by
  subst hn
  have HR := Lib.hid hr
  have HT := Lib.hid hT
  clear hr hT
  go_enter Tryd.func20, Tryd.ntmps20
  go_wp2
  go_loopw [3, 10] (fun v k wr => ∃ K : Nat, K ≤ zs.length ∧ k = .int .i64 K ∧ Hid (IR wr w.heap.size v (apF (zs.take K))) ∧ Hid (Below w.heap.size w wr)) (fun _ k _ => zs.length - (intOf k).toNat)
  case atStart => exact ⟨0, by omega, rfl, Lib.hid (IR.nil _ _), Lib.hid (Below.refl _ _)⟩
  case round =>
    obtain ⟨K, hK, rfl, HO, HB⟩ := hrel
    by_cases hKl : K = zs.length
    · have HF := Lib.hid (show zs.take K = zs by rw [hKl]; exact List.take_length)
      have hKl' : ¬ K < zs.length := by omega
      clear hKl
      go_wp2
      go_ret
      exact ⟨_, rfl, by have := HO.out; rw [HF.out] at this; exact this, HB.out⟩
    have hKl' : K < zs.length := by omega
    have hbs := HB.out.size
    have hal := (apF_len (zs.take K)).2
    rw [List.length_take] at hal
    have hal2 : (apF (zs.take K)).length ≤ 3000000 := by omega
    have hap := apF_snoc (zs.take K)
    obtain ⟨out, hout⟩ : ∃ c, apF (zs.take K) = c := ⟨_, rfl⟩
    rw [hout] at hap HO hal2
    obtain ⟨b, off, rfl, hbl, hcell⟩ := rd_ints (HR.out.below HB.out) (by omega)
    have hx := hcell K hKl'
    obtain ⟨x, hxe⟩ : ∃ x, x = zs.getD K 0 := ⟨_, rfl⟩
    rw [← hxe] at hx
    have htk : zs.take (K + 1) = zs.take K ++ [x] := by rw [List.take_succ_eq_append_getElem hKl', hxe]; simp [List.getD_eq_getElem?_getD, hKl']
    have HTK := Lib.hid (show apF (zs.take (K + 1)) = out ++ ap1 x by rw [htk]; exact hap x)
    have HTW := Lib.hid (HT.out.below HB.out)
    clear hcell hxe htk hap hout hal
    go_wp2_with fail
    cases hk : splitF x with
    | none =>
      have HA := Lib.hid (show ap1 x = [x] by unfold ap1; rw [hk])
      refine (split_none x wr HTW.out.rows hk).mono ?_
      rintro e w1 ⟨rfl, hb1⟩
      have hs1 := hb1.size
      have HO1 := Lib.hid ((HO.out.below hb1 (Nat.le_refl _)).alloc (.cells #[.int .i64 0, .complex .f64 0 0] 35))
      have HB1 := Lib.hid ((HB.out.trans (hb1.mono hbs)).alloc (by omega) (.cells #[.int .i64 0, .complex .f64 0 0] 35))
      clear hb1 hk HO HB
      go_wp2_with (refine wpList_appI1 rfl _ _ rfl w.heap.size u3 out x rfl HO1.out _ rfl (by simp) (by omega) (by simp; omega) ?_; intro v4 w4 hO4 hG4)
      exact ⟨⟨K + 1, by omega, by go_num, by rw [HTK.out, HA.out]; exact hO4, Lib.hid (IR.keepsB HB1.out hG4.out HO1.out (Nat.le_refl _) (by simp; omega))⟩, by simp [intOf]; omega⟩
    | some k =>
      have hk8 := (splitF_LS hk).1
      have hls := letter_small k hk8
      have hv : letV k = #[.int .i64 (LB k), .complex .f64 (fl (LM k)) (fl (LT k))] := rfl
      have hA : ap1 x = if LM k = 4 then [x] else LB k :: apS k := by unfold ap1; rw [hk]
      have h4 : (FloatKind.f64.format.order (fl (LM k)) 4616189618054758400 == some .eq) = (LM k == 4) := by
        rw [ord_eq10, ← fl_four]; exact feq_fl _ _ (by omega) (by omega)
      have HS := Lib.hid (fun W hT => signsOf_any k hk8 W hT)
      refine (split_some x k wr HTW.out.rows hk).mono ?_
      rintro e w1 ⟨rfl, hb1⟩
      rw [hv] at HS ⊢
      have hsl := apS_len k
      obtain ⟨ys, hys⟩ : ∃ v, apS k = v := ⟨_, rfl⟩
      obtain ⟨bx, hbx⟩ : ∃ v, LB k = v := ⟨_, rfl⟩
      obtain ⟨rx, hrx⟩ : ∃ v, fl (LM k) = v := ⟨_, rfl⟩
      obtain ⟨ix, hix⟩ : ∃ v, fl (LT k) = v := ⟨_, rfl⟩
      rw [hys] at hsl
      rw [hrx] at h4
      rw [hys, hbx, hrx, hix] at HS
      rw [hys, hbx] at hA
      rw [hbx, hrx, hix]
      have hs1 := hb1.size
      have HO1 := Lib.hid ((HO.out.below hb1 (Nat.le_refl _)).alloc (.cells #[.int .i64 bx, .complex .f64 rx ix] 35))
      have HB1 := Lib.hid ((HB.out.trans (hb1.mono hbs)).alloc (by omega) (.cells #[.int .i64 bx, .complex .f64 rx ix] 35))
      have HQ1 := Lib.hid (Held.new w1 #[.int .i64 bx, .complex .f64 rx ix] 35)
      clear hb1 hk HO HB hv hys hbx hrx hix hls
      by_cases h44 : LM k = 4
      · rw [if_pos h44] at hA
        have HA := Lib.hid hA
        have h4' : (FloatKind.f64.format.order rx 4616189618054758400 == some .eq) = true := by rw [h4, h44]; rfl
        clear h4 h44 hA
        go_wp2_with (refine wpList_appI1 rfl _ _ rfl w.heap.size u3 out x rfl HO1.out _ rfl (by simp) (by omega) (by simp; omega) ?_; intro v4 w4 hO4 hG4)
        exact ⟨⟨K + 1, by omega, by go_num, by rw [HTK.out, HA.out]; exact hO4, Lib.hid (IR.keepsB HB1.out hG4.out HO1.out (Nat.le_refl _) (by simp; omega))⟩, by simp [intOf]; omega⟩
      · rw [if_neg h44] at hA
        have HA := Lib.hid hA
        have h4' : (FloatKind.f64.format.order rx 4616189618054758400 == some .eq) = false := by rw [h4]; simpa using h44
        clear h4 h44 hA
        go_upto_region 8 with fail
        obtain ⟨W1, hW1⟩ : ∃ W1, w1.alloc (.cells #[.int .i64 bx, .complex .f64 rx ix] 35) = W1 := ⟨_, rfl⟩
        rw [hW1] at HO1 HB1 HQ1 ⊢
        obtain ⟨p, hp⟩ : ∃ p, w1.heap.size = p := ⟨_, rfl⟩
        rw [hp] at HQ1 ⊢
        have hbs1 := HB1.out.size
        have hp1 := HQ1.out.lt
        have c0 := HQ1.out.cell 0
        clear hW1 hs1 hp
        clear w1
        go_wp2_with (refine wpList_appI1 rfl _ _ rfl w.heap.size u3 out bx rfl HO1.out _ rfl rfl (by omega) (by omega) ?_; intro v4 w4 hO4 hG4; have hq4 := HQ1.out.grownI HO1.out (by decide) hG4.out; have d0 := hq4.cell 0; have d1 := hq4.cell 1)
        have hs4 := hG4.out.size
        have HB4 := Lib.hid (IR.keepsB HB1.out hG4.out HO1.out (Nat.le_refl _) hbs1)
        have hT4 := HT.out.below HB4.out
        refine (HS.out w4 hT4).mono ?_
        rintro e w5 ⟨v5, rfl, hr5, hb5⟩
        obtain ⟨A5, c5, rfl, _, _⟩ := hr5.form
        have HR5 := Lib.hid hr5
        have HO5 := Lib.hid (hO4.out.below hb5 (Nat.le_refl _))
        have hs5 := hb5.size
        have HB5 := Lib.hid (HB4.out.trans (hb5.mono (by omega)))
        clear hr5 hb5 hT4 hq4 d0 d1
        go_wp2_with (refine wpList_appI rfl _ _ rfl w.heap.size v4 (out ++ [bx]) rfl HO5.out A5 _ c5 ys rfl rfl _ HR5.out.rd (by simp; omega) (by omega) ?_; intro v6 w6 hO6 hG6)
        exact ⟨⟨K + 1, by omega, by go_num, by rw [HTK.out, HA.out]; rw [List.append_assoc] at hO6; exact hO6, Lib.hid (IR.keepsB HB5.out hG6.out HO5.out (Nat.le_refl _) (by omega))⟩, by simp [intOf]; omega⟩
end Go.Proofs.YtjolbdfkkhphiaaDoor
