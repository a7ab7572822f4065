/- IsciiDecode: the walk. -/
import Derived.Test.YtdkcadckbjncjaaDoorZ27
import Derived.Test.YtdkcadckbjncjaaDoorZ24
import Derived.Test.YtdkcadckbjncjaaDoorZ23
import Derived.Test.YtdkcadckbjncjaaDoorZ13
import Derived.Handy
namespace Go.Proofs.YtdkcadckbjncjaaDoor
set_option linter.unusedVariables false
set_option linter.unusedSimpArgs false
set_option linter.unnecessarySimpa false
open Go.RowKit
set_option maxRecDepth 100000 in
set_option maxHeartbeats 12800000 in
theorem isciiDecode_any (I : IsApi) (A : Option Addr) (c : Nat) (zs : List Int) (A' : Option Addr) (c' : Nat) (ys : List Int) (w : World) (hI : I.OK w) (hz : Rd w w.heap.size A (zs.map (Value.int .u8))) (hzr : ∀ z ∈ zs, 0 ≤ z ∧ z ≤ 255) (hzc : zs.length ≤ c) (hzm : c ≤ maxLen)
    (hy : Rd w w.heap.size A' (ys.map (Value.int .u8))) (hyr : ∀ z ∈ ys, 0 ≤ z ∧ z ≤ 255) (hyc : ys.length ≤ c') (hym : c' ≤ maxLen) :
    Calls Tryd.prog 3 #[.slice A zs.length c, .slice A' ys.length c'] w fun e w' => e = .returned (.bool true) ∧ Below w.heap.size w w' := by
  obtain ⟨Z, hZ⟩ : ∃ Z, Z = zs.length := ⟨_, rfl⟩
  obtain ⟨n, hnY⟩ : ∃ n, n = ys.length := ⟨_, rfl⟩
  rw [← hZ] at hzc ⊢
  rw [← hnY] at hyc ⊢
  obtain ⟨q, hq1, hq2, hqn, hq4⟩ : ∃ q : Nat, min (n : Int) 60 = (q : Int) ∧ (if (60 : Int) < (n : Int) then (60 : Int) else (n : Int)) = (q : Int) ∧ q ≤ n ∧ q ≤ 60 := by
    by_cases h : n < 60
    · exact ⟨n, by omega, by rw [if_neg (by omega)], by omega, by omega⟩
    · exact ⟨60, by omega, by split <;> omega, by omega, by omega⟩
  have hq0 : (0 : Int) ≤ (q : Int) := by omega
  have hqi : (q : Int) ≤ n := by omega
  unfold maxLen at hym
  have hqc : (q : Int) ≤ c' := by omega
  obtain ⟨xs, hxs⟩ : ∃ xs, ys.take q = xs := ⟨_, rfl⟩
  have hxl : xs.length = q := by rw [← hxs, List.length_take]; omega
  have hxr : ∀ z ∈ xs, 0 ≤ z ∧ z ≤ 255 := fun z h => hyr z (by rw [← hxs] at h; exact List.mem_of_mem_take h)
  have hxd : Rd w w.heap.size A' (xs.map (Value.int .u8)) := by rw [← hxs, List.map_take]; exact hy.take q
  have HI := Lib.hid hI
  have HZ := Lib.hid hz
  have HZR := Lib.hid hzr
  have HZM := Lib.hid hzm
  have HZL := Lib.hid hZ
  have HXL := Lib.hid hxl
  have HXR := Lib.hid hxr
  have HXD := Lib.hid hxd
  clear hI hz hzr hzm hZ hy hyr hxl hxr hxd hxs hnY
  go_enter Tryd.func3, Tryd.ntmps3
  go_wp2_with fail
  refine (awake18_any I w HI.out).mono ?_
  rintro e w1 ⟨rfl, hb1⟩
  have HI1 := Lib.hid (I.keep HI.out hb1)
  have HB1 := Lib.hid hb1
  have hs1 := hb1.size
  obtain ⟨R, hR⟩ : ∃ R, w1.heap.size = R := ⟨_, rfl⟩
  have HRE := Lib.hid hR
  have HBR := Lib.hid (show Below R w1 w1 from Below.refl _ _)
  rw [hR] at hs1
  clear hb1 hR
  go_wp2_with fail
  go_loopw [5, 24] (fun v i wr => ∃ K : Nat, K ≤ q ∧ i = .int .i64 K ∧ Hid (IR wr R v (xs.take K)) ∧ Hid (Below R w1 wr)) (fun _ i _ => q - (intOf i).toNat)
  case atStart => exact ⟨0, by omega, rfl, Lib.hid (IR.nil _ _), HBR⟩
  case round =>
    clear HBR
    obtain ⟨K, hK, rfl, hi, hb⟩ := hrel
    have hsz := hb.out.size
    rw [HRE.out] at hsz
    by_cases hKn : K = q
    · have hK' : ¬ K < q := by omega
      have hfin := hi.out
      rw [List.take_of_length_le (by rw [HXL.out]; omega)] at hfin
      obtain ⟨A5, c5, rfl, h51, h52⟩ := hfin.form
      rw [HXL.out] at hfin h51 ⊢
      obtain ⟨w5, rfl⟩ : ∃ w5 : World, w5 = wr := ⟨_, rfl⟩
      have HX5 := Lib.hid hfin
      have h52' := Lib.hid h52
      have HB5 := Lib.hid (HB1.out.trans (hb.out.mono (by omega)))
      obtain ⟨us, hus⟩ : ∃ us, bytesI zs = us := ⟨_, rfl⟩
      have hul : us.length ≤ 120 := by rw [← hus]; exact bytesI_len zs
      have HUS := Lib.hid hus
      clear hus hi hfin h52 hb hKn
      go_wp2_with fail
      refine (bytes18_any Z A c zs w.heap.size w5 HZL.out (HZ.out.below HB5.out (Nat.le_refl _)) HZR.out HB5.out.size hzc HZM.out us HUS.out).mono ?_
      rintro e w6 ⟨v6, rfl, hi6, hb6⟩
      obtain ⟨A6, c6, rfl, h61, h62⟩ := hi6.form
      have HX6 := Lib.hid (show Rd w6 w6.heap.size A5 (xs.map (Value.int .i64)) from (HX5.out.below hb6 (Nat.le_refl _)).rd)
      have HU6 := Lib.hid (show Rd w6 w6.heap.size A6 (us.map (Value.int .i64)) from hi6.rd)
      have HB6 := Lib.hid (HB5.out.trans (hb6.mono HB5.out.size))
      have h62' := Lib.hid h62
      have hs6 := hb6.size
      clear hi6 hb6 h62 HX5
      obtain ⟨nu, hnu⟩ : ∃ n, us.length = n := ⟨_, rfl⟩
      rw [hnu] at h61 hul ⊢
      have HNU := Lib.hid hnu
      clear hnu
      -- the two rows, side by side
      have HM := Lib.hid (Held.new w6 #[.slice A6 nu c6, .slice A5 q c5] 24)
      have hb7 := below_allocI w6 (.cells #[.slice A6 nu c6, .slice A5 q c5] 24)
      have HX7 := Lib.hid (HX6.out.below hb7 (Nat.le_refl _))
      have HU7 := Lib.hid (HU6.out.below hb7 (Nat.le_refl _))
      have HBW := Lib.hid (HB6.out.trans (hb7.mono HB6.out.size))
      clear HX6 HU6 hb7
      go_wp2_with fail
      obtain ⟨W0, hW0⟩ : ∃ W, w6.alloc (.cells #[.slice A6 nu c6, .slice A5 q c5] 24) = W := ⟨_, rfl⟩
      obtain ⟨M, hM⟩ : ∃ M, w6.heap.size = M := ⟨_, rfl⟩
      have hMR : M + 1 = W0.heap.size := by rw [← hW0, ← hM]; simp
      rw [hW0] at HM HX7 HU7 HBW ⊢
      rw [hM] at HM HX7 HU7 ⊢
      have hs7 := HBW.out.size
      obtain ⟨R0, hR0e⟩ : ∃ R0, W0.heap.size = R0 := ⟨_, rfl⟩
      rw [hR0e] at hMR hs7
      have hR0 : w.heap.size ≤ R0 := hs7
      have HR0E := Lib.hid hR0e
      have HBR0 := Lib.hid (show Below R0 W0 W0 from Below.refl _ _)
      have HSEL := Lib.hid (show ∀ X : Nat, X < 2 → ∃ (Ax : Option Addr) (nx cx : Nat) (ux : List Int), W0.cell? ⟨M, X, none⟩ = some (.slice Ax nx cx) ∧ nx = ux.length ∧ Rd W0 R0 Ax (ux.map (Value.int .i64)) ∧ nx ≤ cx ∧ cx ≤ maxLen ∧ nx ≤ 120 from fun X hX => by
        match X, hX with
        | 0, _ => exact ⟨A6, nu, c6, us, HM.out.cell 0, HNU.out.symm, HU7.out.below (show Below M W0 W0 from Below.refl _ _) (by omega), h61, h62'.out, hul⟩
        | 1, _ => exact ⟨A5, q, c5, xs, HM.out.cell 1, HXL.out.symm, HX7.out.below (show Below M W0 W0 from Below.refl _ _) (by omega), h51, h52'.out, by omega⟩)
      clear hW0 hM hR0e HX7 HU7 HM h52' h62' h61 h51
      go_wp2_with fail
      go_loopw [39] (fun i wr => ∃ X : Nat, X ≤ 2 ∧ i = .int .i64 X ∧ Hid (Below R0 W0 wr)) (fun i _ => 2 - (intOf i).toNat)
      case atStart => exact ⟨0, by omega, rfl, HBR0⟩
      case round =>
        clear HBR0
        obtain ⟨X, hX, rfl, hbr⟩ := hrel
        by_cases hXn : X = 2
        · subst hXn
          rw [show ((2 : Nat) : Int) = 2 from rfl]
          go_wp2
          go_ret
          exact ⟨rfl, HBW.out.trans (hbr.out.mono hR0)⟩
        have hX' : X < 2 := by omega
        have x3 : (0 : Int) ≤ X := by omega
        have x4 : (X : Int) < 2 := by omega
        obtain ⟨Ax, nx, cx, ux, hcl, hnx, hrx, hcx, hcm, hnx2⟩ := HSEL.out X hX'
        have r4 := (hbr.out.cell (p := ⟨M, X, none⟩) (by show M < R0; omega)).trans hcl
        have HNX := Lib.hid hnx
        have HRX := Lib.hid hrx
        have HCX := Lib.hid hcm
        obtain ⟨wo, rfl⟩ : ∃ wo : World, wo = wr := ⟨_, rfl⟩
        have hso := hbr.out.size
        rw [HR0E.out] at hso
        clear hcl hnx hrx hcm hXn
        have D0 := Lib.hid (I.decode wo (I.keep HI.out (HBW.out.trans (hbr.out.mono hR0))))
        go_wp2_with fail
        refine D0.out.mono ?_
        rintro e w5' ⟨pd, F5, rfl, hD5, hfd1, hb5⟩
        have HD5 := Lib.hid hD5
        have HBR5 := Lib.hid (hbr.out.trans (hb5.mono hso))
        obtain ⟨S5, hS5⟩ : ∃ S, wo.heap.size = S := ⟨_, rfl⟩
        obtain ⟨L5, hL5e⟩ : ∃ L, w5'.heap.size = L := ⟨_, rfl⟩
        have hSL := hb5.size
        rw [hS5, hL5e] at hSL
        rw [hS5] at hso hfd1
        have hRS : R0 ≤ S5 := hso
        have hR0' : R0 ≤ W0.heap.size := by rw [HR0E.out]; exact Nat.le_refl _
        have hL5 : L5 ≤ w5'.heap.size := by omega
        have HFS := Lib.hid hfd1
        have HTK0 := Lib.hid (show TkRow F5 L5 L5 w5' (.slice none 0 0) [] from ⟨Nat.le_refl _, hL5, fun b hb => by have := (I.dfoot hD5).2 b hb; omega, OwnTkB.nil _ _⟩)
        clear hD5 hb5 hS5 hL5e hbr D0 hfd1
        go_wp2_with fail
        go_loopw [11, 48] (fun v i wr => ∃ (K : Nat) (q : List Int) (a sc : Int) (acc : List Tk) (G F : Nat → Prop) (base : Nat), K ≤ nx ∧ i = .int .i64 K ∧ Hid (DS ux K q a sc acc) ∧ Hid (I.D G F wr pd q a sc) ∧ Hid (TkRow G L5 base wr v acc) ∧ Hid (NotIn F v) ∧ Hid (Below R0 W0 wr) ∧ L5 ≤ wr.heap.size ∧ Hid (∀ b, G b → S5 ≤ b) ∧ Hid (K = 0 → v = .slice none 0 0 ∧ acc = [])) (fun _ i _ => nx - (intOf i).toNat)
        case atStart => exact ⟨0, [], 0, 0, [], F5, F5, L5, by omega, rfl, Lib.hid (DS.start ux), HD5, HTK0, Lib.hid (NotIn.nil _), HBR5, hL5, HFS, Lib.hid (fun _ => ⟨rfl, rfl⟩)⟩
        case round =>
          clear HD5 HBR5 hL5 HTK0
          obtain ⟨K, q, a, sc, acc, G, F, base, hK, rfl, hds, hD, htk, hnot, hbr, hwr, hgs, hnil⟩ := hrel
          have hrow := Lib.hid htk.out.row
          have hbR := htk.out.le
          have hbW := htk.out.top
          by_cases hKn : K = nx
          · subst hKn
            have hK' : ¬ K < K := by omega
            obtain ⟨ts, hts⟩ : ∃ ts, rewA inR a q = ts := ⟨_, rfl⟩
            obtain ⟨ms, sc', hm⟩ : ∃ ms sc', meanT sc ts = (ms, sc') := ⟨_, _, rfl⟩
            have hfin := hds.out.fin (by rw [← HNX.out]; exact Nat.le_refl _) hts hm
            have hln := meanT_len (rewA inR 0 ux) 0
            have hln2 := inR_good.rew_len ux 0
            rw [hfin] at hln
            simp only at hln
            rw [List.length_append] at hln
            have HLN := Lib.hid (show acc.length + ms.length ≤ 1048576 by have := HNX.out; omega)
            have HFIN := Lib.hid hfin
            obtain ⟨-, ha1, -, ha0, hsc0, hsc1⟩ := hds.out
            have hq1 := hds.out.one
            have hI5 := I.keep HI.out (HBW.out.trans (hbr.out.mono hR0))
            have P1 := Lib.hid (I.dend ts ms sc' hD.out hI5 hq1 ha0 (by omega) hsc0 hsc1 hts hm)
            have hvl := Lib.hid (fun b (e : _ = some b) => own_ltT hrow.out e)
            have hfr := Lib.hid (fun (e : q = [] ∧ a = 0) => hnil.out (by rw [e.1, e.2] at ha1; simp at ha1; omega))
            obtain ⟨A9, c9, rfl, -⟩ := hrow.out.form
            obtain ⟨k9, hk9⟩ : ∃ k, acc.length = k := ⟨_, rfl⟩
            rw [hk9] at hnot hvl htk hfr ⊢
            obtain ⟨wa, rfl⟩ : ∃ wa : World, wa = wr := ⟨_, rfl⟩
            clear hds hts hm hI5 hD hln hln2 hk9 hfin hrow hnil
            go_wp2_with fail
            refine P1.out.mono ?_
            rintro e w8 ⟨v8, G', F', B8, rfl, ho8, hD8, hT8⟩
            obtain ⟨base', hbB, htk8⟩ := htk.out.told hT8 hfr.out
            have hm8 := hT8.mid
            obtain ⟨A8, c8, rfl, -⟩ := ho8.form
            obtain ⟨m8, hm8l⟩ : ∃ m, ms.length = m := ⟨_, rfl⟩
            rw [hm8l] at ho8 ⊢
            have HM8 := Lib.hid hm8l.symm
            have HO8 := Lib.hid ho8
            have HROW8 := Lib.hid htk8.row
            have hbR' := htk8.le
            have hbW' := htk8.top
            have HT8 := Lib.hid hT8
            have hB8 := hT8.base
            have HBR8 := Lib.hid (hbr.out.trans (hm8.below (fun b hb => Nat.le_trans hRS (hgs.out b hb)) (Nat.le_trans hR0' hbr.out.size)))
            have HGS8 := Lib.hid (show ∀ b, G' b → R0 ≤ b from fun b hb => by
              rcases hT8.gnew b hb with h | h
              · exact Nat.le_trans hRS (hgs.out b h)
              · omega)
            have hs8 : L5 ≤ w8.heap.size := Nat.le_trans hwr hm8.size
            have HD8 := Lib.hid hD8
            clear htk hbr hD8 hm8 P1 hm8l ho8 hT8 htk8 hfr hgs
            go_wp2_with (at_builtin; refine wpList_appTk rfl _ _ rfl base' (.slice A9 k9 c9) acc rfl HROW8.out A8 m8 c8 B8 ms rfl HM8.out HO8.out hbB (fun b e => Nat.lt_of_lt_of_le (hvl.out b e).2 hB8) HLN.out hbW' ?_)
            intro v9 w9 HO9 HG9 HV9
            obtain ⟨hD9, -⟩ := dtold HD8.out hnot.out HT8.out (fun b e => (hvl.out b e).2) HG9.out HV9.out
            have hbr9 := below_rowG HBR8.out HG9.out (fun b e => by have := (own_ltT HROW8.out e).1; omega) (show R0 ≤ w8.heap.size by omega)
            obtain ⟨A10, c10, rfl, hat10⟩ := HO9.out.form
            obtain ⟨m10, hm10⟩ : ∃ m, (acc ++ ms).length = m := ⟨_, rfl⟩
            rw [hm10] at hat10 ⊢
            have hs9 := hbr9.size
            have L1 := Lib.hid (ldec18_any K Ax cx ux R0 w9 HNX.out (HRX.out.below hbr9 (Nat.le_refl _)) (by omega) hcx HCX.out (by omega) (acc ++ ms) sc' HFIN.out)
            have HAT10 := Lib.hid hat10
            have HD9 := Lib.hid hD9
            have HBR9 := Lib.hid hbr9
            have HM10 := Lib.hid hm10
            clear HO9 HG9 HV9 HD8 HROW8 HO8 HBR8 hnot hat10 hD9 hbr9 hm10 HFIN hvl HT8
            go_wp2_with fail
            refine L1.out.mono ?_
            rintro e w11 ⟨v11, rfl, ho11, hb11⟩
            obtain ⟨A11, c11, rfl, hat11⟩ := ho11.form
            rw [HM10.out] at hat11 ⊢
            have S1 := Lib.hid (same_below m10 A10 A11 c10 c11 (acc ++ ms) w9.heap.size w11.heap.size w11 (HAT10.out.below hb11 (Nat.le_refl _)) hat11)
            have HD11 := Lib.hid (dBelow HD9.out hb11)
            have HBR11 := Lib.hid (HBR9.out.trans (hb11.mono (by omega)))
            clear ho11 hat11 hb11 L1 HAT10 HD9 HBR9
            go_wp2_with fail
            refine S1.out.mono ?_
            rintro e w12 ⟨rfl, hb12⟩
            have HD12 := Lib.hid (dBelow HD11.out hb12)
            have HBR12 := Lib.hid (HBR11.out.trans (hb12.mono (by have := HBR11.out.size; omega)))
            clear hb12 S1 HD11 HBR11
            go_wp2_with fail
            refine (I.dscript HD12.out).mono ?_
            rintro e w13 ⟨rfl, hb13⟩
            have HD13 := Lib.hid (dBelow HD12.out hb13)
            have HBR13 := Lib.hid (HBR12.out.trans (hb13.mono (by have := HBR12.out.size; omega)))
            have d1 : (sc' != sc') = false := by simp
            clear hb13 HD12 HBR12
            go_wp2_with fail
            refine (I.dheld 0 HD13.out (I.keep HI.out (HBW.out.trans (HBR13.out.mono hR0))) rfl).mono ?_
            rintro e w14 ⟨G14, F14, B14, rfl, -, hT14⟩
            have HBR14 := Lib.hid (HBR13.out.trans (hT14.mid.below HGS8.out (by have := HBR13.out.size; omega)))
            clear hT14 HD13 HBR13
            go_wp2_with fail
            go_roundw
            case rel => exact ⟨X + 1, by omega, by go_num, HBR14⟩
            case measure => simp [intOf]; omega
          have hK' : K < nx := by omega
          have hK1 : K < ux.length := by rw [← HNX.out]; exact hK'
          have k3 : (0 : Int) ≤ K := by omega
          have k4 : (K : Int) < nx := by omega
          obtain ⟨b3, o3, rfl, hb3, hc3⟩ := rd_ints HRX.out (by omega)
          have r3 := (hbr.out.cell (p := ⟨b3, o3 + K, none⟩) hb3).trans (hc3 K hK1)
          obtain ⟨u, hu⟩ : ∃ u, ux.getD K 0 = u := ⟨_, rfl⟩
          obtain ⟨ts, rest, k, hd⟩ : ∃ ts rest k, drain inR a (q ++ [ux.getD K 0]) = (ts, rest, k) := ⟨_, _, _, rfl⟩
          obtain ⟨ms, sc', hm⟩ : ∃ ms sc', meanT sc ts = (ms, sc') := ⟨_, _, rfl⟩
          have hds2 := hds.out.step hK1 hd hm
          have hq1 := hds.out.one
          have hln := hds2.len
          rw [List.length_append] at hln
          obtain ⟨-, ha1, -, ha0, hsc0, hsc1⟩ := hds.out
          have HDS2 := Lib.hid hds2
          have HLN := Lib.hid (show acc.length + ms.length ≤ 1048576 by have := HNX.out; omega)
          rw [hu] at r3 hd
          have hI5 := I.keep HI.out (HBW.out.trans (hbr.out.mono hR0))
          have P1 := Lib.hid (I.dput u ts rest k ms sc' hD.out hI5 hq1 ha0 (by omega) hsc0 hsc1 hd hm)
          have hvl := Lib.hid (fun b (e : _ = some b) => own_ltT hrow.out e)
          have hfr := Lib.hid (fun (e : q = [] ∧ a = 0) => hnil.out (by rw [e.1, e.2] at ha1; simp at ha1; omega))
          obtain ⟨A9, c9, rfl, -⟩ := hrow.out.form
          obtain ⟨k9, hk9⟩ : ∃ k, acc.length = k := ⟨_, rfl⟩
          rw [hk9] at hnot hvl htk hfr ⊢
          clear hds hds2 hu hd hm hI5 hD hc3 hKn hb3 hln hk9 hrow hnil
          go_wp2_with fail
          refine P1.out.mono ?_
          rintro e w8 ⟨v8, G', F', B8, rfl, ho8, hD8, hT8⟩
          obtain ⟨base', hbB, htk8⟩ := htk.out.told hT8 hfr.out
          have hm8 := hT8.mid
          obtain ⟨A8, c8, rfl, -⟩ := ho8.form
          obtain ⟨m8, hm8l⟩ : ∃ m, ms.length = m := ⟨_, rfl⟩
          rw [hm8l] at ho8 ⊢
          have HM8 := Lib.hid hm8l.symm
          have HO8 := Lib.hid ho8
          have HROW8 := Lib.hid htk8.row
          have hbR' := htk8.le
          have hbW' := htk8.top
          have HFAR8 := Lib.hid htk8.far
          have HT8 := Lib.hid hT8
          have hB8 := hT8.base
          have HBR8 := Lib.hid (hbr.out.trans (hm8.below (fun b hb => Nat.le_trans hRS (hgs.out b hb)) (Nat.le_trans hR0' hbr.out.size)))
          have HGS8 := Lib.hid (show ∀ b, G' b → S5 ≤ b from fun b hb => by
            rcases hT8.gnew b hb with h | h
            · exact hgs.out b h
            · omega)
          have hs8 : L5 ≤ w8.heap.size := Nat.le_trans hwr hm8.size
          have HD8 := Lib.hid hD8
          clear htk hbr hD8 hm8 P1 hm8l ho8 hT8 htk8 hfr hgs
          go_wp2_with (at_builtin; refine wpList_appTk rfl _ _ rfl base' (.slice A9 k9 c9) acc rfl HROW8.out A8 m8 c8 B8 ms rfl HM8.out HO8.out hbB (fun b e => Nat.lt_of_lt_of_le (hvl.out b e).2 hB8) HLN.out hbW' ?_)
          intro v9 w9 HO9 HG9 HV9
          obtain ⟨hD9, hN9⟩ := dtold HD8.out hnot.out HT8.out (fun b e => (hvl.out b e).2) HG9.out HV9.out
          have HTK9 := Lib.hid (show TkRow G' L5 base' w9 v9 (acc ++ ms) from ⟨hbR', Nat.le_trans hbW' HG9.out.size, HFAR8.out, HO9.out⟩)
          have HD9 := Lib.hid hD9
          have HN9 := Lib.hid hN9
          have HBR9 := Lib.hid (below_rowG HBR8.out HG9.out (fun b e => by have := (own_ltT HROW8.out e).1; omega) (by omega))
          have hs9 : L5 ≤ w9.heap.size := Nat.le_trans hs8 HG9.out.size
          clear hD9 hN9 HG9 HV9 HD8 HROW8 HO8 HBR8 hnot hvl HT8
          go_wp2_with fail
          go_roundw
          case rel => exact ⟨K + 1, rest, _, sc', _, G', F', base', by omega, by go_num, HDS2, HD9, HTK9, HN9, HBR9, hs9, HGS8, Lib.hid (fun e => by omega)⟩
          case measure => simp [intOf]; omega
    have hK' : K < q := by omega
    have hK1 : K < xs.length := by rw [HXL.out]; exact hK'
    have k3 : (0 : Int) ≤ K := by omega
    have k4 : (K : Int) < q := by omega
    obtain ⟨b3, o3, rfl, hb3, hc3⟩ : ∃ b o, A' = some ⟨b, o, none⟩ ∧ b < w.heap.size ∧ ∀ j, j < xs.length → w.cell? ⟨b, o + j, none⟩ = some (.int .u8 (xs.getD j 0)) := by
      rcases HXD.out with h | ⟨b, o, h1, h2, h3⟩
      · rw [List.map_eq_nil_iff] at h; rw [h] at hK1; simp at hK1
      · refine ⟨b, o, h1, h2, fun j hj => ?_⟩
        rw [h3 j (by simpa using hj), List.getElem?_map, List.getD_eq_getElem?_getD, List.getElem?_eq_getElem hj]; rfl
    have r3 := ((HB1.out.trans (hb.out.mono (by omega))).cell (p := ⟨b3, o3 + K, none⟩) hb3).trans (hc3 K hK1)
    have hnx : xs.take (K + 1) = xs.take K ++ [xs.getD K 0] := by
      rw [List.take_succ_eq_append_getElem hK1, List.getD_eq_getElem?_getD, List.getElem?_eq_getElem hK1]; rfl
    have hz := HXR.out (xs.getD K 0) (by rw [List.getD_eq_getElem?_getD, List.getElem?_eq_getElem hK1]; exact List.getElem_mem hK1)
    obtain ⟨z, hze⟩ : ∃ z, xs.getD K 0 = z := ⟨_, rfl⟩
    rw [hze] at r3 hnx hz
    obtain ⟨hz0, hz1⟩ := hz
    have hwz : IntKind.i64.wrap z = z := by rw [IntKind.wrap_i64]; omega
    obtain ⟨A9, c9, rfl, -, -⟩ := hi.out.form
    obtain ⟨acc, hacc⟩ : ∃ acc, xs.take K = acc := ⟨_, rfl⟩
    have hal : acc.length ≤ 60 := by rw [← hacc, List.length_take]; omega
    rw [hacc] at hi hnx ⊢
    obtain ⟨k9, hk9⟩ : ∃ k, acc.length = k := ⟨_, rfl⟩
    have HK9 := Lib.hid hal
    rw [hk9] at hi ⊢
    have HNX := Lib.hid hnx
    clear hc3 hze hacc hal hk9 hKn hK1 hb3 hnx
    go_wp2_with (at_builtin; refine wpList_appI1 rfl _ _ rfl R (.slice A9 k9 c9) acc z rfl hi.out _ rfl rfl (by have := HK9.out; omega) hsz ?_)
    intro v9 w9 HI9 HG9
    have HB9 := Lib.hid (IR.keepsB hb.out HG9.out hi.out (Nat.le_refl _) hsz)
    have HI9' : Hid (IR w9 R v9 (xs.take (K + 1))) := by rw [HNX.out]; exact HI9
    clear HI9 HG9 hi hb
    go_wp2_with fail
    go_roundw
    case rel => exact ⟨K + 1, by omega, by go_num, HI9', HB9⟩
    case measure => simp [intOf]; omega
end Go.Proofs.YtdkcadckbjncjaaDoor
