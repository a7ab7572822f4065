/- IsciiEncode: the walk. -/
import Derived.Test.YtdkcadckbjncjaaDoorZ27
import Derived.Test.YtdkcadckbjncjaaDoorZ24
import Derived.Test.YtdkcadckbjncjaaDoorZ28
import Derived.Test.YtdkcadckbjncjaaDoorZ23
import Derived.Test.YtdkcadckbjncjaaDoorZ13
import Derived.Test.YtdkcadckbjncjaaDoorZ2
import Derived.Handy
namespace Go.Proofs.YtdkcadckbjncjaaDoor
set_option linter.unusedVariables false
set_option linter.unusedSimpArgs false
set_option linter.unnecessarySimpa false
open Go.RowKit
set_option maxRecDepth 100000 in
set_option maxHeartbeats 25600000 in
theorem isciiEncode_any (I : IsApi) (A : Option Addr) (c : Nat) (zs : List Int) (A' : Option Addr) (c' : Nat) (ys : List Int) (w : World) (hI : I.OK w) (hz : Rd w w.heap.size A (zs.map (Value.int .u8))) (hzr : ∀ z ∈ zs, 0 ≤ z ∧ z ≤ 255) (hzc : zs.length ≤ c) (hzm : c ≤ maxLen)
    (hy : Rd w w.heap.size A' (ys.map (Value.int .i64))) (hyc : ys.length ≤ c') (hym : c' ≤ maxLen) :
    Calls Tryd.prog 4 #[.slice A zs.length c, .slice A' ys.length c'] w fun e w' => e = .returned (.bool true) ∧ Below w.heap.size w w' := by
  obtain ⟨Z, hZ⟩ : ∃ Z, Z = zs.length := ⟨_, rfl⟩
  obtain ⟨n, hnY⟩ : ∃ n, n = ys.length := ⟨_, rfl⟩
  rw [← hZ] at hzc ⊢
  rw [← hnY] at hyc ⊢
  obtain ⟨q, hq1, hq2, hqn, hq4⟩ : ∃ q : Nat, min (n : Int) 60 = (q : Int) ∧ (if (60 : Int) < (n : Int) then (60 : Int) else (n : Int)) = (q : Int) ∧ q ≤ n ∧ q ≤ 60 := by
    by_cases h : n < 60
    · exact ⟨n, by omega, by rw [if_neg (by omega)], by omega, by omega⟩
    · exact ⟨60, by omega, by split <;> omega, by omega, by omega⟩
  have hq0 : (0 : Int) ≤ (q : Int) := by omega
  have hqi : (q : Int) ≤ n := by omega
  have hym' := hym
  unfold maxLen at hym
  have hqc : (q : Int) ≤ c' := by omega
  obtain ⟨xs, hxs⟩ : ∃ xs, ys.take q = xs := ⟨_, rfl⟩
  have hxl : xs.length = q := by rw [← hxs, List.length_take]; omega
  have hxd : Rd w w.heap.size A' (xs.map (Value.int .i64)) := by rw [← hxs, List.map_take]; exact hy.take q
  obtain ⟨us, hus⟩ : ∃ us, scalarsI zs = us := ⟨_, rfl⟩
  have hul : us.length ≤ 60 := by rw [← hus]; exact scalarsI_len zs
  have HUS := Lib.hid hus
  have HI := Lib.hid hI
  have HZ := Lib.hid hz
  have HZR := Lib.hid hzr
  have HZM := Lib.hid hzm
  have HZL := Lib.hid hZ
  have HXL := Lib.hid hxl
  have HXD := Lib.hid hxd
  have HYM := Lib.hid hym'
  clear hI hz hzr hzm hZ hy hxl hxd hxs hnY hus hym'
  go_enter Tryd.func4, Tryd.ntmps4
  go_wp2_with fail
  refine (awake18_any I w HI.out).mono ?_
  rintro e w1 ⟨rfl, hb1⟩
  have HB1 := Lib.hid hb1
  have hs1 := hb1.size
  clear hb1
  go_wp2_with fail
  refine wp_region_mixe (G := fun _ _ => True) [(0, false), (2, false), (3, false), (4, false), (5, false), (6, false), (9, false), (1, true), (7, true), (8, false)] (fun _ => trivial) (fun _ _ _ _ _ => trivial) (by kernel_rfl) rfl (by kernel_rfl) (by kernel_rfl) ?_
  iterate 4 (refine mixe_one rfl rfl ?_; go_big_quiet_step ((intro _; rfl)); refine wpQuiet_nil ?_)
  refine mixe_one rfl rfl ?_
  go_big_quiet_step ((intro _; rfl))
  refine wpQuiet_nil ?_
  refine mixe_one rfl rfl ?_
  go_big_quiet_step ((intro _; rfl))
  refine wpQuiet_nil ?_
  refine mixe_one rfl rfl ?_
  go_big_quiet_step ((intro _; rfl))
  refine wpQuiet_nil ?_
  refine mixe_call rfl ?_
  have hb1d : Below w.heap.size w w1.drew := HB1.out.drew
  go_wp2_with fail
  refine (scalars_any Z A c zs w.heap.size w1.drew HZL.out (HZ.out.below hb1d (Nat.le_refl _)) HZR.out hs1 hzc HZM.out us HUS.out).mono ?_
  rintro e w6 ⟨v6, rfl, hi6, hb6⟩
  obtain ⟨A6, c6, rfl, h61, h62⟩ := hi6.form
  have hb16 := hb1d.trans (hb6.mono hs1)
  have HX6 := Lib.hid (HXD.out.below hb16 (Nat.le_refl _))
  have HU6 := Lib.hid (show Rd w6 w6.heap.size A6 (us.map (Value.int .i64)) from hi6.rd)
  have HB6 := Lib.hid hb16
  have h62' := Lib.hid h62
  have hs6 := hb16.size
  clear hi6 hb6 h62 hb1d hb16 HB1
  obtain ⟨nu, hnu⟩ : ∃ n, us.length = n := ⟨_, rfl⟩
  rw [hnu] at h61 hul ⊢
  have HNU := Lib.hid hnu
  clear hnu
  go_wp2_with fail
  refine ⟨trivial, ?_⟩
  refine mixe_call rfl ?_
  go_wp2_with fail
  refine ⟨trivial, ?_⟩
  refine mixe_one rfl rfl ?_
  go_big_quiet_step ((intro _; rfl))
  refine wpQuiet_nil ?_
  refine NoPanic.normal ?_
  have HM := Lib.hid (Held.new w6 #[.slice A6 nu c6, .slice A' q c'] 24)
  have hb7 := below_allocI w6 (.cells #[.slice A6 nu c6, .slice A' q c'] 24)
  have HX7 := Lib.hid (HX6.out.below (hb7.mono hs6) (Nat.le_refl _))
  have HU7 := Lib.hid (HU6.out.below hb7 (Nat.le_refl _))
  have HBST := Lib.hid (HB6.out.trans (hb7.mono hs6))
  clear HX6 HU6 hb7
  obtain ⟨Wst, hWst⟩ : ∃ W, w6.alloc (.cells #[.slice A6 nu c6, .slice A' q c'] 24) = W := ⟨_, rfl⟩
  obtain ⟨MM, hMM⟩ : ∃ M, w6.heap.size = M := ⟨_, rfl⟩
  have hMR : MM + 1 = Wst.heap.size := by rw [← hWst, ← hMM]; simp
  rw [hWst] at HM HX7 HU7 HBST ⊢
  rw [hMM] at HM HU7 hs6 ⊢
  have hs7 := HBST.out.size
  obtain ⟨R0, hR0e⟩ : ∃ R0, Wst.heap.size = R0 := ⟨_, rfl⟩
  rw [hR0e] at hMR hs7
  have hR0 : w.heap.size ≤ R0 := hs7
  have HR0E := Lib.hid hR0e
  have HBR0 := Lib.hid (show Below R0 Wst Wst from Below.refl _ _)
  have HSEL := Lib.hid (show ∀ X : Nat, X < 2 → ∃ (Ax : Option Addr) (nx cx : Nat) (ux : List Int), Wst.cell? ⟨MM, X, none⟩ = some (.slice Ax nx cx) ∧ nx = ux.length ∧ Rd Wst R0 Ax (ux.map (Value.int .i64)) ∧ nx ≤ cx ∧ cx ≤ maxLen ∧ nx ≤ 60 from fun X hX => by
    match X, hX with
    | 0, _ => exact ⟨A6, nu, c6, us, HM.out.cell 0, HNU.out.symm, HU7.out.below (show Below MM Wst Wst from Below.refl _ _) (by omega), h61, h62'.out, hul⟩
    | 1, _ => exact ⟨A', q, c', xs, HM.out.cell 1, HXL.out.symm, HX7.out.below (show Below w.heap.size Wst Wst from Below.refl _ _) (by omega), by omega, HYM.out, hq4⟩)
  clear hWst hMM hR0e HX7 HU7 HM h62' h61
  go_wp2_with fail
  go_loopw [24] (fun i wr => ∃ X : Nat, X ≤ 2 ∧ i = .int .i64 X ∧ Hid (Below R0 Wst wr)) (fun i _ => 2 - (intOf i).toNat)
  case atStart => exact ⟨0, by omega, rfl, HBR0⟩
  case round =>
    clear HBR0
    obtain ⟨X, hX, rfl, hbr⟩ := hrel
    by_cases hXn : X = 2
    · subst hXn
      rw [show ((2 : Nat) : Int) = 2 from rfl]
      go_wp2
      go_ret
      exact ⟨rfl, HBST.out.trans (hbr.out.mono hR0)⟩
    have hX' : X < 2 := by omega
    have x3 : (0 : Int) ≤ X := by omega
    have x4 : (X : Int) < 2 := by omega
    obtain ⟨Ax, nx, cx, ux, hcl, hnx, hrx, hcx, hcm, hnx2⟩ := HSEL.out X hX'
    have r4 := (hbr.out.cell (p := ⟨MM, X, none⟩) (by show MM < R0; omega)).trans hcl
    have HM := Lib.hid hnx.symm
    have HRX0 := Lib.hid hrx
    obtain ⟨wo, rfl⟩ : ∃ wo : World, wo = wr := ⟨_, rfl⟩
    have hso := hbr.out.size
    rw [HR0E.out] at hso
    clear hcl hnx hrx hcm hXn
    have D0 := Lib.hid (I.encode wo (I.keep HI.out (HBST.out.trans (hbr.out.mono hR0))))
    go_wp2_with fail
    refine D0.out.mono ?_
    rintro e W0 ⟨pe, Fe, rfl, hE5, hfe1, hb5⟩
    have hfe : ∀ b, Fe b → wo.heap.size ≤ b ∧ b < W0.heap.size := fun b hb => ⟨hfe1 b hb, (I.efoot hE5).2 b hb⟩
    have HE := Lib.hid hE5
    have HBR5 := Lib.hid (hbr.out.trans (hb5.mono hso))
    have HBW := Lib.hid (HBST.out.trans (HBR5.out.mono hR0))
    obtain ⟨S1, hS1⟩ : ∃ S, wo.heap.size = S := ⟨_, rfl⟩
    obtain ⟨R, hR⟩ : ∃ L, W0.heap.size = L := ⟨_, rfl⟩
    have hSL := hb5.size
    rw [hS1, hR] at hSL hfe
    rw [hS1] at hso
    have hRS : R0 ≤ S1 := hso
    have hwS : w.heap.size ≤ S1 := by omega
    have hSR : R ≤ R := Nat.le_refl _
    have HW0 := Lib.hid hR
    have HFE0 := Lib.hid (show ∀ b, Fe b → Fe b ∨ R ≤ b from fun b hb => .inl hb)
    have HFS := Lib.hid (show ∀ b, Fe b → S1 ≤ b from fun b hb => (hfe b hb).1)
    have HTK0 := Lib.hid (show TkRow Fe R R W0 (.slice none 0 0) [] from ⟨Nat.le_refl _, by omega, fun b hb => (hfe b hb).2, OwnTkB.nil _ _⟩)
    have HMB := Lib.hid (fun (W : World) (hm : Mid Fe W0 W) => hm.below (B := R0) (fun b hb => Nat.le_trans hRS (HFS.out b hb)) (by rw [HW0.out]; omega))
    have HRX := Lib.hid (fun (W : World) (hm : Mid Fe W0 W) => show Rd W W.heap.size Ax (ux.map (Value.int .i64)) from HRX0.out.below (HBR5.out.trans (HMB.out W hm)) (by have h1 := (HBR5.out.trans (HMB.out W hm)).size; rw [HR0E.out] at h1; exact h1))
    clear hE5 hb5 hS1 hR hbr D0 hfe hfe1
    go_wp2_with fail
    go_loopw [8, 33] (fun v i wr => ∃ (K : Nat) (q ah : List Int) (a sc : Int) (acc : List Tk) (G F : Nat → Prop) (base : Nat), K ≤ nx ∧ i = .int .i64 K ∧ Hid (ES ux K q a ah sc acc) ∧ Hid (I.E G F wr pe q a ah sc) ∧ Hid (TkRow G R base wr v acc) ∧ Hid (NotIn F v) ∧ Hid (Mid Fe W0 wr) ∧ Hid (∀ b, G b → Fe b ∨ R ≤ b) ∧ acc.length ≤ 3 * K ∧ Hid (K = 0 → v = .slice none 0 0 ∧ acc = [])) (fun _ i _ => nx - (intOf i).toNat)
    case atStart => exact ⟨0, [], [], 0, 0, [], Fe, Fe, R, by omega, rfl, Lib.hid (ES.start ux), HE, HTK0, Lib.hid (NotIn.nil _), Lib.hid (Mid.refl _ _), HFE0, by simp, Lib.hid (fun _ => ⟨rfl, rfl⟩)⟩
    case round =>
      clear HE HFE0 HTK0
      obtain ⟨K, q, ah, a, sc, acc, G, F, base, hK, rfl, hes, hE, htk, hnot, hmid, hff, hal, hnil⟩ := hrel
      have hrow := Lib.hid htk.out.row
      have hbR := htk.out.le
      have hbW := htk.out.top
      have hwr := hmid.out.size
      rw [HW0.out] at hwr
      have hb := Lib.hid (HBW.out.trans (hmid.out.below (fun b hb => Nat.le_trans hwS (HFS.out b hb)) (by rw [HW0.out]; omega)))
      by_cases hKn : K = nx
      · have hK' : ¬ K < nx := by omega
        obtain ⟨wa, rfl⟩ : ∃ wa : World, wa = wr := ⟨_, rfl⟩
        obtain ⟨ts, hts⟩ : ∃ ts, encF inR ah (rewA (turnR inR) a q) = ts := ⟨_, rfl⟩
        have hfin := hes.out.fin (by rw [HM.out]; omega) hts
        have hq1 := hes.out.one
        have hln := eEnd_len hts hq1
        obtain ⟨-, ha1, -, hah, ha0, hsc0, hsc1⟩ := hes.out
        have hI5 := I.keep HI.out hb.out
        have P1 := Lib.hid (I.eend ts hE.out hI5 hq1 hah ha0 (by omega) hsc0 hsc1 hts)
        have HLN := Lib.hid (show acc.length + ts.length ≤ 1048576 by omega)
        have HFIN := Lib.hid hfin
        have hvl := Lib.hid (fun b (e : _ = some b) => own_ltT hrow.out e)
        have hfr := Lib.hid (fun (e : q = [] ∧ a = 0) => hnil.out (by rw [e.1, e.2] at ha1; simp at ha1; omega))
        obtain ⟨A9, c9, rfl, -⟩ := hrow.out.form
        obtain ⟨k9, hk9⟩ : ∃ k, acc.length = k := ⟨_, rfl⟩
        have HK9 := Lib.hid hk9
        rw [hk9] at hnot hvl hal htk hfr ⊢
        clear hes hts hfin hI5 hE hk9 hKn hnil hrow
        go_wp2_with fail
        refine P1.out.mono ?_
        rintro e w8 ⟨v8, G', F', B8, rfl, ho8, hE8, hT8⟩
        obtain ⟨base', hbB, htk8⟩ := htk.out.told hT8 hfr.out
        have hm8 := hT8.mid
        obtain ⟨A8, c8, rfl, -⟩ := ho8.form
        obtain ⟨m8, hm8l⟩ : ∃ m, ts.length = m := ⟨_, rfl⟩
        rw [hm8l] at ho8 hln ⊢
        have HM8 := Lib.hid hm8l.symm
        have HO8 := Lib.hid ho8
        have HROW8 := Lib.hid htk8.row
        have hbR' := htk8.le
        have hbW' := htk8.top
        have HT8 := Lib.hid hT8
        have hB8 := hT8.base
        have HMID8 := Lib.hid (hmid.out.then hm8 (fun b hb => by rw [HW0.out]; exact hff.out b hb))
        have HGS8 := Lib.hid (show ∀ b, G' b → R0 ≤ b from fun b hb => by
          rcases hT8.gnew b hb with h | h
          · rcases hff.out b h with h | h
            · exact Nat.le_trans hRS (HFS.out b h)
            · omega
          · omega)
        have hs8 : R ≤ w8.heap.size := Nat.le_trans hwr hm8.size
        have HE8 := Lib.hid hE8
        clear htk hmid hE8 hm8 P1 hm8l ho8 hT8 hff hb htk8 hfr
        go_wp2_with (at_builtin; refine wpList_appTk rfl _ _ rfl base' (.slice A9 k9 c9) acc rfl HROW8.out A8 m8 c8 B8 ts rfl HM8.out HO8.out hbB (fun b e => Nat.lt_of_lt_of_le (hvl.out b e).2 hB8) HLN.out hbW' ?_)
        intro v9 w9 HO9 HG9 HV9
        obtain ⟨hE9, hN9⟩ := etold HE8.out hnot.out HT8.out (fun b e => (hvl.out b e).2) HG9.out HV9.out
        have HE9 := Lib.hid hE9
        have HMID9 := Lib.hid (HMID8.out.grown HG9.out (fun b e => by rw [HW0.out]; have := (hvl.out b e).1; omega))
        have hs9 : R ≤ w9.heap.size := Nat.le_trans hs8 HG9.out.size
        clear hE9 hN9 HG9 HV9 HE8 HROW8 HO8 HMID8 hnot HT8 hvl
        obtain ⟨te, hte⟩ : ∃ te, acc ++ ts = te := ⟨_, rfl⟩
        have htl : te.length ≤ 200 := by rw [← hte, List.length_append]; have := HK9.out; have := HM8.out; omega
        have hfin2 : lawE 0 [] 0 ux = (te, sc) := by rw [← hte]; exact HFIN.out.symm
        rw [hte] at HO9
        obtain ⟨A10, c10, rfl, hat10⟩ := HO9.out.form
        obtain ⟨m10, hm10⟩ : ∃ m, te.length = m := ⟨_, rfl⟩
        rw [hm10] at hat10 HO9 htl ⊢
        have hbr9 := HBR5.out.trans (HMB.out _ HMID9.out)
        have hs99 := hbr9.size
        have L1 := Lib.hid (lenc18_any nx Ax cx ux R0 w9 HM.out.symm (HRX0.out.below hbr9 (Nat.le_refl _)) (by rw [HR0E.out] at hs99; exact hs99) hnx2 te sc hfin2)
        have HAT10 := Lib.hid hat10
        have HBR9 := Lib.hid hbr9
        have HM10 := Lib.hid hm10
        clear HO9 hat10 hbr9 hm10 hte hfin2 HFIN HMID9 HLN HK9 HM8
        go_wp2_with fail
        refine L1.out.mono ?_
        rintro e w11 ⟨v11, rfl, ho11, hb11⟩
        obtain ⟨A11, c11, rfl, hat11⟩ := ho11.form
        rw [HM10.out] at hat11 ⊢
        have S1' := Lib.hid (same_below m10 A10 A11 c10 c11 te w9.heap.size w11.heap.size w11 (HAT10.out.below hb11 (Nat.le_refl _)) hat11)
        have HE11 := Lib.hid (eBelow HE9.out hb11)
        have HBR11 := Lib.hid (HBR9.out.trans (hb11.mono (by have := HBR9.out.size; rw [HR0E.out] at this; exact this)))
        clear ho11 hat11 hb11 L1 HAT10 HE9 HBR9
        go_wp2_with fail
        refine S1'.out.mono ?_
        rintro e w12 ⟨rfl, hb12⟩
        have HE12 := Lib.hid (eBelow HE11.out hb12)
        have HBR12 := Lib.hid (HBR11.out.trans (hb12.mono (by have := HBR11.out.size; rw [HR0E.out] at this; exact this)))
        clear hb12 S1' HE11 HBR11
        go_wp2_with fail
        refine (I.escript HE12.out).mono ?_
        rintro e w13 ⟨rfl, hb13⟩
        have HE13 := Lib.hid (eBelow HE12.out hb13)
        have HBR13 := Lib.hid (HBR12.out.trans (hb13.mono (by have := HBR12.out.size; rw [HR0E.out] at this; exact this)))
        have d1 : (sc != sc) = false := by simp
        clear hb13 HE12 HBR12
        go_wp2_with fail
        refine (I.eheld 0 HE13.out (I.keep HI.out (HBST.out.trans (HBR13.out.mono hR0))) rfl).mono ?_
        rintro e w14 ⟨G14, F14, B14, rfl, -, hT14⟩
        have HBR14 := Lib.hid (HBR13.out.trans (hT14.mid.below HGS8.out (by have := HBR13.out.size; rw [HR0E.out] at this; exact this)))
        clear hT14 HE13 HBR13
        go_wp2_with fail
        go_roundw
        case rel => exact ⟨X + 1, by omega, by go_num, HBR14⟩
        case measure => simp [intOf]; omega
      have hK' : K < nx := by omega
      have hK1 : K < ux.length := by rw [HM.out]; exact hK'
      have k3 : (0 : Int) ≤ K := by omega
      have k4 : (K : Int) < nx := by omega
      obtain ⟨b3, o3, rfl, -, hc3⟩ := rd_ints (HRX.out wr hmid.out) (by omega)
      have r3 := hc3 K hK1
      obtain ⟨s, hs⟩ : ∃ s, ux.getD K 0 = s := ⟨_, rfl⟩
      obtain ⟨ts, q', a', ah', sc', hd⟩ : ∃ ts q' a' ah' sc', ePut q a ah sc (ux.getD K 0) = (ts, q', a', ah', sc') := ⟨_, _, _, _, _, rfl⟩
      have hes2 := hes.out.step hK1 hd
      have hq1 := hes.out.one
      have hln := ePut_len hd hq1
      obtain ⟨-, ha1, -, hah, ha0, hsc0, hsc1⟩ := hes.out
      have HES2 := Lib.hid hes2
      rw [hs] at r3 hd
      have hI5 := I.keep HI.out hb.out
      have P1 := Lib.hid (I.eput s ts q' a' ah' sc' hE.out hI5 hq1 hah ha0 (by omega) hsc0 hsc1 hd)
      have HLN := Lib.hid (show acc.length + ts.length ≤ 1048576 by omega)
      have hal2 : (acc ++ ts).length ≤ 3 * (K + 1) := by rw [List.length_append]; omega
      have hvl := Lib.hid (fun b (e : _ = some b) => own_ltT hrow.out e)
      have hfr := Lib.hid (fun (e : q = [] ∧ a = 0) => hnil.out (by rw [e.1, e.2] at ha1; simp at ha1; omega))
      obtain ⟨A9, c9, rfl, -⟩ := hrow.out.form
      obtain ⟨k9, hk9⟩ : ∃ k, acc.length = k := ⟨_, rfl⟩
      rw [hk9] at hnot hvl htk hfr ⊢
      clear hes hes2 hs hd hI5 hE hc3 hKn hln hk9 hal hrow hnil
      go_wp2_with fail
      refine P1.out.mono ?_
      rintro e w8 ⟨v8, G', F', B8, rfl, ho8, hE8, hT8⟩
      obtain ⟨base', hbB, htk8⟩ := htk.out.told hT8 hfr.out
      have hm8 := hT8.mid
      obtain ⟨A8, c8, rfl, -⟩ := ho8.form
      obtain ⟨m8, hm8l⟩ : ∃ m, ts.length = m := ⟨_, rfl⟩
      rw [hm8l] at ho8 ⊢
      have HM8 := Lib.hid hm8l.symm
      have HO8 := Lib.hid ho8
      have HROW8 := Lib.hid htk8.row
      have hbR' := htk8.le
      have hbW' := htk8.top
      have HFAR8 := Lib.hid htk8.far
      have HT8 := Lib.hid hT8
      have hB8 := hT8.base
      have HMID8 := Lib.hid (hmid.out.then hm8 (fun b hb => by rw [HW0.out]; exact hff.out b hb))
      have hs8 : R ≤ w8.heap.size := Nat.le_trans hwr hm8.size
      have HE8 := Lib.hid hE8
      have HFF8 := Lib.hid (show ∀ b, G' b → Fe b ∨ R ≤ b from fun b hb => by
        rcases hT8.gnew b hb with h | h
        · exact hff.out b h
        · right; omega)
      clear htk hmid hE8 hm8 P1 hm8l ho8 hT8 hff hb htk8 hfr
      go_wp2_with (at_builtin; refine wpList_appTk rfl _ _ rfl base' (.slice A9 k9 c9) acc rfl HROW8.out A8 m8 c8 B8 ts rfl HM8.out HO8.out hbB (fun b e => Nat.lt_of_lt_of_le (hvl.out b e).2 hB8) HLN.out hbW' ?_)
      intro v9 w9 HO9 HG9 HV9
      obtain ⟨hE9, hN9⟩ := etold HE8.out hnot.out HT8.out (fun b e => (hvl.out b e).2) HG9.out HV9.out
      have HTK9 := Lib.hid (show TkRow G' R base' w9 v9 (acc ++ ts) from ⟨hbR', Nat.le_trans hbW' HG9.out.size, HFAR8.out, HO9.out⟩)
      have HE9 := Lib.hid hE9
      have HN9 := Lib.hid hN9
      have HMID9 := Lib.hid (HMID8.out.grown HG9.out (fun b e => by rw [HW0.out]; have := (hvl.out b e).1; omega))
      clear hE9 hN9 HG9 HV9 HE8 HROW8 HO8 HMID8 hnot HT8 hvl
      go_wp2_with fail
      go_roundw
      case rel => exact ⟨K + 1, q', ah', a', sc', _, G', F', base', by omega, by go_num, HES2, HE9, HTK9, HN9, HMID9, HFF8, hal2, Lib.hid (fun e => by omega)⟩
      case measure => simp [intOf]; omega
end Go.Proofs.YtdkcadckbjncjaaDoor
