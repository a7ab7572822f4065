/- Layer 10: the law's own sign, Some. -/
import Derived.Test.YtjolbdfkkhphiaaDoorVcI
import Derived.Test.YtjolbdfkkhphiaaDoorVietU
namespace Go.Proofs.YtjolbdfkkhphiaaDoor
set_option linter.unusedVariables false
set_option linter.unusedSimpArgs false
set_option linter.unnecessarySimpa false
open Go.RowKit Go.Shelf
attribute [local go_sem] run_store_complex

/-- what the law's sign answers -/
def sgV (s : Int) : Value := match sgI s with
  | some j => .tuple #[.complex .f64 (fl (mM j)) (fl (mT j)), .bool true]
  | none => .tuple #[.complex .f64 0 0, .bool false]
theorem sgI_none {s : Int} (h : ∀ j, j < 8 → (mkS j == s) = false) : sgI s = none := by
  unfold sgI
  rw [List.find?_eq_none]
  intro j hj
  rw [h j (List.mem_range.1 hj)]; decide

set_option maxHeartbeats 1600000 in
theorem lsign_any (s : Int) (w : World) :
    Calls Tryd.prog 25 #[.int .i64 s] w fun e w' => e = .returned (sgV s) ∧ Below w.heap.size w w' := by
  go_enter Tryd.func25, Tryd.ntmps25
  go_wp2_with fail
  refine (lmarks_any w).mono ?_
  rintro e w1 ⟨rfl, hq1, hq2, hb1⟩
  obtain ⟨p, hp⟩ : ∃ p, w.heap.size = p := ⟨_, rfl⟩
  have hpl : w.heap.size ≤ p := by omega
  rw [hp] at hq1 hq2 hb1 ⊢
  have HQ1 := Lib.hid hq1
  have HQ2 := Lib.hid hq2
  have HB1 := Lib.hid hb1
  have hl1 := hq1.lt
  have hl2 := hq2.lt
  clear hq1 hq2 hb1 hp
  go_wp2
  go_loopw [13] (fun i wr => ∃ K : Nat, K ≤ 8 ∧ i = .int .i64 K ∧ Hid (∀ j, j < K → (mkS j == s) = false) ∧ wr = w1) (fun i _ => 8 - (intOf i).toNat)
  case atStart => exact ⟨0, by omega, rfl, Lib.hid (fun j h => absurd h (by omega)), rfl⟩
  case round =>
    obtain ⟨K, hK, rfl, hno, hw⟩ := hrel
    rw [hw]
    clear hw wr
    by_cases h8 : K = 8
    · subst h8
      have HV := Lib.hid (show sgV s = .tuple #[.complex .f64 0 0, .bool false] by unfold sgV; rw [sgI_none hno.out])
      go_wp2
      go_ret2
      exact ⟨by rw [HV.out]; rfl, HB1.out.mono hpl⟩
    have hK8 : K < 8 := by omega
    have hKi : (K : Int) < 8 := by omega
    have c1 : w1.cell? ⟨p, K, none⟩ = some (.int .i64 (mkS K)) := by rw [HQ1.out.cell K]; simp [hK8]
    have c2 : w1.cell? ⟨p + 1, K, none⟩ = some (.complex .f64 (mkR K) (mkI K)) := by rw [HQ2.out.cell K]; exact mk_cells K hK8
    have hfl := mk_fl K hK8
    cases he : (mkS K == s) with
    | true =>
      have HV := Lib.hid (show sgV s = .tuple #[.complex .f64 (mkR K) (mkI K), .bool true] by
        unfold sgV; rw [← eq_of_beq he, sgI_of K hK8, hfl.1, hfl.2.1])
      obtain ⟨x, hx⟩ : ∃ x, mkS K = x := ⟨_, rfl⟩
      obtain ⟨xr, hxr⟩ : ∃ x, mkR K = x := ⟨_, rfl⟩
      obtain ⟨xi, hxi⟩ : ∃ x, mkI K = x := ⟨_, rfl⟩
      rw [hx] at c1 he
      rw [hxr, hxi] at c2 HV
      clear hx hxr hxi hfl hno
      go_wp2
      go_ret2
      exact ⟨by rw [HV.out]; rfl, HB1.out.mono hpl⟩
    | false =>
      have hno2 := Lib.hid (show ∀ j, j < K + 1 → (mkS j == s) = false from fun j hj => by
        by_cases e : j = K
        · rw [e]; exact he
        · exact hno.out j (by omega))
      obtain ⟨x, hx⟩ : ∃ x, mkS K = x := ⟨_, rfl⟩
      rw [hx] at c1 he
      clear hx hfl hno c2
      go_wp2
      go_roundw
      case rel => exact ⟨K + 1, by omega, by go_num, hno2, by trivial⟩
      case measure => simp [intOf]; omega

/-- the law's scalars -/
def someN (n : Int) : Int := if n < 6 then 120 + n else if 190 < n then mkS (n % 8).toNat else LS (n % 148).toNat
def someF (l : List Int) : List Int := (l.take 60).map someN
theorem someF_len (l : List Int) : (someF l).length ≤ 60 := by unfold someF; simp; omega

set_option maxHeartbeats 3200000 in
theorem some10_any (n : Nat) (A : Option Addr) (cap : Nat) (l : List Int) (w : World) (hn : n = l.length) (hr : Rd w w.heap.size A (l.map (Value.int .u8))) (hc : n ≤ cap) (hw : ∀ z ∈ l, 0 ≤ z ∧ z ≤ 255) :
    Calls Tryd.prog 11 #[.slice A n cap] w fun e w' => ∃ v, e = .returned v ∧ IR w' w.heap.size v (someF l) ∧ Below w.heap.size w w' := by
  have HLT := Lib.hid (fun (N : Nat) (h : N < 148) (W : World) => letR_at N h ▸ letter_any (N : Int) W)
  obtain ⟨q, hq, hqn, hq6⟩ : ∃ q : Nat, ((if 60 < n then 60 else n) = q) ∧ q ≤ n ∧ q ≤ 60 := ⟨_, rfl, by split <;> omega, by split <;> omega⟩
  have hmin : (if (60 : Int) < (n : Int) then (60 : Int) else (n : Int)) = (q : Int) := by rw [← hq]; split <;> split <;> omega
  have hL : l.take 60 = l.take q := by
    by_cases h : 60 < n
    · rw [if_pos h] at hq; rw [hq]
    · rw [if_neg h] at hq; rw [← hq, hn, List.take_length, List.take_of_length_le (by omega)]
  have hqc : q ≤ cap := by omega
  have hq0 : (0 : Int) ≤ (q : Int) := by omega
  have hrt := Rd.take q hr
  rw [← List.map_take] at hrt
  have hwt : ∀ z ∈ l.take q, 0 ≤ z ∧ z ≤ 255 := fun z hz => hw z (List.mem_of_mem_take hz)
  have hql : (l.take q).length = q := by rw [List.length_take]; omega
  have HS := Lib.hid (show someF l = (l.take q).map someN by unfold someF; rw [hL])
  obtain ⟨L, hLe⟩ : ∃ L, l.take q = L := ⟨_, rfl⟩
  rw [hLe] at hrt hwt hql HS
  have HR := Lib.hid hrt
  have HQL := Lib.hid hql
  have HW := Lib.hid hwt
  clear hr hn hw hL hrt hwt hql hLe hq
  go_enter Tryd.func11, Tryd.ntmps11
  go_wp2_with fail
  refine (lmarks_any w).mono ?_
  rintro e w1 ⟨rfl, hq1, hq2, hb1⟩
  obtain ⟨p, hp⟩ : ∃ p, w.heap.size = p := ⟨_, rfl⟩
  have hpl : w.heap.size ≤ p := by omega
  have HR1 := Lib.hid (HR.out.below hb1 hb1.size)
  rw [hp] at hq1 hb1 ⊢
  have HQ1 := Lib.hid hq1
  have HB1 := Lib.hid hb1
  have hs1 := hb1.size
  have hl1 := hq1.lt
  have hpp1 : p ≤ w1.heap.size := by omega
  clear hq1 hq2 hb1 hp
  go_wp2
  go_loopw [5, 21] (fun v i wr => ∃ K : Nat, K ≤ q ∧ i = .int .i64 K ∧ Hid (IR wr w1.heap.size v ((L.take K).map someN)) ∧ Hid (Below w1.heap.size w1 wr)) (fun _ i _ => q - (intOf i).toNat)
  case atStart => exact ⟨0, by omega, rfl, Lib.hid (IR.nil _ _), Lib.hid (Below.refl _ _)⟩
  case round =>
    obtain ⟨K, hK, rfl, HO, HB⟩ := hrel
    have hbs := HB.out.size
    by_cases hKl : K = q
    · have HF := Lib.hid (show (L.take K).map someN = someF l by rw [HS.out, hKl, ← HQL.out, List.take_length])
      have hKl' : ¬ K < q := by omega
      clear hKl
      go_wp2
      go_ret
      exact ⟨_, rfl, by have := HO.out; rw [HF.out] at this; exact this.low (by omega), (HB1.out.trans (HB.out.mono hpp1)).mono hpl⟩
    have hKl' : K < q := by omega
    have hKL : K < L.length := by rw [HQL.out]; exact hKl'
    have hal : ((L.take K).map someN).length ≤ 60 := by simp; omega
    obtain ⟨b, off, rfl, hbl, hcell⟩ := rd_ints (HR1.out.below HB.out (Nat.le_refl _)) (by omega)
    have hx := hcell K hKL
    have hz0 := getD_range HW.out K hKL
    have htk : L.take (K + 1) = L.take K ++ [L.getD K 0] := by rw [List.take_succ_eq_append_getElem hKL]; simp [List.getD_eq_getElem?_getD, hKL]
    obtain ⟨z, hze⟩ : ∃ x, x = L.getD K 0 := ⟨_, rfl⟩
    rw [← hze] at hx hz0 htk
    have HTK := Lib.hid (show (L.take (K + 1)).map someN = (L.take K).map someN ++ [someN z] by rw [htk, List.map_append]; rfl)
    obtain ⟨acc, hacc⟩ : ∃ x, x = (L.take K).map someN := ⟨_, rfl⟩
    rw [← hacc] at HO hal HTK
    obtain ⟨hz1, hz2⟩ := hz0
    clear hcell hze htk hacc hKL
    obtain ⟨N, hN⟩ : ∃ N : Nat, z % 148 = (N : Int) := ⟨(z % 148).toNat, by omega⟩
    obtain ⟨M, hM⟩ : ∃ M : Nat, z % 8 = (M : Int) := ⟨(z % 8).toNat, by omega⟩
    have hN' : N < 148 := by omega
    have hM' : M < 8 := by omega
    have hM0 : (0 : Int) ≤ M := by omega
    have hMi : (M : Int) < 8 := by omega
    go_wp2_with fail
    refine (HLT.out N hN' wr).mono ?_
    rintro e w2 ⟨rfl, hb2⟩
    have hv : letV N = #[.int .i64 (LB N), .complex .f64 (fl (LM N)) (fl (LT N))] := rfl
    obtain ⟨bx, hbx⟩ : ∃ v, LB N = v := ⟨_, rfl⟩
    obtain ⟨rx, hrx⟩ : ∃ v, fl (LM N) = v := ⟨_, rfl⟩
    obtain ⟨ix, hix⟩ : ∃ v, fl (LT N) = v := ⟨_, rfl⟩
    obtain ⟨sx, hsx⟩ : ∃ v, LS N = v := ⟨_, rfl⟩
    rw [hv, hbx, hrx, hix, hsx]
    clear hv hbx hrx hix
    have hs2 := hb2.size
    have HB2 := Lib.hid (HB.out.trans (hb2.mono hbs))
    have HO2 := Lib.hid ((HO.out.below hb2 (Nat.le_refl _)).alloc (.cells #[.int .i64 bx, .complex .f64 rx ix] 35))
    have HB3 := Lib.hid (HB2.out.alloc (by omega) (.cells #[.int .i64 bx, .complex .f64 rx ix] 35))
    have c1 : w2.cell? ⟨p, M, none⟩ = some (.int .i64 (mkS M)) := by rw [(HQ1.out.below HB2.out hl1).cell M]; simp [hM']
    have hpl2 : p < w2.heap.size := by omega
    clear hb2 HO HB HB2
    by_cases h6 : z < 6
    · have HE := Lib.hid (show someN z = 120 + z by unfold someN; rw [if_pos h6])
      have h190 : ¬ 190 < z := by omega
      clear hM hN c1 hsx
      go_wp2_with (refine wpList_appI1 rfl _ _ rfl w1.heap.size u5 acc (120 + z) rfl HO2.out _ rfl (by simp) (by omega) (by simp; omega) ?_; intro v4 w4 hO4 hG4)
      exact ⟨⟨K + 1, by omega, by go_num, by rw [HTK.out, HE.out]; exact hO4, Lib.hid (IR.keepsB HB3.out hG4.out HO2.out (Nat.le_refl _) (by simp; omega))⟩, by simp [intOf]; omega⟩
    · by_cases h190 : 190 < z
      · have HE := Lib.hid (show someN z = mkS M by unfold someN; rw [if_neg h6, if_pos h190, hM]; rfl)
        obtain ⟨y, hy⟩ : ∃ y, mkS M = y := ⟨_, rfl⟩
        rw [hy] at c1 HE
        clear hN hsx hy
        go_wp2_with (refine wpList_appI1 rfl _ _ rfl w1.heap.size u5 acc y rfl HO2.out _ rfl (by simp) (by omega) (by simp; omega) ?_; intro v4 w4 hO4 hG4)
        exact ⟨⟨K + 1, by omega, by go_num, by rw [HTK.out, HE.out]; exact hO4, Lib.hid (IR.keepsB HB3.out hG4.out HO2.out (Nat.le_refl _) (by simp; omega))⟩, by simp [intOf]; omega⟩
      · have HE := Lib.hid (show someN z = sx by unfold someN; rw [if_neg h6, if_neg h190, hN, ← hsx]; rfl)
        clear hM hN c1 hsx
        go_wp2_with (refine wpList_appI1 rfl _ _ rfl w1.heap.size u5 acc sx rfl HO2.out _ rfl (by simp) (by omega) (by simp; omega) ?_; intro v4 w4 hO4 hG4)
        exact ⟨⟨K + 1, by omega, by go_num, by rw [HTK.out, HE.out]; exact hO4, Lib.hid (IR.keepsB HB3.out hG4.out HO2.out (Nat.le_refl _) (by simp; omega))⟩, by simp [intOf]; omega⟩
end Go.Proofs.YtjolbdfkkhphiaaDoor
