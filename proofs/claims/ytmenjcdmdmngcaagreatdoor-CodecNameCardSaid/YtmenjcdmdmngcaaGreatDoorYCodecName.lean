/- Layer 19: what a name means, whatever letters are great. -/
import Derived.Test.YtmenjcdmdmngcaaGreatDoorZ36
import Derived.Test.YtmenjcdmdmngcaaGreatDoorZ27
namespace Go.Proofs.YtmenjcdmdmngcaaGreatDoor
set_option linter.unusedVariables false
set_option linter.unusedSimpArgs false
set_option linter.unnecessarySimpa false
open Go.RowKit
def moB (j : Nat) : ByteArray := if j < 9 then alB j else if j = 9 then ⟨#[116, 99, 118, 110, 52]⟩ else ⟨#[117, 116, 102, 45, 57]⟩
def allN (j : Nat) : ByteArray := if j < 8 then nmB j else moB (j - 8)
def moC : Array Value := #[.string (moB 0), .string (moB 1), .string (moB 2), .string (moB 3), .string (moB 4), .string (moB 5), .string (moB 6), .string (moB 7), .string (moB 8), .string (moB 9), .string (moB 10)]
theorem all_at (j : Nat) (h : j < 19) : (nmC.toList ++ moC.toList)[j]? = some (.string (allN j)) := by
  match j, h with
  | 0, _ => rfl
  | 1, _ => rfl
  | 2, _ => rfl
  | 3, _ => rfl
  | 4, _ => rfl
  | 5, _ => rfl
  | 6, _ => rfl
  | 7, _ => rfl
  | 8, _ => rfl
  | 9, _ => rfl
  | 10, _ => rfl
  | 11, _ => rfl
  | 12, _ => rfl
  | 13, _ => rfl
  | 14, _ => rfl
  | 15, _ => rfl
  | 16, _ => rfl
  | 17, _ => rfl
  | 18, _ => rfl
  | n + 19, h => exact absurd h (by omega)
/-- what the law says of its names -/
theorem want_all (k : Nat) (h : k < 19) : smallB (allN k) = true ∧ (allN k).size ≤ 11 ∧ ((wantF (allN k) = ⟨#[]⟩ ∧ nameB (allN k) = none) ∨ ∃ j, j < 8 ∧ nameB (allN k) = some j ∧ wantF (allN k) = nmB j) := by
  have h3 := List.all_eq_true.1 (show ((List.range 19).all fun k => smallB (allN k) && decide ((allN k).size ≤ 11) && (decide (wantF (allN k) = ⟨#[]⟩ ∧ nameB (allN k) = none) || (List.range 8).any fun j => decide (nameB (allN k) = some j ∧ wantF (allN k) = nmB j))) = true by decide +kernel) k (List.mem_range.2 h)
  rw [Bool.and_eq_true, Bool.and_eq_true, Bool.or_eq_true] at h3
  refine ⟨h3.1.1, of_decide_eq_true h3.1.2, ?_⟩
  rcases h3.2 with h4 | h4
  · exact .inl (of_decide_eq_true h4)
  · obtain ⟨j, hj, h5⟩ := List.any_eq_true.1 h4
    have h6 := of_decide_eq_true h5
    exact .inr ⟨j, List.mem_range.1 hj, h6.1, h6.2⟩
theorem tk_nil (w : World) : TkAt w 0 none 0 0 [] := ⟨rfl, Nat.le_refl _, by simp [maxLen], [], Rd.nil, trivial⟩
theorem nameB_lt {t : ByteArray} {j : Nat} (h : nameB t = some j) : j < 8 := by
  unfold nameB at h
  repeat' split at h
  all_goals (first | (injection h with h; omega) | cases h)
theorem name_self {j : Nat} (h : j < 8) : j < 8 ∧ isAscii (nmB j) = true ∧ nameB (lowB (nmB j)) = some j ∧ ((nmB j).toList == []) = false := by
  have h3 := List.all_eq_true.1 (show ((List.range 8).all fun j => decide (isAscii (nmB j) = true ∧ nameB (lowB (nmB j)) = some j ∧ ((nmB j).toList == []) = false)) = true by decide +kernel) j (List.mem_range.2 h)
  exact ⟨h, of_decide_eq_true h3⟩
theorem rd_bools {w : World} {B : Nat} {A : Option Addr} {xs : List Bool} (h : Rd w B A (xs.map Value.bool)) {K : Nat} (hK : K < xs.length) : ∃ b off, A = some ⟨b, off, none⟩ ∧ b < B ∧ w.cell? ⟨b, off + K, none⟩ = some (.bool xs[K]) := by
  rcases h with h | ⟨b, off, h1, h2, h3⟩
  · have : xs.length = 0 := by simpa using congrArg List.length h
    omega
  · refine ⟨b, off, h1, h2, ?_⟩
    rw [h3 K (by simpa using hK), List.getElem?_map, List.getElem?_eq_getElem hK]; rfl
theorem infoS : (Tryz.prog.info? 9).map (fun i => (i.zero, i.size, i.bytes)) = some (some (.string ⟨#[]⟩), 1, 16) := by kernel_rfl
theorem strOfNums_size (xs : List Int) : (strOfNums xs).size = xs.length := by
  show (strOfNums xs).data.size = _
  rw [← Array.length_toList, strOfNums_data, List.length_map]
theorem nmB_size (k : Nat) : (nmB k).size ≤ 1000 := by
  unfold nmB
  match k with
  | 0 => decide
  | 1 => decide
  | 2 => decide
  | 3 => decide
  | 4 => decide
  | 5 => decide
  | 6 => decide
  | 7 => decide
  | k + 8 => exact Nat.zero_le _
set_option maxRecDepth 100000 in
set_option maxHeartbeats 6400000 in
theorem codecName_any (I : CodApi) (h5 : I.N 5) (z : Int) (AU : Option Addr) (cU : Nat) (ups : List Bool) (s : ByteArray) (w : World) (hI : I.OK w) (hz0 : 0 ≤ z) (hz1 : z ≤ 255) (hu : Rd w w.heap.size AU (ups.map Value.bool)) (huc : ups.length ≤ cU) (hum : cU ≤ maxLen) :
    Calls Tryz.prog 3 #[.int .u8 z, .slice AU ups.length cU, .string s] w fun e w' => e = .returned (.bool true) ∧ Below w.heap.size w w' := by
  obtain ⟨U, hU⟩ : ∃ U, U = ups.length := ⟨_, rfl⟩
  rw [← hU] at huc ⊢
  obtain ⟨i0, hi, hq0, hq1, hq2⟩ := info_parts infoS
  obtain ⟨k, hk, hk9⟩ : ∃ k : Nat, z % 19 = (k : Int) ∧ k < 19 := ⟨(z % 19).toNat, by omega, by omega⟩
  have k3 : (0 : Int) ≤ (k : Int) := by omega
  have k4 : (k : Int) < 19 := by omega
  have HI := Lib.hid hI
  have HU := Lib.hid hu
  have HUL := Lib.hid hU
  clear hI hu hU hum
  go_enter Tryz.func3, Tryz.ntmps3
  go_wp2_with fail
  refine (awake19_any I h5 w HI.out).mono ?_
  rintro e w1 ⟨rfl, hb1⟩
  have HB1 := Lib.hid hb1
  have hs1 := hb1.size
  clear hb1
  obtain ⟨W3, hW3⟩ : ∃ W, (w1.alloc (.cells nmC 9)).alloc (.cells #[.string ⟨#[117, 116, 102, 56]⟩, .string ⟨#[117, 115, 45, 97, 115, 99, 105, 105]⟩, .string ⟨#[118, 105, 115, 99, 105, 105, 49, 46, 49, 45, 49]⟩, .string ⟨#[116, 99, 118, 110]⟩, .string ⟨#[97, 98, 99]⟩, .string ⟨#[118, 110, 105, 45, 119, 105, 110]⟩, .string ⟨#[116, 105, 115, 54, 50, 48]⟩, .string ⟨#[105, 115, 111, 45, 56, 56, 53, 57, 45, 49, 49]⟩, .string ⟨#[105, 115, 99, 105, 105, 45, 57, 49]⟩, .string ⟨#[116, 99, 118, 110, 52]⟩, .string ⟨#[117, 116, 102, 45, 57]⟩] 9) = W := ⟨_, rfl⟩
  have ho3 : W3.ownsRow w1.heap.size 9 1 (.slice (some ⟨w1.heap.size, 0, none⟩) 8 8) 8 nmC.toList := by
    rw [← hW3]; exact (World.ownsRow_lit w1 nmC 8 (Nat.le_refl _) (by simp [maxLen]) rfl).alloc _
  have hr3 : Rd W3 W3.heap.size (some ⟨w1.heap.size + 1, 0, none⟩) moC.toList := by
    rw [← hW3]
    have := Rd.own (World.ownsRow_lit (base := 0) (size := 1) (w1.alloc (.cells nmC 9)) moC 11 (Nat.zero_le _) (by simp [maxLen]) rfl (e := 9))
    simp only [World.size_alloc] at this ⊢
    exact this
  have hb3 : Below w1.heap.size w1 W3 := by rw [← hW3]; exact below_trans _ _ _ (below_allocC _ _) (below_allocC _ _)
  have hs3 := hb3.size
  have HO3 := Lib.hid ho3
  have HR3 := Lib.hid hr3
  have HB3 := Lib.hid hb3
  have HW3 := Lib.hid hW3
  clear ho3 hr3 hb3 hW3
  go_wp2_with (first
    | (go_at_call 11; refine (names_any w1).mono ?_; rintro e wq ⟨rfl, rfl⟩)
    | (at_builtin; rw [HW3.out]; refine wpList_app (w := W3) rfl _ _ 24 rfl w1.heap.size 9 i0 (.string ⟨#[]⟩) 1 16 Tryz.underlying24 hi hq0 hq1 hq2 rfl (by decide) (.slice (some ⟨w1.heap.size, 0, none⟩) 8 8) 8 nmC.toList rfl HO3.out W3.heap.size (some ⟨w1.heap.size + 1, 0, none⟩) 11 11 moC.toList rfl rfl HR3.out (by decide) (by simp [maxLen]) (by decide) hs3 ?_))
  intro v4 w4 ho4 hg4
  obtain ⟨g4, c4, rfl⟩ := Joins.ownsRow_form ho4 (by decide)
  have hx4 := (World.ownsRow.cellAt ho4 k (by omega)).trans (all_at k hk9)
  have HB14 := Lib.hid (below_own HB3.out hg4 HO3.out (Nat.le_refl _) hs3)
  have hc4 : 19 ≤ c4 := by
    obtain ⟨A', c', e, h1, h2⟩ := own_form ho4
    injection e with e1 e2 e3
    omega
  obtain ⟨low, hlow⟩ : ∃ low, allN k = low := ⟨_, rfl⟩
  rw [hlow] at hx4
  have HLOW := Lib.hid hlow
  have HB4 := Lib.hid (HB1.out.trans (HB14.out.mono hs1))
  clear ho4 hg4 hlow HO3 HR3 HW3 HB3 hi hq0 hq1 hq2 HB14 hs3
  obtain ⟨hsm, hl11, hwant⟩ := want_all k hk9
  rw [HLOW.out] at hsm hl11 hwant
  have hconv := Lib.run_convert_string_bytes (P := Tryz.prog) w4 9 26 5 low Tryz.underlying9 Tryz.underlying26 Tryz.underlying5
  have hbx := Bx.new w4 low
  have hbw := below_bytes w4 low
  obtain ⟨W5, hW5⟩ : ∃ W, Lib.bytesWorld w4 5 low = W := ⟨_, rfl⟩
  rw [hW5] at hconv hbx hbw
  obtain ⟨c5, hc5⟩ : ∃ c, grownCap w4 low.size 0 5 = c := ⟨_, rfl⟩
  have hcc : low.size ≤ c5 := by rw [← hc5]; exact grownCap_ge _ _ _ _
  rw [hc5] at hconv
  obtain ⟨n, hn⟩ : ∃ n, low.size = n := ⟨_, rfl⟩
  rw [hn] at hconv hbx hcc hl11
  obtain ⟨g5, hg5⟩ : ∃ g, w4.heap.size = g := ⟨_, rfl⟩
  rw [hg5] at hconv hbx
  have hgg : g5 < W5.heap.size := hbx.lt
  have HB5 := Lib.hid (HB4.out.trans (hbw.mono HB4.out.size))
  have HBX0 : Hid (Bx W5 g5 n (fun j => if j < 0 then upG (ups.getD j false) (byB low j) else byB low j)) := Lib.hid (hbx.congr fun j _ => by rw [if_neg (by omega)])
  have HN := Lib.hid hn
  have HSMALL := Lib.hid hsm
  have HWANT := Lib.hid hwant
  have HBR0 : Hid (Below w4.heap.size w4 W5) := Lib.hid hbw
  have HG5 := Lib.hid hg5
  clear hbx hbw hW5 hc5 hn hg5 hsm hwant
  go_wp2_with fail
  go_loopw [35] (fun i wr => ∃ K : Nat, K ≤ n ∧ i = .int .i64 K ∧ Hid (Bx wr g5 n (fun j => if j < K then upG (ups.getD j false) (byB low j) else byB low j)) ∧ Hid (Below w4.heap.size w4 wr)) (fun i _ => n - (intOf i).toNat)
  case atStart => exact ⟨0, by omega, rfl, HBX0, HBR0⟩
  case round =>
    clear HBX0 HBR0 hconv
    obtain ⟨K, hK, rfl, hbx, hb⟩ := hrel
    obtain ⟨wa, rfl⟩ : ∃ wa : World, wa = wr := ⟨_, rfl⟩
    have hbs := hb.out.size
    have HBa := Lib.hid (HB4.out.trans (hb.out.mono HB4.out.size))
    by_cases hKq : K = n
    · have hKl : ¬ K < n := by omega
      have hcv := run_convert_bytes_arg (P := Tryz.prog) wa 26 5 Tryz.underlying26 Tryz.underlying5 g5 0 n c5 (upX ups low) (by unfold upX; rw [List.length_map, List.length_range, HN.out]) (fun i hi => by
        rw [Nat.zero_add, hbx.out.cell hi]
        rw [if_pos (by omega), upX_at _ _ _ (by rw [HN.out]; exact hi)]) 9 Tryz.underlying9
      obtain ⟨str, hstr⟩ : ∃ s, strOfNums (upX ups low) = s := ⟨_, rfl⟩
      have hasc : isAscii str = true := by rw [← hstr]; exact up_asc low HSMALL.out ups
      have hlowS : lowB str = low := by rw [← hstr]; exact up_low low HSMALL.out ups
      rw [hstr] at hcv
      obtain ⟨t, ht, hct⟩ := I.name wa str (by rw [← hstr, strOfNums_size]; unfold upX; rw [List.length_map, List.length_range, HN.out]; omega) (I.keep HI.out HBa.out)
      rw [ht hasc, hlowS] at hct
      have CT := Lib.hid hct
      clear hKq hstr hasc hlowS ht hct hbx hb
      go_wp2_with fail
      refine CT.out.mono ?_
      rintro e w6 ⟨rfl, hb6⟩
      have HB6 := Lib.hid (HBa.out.trans (hb6.mono HBa.out.size))
      have LN := Lib.hid (lname_any low w6 _ rfl)
      rcases HWANT.out with ⟨hw1, hw2⟩ | ⟨j, hj8, hw2, hw1⟩
      · rw [hw1] at LN
        rw [hw2]
        show _
        simp only [nameV]
        clear hb6 CT hw1 hw2 hcv
        go_wp2_with fail
        refine LN.out.mono ?_
        rintro e w7 ⟨rfl, hb7⟩
        go_wp2_with fail
        have HB7 := Lib.hid (HB6.out.trans (hb7.mono HB6.out.size))
        have hs2 : (s.extract 0 (min (s.size : Int) 60).toNat).size ≤ 1000 := by rw [ByteArray.size_extract]; omega
        generalize s.extract 0 (min (s.size : Int) 60).toNat = s2 at hs2
        obtain ⟨t, -, hct⟩ := I.name w7 s2 hs2 (I.keep HI.out HB7.out)
        clear hs2
        have SM := Lib.hid (fun (W : World) => same_tk 0 none none 0 0 [] 0 0 W (tk_nil W) (tk_nil W))
        clear hb7 LN
        cases hnt : nameB t with
        | none =>
          rw [hnt] at hct
          refine hct.mono ?_
          rintro e w8 ⟨rfl, hb8⟩
          have HB8 := Lib.hid (HB7.out.trans (hb8.mono HB7.out.size))
          obtain ⟨t', ht', hct'⟩ := I.name w8 ⟨#[]⟩ (Nat.zero_le _) (I.keep HI.out HB8.out)
          have ht2 : nameB t' = none := by rw [ht' (by decide +kernel)]; decide +kernel
          rw [ht2] at hct'
          have CT := Lib.hid (show Calls Tryz.prog 12 #[.string ⟨#[]⟩] w8 fun e w' => e = .returned (.tuple #[.string ⟨#[]⟩, .int .i64 6]) ∧ Below w8.heap.size w8 w' from hct')
          simp only [nameV]
          clear hct hct' ht' ht2 hb8 hnt
          go_wp2_with fail
          refine CT.out.mono ?_
          rintro e w9 ⟨rfl, hb9⟩
          have HB9 := Lib.hid (HB8.out.trans (hb9.mono HB8.out.size))
          clear hb9 CT
          go_wp2_with fail
          refine (SM.out w9).mono ?_
          rintro e w10 ⟨rfl, m10, hm10⟩
          have HB10 := Lib.hid (HB9.out.trans ((show Below w9.heap.size w9 w10 by rw [hm10]; exact below_dN w9 m10).mono HB9.out.size))
          clear hm10 SM
          go_wp2_with fail
          go_ret
          exact ⟨rfl, HB10.out⟩
        | some j2 =>
          obtain ⟨hj2, ha2, hn2, he2⟩ := name_self (nameB_lt hnt)
          rw [hnt] at hct
          refine hct.mono ?_
          rintro e w8 ⟨rfl, hb8⟩
          have HB8 := Lib.hid (HB7.out.trans (hb8.mono HB7.out.size))
          obtain ⟨t', ht', hct'⟩ := I.name w8 (nmB j2) (nmB_size j2) (I.keep HI.out HB8.out)
          rw [ht' ha2, hn2] at hct'
          obtain ⟨b2, hb2⟩ : ∃ b, nmB j2 = b := ⟨_, rfl⟩
          simp only [nameV] at hct' ⊢
          rw [hb2] at hct' he2 ⊢
          have CT := Lib.hid hct'
          have hss : (b2.toList == b2.toList) = true := by simp
          clear hct hct' ht' ha2 hn2 hb8 hnt hb2 hj2
          go_wp2_with fail
          refine CT.out.mono ?_
          rintro e w9 ⟨rfl, hb9⟩
          have HB9 := Lib.hid (HB8.out.trans (hb9.mono HB8.out.size))
          clear hb9 CT
          go_wp2_with fail
          refine (SM.out w9).mono ?_
          rintro e w10 ⟨rfl, m10, hm10⟩
          have HB10 := Lib.hid (HB9.out.trans ((show Below w9.heap.size w9 w10 by rw [hm10]; exact below_dN w9 m10).mono HB9.out.size))
          clear hm10 SM
          go_wp2_with fail
          go_ret
          exact ⟨rfl, HB10.out⟩
      · rw [hw1] at LN
        rw [hw2]
        simp only [nameV]
        obtain ⟨b1, hb1'⟩ : ∃ b, nmB j = b := ⟨_, rfl⟩
        have hne := (name_self hj8).2.2.2
        rw [hb1'] at LN hne ⊢
        have hss1 : (b1.toList == b1.toList) = true := by simp
        clear hb6 CT hw1 hw2 hcv hb1'
        go_wp2_with fail
        refine LN.out.mono ?_
        rintro e w7 ⟨rfl, hb7⟩
        go_wp2_with fail
        have HB7 := Lib.hid (HB6.out.trans (hb7.mono HB6.out.size))
        have hs2 : (s.extract 0 (min (s.size : Int) 60).toNat).size ≤ 1000 := by rw [ByteArray.size_extract]; omega
        generalize s.extract 0 (min (s.size : Int) 60).toNat = s2 at hs2
        obtain ⟨t, -, hct⟩ := I.name w7 s2 hs2 (I.keep HI.out HB7.out)
        clear hs2
        have SM := Lib.hid (fun (W : World) => same_tk 0 none none 0 0 [] 0 0 W (tk_nil W) (tk_nil W))
        clear hb7 LN
        cases hnt : nameB t with
        | none =>
          rw [hnt] at hct
          refine hct.mono ?_
          rintro e w8 ⟨rfl, hb8⟩
          have HB8 := Lib.hid (HB7.out.trans (hb8.mono HB7.out.size))
          obtain ⟨t', ht', hct'⟩ := I.name w8 ⟨#[]⟩ (Nat.zero_le _) (I.keep HI.out HB8.out)
          have ht2 : nameB t' = none := by rw [ht' (by decide +kernel)]; decide +kernel
          rw [ht2] at hct'
          have CT := Lib.hid (show Calls Tryz.prog 12 #[.string ⟨#[]⟩] w8 fun e w' => e = .returned (.tuple #[.string ⟨#[]⟩, .int .i64 6]) ∧ Below w8.heap.size w8 w' from hct')
          simp only [nameV]
          clear hct hct' ht' ht2 hb8 hnt
          go_wp2_with fail
          refine CT.out.mono ?_
          rintro e w9 ⟨rfl, hb9⟩
          have HB9 := Lib.hid (HB8.out.trans (hb9.mono HB8.out.size))
          clear hb9 CT
          go_wp2_with fail
          refine (SM.out w9).mono ?_
          rintro e w10 ⟨rfl, m10, hm10⟩
          have HB10 := Lib.hid (HB9.out.trans ((show Below w9.heap.size w9 w10 by rw [hm10]; exact below_dN w9 m10).mono HB9.out.size))
          clear hm10 SM
          go_wp2_with fail
          go_ret
          exact ⟨rfl, HB10.out⟩
        | some j2 =>
          obtain ⟨hj2, ha2, hn2, he2⟩ := name_self (nameB_lt hnt)
          rw [hnt] at hct
          refine hct.mono ?_
          rintro e w8 ⟨rfl, hb8⟩
          have HB8 := Lib.hid (HB7.out.trans (hb8.mono HB7.out.size))
          obtain ⟨t', ht', hct'⟩ := I.name w8 (nmB j2) (nmB_size j2) (I.keep HI.out HB8.out)
          rw [ht' ha2, hn2] at hct'
          obtain ⟨b2, hb2⟩ : ∃ b, nmB j2 = b := ⟨_, rfl⟩
          simp only [nameV] at hct' ⊢
          rw [hb2] at hct' he2 ⊢
          have CT := Lib.hid hct'
          have hss : (b2.toList == b2.toList) = true := by simp
          clear hct hct' ht' ha2 hn2 hb8 hnt hb2 hj2
          go_wp2_with fail
          refine CT.out.mono ?_
          rintro e w9 ⟨rfl, hb9⟩
          have HB9 := Lib.hid (HB8.out.trans (hb9.mono HB8.out.size))
          clear hb9 CT
          go_wp2_with fail
          refine (SM.out w9).mono ?_
          rintro e w10 ⟨rfl, m10, hm10⟩
          have HB10 := Lib.hid (HB9.out.trans ((show Below w9.heap.size w9 w10 by rw [hm10]; exact below_dN w9 m10).mono HB9.out.size))
          clear hm10 SM
          go_wp2_with fail
          go_ret
          exact ⟨rfl, HB10.out⟩
    have hKl : K < n := by omega
    have j3 : (0 : Int) ≤ (K : Int) := by omega
    have j4 : (K : Int) < n := by omega
    have hx := hbx.out.cell hKl
    rw [if_neg (by omega)] at hx
    have hfz := hbx.out.frozen hKl
    have hb0 : 0 ≤ byB low K ∧ byB low K ≤ 255 := by
      unfold byB
      have := UInt8.toNat_lt (low.data.toList.getD K 0)
      omega
    have HBXs := Lib.hid (show upG (ups.getD K false) (byB low K) = byB low K → Bx wa g5 n (fun j => if j < K + 1 then upG (ups.getD j false) (byB low j) else byB low j) from fun he => hbx.out.congr fun j hj => by
      by_cases h : j < K
      · rw [if_pos h, if_pos (by omega)]
      · by_cases h2 : j = K
        · subst h2; rw [if_neg (by omega), if_pos (by omega), he]
        · rw [if_neg h, if_neg (by omega)])
    have HBXw := Lib.hid (show ∀ v, upG (ups.getD K false) (byB low K) = v → Bx (wa.setCell ⟨g5, K, none⟩ (.int .u8 v)) g5 n (fun j => if j < K + 1 then upG (ups.getD j false) (byB low j) else byB low j) from fun v he => hbx.out.set hKl fun j hj => by
      by_cases h : j < K
      · rw [if_pos (by omega), if_neg (by omega), if_pos h]
      · by_cases h2 : j = K
        · subst h2; rw [if_pos (by omega), if_pos rfl, he]
        · rw [if_neg (by omega), if_neg h2, if_neg h])
    have HBW := Lib.hid (show ∀ v, Below w4.heap.size w4 (wa.setCell ⟨g5, K, none⟩ v) from fun v => hb.out.grown (grownBy_setCellK wa ⟨g5, K, none⟩ v) hbs (fun k hk => by injection hk with hk; have h5 := HG5.out; show w4.heap.size ≤ k; rw [h5]; exact Nat.le_of_eq hk))
    obtain ⟨b, hbe⟩ : ∃ b, byB low K = b := ⟨_, rfl⟩
    rw [hbe] at hx hb0 HBXs HBXw
    have b0 := hb0.1
    have b1 := hb0.2
    by_cases hKU : K < U
    · have hKL : K < ups.length := by rw [← HUL.out]; exact hKU
      have j5 : (K : Int) < U := by omega
      obtain ⟨bb, off, rfl, hbl, hcell⟩ := rd_bools (HU.out.below HBa.out (Nat.le_refl _)) hKL
      have hxu := hcell
      have hug : ups.getD K false = ups[K] := by rw [List.getD_eq_getElem?_getD, List.getElem?_eq_getElem hKL]; rfl
      rw [hug] at HBXs HBXw
      cases hue : ups[K]
      · rw [hue] at hxu HBXs
        clear hKq hb0 hbe HBXw hug
        go_wp2_with fail
        go_roundw
        case rel => exact ⟨K + 1, by omega, by go_num, HBXs.out (by simp [upG]), hb⟩
        case measure => simp [intOf]; omega
      · rw [hue] at hxu HBXs HBXw
        by_cases h97 : 97 ≤ b
        · by_cases h122 : b ≤ 122
          · have hwr : IntKind.u8.wrap (b - 32) = b - 32 := by rw [IntKind.wrap_u8]; omega
            have HNX := Lib.hid (HBXw.out (b - 32) (by unfold upG; rw [if_pos ⟨rfl, h97, h122⟩]))
            have HBN := Lib.hid (HBW.out (.int .u8 (b - 32)))
            clear hKq hb0 hbe HBXw hug HBXs HBW
            go_wp2_with fail
            go_roundw
            case rel => exact ⟨K + 1, by omega, by go_num, HNX, HBN⟩
            case measure => simp [intOf]; omega
          · have HNX := Lib.hid (HBXs.out (by unfold upG; rw [if_neg (by omega)]))
            clear hKq hb0 hbe HBXw hug HBXs HBW
            go_wp2_with fail
            go_roundw
            case rel => exact ⟨K + 1, by omega, by go_num, HNX, hb⟩
            case measure => simp [intOf]; omega
        · have HNX := Lib.hid (HBXs.out (by unfold upG; rw [if_neg (by omega)]))
          clear hKq hb0 hbe HBXw hug HBXs HBW
          go_wp2_with fail
          go_roundw
          case rel => exact ⟨K + 1, by omega, by go_num, HNX, hb⟩
          case measure => simp [intOf]; omega
    · have hug : ups.getD K false = false := by rw [List.getD_eq_getElem?_getD, List.getElem?_eq_none (by rw [← HUL.out]; omega)]; rfl
      have HNX := Lib.hid (HBXs.out (by rw [hug]; simp [upG]))
      clear hKq hb0 hbe HBXw hug HBXs HBW
      go_wp2_with fail
      go_roundw
      case rel => exact ⟨K + 1, by omega, by go_num, HNX, hb⟩
      case measure => simp [intOf]; omega
end Go.Proofs.YtmenjcdmdmngcaaGreatDoor
