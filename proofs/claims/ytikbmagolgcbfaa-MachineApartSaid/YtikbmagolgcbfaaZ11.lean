/- Texts of this seat, one behind the other: TrieS, TrieP, TrieQ, TrieK, TokR, RewB, TabD, TokSame, TabO. -/
import Derived.Test.YtikbmagolgcbfaaZ10
import Derived.OwnWalk
import Derived.Test.YtikbmagolgcbfaaZ1
import Derived.Test.YtikbmagolgcbfaaZ9
namespace Go.Proofs.Ytikbmagolgcbfaa
set_option linter.unusedVariables false
open Go.RowKit
theorem ret_trip {a b a' b' : Int} {c c' : Bool} {k l : IntKind} (h : a = a' ∧ b = b' ∧ c = c') : Ending.returned (.tuple #[.int k a', .int l b', .bool c']) = .returned (.tuple #[.int k a, .int l b, .bool c]) := by rw [h.1, h.2.1, h.2.2]

set_option maxHeartbeats 1600000 in
theorem out_anyO (w : World) (B T O : Nat) (ns : List NodeM) (outs : List (List Int)) (h : TrAtO w B T O ns outs) (hB : B ≤ w.heap.size) (hl : ∀ o ∈ outs, o.length ≤ 17592186044416) (k : Int) (us : List Int) (hu : (if 0 ≤ k ∧ k < outs.length then outs.getD k.toNat [] else []) = us) :
    Calls Try.prog 62 #[.pointer (some ⟨T, O, none⟩), .int .i64 k] w fun e w' => ∃ A c, e = .returned (.slice A us.length c) ∧ Us (fun b => w.heap.size ≤ b) w' (.slice A us.length c) us ∧ Below w.heap.size w w' := by
  obtain ⟨A', c', h1, h2, h3, h4⟩ := h.outAt
  obtain ⟨N, hN⟩ : ∃ N, N = outs.length := ⟨_, rfl⟩
  have hNu : Us (fun b => w.heap.size ≤ b) w (.slice none 0 0) [] := ⟨none, 0, rfl, by simp, by simp [maxLen], .inl rfl⟩
  unfold maxLen at h3
  by_cases hk0 : 0 ≤ k
  · obtain ⟨K, rfl⟩ := Int.eq_ofNat_of_zero_le hk0
    by_cases hk1 : K < outs.length
    · have hget : outs[K]? = some us := by
        rw [← hu, if_pos (by omega)]
        simp [List.getD_eq_getElem?_getD, List.getElem?_eq_getElem hk1]
      obtain ⟨b, o, A1, c1, rfl, hb, g1, g2⟩ := h4 K us hget
      obtain ⟨r1, r2, r3, r4⟩ := g2.rd
      have hul := hl us (List.mem_of_getElem? hget)
      obtain ⟨M, hM⟩ : ∃ M, M = us.length := ⟨_, rfl⟩
      rw [← hM] at g1 r1 r2 hul ⊢
      rw [← hN] at h1 h2 hk1
      have HR := Lib.hid r4.rdB
      have HM := Lib.hid hM
      have k3 : (0 : Int) ≤ K := by omega
      have k4 : (K : Int) < N := by omega
      have hd : decide ((K : Int) < 0) = false := by simp
      have hd2 : decide ((K : Int) ≥ N) = false := by simp; omega
      unfold maxLen at r3
      clear h hu hget g2 r4 hM h4 hN r1 hNu hl
      go_enter Try.func62, Try.ntmps62
      go_wp2_with fail
      refine (clone_any M A1 c1 us B _ HM.out HR.out hB hul).mono ?_
      rintro e w1 ⟨A4, c4, rfl, hu4, hb1⟩
      have HU := Lib.hid hu4
      clear hu4
      go_wp2
      go_ret
      exact ⟨A4, c4, rfl, HU.out, hb1⟩
    · have hus : us = [] := by rw [← hu, if_neg (by omega)]
      subst hus
      rw [← hN] at h1 h2 hk1
      have hd : decide ((K : Int) < 0) = false := by simp
      have hd2 : decide ((K : Int) ≥ N) = true := by simp; omega
      have HNu := Lib.hid hNu
      clear h hu h4 hN hNu hl
      go_enter Try.func62, Try.ntmps62
      go_wp2
      go_ret
      exact ⟨none, 0, rfl, HNu.out, Below.refl _ _⟩
  · have hus : us = [] := by rw [← hu, if_neg (by omega)]
    subst hus
    have hd : decide (k < 0) = true := by simp; omega
    have HNu := Lib.hid hNu
    clear h hu h4 hN hNu hl
    go_enter Try.func62, Try.ntmps62
    go_wp2
    go_ret
    exact ⟨none, 0, rfl, HNu.out, Below.refl _ _⟩

set_option maxHeartbeats 3200000 in
theorem tlongest_anyO (w : World) (B T O : Nat) (rs : List Rl) (ns : List NodeM) (outs : List (List Int)) (h : TrAtO w B T O ns outs) (ht : TI (pathsR rs) ns (findR rs)) (hB : B ≤ w.heap.size) (hs : ∀ r ∈ rs, 1 ≤ r.1.length) (hP : (pathsR rs).length ≤ 5000)
    (n : Nat) (A : Option Addr) (c : Nat) (us : List Int) (B' : Nat) (hn : n = us.length) (hr : Rd w B' A (us.map (Value.int .i64))) (hB' : B' ≤ w.heap.size) (hnc : n ≤ c) (hc : c ≤ maxLen) (k m : Int) (o : Bool) (hv : longL rs us = (k, m, o)) :
    Calls Try.prog 69 #[.pointer (some ⟨T, O, none⟩), .slice A n c] w fun e w' => e = .returned (.tuple #[.int .i64 k, .int .i64 m, .bool o]) ∧ Below w.heap.size w w' := by
  obtain ⟨P, hPe⟩ : ∃ P, P = pathsR rs := ⟨_, rfl⟩
  rw [← hPe] at ht hP
  have HPe := Lib.hid hPe
  have H := Lib.hid h
  have HT := Lib.hid ht
  have HS := Lib.hid hs
  have HP := Lib.hid hP
  have HN := Lib.hid hn
  have HR := Lib.hid hr
  have HV := Lib.hid hv
  unfold maxLen at hc
  have hroot : [] ∈ P := List.mem_of_getElem? ht.root
  have hi0 : idxP P [] = 0 := idxP_of ht.nodup ht.root
  have HRT := Lib.hid hroot
  have HI0 := Lib.hid hi0
  clear hPe h ht hs hP hn hr hv hroot hi0
  go_enter Try.func69, Try.ntmps69
  go_wp2
  go_loopw [7, 8, 9, 17] (fun sk sn sa i wr => ∃ (J : Nat) (k n0 : Int), J ≤ n ∧ i = .int .i64 J ∧ sk = .int .i64 k ∧ sn = .int .i64 n0 ∧ sa = .int .i64 (idxP P (us.take J) : Nat) ∧ Hid (BestP (findR rs) us J k n0) ∧ Hid (us.take J ∈ P) ∧ Below w.heap.size w wr) (fun _ _ _ i _ => n - (intOf i).toNat)
  case atStart => exact ⟨0, -1, 0, by omega, rfl, rfl, rfl, by simp [HI0.out], BestP.start _ _, by rw [List.take_zero]; exact HRT, Below.refl _ _⟩
  case round =>
    obtain ⟨J, k0, n0, hJ, rfl, rfl, rfl, rfl, hbest, hin, hb⟩ := hrel
    have hsz := hb.size
    obtain ⟨ka, hka⟩ : ∃ ka, ka = idxP P (us.take J) := ⟨_, rfl⟩
    have hkx : P[ka]? = some (us.take J) := by rw [hka]; exact (idxP_lt hin.out).2
    have hkal : ka < ns.length := by rw [HT.out.len]; exact lt_of_some hkx
    obtain ⟨nd, hnd⟩ : ∃ nd, ns[ka]? = some nd := ⟨_, List.getElem?_eq_getElem hkal⟩
    have hni := HT.out.node ka nd _ hnd hkx
    rw [← hka]
    have HKX := Lib.hid hkx
    have HND := Lib.hid hnd
    have HNI := Lib.hid hni
    have HTr := Lib.hid (H.out.below (hb.mono hB) (Nat.le_refl _))
    by_cases hJn : J = n
    · have hJ' : ¬ J < n := by omega
      have hall : us.take J = us := List.take_of_length_le (by rw [← HN.out]; omega)
      rw [hall] at HNI
      have hbest' : BestP (findR rs) us us.length k0 n0 := by rw [← HN.out, ← hJn]; exact hbest.out
      obtain ⟨v, hv⟩ : ∃ v, v = decide (nd.units.length = 0) := ⟨_, rfl⟩
      have hop : (!v) = true ↔ ∃ u, us ++ [u] ∈ pathsR rs := by
        rw [← HPe.out, hv]
        constructor
        · intro h
          have hne : nd.units ≠ [] := by intro e; rw [e] at h; simp at h
          obtain ⟨u, hu⟩ := List.exists_mem_of_ne_nil _ hne
          exact ⟨u, (HNI.out.units u).1 hu⟩
        · rintro ⟨u, hu⟩
          have := (HNI.out.units u).2 hu
          have hne : nd.units.length ≠ 0 := by intro e; rw [List.eq_nil_of_length_eq_zero e] at this; cases this
          simpa using hne
      have hE : k = k0 ∧ m = n0 ∧ o = !v := by
        have := HV.out.symm.trans (hbest'.all HS.out hop)
        simpa using this
      have HE := Lib.hid hE
      have HVV := Lib.hid hv
      clear hJn hall hbest' hop hE hkx hnd hni hka hkal hv hbest hin
      go_wp2_with fail
      refine (leaf_atO wr B T O ns outs HTr.out ka nd HND.out v HVV.out.symm).mono ?_
      rintro e w1 ⟨rfl, rfl⟩
      go_wp2
      go_ret3
      exact ⟨ret_trip HE.out, hb⟩
    · have hJ' : J < n := by omega
      have hJ1 : J < us.length := by rw [← HN.out]; exact hJ'
      obtain ⟨b1, o1, rfl, hb1B, hcell⟩ := rd_ints HR.out (by omega)
      have hc1 := (hb.cell (p := ⟨b1, o1 + J, none⟩) (by show b1 < _; omega)).trans (hcell J hJ1)
      have hgd : us.getD J 0 = us[J] := by simp [List.getD_eq_getElem?_getD, hJ1]
      obtain ⟨u, hu⟩ : ∃ u, u = us[J] := ⟨_, rfl⟩
      rw [hgd, ← hu] at hc1
      have htk : us.take (J + 1) = us.take J ++ [u] := by rw [hu, List.take_succ_eq_append_getElem hJ1]
      have HTK := Lib.hid htk
      have k5 : (0 : Int) ≤ J := by omega
      have k6 : (J : Int) < n := by omega
      clear hJn hcell hgd hu hkx hnd hni hka hkal htk
      go_wp2_with fail
      by_cases hp : us.take J ++ [u] ∈ P
      · obtain ⟨m1, hm1⟩ : ∃ m1, m1 = idxP P (us.take J ++ [u]) := ⟨_, rfl⟩
        refine (step_atO wr B T O P (findR rs) ns outs HTr.out HT.out (by omega) ka (us.take J) HKX.out u m1 true (by simpa using hp) (by rw [if_pos hp, hm1]) HP.out).mono ?_
        rintro e w1 ⟨rfl, hb1⟩
        have hbE := hb.trans (hb1.mono hsz)
        have hs1 := hbE.size
        have hkx1 : P[m1]? = some (us.take J ++ [u]) := by rw [hm1]; exact (idxP_lt hp).2
        have hkl1 : m1 < ns.length := by rw [HT.out.len]; exact lt_of_some hkx1
        obtain ⟨nd1, hnd1⟩ : ∃ nd1, ns[m1]? = some nd1 := ⟨_, List.getElem?_eq_getElem hkl1⟩
        have hni1 := HT.out.node m1 nd1 _ hnd1 hkx1
        obtain ⟨r, hr1⟩ : ∃ r, nd1.rule = r := ⟨_, rfl⟩
        have hfr : findR rs (us.take (J + 1)) = r := by rw [HTK.out, ← hni1.rule, hr1]
        have HTr1 := Lib.hid (H.out.below (hbE.mono hB) (Nat.le_refl _))
        have HND1 := Lib.hid hnd1
        have HR1 := Lib.hid hr1
        have HFR := Lib.hid hfr
        have hm2 : m1 = idxP P (us.take (J + 1)) := by rw [HTK.out]; exact hm1
        have hin1 : Hid (us.take (J + 1) ∈ P) := by rw [HTK.out]; exact hp
        have HM2 := Lib.hid hm2
        clear hm1 hkx1 hkl1 hnd1 hni1 hr1 hfr hp hm2 hb1
        go_wp2_with fail
        refine (rule_atO w1 B T O ns outs HTr1.out m1 nd1 HND1.out r HR1.out).mono ?_
        rintro e w2 ⟨rfl, rfl⟩
        by_cases hr0 : r = -1
        · have hb2 : Hid (BestP (findR rs) us (J + 1) k0 n0) := hbest.out.stay (by rw [HFR.out, hr0])
          subst hr0
          go_wp2
          go_roundw
          case rel => exact ⟨J + 1, k0, n0, by omega, by go_num, rfl, rfl, by rw [← HM2.out], hb2, hin1, hbE⟩
          case measure => simp [intOf]; omega
        · have hb2 : Hid (BestP (findR rs) us (J + 1) r ((J : Int) + 1)) := by
            have h := hbest.out.move (by rw [HFR.out]; exact hr0)
            rw [HFR.out] at h; exact h
          have hd : decide (r ≠ -1) = true := by simpa using hr0
          go_wp2
          go_roundw
          case rel => exact ⟨J + 1, r, (J : Int) + 1, by omega, by go_num, rfl, rfl, by rw [← HM2.out], hb2, hin1, hbE⟩
          case measure => simp [intOf]; omega
      · refine (step_atO wr B T O P (findR rs) ns outs HTr.out HT.out (by omega) ka (us.take J) HKX.out u 0 false (by simpa using hp) (by rw [if_neg hp]) HP.out).mono ?_
        rintro e w1 ⟨rfl, hb1⟩
        have hbE := hb.trans (hb1.mono hsz)
        have hE : k = k0 ∧ m = n0 ∧ o = false := by
          have := HV.out.symm.trans (hbest.out.stop HS.out hJ1 (by rw [← HPe.out, HTK.out]; exact hp))
          simpa using this
        have HE := Lib.hid hE
        clear hE hp hb1 hbest hin
        go_wp2
        go_ret3
        exact ⟨ret_trip HE.out, hbE⟩
theorem out_any (w : World) (B T : Nat) : ∀ (ns : List NodeM) (outs : List (List Int)) (h : TrAt w B T ns outs) (hB : B ≤ w.heap.size) (hl : ∀ o ∈ outs, o.length ≤ 17592186044416) (k : Int) (us : List Int) (hu : (if 0 ≤ k ∧ k < outs.length then outs.getD k.toNat [] else []) = us),
    Calls Try.prog 62 #[.pointer (some ⟨T, 0, none⟩), .int .i64 k] w fun e w' => ∃ A c, e = .returned (.slice A us.length c) ∧ Us (fun b => w.heap.size ≤ b) w' (.slice A us.length c) us ∧ Below w.heap.size w w' := out_anyO w B T 0
theorem tlongest_any (w : World) (B T : Nat) : ∀ (rs : List Rl) (ns : List NodeM) (outs : List (List Int)) (h : TrAt w B T ns outs) (ht : TI (pathsR rs) ns (findR rs)) (hB : B ≤ w.heap.size) (hs : ∀ r ∈ rs, 1 ≤ r.1.length) (hP : (pathsR rs).length ≤ 5000)
    (n : Nat) (A : Option Addr) (c : Nat) (us : List Int) (B' : Nat) (hn : n = us.length) (hr : Rd w B' A (us.map (Value.int .i64))) (hB' : B' ≤ w.heap.size) (hnc : n ≤ c) (hc : c ≤ maxLen) (k m : Int) (o : Bool) (hv : longL rs us = (k, m, o)),
    Calls Try.prog 69 #[.pointer (some ⟨T, 0, none⟩), .slice A n c] w fun e w' => e = .returned (.tuple #[.int .i64 k, .int .i64 m, .bool o]) ∧ Below w.heap.size w w' := tlongest_anyO w B T 0
end Go.Proofs.Ytikbmagolgcbfaa
namespace Go.Proofs.Ytikbmagolgcbfaa
set_option linter.unusedVariables false
open Go.RowKit
def somF (zs : List Int) : List Int := zs.map fun z => 97 + z % 6
def somM (zs : List Int) : List Int := somF (zs.take 60)
theorem somF_take {zs : List Int} {K : Nat} {z : Int} (hK : K < zs.length) (hz : zs.getD K 0 = z) : somF (zs.take (K + 1)) = somF (zs.take K) ++ [97 + z % 6] := by
  have : zs[K] = z := by rw [← hz]; simp [List.getD_eq_getElem?_getD, hK]
  rw [List.take_succ_eq_append_getElem hK, this]; simp [somF]
theorem somM_len (zs : List Int) : (somM zs).length ≤ 60 := by simp [somM, somF]; omega
set_option maxRecDepth 100000 in
set_option maxHeartbeats 1600000 in
theorem some_any (n : Nat) (A : Option Addr) (c : Nat) (zs : List Int) (B : Nat) (w : World) (hn : n = zs.length) (hr : Rd w B A (zs.map (Value.int .u8))) (hw : ∀ z ∈ zs, 0 ≤ z ∧ z ≤ 255) (hB : B ≤ w.heap.size) (hl : n ≤ 9223372036854775807) (hc : n ≤ c) (us : List Int) (m : Nat) (hu : somM zs = us) (hm : us.length = m) :
    Calls Try.prog 34 #[.slice A n c] w fun e w' => ∃ A' c', e = .returned (.slice A' m c') ∧ Us (fun b => w.heap.size ≤ b) w' (.slice A' m c') us ∧ Below w.heap.size w w' := by
  obtain ⟨i0, hi, hz0, hz1, hz2⟩ := info_parts infoint
  obtain ⟨q, hq, hqn, hq4⟩ : ∃ q : Nat, ((if 60 < n then 60 else n) = q) ∧ q ≤ n ∧ q ≤ 60 := ⟨_, rfl, by split <;> omega, by split <;> omega⟩
  have hmin : (if (60 : Int) < n then (60 : Int) else n) = (q : Int) := by rw [← hq]; split <;> split <;> omega
  have hqc : q ≤ c := by omega
  have hq0 : (0 : Int) ≤ (q : Int) := by omega
  have hU : somF (zs.take q) = us := by
    rw [← hu, somM]
    by_cases h4 : 60 < n
    · rw [if_pos h4] at hq; rw [hq]
    · rw [if_neg h4] at hq; rw [List.take_of_length_le (l := zs) (by omega), List.take_of_length_le (l := zs) (by omega)]
  have hqm : q = m := by rw [← hm, ← hU]; simp [somF]; omega
  have HN := Lib.hid hn
  have HR := Lib.hid hr
  have HW := Lib.hid hw
  have HU := Lib.hid hU
  have HM := Lib.hid hm
  have HQM := Lib.hid hqm
  clear hn hr hw hu hm hq hU hqm
  go_enter Try.func34, Try.ntmps34
  go_wp2
  go_loopw [3, 12] (fun v i wr => ∃ K : Nat, K ≤ q ∧ i = .int .i64 K ∧ Hid (wr.ownsRow w.heap.size 3 1 v K ((somF (zs.take K)).map (Value.int .i64))) ∧ Below w.heap.size w wr) (fun _ i _ => q - (intOf i).toNat)
  case atStart => exact ⟨0, by omega, rfl, World.ownsRow_nil _ _ _ _, Below.refl _ _⟩
  case round =>
    obtain ⟨K, hK, rfl, ho, hb⟩ := hrel
    have hs := hb.size
    by_cases hKq : K = q
    · have hK' : ¬ K < q := by omega
      have hown := ho.out
      rw [hKq, HU.out, HQM.out] at hown
      obtain ⟨A3, c3, ev, _⟩ := us_own hown HM.out.symm
      subst ev
      obtain ⟨_, _, e0, hus⟩ := us_own hown HM.out.symm
      have HO := Lib.hid hus
      clear hown ho hKq
      go_wp2
      go_ret
      exact ⟨A3, c3, rfl, HO.out, hb⟩
    have hK' : K < q := by omega
    have hK1 : K < zs.length := by rw [← HN.out]; omega
    obtain ⟨b, o, rfl, hbB, hcell⟩ := rd_ints HR.out (by omega)
    have k1 := (hb.cell (p := ⟨b, o + K, none⟩) (by show b < _; omega)).trans (hcell K hK1)
    have hwz := getD_range HW.out K hK1
    obtain ⟨z, hz⟩ : ∃ z, zs.getD K 0 = z := ⟨_, rfl⟩
    rw [hz] at k1 hwz
    have hw0 : 0 ≤ z := hwz.1
    have hw1 : z ≤ 255 := hwz.2
    have hsn := somF_take hK1 hz
    have HSN := Lib.hid hsn
    have k3 : (0 : Int) ≤ K := by omega
    have k4 : (K : Int) < q := by omega
    have hown := ho.out
    clear hcell hz hsn hwz
    go_wp2_with (at_builtin; refine wpList_appB _ rfl _ _ 37 rfl w.heap.size 3 i0 (.int .i64 0) 1 8 Try.underlying37 hi hz0 hz1 hz2 rfl (by decide) _ _ _ rfl (hown.alloc _) (wr.heap.size + 1) _ 1 1 [.int .i64 (97 + z % 6)] rfl rfl ?c1 ?c2 ?c3 ?c4 ?c5 ?_)
    case c1 => exact Rd_newR _ _ _ _ rfl
    case c2 => intro u hu; simp at hu; subst hu; rfl
    case c3 => simp only [maxLen]; omega
    case c4 => omega
    case c5 => simp; omega
    intro v' w1 hown1 hg1 hv1
    have hbE : Below w.heap.size w w1 := below_own (hb.trans (((Below.refl _ _).alloc (Nat.le_refl _) _).mono hs)) hg1 (hown.alloc _) (Nat.le_refl _) (by simp; omega)
    have HP : Hid (w1.ownsRow w.heap.size 3 1 v' (K + 1) ((somF (zs.take (K + 1))).map (Value.int .i64))) := by
      rw [HSN.out, List.map_append]; exact hown1
    clear hown1
    go_wp2
    go_roundw
    case rel => exact ⟨K + 1, by omega, by go_num, HP, hbE⟩
    case measure => simp [intOf]; omega
/-- more units never make the longest rule shorter; where no more may come they change nothing -/
theorem Good.more {rs : List (List Int × List Int)} (h : Good rs) {us : List Int} {i : Nat} (hi : i < us.length) {k n a b : Int} {o c : Bool} (h1 : longL rs (us.take i) = (k, n, o)) (h2 : longL rs (us.take (i + 1)) = (a, b, c)) :
    n ≤ b ∧ b ≤ (i : Int) + 1 ∧ (o = false → a = k ∧ b = n ∧ c = false) := by
  obtain ⟨k', n', o', e1, s1⟩ := h.long (us.take i)
  rw [h1] at e1
  obtain ⟨rfl, rfl, rfl⟩ : k = k' ∧ n = n' ∧ o = o' := by simpa using e1
  obtain ⟨a', b', c', e2, s2⟩ := h.long (us.take (i + 1))
  rw [h2] at e2
  obtain ⟨rfl, rfl, rfl⟩ : a = a' ∧ b = b' ∧ c = c' := by simpa using e2
  have l1 : (us.take i).length = i := by simp; omega
  have l2 : (us.take (i + 1)).length = i + 1 := by simp; omega
  have tt : ∀ m, m ≤ i → (us.take (i + 1)).take m = (us.take i).take m := fun m hm => by rw [List.take_take, List.take_take, Nat.min_eq_left (by omega), Nat.min_eq_left hm]
  refine ⟨?_, ?_, ?_⟩
  · rcases s1.res with ⟨_, e⟩ | ⟨m, e, g1, g2, g3, r, hr, g4⟩
    · rcases s2.res with ⟨_, e'⟩ | ⟨m', e', _⟩ <;> omega
    · rw [l1] at g2
      have hl : r.1.length = m := by rw [g4, List.length_take, l1]; omega
      have := s2.max r hr (by rw [l2]; omega) (by rw [hl, tt m g2, g4])
      omega
  · rcases s2.res with ⟨_, e'⟩ | ⟨m', e', _, g2, _⟩
    · omega
    · rw [l2] at g2; omega
  · intro ho
    subst ho
    have hno : ∀ r ∈ rs, ¬ (i < r.1.length ∧ r.1.take i = us.take i) := fun r hr e => by
      have := s1.op.2 ⟨r, hr, by rw [l1]; exact e.1, by rw [l1]; exact e.2⟩
      cases this
    have s3 : LongIs rs (us.take (i + 1)) k n false := by
      refine ⟨?_, ?_, ?_⟩
      · constructor
        · intro e; cases e
        · rintro ⟨r, hr, g1, g2⟩
          rw [l2] at g1 g2
          refine absurd ⟨by omega, ?_⟩ (hno r hr)
          have := congrArg (List.take i) g2
          rw [List.take_take, Nat.min_eq_left (by omega), tt i (Nat.le_refl _), List.take_take, Nat.min_self] at this
          exact this
      · intro r hr g1 g2
        rw [l2] at g1
        by_cases hri : r.1.length ≤ i
        · exact s1.max r hr (by rw [l1]; exact hri) (by rw [← tt _ hri]; exact g2)
        · refine absurd ⟨by omega, ?_⟩ (hno r hr)
          rw [← g2, List.take_take, Nat.min_eq_left (by omega), tt i (Nat.le_refl _), List.take_take, Nat.min_self]
      · rcases s1.res with e | ⟨m, e, g1, g2, g3, r, hr, g4⟩
        · exact .inl e
        · rw [l1] at g2
          exact .inr ⟨m, e, g1, by rw [l2]; omega, by rw [tt m g2]; exact g3, r, hr, by rw [tt m g2]; exact g4⟩
    obtain ⟨e1, e2, e3⟩ := s2.one s3
    exact ⟨e1, e2, e3⟩
end Go.Proofs.Ytikbmagolgcbfaa
namespace Go.Proofs.Ytikbmagolgcbfaa
set_option linter.unusedVariables false
open Go.RowKit
theorem units_v (n n' : Nat) (A A' : Option Addr) (c c' : Nat) (zs zs' : List Int) (B B' : Nat) (w : World) (v : Bool) (hv : eqB zs zs' = v) (hn : n = zs.length) (hn' : n' = zs'.length) (hr : Rd w B A (zs.map (Value.int .i64))) (hr' : Rd w B' A' (zs'.map (Value.int .i64))) (hl : n ≤ 9223372036854775807) :
    Calls Try.prog 24 #[.slice A n c, .slice A' n' c'] w fun e w' => e = .returned (.bool v) ∧ ∃ m, w' = w.drewN m := by
  subst hv; exact units_eq n n' A A' c c' zs zs' B B' w hn hn' hr hr' hl
theorem rd_tk {w : World} {B : Nat} {A : Option Addr} {zs : List Int} (k : Nat) (h : Rd w B A (zs.map (Value.int .i64))) : Rd w B A ((zs.take k).map (Value.int .i64)) := by
  have := h.take k; rw [← List.map_take] at this; exact this
theorem ll_next {rs : List Rl} {us : List Int} {K : Nat} {k n k' n' : Int} {o o' : Bool} {res : Int × Int × Bool} (h : longLFrom K k n o us (rs.drop K) = res) (hK : K < rs.length)
    (hk : (if hitL rs[K] us n = true then (K : Int) else k) = k') (hn : (if hitL rs[K] us n = true then (rs[K].1.length : Int) else n) = n') (ho : (o || openL rs[K] us) = o') : longLFrom ((K + 1 : Nat) : Int) k' n' o' us (rs.drop (K + 1)) = res := by
  rw [List.drop_eq_getElem_cons hK] at h
  simp only [longLFrom] at h
  rw [hk, hn, ho] at h
  exact h
theorem ll_end {rs : List Rl} {us : List Int} {K : Nat} {k n a b : Int} {o c : Bool} (h : longLFrom K k n o us (rs.drop K) = (a, b, c)) (hK : rs.length ≤ K) : a = k ∧ b = n ∧ c = o := by
  rw [List.drop_of_length_le hK] at h
  simp only [longLFrom, Prod.mk.injEq] at h
  exact ⟨h.1.symm, h.2.1.symm, h.2.2.symm⟩

set_option maxHeartbeats 6400000 in
theorem llongest_any (n n' : Nat) (A A' : Option Addr) (c c' : Nat) (rs : List Rl) (us : List Int) (B B' : Nat) (w : World) (hr : RsAt w B A n c rs) (hn' : n' = us.length) (hr' : Rd w B' A' (us.map (Value.int .i64))) (hl' : n' ≤ c') (hc' : c' ≤ maxLen) (hB : B ≤ w.heap.size) (hB' : B' ≤ w.heap.size) (kf mf : Int) (of_ : Bool) (hv : longL rs us = (kf, mf, of_)) :
    Calls Try.prog 35 #[.slice A n c, .slice A' n' c'] w fun e w' => e = .returned (.tuple #[.int .i64 kf, .int .i64 mf, .bool of_]) ∧ Below w.heap.size w w' := by
  have HR := Lib.hid hr
  have HR' := Lib.hid hr'
  have HN' := Lib.hid hn'
  have HV := Lib.hid hv
  have hn1 := hr.fits
  have hn2 := hr.small
  unfold maxLen at hn2 hc'
  clear hr hr' hn' hv
  go_enter Try.func35, Try.ntmps35
  go_wp2
  go_loopw [7, 8, 9, 14] (fun sk sn so i wr => ∃ (K : Nat) (k n0 : Int) (o : Bool), K ≤ n ∧ i = .int .i64 K ∧ sk = .int .i64 k ∧ sn = .int .i64 n0 ∧ so = .bool o ∧ Below w.heap.size w wr ∧ Hid (longLFrom K k n0 o us (rs.drop K) = (kf, mf, of_))) (fun _ _ _ i _ => n - (intOf i).toNat)
  case atStart => exact ⟨0, -1, 0, false, by omega, rfl, rfl, rfl, rfl, Below.refl _ _, HV.out⟩
  case round =>
    obtain ⟨K, k0, n0, o, hK, rfl, rfl, rfl, rfl, hb, hf⟩ := hrel
    have hsz := hb.size
    by_cases hKn : K = n
    · have hK' : ¬ K < n := by omega
      have HE := Lib.hid (ll_end hf.out (by rw [← HR.out.len, hKn]; omega))
      clear hKn hf
      go_wp2
      go_ret3
      exact ⟨ret_trip HE.out, hb⟩
    have hK' : K < n := by omega
    have hK1 : K < rs.length := by rw [← HR.out.len]; exact hK'
    obtain ⟨b, of2, rfl, hbB, A1, n1, c1, A2, n2, c2, g1, g2, e1, e2, e3, e4, f1, f2, f3, f4⟩ := HR.out.at hK1
    have k1 := (hb.cell (p := ⟨b, of2 + K * 2, none⟩) (by show b < _; omega)).trans g1
    have k2 := (hb.cell (p := ⟨b, of2 + K * 2 + 1, none⟩) (by show b < _; omega)).trans g2
    have k3 : (0 : Int) ≤ K := by omega
    have k4 : (K : Int) < n := by omega
    obtain ⟨In, hIn⟩ : ∃ In, In = rs[K].1 := ⟨_, rfl⟩
    have hhit : hitL rs[K] us n0 = decide (n1 ≤ n' ∧ us.take n1 = In ∧ n0 < n1) := by unfold hitL; rw [← hIn, ← HN'.out, hIn, ← e1]
    have hop : openL rs[K] us = decide (n' < n1 ∧ In.take n' = us) := by unfold openL; rw [← e1, ← HN'.out, hIn]
    rw [← hIn] at e1 e4
    have hba : Below wr.heap.size wr (wr.alloc (.cells #[.slice A1 n1 c1, .slice A2 n2 c2] 54)) := (Below.refl _ _).alloc (Nat.le_refl _) _
    have E1 := Lib.hid e1
    have E4 := Lib.hid e4
    have HH := Lib.hid hhit
    have HO := Lib.hid hop
    have HBA := Lib.hid hba
    have hll := fun (k' n2 : Int) (o' : Bool) => ll_next (k' := k') (n' := n2) (o' := o') hf.out hK1
    have HLL := Lib.hid hll
    have M1 : Hid (n1 ≤ 9223372036854775807) := by unfold maxLen at e3; exact (show n1 ≤ 9223372036854775807 by omega)
    have hnn : rs[K].1.length = n1 := by rw [← hIn, e1]
    have HNN := Lib.hid hnn
    have hE5 : ∀ q, Rd ((wr.alloc (.cells #[.slice A1 n1 c1, .slice A2 n2 c2] 54)).drewN q) B A1 (In.map (Value.int .i64)) := fun q => E4.out.below ((hb.trans (below_dr (HBA.out.mono hsz) q)).mono hB) (Nat.le_refl _)
    have hR5 : ∀ q, Rd ((wr.alloc (.cells #[.slice A1 n1 c1, .slice A2 n2 c2] 54)).drewN q) B' A' (us.map (Value.int .i64)) := fun q => HR'.out.below ((hb.trans (below_dr (HBA.out.mono hsz) q)).mono hB') (Nat.le_refl _)
    have HE5 := Lib.hid hE5
    have HR5 := Lib.hid hR5
    unfold maxLen at e3 f3
    clear g1 g2 e1 e4 f1 f4 hIn hhit hop hba hll hnn hE5 hR5 hKn hf
    by_cases hle : n1 ≤ n'
    · have hd1 : decide ((n1 : Int) ≤ (n' : Int)) = true := by simp; omega
      have hd2 : decide ((n1 : Int) > (n' : Int)) = false := by simp; omega
      have HO2 : Hid (openL rs[K] us = false) := by rw [HO.out]; exact (decide_eq_false (fun h => by omega))
      have HTL : Hid (n1 = (us.take n1).length) := by show n1 = _; rw [List.length_take, ← HN'.out]; omega
      have k5 : n1 ≤ c' := by omega
      have k6 : (0 : Int) ≤ n1 := by omega
      have k7 : (n1 : Int) ≤ n' := by omega
      by_cases he : In = us.take n1
      · have HEQ := Lib.hid (eqB_t he)
        by_cases hlt : n0 < n1
        · have hd3 : decide ((n1 : Int) > n0) = true := by simp; omega
          have hht : hitL rs[K] us n0 = true := by rw [HH.out]; exact decide_eq_true ⟨hle, he.symm, hlt⟩
          have HHT := Lib.hid hht
          clear he hht hlt
          cases o with
          | true =>
            have HL : Hid (longLFrom ((K + 1 : Nat) : Int) K n1 true us (rs.drop (K + 1)) = (kf, mf, of_)) := HLL.out _ _ _ (by rw [if_pos HHT.out]) (by rw [if_pos HHT.out, HNN.out]) (by rw [HO2.out]; rfl)
            go_wp2_with fail
            go_quiet ((go_at_call_of 24 (Value.slice A1 n1 c1); exact Calls.quiet_of (units_v n1 n1 A1 A' c1 c' In (us.take n1) B B' _ true HEQ.out E1.out HTL.out (HE5.out _) (by have h := (HR5.out 0).take n1; rw [← List.map_take] at h; exact h.below (below_dr (Below.refl _ _) _) (Nat.le_refl _)) M1.out)))
            go_wp2_with fail
            go_quiet (fail)
            go_wp2
            go_roundw
            case rel => exact ⟨K + 1, K, n1, true, by omega, by go_num, rfl, rfl, rfl, hb.trans (below_dr (HBA.out.mono hsz) _), HL⟩
            case measure => simp [intOf]; omega
          | false =>
            have HL : Hid (longLFrom ((K + 1 : Nat) : Int) K n1 false us (rs.drop (K + 1)) = (kf, mf, of_)) := HLL.out _ _ _ (by rw [if_pos HHT.out]) (by rw [if_pos HHT.out, HNN.out]) (by rw [HO2.out]; rfl)
            go_wp2_with fail
            go_quiet ((go_at_call_of 24 (Value.slice A1 n1 c1); exact Calls.quiet_of (units_v n1 n1 A1 A' c1 c' In (us.take n1) B B' _ true HEQ.out E1.out HTL.out (HE5.out _) (by have h := (HR5.out 0).take n1; rw [← List.map_take] at h; exact h.below (below_dr (Below.refl _ _) _) (Nat.le_refl _)) M1.out)))
            go_wp2_with fail
            go_quiet (fail)
            go_wp2
            go_roundw
            case rel => exact ⟨K + 1, K, n1, false, by omega, by go_num, rfl, rfl, rfl, hb.trans (below_dr (HBA.out.mono hsz) _), HL⟩
            case measure => simp [intOf]; omega
        · have hd3 : decide ((n1 : Int) > n0) = false := by simp; omega
          have hht : hitL rs[K] us n0 = false := by rw [HH.out]; exact decide_eq_false (fun h => hlt h.2.2)
          have HHT := Lib.hid hht
          clear he hht hlt
          cases o with
          | true =>
            have HL : Hid (longLFrom ((K + 1 : Nat) : Int) k0 n0 true us (rs.drop (K + 1)) = (kf, mf, of_)) := HLL.out _ _ _ (by rw [HHT.out]; rfl) (by rw [HHT.out]; rfl) (by rw [HO2.out]; rfl)
            go_wp2_with fail
            go_quiet ((go_at_call_of 24 (Value.slice A1 n1 c1); exact Calls.quiet_of (units_v n1 n1 A1 A' c1 c' In (us.take n1) B B' _ true HEQ.out E1.out HTL.out (HE5.out _) (by have h := (HR5.out 0).take n1; rw [← List.map_take] at h; exact h.below (below_dr (Below.refl _ _) _) (Nat.le_refl _)) M1.out)))
            go_wp2
            go_roundw
            case rel => exact ⟨K + 1, k0, n0, true, by omega, by go_num, rfl, rfl, rfl, hb.trans (below_dr (HBA.out.mono hsz) _), HL⟩
            case measure => simp [intOf]; omega
          | false =>
            have HL : Hid (longLFrom ((K + 1 : Nat) : Int) k0 n0 false us (rs.drop (K + 1)) = (kf, mf, of_)) := HLL.out _ _ _ (by rw [HHT.out]; rfl) (by rw [HHT.out]; rfl) (by rw [HO2.out]; rfl)
            go_wp2_with fail
            go_quiet ((go_at_call_of 24 (Value.slice A1 n1 c1); exact Calls.quiet_of (units_v n1 n1 A1 A' c1 c' In (us.take n1) B B' _ true HEQ.out E1.out HTL.out (HE5.out _) (by have h := (HR5.out 0).take n1; rw [← List.map_take] at h; exact h.below (below_dr (Below.refl _ _) _) (Nat.le_refl _)) M1.out)))
            go_wp2
            go_roundw
            case rel => exact ⟨K + 1, k0, n0, false, by omega, by go_num, rfl, rfl, rfl, hb.trans (below_dr (HBA.out.mono hsz) _), HL⟩
            case measure => simp [intOf]; omega
      · have HEQ := Lib.hid (eqB_f he)
        · have hht : hitL rs[K] us n0 = false := by rw [HH.out]; exact decide_eq_false (fun h => he h.2.1.symm)
          have HHT := Lib.hid hht
          clear he hht
          cases o with
          | true =>
            have HL : Hid (longLFrom ((K + 1 : Nat) : Int) k0 n0 true us (rs.drop (K + 1)) = (kf, mf, of_)) := HLL.out _ _ _ (by rw [HHT.out]; rfl) (by rw [HHT.out]; rfl) (by rw [HO2.out]; rfl)
            go_wp2_with fail
            go_quiet ((go_at_call_of 24 (Value.slice A1 n1 c1); exact Calls.quiet_of (units_v n1 n1 A1 A' c1 c' In (us.take n1) B B' _ false HEQ.out E1.out HTL.out (HE5.out _) (by have h := (HR5.out 0).take n1; rw [← List.map_take] at h; exact h.below (below_dr (Below.refl _ _) _) (Nat.le_refl _)) M1.out)))
            go_wp2
            go_roundw
            case rel => exact ⟨K + 1, k0, n0, true, by omega, by go_num, rfl, rfl, rfl, hb.trans (below_dr (HBA.out.mono hsz) _), HL⟩
            case measure => simp [intOf]; omega
          | false =>
            have HL : Hid (longLFrom ((K + 1 : Nat) : Int) k0 n0 false us (rs.drop (K + 1)) = (kf, mf, of_)) := HLL.out _ _ _ (by rw [HHT.out]; rfl) (by rw [HHT.out]; rfl) (by rw [HO2.out]; rfl)
            go_wp2_with fail
            go_quiet ((go_at_call_of 24 (Value.slice A1 n1 c1); exact Calls.quiet_of (units_v n1 n1 A1 A' c1 c' In (us.take n1) B B' _ false HEQ.out E1.out HTL.out (HE5.out _) (by have h := (HR5.out 0).take n1; rw [← List.map_take] at h; exact h.below (below_dr (Below.refl _ _) _) (Nat.le_refl _)) M1.out)))
            go_wp2
            go_roundw
            case rel => exact ⟨K + 1, k0, n0, false, by omega, by go_num, rfl, rfl, rfl, hb.trans (below_dr (HBA.out.mono hsz) _), HL⟩
            case measure => simp [intOf]; omega
    · have hd1 : decide ((n1 : Int) ≤ (n' : Int)) = false := by simp; omega
      have hd2 : decide ((n1 : Int) > (n' : Int)) = true := by simp; omega
      have hht : hitL rs[K] us n0 = false := by rw [HH.out]; exact decide_eq_false (fun h => hle h.1)
      have HHT := Lib.hid hht
      have HTL : Hid (n' = (In.take n').length) := by show n' = _; rw [List.length_take, ← E1.out]; omega
      have k5 : n' ≤ c1 := by omega
      have k6 : (0 : Int) ≤ n' := by omega
      have k7 : (n' : Int) ≤ n1 := by omega
      clear hht
      cases o with
      | true =>
        have HL : Hid (longLFrom ((K + 1 : Nat) : Int) k0 n0 true us (rs.drop (K + 1)) = (kf, mf, of_)) := HLL.out _ _ _ (by rw [HHT.out]; rfl) (by rw [HHT.out]; rfl) rfl
        go_wp2_with fail
        go_quiet (fail)
        go_wp2
        go_roundw
        case rel => exact ⟨K + 1, k0, n0, true, by omega, by go_num, rfl, rfl, rfl, hb.trans (below_dr (HBA.out.mono hsz) _), HL⟩
        case measure => simp [intOf]; omega
      | false =>
        by_cases he : In.take n' = us
        · have HEQ := Lib.hid (eqB_t he)
          have HO2 : Hid (openL rs[K] us = true) := by rw [HO.out]; exact decide_eq_true ⟨by omega, he⟩
          have HL : Hid (longLFrom ((K + 1 : Nat) : Int) k0 n0 true us (rs.drop (K + 1)) = (kf, mf, of_)) := HLL.out _ _ _ (by rw [HHT.out]; rfl) (by rw [HHT.out]; rfl) (by rw [HO2.out]; rfl)
          clear he
          go_wp2_with fail
          go_quiet (fail)
          go_wp2_with fail
          refine (units_v n' n' A1 A' c1 c' (In.take n') us B B' _ true HEQ.out HTL.out HN'.out (rd_tk n' (HE5.out _)) (HR5.out _) (by have := M1.out; omega)).mono ?_
          rintro e w1 ⟨rfl, m1, rfl⟩
          go_wp2
          go_roundw
          case rel => exact ⟨K + 1, k0, n0, true, by omega, by go_num, rfl, rfl, rfl, hb.trans (below_dr (HBA.out.mono hsz) _), HL⟩
          case measure => simp [intOf]; omega
        · have HEQ := Lib.hid (eqB_f he)
          have HO2 : Hid (openL rs[K] us = false) := by rw [HO.out]; exact decide_eq_false (fun h => he h.2)
          have HL : Hid (longLFrom ((K + 1 : Nat) : Int) k0 n0 false us (rs.drop (K + 1)) = (kf, mf, of_)) := HLL.out _ _ _ (by rw [HHT.out]; rfl) (by rw [HHT.out]; rfl) (by rw [HO2.out]; rfl)
          clear he
          go_wp2_with fail
          go_quiet (fail)
          go_wp2_with fail
          refine (units_v n' n' A1 A' c1 c' (In.take n') us B B' _ false HEQ.out HTL.out HN'.out (rd_tk n' (HE5.out _)) (HR5.out _) (by have := M1.out; omega)).mono ?_
          rintro e w1 ⟨rfl, m1, rfl⟩
          go_wp2
          go_roundw
          case rel => exact ⟨K + 1, k0, n0, false, by omega, by go_num, rfl, rfl, rfl, hb.trans (below_dr (HBA.out.mono hsz) _), HL⟩
          case measure => simp [intOf]; omega
end Go.Proofs.Ytikbmagolgcbfaa
namespace Go.Proofs.Ytikbmagolgcbfaa
set_option linter.unusedVariables false
open Go.RowKit
/-- at cell O of block T, below block B, lies the trie of rules that are right -/
structure TrieOKO (w : World) (B T O : Nat) (rs : List Rl) : Prop where
  good : Good rs
  is : ∃ ns, TrAtO w B T O ns (rs.map (·.2)) ∧ TI (pathsR rs) ns (findR rs)
theorem TrieOKO.below {w w' : World} {B B' T O : Nat} {rs : List Rl} (h : TrieOKO w B T O rs) (hb : Below B w w') (hB : B ≤ B') : TrieOKO w' B' T O rs := by
  obtain ⟨hg, ns, h1, h2⟩ := h
  exact ⟨hg, ns, h1.below hb hB, h2⟩
/-- a trie that begins its block -/
abbrev TrieOK (w : World) (B T : Nat) (rs : List Rl) : Prop := TrieOKO w B T 0 rs
/-- the same two cells elsewhere are the same trie -/
theorem TrieOKO.copy {w w' : World} {B B' T O R Q : Nat} {rs : List Rl} (h : TrieOKO w B T O rs) (hb : Below B w w') (hB : B ≤ B') (hR : R < B') (h0 : ∀ v, w.cell? ⟨T, O, none⟩ = some v → w'.cell? ⟨R, Q, none⟩ = some v) (h1 : ∀ v, w.cell? ⟨T, O + 1, none⟩ = some v → w'.cell? ⟨R, Q + 1, none⟩ = some v) : TrieOKO w' B' R Q rs := by
  obtain ⟨hg, ns, g, h2⟩ := h
  exact ⟨hg, ns, g.copy hb hB hR h0 h1, h2⟩
theorem of_ok (n : Nat) (A : Option Addr) (c : Nat) (rs : List Rl) (B : Nat) (w : World) (hr : RsAt w B A n c rs) (hB : B ≤ w.heap.size) (hv : checkR rs = (-1, 0)) :
    Calls Try.prog 27 #[.slice A n c] w fun en w' => ∃ T, en = .returned (.tuple #[.pointer (some ⟨T, 0, none⟩), .int .i64 0]) ∧ TrieOK w' w'.heap.size T rs ∧ Below w.heap.size w w' := by
  refine (of_good n A c rs B w hr hB hv).mono ?_
  rintro en w' ⟨T, ns, nV, oV, xs, ys, V, rfl, ho, ht, hb⟩
  exact ⟨T, rfl, ⟨good_of hv, ns, ho.at, ht⟩, hb⟩
theorem long_okO (w : World) (B T O : Nat) (rs : List Rl) (h : TrieOKO w B T O rs) (hB : B ≤ w.heap.size) (n : Nat) (A : Option Addr) (c : Nat) (us : List Int) (B' : Nat) (hn : n = us.length) (hr : Rd w B' A (us.map (Value.int .i64))) (hB' : B' ≤ w.heap.size) (hnc : n ≤ c) (hc : c ≤ maxLen) (k m : Int) (o : Bool) (hv : longL rs us = (k, m, o)) :
    Calls Try.prog 69 #[.pointer (some ⟨T, O, none⟩), .slice A n c] w fun e w' => e = .returned (.tuple #[.int .i64 k, .int .i64 m, .bool o]) ∧ Below w.heap.size w w' := by
  obtain ⟨hg, ns, h1, h2⟩ := h
  exact tlongest_anyO w B T O rs ns _ h1 h2 hB (fun r hr => (hg.side r hr).1) (paths_le hg) n A c us B' hn hr hB' hnc hc k m o hv
theorem out_okO (w : World) (B T O : Nat) (rs : List Rl) (h : TrieOKO w B T O rs) (hB : B ≤ w.heap.size) (k : Nat) (hk : k < rs.length) (us : List Int) (m : Nat) (hu : rs[k].2 = us) (hm : us.length = m) :
    Calls Try.prog 62 #[.pointer (some ⟨T, O, none⟩), .int .i64 k] w fun e w' => ∃ A c, e = .returned (.slice A m c) ∧ Us (fun b => w.heap.size ≤ b) w' (.slice A m c) us ∧ Below w.heap.size w w' := by
  obtain ⟨hg, ns, h1, h2⟩ := h
  subst hm
  refine out_anyO w B T O ns _ h1 hB ?_ k us ?_
  · intro o ho
    obtain ⟨r, hr, rfl⟩ := List.mem_map.1 ho
    have := (hg.side r hr).2.2.2.1
    omega
  · rw [List.length_map, if_pos (by omega), ← hu]
    simp [List.getD_eq_getElem?_getD, List.getElem?_eq_getElem hk]
theorem long_ok (w : World) (B T : Nat) : ∀ (rs : List Rl) (h : TrieOK w B T rs) (hB : B ≤ w.heap.size) (n : Nat) (A : Option Addr) (c : Nat) (us : List Int) (B' : Nat) (hn : n = us.length) (hr : Rd w B' A (us.map (Value.int .i64))) (hB' : B' ≤ w.heap.size) (hnc : n ≤ c) (hc : c ≤ maxLen) (k m : Int) (o : Bool) (hv : longL rs us = (k, m, o)),
    Calls Try.prog 69 #[.pointer (some ⟨T, 0, none⟩), .slice A n c] w fun e w' => e = .returned (.tuple #[.int .i64 k, .int .i64 m, .bool o]) ∧ Below w.heap.size w w' := long_okO w B T 0
theorem out_ok (w : World) (B T : Nat) : ∀ (rs : List Rl) (h : TrieOK w B T rs) (hB : B ≤ w.heap.size) (k : Nat) (hk : k < rs.length) (us : List Int) (m : Nat) (hu : rs[k].2 = us) (hm : us.length = m),
    Calls Try.prog 62 #[.pointer (some ⟨T, 0, none⟩), .int .i64 k] w fun e w' => ∃ A c, e = .returned (.slice A m c) ∧ Us (fun b => w.heap.size ≤ b) w' (.slice A m c) us ∧ Below w.heap.size w w' := out_okO w B T 0
end Go.Proofs.Ytikbmagolgcbfaa
namespace Go.Proofs.Ytikbmagolgcbfaa
set_option linter.unusedVariables false
open Go.RowKit
theorem infotok4 : (Try.prog.info? 45).map (·.size) = some 4 := by kernel_rfl
/-- a token handed back out of a cell of the frame -/
theorem tok_ret {fn : Func} {p : Tmp} {a : Act} {w : World} {R : Ending → World → Prop} {g : Nat} {cs : Array Value} {t : TypeId} {fr : Nat × Nat} (h : fn.results = #[.cell p 45]) (hp : a.tmps.getD p undef = .pointer (some ⟨g, 0, none⟩)) (hg : w.heap[g]? = some (.cells cs t fr)) (hs : cs.size = 4)
    (hd : a.defers = []) (hR : R (.returned (.agg cs)) w) : bodyPost Try.prog fn R .ret a w :=
  bodyPost_ret (results_cell_row h a.tmps w g t cs fr _ hp hg Try.underlying45 rfl (by rw [infotok4, hs])) hd hR
theorem rew_stop {rs : List Rl} {us : List Int} {K : Nat} {acc ts : List Tk} (hf : acc ++ rewA rs K (us.drop K) = ts) (hK : us.length ≤ K) : ts = acc := by
  rw [List.drop_of_length_le hK, rewA_nil] at hf
  simpa using hf.symm
theorem rew_next {rs : List Rl} {us o : List Int} {K m : Nat} {s e : Int} {acc ts : List Tk} (hf : acc ++ rewA rs K (us.drop K) = ts) (hK : K < us.length) (hs : stepT rs (us.drop K) = (s, e, o)) (hp : StepP (us.drop K) s e o) (hm : s = m) : acc ++ [⟨(K : Int), s, o, e⟩] ++ rewA rs ((K + m : Nat) : Int) (us.drop (K + m)) = ts := by
  rw [← hf, rewA_cons (us := us.drop K) (by intro e; rw [List.drop_eq_nil_iff] at e; omega) hs hp.lo, List.drop_drop]
  rw [show ((K + m : Nat) : Int) = (K : Int) + s from by omega, show s.toNat = m from by omega]
  simp

end Go.Proofs.Ytikbmagolgcbfaa
namespace Go.Proofs.Ytikbmagolgcbfaa
set_option linter.unusedVariables false
open Go.RowKit
set_option maxHeartbeats 3200000 in
theorem lall_any (N : Nat) (A0 : Option Addr) (c0 : Nat) (rs : List Rl) (B : Nat) (w : World) (h : RsAt w B A0 N c0 rs) (hg : Good rs) (hB : B ≤ w.heap.size) (n : Nat) (A : Option Addr) (c : Nat) (us : List Int) (B' : Nat) (hn : n = us.length) (hr : Rd w B' A (us.map (Value.int .i64))) (hB' : B' ≤ w.heap.size) (hnc : n ≤ c) (hc : c ≤ maxLen) (hl : n ≤ 1048576) (ts : List Tk) (hv : rewA rs 0 us = ts) :
    Calls Try.prog 16 #[.slice A0 N c0, .slice A n c] w fun en w' => ∃ v, en = .returned v ∧ OwnTk w.heap.size w' v ts ∧ Below w.heap.size w w' := by
  obtain ⟨i0, hi, hz0, HZ1, hz2⟩ := info_parts infotok
  have hc01 := h.fits
  have hc02 := h.small
  have H := Lib.hid h
  have HG := Lib.hid hg
  have HN := Lib.hid hn
  have HR := Lib.hid hr
  have HV := Lib.hid hv
  unfold maxLen at hc hc02
  clear h hg hn hr hv
  go_enter Try.func16, Try.ntmps16
  go_wp2
  go_loopw [5, 6] (fun v i wr => ∃ (K : Nat) (acc : List Tk), K ≤ n ∧ i = .int .i64 K ∧ Hid (OwnTk w.heap.size wr v acc) ∧ acc.length ≤ K ∧ Hid (acc ++ rewA rs K (us.drop K) = ts) ∧ Below w.heap.size w wr) (fun _ i _ => n - (intOf i).toNat)
  case atStart => exact ⟨0, [], by omega, rfl, OwnTk.nil _ _, by simp, HV.out, Below.refl _ _⟩
  case round =>
    obtain ⟨K, acc, hK, rfl, ho, hacc, hf, hb⟩ := hrel
    have hs := hb.size
    by_cases hKn : K = n
    · have hK' : ¬ K < n := by omega
      have HE := Lib.hid (rew_stop hf.out (by rw [← HN.out, hKn]; omega))
      clear hKn
      go_wp2
      go_ret
      exact ⟨_, rfl, by rw [HE.out]; exact ho.out, hb⟩
    have hK' : K < n := by omega
    have hK1 : K < us.length := by rw [← HN.out]; exact hK'
    have hne : us.drop K ≠ [] := by intro e; rw [List.drop_eq_nil_iff] at e; omega
    obtain ⟨k, l, op, hlo, _⟩ := HG.out.long (us.drop K)
    have HLO := Lib.hid hlo
    have HNE := Lib.hid hne
    obtain ⟨A3, c3, rfl, hat⟩ := ho.out.form
    have hat2 := hat.fits
    have hat3 := hat.small
    unfold maxLen at hat3
    have k3 : (0 : Int) ≤ K := by omega
    have k4 : (K : Int) ≤ n := by omega
    have hrd := Rd.drop (k := K) (cap := c) (HR.out.below (hb.mono hB') (Nat.le_refl _)) (n := n) (by simp; exact HN.out) (by omega) hnc
    rw [← List.map_drop] at hrd
    have hcapK : ¬ c = K := by omega
    rw [if_neg hcapK] at hrd
    have HRD := Lib.hid hrd
    clear hKn hlo hne hat hrd
    go_wp2_with fail
    refine (llongest_any N (n - K) A0 _ c0 (c - K) rs (us.drop K) B B' wr (H.out.below (hb.mono hB) (Nat.le_refl _)) (by rw [List.length_drop, HN.out]) HRD.out (by omega) (by unfold maxLen; omega) (by omega) (by omega) k l op HLO.out).mono ?_
    rintro en w1 ⟨rfl, hb1⟩
    have hs1 := hb1.size
    have hbl := hb.trans (hb1.mono hs)
    obtain ⟨xs, hown, hx⟩ := ho.out.below hb1 (Nat.le_refl _)
    have hlow : ∀ x, (Value.slice A3 acc.length c3).ownBlock = some x → w.heap.size ≤ x ∧ x < wr.heap.size := fun x hx => ⟨(hown.lt x hx).1, own_lt (ho.out.choose_spec.1) hx⟩
    have HLOW := Lib.hid hlow
    have HX := Lib.hid hx
    have hbA : ∀ o1, Below w1.heap.size w1 (w1.alloc o1) := fun o1 => ((Below.refl _ _).alloc (Nat.le_refl _) _)
    have HBA := Lib.hid hbA
    clear hx hlow hbA
    by_cases hk : k < 0
    · have hst := HG.out.stepN HLO.out hk
      obtain ⟨s', e', o', hst', hp⟩ := HG.out.stepP HNE.out
      obtain ⟨rfl, rfl, rfl⟩ : s' = 1 ∧ e' = 3 ∧ o' = [] := by rw [hst] at hst'; simpa [eq_comm] using hst'
      have HE := Lib.hid (rew_next (m := 1) hf.out hK1 hst hp rfl)
      have hd : decide (k < 0) = true := by simpa using hk
      clear hst hst' hp hk
      go_wp2_with (at_builtin; refine wpList_appB _ rfl _ _ 35 rfl w.heap.size 45 i0 _ 4 48 Try.underlying35 hi hz0 HZ1 hz2 rfl (by decide) _ _ _ rfl (hown.alloc _) (w1.heap.size + 1) _ 1 1 [.int .i64 K, .int .i64 1, .slice none 0 0, .int .i64 3] rfl rfl ?c1 ?c2 ?c3 ?c4 ?c5 ?_)
      case c1 => exact Rd_newR _ _ _ _ rfl
      case c2 => intro u hu; simp at hu; rcases hu with rfl | rfl | rfl | rfl <;> rfl
      case c3 => simp only [maxLen]; omega
      case c4 => omega
      case c5 => simp; omega
      intro v' w4 hown4 hg4 hv4
      have hpush : OwnTk w.heap.size w4 v' (acc ++ [⟨K, 1, [], 3⟩]) := by
        refine tok_push (v := .slice A3 acc.length c3) (xs := xs) (by simpa using hown4) (HX.out.step (HBA.out _).size fun b hb hx => ⟨hx, (HBA.out _).block b hb⟩) ?_ hg4 (by simpa using hv4)
        exact ⟨none, 0, rfl, by simp, by simp [maxLen], .inl rfl⟩
      have hbE : Below w.heap.size w w4 := below_own (hbl.trans ((HBA.out _).mono (by omega))) hg4 (hown.alloc _) (Nat.le_refl _) (by simp; omega)
      have HP := Lib.hid hpush
      clear hown4 hpush hg4 hv4
      go_wp2
      go_roundw
      case rel => exact ⟨K + 1, _, by omega, by go_num, HP, by simp; omega, HE, hbE⟩
      case measure => simp [intOf]; omega
    · rcases HG.out.step HLO.out with ⟨h1, _⟩ | ⟨q, h1, h2, h3, h4, J, h5, hJ, h6, h7⟩
      · exact absurd h1 hk
      obtain ⟨s', e', o', hst', hp⟩ := HG.out.stepP HNE.out
      obtain ⟨rfl, rfl, rfl⟩ : s' = l ∧ e' = 0 ∧ o' = rs[J].2 := by rw [h7] at hst'; simpa [eq_comm] using hst'
      have HE := Lib.hid (rew_next (m := q) hf.out hK1 hst' hp h1)
      have hJN : J < N := by rw [H.out.len]; exact hJ
      obtain ⟨b, of, rfl, hbB, A1, n1, c1, A2, n2, c2, g1, g2, e1, e2, e3, e4, f1, f2, f3, f4⟩ := H.out.at hJ
      have m2 := (hbl.cell (p := ⟨b, of + J * 2 + 1, none⟩) (by show b < _; omega)).trans g2
      have hd : decide ((J : Int) < 0) = false := by simp
      have k5 : (0 : Int) ≤ J := by omega
      have k6 : (J : Int) < N := by omega
      have hu : Us (fun b => (Value.slice A3 acc.length c3).ownBlock ≠ some b) w1 (.slice A2 n2 c2) rs[J].2 := (us_at f1 f2 f3 (f4.below (hbl.mono hB) (Nat.le_refl _))).step (Nat.le_refl _) fun b _ hx => ⟨fun e => by have := (HLOW.out _ e).1; have : b < B := hx; omega, rfl⟩
      have HU := Lib.hid hu
      rw [List.length_drop, ← HN.out] at h3
      obtain ⟨out, hout⟩ : ∃ out, out = rs[J].2 := ⟨_, rfl⟩
      rw [← hout] at HE HU
      subst h5 h1
      clear hk h6 h7 hst' hp g1 g2 e1 e4 f1 f4 hu hJ hout hb1
      go_wp2_with (at_builtin; refine wpList_appB _ rfl _ _ 35 rfl w.heap.size 45 i0 _ 4 48 Try.underlying35 hi hz0 HZ1 hz2 rfl (by decide) _ _ _ rfl (hown.alloc _) (w1.heap.size + 1) _ 1 1 [.int .i64 K, .int .i64 q, .slice A2 n2 c2, .int .i64 0] rfl rfl ?c1 ?c2 ?c3 ?c4 ?c5 ?_)
      case c1 => exact Rd_newR _ _ _ _ rfl
      case c2 => intro u hu; simp at hu; rcases hu with rfl | rfl | rfl | rfl <;> rfl
      case c3 => simp only [maxLen]; omega
      case c4 => omega
      case c5 => simp; omega
      intro v' w4 hown4 hg4 hv4
      have hpush : OwnTk w.heap.size w4 v' (acc ++ [⟨K, q, out, 0⟩]) := by
        refine tok_push (v := .slice A3 acc.length c3) (xs := xs) (by simpa using hown4) (HX.out.step (HBA.out _).size fun b hb hx => ⟨hx, (HBA.out _).block b hb⟩) ?_ hg4 (by simpa using hv4)
        exact HU.out.step (HBA.out _).size fun b hb hx => ⟨hx, (HBA.out _).block b hb⟩
      have hbE : Below w.heap.size w w4 := below_own (hbl.trans ((HBA.out _).mono (by omega))) hg4 (hown.alloc _) (Nat.le_refl _) (by simp; omega)
      have HP := Lib.hid hpush
      clear hown4 hpush hg4 hv4
      go_wp2
      go_roundw
      case rel => exact ⟨K + q, _, by omega, by go_num, HP, by simp; omega, HE, hbE⟩
      case measure => simp [intOf]; omega
end Go.Proofs.Ytikbmagolgcbfaa
namespace Go.Proofs.Ytikbmagolgcbfaa
set_option linter.unusedVariables false
set_option linter.unusedSimpArgs false
set_option linter.unnecessarySimpa false
open Go.RowKit
/-- are all the beginnings of one In there? -/
def okR (rs : List (List Int × List Int)) (r : List Int × List Int) : Bool := (List.range r.1.length).all fun n => decide (n = 0) || closeAt rs r n
theorem closedR_eq (rs : List (List Int × List Int)) : closedR rs = rs.all (okR rs) := rfl
theorem okR_yes {rs : List (List Int × List Int)} {r : List Int × List Int} (h : ∀ m, 1 ≤ m → m < r.1.length → closeAt rs r m = true) : okR rs r = true := by
  refine List.all_eq_true.2 fun m hm => ?_
  have := List.mem_range.1 hm
  by_cases h0 : m = 0
  · simp [h0]
  · simp [h m (by omega) this]
theorem okR_no {rs : List (List Int × List Int)} {r : List Int × List Int} {m : Nat} (h1 : 1 ≤ m) (h2 : m < r.1.length) (h : closeAt rs r m = false) : okR rs r = false := by
  rw [Bool.eq_false_iff]; intro hk
  have := List.all_eq_true.1 hk m (List.mem_range.2 h2)
  rw [h] at this
  simp at this
  omega
theorem closedR_no {rs : List (List Int × List Int)} {K : Nat} (hK : K < rs.length) (h : okR rs rs[K] = false) : closedR rs = false := by
  rw [Bool.eq_false_iff]; intro hk
  have := List.all_eq_true.1 hk _ (List.getElem_mem hK)
  have h' : okR rs rs[K] = true := this
  rw [h] at h'; cases h'
theorem closedR_yes {rs : List (List Int × List Int)} (h : ∀ r ∈ rs, okR rs r = true) : closedR rs = true := List.all_eq_true.2 h
def isT (u : List Int) (x : List Int × List Int) : Bool := decide (x.1 = u)
def endsT (u : Int) (x : List Int × List Int) : Bool := decide (x.1.getD (x.1.length - 1) 0 = u)
theorem any_take {rs : List (List Int × List Int)} {p : List Int × List Int → Bool} {I : Nat} (hI : I < rs.length) : (rs.take (I + 1)).any p = ((rs.take I).any p || p rs[I]) := by
  rw [List.take_succ_eq_append_getElem hI, List.any_append]; simp
theorem closeAt_eq (rs : List (List Int × List Int)) (r : List Int × List Int) (n : Nat) : closeAt rs r n = (rs.any (isT (r.1.take n)) || (decide (n = 1) && !rs.any (endsT (r.1.getD 0 0)))) := rfl

set_option maxRecDepth 100000 in
set_option maxHeartbeats 12800000 in
theorem lclosed_any (n : Nat) (A : Option Addr) (c : Nat) (rs : List Rl) (B : Nat) (w : World) (hr : RsAt w B A n c rs) (hB : B ≤ w.heap.size) (hs : ∀ r ∈ rs, 1 ≤ r.1.length) (v : Bool) (hv : closedR rs = v) :
    Calls Try.prog 26 #[.slice A n c] w fun e w' => e = .returned (.bool v) ∧ Below w.heap.size w w' := by
  have HR := Lib.hid hr
  have HV := Lib.hid hv
  have HS := Lib.hid hs
  have hn1 := hr.fits
  have hn2 := hr.small
  unfold maxLen at hn2
  clear hr hv hs
  go_enter Try.func26, Try.ntmps26
  go_wp2
  go_loopw [12] (fun i wr => ∃ K : Nat, K ≤ n ∧ i = .int .i64 K ∧ Hid (Below w.heap.size w wr) ∧ Hid (∀ r ∈ rs.take K, okR rs r = true)) (fun i _ => n - (intOf i).toNat)
  case atStart => exact ⟨0, by omega, rfl, Lib.hid (Below.refl _ _), Lib.hid (by simp)⟩
  case round =>
    obtain ⟨K, hK, rfl, hb, hf⟩ := hrel
    by_cases hKn : K = n
    · have hK' : ¬ K < n := by omega
      have HE := Lib.hid (show v = true by
        rw [← HV.out]
        refine closedR_yes fun r hr => hf.out r ?_
        rw [List.take_of_length_le (by rw [← HR.out.len, hKn]; omega)]; exact hr)
      clear hKn hf
      go_wp2
      go_ret
      exact ⟨ret_bool HE.out, hb.out⟩
    have hK' : K < n := by omega
    have hK1 : K < rs.length := by rw [← HR.out.len]; exact hK'
    obtain ⟨b, of2, rfl, hbB, A3, n3, c3, A4, n4, c4, g1, g2, e1, e2, e3, e4, f1, f2, f3, f4⟩ := HR.out.at hK1
    have k1 := (hb.out.cell (p := ⟨b, of2 + K * 2, none⟩) (by show b < _; omega)).trans g1
    have k2 := (hb.out.cell (p := ⟨b, of2 + K * 2 + 1, none⟩) (by show b < _; omega)).trans g2
    have k3 : (0 : Int) ≤ K := by omega
    have k4 : (K : Int) < n := by omega
    obtain ⟨In, hIn⟩ : ∃ In, In = rs[K].1 := ⟨_, rfl⟩
    have hsd := HS.out _ (List.getElem_mem hK1)
    rw [← hIn] at e1 e4 hsd
    have hba : Below wr.heap.size wr (wr.alloc (.cells #[.slice A3 n3 c3, .slice A4 n4 c4] 54)) := (Below.refl _ _).alloc (Nat.le_refl _) _
    have E1 := Lib.hid e1
    have HIn := Lib.hid hIn
    have HSD := Lib.hid hsd
    have HB1 := Lib.hid (hb.out.trans (hba.mono hb.out.size))
    have E4 := Lib.hid (e4.below (HB1.out.mono hB) (Nat.le_refl _))
    have q0 : (wr.alloc (.cells #[.slice A3 n3 c3, .slice A4 n4 c4] 54)).cell? ⟨wr.heap.size, 0, none⟩ = some (.slice A3 n3 c3) := World.cell?_alloc_new (w := wr) _ _ 0
    have hsz1 : wr.heap.size < (wr.alloc (.cells #[.slice A3 n3 c3, .slice A4 n4 c4] 54)).heap.size := by simp
    unfold maxLen at e3 f3
    clear g1 g2 e1 e4 f1 f4 hIn hsd hba hKn hb
    go_wp2_with fail
    clear k1 k2
    obtain ⟨W1, hW1⟩ : ∃ W1, wr.alloc (.cells #[.slice A3 n3 c3, .slice A4 n4 c4] 54) = W1 := ⟨_, rfl⟩
    obtain ⟨p4, hp4⟩ : ∃ p4, wr.heap.size = p4 := ⟨_, rfl⟩
    rw [hW1] at HB1 E4 q0 hsz1 ⊢
    rw [hp4] at q0 hsz1 ⊢
    have Q0 := Lib.hid q0
    clear hW1 hp4 q0
    go_loopw [5] (fun i w2 => ∃ J : Nat, 1 ≤ J ∧ J ≤ n3 ∧ i = .int .i64 J ∧ Hid (Below W1.heap.size W1 w2) ∧ Hid (∀ m, 1 ≤ m → m < J → closeAt rs rs[K] m = true)) (fun i _ => n3 - (intOf i).toNat)
    case atStart => exact ⟨1, by omega, by have := HSD.out; have := E1.out; omega, rfl, Lib.hid (Below.refl _ _), Lib.hid (fun m h1 h2 => by omega)⟩
    case round =>
      obtain ⟨J, hJ1, hJ, rfl, hb, hc⟩ := hrel
      have hsz2 := hb.out.size
      have q1 := (hb.out.cell (p := ⟨p4, 0, none⟩) (show p4 < W1.heap.size from hsz1)).trans Q0.out
      have j3 : (0 : Int) ≤ J := by omega
      by_cases hJn : J = n3
      · have hJ' : ¬ J < n3 := by omega
        have HF : Hid (∀ r ∈ rs.take (K + 1), okR rs r = true) := by
          intro r hr
          rw [List.take_succ_eq_append_getElem hK1] at hr
          rcases List.mem_append.1 hr with hr | hr
          · exact hf.out r hr
          · obtain rfl : r = rs[K] := by simpa using hr
            refine okR_yes fun m h1 h2 => hc.out m h1 ?_
            rw [← HIn.out, ← E1.out] at h2
            omega
        have HB3 := Lib.hid (HB1.out.trans (hb.out.mono HB1.out.size))
        clear hJn hc hb
        go_wp2
        go_roundw
        case rel => exact ⟨K + 1, by omega, by go_num, HB3, HF⟩
        case measure => simp [intOf]; omega
      have hJ' : J < n3 := by omega
      have j4 : (J : Int) < n3 := by omega
      go_wp2_with fail
      obtain ⟨w2, rfl⟩ : ∃ w2 : World, w2 = wr := ⟨_, rfl⟩
      obtain ⟨u0, hu0⟩ : ∃ u, In.getD 0 0 = u := ⟨_, rfl⟩
      have HU0 := Lib.hid hu0
      clear hu0 q1
      go_loopw [6, 7, 25] (fun s6 s7 i w3 => ∃ I : Nat, I ≤ n ∧ i = .int .i64 I ∧ Hid (Below W1.heap.size W1 w3) ∧ s6 = .bool ((rs.take I).any (isT (In.take J))) ∧ s7 = .bool ((rs.take I).any (endsT u0))) (fun _ _ i _ => n - (intOf i).toNat)
      case atStart => exact ⟨0, by omega, rfl, hb, rfl, rfl⟩
      case round =>
        clear hb hsz2
        obtain ⟨I, hI, rfl, hb, rfl, rfl⟩ := hrel
        have hsz2 := hb.out.size
        have q1 := (hb.out.cell (p := ⟨p4, 0, none⟩) (show p4 < W1.heap.size from hsz1)).trans Q0.out
        obtain ⟨x6, hx6⟩ : ∃ x, (rs.take I).any (isT (In.take J)) = x := ⟨_, rfl⟩
        obtain ⟨x7, hx7⟩ : ∃ x, (rs.take I).any (endsT u0) = x := ⟨_, rfl⟩
        rw [hx6, hx7]
        have HX6 := Lib.hid hx6
        have HX7 := Lib.hid hx7
        clear hx6 hx7
        by_cases hIn' : I = n
        · have hI' : ¬ I < n := by omega
          have hall : rs.take I = rs := List.take_of_length_le (by rw [← HR.out.len, hIn']; omega)
          have HC : Hid (closeAt rs rs[K] J = (x6 || (decide (J = 1) && !x7))) := by
            show closeAt rs rs[K] J = _
            rw [closeAt_eq, ← HIn.out, HU0.out, ← HX6.out, ← HX7.out, hall]
          have HB3 := Lib.hid (HB1.out.trans (hb.out.mono HB1.out.size))
          have HNO : Hid (closeAt rs rs[K] J = false → v = false) := fun h => by
            rw [← HV.out]
            exact closedR_no hK1 (okR_no hJ1 (by rw [← HIn.out, ← E1.out]; exact hJ') h)
          have HYES : Hid (closeAt rs rs[K] J = true → ∀ m, 1 ≤ m → m < J + 1 → closeAt rs rs[K] m = true) := fun h m h1 h2 => by
            rcases Nat.lt_or_ge m J with h3 | h3
            · exact hc.out m h1 h3
            · obtain rfl : m = J := by omega
              exact h
          clear hIn' hall
          cases x6 with
          | true =>
            have HY := Lib.hid (HYES.out (by rw [HC.out]; rfl))
            go_wp2
            go_roundw
            case rel => exact ⟨J + 1, by omega, by omega, by go_num, hb, HY⟩
            case measure => simp [intOf]; omega
          | false =>
            by_cases hJ2 : J = 1
            · subst hJ2
              cases x7 with
              | true =>
                have HN := Lib.hid (HNO.out (by rw [HC.out]; rfl))
                go_wp2
                go_ret
                exact ⟨ret_bool HN.out, HB3.out⟩
              | false =>
                have HY := Lib.hid (HYES.out (by rw [HC.out]; rfl))
                go_wp2
                go_roundw
                case rel => exact ⟨1 + 1, by omega, by omega, by go_num, hb, HY⟩
                case measure => simp [intOf]; omega
            · have HN := Lib.hid (HNO.out (by rw [HC.out, decide_eq_false hJ2]; rfl))
              have d1 : decide ((J : Int) > 1) = true := by simp; omega
              have d1' : decide (1 < J) = true := by simp; omega
              go_wp2
              go_ret
              exact ⟨ret_bool HN.out, HB3.out⟩
        have hI' : I < n := by omega
        have hI1 : I < rs.length := by rw [← HR.out.len]; exact hI'
        have i3 : (0 : Int) ≤ I := by omega
        have i4 : (I : Int) < n := by omega
        have HBw := Lib.hid (HB1.out.trans (hb.out.mono HB1.out.size))
        obtain ⟨b', of3, hA, hbB', A5, n5, c5, A6, n6, c6, g1, g2, e1, e2', e3', e4, f1', f2', f3', f4'⟩ := HR.out.at hI1
        obtain ⟨rfl, rfl⟩ : b = b' ∧ of2 = of3 := by simpa using hA
        have k1 := (HBw.out.cell (p := ⟨b, of2 + I * 2, none⟩) (by show b < _; omega)).trans g1
        have k2 := (HBw.out.cell (p := ⟨b, of2 + I * 2 + 1, none⟩) (by show b < _; omega)).trans g2
        have hsx := HS.out _ (List.getElem_mem hI1)
        have hp6 := any_take (p := isT (In.take J)) hI1
        have hp7 := any_take (p := endsT u0) hI1
        rw [HX6.out] at hp6
        rw [HX7.out] at hp7
        obtain ⟨Xn, hXn⟩ : ∃ X, X = rs[I].1 := ⟨_, rfl⟩
        have hb1 : isT (In.take J) rs[I] = eqB Xn (In.take J) := by unfold isT eqB; rw [hXn]
        have hb2 : endsT u0 rs[I] = (Xn.getD (n5 - 1) 0 == u0) := by
          unfold endsT
          rw [e1, hXn]
          rfl
        rw [← hXn] at e1 e4 hsx
        rw [hb1] at hp6
        rw [hb2] at hp7
        obtain ⟨l, hl⟩ : ∃ l, Xn.getD (n5 - 1) 0 = l := ⟨_, rfl⟩
        rw [hl] at hp7
        obtain ⟨x1, hx1⟩ : ∃ x, eqB Xn (In.take J) = x := ⟨_, rfl⟩
        obtain ⟨x2, hx2⟩ : ∃ x, (l == u0) = x := ⟨_, rfl⟩
        rw [hx1] at hp6
        rw [hx2] at hp7
        have HP6 := Lib.hid hp6
        have HP7 := Lib.hid hp7
        have HX1 := Lib.hid hx1
        have F1 := Lib.hid e1
        have hn5 : 1 ≤ n5 := by omega
        obtain ⟨L, hL⟩ : ∃ L : Nat, (n5 : Int) - 1 = (L : Int) := ⟨n5 - 1, by omega⟩
        have hL0 : (0 : Int) ≤ L := by omega
        have hL1 : (L : Int) < n5 := by omega
        have hba : Below wr.heap.size wr (wr.alloc (.cells #[.slice A5 n5 c5, .slice A6 n6 c6] 54)) := (Below.refl _ _).alloc (Nat.le_refl _) _
        have HBA := Lib.hid hba
        have HBx := Lib.hid (HBw.out.trans (hba.mono HBw.out.size))
        have HB1x := Lib.hid (hb.out.trans (hba.mono hsz2))
        have hx4 := e4.below (HBx.out.mono hB) (Nat.le_refl _)
        have hi4 := E4.out.below (HB1x.out.mono (show B ≤ W1.heap.size by have := HB1.out.size; omega)) (Nat.le_refl _)
        have q2 : (wr.alloc (.cells #[.slice A5 n5 c5, .slice A6 n6 c6] 54)).cell? ⟨p4, 0, none⟩ = some (.slice A3 n3 c3) := (hba.cell (p := ⟨p4, 0, none⟩) (show p4 < wr.heap.size by omega)).trans q1
        have q3 : (wr.alloc (.cells #[.slice A5 n5 c5, .slice A6 n6 c6] 54)).cell? ⟨wr.heap.size, 0, none⟩ = some (.slice A5 n5 c5) := World.cell?_alloc_new (w := wr) _ _ 0
        have X4 := Lib.hid hx4
        have I4 := Lib.hid hi4
        obtain ⟨b5, o5, rfl, -, hc5⟩ := rd_ints hx4 (by rw [← e1]; omega)
        obtain ⟨b3, o3, rfl, -, hc3⟩ := rd_ints hi4 (by have := HSD.out; omega)
        have r5 := hc5 (n5 - 1) (by rw [← e1]; omega)
        have r3 := hc3 0 (by have := HSD.out; omega)
        rw [hl, show n5 - 1 = L by omega] at r5
        rw [HU0.out] at r3
        have r3' := r3
        rw [Nat.add_zero] at r3'
        have hwL : IntKind.i64.wrap (L : Int) = L := by rw [IntKind.wrap_i64]; unfold maxLen at e3'; omega
        have hn30 : (0 : Int) < n3 := by omega
        have M5 : Hid (n5 ≤ 9223372036854775807) := by unfold maxLen at e3'; exact (show n5 ≤ 9223372036854775807 by omega)
        have HTL : Hid (J = (In.take J).length) := by show J = _; rw [List.length_take, ← E1.out]; omega
        have j5 : J ≤ c3 := by omega
        unfold maxLen at e3' f3'
        clear g1 g2 hA hXn hb1 hb2 hp6 hp7 hl hx1 hsx e1 e4 hx4 hi4 hc5 hc3 hba f1' f4'
        have HXD : Hid (∀ q, Below w.heap.size w ((wr.alloc (.cells #[.slice (some ⟨b5, o5, none⟩) n5 c5, .slice A6 n6 c6] 54)).drewN q)) := fun q => below_dr HBx.out q
        have HXD' : Hid (∀ q, Below W1.heap.size W1 ((wr.alloc (.cells #[.slice (some ⟨b5, o5, none⟩) n5 c5, .slice A6 n6 c6] 54)).drewN q)) := fun q => below_dr HB1x.out q
        cases x6 with
        | true =>
          cases x7 with
          | true =>
            go_wp2_with fail
            go_quiet (fail)
            go_wp2_with fail
            go_quiet (fail)
            go_wp2
            go_roundw
            case rel => exact ⟨I + 1, by omega, by go_num, Lib.hid (HXD'.out _), by rw [HP6.out]; rfl, by rw [HP7.out]; rfl⟩
            case measure => simp [intOf]; omega
          | false =>
            go_wp2_with fail
            go_quiet (fail)
            go_wp2_with fail
            go_quiet (fail)
            go_wp2
            go_roundw
            case rel => exact ⟨I + 1, by omega, by go_num, Lib.hid (HXD'.out _), by rw [HP6.out]; rfl, by rw [HP7.out]; rfl⟩
            case measure => simp [intOf]; omega
        | false =>
          cases x7 with
          | true =>
            go_wp2_with fail
            go_quiet ((go_at_call_of 24 (Value.slice (some ⟨b5, o5, none⟩) n5 c5); exact Calls.quiet_of (units_v n5 J _ _ c5 c3 Xn (In.take J) _ _ _ x1 HX1.out F1.out HTL.out (X4.out.below (below_dr (Below.refl _ _) _) (Nat.le_refl _)) (rd_tk J (I4.out.below (below_dr (Below.refl _ _) _) (Nat.le_refl _))) M5.out)))
            go_wp2_with fail
            go_quiet (fail)
            go_wp2
            go_roundw
            case rel => exact ⟨I + 1, by omega, by go_num, Lib.hid (HXD'.out _), by rw [HP6.out]; rfl, by rw [HP7.out]; rfl⟩
            case measure => simp [intOf]; omega
          | false =>
            go_wp2_with fail
            go_quiet ((go_at_call_of 24 (Value.slice (some ⟨b5, o5, none⟩) n5 c5); exact Calls.quiet_of (units_v n5 J _ _ c5 c3 Xn (In.take J) _ _ _ x1 HX1.out F1.out HTL.out (X4.out.below (below_dr (Below.refl _ _) _) (Nat.le_refl _)) (rd_tk J (I4.out.below (below_dr (Below.refl _ _) _) (Nat.le_refl _))) M5.out)))
            go_wp2_with fail
            go_quiet (fail)
            go_wp2
            go_roundw
            case rel => exact ⟨I + 1, by omega, by go_num, Lib.hid (HXD'.out _), by rw [HP6.out]; rfl, by rw [HP7.out]; rfl⟩
            case measure => simp [intOf]; omega
end Go.Proofs.Ytikbmagolgcbfaa
namespace Go.Proofs.Ytikbmagolgcbfaa
set_option linter.unusedVariables false
open Go.RowKit
theorem TkAt.drewN {w : World} {B : Nat} {A : Option Addr} {n c : Nat} {ts : List Tk} (h : TkAt w B A n c ts) (m : Nat) : TkAt (w.drewN m) B A n c ts := h.below (below_drewN (B := B) (w := w) m) (Nat.le_refl _)
set_option maxHeartbeats 1600000 in
theorem same_tk (n : Nat) (A A' : Option Addr) (c c' : Nat) (ts : List Tk) (B B' : Nat) (w : World) (hr : TkAt w B A n c ts) (hr' : TkAt w B' A' n c' ts) :
    Calls Try.prog 13 #[.slice A n c, .slice A' n c'] w fun e w' => e = .returned (.bool true) ∧ ∃ m, w' = w.drewN m := by
  have hn := hr.len
  have hc1 := hr.fits
  have hc2 := hr.small
  unfold maxLen at hc2
  have HN := Lib.hid hn
  have HR := Lib.hid hr
  have HR' := Lib.hid hr'
  clear hr hr' hn
  go_enter Try.func13, Try.ntmps13
  go_wp2
  go_loopw [13] (fun i wr => ∃ K m : Nat, K ≤ n ∧ i = .int .i64 K ∧ Hid (wr = w.drewN m)) (fun i _ => n - (intOf i).toNat)
  case atStart => exact ⟨0, 0, by omega, rfl, rfl⟩
  case round =>
    obtain ⟨K, m, hK, rfl, HW⟩ := hrel
    by_cases hKl : K = n
    · have hKl' : ¬ K < n := by omega
      clear hKl
      go_wp2
      go_ret
      exact ⟨rfl, m, HW.out⟩
    have hKl' : K < n := by omega
    have hK1 : K < ts.length := by rw [← HN.out]; exact hKl'
    obtain ⟨b, o, rfl, hb, A1, n1, c1, k1, k2, k3, k4, l1, _, hm1, hr1⟩ := TkAt.at (w := wr) (by rw [HW.out]; exact HR.out.drewN m) hK1
    obtain ⟨b', o', rfl, hb', A2, n2, c2, q1, q2, q3, q4, l2, _, hm2, hr2⟩ := TkAt.at (w := wr) (by rw [HW.out]; exact HR'.out.drewN m) hK1
    obtain ⟨P, hP⟩ : ∃ x, x = ts[K].pos := ⟨_, rfl⟩
    obtain ⟨S, hS⟩ : ∃ x, x = ts[K].size := ⟨_, rfl⟩
    obtain ⟨E, hE⟩ : ∃ x, x = ts[K].err := ⟨_, rfl⟩
    obtain ⟨O, hO⟩ : ∃ x, x = ts[K].out := ⟨_, rfl⟩
    rw [← hP] at k1 q1
    rw [← hS] at k2 q2
    rw [← hE] at k4 q4
    rw [← hO] at l1 l2 hr1 hr2
    have l3 : n2 = n1 := by rw [l1, l2]
    subst l3
    have HR1 := Lib.hid hr1
    have HR2 := Lib.hid hr2
    have L1 := Lib.hid l1
    have L2 : Hid (n2 ≤ 9223372036854775807) := by unfold maxLen at hm1; exact (show n2 ≤ 9223372036854775807 by omega)
    clear hP hS hE hO hr1 hr2 l1 l2 hm1 hm2
    have e1 : (P != P) = false := by simp
    have e2 : (S != S) = false := by simp
    have e3 : (E != E) = false := by simp
    have e4 : (0 : Int) ≤ K := by omega
    have e5 : (K : Int) < n := by omega
    have HQ := Lib.hid (show eqB O O = true by simp [eqB])
    go_wp2_with fail
    go_quiet ((go_at_call 24; exact Calls.quiet_of (units_v n2 n2 _ _ _ _ O O B B' _ true HQ.out L1.out L1.out (HR1.out.below (below_drewN (B := B) _) (Nat.le_refl _)) (HR2.out.below (below_drewN (B := B') _) (Nat.le_refl _)) L2.out)))
    go_wp2
    go_roundw
    case rel => exact ⟨K + 1, _, by omega, by go_num, by rw [HW.out, World.drewN_drewN]; rfl⟩
    case measure => simp [intOf]; omega
theorem same_below (n : Nat) (A A' : Option Addr) (c c' : Nat) (ts : List Tk) (B B' : Nat) (w : World) (hr : TkAt w B A n c ts) (hr' : TkAt w B' A' n c' ts) :
    Calls Try.prog 13 #[.slice A n c, .slice A' n c'] w fun e w' => e = .returned (.bool true) ∧ Below w.heap.size w w' :=
  (same_tk n A A' c c' ts B B' w hr hr').mono fun e w' ⟨h, m, hm⟩ => ⟨h, by rw [hm]; exact below_drewN m⟩
end Go.Proofs.Ytikbmagolgcbfaa
namespace Go.Proofs.Ytikbmagolgcbfaa
set_option linter.unusedVariables false
theorem outsT_len : ∀ (ts : List Tk), (∀ t ∈ ts, t.out.length ≤ 8) → (outsT ts).length ≤ 8 * ts.length
  | [], _ => by simp [outsT]
  | t :: ts, h => by
    have := outsT_len ts fun x hx => h x (by simp [hx])
    have h0 := h t (by simp)
    show (t.out ++ outsT ts).length ≤ _
    rw [List.length_append, List.length_cons]; omega
theorem joinT_len {rs : List (List Int × List Int)} {ah : List Int} {t : Tk} (h : t.out.length ≤ 8) : (joinT rs ah t).out.length ≤ 8 := by
  unfold joinT; split
  · simp
  · exact h
theorem encF_out (rs : List (List Int × List Int)) : ∀ (ts : List Tk) (ah : List Int), (∀ t ∈ ts, t.out.length ≤ 8) → ∀ t ∈ encF rs ah ts, t.out.length ≤ 8
  | [], ah, _, t, h => by cases h
  | x :: ts, ah, hs, t, h => by
    simp only [encF, List.mem_cons] at h
    rcases h with rfl | h
    · exact joinT_len (hs x (by simp))
    · exact encF_out rs ts _ (fun y hy => hs y (by simp [hy])) t h
theorem encA_len {rs : List (List Int × List Int)} (ht : Good (turnR rs)) (us : List Int) : (encA rs us).length ≤ us.length := by
  unfold encA; rw [encF_len]; exact ht.rew_len us 0
theorem encA_out {rs : List (List Int × List Int)} (ht : Good (turnR rs)) (us : List Int) : ∀ t ∈ encA rs us, t.out.length ≤ 8 := encF_out rs _ _ fun t h => (ht.rew_tk us 0 t h).len
theorem rewA_out {rs : List (List Int × List Int)} (ht : Good rs) (us : List Int) (q : Int) : ∀ t ∈ rewA rs q us, t.out.length ≤ 8 := fun t h => (ht.rew_tk us q t h).len
theorem mem_takeS {ts : List Tk} {K : Nat} (hK : K < ts.length) {P : Tk → Prop} (h : ∀ t ∈ ts.take K, P t) (hk : P ts[K]) : ∀ t ∈ ts.take (K + 1), P t := by
  intro t ht
  rw [List.take_succ_eq_append_getElem hK] at ht
  rcases List.mem_append.1 ht with ht | ht
  · exact h t ht
  · obtain rfl : t = ts[K] := by simpa using ht
    exact hk
theorem somM_60 (zs : List Int) : (somM zs).length ≤ 60 := somM_len zs
end Go.Proofs.Ytikbmagolgcbfaa
