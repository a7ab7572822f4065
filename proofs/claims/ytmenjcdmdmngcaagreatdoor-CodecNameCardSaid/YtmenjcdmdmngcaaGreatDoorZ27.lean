/- Texts of this seat, one behind the other: TrieS, TrieK, TokR, TabE0, RewC, TrieL, TokSamel, RewA, RewBl. -/
import Derived.Test.YtmenjcdmdmngcaaGreatDoorZ26
import Derived.OwnWalk
import Derived.Test.YtmenjcdmdmngcaaGreatDoorZ8
import Derived.Test.YtmenjcdmdmngcaaGreatDoorZ3
import Derived.Test.YtmenjcdmdmngcaaGreatDoorZ6
namespace Go.Proofs.YtmenjcdmdmngcaaGreatDoor
set_option linter.unusedVariables false
open Go.RowKit
theorem ret_trip {a b a' b' : Int} {c c' : Bool} {k l : IntKind} (h : a = a' ∧ b = b' ∧ c = c') : Ending.returned (.tuple #[.int k a', .int l b', .bool c']) = .returned (.tuple #[.int k a, .int l b, .bool c]) := by rw [h.1, h.2.1, h.2.2]

set_option maxHeartbeats 1600000 in
theorem out_anyO (w : World) (B T O : Nat) (ns : List NodeM) (outs : List (List Int)) (h : TrAtO w B T O ns outs) (hB : B ≤ w.heap.size) (hl : ∀ o ∈ outs, o.length ≤ 17592186044416) (k : Int) (us : List Int) (hu : (if 0 ≤ k ∧ k < outs.length then outs.getD k.toNat [] else []) = us) :
    Calls Tryz.prog 105 #[.pointer (some ⟨T, O, none⟩), .int .i64 k] w fun e w' => ∃ A c, e = .returned (.slice A us.length c) ∧ Us (fun b => w.heap.size ≤ b) w' (.slice A us.length c) us ∧ Below w.heap.size w w' := by
  obtain ⟨A', c', h1, h2, h3, h4⟩ := h.outAt
  obtain ⟨N, hN⟩ : ∃ N, N = outs.length := ⟨_, rfl⟩
  have hNu : Us (fun b => w.heap.size ≤ b) w (.slice none 0 0) [] := ⟨none, 0, rfl, by simp, by simp [maxLen], .inl rfl⟩
  unfold maxLen at h3
  by_cases hk0 : 0 ≤ k
  · obtain ⟨K, rfl⟩ := Int.eq_ofNat_of_zero_le hk0
    by_cases hk1 : K < outs.length
    · have hget : outs[K]? = some us := by
        rw [← hu, if_pos (by omega)]
        simp [List.getD_eq_getElem?_getD, List.getElem?_eq_getElem hk1]
      obtain ⟨b, o, A1, c1, rfl, hb, g1, g2⟩ := h4 K us hget
      obtain ⟨r1, r2, r3, r4⟩ := g2.rd
      have hul := hl us (List.mem_of_getElem? hget)
      obtain ⟨M, hM⟩ : ∃ M, M = us.length := ⟨_, rfl⟩
      rw [← hM] at g1 r1 r2 hul ⊢
      rw [← hN] at h1 h2 hk1
      have HR := Lib.hid r4.rdB
      have HM := Lib.hid hM
      have k3 : (0 : Int) ≤ K := by omega
      have k4 : (K : Int) < N := by omega
      have hd : decide ((K : Int) < 0) = false := by simp
      have hd2 : decide ((K : Int) ≥ N) = false := by simp; omega
      unfold maxLen at r3
      clear h hu hget g2 r4 hM h4 hN r1 hNu hl
      go_enter Tryz.func105, Tryz.ntmps105
      go_wp2_with fail
      refine (clone_any M A1 c1 us B _ HM.out HR.out hB hul).mono ?_
      rintro e w1 ⟨A4, c4, rfl, hu4, hb1⟩
      have HU := Lib.hid hu4
      clear hu4
      go_wp2
      go_ret
      exact ⟨A4, c4, rfl, HU.out, hb1⟩
    · have hus : us = [] := by rw [← hu, if_neg (by omega)]
      subst hus
      rw [← hN] at h1 h2 hk1
      have hd : decide ((K : Int) < 0) = false := by simp
      have hd2 : decide ((K : Int) ≥ N) = true := by simp; omega
      have HNu := Lib.hid hNu
      clear h hu h4 hN hNu hl
      go_enter Tryz.func105, Tryz.ntmps105
      go_wp2
      go_ret
      exact ⟨none, 0, rfl, HNu.out, Below.refl _ _⟩
  · have hus : us = [] := by rw [← hu, if_neg (by omega)]
    subst hus
    have hd : decide (k < 0) = true := by simp; omega
    have HNu := Lib.hid hNu
    clear h hu h4 hN hNu hl
    go_enter Tryz.func105, Tryz.ntmps105
    go_wp2
    go_ret
    exact ⟨none, 0, rfl, HNu.out, Below.refl _ _⟩

set_option maxHeartbeats 3200000 in
theorem tlongest_anyO (w : World) (B T O : Nat) (rs : List Rl) (ns : List NodeM) (outs : List (List Int)) (h : TrAtO w B T O ns outs) (ht : TI (pathsR rs) ns (findR rs)) (hB : B ≤ w.heap.size) (hs : ∀ r ∈ rs, 1 ≤ r.1.length) (hP : (pathsR rs).length ≤ 5000)
    (n : Nat) (A : Option Addr) (c : Nat) (us : List Int) (B' : Nat) (hn : n = us.length) (hr : Rd w B' A (us.map (Value.int .i64))) (hB' : B' ≤ w.heap.size) (hnc : n ≤ c) (hc : c ≤ maxLen) (k m : Int) (o : Bool) (hv : longL rs us = (k, m, o)) :
    Calls Tryz.prog 104 #[.pointer (some ⟨T, O, none⟩), .slice A n c] w fun e w' => e = .returned (.tuple #[.int .i64 k, .int .i64 m, .bool o]) ∧ Below w.heap.size w w' := by
  obtain ⟨P, hPe⟩ : ∃ P, P = pathsR rs := ⟨_, rfl⟩
  rw [← hPe] at ht hP
  have HPe := Lib.hid hPe
  have H := Lib.hid h
  have HT := Lib.hid ht
  have HS := Lib.hid hs
  have HP := Lib.hid hP
  have HN := Lib.hid hn
  have HR := Lib.hid hr
  have HV := Lib.hid hv
  unfold maxLen at hc
  have hroot : [] ∈ P := List.mem_of_getElem? ht.root
  have hi0 : idxP P [] = 0 := idxP_of ht.nodup ht.root
  have HRT := Lib.hid hroot
  have HI0 := Lib.hid hi0
  clear hPe h ht hs hP hn hr hv hroot hi0
  go_enter Tryz.func104, Tryz.ntmps104
  go_wp2
  go_loopw [7, 8, 9, 17] (fun sk sn sa i wr => ∃ (J : Nat) (k n0 : Int), J ≤ n ∧ i = .int .i64 J ∧ sk = .int .i64 k ∧ sn = .int .i64 n0 ∧ sa = .int .i64 (idxP P (us.take J) : Nat) ∧ Hid (BestP (findR rs) us J k n0) ∧ Hid (us.take J ∈ P) ∧ Below w.heap.size w wr) (fun _ _ _ i _ => n - (intOf i).toNat)
  case atStart => exact ⟨0, -1, 0, by omega, rfl, rfl, rfl, by simp [HI0.out], BestP.start _ _, by rw [List.take_zero]; exact HRT, Below.refl _ _⟩
  case round =>
    obtain ⟨J, k0, n0, hJ, rfl, rfl, rfl, rfl, hbest, hin, hb⟩ := hrel
    have hsz := hb.size
    obtain ⟨ka, hka⟩ : ∃ ka, ka = idxP P (us.take J) := ⟨_, rfl⟩
    have hkx : P[ka]? = some (us.take J) := by rw [hka]; exact (idxP_lt hin.out).2
    have hkal : ka < ns.length := by rw [HT.out.len]; exact lt_of_some hkx
    obtain ⟨nd, hnd⟩ : ∃ nd, ns[ka]? = some nd := ⟨_, List.getElem?_eq_getElem hkal⟩
    have hni := HT.out.node ka nd _ hnd hkx
    rw [← hka]
    have HKX := Lib.hid hkx
    have HND := Lib.hid hnd
    have HNI := Lib.hid hni
    have HTr := Lib.hid (H.out.below (hb.mono hB) (Nat.le_refl _))
    by_cases hJn : J = n
    · have hJ' : ¬ J < n := by omega
      have hall : us.take J = us := List.take_of_length_le (by rw [← HN.out]; omega)
      rw [hall] at HNI
      have hbest' : BestP (findR rs) us us.length k0 n0 := by rw [← HN.out, ← hJn]; exact hbest.out
      obtain ⟨v, hv⟩ : ∃ v, v = decide (nd.units.length = 0) := ⟨_, rfl⟩
      have hop : (!v) = true ↔ ∃ u, us ++ [u] ∈ pathsR rs := by
        rw [← HPe.out, hv]
        constructor
        · intro h
          have hne : nd.units ≠ [] := by intro e; rw [e] at h; simp at h
          obtain ⟨u, hu⟩ := List.exists_mem_of_ne_nil _ hne
          exact ⟨u, (HNI.out.units u).1 hu⟩
        · rintro ⟨u, hu⟩
          have := (HNI.out.units u).2 hu
          have hne : nd.units.length ≠ 0 := by intro e; rw [List.eq_nil_of_length_eq_zero e] at this; cases this
          simpa using hne
      have hE : k = k0 ∧ m = n0 ∧ o = !v := by
        have := HV.out.symm.trans (hbest'.all HS.out hop)
        simpa using this
      have HE := Lib.hid hE
      have HVV := Lib.hid hv
      clear hJn hall hbest' hop hE hkx hnd hni hka hkal hv hbest hin
      go_wp2_with fail
      refine (leaf_atO wr B T O ns outs HTr.out ka nd HND.out v HVV.out.symm).mono ?_
      rintro e w1 ⟨rfl, rfl⟩
      go_wp2
      go_ret3
      exact ⟨ret_trip HE.out, hb⟩
    · have hJ' : J < n := by omega
      have hJ1 : J < us.length := by rw [← HN.out]; exact hJ'
      obtain ⟨b1, o1, rfl, hb1B, hcell⟩ := rd_ints HR.out (by omega)
      have hc1 := (hb.cell (p := ⟨b1, o1 + J, none⟩) (by show b1 < _; omega)).trans (hcell J hJ1)
      have hgd : us.getD J 0 = us[J] := by simp [List.getD_eq_getElem?_getD, hJ1]
      obtain ⟨u, hu⟩ : ∃ u, u = us[J] := ⟨_, rfl⟩
      rw [hgd, ← hu] at hc1
      have htk : us.take (J + 1) = us.take J ++ [u] := by rw [hu, List.take_succ_eq_append_getElem hJ1]
      have HTK := Lib.hid htk
      have k5 : (0 : Int) ≤ J := by omega
      have k6 : (J : Int) < n := by omega
      clear hJn hcell hgd hu hkx hnd hni hka hkal htk
      go_wp2_with fail
      by_cases hp : us.take J ++ [u] ∈ P
      · obtain ⟨m1, hm1⟩ : ∃ m1, m1 = idxP P (us.take J ++ [u]) := ⟨_, rfl⟩
        refine (step_atO wr B T O P (findR rs) ns outs HTr.out HT.out (by omega) ka (us.take J) HKX.out u m1 true (by simpa using hp) (by rw [if_pos hp, hm1]) HP.out).mono ?_
        rintro e w1 ⟨rfl, hb1⟩
        have hbE := hb.trans (hb1.mono hsz)
        have hs1 := hbE.size
        have hkx1 : P[m1]? = some (us.take J ++ [u]) := by rw [hm1]; exact (idxP_lt hp).2
        have hkl1 : m1 < ns.length := by rw [HT.out.len]; exact lt_of_some hkx1
        obtain ⟨nd1, hnd1⟩ : ∃ nd1, ns[m1]? = some nd1 := ⟨_, List.getElem?_eq_getElem hkl1⟩
        have hni1 := HT.out.node m1 nd1 _ hnd1 hkx1
        obtain ⟨r, hr1⟩ : ∃ r, nd1.rule = r := ⟨_, rfl⟩
        have hfr : findR rs (us.take (J + 1)) = r := by rw [HTK.out, ← hni1.rule, hr1]
        have HTr1 := Lib.hid (H.out.below (hbE.mono hB) (Nat.le_refl _))
        have HND1 := Lib.hid hnd1
        have HR1 := Lib.hid hr1
        have HFR := Lib.hid hfr
        have hm2 : m1 = idxP P (us.take (J + 1)) := by rw [HTK.out]; exact hm1
        have hin1 : Hid (us.take (J + 1) ∈ P) := by rw [HTK.out]; exact hp
        have HM2 := Lib.hid hm2
        clear hm1 hkx1 hkl1 hnd1 hni1 hr1 hfr hp hm2 hb1
        go_wp2_with fail
        refine (rule_atO w1 B T O ns outs HTr1.out m1 nd1 HND1.out r HR1.out).mono ?_
        rintro e w2 ⟨rfl, rfl⟩
        by_cases hr0 : r = -1
        · have hb2 : Hid (BestP (findR rs) us (J + 1) k0 n0) := hbest.out.stay (by rw [HFR.out, hr0])
          subst hr0
          go_wp2
          go_roundw
          case rel => exact ⟨J + 1, k0, n0, by omega, by go_num, rfl, rfl, by rw [← HM2.out], hb2, hin1, hbE⟩
          case measure => simp [intOf]; omega
        · have hb2 : Hid (BestP (findR rs) us (J + 1) r ((J : Int) + 1)) := by
            have h := hbest.out.move (by rw [HFR.out]; exact hr0)
            rw [HFR.out] at h; exact h
          have hd : decide (r ≠ -1) = true := by simpa using hr0
          go_wp2
          go_roundw
          case rel => exact ⟨J + 1, r, (J : Int) + 1, by omega, by go_num, rfl, rfl, by rw [← HM2.out], hb2, hin1, hbE⟩
          case measure => simp [intOf]; omega
      · refine (step_atO wr B T O P (findR rs) ns outs HTr.out HT.out (by omega) ka (us.take J) HKX.out u 0 false (by simpa using hp) (by rw [if_neg hp]) HP.out).mono ?_
        rintro e w1 ⟨rfl, hb1⟩
        have hbE := hb.trans (hb1.mono hsz)
        have hE : k = k0 ∧ m = n0 ∧ o = false := by
          have := HV.out.symm.trans (hbest.out.stop HS.out hJ1 (by rw [← HPe.out, HTK.out]; exact hp))
          simpa using this
        have HE := Lib.hid hE
        clear hE hp hb1 hbest hin
        go_wp2
        go_ret3
        exact ⟨ret_trip HE.out, hbE⟩
theorem out_any (w : World) (B T : Nat) : ∀ (ns : List NodeM) (outs : List (List Int)) (h : TrAt w B T ns outs) (hB : B ≤ w.heap.size) (hl : ∀ o ∈ outs, o.length ≤ 17592186044416) (k : Int) (us : List Int) (hu : (if 0 ≤ k ∧ k < outs.length then outs.getD k.toNat [] else []) = us),
    Calls Tryz.prog 105 #[.pointer (some ⟨T, 0, none⟩), .int .i64 k] w fun e w' => ∃ A c, e = .returned (.slice A us.length c) ∧ Us (fun b => w.heap.size ≤ b) w' (.slice A us.length c) us ∧ Below w.heap.size w w' := out_anyO w B T 0
theorem tlongest_any (w : World) (B T : Nat) : ∀ (rs : List Rl) (ns : List NodeM) (outs : List (List Int)) (h : TrAt w B T ns outs) (ht : TI (pathsR rs) ns (findR rs)) (hB : B ≤ w.heap.size) (hs : ∀ r ∈ rs, 1 ≤ r.1.length) (hP : (pathsR rs).length ≤ 5000)
    (n : Nat) (A : Option Addr) (c : Nat) (us : List Int) (B' : Nat) (hn : n = us.length) (hr : Rd w B' A (us.map (Value.int .i64))) (hB' : B' ≤ w.heap.size) (hnc : n ≤ c) (hc : c ≤ maxLen) (k m : Int) (o : Bool) (hv : longL rs us = (k, m, o)),
    Calls Tryz.prog 104 #[.pointer (some ⟨T, 0, none⟩), .slice A n c] w fun e w' => e = .returned (.tuple #[.int .i64 k, .int .i64 m, .bool o]) ∧ Below w.heap.size w w' := tlongest_anyO w B T 0
end Go.Proofs.YtmenjcdmdmngcaaGreatDoor
namespace Go.Proofs.YtmenjcdmdmngcaaGreatDoor
set_option linter.unusedVariables false
open Go.RowKit
/-- at cell O of block T, below block B, lies the trie of rules that are right -/
structure TrieOKO (w : World) (B T O : Nat) (rs : List Rl) : Prop where
  good : Good rs
  is : ∃ ns, TrAtO w B T O ns (rs.map (·.2)) ∧ TI (pathsR rs) ns (findR rs)
theorem TrieOKO.below {w w' : World} {B B' T O : Nat} {rs : List Rl} (h : TrieOKO w B T O rs) (hb : Below B w w') (hB : B ≤ B') : TrieOKO w' B' T O rs := by
  obtain ⟨hg, ns, h1, h2⟩ := h
  exact ⟨hg, ns, h1.below hb hB, h2⟩
/-- a trie that begins its block -/
abbrev TrieOK (w : World) (B T : Nat) (rs : List Rl) : Prop := TrieOKO w B T 0 rs
/-- the same two cells elsewhere are the same trie -/
theorem TrieOKO.copy {w w' : World} {B B' T O R Q : Nat} {rs : List Rl} (h : TrieOKO w B T O rs) (hb : Below B w w') (hB : B ≤ B') (hR : R < B') (h0 : ∀ v, w.cell? ⟨T, O, none⟩ = some v → w'.cell? ⟨R, Q, none⟩ = some v) (h1 : ∀ v, w.cell? ⟨T, O + 1, none⟩ = some v → w'.cell? ⟨R, Q + 1, none⟩ = some v) : TrieOKO w' B' R Q rs := by
  obtain ⟨hg, ns, g, h2⟩ := h
  exact ⟨hg, ns, g.copy hb hB hR h0 h1, h2⟩
theorem of_ok (n : Nat) (A : Option Addr) (c : Nat) (rs : List Rl) (B : Nat) (w : World) (hr : RsAt w B A n c rs) (hB : B ≤ w.heap.size) (hv : checkR rs = (-1, 0)) :
    Calls Tryz.prog 88 #[.slice A n c] w fun en w' => ∃ T, en = .returned (.tuple #[.pointer (some ⟨T, 0, none⟩), .int .i64 0]) ∧ TrieOK w' w'.heap.size T rs ∧ Below w.heap.size w w' := by
  refine (of_good n A c rs B w hr hB hv).mono ?_
  rintro en w' ⟨T, ns, nV, oV, xs, ys, V, rfl, ho, ht, hb⟩
  exact ⟨T, rfl, ⟨good_of hv, ns, ho.at, ht⟩, hb⟩
theorem long_okO (w : World) (B T O : Nat) (rs : List Rl) (h : TrieOKO w B T O rs) (hB : B ≤ w.heap.size) (n : Nat) (A : Option Addr) (c : Nat) (us : List Int) (B' : Nat) (hn : n = us.length) (hr : Rd w B' A (us.map (Value.int .i64))) (hB' : B' ≤ w.heap.size) (hnc : n ≤ c) (hc : c ≤ maxLen) (k m : Int) (o : Bool) (hv : longL rs us = (k, m, o)) :
    Calls Tryz.prog 104 #[.pointer (some ⟨T, O, none⟩), .slice A n c] w fun e w' => e = .returned (.tuple #[.int .i64 k, .int .i64 m, .bool o]) ∧ Below w.heap.size w w' := by
  obtain ⟨hg, ns, h1, h2⟩ := h
  exact tlongest_anyO w B T O rs ns _ h1 h2 hB (fun r hr => (hg.side r hr).1) (paths_le hg) n A c us B' hn hr hB' hnc hc k m o hv
theorem out_okO (w : World) (B T O : Nat) (rs : List Rl) (h : TrieOKO w B T O rs) (hB : B ≤ w.heap.size) (k : Nat) (hk : k < rs.length) (us : List Int) (m : Nat) (hu : rs[k].2 = us) (hm : us.length = m) :
    Calls Tryz.prog 105 #[.pointer (some ⟨T, O, none⟩), .int .i64 k] w fun e w' => ∃ A c, e = .returned (.slice A m c) ∧ Us (fun b => w.heap.size ≤ b) w' (.slice A m c) us ∧ Below w.heap.size w w' := by
  obtain ⟨hg, ns, h1, h2⟩ := h
  subst hm
  refine out_anyO w B T O ns _ h1 hB ?_ k us ?_
  · intro o ho
    obtain ⟨r, hr, rfl⟩ := List.mem_map.1 ho
    have := (hg.side r hr).2.2.2.1
    omega
  · rw [List.length_map, if_pos (by omega), ← hu]
    simp [List.getD_eq_getElem?_getD, List.getElem?_eq_getElem hk]
theorem long_ok (w : World) (B T : Nat) : ∀ (rs : List Rl) (h : TrieOK w B T rs) (hB : B ≤ w.heap.size) (n : Nat) (A : Option Addr) (c : Nat) (us : List Int) (B' : Nat) (hn : n = us.length) (hr : Rd w B' A (us.map (Value.int .i64))) (hB' : B' ≤ w.heap.size) (hnc : n ≤ c) (hc : c ≤ maxLen) (k m : Int) (o : Bool) (hv : longL rs us = (k, m, o)),
    Calls Tryz.prog 104 #[.pointer (some ⟨T, 0, none⟩), .slice A n c] w fun e w' => e = .returned (.tuple #[.int .i64 k, .int .i64 m, .bool o]) ∧ Below w.heap.size w w' := long_okO w B T 0
theorem out_ok (w : World) (B T : Nat) : ∀ (rs : List Rl) (h : TrieOK w B T rs) (hB : B ≤ w.heap.size) (k : Nat) (hk : k < rs.length) (us : List Int) (m : Nat) (hu : rs[k].2 = us) (hm : us.length = m),
    Calls Tryz.prog 105 #[.pointer (some ⟨T, 0, none⟩), .int .i64 k] w fun e w' => ∃ A c, e = .returned (.slice A m c) ∧ Us (fun b => w.heap.size ≤ b) w' (.slice A m c) us ∧ Below w.heap.size w w' := out_okO w B T 0
end Go.Proofs.YtmenjcdmdmngcaaGreatDoor
namespace Go.Proofs.YtmenjcdmdmngcaaGreatDoor
set_option linter.unusedVariables false
open Go.RowKit
theorem infotok4 : (Tryz.prog.info? 47).map (·.size) = some 4 := by kernel_rfl
/-- a token handed back out of a cell of the frame -/
theorem tok_ret {fn : Func} {p : Tmp} {a : Act} {w : World} {R : Ending → World → Prop} {g : Nat} {cs : Array Value} {t : TypeId} {fr : Nat × Nat} (h : fn.results = #[.cell p 47]) (hp : a.tmps.getD p undef = .pointer (some ⟨g, 0, none⟩)) (hg : w.heap[g]? = some (.cells cs t fr)) (hs : cs.size = 4)
    (hd : a.defers = []) (hR : R (.returned (.agg cs)) w) : bodyPost Tryz.prog fn R .ret a w :=
  bodyPost_ret (results_cell_row h a.tmps w g t cs fr _ hp hg Tryz.underlying47 rfl (by rw [infotok4, hs])) hd hR
theorem rew_stop {rs : List Rl} {us : List Int} {K : Nat} {acc ts : List Tk} (hf : acc ++ rewA rs K (us.drop K) = ts) (hK : us.length ≤ K) : ts = acc := by
  rw [List.drop_of_length_le hK, rewA_nil] at hf
  simpa using hf.symm
theorem rew_next {rs : List Rl} {us o : List Int} {K m : Nat} {s e : Int} {acc ts : List Tk} (hf : acc ++ rewA rs K (us.drop K) = ts) (hK : K < us.length) (hs : stepT rs (us.drop K) = (s, e, o)) (hp : StepP (us.drop K) s e o) (hm : s = m) : acc ++ [⟨(K : Int), s, o, e⟩] ++ rewA rs ((K + m : Nat) : Int) (us.drop (K + m)) = ts := by
  rw [← hf, rewA_cons (us := us.drop K) (by intro e; rw [List.drop_eq_nil_iff] at e; omega) hs hp.lo, List.drop_drop]
  rw [show ((K + m : Nat) : Int) = (K : Int) + s from by omega, show s.toNat = m from by omega]
  simp

end Go.Proofs.YtmenjcdmdmngcaaGreatDoor
namespace Go.Proofs.YtmenjcdmdmngcaaGreatDoor
set_option linter.unusedVariables false
set_option linter.unusedSimpArgs false
set_option linter.unnecessarySimpa false
open Go.RowKit
theorem Tks.setTok {X : Nat → Prop} {w : World} {p z e : Int} {o : Value} {u : List Int} (hu : Us X w o u) : ∀ {xs : List Value} {ts : List Tk} (k : Nat), k < ts.length → Tks X w xs ts →
    Tks X w ((((xs.set (k * 4) (.int .i64 p)).set (k * 4 + 1) (.int .i64 z)).set (k * 4 + 2) o).set (k * 4 + 3) (.int .i64 e)) (ts.set k ⟨p, z, u, e⟩)
  | [], [], k, h, _ => by simp at h
  | a :: b :: s :: d :: xs, t' :: ts, 0, h, ⟨g1, g2, g3, g4, g5⟩ => ⟨rfl, rfl, hu, rfl, g5⟩
  | a :: b :: s :: d :: xs, t' :: ts, k + 1, h, ⟨g1, g2, g3, g4, g5⟩ => by
    have := Tks.setTok (p := p) (z := z) (e := e) hu k (by simpa using h) g5
    have e0 : (k + 1) * 4 = k * 4 + 1 + 1 + 1 + 1 := by omega
    rw [e0]
    exact ⟨g1, g2, g3, g4, this⟩
theorem us_nil (X : Nat → Prop) (w : World) : Us X w (.slice none 0 0) [] := ⟨none, 0, rfl, Nat.le_refl _, by simp [maxLen], .inl rfl⟩
/-- a token written in place -/
theorem OwnTk.setTok {base g n c : Nat} {w : World} {ts : List Tk} (h : OwnTk base w (.slice (some ⟨g, 0, none⟩) n c) ts) {k : Nat} (hk : k < ts.length) (p z e : Int) {o : Value} {u : List Int} (hu : Us (fun b => (Value.slice (some ⟨g, 0, none⟩) n c).ownBlock ≠ some b) w o u) :
    OwnTk base ((((w.setCell ⟨g, k * 4, none⟩ (.int .i64 p)).setCell ⟨g, k * 4 + 1, none⟩ (.int .i64 z)).setCell ⟨g, k * 4 + 2, none⟩ o).setCell ⟨g, k * 4 + 3, none⟩ (.int .i64 e)) (.slice (some ⟨g, 0, none⟩) n c) (ts.set k ⟨p, z, u, e⟩) ∧ base ≤ g := by
  obtain ⟨xs, ho, hx⟩ := h
  obtain ⟨A', c', e', h1, h2⟩ := own_form ho
  injection e' with e1 e2 e3
  subst e2
  have s1 := (ho.stored (k * 4) (.int .i64 p)).1
  have s2 := (s1.stored (k * 4 + 1) (.int .i64 z)).1
  have s3 := (s2.stored (k * 4 + 2) o).1
  have s4 := (s3.stored (k * 4 + 3) (.int .i64 e)).1
  have hst : ∀ {w' w2 : World} {j : Nat} {x : Value}, w2 = w'.setCell ⟨g, j, none⟩ x → w'.heap.size ≤ w2.heap.size ∧ ∀ b, b < w'.heap.size → (Value.slice (some ⟨g, 0, none⟩) ts.length c).ownBlock ≠ some b → (Value.slice (some ⟨g, 0, none⟩) ts.length c).ownBlock ≠ some b ∧ w2.heap[b]? = w'.heap[b]? := by
    rintro w' w2 j x rfl
    exact ⟨by rw [World.size_setCell]; exact Nat.le_refl _, fun b hb hx => ⟨hx, Below.heap_setCell _ _ _ _ (fun e => hx (by show some g = some b; rw [e]))⟩⟩
  obtain ⟨a1, b1⟩ := hst (w' := w) (j := k * 4) (x := .int .i64 p) rfl
  obtain ⟨a2, b2⟩ := hst (w' := w.setCell ⟨g, k * 4, none⟩ (.int .i64 p)) (j := k * 4 + 1) (x := .int .i64 z) rfl
  obtain ⟨a3, b3⟩ := hst (w' := (w.setCell ⟨g, k * 4, none⟩ (.int .i64 p)).setCell ⟨g, k * 4 + 1, none⟩ (.int .i64 z)) (j := k * 4 + 2) (x := o) rfl
  obtain ⟨a4, b4⟩ := hst (w' := ((w.setCell ⟨g, k * 4, none⟩ (.int .i64 p)).setCell ⟨g, k * 4 + 1, none⟩ (.int .i64 z)).setCell ⟨g, k * 4 + 2, none⟩ o) (j := k * 4 + 3) (x := .int .i64 e) rfl
  refine ⟨⟨_, by rw [List.length_set]; exact s4, ?_⟩, (ho.lt g rfl).1⟩
  exact ((((hx.step a1 b1).step a2 b2).step a3 b3).step a4 b4).setTok ((((hu.step a1 b1).step a2 b2).step a3 b3).step a4 b4) k hk
theorem OwnTk.cellsAt {base g n c : Nat} {w : World} {ts : List Tk} (h : OwnTk base w (.slice (some ⟨g, 0, none⟩) n c) ts) {k : Nat} (hk : k < ts.length) :
    ∃ A1 n1 c1, w.cell? ⟨g, k * 4, none⟩ = some (.int .i64 ts[k].pos) ∧ w.cell? ⟨g, k * 4 + 1, none⟩ = some (.int .i64 ts[k].size) ∧ w.cell? ⟨g, k * 4 + 2, none⟩ = some (.slice A1 n1 c1) ∧ w.cell? ⟨g, k * 4 + 3, none⟩ = some (.int .i64 ts[k].err) ∧
      n1 = ts[k].out.length ∧ Us (fun b => (Value.slice (some ⟨g, 0, none⟩) n c).ownBlock ≠ some b) w (.slice A1 n1 c1) ts[k].out ∧ ∀ j, w.frozen? ⟨g, j, none⟩ = false := by
  obtain ⟨xs, ho, hx⟩ := h
  obtain ⟨A', c', e', h1, h2⟩ := own_form ho
  injection e' with e1 e2 e3
  subst e2
  have hlen := Tks.length hx
  obtain ⟨s, g1, g2, g3, g4, hu⟩ := hx.at k hk
  have hu' := hu
  obtain ⟨A1, c1, rfl, e2, e3', e4⟩ := hu
  exact ⟨A1, _, c1, (ho.cellAt _ (by omega)).trans g1, (ho.cellAt _ (by omega)).trans g2, (ho.cellAt _ (by omega)).trans g3, (ho.cellAt _ (by omega)).trans g4, rfl, hu', fun j => ho.frozenAt _⟩
theorem us_set {X : Nat → Prop} {w : World} {v : Value} {us : List Int} {g j : Nat} {x : Value} (h : Us X w v us) (hX : ∀ b, X b → g ≠ b) : Us X (w.setCell ⟨g, j, none⟩ x) v us :=
  h.step (by rw [World.size_setCell]; exact Nat.le_refl _) fun b _ hx => ⟨hx, Below.heap_setCell _ _ _ _ (fun e => hX b hx e.symm)⟩
/-- the row behind K tokens -/
def mixE (rs : List (List Int × List Int)) (ts : List Tk) (K : Nat) : List Tk := encF rs [] (ts.take K) ++ ts.drop K
def ahE (rs : List (List Int × List Int)) (ts : List Tk) (K : Nat) : List Int := aheadF [] (encF rs [] (ts.take K))
theorem mixE_len (rs : List (List Int × List Int)) (ts : List Tk) (K : Nat) : (mixE rs ts K).length = ts.length := by
  unfold mixE; rw [List.length_append, encF_len, List.length_take, List.length_drop]; omega
theorem mixE_zero (rs : List (List Int × List Int)) (ts : List Tk) : mixE rs ts 0 = ts := by simp [mixE, encF]
theorem mixE_all {rs : List (List Int × List Int)} {ts : List Tk} {K : Nat} (h : ts.length ≤ K) : mixE rs ts K = encF rs [] ts := by
  unfold mixE; rw [List.take_of_length_le h, List.drop_of_length_le h, List.append_nil]
theorem mixE_at {rs : List (List Int × List Int)} {ts : List Tk} {K : Nat} (h : K < ts.length) : (mixE rs ts K)[K]'(by rw [mixE_len]; exact h) = ts[K] := by
  have hl : (encF rs [] (ts.take K)).length = K := by rw [encF_len, List.length_take]; omega
  unfold mixE
  rw [List.getElem_append_right (by omega)]
  simp [hl]
theorem mixE_next {rs : List (List Int × List Int)} {ts : List Tk} {K : Nat} (h : K < ts.length) : mixE rs ts (K + 1) = (mixE rs ts K).set K (joinT rs (ahE rs ts K) ts[K]) := by
  have hl : (encF rs [] (ts.take K)).length = K := by rw [encF_len, List.length_take]; omega
  unfold mixE ahE
  rw [encF_take h, List.drop_eq_getElem_cons h, List.set_append_right (i := K) (h := by omega), hl, Nat.sub_self, List.set_cons_zero, List.append_assoc]
  rfl
theorem ahE_next {rs : List (List Int × List Int)} {ts : List Tk} {K : Nat} (h : K < ts.length) : ahE rs ts (K + 1) = if (joinT rs (ahE rs ts K) ts[K]).err = 0 then (joinT rs (ahE rs ts K) ts[K]).out else ahE rs ts K := aheadF_take h
theorem joinT_skip {rs : List (List Int × List Int)} {ah : List Int} {t : Tk} (h : t.err ≠ 0) : joinT rs ah t = t := by unfold joinT; rw [if_neg (fun e => h e.1)]
theorem joinT_no {rs : List (List Int × List Int)} {ah : List Int} {t : Tk} (h : joinsR rs ah t.out = false) : joinT rs ah t = t := by unfold joinT; rw [if_neg (fun e => by rw [h] at e; cases e.2)]
theorem joinT_yes {rs : List (List Int × List Int)} {ah : List Int} {t : Tk} (h0 : t.err = 0) (h : joinsR rs ah t.out = true) : joinT rs ah t = ⟨t.pos, t.size, [], 3⟩ := by unfold joinT; rw [if_pos ⟨h0, h⟩]
theorem mixE_same {rs : List (List Int × List Int)} {ts : List Tk} {K : Nat} (h : K < ts.length) (hj : joinT rs (ahE rs ts K) ts[K] = ts[K]) : mixE rs ts (K + 1) = mixE rs ts K := by
  rw [mixE_next h, hj]
  have := mixE_at (rs := rs) h
  rw [← this]
  exact List.set_getElem_self _
theorem ahE_zero (rs : List (List Int × List Int)) (ts : List Tk) : ahE rs ts 0 = [] := rfl
theorem ahE_small {rs : List (List Int × List Int)} {ts : List Tk} (h : ∀ t ∈ ts, t.out.length ≤ 8) : ∀ K, K ≤ ts.length → (ahE rs ts K).length ≤ 8
  | 0, _ => by simp [ahE_zero]
  | K + 1, hK => by
    rw [ahE_next (by omega)]
    have ih := ahE_small (rs := rs) h K (by omega)
    split
    · unfold joinT
      split
      · simp
      · exact h _ (List.getElem_mem _)
    · exact ih
end Go.Proofs.YtmenjcdmdmngcaaGreatDoor
namespace Go.Proofs.YtmenjcdmdmngcaaGreatDoor
set_option linter.unusedVariables false
open Go.RowKit
theorem results_tmp_row {P : Program} {fn : Func} {p u : Tmp} {ty : TypeId} (h : fn.results = #[.tmp u, .cell p ty]) (tmps : Array Value) (w : World) (g : Nat) (t : TypeId) (cs : Array Value) (fr : Nat × Nat) (d : TypeDesc)
    (hp : tmps.getD p undef = .pointer (some ⟨g, 0, none⟩)) (hg : w.heap[g]? = some (.cells cs t fr))
    (hu : P.underlying ty = some d) (hd : (match d with | .struct _ | .array _ _ => true | _ => false) = true) (hi : (P.info? ty).map (·.size) = some cs.size) :
    (results fn tmps).run P w = .ok (.tuple #[tmps.getD u undef, .agg cs]) w := by
  have hp' : tmps[p]?.getD undef = .pointer (some ⟨g, 0, none⟩) := by simpa using hp
  simp [results, h, hp', asAddr, run_loadVar_row w g t ty cs fr d hg hu hd hi]
theorem pair_ret {fn : Func} {p u : Tmp} {a : Act} {w : World} {R : Ending → World → Prop} {g : Nat} {cs : Array Value} {t : TypeId} {fr : Nat × Nat} {v : Value} (h : fn.results = #[.tmp u, .cell p 47]) (hp : a.tmps.getD p undef = .pointer (some ⟨g, 0, none⟩)) (hg : w.heap[g]? = some (.cells cs t fr)) (hs : cs.size = 4)
    (hu : a.tmps.getD u undef = v) (hd : a.defers = []) (hR : R (.returned (.tuple #[v, .agg cs])) w) : bodyPost Tryz.prog fn R .ret a w :=
  bodyPost_ret (results_tmp_row h a.tmps w g t cs fr _ hp hg Tryz.underlying47 rfl (by rw [infotok4, hs])) hd (by rw [hu]; exact hR)
/-- how the two that are gathered lie: the units, and the token that is wrong -/
structure UnI (base g : Nat) (w : World) (v : Value) (us : List Int) (t : Tk) : Prop where
  own : OwnI .i64 3 w base v us
  box : ∃ s, w.heap[g]? = some (.cells #[.int .i64 t.pos, .int .i64 t.size, s, .int .i64 t.err] 47 (0, 0)) ∧ Us (fun b => base ≤ b ∧ v.ownBlock ≠ some b) w s t.out
theorem tok_cells {w : World} {g : Nat} {x y z u : Value} {T : TypeId} (hp : w.heap[g]? = some (.cells #[x, y, z, u] T (0, 0))) : w.cell? ⟨g, 0, none⟩ = some x ∧ w.cell? ⟨g, 1, none⟩ = some y ∧ w.cell? ⟨g, 2, none⟩ = some z ∧ w.cell? ⟨g, 3, none⟩ = some u ∧ ∀ o, w.frozen? ⟨g, o, none⟩ = false := by
  refine ⟨?_, ?_, ?_, ?_, fun o => frozen_of_row _ _ _ _ _ hp⟩ <;> (rw [cell_of_row _ _ _ _ _ _ hp]; rfl)

theorem UnI.push {base g n1 : Nat} {w w1 w4 : World} {v v' : Value} {us out : List Int} {t : Tk} (h : UnI base g w v us t) (hb : Below w.heap.size w w1) (ho : w4.ownsRow base 3 1 v' (us.length + n1) (us.map (Value.int .i64) ++ out.map (Value.int .i64))) (hn : n1 = out.length) (hg : w1.grownBy w4 v.ownBlock) (hv : v'.ownBlock = v.ownBlock ∨ v'.ownBlock = some w1.heap.size) (hgb : g < base) (hgs : g < w.heap.size) : UnI base g w4 v' (us ++ out) t := by
  have hs := hb.size
  obtain ⟨s, h1, h2⟩ := h.box
  refine ⟨by unfold OwnI; rw [List.length_append, List.map_append, ← hn]; exact ho, s, ?_, ?_⟩
  · rw [hg.block g (by omega) (fun e => by have := (h.own.lt g e.symm).1; omega), hb.block g hgs]; exact h1
  · refine h2.step (by have := hg.size; omega) fun b hbl ⟨q1, q2⟩ => ⟨⟨q1, ?_⟩, (hg.block b (by omega) (fun e => q2 e.symm)).trans (hb.block b hbl)⟩
    rcases hv with e | e
    · rw [e]; exact q2
    · rw [e]; intro e'; injection e' with e'; omega
theorem UnI.wrong {base g : Nat} {w w5 : World} {v : Value} {us out : List Int} {t : Tk} {p z e : Int} {s s0 : Value} (h : UnI base g w v us t) (hb : Below w.heap.size (w.setRow g #[.int .i64 p, .int .i64 z, s0, .int .i64 e]) w5) (hu : Us (fun b => w.heap.size ≤ b) w5 s out) (hgb : g < base) (hgs : base ≤ w.heap.size) : UnI base g (w5.setCell ⟨g, 2, none⟩ s) v us ⟨p, z, out, e⟩ := by
  have hs := hb.size
  rw [setRow_size] at hs
  obtain ⟨s1, h1, h2⟩ := h.box
  have hoth : ∀ k, k < w.heap.size → k ≠ g → (w5.setCell ⟨g, 2, none⟩ s).heap[k]? = w.heap[k]? := fun k hk hne => by
    rw [Below.heap_setCell _ _ _ _ hne, hb.block k hk, setRow_other _ _ _ _ hne]
  have hgr : w.grownBy (w5.setCell ⟨g, 2, none⟩ s) (some g) := ⟨hb.os, hb.tape, hb.output, by rw [World.size_setCell]; exact hs, fun k hk hne => hoth k hk (fun e => hne (by rw [e]))⟩
  refine ⟨own_other h.own hgr (fun k hk e => by injection e with e; have := (h.own.lt k hk).1; omega), s, ?_, ?_⟩
  · have := heap_setCell_same w5 g 2 _ _ s ((hb.block g (by omega)).trans (setRow_heap w g _ #[.int .i64 p, .int .i64 z, s0, .int .i64 e] _ _ h1))
    exact this
  · refine hu.step (by rw [World.size_setCell]; exact Nat.le_refl _) fun b hbl hx => ⟨⟨by have : w.heap.size ≤ b := hx; omega, fun e => by have := own_lt h.own e; have : w.heap.size ≤ b := hx; omega⟩, Below.heap_setCell _ _ _ _ (by have : w.heap.size ≤ b := hx; show b ≠ g; omega)⟩
theorem set4 {w : World} {g : Nat} {x y z u a b c d : Value} {T : TypeId} (h : w.heap[g]? = some (.cells #[x, y, z, u] T (0, 0))) :
    (((w.setCell ⟨g, 0, none⟩ a).setCell ⟨g, 1, none⟩ b).setCell ⟨g, 2, none⟩ c).setCell ⟨g, 3, none⟩ d = w.setRow g #[a, b, c, d] := by
  rw [setCell_eq_setRow w g 0 _ _ _ a h]
  have h1 := setRow_heap w g _ (#[x, y, z, u].setIfInBounds 0 a) _ _ h
  rw [setCell_eq_setRow _ g 1 _ _ _ b h1, setRow_setRow]
  have h2 := setRow_heap w g _ ((#[x, y, z, u].setIfInBounds 0 a).setIfInBounds 1 b) _ _ h
  rw [setCell_eq_setRow _ g 2 _ _ _ c h2, setRow_setRow]
  have h3 := setRow_heap w g _ (((#[x, y, z, u].setIfInBounds 0 a).setIfInBounds 1 b).setIfInBounds 2 c) _ _ h
  rw [setCell_eq_setRow _ g 3 _ _ _ d h3, setRow_setRow]
  rfl
theorem outs_room {ts : List Tk} {K : Nat} (hK : K < ts.length) : (outsT (ts.take K)).length + ts[K].out.length ≤ (outsT ts).length := by
  have h := outsT_app (ts.take (K + 1)) (ts.drop (K + 1))
  rw [List.take_append_drop, outsT_take hK] at h
  rw [h]; simp

set_option maxHeartbeats 3200000 in
theorem unitsT_any (n : Nat) (A : Option Addr) (c : Nat) (ts : List Tk) (B : Nat) (w : World) (h : TkAt w B A n c ts) (hB : B ≤ w.heap.size) (hl : (outsT ts).length ≤ 17592186044415) (us : List Int) (t : Tk) (m m' : Nat) (hu : outsT ts = us) (ht : wrongT ts = t) (hm : us.length = m) (hm' : t.out.length = m') :
    Calls Tryz.prog 21 #[.slice A n c] w fun en w' => ∃ A1 c1 A2 c2, en = .returned (.tuple #[.slice A1 m c1, .agg #[.int .i64 t.pos, .int .i64 t.size, .slice A2 m' c2, .int .i64 t.err]]) ∧ Us (fun b => w.heap.size ≤ b) w' (.slice A1 m c1) us ∧ Us (fun b => w.heap.size ≤ b) w' (.slice A2 m' c2) t.out ∧ Below w.heap.size w w' := by
  obtain ⟨i0, hi, hz0, HZ1, hz2⟩ := info_parts infoint
  have hc1 := h.fits
  have hc2 := h.small
  unfold maxLen at hc2
  have H := Lib.hid h
  have HL := Lib.hid hl
  have HU := Lib.hid hu
  have HT := Lib.hid ht
  have HM := Lib.hid hm
  have HM' := Lib.hid hm'
  clear h hl hu ht hm hm'
  go_enter Tryz.func21, Tryz.ntmps21
  go_wp2
  have hbW : ∀ o1 o2, Below w.heap.size w ((w.alloc o1).alloc o2) := fun o1 o2 => ((Below.refl _ _).alloc (Nat.le_refl _) _).alloc (by simp) _
  have HBW := Lib.hid hbW
  clear hbW
  go_loopw [4, 10] (fun v i wr => ∃ (K : Nat) (acc : List Int) (tw : Tk), K ≤ n ∧ i = .int .i64 K ∧ Hid (UnI (w.heap.size + 2) (w.heap.size + 1) wr v acc tw) ∧ Hid (acc = outsT (ts.take K)) ∧ Hid (tw = wrongT (ts.take K)) ∧
      Hid (wr.heap[w.heap.size]? = some (.cells #[.int .i64 0, .int .i64 0, .slice none 0 0, .int .i64 0] 47 (0, 0))) ∧ Below w.heap.size w wr ∧ w.heap.size + 2 ≤ wr.heap.size) (fun _ i _ => n - (intOf i).toNat)
  case atStart =>
    refine ⟨0, [], ⟨0, 0, [], 0⟩, by omega, rfl, ⟨World.ownsRow_nil _ _ _ _, .slice none 0 0, heap_alloc2_new w _ _, ⟨none, 0, rfl, by simp, by simp [maxLen], .inl rfl⟩⟩, rfl, rfl, heap_alloc2_old w _ _, HBW.out _ _, by simp⟩
  case round =>
    obtain ⟨K, acc, tw, hK, rfl, hui, hacc, htw, h3, hb, hs2⟩ := hrel
    have hs := hb.size
    obtain ⟨A3, c3, rfl, _⟩ := own_form hui.out.own
    obtain ⟨sw, hbox, husw⟩ := hui.out.box
    obtain ⟨A5, c5, rfl, _, _, _⟩ := id husw
    by_cases hKn : K = n
    · have hK' : ¬ K < n := by omega
      have e : ts.take K = ts := List.take_of_length_le (by rw [← H.out.len]; omega)
      have HA : Hid (acc = us) := by rw [e] at hacc; exact hacc.out.trans HU.out
      have HTW : Hid (tw = t) := by rw [e] at htw; exact htw.out.trans HT.out
      clear hKn e
      obtain ⟨x0, x1, x2, x3, xf⟩ := tok_cells hbox
      obtain ⟨y0, y1, y2, y3, yf⟩ := tok_cells h3.out
      have HBOX := Lib.hid hbox
      clear hbox
      go_wp2
      go_region
      go_wp2
      rw [set4 h3.out]
      have hfin := setRow_heap wr w.heap.size _ #[.int .i64 tw.pos, .int .i64 tw.size, .slice A5 tw.out.length c5, .int .i64 tw.err] _ _ h3.out
      obtain ⟨W, hW⟩ : ∃ W, W = wr.setRow w.heap.size #[.int .i64 tw.pos, .int .i64 tw.size, .slice A5 tw.out.length c5, .int .i64 tw.err] := ⟨_, rfl⟩
      have hbW : Below w.heap.size w W := by rw [hW]; exact below_row hb (Nat.le_refl _) _
      have hoth : ∀ k, k ≠ w.heap.size → W.heap[k]? = wr.heap[k]? := fun k hk => by rw [hW]; exact setRow_other _ _ _ _ hk
      have hWs : wr.heap.size ≤ W.heap.size := by rw [hW, setRow_size]; exact Nat.le_refl _
      rw [← hW] at hfin ⊢
      obtain ⟨A6, c6, e6, hu6⟩ := us_own (us := acc) (n := acc.length) hui.out.own rfl
      injection e6 with e6 e7 e8
      subst e6 e8
      have hstep : ∀ {v : Value} {zs : List Int} {X : Nat → Prop}, (∀ b, X b → w.heap.size + 2 ≤ b) → Us X wr v zs → Us (fun b => w.heap.size ≤ b) W.drew v zs := fun hX h => h.step (w' := W.drew) hWs fun b _ hx => ⟨by have := hX b hx; omega, hoth b (by have := hX b hx; omega)⟩
      refine pair_ret (g := w.heap.size) (w := W.drew) rfl rfl hfin rfl rfl rfl ?_
      have h1 := hstep (fun b hx => hx) hu6
      have h2 := hstep (fun b hx => hx.1) husw
      rw [← HA.out] at HM
      rw [← HTW.out] at HM' ⊢
      rw [← HM.out, ← HM'.out, ← HA.out]
      exact ⟨_, _, _, _, rfl, h1, h2, hbW.drew⟩
    have hK' : K < n := by omega
    have hK1 : K < ts.length := by rw [← H.out.len]; exact hK'
    have hroom := outs_room hK1
    rw [← hacc.out] at hroom
    have HA2 := Lib.hid (outsT_take hK1)
    have HW2 := Lib.hid (wrongT_take hK1)
    obtain ⟨b, o, rfl, hbB, A1, n1, c1, g1, g2, g3, g4, e1, e2, e3, e4⟩ := H.out.at hK1
    have hcl : ∀ o', wr.cell? ⟨b, o', none⟩ = w.cell? ⟨b, o', none⟩ := fun o' => hb.cell (p := ⟨b, o', none⟩) (by show b < _; omega)
    have k1 := (hcl _).trans g1
    have k2 := (hcl _).trans g2
    have k5 := (hcl _).trans g3
    have k6 := (hcl _).trans g4
    have k3 : (0 : Int) ≤ K := by omega
    have k4 : (K : Int) < n := by omega
    have E1 := Lib.hid e1
    have E4 := Lib.hid e4
    obtain ⟨P, hP⟩ : ∃ x, x = ts[K].pos := ⟨_, rfl⟩
    obtain ⟨S, hS⟩ : ∃ x, x = ts[K].size := ⟨_, rfl⟩
    obtain ⟨E, hE⟩ : ∃ x, x = ts[K].err := ⟨_, rfl⟩
    obtain ⟨O, hO⟩ : ∃ x, x = ts[K].out := ⟨_, rfl⟩
    rw [← hP] at k1
    rw [← hS] at k2
    rw [← hE] at k6
    rw [← hO] at E1 E4 hroom HA2
    have HTK : Hid (ts[K] = ⟨P, S, O, E⟩) := by rw [hP, hS, hE, hO]; rfl
    have hn1 : acc.length + n1 ≤ 17592186044415 := by rw [E1.out]; have := HL.out; omega
    unfold maxLen at e3
    obtain ⟨accL, haccL⟩ : ∃ accL, accL = acc.length := ⟨_, rfl⟩
    have hown := hui.out.own
    unfold OwnI at hown
    rw [← haccL] at hown hn1
    have HAL := Lib.hid haccL
    have HBOX := Lib.hid hbox
    have HUSW := Lib.hid husw
    rw [← haccL]
    clear hKn g1 g2 g3 g4 e1 e4 hcl hP hS hE hO hroom haccL hbox husw
    have HBA : Hid (∀ o1, Below wr.heap.size wr (wr.alloc o1)) := fun o1 => ((Below.refl _ _).alloc (Nat.le_refl _) _)
    have HBR : Hid (Rd wr B A1 (O.map (Value.int .i64))) := E4.out.below (hb.mono hB) (Nat.le_refl _)
    go_wp2_with (at_builtin; refine wpList_appB _ rfl _ _ 39 rfl (w.heap.size + 2) 3 i0 _ 1 8 Tryz.underlying39 hi hz0 HZ1 hz2 rfl (by decide) _ _ _ rfl (hown.alloc _) B A1 n1 c1 (O.map (Value.int .i64)) rfl ?c0 ?c1 ?c2 ?c3 ?c4 ?c5 ?_)
    case c0 => simp; exact E1.out.symm
    case c1 => exact HBR.out.below ((HBA.out _).mono (by omega)) (Nat.le_refl _)
    case c2 => exact ints_one _ _
    case c3 => simp only [maxLen]; omega
    case c4 => omega
    case c5 => simp; omega
    intro v' w4 hown4 hg4 hv4
    have hs4 := hg4.size
    rw [World.size_alloc] at hs4
    have hlow : ∀ x, (Value.slice A3 accL c3).ownBlock = some x → w.heap.size + 2 ≤ x ∧ x < wr.heap.size := fun x hx => ⟨(hown.lt x hx).1, own_lt hown hx⟩
    have hui4 : UnI (w.heap.size + 2) (w.heap.size + 1) w4 v' (acc ++ O) tw := by
      have h := hui.out
      rw [← HAL.out] at h
      exact h.push (HBA.out _) (by rw [← HAL.out]; exact hown4) E1.out hg4 (by simpa using hv4) (by omega) (by omega)
    have hkeep : ∀ k, k < wr.heap.size + 1 → (∀ x, (Value.slice A3 accL c3).ownBlock = some x → k ≠ x) → w4.heap[k]? = (wr.alloc (.cells #[.int .i64 P, .int .i64 S, .slice A1 n1 c1, .int .i64 E] 47)).heap[k]? := fun k hk hne => hg4.block k (by simpa using hk) (fun e => hne k e.symm rfl)
    have hgx : w4.heap[wr.heap.size]? = some (.cells #[.int .i64 P, .int .i64 S, .slice A1 n1 c1, .int .i64 E] 47 (0, 0)) := (hkeep _ (by omega) (fun x hx => by have := hlow x hx; omega)).trans (heap_alloc_new wr _)
    have h34 : Hid (w4.heap[w.heap.size]? = some (.cells #[.int .i64 0, .int .i64 0, .slice none 0 0, .int .i64 0] 47 (0, 0))) := (hkeep _ (by omega) (fun x hx => by have := hlow x hx; omega)).trans (((HBA.out _).block _ (by omega)).trans h3.out)
    have hb4 : Below w.heap.size w w4 := below_own (hb.trans ((HBA.out _).mono hs)) hg4 (hown.alloc _) (by omega) (by simp; omega)
    obtain ⟨s4, hbox4, hus4⟩ := hui4.box
    obtain ⟨A7, c7, rfl, _⟩ := id hus4
    obtain ⟨x0, x1, x2, x3, xf⟩ := tok_cells hbox4
    obtain ⟨y0, y1, y2, y3, yf⟩ := tok_cells hgx
    have HUI := Lib.hid hui4
    have HACC : Hid (acc ++ O = outsT (ts.take (K + 1))) := by rw [HA2.out, ← hacc.out]; rfl
    have HOWN := Lib.hid hown4
    have HLOW := Lib.hid hlow
    have HGX := Lib.hid hgx
    have HBX := Lib.hid hbox4
    obtain ⟨A8, c8, rfl, _⟩ := own_form hown4
    clear hui hui4 hacc hown4 hlow hgx hbox4 hus4 hkeep hg4 hv4 hown
    by_cases hE0 : E = 0
    · have HTW : Hid (tw = wrongT (ts.take (K + 1))) := by
        rw [HW2.out]
        by_cases hz : (wrongT (ts.take K)).err = 0
        · rw [if_pos hz, if_pos (by rw [HTK.out]; exact hE0), htw.out, wrongT_none hz]; rfl
        · rw [if_neg hz]; exact htw.out
      have hd : decide (E ≠ 0) = false := by simpa using hE0
      subst hE0
      clear htw
      go_wp2
      go_roundw
      case rel => exact ⟨K + 1, _, _, by omega, by go_num, HUI, HACC, HTW, h34, hb4, by omega⟩
      case measure => simp [intOf]; omega
    have hd : (E != 0) = true := by simpa using hE0
    by_cases hz : tw.err = 0
    · have HTW : Hid (⟨P, S, O, E⟩ = wrongT (ts.take (K + 1))) := by
        rw [HW2.out, if_pos (by rw [← htw.out]; exact hz), HTK.out, if_neg hE0]; rfl
      have hd2 : (tw.err == 0) = true := by simpa using hz
      rw [hz] at x3
      have HZ := Lib.hid hz
      clear htw hz
      have z2 : (w4.setRow (w.heap.size + 1) #[.int .i64 P, .int .i64 S, .slice A1 n1 c1, .int .i64 E]).cell? ⟨wr.heap.size, 2, none⟩ = some (.slice A1 n1 c1) := by rw [cell_setRow_other _ _ _ _ (by show wr.heap.size ≠ _; omega)]; exact y2
      go_wp2_with (refine wpList_store_row rfl _ _ _ rfl (w.heap.size + 1) #[.int .i64 P, .int .i64 S, .slice A1 n1 c1, .int .i64 E] rfl rfl _ _ HBX.out infotok4 rfl (by simp [Value.oneCell']) ?_)
      obtain ⟨W3, hW3⟩ : ∃ W3, W3 = w4.setRow (w.heap.size + 1) #[.int .i64 P, .int .i64 S, .slice A1 n1 c1, .int .i64 E] := ⟨_, rfl⟩
      have hb3 : Below (w.heap.size) w W3 := by rw [hW3]; exact below_row hb4 (by omega) _
      have hs3 : W3.heap.size = w4.heap.size := by rw [hW3, setRow_size]
      have z3 : W3.heap[w.heap.size + 1]? = some (.cells #[.int .i64 P, .int .i64 S, .slice A1 n1 c1, .int .i64 E] 47 (0, 0)) := by rw [hW3]; exact setRow_heap w4 _ _ _ _ _ HBX.out
      have z4 : W3.heap[w.heap.size]? = w4.heap[w.heap.size]? := by rw [hW3]; exact setRow_other _ _ _ _ (by omega)
      rw [← hW3]
      have HW3 := Lib.hid hW3
      have Z3 := Lib.hid z3
      have Z4 := Lib.hid z4
      clear hW3 z2 z3 z4 x0 x1 x2 x3 xf y0 y1 y2 y3 yf
      refine (clone_any n1 A1 c1 O B W3 E1.out (E4.out.below (hb3.mono hB) (Nat.le_refl _)) (by omega) (by omega)).mono ?_
      rintro en w5 ⟨A6, c6, rfl, hu6, hb5⟩
      have hs5 := hb5.size
      obtain ⟨x0, x1, x2, x3, xf⟩ := tok_cells ((hb5.block _ (by omega)).trans Z3.out)
      have hui5 : UnI (w.heap.size + 2) (w.heap.size + 1) (w5.setCell ⟨w.heap.size + 1, 2, none⟩ (.slice A6 n1 c6)) (.slice A8 (accL + n1) c8) (acc ++ O) ⟨P, S, O, E⟩ := by
        refine HUI.out.wrong (s0 := .slice A1 n1 c1) (by rw [← HW3.out]; exact hb5.mono (by omega)) (hu6.step (Nat.le_refl _) fun b _ hx => ⟨by have : W3.heap.size ≤ b := hx; omega, rfl⟩) (by omega) (by omega)
      have HUI5 := Lib.hid hui5
      have HB6 : Hid (Below w.heap.size w (w5.setCell ⟨w.heap.size + 1, 2, none⟩ (.slice A6 n1 c6))) := (hb3.trans (hb5.mono (by omega))).setCell (by show _ ≤ w.heap.size + 1; omega) _
      have H35 : Hid ((w5.setCell ⟨w.heap.size + 1, 2, none⟩ (.slice A6 n1 c6)).heap[w.heap.size]? = some (.cells #[.int .i64 0, .int .i64 0, .slice none 0 0, .int .i64 0] 47 (0, 0))) := by
        rw [Below.heap_setCell _ _ _ _ (by show w.heap.size ≠ w.heap.size + 1; omega), hb5.block _ (by omega), Z4.out]; exact h34.out
      clear hui5 hu6
      go_wp2
      go_roundw
      case rel => exact ⟨K + 1, _, _, by omega, by go_num, HUI5, HACC, HTW, H35, HB6.out, by rw [World.size_setCell]; omega⟩
      case measure => simp [intOf]; omega
    · have HTW : Hid (tw = wrongT (ts.take (K + 1))) := by
        rw [HW2.out, if_neg (by rw [← htw.out]; exact hz)]; exact htw.out
      have hd2 : (tw.err == 0) = false := by simpa using hz
      clear htw
      go_wp2
      go_roundw
      case rel => exact ⟨K + 1, _, _, by omega, by go_num, HUI, HACC, HTW, h34, hb4, by omega⟩
      case measure => simp [intOf]; omega
end Go.Proofs.YtmenjcdmdmngcaaGreatDoor
namespace Go.Proofs.YtmenjcdmdmngcaaGreatDoor
set_option linter.unusedVariables false
open Go.RowKit
theorem ll_next {rs : List Rl} {us : List Int} {K : Nat} {k n k' n' : Int} {o o' : Bool} {res : Int × Int × Bool} (h : longLFrom K k n o us (rs.drop K) = res) (hK : K < rs.length)
    (hk : (if hitL rs[K] us n = true then (K : Int) else k) = k') (hn : (if hitL rs[K] us n = true then (rs[K].1.length : Int) else n) = n') (ho : (o || openL rs[K] us) = o') : longLFrom ((K + 1 : Nat) : Int) k' n' o' us (rs.drop (K + 1)) = res := by
  rw [List.drop_eq_getElem_cons hK] at h
  simp only [longLFrom] at h
  rw [hk, hn, ho] at h
  exact h
theorem ll_end {rs : List Rl} {us : List Int} {K : Nat} {k n a b : Int} {o c : Bool} (h : longLFrom K k n o us (rs.drop K) = (a, b, c)) (hK : rs.length ≤ K) : a = k ∧ b = n ∧ c = o := by
  rw [List.drop_of_length_le hK] at h
  simp only [longLFrom, Prod.mk.injEq] at h
  exact ⟨h.1.symm, h.2.1.symm, h.2.2.symm⟩

set_option maxHeartbeats 6400000 in
theorem llongest_any (n n' : Nat) (A A' : Option Addr) (c c' : Nat) (rs : List Rl) (us : List Int) (B B' : Nat) (w : World) (hr : RsAt w B A n c rs) (hn' : n' = us.length) (hr' : Rd w B' A' (us.map (Value.int .i64))) (hl' : n' ≤ c') (hc' : c' ≤ maxLen) (hB : B ≤ w.heap.size) (hB' : B' ≤ w.heap.size) (kf mf : Int) (of_ : Bool) (hv : longL rs us = (kf, mf, of_)) :
    Calls Tryz.prog 54 #[.slice A n c, .slice A' n' c'] w fun e w' => e = .returned (.tuple #[.int .i64 kf, .int .i64 mf, .bool of_]) ∧ Below w.heap.size w w' := by
  have HR := Lib.hid hr
  have HR' := Lib.hid hr'
  have HN' := Lib.hid hn'
  have HV := Lib.hid hv
  have hn1 := hr.fits
  have hn2 := hr.small
  unfold maxLen at hn2 hc'
  clear hr hr' hn' hv
  go_enter Tryz.func54, Tryz.ntmps54
  go_wp2
  go_loopw [7, 8, 9, 14] (fun sk sn so i wr => ∃ (K : Nat) (k n0 : Int) (o : Bool), K ≤ n ∧ i = .int .i64 K ∧ sk = .int .i64 k ∧ sn = .int .i64 n0 ∧ so = .bool o ∧ Below w.heap.size w wr ∧ Hid (longLFrom K k n0 o us (rs.drop K) = (kf, mf, of_))) (fun _ _ _ i _ => n - (intOf i).toNat)
  case atStart => exact ⟨0, -1, 0, false, by omega, rfl, rfl, rfl, rfl, Below.refl _ _, HV.out⟩
  case round =>
    obtain ⟨K, k0, n0, o, hK, rfl, rfl, rfl, rfl, hb, hf⟩ := hrel
    have hsz := hb.size
    by_cases hKn : K = n
    · have hK' : ¬ K < n := by omega
      have HE := Lib.hid (ll_end hf.out (by rw [← HR.out.len, hKn]; omega))
      clear hKn hf
      go_wp2
      go_ret3
      exact ⟨ret_trip HE.out, hb⟩
    have hK' : K < n := by omega
    have hK1 : K < rs.length := by rw [← HR.out.len]; exact hK'
    obtain ⟨b, of2, rfl, hbB, A1, n1, c1, A2, n2, c2, g1, g2, e1, e2, e3, e4, f1, f2, f3, f4⟩ := HR.out.at hK1
    have k1 := (hb.cell (p := ⟨b, of2 + K * 2, none⟩) (by show b < _; omega)).trans g1
    have k2 := (hb.cell (p := ⟨b, of2 + K * 2 + 1, none⟩) (by show b < _; omega)).trans g2
    have k3 : (0 : Int) ≤ K := by omega
    have k4 : (K : Int) < n := by omega
    obtain ⟨In, hIn⟩ : ∃ In, In = rs[K].1 := ⟨_, rfl⟩
    have hhit : hitL rs[K] us n0 = decide (n1 ≤ n' ∧ us.take n1 = In ∧ n0 < n1) := by unfold hitL; rw [← hIn, ← HN'.out, hIn, ← e1]
    have hop : openL rs[K] us = decide (n' < n1 ∧ In.take n' = us) := by unfold openL; rw [← e1, ← HN'.out, hIn]
    rw [← hIn] at e1 e4
    have hba : Below wr.heap.size wr (wr.alloc (.cells #[.slice A1 n1 c1, .slice A2 n2 c2] 97)) := (Below.refl _ _).alloc (Nat.le_refl _) _
    have E1 := Lib.hid e1
    have E4 := Lib.hid e4
    have HH := Lib.hid hhit
    have HO := Lib.hid hop
    have HBA := Lib.hid hba
    have hll := fun (k' n2 : Int) (o' : Bool) => ll_next (k' := k') (n' := n2) (o' := o') hf.out hK1
    have HLL := Lib.hid hll
    have M1 : Hid (n1 ≤ 9223372036854775807) := by unfold maxLen at e3; exact (show n1 ≤ 9223372036854775807 by omega)
    have hnn : rs[K].1.length = n1 := by rw [← hIn, e1]
    have HNN := Lib.hid hnn
    have hE5 : ∀ q, Rd ((wr.alloc (.cells #[.slice A1 n1 c1, .slice A2 n2 c2] 97)).drewN q) B A1 (In.map (Value.int .i64)) := fun q => E4.out.below ((hb.trans (below_dr (HBA.out.mono hsz) q)).mono hB) (Nat.le_refl _)
    have hR5 : ∀ q, Rd ((wr.alloc (.cells #[.slice A1 n1 c1, .slice A2 n2 c2] 97)).drewN q) B' A' (us.map (Value.int .i64)) := fun q => HR'.out.below ((hb.trans (below_dr (HBA.out.mono hsz) q)).mono hB') (Nat.le_refl _)
    have HE5 := Lib.hid hE5
    have HR5 := Lib.hid hR5
    unfold maxLen at e3 f3
    clear g1 g2 e1 e4 f1 f4 hIn hhit hop hba hll hnn hE5 hR5 hKn hf
    by_cases hle : n1 ≤ n'
    · have hd1 : decide ((n1 : Int) ≤ (n' : Int)) = true := by simp; omega
      have hd2 : decide ((n1 : Int) > (n' : Int)) = false := by simp; omega
      have HO2 : Hid (openL rs[K] us = false) := by rw [HO.out]; exact (decide_eq_false (fun h => by omega))
      have HTL : Hid (n1 = (us.take n1).length) := by show n1 = _; rw [List.length_take, ← HN'.out]; omega
      have k5 : n1 ≤ c' := by omega
      have k6 : (0 : Int) ≤ n1 := by omega
      have k7 : (n1 : Int) ≤ n' := by omega
      by_cases he : In = us.take n1
      · have HEQ := Lib.hid (eqB_t he)
        by_cases hlt : n0 < n1
        · have hd3 : decide ((n1 : Int) > n0) = true := by simp; omega
          have hht : hitL rs[K] us n0 = true := by rw [HH.out]; exact decide_eq_true ⟨hle, he.symm, hlt⟩
          have HHT := Lib.hid hht
          clear he hht hlt
          cases o with
          | true =>
            have HL : Hid (longLFrom ((K + 1 : Nat) : Int) K n1 true us (rs.drop (K + 1)) = (kf, mf, of_)) := HLL.out _ _ _ (by rw [if_pos HHT.out]) (by rw [if_pos HHT.out, HNN.out]) (by rw [HO2.out]; rfl)
            go_wp2_with fail
            go_quiet ((go_at_call_of 22 (Value.slice A1 n1 c1); exact Calls.quiet_of (units_v n1 n1 A1 A' c1 c' In (us.take n1) B B' _ true HEQ.out E1.out HTL.out (HE5.out _) (by have h := (HR5.out 0).take n1; rw [← List.map_take] at h; exact h.below (below_dr (Below.refl _ _) _) (Nat.le_refl _)) M1.out)))
            go_wp2_with fail
            go_quiet (fail)
            go_wp2
            go_roundw
            case rel => exact ⟨K + 1, K, n1, true, by omega, by go_num, rfl, rfl, rfl, hb.trans (below_dr (HBA.out.mono hsz) _), HL⟩
            case measure => simp [intOf]; omega
          | false =>
            have HL : Hid (longLFrom ((K + 1 : Nat) : Int) K n1 false us (rs.drop (K + 1)) = (kf, mf, of_)) := HLL.out _ _ _ (by rw [if_pos HHT.out]) (by rw [if_pos HHT.out, HNN.out]) (by rw [HO2.out]; rfl)
            go_wp2_with fail
            go_quiet ((go_at_call_of 22 (Value.slice A1 n1 c1); exact Calls.quiet_of (units_v n1 n1 A1 A' c1 c' In (us.take n1) B B' _ true HEQ.out E1.out HTL.out (HE5.out _) (by have h := (HR5.out 0).take n1; rw [← List.map_take] at h; exact h.below (below_dr (Below.refl _ _) _) (Nat.le_refl _)) M1.out)))
            go_wp2_with fail
            go_quiet (fail)
            go_wp2
            go_roundw
            case rel => exact ⟨K + 1, K, n1, false, by omega, by go_num, rfl, rfl, rfl, hb.trans (below_dr (HBA.out.mono hsz) _), HL⟩
            case measure => simp [intOf]; omega
        · have hd3 : decide ((n1 : Int) > n0) = false := by simp; omega
          have hht : hitL rs[K] us n0 = false := by rw [HH.out]; exact decide_eq_false (fun h => hlt h.2.2)
          have HHT := Lib.hid hht
          clear he hht hlt
          cases o with
          | true =>
            have HL : Hid (longLFrom ((K + 1 : Nat) : Int) k0 n0 true us (rs.drop (K + 1)) = (kf, mf, of_)) := HLL.out _ _ _ (by rw [HHT.out]; rfl) (by rw [HHT.out]; rfl) (by rw [HO2.out]; rfl)
            go_wp2_with fail
            go_quiet ((go_at_call_of 22 (Value.slice A1 n1 c1); exact Calls.quiet_of (units_v n1 n1 A1 A' c1 c' In (us.take n1) B B' _ true HEQ.out E1.out HTL.out (HE5.out _) (by have h := (HR5.out 0).take n1; rw [← List.map_take] at h; exact h.below (below_dr (Below.refl _ _) _) (Nat.le_refl _)) M1.out)))
            go_wp2
            go_roundw
            case rel => exact ⟨K + 1, k0, n0, true, by omega, by go_num, rfl, rfl, rfl, hb.trans (below_dr (HBA.out.mono hsz) _), HL⟩
            case measure => simp [intOf]; omega
          | false =>
            have HL : Hid (longLFrom ((K + 1 : Nat) : Int) k0 n0 false us (rs.drop (K + 1)) = (kf, mf, of_)) := HLL.out _ _ _ (by rw [HHT.out]; rfl) (by rw [HHT.out]; rfl) (by rw [HO2.out]; rfl)
            go_wp2_with fail
            go_quiet ((go_at_call_of 22 (Value.slice A1 n1 c1); exact Calls.quiet_of (units_v n1 n1 A1 A' c1 c' In (us.take n1) B B' _ true HEQ.out E1.out HTL.out (HE5.out _) (by have h := (HR5.out 0).take n1; rw [← List.map_take] at h; exact h.below (below_dr (Below.refl _ _) _) (Nat.le_refl _)) M1.out)))
            go_wp2
            go_roundw
            case rel => exact ⟨K + 1, k0, n0, false, by omega, by go_num, rfl, rfl, rfl, hb.trans (below_dr (HBA.out.mono hsz) _), HL⟩
            case measure => simp [intOf]; omega
      · have HEQ := Lib.hid (eqB_f he)
        · have hht : hitL rs[K] us n0 = false := by rw [HH.out]; exact decide_eq_false (fun h => he h.2.1.symm)
          have HHT := Lib.hid hht
          clear he hht
          cases o with
          | true =>
            have HL : Hid (longLFrom ((K + 1 : Nat) : Int) k0 n0 true us (rs.drop (K + 1)) = (kf, mf, of_)) := HLL.out _ _ _ (by rw [HHT.out]; rfl) (by rw [HHT.out]; rfl) (by rw [HO2.out]; rfl)
            go_wp2_with fail
            go_quiet ((go_at_call_of 22 (Value.slice A1 n1 c1); exact Calls.quiet_of (units_v n1 n1 A1 A' c1 c' In (us.take n1) B B' _ false HEQ.out E1.out HTL.out (HE5.out _) (by have h := (HR5.out 0).take n1; rw [← List.map_take] at h; exact h.below (below_dr (Below.refl _ _) _) (Nat.le_refl _)) M1.out)))
            go_wp2
            go_roundw
            case rel => exact ⟨K + 1, k0, n0, true, by omega, by go_num, rfl, rfl, rfl, hb.trans (below_dr (HBA.out.mono hsz) _), HL⟩
            case measure => simp [intOf]; omega
          | false =>
            have HL : Hid (longLFrom ((K + 1 : Nat) : Int) k0 n0 false us (rs.drop (K + 1)) = (kf, mf, of_)) := HLL.out _ _ _ (by rw [HHT.out]; rfl) (by rw [HHT.out]; rfl) (by rw [HO2.out]; rfl)
            go_wp2_with fail
            go_quiet ((go_at_call_of 22 (Value.slice A1 n1 c1); exact Calls.quiet_of (units_v n1 n1 A1 A' c1 c' In (us.take n1) B B' _ false HEQ.out E1.out HTL.out (HE5.out _) (by have h := (HR5.out 0).take n1; rw [← List.map_take] at h; exact h.below (below_dr (Below.refl _ _) _) (Nat.le_refl _)) M1.out)))
            go_wp2
            go_roundw
            case rel => exact ⟨K + 1, k0, n0, false, by omega, by go_num, rfl, rfl, rfl, hb.trans (below_dr (HBA.out.mono hsz) _), HL⟩
            case measure => simp [intOf]; omega
    · have hd1 : decide ((n1 : Int) ≤ (n' : Int)) = false := by simp; omega
      have hd2 : decide ((n1 : Int) > (n' : Int)) = true := by simp; omega
      have hht : hitL rs[K] us n0 = false := by rw [HH.out]; exact decide_eq_false (fun h => hle h.1)
      have HHT := Lib.hid hht
      have HTL : Hid (n' = (In.take n').length) := by show n' = _; rw [List.length_take, ← E1.out]; omega
      have k5 : n' ≤ c1 := by omega
      have k6 : (0 : Int) ≤ n' := by omega
      have k7 : (n' : Int) ≤ n1 := by omega
      clear hht
      cases o with
      | true =>
        have HL : Hid (longLFrom ((K + 1 : Nat) : Int) k0 n0 true us (rs.drop (K + 1)) = (kf, mf, of_)) := HLL.out _ _ _ (by rw [HHT.out]; rfl) (by rw [HHT.out]; rfl) rfl
        go_wp2_with fail
        go_quiet (fail)
        go_wp2
        go_roundw
        case rel => exact ⟨K + 1, k0, n0, true, by omega, by go_num, rfl, rfl, rfl, hb.trans (below_dr (HBA.out.mono hsz) _), HL⟩
        case measure => simp [intOf]; omega
      | false =>
        by_cases he : In.take n' = us
        · have HEQ := Lib.hid (eqB_t he)
          have HO2 : Hid (openL rs[K] us = true) := by rw [HO.out]; exact decide_eq_true ⟨by omega, he⟩
          have HL : Hid (longLFrom ((K + 1 : Nat) : Int) k0 n0 true us (rs.drop (K + 1)) = (kf, mf, of_)) := HLL.out _ _ _ (by rw [HHT.out]; rfl) (by rw [HHT.out]; rfl) (by rw [HO2.out]; rfl)
          clear he
          go_wp2_with fail
          go_quiet (fail)
          go_wp2_with fail
          refine (units_v n' n' A1 A' c1 c' (In.take n') us B B' _ true HEQ.out HTL.out HN'.out (rd_tk n' (HE5.out _)) (HR5.out _) (by have := M1.out; omega)).mono ?_
          rintro e w1 ⟨rfl, m1, rfl⟩
          go_wp2
          go_roundw
          case rel => exact ⟨K + 1, k0, n0, true, by omega, by go_num, rfl, rfl, rfl, hb.trans (below_dr (HBA.out.mono hsz) _), HL⟩
          case measure => simp [intOf]; omega
        · have HEQ := Lib.hid (eqB_f he)
          have HO2 : Hid (openL rs[K] us = false) := by rw [HO.out]; exact decide_eq_false (fun h => he h.2)
          have HL : Hid (longLFrom ((K + 1 : Nat) : Int) k0 n0 false us (rs.drop (K + 1)) = (kf, mf, of_)) := HLL.out _ _ _ (by rw [HHT.out]; rfl) (by rw [HHT.out]; rfl) (by rw [HO2.out]; rfl)
          clear he
          go_wp2_with fail
          go_quiet (fail)
          go_wp2_with fail
          refine (units_v n' n' A1 A' c1 c' (In.take n') us B B' _ false HEQ.out HTL.out HN'.out (rd_tk n' (HE5.out _)) (HR5.out _) (by have := M1.out; omega)).mono ?_
          rintro e w1 ⟨rfl, m1, rfl⟩
          go_wp2
          go_roundw
          case rel => exact ⟨K + 1, k0, n0, false, by omega, by go_num, rfl, rfl, rfl, hb.trans (below_dr (HBA.out.mono hsz) _), HL⟩
          case measure => simp [intOf]; omega
end Go.Proofs.YtmenjcdmdmngcaaGreatDoor
namespace Go.Proofs.YtmenjcdmdmngcaaGreatDoor
set_option linter.unusedVariables false
open Go.RowKit
theorem TkAt.drewN {w : World} {B : Nat} {A : Option Addr} {n c : Nat} {ts : List Tk} (h : TkAt w B A n c ts) (m : Nat) : TkAt (w.drewN m) B A n c ts := h.below (below_drewN (B := B) (w := w) m) (Nat.le_refl _)
set_option maxHeartbeats 1600000 in
theorem same_tk (n : Nat) (A A' : Option Addr) (c c' : Nat) (ts : List Tk) (B B' : Nat) (w : World) (hr : TkAt w B A n c ts) (hr' : TkAt w B' A' n c' ts) :
    Calls Tryz.prog 14 #[.slice A n c, .slice A' n c'] w fun e w' => e = .returned (.bool true) ∧ ∃ m, w' = w.drewN m := by
  have hn := hr.len
  have hc1 := hr.fits
  have hc2 := hr.small
  unfold maxLen at hc2
  have HN := Lib.hid hn
  have HR := Lib.hid hr
  have HR' := Lib.hid hr'
  clear hr hr' hn
  go_enter Tryz.func14, Tryz.ntmps14
  go_wp2
  go_loopw [13] (fun i wr => ∃ K m : Nat, K ≤ n ∧ i = .int .i64 K ∧ Hid (wr = w.drewN m)) (fun i _ => n - (intOf i).toNat)
  case atStart => exact ⟨0, 0, by omega, rfl, rfl⟩
  case round =>
    obtain ⟨K, m, hK, rfl, HW⟩ := hrel
    by_cases hKl : K = n
    · have hKl' : ¬ K < n := by omega
      clear hKl
      go_wp2
      go_ret
      exact ⟨rfl, m, HW.out⟩
    have hKl' : K < n := by omega
    have hK1 : K < ts.length := by rw [← HN.out]; exact hKl'
    obtain ⟨b, o, rfl, hb, A1, n1, c1, k1, k2, k3, k4, l1, _, hm1, hr1⟩ := TkAt.at (w := wr) (by rw [HW.out]; exact HR.out.drewN m) hK1
    obtain ⟨b', o', rfl, hb', A2, n2, c2, q1, q2, q3, q4, l2, _, hm2, hr2⟩ := TkAt.at (w := wr) (by rw [HW.out]; exact HR'.out.drewN m) hK1
    obtain ⟨P, hP⟩ : ∃ x, x = ts[K].pos := ⟨_, rfl⟩
    obtain ⟨S, hS⟩ : ∃ x, x = ts[K].size := ⟨_, rfl⟩
    obtain ⟨E, hE⟩ : ∃ x, x = ts[K].err := ⟨_, rfl⟩
    obtain ⟨O, hO⟩ : ∃ x, x = ts[K].out := ⟨_, rfl⟩
    rw [← hP] at k1 q1
    rw [← hS] at k2 q2
    rw [← hE] at k4 q4
    rw [← hO] at l1 l2 hr1 hr2
    have l3 : n2 = n1 := by rw [l1, l2]
    subst l3
    have HR1 := Lib.hid hr1
    have HR2 := Lib.hid hr2
    have L1 := Lib.hid l1
    have L2 : Hid (n2 ≤ 9223372036854775807) := by unfold maxLen at hm1; exact (show n2 ≤ 9223372036854775807 by omega)
    clear hP hS hE hO hr1 hr2 l1 l2 hm1 hm2
    have e1 : (P != P) = false := by simp
    have e2 : (S != S) = false := by simp
    have e3 : (E != E) = false := by simp
    have e4 : (0 : Int) ≤ K := by omega
    have e5 : (K : Int) < n := by omega
    have HQ := Lib.hid (show eqB O O = true by simp [eqB])
    go_wp2_with fail
    go_quiet ((go_at_call 22; exact Calls.quiet_of (units_v n2 n2 _ _ _ _ O O B B' _ true HQ.out L1.out L1.out (HR1.out.below (below_drewN (B := B) _) (Nat.le_refl _)) (HR2.out.below (below_drewN (B := B') _) (Nat.le_refl _)) L2.out)))
    go_wp2
    go_roundw
    case rel => exact ⟨K + 1, _, by omega, by go_num, by rw [HW.out, World.drewN_drewN]; rfl⟩
    case measure => simp [intOf]; omega
theorem same_below (n : Nat) (A A' : Option Addr) (c c' : Nat) (ts : List Tk) (B B' : Nat) (w : World) (hr : TkAt w B A n c ts) (hr' : TkAt w B' A' n c' ts) :
    Calls Tryz.prog 14 #[.slice A n c, .slice A' n c'] w fun e w' => e = .returned (.bool true) ∧ Below w.heap.size w w' :=
  (same_tk n A A' c c' ts B B' w hr hr').mono fun e w' ⟨h, m, hm⟩ => ⟨h, by rw [hm]; exact below_drewN m⟩
end Go.Proofs.YtmenjcdmdmngcaaGreatDoor
namespace Go.Proofs.YtmenjcdmdmngcaaGreatDoor
set_option linter.unusedVariables false
open Go.RowKit
set_option maxHeartbeats 1600000 in
theorem first_anyO (w : World) (B T O : Nat) (rs : List Rl) (h : TrieOKO w B T O rs) (hB : B ≤ w.heap.size) (n : Nat) (A : Option Addr) (c : Nat) (us : List Int) (B' : Nat) (hn : n = us.length) (hr : Rd w B' A (us.map (Value.int .i64))) (hB' : B' ≤ w.heap.size) (hnc : n ≤ c) (hc : c ≤ maxLen) (s e : Int) (o : List Int) (hv : stepT rs us = (s, e, o)) (m : Nat) (hm : o.length = m) :
    Calls Tryz.prog 77 #[.pointer (some ⟨T, O, none⟩), .slice A n c] w fun en w' => ∃ A' c', en = .returned (.agg #[.int .i64 0, .int .i64 s, .slice A' m c', .int .i64 e]) ∧ Us (fun b => w.heap.size ≤ b) w' (.slice A' m c') o ∧ Below w.heap.size w w' := by
  obtain ⟨k, l, op, hl, _⟩ := h.good.long us
  have hst := h.good.step hl
  have hsn := h.good.stepN hl
  rw [hv] at hst hsn
  have H := Lib.hid h
  have HL := Lib.hid hl
  have HN := Lib.hid hn
  have HR := Lib.hid hr
  have HM := Lib.hid hm
  have hNu : ∀ w' : World, Us (fun b => w.heap.size ≤ b) w' (.slice none 0 0) [] := fun w' => ⟨none, 0, rfl, by simp, by simp [maxLen], .inl rfl⟩
  have HNU := Lib.hid hNu
  have HST := Lib.hid hst
  have HSN := Lib.hid hsn
  have hba : ∀ o, Below w.heap.size w (w.alloc o) := fun o => (Below.refl _ _).alloc (Nat.le_refl _) _
  have HBA := Lib.hid hba
  clear h hl hn hr hm hv hst hsn hNu hba
  go_enter Tryz.func77, Tryz.ntmps77
  go_wp2_with fail
  refine (long_okO _ B T O rs (H.out.below ((HBA.out _).mono hB) (Nat.le_refl _)) (by simp; omega) n A c us B' HN.out (HR.out.below ((HBA.out _).mono hB') (Nat.le_refl _)) (by simp; omega) hnc hc k l op HL.out).mono ?_
  rintro en w1 ⟨rfl, hb1⟩
  have hbE := (HBA.out _).trans (hb1.mono (by simp))
  have HBE := Lib.hid hbE
  have hblk : w1.heap[w.heap.size]? = some (.cells #[.int .i64 0, .int .i64 0, .slice none 0 0, .int .i64 0] 47 (0, 0)) := (hb1.block w.heap.size (by simp)).trans (heap_alloc_new w _)
  by_cases hk : k < 0
  · have he := HSN.out hk
    injection he with e1 he
    injection he with e2 e3
    subst e1 e2 e3
    have hm0 : m = 0 := by rw [← HM.out]; rfl
    subst hm0
    have hd : decide (k < 0) = true := by simpa using hk
    clear hk hb1 hbE
    go_wp2_with (refine wpList_store_row rfl _ _ _ rfl w.heap.size #[.int .i64 0, .int .i64 1, .slice none 0 0, .int .i64 3] rfl rfl _ _ hblk infotok4 rfl (by simp [Value.oneCell']) ?_)
    have hq := setRow_heap w1 w.heap.size _ #[.int .i64 0, .int .i64 1, .slice none 0 0, .int .i64 3] _ _ hblk
    go_wp2
    refine tok_ret (g := w.heap.size) rfl rfl hq rfl rfl ⟨none, 0, rfl, HNU.out _, below_row HBE.out (Nat.le_refl _) _⟩
  · rcases HST.out with ⟨h1, _⟩ | ⟨q, h1, h2, h3, h4, K, h5, hK, h6, h7⟩
    · exact absurd h1 hk
    injection h7 with e1 h7
    injection h7 with e2 e3
    subst h5
    have hd : decide ((K : Int) < 0) = false := by simp
    have HK := Lib.hid hK
    have HO := Lib.hid e3
    subst e1 e2
    clear hk h6 e3 h1 h2 h3 h4 hbE hb1
    go_wp2_with fail
    refine (out_okO _ B T O rs (H.out.below (HBE.out.mono hB) (Nat.le_refl _)) (by have := HBE.out.size; omega) K HK.out o m HO.out.symm HM.out).mono ?_
    rintro en w2 ⟨A', c', rfl, hu, hb2⟩
    have HU := Lib.hid hu
    have hblk2 : w2.heap[w.heap.size]? = some (.cells #[.int .i64 0, .int .i64 0, .slice none 0 0, .int .i64 0] 47 (0, 0)) := (hb2.block w.heap.size (heap_lt0 hblk)).trans hblk
    have HB2 := Lib.hid (HBE.out.trans (hb2.mono HBE.out.size))
    have hw1 : w.heap.size < w1.heap.size := heap_lt0 hblk
    clear hu hb2 hblk
    go_wp2_with (refine wpList_store_row rfl _ _ _ rfl w.heap.size #[.int .i64 0, .int .i64 s, .slice A' m c', .int .i64 0] rfl rfl _ _ hblk2 infotok4 rfl (by simp [Value.oneCell']) ?_)
    have hq := setRow_heap w2 w.heap.size _ #[.int .i64 0, .int .i64 s, .slice A' m c', .int .i64 0] _ _ hblk2
    go_wp2
    refine tok_ret (g := w.heap.size) rfl rfl hq rfl rfl ⟨A', c', rfl, HU.out.step (by simp) (fun b hb hx => ⟨by have : w1.heap.size ≤ b := hx; omega, setRow_other _ _ _ _ (by have : w1.heap.size ≤ b := hx; omega)⟩), below_row HB2.out (Nat.le_refl _) _⟩

set_option maxHeartbeats 3200000 in
theorem rew_anyO (w : World) (B T O : Nat) (rs : List Rl) (h : TrieOKO w B T O rs) (hB : B ≤ w.heap.size) (n : Nat) (A : Option Addr) (c : Nat) (us : List Int) (B' : Nat) (hn : n = us.length) (hr : Rd w B' A (us.map (Value.int .i64))) (hB' : B' ≤ w.heap.size) (hnc : n ≤ c) (hc : c ≤ maxLen) (hl : n ≤ 1048576) (ts : List Tk) (hv : rewA rs 0 us = ts) :
    Calls Tryz.prog 53 #[.pointer (some ⟨T, O, none⟩), .slice A n c] w fun en w' => ∃ v, en = .returned v ∧ OwnTk w.heap.size w' v ts ∧ Below w.heap.size w w' := by
  obtain ⟨i0, hi, hz0, HZ1, hz2⟩ := info_parts infotok
  have H := Lib.hid h
  have HG := Lib.hid h.good
  have HN := Lib.hid hn
  have HR := Lib.hid hr
  have HV := Lib.hid hv
  unfold maxLen at hc
  clear h hn hr hv
  go_enter Tryz.func53, Tryz.ntmps53
  go_wp2
  go_loopw [5, 6] (fun v i wr => ∃ (K : Nat) (acc : List Tk), K ≤ n ∧ i = .int .i64 K ∧ Hid (OwnTk w.heap.size wr v acc) ∧ acc.length ≤ K ∧ Hid (acc ++ rewA rs K (us.drop K) = ts) ∧ Below w.heap.size w wr) (fun _ i _ => n - (intOf i).toNat)
  case atStart => exact ⟨0, [], by omega, rfl, OwnTk.nil _ _, by simp, HV.out, Below.refl _ _⟩
  case round =>
    obtain ⟨K, acc, hK, rfl, ho, hacc, hf, hb⟩ := hrel
    have hs := hb.size
    by_cases hKn : K = n
    · have hK' : ¬ K < n := by omega
      have HE := Lib.hid (rew_stop hf.out (by rw [← HN.out, hKn]; omega))
      clear hKn
      go_wp2
      go_ret
      exact ⟨_, rfl, by rw [HE.out]; exact ho.out, hb⟩
    have hK' : K < n := by omega
    have hK1 : K < us.length := by rw [← HN.out]; exact hK'
    obtain ⟨s, e, o, hst, hp⟩ := HG.out.stepP (us := us.drop K) (by intro e; rw [List.drop_eq_nil_iff] at e; omega)
    obtain ⟨q, hq⟩ : ∃ q : Nat, s = q := ⟨s.toNat, by have := hp.lo; omega⟩
    have hp2 := hp.hi
    have hp1 := hp.lo
    rw [List.length_drop, ← HN.out] at hp2
    have HE := Lib.hid (rew_next hf.out hK1 hst hp hq)
    subst hq
    obtain ⟨m, hm⟩ : ∃ m, o.length = m := ⟨_, rfl⟩
    have HM := Lib.hid hm
    have HST := Lib.hid hst
    obtain ⟨A3, c3, rfl, hat⟩ := ho.out.form
    have hat2 := hat.fits
    have hat3 := hat.small
    unfold maxLen at hat3
    have k3 : (0 : Int) ≤ K := by omega
    have k4 : (K : Int) ≤ n := by omega
    have hrd := Rd.drop (k := K) (cap := c) (HR.out.below (hb.mono hB') (Nat.le_refl _)) (n := n) (by simp; exact HN.out) (by omega) hnc
    rw [← List.map_drop] at hrd
    have hcapK : ¬ c = K := by omega
    rw [if_neg hcapK] at hrd
    have HRD := Lib.hid hrd
    clear hKn hm hst hp hat hrd
    go_wp2_with fail
    refine (first_anyO wr B T O rs (H.out.below (hb.mono hB) (Nat.le_refl _)) (by omega) (n - K) _ (c - K) (us.drop K) B' (by rw [List.length_drop, HN.out]) HRD.out (by omega) (by omega) (by unfold maxLen; omega) q e o HST.out m HM.out).mono ?_
    rintro en w1 ⟨A', c', rfl, hu, hb1⟩
    have hs1 := hb1.size
    have hbl := hb.trans (hb1.mono hs)
    obtain ⟨xs, hown, hx⟩ := ho.out.below hb1 (Nat.le_refl _)
    have hlow : ∀ x, (Value.slice A3 acc.length c3).ownBlock = some x → w.heap.size ≤ x ∧ x < wr.heap.size := fun x hx => ⟨(hown.lt x hx).1, own_lt (ho.out.choose_spec.1) hx⟩
    have HLOW := Lib.hid hlow
    have HX := Lib.hid hx
    have HU := Lib.hid hu
    clear hx hu hlow
    go_wp2_with (at_builtin; refine wpList_appB _ rfl _ _ 37 rfl w.heap.size 47 i0 _ 4 48 Tryz.underlying37 hi hz0 HZ1 hz2 rfl (by decide) _ _ _ rfl ((hown.alloc _).alloc _) (w1.heap.size + 1 + 1) _ 1 1 [.int .i64 K, .int .i64 q, .slice A' m c', .int .i64 e] rfl rfl ?c1 ?c2 ?c3 ?c4 ?c5 ?_)
    case c1 => exact Rd_newR _ _ _ _ (by simp)
    case c2 => intro u hu; simp at hu; rcases hu with rfl | rfl | rfl | rfl <;> rfl
    case c3 => simp only [maxLen]; omega
    case c4 => omega
    case c5 => simp; omega
    intro v' w4 hown4 hg4 hv4
    have hbA : ∀ o1 o2, Below w1.heap.size w1 ((w1.alloc o1).alloc o2) := fun o1 o2 => ((Below.refl _ _).alloc (Nat.le_refl _) _).alloc (by simp) _
    have hpush : OwnTk w.heap.size w4 v' (acc ++ [⟨K, q, o, e⟩]) := by
      refine tok_push (v := .slice A3 acc.length c3) (xs := xs) (by simpa using hown4) (HX.out.step (hbA _ _).size fun b hb hx => ⟨hx, (hbA _ _).block b hb⟩) ?_ hg4 (by simpa using hv4)
      exact HU.out.step (hbA _ _).size fun b hb hx => ⟨fun e => by have := HLOW.out _ e; have : wr.heap.size ≤ b := hx; omega, (hbA _ _).block b hb⟩
    have hbE : Below w.heap.size w w4 := below_own (hbl.trans ((hbA _ _).mono (by omega))) hg4 ((hown.alloc _).alloc _) (Nat.le_refl _) (by simp; omega)
    have HP := Lib.hid hpush
    clear hown4 hpush hg4 hv4 hbA
    go_wp2
    go_roundw
    case rel => exact ⟨K + q, _, by omega, by go_num, HP, by simp; omega, HE, hbE⟩
    case measure => simp [intOf]; omega
theorem first_any (w : World) (B T : Nat) : ∀ (rs : List Rl) (h : TrieOK w B T rs) (hB : B ≤ w.heap.size) (n : Nat) (A : Option Addr) (c : Nat) (us : List Int) (B' : Nat) (hn : n = us.length) (hr : Rd w B' A (us.map (Value.int .i64))) (hB' : B' ≤ w.heap.size) (hnc : n ≤ c) (hc : c ≤ maxLen) (s e : Int) (o : List Int) (hv : stepT rs us = (s, e, o)) (m : Nat) (hm : o.length = m),
    Calls Tryz.prog 77 #[.pointer (some ⟨T, 0, none⟩), .slice A n c] w fun en w' => ∃ A' c', en = .returned (.agg #[.int .i64 0, .int .i64 s, .slice A' m c', .int .i64 e]) ∧ Us (fun b => w.heap.size ≤ b) w' (.slice A' m c') o ∧ Below w.heap.size w w' := first_anyO w B T 0
theorem rew_any (w : World) (B T : Nat) : ∀ (rs : List Rl) (h : TrieOK w B T rs) (hB : B ≤ w.heap.size) (n : Nat) (A : Option Addr) (c : Nat) (us : List Int) (B' : Nat) (hn : n = us.length) (hr : Rd w B' A (us.map (Value.int .i64))) (hB' : B' ≤ w.heap.size) (hnc : n ≤ c) (hc : c ≤ maxLen) (hl : n ≤ 1048576) (ts : List Tk) (hv : rewA rs 0 us = ts),
    Calls Tryz.prog 53 #[.pointer (some ⟨T, 0, none⟩), .slice A n c] w fun en w' => ∃ v, en = .returned v ∧ OwnTk w.heap.size w' v ts ∧ Below w.heap.size w w' := rew_anyO w B T 0
end Go.Proofs.YtmenjcdmdmngcaaGreatDoor
namespace Go.Proofs.YtmenjcdmdmngcaaGreatDoor
set_option linter.unusedVariables false
open Go.RowKit
set_option maxHeartbeats 3200000 in
theorem lall_any (N : Nat) (A0 : Option Addr) (c0 : Nat) (rs : List Rl) (B : Nat) (w : World) (h : RsAt w B A0 N c0 rs) (hg : Good rs) (hB : B ≤ w.heap.size) (n : Nat) (A : Option Addr) (c : Nat) (us : List Int) (B' : Nat) (hn : n = us.length) (hr : Rd w B' A (us.map (Value.int .i64))) (hB' : B' ≤ w.heap.size) (hnc : n ≤ c) (hc : c ≤ maxLen) (hl : n ≤ 1048576) (ts : List Tk) (hv : rewA rs 0 us = ts) :
    Calls Tryz.prog 29 #[.slice A0 N c0, .slice A n c] w fun en w' => ∃ v, en = .returned v ∧ OwnTk w.heap.size w' v ts ∧ Below w.heap.size w w' := by
  obtain ⟨i0, hi, hz0, HZ1, hz2⟩ := info_parts infotok
  have hc01 := h.fits
  have hc02 := h.small
  have H := Lib.hid h
  have HG := Lib.hid hg
  have HN := Lib.hid hn
  have HR := Lib.hid hr
  have HV := Lib.hid hv
  unfold maxLen at hc hc02
  clear h hg hn hr hv
  go_enter Tryz.func29, Tryz.ntmps29
  go_wp2
  go_loopw [5, 6] (fun v i wr => ∃ (K : Nat) (acc : List Tk), K ≤ n ∧ i = .int .i64 K ∧ Hid (OwnTk w.heap.size wr v acc) ∧ acc.length ≤ K ∧ Hid (acc ++ rewA rs K (us.drop K) = ts) ∧ Below w.heap.size w wr) (fun _ i _ => n - (intOf i).toNat)
  case atStart => exact ⟨0, [], by omega, rfl, OwnTk.nil _ _, by simp, HV.out, Below.refl _ _⟩
  case round =>
    obtain ⟨K, acc, hK, rfl, ho, hacc, hf, hb⟩ := hrel
    have hs := hb.size
    by_cases hKn : K = n
    · have hK' : ¬ K < n := by omega
      have HE := Lib.hid (rew_stop hf.out (by rw [← HN.out, hKn]; omega))
      clear hKn
      go_wp2
      go_ret
      exact ⟨_, rfl, by rw [HE.out]; exact ho.out, hb⟩
    have hK' : K < n := by omega
    have hK1 : K < us.length := by rw [← HN.out]; exact hK'
    have hne : us.drop K ≠ [] := by intro e; rw [List.drop_eq_nil_iff] at e; omega
    obtain ⟨k, l, op, hlo, _⟩ := HG.out.long (us.drop K)
    have HLO := Lib.hid hlo
    have HNE := Lib.hid hne
    obtain ⟨A3, c3, rfl, hat⟩ := ho.out.form
    have hat2 := hat.fits
    have hat3 := hat.small
    unfold maxLen at hat3
    have k3 : (0 : Int) ≤ K := by omega
    have k4 : (K : Int) ≤ n := by omega
    have hrd := Rd.drop (k := K) (cap := c) (HR.out.below (hb.mono hB') (Nat.le_refl _)) (n := n) (by simp; exact HN.out) (by omega) hnc
    rw [← List.map_drop] at hrd
    have hcapK : ¬ c = K := by omega
    rw [if_neg hcapK] at hrd
    have HRD := Lib.hid hrd
    clear hKn hlo hne hat hrd
    go_wp2_with fail
    refine (llongest_any N (n - K) A0 _ c0 (c - K) rs (us.drop K) B B' wr (H.out.below (hb.mono hB) (Nat.le_refl _)) (by rw [List.length_drop, HN.out]) HRD.out (by omega) (by unfold maxLen; omega) (by omega) (by omega) k l op HLO.out).mono ?_
    rintro en w1 ⟨rfl, hb1⟩
    have hs1 := hb1.size
    have hbl := hb.trans (hb1.mono hs)
    obtain ⟨xs, hown, hx⟩ := ho.out.below hb1 (Nat.le_refl _)
    have hlow : ∀ x, (Value.slice A3 acc.length c3).ownBlock = some x → w.heap.size ≤ x ∧ x < wr.heap.size := fun x hx => ⟨(hown.lt x hx).1, own_lt (ho.out.choose_spec.1) hx⟩
    have HLOW := Lib.hid hlow
    have HX := Lib.hid hx
    have hbA : ∀ o1, Below w1.heap.size w1 (w1.alloc o1) := fun o1 => ((Below.refl _ _).alloc (Nat.le_refl _) _)
    have HBA := Lib.hid hbA
    clear hx hlow hbA
    by_cases hk : k < 0
    · have hst := HG.out.stepN HLO.out hk
      obtain ⟨s', e', o', hst', hp⟩ := HG.out.stepP HNE.out
      obtain ⟨rfl, rfl, rfl⟩ : s' = 1 ∧ e' = 3 ∧ o' = [] := by rw [hst] at hst'; simpa [eq_comm] using hst'
      have HE := Lib.hid (rew_next (m := 1) hf.out hK1 hst hp rfl)
      have hd : decide (k < 0) = true := by simpa using hk
      clear hst hst' hp hk
      go_wp2_with (at_builtin; refine wpList_appB _ rfl _ _ 37 rfl w.heap.size 47 i0 _ 4 48 Tryz.underlying37 hi hz0 HZ1 hz2 rfl (by decide) _ _ _ rfl (hown.alloc _) (w1.heap.size + 1) _ 1 1 [.int .i64 K, .int .i64 1, .slice none 0 0, .int .i64 3] rfl rfl ?c1 ?c2 ?c3 ?c4 ?c5 ?_)
      case c1 => exact Rd_newR _ _ _ _ rfl
      case c2 => intro u hu; simp at hu; rcases hu with rfl | rfl | rfl | rfl <;> rfl
      case c3 => simp only [maxLen]; omega
      case c4 => omega
      case c5 => simp; omega
      intro v' w4 hown4 hg4 hv4
      have hpush : OwnTk w.heap.size w4 v' (acc ++ [⟨K, 1, [], 3⟩]) := by
        refine tok_push (v := .slice A3 acc.length c3) (xs := xs) (by simpa using hown4) (HX.out.step (HBA.out _).size fun b hb hx => ⟨hx, (HBA.out _).block b hb⟩) ?_ hg4 (by simpa using hv4)
        exact ⟨none, 0, rfl, by simp, by simp [maxLen], .inl rfl⟩
      have hbE : Below w.heap.size w w4 := below_own (hbl.trans ((HBA.out _).mono (by omega))) hg4 (hown.alloc _) (Nat.le_refl _) (by simp; omega)
      have HP := Lib.hid hpush
      clear hown4 hpush hg4 hv4
      go_wp2
      go_roundw
      case rel => exact ⟨K + 1, _, by omega, by go_num, HP, by simp; omega, HE, hbE⟩
      case measure => simp [intOf]; omega
    · rcases HG.out.step HLO.out with ⟨h1, _⟩ | ⟨q, h1, h2, h3, h4, J, h5, hJ, h6, h7⟩
      · exact absurd h1 hk
      obtain ⟨s', e', o', hst', hp⟩ := HG.out.stepP HNE.out
      obtain ⟨rfl, rfl, rfl⟩ : s' = l ∧ e' = 0 ∧ o' = rs[J].2 := by rw [h7] at hst'; simpa [eq_comm] using hst'
      have HE := Lib.hid (rew_next (m := q) hf.out hK1 hst' hp h1)
      have hJN : J < N := by rw [H.out.len]; exact hJ
      obtain ⟨b, of, rfl, hbB, A1, n1, c1, A2, n2, c2, g1, g2, e1, e2, e3, e4, f1, f2, f3, f4⟩ := H.out.at hJ
      have m2 := (hbl.cell (p := ⟨b, of + J * 2 + 1, none⟩) (by show b < _; omega)).trans g2
      have hd : decide ((J : Int) < 0) = false := by simp
      have k5 : (0 : Int) ≤ J := by omega
      have k6 : (J : Int) < N := by omega
      have hu : Us (fun b => (Value.slice A3 acc.length c3).ownBlock ≠ some b) w1 (.slice A2 n2 c2) rs[J].2 := (us_at f1 f2 f3 (f4.below (hbl.mono hB) (Nat.le_refl _))).step (Nat.le_refl _) fun b _ hx => ⟨fun e => by have := (HLOW.out _ e).1; have : b < B := hx; omega, rfl⟩
      have HU := Lib.hid hu
      rw [List.length_drop, ← HN.out] at h3
      obtain ⟨out, hout⟩ : ∃ out, out = rs[J].2 := ⟨_, rfl⟩
      rw [← hout] at HE HU
      subst h5 h1
      clear hk h6 h7 hst' hp g1 g2 e1 e4 f1 f4 hu hJ hout hb1
      go_wp2_with (at_builtin; refine wpList_appB _ rfl _ _ 37 rfl w.heap.size 47 i0 _ 4 48 Tryz.underlying37 hi hz0 HZ1 hz2 rfl (by decide) _ _ _ rfl (hown.alloc _) (w1.heap.size + 1) _ 1 1 [.int .i64 K, .int .i64 q, .slice A2 n2 c2, .int .i64 0] rfl rfl ?c1 ?c2 ?c3 ?c4 ?c5 ?_)
      case c1 => exact Rd_newR _ _ _ _ rfl
      case c2 => intro u hu; simp at hu; rcases hu with rfl | rfl | rfl | rfl <;> rfl
      case c3 => simp only [maxLen]; omega
      case c4 => omega
      case c5 => simp; omega
      intro v' w4 hown4 hg4 hv4
      have hpush : OwnTk w.heap.size w4 v' (acc ++ [⟨K, q, out, 0⟩]) := by
        refine tok_push (v := .slice A3 acc.length c3) (xs := xs) (by simpa using hown4) (HX.out.step (HBA.out _).size fun b hb hx => ⟨hx, (HBA.out _).block b hb⟩) ?_ hg4 (by simpa using hv4)
        exact HU.out.step (HBA.out _).size fun b hb hx => ⟨hx, (HBA.out _).block b hb⟩
      have hbE : Below w.heap.size w w4 := below_own (hbl.trans ((HBA.out _).mono (by omega))) hg4 (hown.alloc _) (Nat.le_refl _) (by simp; omega)
      have HP := Lib.hid hpush
      clear hown4 hpush hg4 hv4
      go_wp2
      go_roundw
      case rel => exact ⟨K + q, _, by omega, by go_num, HP, by simp; omega, HE, hbE⟩
      case measure => simp [intOf]; omega
end Go.Proofs.YtmenjcdmdmngcaaGreatDoor
