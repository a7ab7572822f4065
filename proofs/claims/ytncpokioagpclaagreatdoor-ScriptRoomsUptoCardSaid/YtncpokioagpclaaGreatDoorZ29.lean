/- Texts of this seat, one behind the other: TrieS, TrieK, TokR, TabE0. -/
import Derived.Test.YtncpokioagpclaaGreatDoorZ28
import Derived.OwnWalk
import Derived.Test.YtncpokioagpclaaGreatDoorZ10
import Derived.Test.YtncpokioagpclaaGreatDoorZ4
namespace Go.Proofs.YtncpokioagpclaaGreatDoor
set_option linter.unusedVariables false
open Go.RowKit
theorem ret_trip {a b a' b' : Int} {c c' : Bool} {k l : IntKind} (h : a = a' ∧ b = b' ∧ c = c') : Ending.returned (.tuple #[.int k a', .int l b', .bool c']) = .returned (.tuple #[.int k a, .int l b, .bool c]) := by rw [h.1, h.2.1, h.2.2]

set_option maxHeartbeats 1600000 in
theorem out_anyO (w : World) (B T O : Nat) (ns : List NodeM) (outs : List (List Int)) (h : TrAtO w B T O ns outs) (hB : B ≤ w.heap.size) (hl : ∀ o ∈ outs, o.length ≤ 17592186044416) (k : Int) (us : List Int) (hu : (if 0 ≤ k ∧ k < outs.length then outs.getD k.toNat [] else []) = us) :
    Calls Tryz.prog 129 #[.pointer (some ⟨T, O, none⟩), .int .i64 k] w fun e w' => ∃ A c, e = .returned (.slice A us.length c) ∧ Us (fun b => w.heap.size ≤ b) w' (.slice A us.length c) us ∧ Below w.heap.size w w' := by
  obtain ⟨A', c', h1, h2, h3, h4⟩ := h.outAt
  obtain ⟨N, hN⟩ : ∃ N, N = outs.length := ⟨_, rfl⟩
  have hNu : Us (fun b => w.heap.size ≤ b) w (.slice none 0 0) [] := ⟨none, 0, rfl, by simp, by simp [maxLen], .inl rfl⟩
  unfold maxLen at h3
  by_cases hk0 : 0 ≤ k
  · obtain ⟨K, rfl⟩ := Int.eq_ofNat_of_zero_le hk0
    by_cases hk1 : K < outs.length
    · have hget : outs[K]? = some us := by
        rw [← hu, if_pos (by omega)]
        simp [List.getD_eq_getElem?_getD, List.getElem?_eq_getElem hk1]
      obtain ⟨b, o, A1, c1, rfl, hb, g1, g2⟩ := h4 K us hget
      obtain ⟨r1, r2, r3, r4⟩ := g2.rd
      have hul := hl us (List.mem_of_getElem? hget)
      obtain ⟨M, hM⟩ : ∃ M, M = us.length := ⟨_, rfl⟩
      rw [← hM] at g1 r1 r2 hul ⊢
      rw [← hN] at h1 h2 hk1
      have HR := Lib.hid r4.rdB
      have HM := Lib.hid hM
      have k3 : (0 : Int) ≤ K := by omega
      have k4 : (K : Int) < N := by omega
      have hd : decide ((K : Int) < 0) = false := by simp
      have hd2 : decide ((K : Int) ≥ N) = false := by simp; omega
      unfold maxLen at r3
      clear h hu hget g2 r4 hM h4 hN r1 hNu hl
      go_enter Tryz.func129, Tryz.ntmps129
      go_wp2_with fail
      refine (clone_any M A1 c1 us B _ HM.out HR.out hB hul).mono ?_
      rintro e w1 ⟨A4, c4, rfl, hu4, hb1⟩
      have HU := Lib.hid hu4
      clear hu4
      go_wp2
      go_ret
      exact ⟨A4, c4, rfl, HU.out, hb1⟩
    · have hus : us = [] := by rw [← hu, if_neg (by omega)]
      subst hus
      rw [← hN] at h1 h2 hk1
      have hd : decide ((K : Int) < 0) = false := by simp
      have hd2 : decide ((K : Int) ≥ N) = true := by simp; omega
      have HNu := Lib.hid hNu
      clear h hu h4 hN hNu hl
      go_enter Tryz.func129, Tryz.ntmps129
      go_wp2
      go_ret
      exact ⟨none, 0, rfl, HNu.out, Below.refl _ _⟩
  · have hus : us = [] := by rw [← hu, if_neg (by omega)]
    subst hus
    have hd : decide (k < 0) = true := by simp; omega
    have HNu := Lib.hid hNu
    clear h hu h4 hN hNu hl
    go_enter Tryz.func129, Tryz.ntmps129
    go_wp2
    go_ret
    exact ⟨none, 0, rfl, HNu.out, Below.refl _ _⟩

set_option maxHeartbeats 3200000 in
theorem tlongest_anyO (w : World) (B T O : Nat) (rs : List Rl) (ns : List NodeM) (outs : List (List Int)) (h : TrAtO w B T O ns outs) (ht : TI (pathsR rs) ns (findR rs)) (hB : B ≤ w.heap.size) (hs : ∀ r ∈ rs, 1 ≤ r.1.length) (hP : (pathsR rs).length ≤ 5000)
    (n : Nat) (A : Option Addr) (c : Nat) (us : List Int) (B' : Nat) (hn : n = us.length) (hr : Rd w B' A (us.map (Value.int .i64))) (hB' : B' ≤ w.heap.size) (hnc : n ≤ c) (hc : c ≤ maxLen) (k m : Int) (o : Bool) (hv : longL rs us = (k, m, o)) :
    Calls Tryz.prog 128 #[.pointer (some ⟨T, O, none⟩), .slice A n c] w fun e w' => e = .returned (.tuple #[.int .i64 k, .int .i64 m, .bool o]) ∧ Below w.heap.size w w' := by
  obtain ⟨P, hPe⟩ : ∃ P, P = pathsR rs := ⟨_, rfl⟩
  rw [← hPe] at ht hP
  have HPe := Lib.hid hPe
  have H := Lib.hid h
  have HT := Lib.hid ht
  have HS := Lib.hid hs
  have HP := Lib.hid hP
  have HN := Lib.hid hn
  have HR := Lib.hid hr
  have HV := Lib.hid hv
  unfold maxLen at hc
  have hroot : [] ∈ P := List.mem_of_getElem? ht.root
  have hi0 : idxP P [] = 0 := idxP_of ht.nodup ht.root
  have HRT := Lib.hid hroot
  have HI0 := Lib.hid hi0
  clear hPe h ht hs hP hn hr hv hroot hi0
  go_enter Tryz.func128, Tryz.ntmps128
  go_wp2
  go_loopw [7, 8, 9, 17] (fun sk sn sa i wr => ∃ (J : Nat) (k n0 : Int), J ≤ n ∧ i = .int .i64 J ∧ sk = .int .i64 k ∧ sn = .int .i64 n0 ∧ sa = .int .i64 (idxP P (us.take J) : Nat) ∧ Hid (BestP (findR rs) us J k n0) ∧ Hid (us.take J ∈ P) ∧ Below w.heap.size w wr) (fun _ _ _ i _ => n - (intOf i).toNat)
  case atStart => exact ⟨0, -1, 0, by omega, rfl, rfl, rfl, by simp [HI0.out], BestP.start _ _, by rw [List.take_zero]; exact HRT, Below.refl _ _⟩
  case round =>
    obtain ⟨J, k0, n0, hJ, rfl, rfl, rfl, rfl, hbest, hin, hb⟩ := hrel
    have hsz := hb.size
    obtain ⟨ka, hka⟩ : ∃ ka, ka = idxP P (us.take J) := ⟨_, rfl⟩
    have hkx : P[ka]? = some (us.take J) := by rw [hka]; exact (idxP_lt hin.out).2
    have hkal : ka < ns.length := by rw [HT.out.len]; exact lt_of_some hkx
    obtain ⟨nd, hnd⟩ : ∃ nd, ns[ka]? = some nd := ⟨_, List.getElem?_eq_getElem hkal⟩
    have hni := HT.out.node ka nd _ hnd hkx
    rw [← hka]
    have HKX := Lib.hid hkx
    have HND := Lib.hid hnd
    have HNI := Lib.hid hni
    have HTr := Lib.hid (H.out.below (hb.mono hB) (Nat.le_refl _))
    by_cases hJn : J = n
    · have hJ' : ¬ J < n := by omega
      have hall : us.take J = us := List.take_of_length_le (by rw [← HN.out]; omega)
      rw [hall] at HNI
      have hbest' : BestP (findR rs) us us.length k0 n0 := by rw [← HN.out, ← hJn]; exact hbest.out
      obtain ⟨v, hv⟩ : ∃ v, v = decide (nd.units.length = 0) := ⟨_, rfl⟩
      have hop : (!v) = true ↔ ∃ u, us ++ [u] ∈ pathsR rs := by
        rw [← HPe.out, hv]
        constructor
        · intro h
          have hne : nd.units ≠ [] := by intro e; rw [e] at h; simp at h
          obtain ⟨u, hu⟩ := List.exists_mem_of_ne_nil _ hne
          exact ⟨u, (HNI.out.units u).1 hu⟩
        · rintro ⟨u, hu⟩
          have := (HNI.out.units u).2 hu
          have hne : nd.units.length ≠ 0 := by intro e; rw [List.eq_nil_of_length_eq_zero e] at this; cases this
          simpa using hne
      have hE : k = k0 ∧ m = n0 ∧ o = !v := by
        have := HV.out.symm.trans (hbest'.all HS.out hop)
        simpa using this
      have HE := Lib.hid hE
      have HVV := Lib.hid hv
      clear hJn hall hbest' hop hE hkx hnd hni hka hkal hv hbest hin
      go_wp2_with fail
      refine (leaf_atO wr B T O ns outs HTr.out ka nd HND.out v HVV.out.symm).mono ?_
      rintro e w1 ⟨rfl, rfl⟩
      go_wp2
      go_ret3
      exact ⟨ret_trip HE.out, hb⟩
    · have hJ' : J < n := by omega
      have hJ1 : J < us.length := by rw [← HN.out]; exact hJ'
      obtain ⟨b1, o1, rfl, hb1B, hcell⟩ := rd_ints HR.out (by omega)
      have hc1 := (hb.cell (p := ⟨b1, o1 + J, none⟩) (by show b1 < _; omega)).trans (hcell J hJ1)
      have hgd : us.getD J 0 = us[J] := by simp [List.getD_eq_getElem?_getD, hJ1]
      obtain ⟨u, hu⟩ : ∃ u, u = us[J] := ⟨_, rfl⟩
      rw [hgd, ← hu] at hc1
      have htk : us.take (J + 1) = us.take J ++ [u] := by rw [hu, List.take_succ_eq_append_getElem hJ1]
      have HTK := Lib.hid htk
      have k5 : (0 : Int) ≤ J := by omega
      have k6 : (J : Int) < n := by omega
      clear hJn hcell hgd hu hkx hnd hni hka hkal htk
      go_wp2_with fail
      by_cases hp : us.take J ++ [u] ∈ P
      · obtain ⟨m1, hm1⟩ : ∃ m1, m1 = idxP P (us.take J ++ [u]) := ⟨_, rfl⟩
        refine (step_atO wr B T O P (findR rs) ns outs HTr.out HT.out (by omega) ka (us.take J) HKX.out u m1 true (by simpa using hp) (by rw [if_pos hp, hm1]) HP.out).mono ?_
        rintro e w1 ⟨rfl, hb1⟩
        have hbE := hb.trans (hb1.mono hsz)
        have hs1 := hbE.size
        have hkx1 : P[m1]? = some (us.take J ++ [u]) := by rw [hm1]; exact (idxP_lt hp).2
        have hkl1 : m1 < ns.length := by rw [HT.out.len]; exact lt_of_some hkx1
        obtain ⟨nd1, hnd1⟩ : ∃ nd1, ns[m1]? = some nd1 := ⟨_, List.getElem?_eq_getElem hkl1⟩
        have hni1 := HT.out.node m1 nd1 _ hnd1 hkx1
        obtain ⟨r, hr1⟩ : ∃ r, nd1.rule = r := ⟨_, rfl⟩
        have hfr : findR rs (us.take (J + 1)) = r := by rw [HTK.out, ← hni1.rule, hr1]
        have HTr1 := Lib.hid (H.out.below (hbE.mono hB) (Nat.le_refl _))
        have HND1 := Lib.hid hnd1
        have HR1 := Lib.hid hr1
        have HFR := Lib.hid hfr
        have hm2 : m1 = idxP P (us.take (J + 1)) := by rw [HTK.out]; exact hm1
        have hin1 : Hid (us.take (J + 1) ∈ P) := by rw [HTK.out]; exact hp
        have HM2 := Lib.hid hm2
        clear hm1 hkx1 hkl1 hnd1 hni1 hr1 hfr hp hm2 hb1
        go_wp2_with fail
        refine (rule_atO w1 B T O ns outs HTr1.out m1 nd1 HND1.out r HR1.out).mono ?_
        rintro e w2 ⟨rfl, rfl⟩
        by_cases hr0 : r = -1
        · have hb2 : Hid (BestP (findR rs) us (J + 1) k0 n0) := hbest.out.stay (by rw [HFR.out, hr0])
          subst hr0
          go_wp2
          go_roundw
          case rel => exact ⟨J + 1, k0, n0, by omega, by go_num, rfl, rfl, by rw [← HM2.out], hb2, hin1, hbE⟩
          case measure => simp [intOf]; omega
        · have hb2 : Hid (BestP (findR rs) us (J + 1) r ((J : Int) + 1)) := by
            have h := hbest.out.move (by rw [HFR.out]; exact hr0)
            rw [HFR.out] at h; exact h
          have hd : decide (r ≠ -1) = true := by simpa using hr0
          go_wp2
          go_roundw
          case rel => exact ⟨J + 1, r, (J : Int) + 1, by omega, by go_num, rfl, rfl, by rw [← HM2.out], hb2, hin1, hbE⟩
          case measure => simp [intOf]; omega
      · refine (step_atO wr B T O P (findR rs) ns outs HTr.out HT.out (by omega) ka (us.take J) HKX.out u 0 false (by simpa using hp) (by rw [if_neg hp]) HP.out).mono ?_
        rintro e w1 ⟨rfl, hb1⟩
        have hbE := hb.trans (hb1.mono hsz)
        have hE : k = k0 ∧ m = n0 ∧ o = false := by
          have := HV.out.symm.trans (hbest.out.stop HS.out hJ1 (by rw [← HPe.out, HTK.out]; exact hp))
          simpa using this
        have HE := Lib.hid hE
        clear hE hp hb1 hbest hin
        go_wp2
        go_ret3
        exact ⟨ret_trip HE.out, hbE⟩
end Go.Proofs.YtncpokioagpclaaGreatDoor
namespace Go.Proofs.YtncpokioagpclaaGreatDoor
set_option linter.unusedVariables false
open Go.RowKit
/-- at cell O of block T, below block B, lies the trie of rules that are right -/
structure TrieOKO (w : World) (B T O : Nat) (rs : List Rl) : Prop where
  good : Good rs
  is : ∃ ns, TrAtO w B T O ns (rs.map (·.2)) ∧ TI (pathsR rs) ns (findR rs)
theorem TrieOKO.below {w w' : World} {B B' T O : Nat} {rs : List Rl} (h : TrieOKO w B T O rs) (hb : Below B w w') (hB : B ≤ B') : TrieOKO w' B' T O rs := by
  obtain ⟨hg, ns, h1, h2⟩ := h
  exact ⟨hg, ns, h1.below hb hB, h2⟩
/-- a trie that begins its block -/
abbrev TrieOK (w : World) (B T : Nat) (rs : List Rl) : Prop := TrieOKO w B T 0 rs
/-- the same two cells elsewhere are the same trie -/
theorem TrieOKO.copy {w w' : World} {B B' T O R Q : Nat} {rs : List Rl} (h : TrieOKO w B T O rs) (hb : Below B w w') (hB : B ≤ B') (hR : R < B') (h0 : ∀ v, w.cell? ⟨T, O, none⟩ = some v → w'.cell? ⟨R, Q, none⟩ = some v) (h1 : ∀ v, w.cell? ⟨T, O + 1, none⟩ = some v → w'.cell? ⟨R, Q + 1, none⟩ = some v) : TrieOKO w' B' R Q rs := by
  obtain ⟨hg, ns, g, h2⟩ := h
  exact ⟨hg, ns, g.copy hb hB hR h0 h1, h2⟩
theorem long_okO (w : World) (B T O : Nat) (rs : List Rl) (h : TrieOKO w B T O rs) (hB : B ≤ w.heap.size) (n : Nat) (A : Option Addr) (c : Nat) (us : List Int) (B' : Nat) (hn : n = us.length) (hr : Rd w B' A (us.map (Value.int .i64))) (hB' : B' ≤ w.heap.size) (hnc : n ≤ c) (hc : c ≤ maxLen) (k m : Int) (o : Bool) (hv : longL rs us = (k, m, o)) :
    Calls Tryz.prog 128 #[.pointer (some ⟨T, O, none⟩), .slice A n c] w fun e w' => e = .returned (.tuple #[.int .i64 k, .int .i64 m, .bool o]) ∧ Below w.heap.size w w' := by
  obtain ⟨hg, ns, h1, h2⟩ := h
  exact tlongest_anyO w B T O rs ns _ h1 h2 hB (fun r hr => (hg.side r hr).1) (paths_le hg) n A c us B' hn hr hB' hnc hc k m o hv
theorem out_okO (w : World) (B T O : Nat) (rs : List Rl) (h : TrieOKO w B T O rs) (hB : B ≤ w.heap.size) (k : Nat) (hk : k < rs.length) (us : List Int) (m : Nat) (hu : rs[k].2 = us) (hm : us.length = m) :
    Calls Tryz.prog 129 #[.pointer (some ⟨T, O, none⟩), .int .i64 k] w fun e w' => ∃ A c, e = .returned (.slice A m c) ∧ Us (fun b => w.heap.size ≤ b) w' (.slice A m c) us ∧ Below w.heap.size w w' := by
  obtain ⟨hg, ns, h1, h2⟩ := h
  subst hm
  refine out_anyO w B T O ns _ h1 hB ?_ k us ?_
  · intro o ho
    obtain ⟨r, hr, rfl⟩ := List.mem_map.1 ho
    have := (hg.side r hr).2.2.2.1
    omega
  · rw [List.length_map, if_pos (by omega), ← hu]
    simp [List.getD_eq_getElem?_getD, List.getElem?_eq_getElem hk]
theorem long_ok (w : World) (B T : Nat) : ∀ (rs : List Rl) (h : TrieOK w B T rs) (hB : B ≤ w.heap.size) (n : Nat) (A : Option Addr) (c : Nat) (us : List Int) (B' : Nat) (hn : n = us.length) (hr : Rd w B' A (us.map (Value.int .i64))) (hB' : B' ≤ w.heap.size) (hnc : n ≤ c) (hc : c ≤ maxLen) (k m : Int) (o : Bool) (hv : longL rs us = (k, m, o)),
    Calls Tryz.prog 128 #[.pointer (some ⟨T, 0, none⟩), .slice A n c] w fun e w' => e = .returned (.tuple #[.int .i64 k, .int .i64 m, .bool o]) ∧ Below w.heap.size w w' := long_okO w B T 0
theorem out_ok (w : World) (B T : Nat) : ∀ (rs : List Rl) (h : TrieOK w B T rs) (hB : B ≤ w.heap.size) (k : Nat) (hk : k < rs.length) (us : List Int) (m : Nat) (hu : rs[k].2 = us) (hm : us.length = m),
    Calls Tryz.prog 129 #[.pointer (some ⟨T, 0, none⟩), .int .i64 k] w fun e w' => ∃ A c, e = .returned (.slice A m c) ∧ Us (fun b => w.heap.size ≤ b) w' (.slice A m c) us ∧ Below w.heap.size w w' := out_okO w B T 0
end Go.Proofs.YtncpokioagpclaaGreatDoor
namespace Go.Proofs.YtncpokioagpclaaGreatDoor
set_option linter.unusedVariables false
open Go.RowKit
theorem infotok4 : (Tryz.prog.info? 51).map (·.size) = some 4 := by kernel_rfl
/-- a token handed back out of a cell of the frame -/
theorem tok_ret {fn : Func} {p : Tmp} {a : Act} {w : World} {R : Ending → World → Prop} {g : Nat} {cs : Array Value} {t : TypeId} {fr : Nat × Nat} (h : fn.results = #[.cell p 51]) (hp : a.tmps.getD p undef = .pointer (some ⟨g, 0, none⟩)) (hg : w.heap[g]? = some (.cells cs t fr)) (hs : cs.size = 4)
    (hd : a.defers = []) (hR : R (.returned (.agg cs)) w) : bodyPost Tryz.prog fn R .ret a w :=
  bodyPost_ret (results_cell_row h a.tmps w g t cs fr _ hp hg Tryz.underlying51 rfl (by rw [infotok4, hs])) hd hR
end Go.Proofs.YtncpokioagpclaaGreatDoor
namespace Go.Proofs.YtncpokioagpclaaGreatDoor
set_option linter.unusedVariables false
set_option linter.unusedSimpArgs false
set_option linter.unnecessarySimpa false
open Go.RowKit
theorem Tks.setTok {X : Nat → Prop} {w : World} {p z e : Int} {o : Value} {u : List Int} (hu : Us X w o u) : ∀ {xs : List Value} {ts : List Tk} (k : Nat), k < ts.length → Tks X w xs ts →
    Tks X w ((((xs.set (k * 4) (.int .i64 p)).set (k * 4 + 1) (.int .i64 z)).set (k * 4 + 2) o).set (k * 4 + 3) (.int .i64 e)) (ts.set k ⟨p, z, u, e⟩)
  | [], [], k, h, _ => by simp at h
  | a :: b :: s :: d :: xs, t' :: ts, 0, h, ⟨g1, g2, g3, g4, g5⟩ => ⟨rfl, rfl, hu, rfl, g5⟩
  | a :: b :: s :: d :: xs, t' :: ts, k + 1, h, ⟨g1, g2, g3, g4, g5⟩ => by
    have := Tks.setTok (p := p) (z := z) (e := e) hu k (by simpa using h) g5
    have e0 : (k + 1) * 4 = k * 4 + 1 + 1 + 1 + 1 := by omega
    rw [e0]
    exact ⟨g1, g2, g3, g4, this⟩
theorem us_nil (X : Nat → Prop) (w : World) : Us X w (.slice none 0 0) [] := ⟨none, 0, rfl, Nat.le_refl _, by simp [maxLen], .inl rfl⟩
theorem joinT_yes {rs : List (List Int × List Int)} {ah : List Int} {t : Tk} (h0 : t.err = 0) (h : joinsR rs ah t.out = true) : joinT rs ah t = ⟨t.pos, t.size, [], 3⟩ := by unfold joinT; rw [if_pos ⟨h0, h⟩]
end Go.Proofs.YtncpokioagpclaaGreatDoor
