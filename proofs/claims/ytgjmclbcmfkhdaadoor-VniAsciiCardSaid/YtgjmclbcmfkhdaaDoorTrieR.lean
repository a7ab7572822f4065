/- Layer 4: a trie that is read. -/
import Derived.Test.YtgjmclbcmfkhdaaDoorTrieB
import Derived.Test.YtgjmclbcmfkhdaaDoorTrieN
import Derived.Test.YtgjmclbcmfkhdaaDoorRuleH
namespace Go.Proofs.YtgjmclbcmfkhdaaDoor
set_option linter.unusedVariables false
open Go.RowKit
/-- the trie at block T, all of it below block B -/
structure TrAt (w : World) (B T : Nat) (ns : List NodeM) (outs : List (List Int)) : Prop where
  inb : T < B
  lies : ∃ A c xs A' c' ys, ∃ V : Nat → Value, w.cell? ⟨T, 0, none⟩ = some (.slice A ns.length c) ∧ ns.length ≤ c ∧ c ≤ maxLen ∧ Rd w B A xs ∧ xs.length = ns.length * 3 ∧
    w.cell? ⟨T, 1, none⟩ = some (.slice A' outs.length c') ∧ outs.length ≤ c' ∧ c' ≤ maxLen ∧ Rd w B A' ys ∧ ys.length = outs.length ∧
    (∀ (k : Nat) nd, ns[k]? = some nd → xs[k * 3]? = some (.int .i64 nd.rule) ∧ xs[k * 3 + 1]? = some (V (k * 2)) ∧ xs[k * 3 + 2]? = some (V (k * 2 + 1)) ∧ Us (· < B) w (V (k * 2)) nd.units ∧ Us (· < B) w (V (k * 2 + 1)) nd.next) ∧
    (∀ (k : Nat) o, outs[k]? = some o → ∃ y, ys[k]? = some y ∧ Us (· < B) w y o)
theorem us_of_own {w : World} {base : Nat} {v : Value} {zs : List Int} (h : OwnI .i64 3 w base v zs) : Us (· < w.heap.size) w v zs := by
  obtain ⟨A, c, e, h1, h2⟩ := own_form h
  have h3 : Rd w w.heap.size A (zs.map (Value.int .i64)) := Rd.own (by have h' := h; unfold OwnI at h'; rw [e] at h'; exact h')
  exact ⟨A, c, e, h1, h2, h3.rdx⟩
theorem OwnTx.at {base T : Nat} {w : World} {ns : List NodeM} {outs : List (List Int)} {nV oV : Value} {xs ys : List Value} {V : Nat → Value} (h : OwnTx base w T ns outs nV oV xs ys V) : TrAt w w.heap.size T ns outs := by
  obtain ⟨A, c, e1, h1, h2⟩ := own_form h.nodes
  obtain ⟨A', c', e2, h3, h4⟩ := own_form h.orow
  subst e1 e2
  refine ⟨h.size, A, c, xs, A', c', ys, V, h.boxes.1, h1, h2, Rd.own h.nodes, h.xlen, h.boxes.2.1, h3, h4, Rd.own h.orow, by have := h.orow.1; omega, ?_, ?_⟩
  · intro k nd hk
    obtain ⟨g1, g2, g3, g4, g5⟩ := h.node k nd hk
    exact ⟨g1, g2, g3, us_of_own g4, us_of_own g5⟩
  · intro k o hk
    obtain ⟨y, g1, g2⟩ := h.out k o hk
    exact ⟨y, g1, g2.step (Nat.le_refl _) fun b hb _ => ⟨hb, rfl⟩⟩
theorem TrAt.below {w w' : World} {B B' T : Nat} {ns : List NodeM} {outs : List (List Int)} (h : TrAt w B T ns outs) (hb : Below B w w') (hB : B ≤ B') : TrAt w' B' T ns outs := by
  obtain ⟨h0, A, c, xs, A', c', ys, V, h1, h2, h3, h4, h5, h6, h7, h8, h9, h10, h11, h12⟩ := h
  have st : ∀ {v : Value} {zs : List Int}, Us (· < B) w v zs → Us (· < B') w' v zs := fun h => h.step hb.size fun b _ hl => ⟨Nat.lt_of_lt_of_le hl hB, hb.block b hl⟩
  refine ⟨by omega, A, c, xs, A', c', ys, V, (hb.cell (p := ⟨T, 0, none⟩) h0).trans h1, h2, h3, h4.below hb hB, h5, (hb.cell (p := ⟨T, 1, none⟩) h0).trans h6, h7, h8, h9.below hb hB, h10, ?_, ?_⟩
  · intro k nd hk
    obtain ⟨g1, g2, g3, g4, g5⟩ := h11 k nd hk
    exact ⟨g1, g2, g3, st g4, st g5⟩
  · intro k o hk
    obtain ⟨y, g1, g2⟩ := h12 k o hk
    exact ⟨y, g1, st g2⟩
theorem TrAt.head {w : World} {B T : Nat} {ns : List NodeM} {outs : List (List Int)} (h : TrAt w B T ns outs) : ∃ A c, w.cell? ⟨T, 0, none⟩ = some (.slice A ns.length c) ∧ ns.length ≤ c ∧ c ≤ maxLen := by
  obtain ⟨h0, A, c, xs, A', c', ys, V, h1, h2, h3, _⟩ := h
  exact ⟨A, c, h1, h2, h3⟩
theorem TrAt.at {w : World} {B T : Nat} {ns : List NodeM} {outs : List (List Int)} (h : TrAt w B T ns outs) {k : Nat} {nd : NodeM} (hk : ns[k]? = some nd) :
    ∃ b o c, w.cell? ⟨T, 0, none⟩ = some (.slice (some ⟨b, o, none⟩) ns.length c) ∧ b < B ∧ ns.length ≤ c ∧ c ≤ maxLen ∧ ∃ A1 c1 A2 c2, w.cell? ⟨b, o + k * 3, none⟩ = some (.int .i64 nd.rule) ∧ w.cell? ⟨b, o + k * 3 + 1, none⟩ = some (.slice A1 nd.units.length c1) ∧ w.cell? ⟨b, o + k * 3 + 2, none⟩ = some (.slice A2 nd.next.length c2) ∧
      Us (· < B) w (.slice A1 nd.units.length c1) nd.units ∧ Us (· < B) w (.slice A2 nd.next.length c2) nd.next := by
  obtain ⟨h0, A, c, xs, A', c', ys, V, h1, h2, h3, h4, h5, h6, h7, h8, h9, h10, h11, h12⟩ := h
  have hkl := lt_of_some hk
  obtain ⟨g1, g2, g3, g4, g5⟩ := h11 k nd hk
  obtain ⟨A1, c1, e1, _⟩ := id g4
  obtain ⟨A2, c2, e2, _⟩ := id g5
  rcases h4 with h | ⟨b, off, k1, k2, k3⟩
  · rw [h] at h5; simp only [List.length_nil] at h5; omega
  · subst k1
    refine ⟨b, off, c, h1, k2, h2, h3, A1, c1, A2, c2, (k3 _ (by omega)).trans g1, ?_, ?_, by rw [← e1]; exact g4, by rw [← e2]; exact g5⟩
    · rw [Nat.add_assoc, k3 _ (by omega), g2, e1]
    · rw [Nat.add_assoc, k3 _ (by omega), g3, e2]
theorem TrAt.outAt {w : World} {B T : Nat} {ns : List NodeM} {outs : List (List Int)} (h : TrAt w B T ns outs) : ∃ A' c', w.cell? ⟨T, 1, none⟩ = some (.slice A' outs.length c') ∧ outs.length ≤ c' ∧ c' ≤ maxLen ∧
    ∀ (k : Nat) us, outs[k]? = some us → ∃ b o A1 c1, A' = some ⟨b, o, none⟩ ∧ b < B ∧ w.cell? ⟨b, o + k, none⟩ = some (.slice A1 us.length c1) ∧ Us (· < B) w (.slice A1 us.length c1) us := by
  obtain ⟨h0, A, c, xs, A', c', ys, V, h1, h2, h3, h4, h5, h6, h7, h8, h9, h10, h11, h12⟩ := h
  refine ⟨A', c', h6, h7, h8, fun k us hk => ?_⟩
  have hkl := lt_of_some hk
  obtain ⟨y, g1, g2⟩ := h12 k us hk
  obtain ⟨A1, c1, e1, _⟩ := id g2
  rcases h9 with h | ⟨b, off, k1, k2, k3⟩
  · rw [h] at h10; simp only [List.length_nil] at h10; omega
  · exact ⟨b, off, A1, c1, k1, k2, by rw [k3 _ (by omega), g1, e1], by rw [← e1]; exact g2⟩

set_option maxHeartbeats 800000 in
theorem has_any (w : World) (B T : Nat) (ns : List NodeM) (outs : List (List Int)) (h : TrAt w B T ns outs) (k : Int) (b : Bool) (hb : decide (0 ≤ k ∧ k < ns.length) = b) :
    Calls Tryd.prog 54 #[.pointer (some ⟨T, 0, none⟩), .int .i64 k] w fun e w' => e = .returned (.bool b) ∧ w' = w := by
  obtain ⟨A, c, h1, h2, h3⟩ := h.head
  obtain ⟨N, hN⟩ : ∃ N, N = ns.length := ⟨_, rfl⟩
  rw [← hN] at h1 h2 hb
  unfold maxLen at h3
  have HB := Lib.hid hb
  clear h hN hb
  go_enter Tryd.func54, Tryd.ntmps54
  by_cases hk0 : 0 ≤ k
  · have hg : decide (k ≥ 0) = true := by simp; omega
    by_cases hk1 : k < N
    · have hd : decide (k < (N : Int)) = true := by simp; omega
      go_wp2
      go_ret
      exact ⟨ret_bool (by rw [← HB.out]; simp [hk0, hk1]), rfl⟩
    · have hd : decide (k < (N : Int)) = false := by simp; omega
      go_wp2
      go_ret
      exact ⟨ret_bool (by rw [← HB.out]; simp [hk1]), rfl⟩
  · have hg : decide (k ≥ 0) = false := by simp; omega
    go_wp2
    go_ret
    exact ⟨ret_bool (by rw [← HB.out]; simp; omega), rfl⟩

set_option maxHeartbeats 800000 in
theorem rule_at (w : World) (B T : Nat) (ns : List NodeM) (outs : List (List Int)) (h : TrAt w B T ns outs) (k : Nat) (nd : NodeM) (hk : ns[k]? = some nd) (r : Int) (hr : nd.rule = r) :
    Calls Tryd.prog 50 #[.pointer (some ⟨T, 0, none⟩), .int .i64 k] w fun e w' => e = .returned (.int .i64 r) ∧ w' = w := by
  have hkl := lt_of_some hk
  obtain ⟨b, o, c, h1, h2, h3, h4, A1, c1, A2, c2, g1, _⟩ := h.at hk
  obtain ⟨N, hN⟩ : ∃ N, N = ns.length := ⟨_, rfl⟩
  rw [hr] at g1
  have H := Lib.hid h
  have hd : decide (0 ≤ (k : Int) ∧ (k : Int) < ns.length) = true := by simp; omega
  rw [← hN] at h1 h3 hkl
  unfold maxLen at h4
  have HD := Lib.hid hd
  have k3 : (0 : Int) ≤ k := by omega
  have k4 : (k : Int) < N := by omega
  clear h hd hk hr hN
  go_enter Tryd.func50, Tryd.ntmps50
  go_wp2_with fail
  refine (has_any w B T ns outs H.out k true HD.out).mono ?_
  rintro e w1 ⟨rfl, rfl⟩
  go_wp2
  go_ret
  exact ⟨rfl, rfl⟩
set_option maxHeartbeats 800000 in
theorem rule_out (w : World) (B T : Nat) (ns : List NodeM) (outs : List (List Int)) (h : TrAt w B T ns outs) (k : Int) (hk : ¬ (0 ≤ k ∧ k < ns.length)) :
    Calls Tryd.prog 50 #[.pointer (some ⟨T, 0, none⟩), .int .i64 k] w fun e w' => e = .returned (.int .i64 (-1)) ∧ w' = w := by
  have H := Lib.hid h
  have HD := Lib.hid (show decide (0 ≤ k ∧ k < ns.length) = false by simpa using hk)
  clear h hk
  go_enter Tryd.func50, Tryd.ntmps50
  go_wp2_with fail
  refine (has_any w B T ns outs H.out k false HD.out).mono ?_
  rintro e w1 ⟨rfl, rfl⟩
  go_wp2
  go_ret
  exact ⟨rfl, rfl⟩

set_option maxHeartbeats 800000 in
theorem leaf_at (w : World) (B T : Nat) (ns : List NodeM) (outs : List (List Int)) (h : TrAt w B T ns outs) (k : Nat) (nd : NodeM) (hk : ns[k]? = some nd) (v : Bool) (hv : decide (nd.units.length = 0) = v) :
    Calls Tryd.prog 51 #[.pointer (some ⟨T, 0, none⟩), .int .i64 k] w fun e w' => e = .returned (.bool v) ∧ w' = w := by
  have hkl := lt_of_some hk
  obtain ⟨b, o, c, h1, h2, h3, h4, A1, c1, A2, c2, g1, g2, g3, g4, g5⟩ := h.at hk
  obtain ⟨N, hN⟩ : ∃ N, N = ns.length := ⟨_, rfl⟩
  obtain ⟨M, hM⟩ : ∃ M, M = nd.units.length := ⟨_, rfl⟩
  rw [← hM] at g2 hv
  have H := Lib.hid h
  have hd : decide (0 ≤ (k : Int) ∧ (k : Int) < ns.length) = true := by simp; omega
  rw [← hN] at h1 h3 hkl
  unfold maxLen at h4
  have HD := Lib.hid hd
  have HV := Lib.hid hv
  have k3 : (0 : Int) ≤ k := by omega
  have k4 : (k : Int) < N := by omega
  clear h hd hk hN hv hM g1 g3 g4 g5
  go_enter Tryd.func51, Tryd.ntmps51
  go_wp2_with fail
  refine (has_any w B T ns outs H.out k true HD.out).mono ?_
  rintro e w1 ⟨rfl, rfl⟩
  go_wp2
  go_ret
  exact ⟨ret_bool (by first | exact HV.out | exact HV.out.symm | (rw [← HV.out]; apply decide_eq_decide.2; omega)), rfl⟩
set_option maxHeartbeats 800000 in
theorem leaf_out (w : World) (B T : Nat) (ns : List NodeM) (outs : List (List Int)) (h : TrAt w B T ns outs) (k : Int) (hk : ¬ (0 ≤ k ∧ k < ns.length)) :
    Calls Tryd.prog 51 #[.pointer (some ⟨T, 0, none⟩), .int .i64 k] w fun e w' => e = .returned (.bool true) ∧ w' = w := by
  have H := Lib.hid h
  have HD := Lib.hid (show decide (0 ≤ k ∧ k < ns.length) = false by simpa using hk)
  clear h hk
  go_enter Tryd.func51, Tryd.ntmps51
  go_wp2_with fail
  refine (has_any w B T ns outs H.out k false HD.out).mono ?_
  rintro e w1 ⟨rfl, rfl⟩
  go_wp2
  go_ret
  exact ⟨rfl, rfl⟩

set_option maxHeartbeats 1600000 in
theorem step_out (w : World) (B T : Nat) (ns : List NodeM) (outs : List (List Int)) (h : TrAt w B T ns outs) (k u : Int) (hk : ¬ (0 ≤ k ∧ k < ns.length)) :
    Calls Tryd.prog 49 #[.pointer (some ⟨T, 0, none⟩), .int .i64 k, .int .i64 u] w fun e w' => e = .returned (.tuple #[.int .i64 0, .bool false]) ∧ Below w.heap.size w w' := by
  have H := Lib.hid h
  have HD := Lib.hid (show decide (0 ≤ k ∧ k < ns.length) = false by simpa using hk)
  clear h hk
  go_enter Tryd.func49, Tryd.ntmps49
  go_wp2_with fail
  refine (has_any w B T ns outs H.out k false HD.out).mono ?_
  rintro e w1 ⟨rfl, rfl⟩
  go_wp2
  go_ret2
  exact ⟨rfl, Below.refl _ _⟩
set_option maxHeartbeats 1600000 in
theorem step_at (w : World) (B T : Nat) (P : List (List Int)) (f : List Int → Int) (ns : List NodeM) (outs : List (List Int)) (h : TrAt w B T ns outs) (ht : TI P ns f) (hB : B ≤ w.heap.size) (k : Nat) (x : List Int) (hx : P[k]? = some x) (u : Int) (m : Nat) (v : Bool)
    (hv : decide (x ++ [u] ∈ P) = v) (hm : (if x ++ [u] ∈ P then idxP P (x ++ [u]) else 0) = m) (hP : P.length ≤ 5000) :
    Calls Tryd.prog 49 #[.pointer (some ⟨T, 0, none⟩), .int .i64 k, .int .i64 u] w fun e w' => e = .returned (.tuple #[.int .i64 m, .bool v]) ∧ Below w.heap.size w w' := by
  have hkP := lt_of_some hx
  have hkl : k < ns.length := by rw [ht.len]; exact hkP
  obtain ⟨nd, hk⟩ : ∃ nd, ns[k]? = some nd := ⟨_, List.getElem?_eq_getElem hkl⟩
  obtain ⟨b, o, c, h1, h2, h3, h4, A1, c1, A2, c2, g1, g2, g3, g4, g5⟩ := h.at hk
  have hni := ht.node k nd x hk hx
  obtain ⟨N, hN⟩ : ∃ N, N = ns.length := ⟨_, rfl⟩
  obtain ⟨M, hM⟩ : ∃ M, M = nd.units.length := ⟨_, rfl⟩
  have hM2 : nd.next.length = M := by rw [hni.lens, hM]
  rw [hM2] at g3 g5
  rw [← hM] at g2 g4
  obtain ⟨q1, q2, q3, q4⟩ := g4.rd
  obtain ⟨r1, r2, r3, r4⟩ := g5.rd
  have hMs : M ≤ 5000 := by have := hni.small; omega
  obtain ⟨p, hp⟩ : ∃ p, posN nd.units u = p := ⟨_, rfl⟩
  have hpl : p ≤ M := by rw [← hp, hM]; exact posN_le _ _
  have H := Lib.hid h
  have hd : decide (0 ≤ (k : Int) ∧ (k : Int) < ns.length) = true := by simp; omega
  rw [← hN] at h1 h3 hkl
  unfold maxLen at h4 q3 r3
  have HD := Lib.hid hd
  have HNI := Lib.hid hni
  have HT := Lib.hid ht
  have HX := Lib.hid hx
  have HND := Lib.hid hk
  have HMM := Lib.hid hm
  have HP := Lib.hid hp
  have HMu := Lib.hid hM
  have HM2 := Lib.hid hM2
  have HR1 := Lib.hid (q4.rdB)
  have HR2 := Lib.hid (r4.rdB)
  have k3 : (0 : Int) ≤ k := by omega
  have k4 : (k : Int) < N := by omega
  have hb0 : b < w.heap.size := by omega
  have hbs : Below w.heap.size w (w.alloc (.cells #[.int .i64 nd.rule, .slice A1 M c1, .slice A2 M c2] 79)) := (Below.refl _ _).alloc (Nat.le_refl _) _
  have HBS := Lib.hid hbs
  clear h hd hk hN ht hni hM hM2 hp g4 g5 q1 q4 r1 r4 hx hm hbs
  go_enter Tryd.func49, Tryd.ntmps49
  go_wp2_with fail
  refine (has_any w B T ns outs H.out k true HD.out).mono ?_
  rintro e w1 ⟨rfl, rfl⟩
  go_wp2_with fail
  by_cases hu : u ∈ nd.units
  · have hin : x ++ [u] ∈ P := (HNI.out.units u).1 hu
    have hv' : v = true := by rw [← hv]; simpa using hin
    have hmm : idxP P (x ++ [u]) = m := by rw [← HMM.out, if_pos hin]
    have hkid := HT.out.kid HND.out HX.out hu
    rw [HP.out, hmm] at hkid
    have hpM : p < M := by rw [← HM2.out]; exact lt_of_some hkid
    subst hv'
    refine (bsearch_any M A1 c1 nd.units B _ HMu.out (HR1.out.below (HBS.out.mono hB) (Nat.le_refl _)) HNI.out.sorted (by omega) u p true HP.out (by simp [hu])).mono ?_
    rintro e w2 ⟨rfl, hq⟩
    obtain ⟨b2, o2, rfl, hb2B, hcell⟩ := rd_ints HR2.out (by rw [HM2.out]; omega)
    have hc := hcell p (by rw [HM2.out]; exact hpM)
    have hgd : nd.next.getD p 0 = m := by rw [List.getD_eq_getElem?_getD, hkid]; rfl
    rw [hgd] at hc
    have hbE := HBS.out.trans (by obtain ⟨q, rfl⟩ := hq; exact below_drewN q : Below w1.heap.size _ w2)
    have hc' : w2.cell? ⟨b2, o2 + p, none⟩ = some (.int .i64 m) := (hbE.cell (p := ⟨b2, o2 + p, none⟩) (by show b2 < _; omega)).trans hc
    have g8 : w2.cell? ⟨w1.heap.size, 2, none⟩ = some (.slice (some ⟨b2, o2, none⟩) M c2) := by
      obtain ⟨q, rfl⟩ := hq
      exact World.cell?_alloc_new (w := w1) _ _ 2
    have k5 : (0 : Int) ≤ p := by omega
    have k6 : (p : Int) < M := by omega
    have HBE := Lib.hid hbE
    clear hcell hgd hc hkid hq hin hmm hbE
    go_wp2
    go_ret2
    exact ⟨rfl, HBE.out⟩
  · have hin : x ++ [u] ∉ P := fun e => hu ((HNI.out.units u).2 e)
    have hv' : v = false := by rw [← hv]; simpa using hin
    have hmm : m = 0 := by rw [← HMM.out, if_neg hin]
    subst hv' hmm
    refine (bsearch_any M A1 c1 nd.units B _ HMu.out (HR1.out.below (HBS.out.mono hB) (Nat.le_refl _)) HNI.out.sorted (by omega) u p false HP.out (by simp [hu])).mono ?_
    rintro e w2 ⟨rfl, hq⟩
    have hbE := HBS.out.trans (by obtain ⟨q, rfl⟩ := hq; exact below_drewN q : Below w1.heap.size _ w2)
    have HBE := Lib.hid hbE
    clear hq hbE hin
    go_wp2
    go_ret2
    exact ⟨rfl, HBE.out⟩
end Go.Proofs.YtgjmclbcmfkhdaaDoor
