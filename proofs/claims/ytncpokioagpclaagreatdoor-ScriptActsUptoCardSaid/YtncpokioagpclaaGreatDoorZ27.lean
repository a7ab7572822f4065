/- Texts of this seat, one behind the other: TrieB. -/
import Derived.Test.YtncpokioagpclaaGreatDoorZ24
import Derived.Test.YtncpokioagpclaaGreatDoorZ26
namespace Go.Proofs.YtncpokioagpclaaGreatDoor
set_option linter.unusedVariables false
open Go.RowKit
section
variable {base T : Nat} {w : World} {ns : List NodeM} {outs : List (List Int)} {nV oV : Value} {xs ys : List Value} {V : Nat → Value}
theorem OwnTx.nform (h : OwnTx base w T ns outs nV oV xs ys V) (hn : 0 < ns.length) : ∃ g c, nV = .slice (some ⟨g, 0, none⟩) ns.length c ∧ ns.length ≤ c ∧ c ≤ maxLen := by
  rcases h.nodes.2 with ⟨_, e⟩ | ⟨g, cap, cur, e, _, _, h1, h2, _⟩
  · omega
  · exact ⟨g, cap, e, h1, h2⟩
theorem OwnTx.boxes (h : OwnTx base w T ns outs nV oV xs ys V) : w.cell? ⟨T, 0, none⟩ = some nV ∧ w.cell? ⟨T, 1, none⟩ = some oV ∧ ∀ o, w.frozen? ⟨T, o, none⟩ = false := by
  refine ⟨?_, ?_, fun o => frozen_of_row _ _ _ _ _ h.box⟩ <;> (rw [cell_of_row _ _ _ _ _ _ h.box]; rfl)
theorem OwnTx.cells {g c N : Nat} (h : OwnTx base w T ns outs (.slice (some ⟨g, 0, none⟩) N c) oV xs ys V) {k : Nat} {nd : NodeM} (hk : ns[k]? = some nd) :
    w.cell? ⟨g, k * 3, none⟩ = some (.int .i64 nd.rule) ∧ w.cell? ⟨g, k * 3 + 1, none⟩ = some (V (k * 2)) ∧ w.cell? ⟨g, k * 3 + 2, none⟩ = some (V (k * 2 + 1)) ∧ ∀ o, w.frozen? ⟨g, o, none⟩ = false := by
  have hkl := lt_of_some hk
  obtain ⟨q1, q2, q3, q4, q5⟩ := h.node k nd hk
  have hN : N = ns.length := by
    rcases h.nodes.2 with ⟨e, _⟩ | ⟨g', cap, cur, e, _⟩
    · simp at e
    · injection e
  subst hN
  refine ⟨?_, ?_, ?_, fun o => World.ownsRow.frozenAt h.nodes o⟩
  · rw [World.ownsRow.cellAt h.nodes _ (by omega)]; exact q1
  · rw [World.ownsRow.cellAt h.nodes _ (by omega)]; exact q2
  · rw [World.ownsRow.cellAt h.nodes _ (by omega)]; exact q3
end
theorem OwnTx.still {base T : Nat} {w w1 : World} {ns : List NodeM} {outs : List (List Int)} {nV oV : Value} {xs ys : List Value} {V : Nat → Value} (h : OwnTx base w T ns outs nV oV xs ys V) {i : Nat} (hi : i < ns.length * 2) (hg : w.grownBy w1 (V i).ownBlock) :
    w1.heap[T]? = w.heap[T]? ∧ ∀ g, nV.ownBlock = some g → w1.heap[g]? = w.heap[g]? := by
  obtain ⟨zs, hrow⟩ := h.row hi
  refine ⟨hg.block T h.size fun e => absurd (own_type hrow e.symm h.box) (by decide), fun g hgb => hg.block g (own_lt h.nodes hgb) fun e => own_apart hrow h.nodes (by decide) e.symm hgb⟩
theorem infond : (Tryz.prog.info? 243).map (fun i => (i.zero, i.size, i.bytes)) = some (some (.agg #[.int .i64 0, .slice none 0 0, .slice none 0 0]), 3, 56) := by kernel_rfl
theorem block_cells {w w1 : World} {g : Nat} (h : w1.heap[g]? = w.heap[g]?) (o : Nat) : w1.cell? ⟨g, o, none⟩ = w.cell? ⟨g, o, none⟩ ∧ w1.frozen? ⟨g, o, none⟩ = w.frozen? ⟨g, o, none⟩ := ⟨World.cell?_of_block (w := w) h, World.frozen?_of_block (w := w) h⟩
theorem below_drewN {B : Nat} {w : World} (q : Nat) : Below B w (w.drewN q) := ⟨rfl, rfl, rfl, Nat.le_refl _, fun _ _ => rfl⟩

set_option maxHeartbeats 3200000 in
theorem grow_any (base : Nat) (w : World) (T : Nat) (ns : List NodeM) (outs : List (List Int)) (nV oV : Value) (xs ys : List Value) (V : Nat → Value) (P : List (List Int)) (f : List Int → Int) (h : OwnTx base w T ns outs nV oV xs ys V) (ht : TI P ns f)
    (k : Nat) (x : List Int) (hx : P[k]? = some x) (u : Int) (hP : P.length ≤ 5000) (Q : List (List Int)) (hQ : addP P (x ++ [u]) = Q) (m : Nat) (hm : idxP Q (x ++ [u]) = m) :
    Calls Tryz.prog 145 #[.pointer (some ⟨T, 0, none⟩), .int .i64 k, .int .i64 u] w fun e w' => ∃ ns' nV' xs' V', e = .returned (.int .i64 m) ∧ OwnTx base w' T ns' outs nV' oV xs' ys V' ∧ TI Q ns' f ∧ Below base w w' ∧ Fr T w nV oV V ns.length w' nV' oV V' ns'.length := by
  have hkP := lt_of_some hx
  have hkl : k < ns.length := by rw [ht.len]; exact hkP
  obtain ⟨nd, hnd⟩ : ∃ nd, ns[k]? = some nd := ⟨_, List.getElem?_eq_getElem hkl⟩
  obtain ⟨g, c, rfl, hc1, hc2⟩ := h.nform (by omega)
  obtain ⟨b0, b1, _⟩ := h.boxes
  obtain ⟨d0, d1, d2, _⟩ := h.cells hnd
  obtain ⟨_, _, _, r1, r2⟩ := h.node k nd hnd
  have hni := ht.node k nd x hnd hx
  obtain ⟨A1, c1, e1, f1, f2⟩ := own_form r1
  obtain ⟨A2, c2, e2, f3, f4⟩ := own_form r2
  rw [e1] at d1
  rw [e2] at d2
  have hR1 : Rd w w.heap.size A1 (nd.units.map (Value.int .i64)) := Rd.own (by have h := r1; unfold OwnI at h; rw [e1] at h; exact h)
  have hR2 : Rd w w.heap.size A2 (nd.next.map (Value.int .i64)) := Rd.own (by have h := r2; unfold OwnI at h; rw [e2] at h; exact h)
  obtain ⟨N, hN⟩ : ∃ N, N = ns.length := ⟨_, rfl⟩
  have hNP : N = P.length := by rw [hN, ht.len]
  obtain ⟨M, hM⟩ : ∃ M, M = nd.units.length := ⟨_, rfl⟩
  have hM2 : nd.next.length = M := by rw [hM]; exact hni.lens
  rw [hM2] at d2 e2 f3
  rw [← hM] at d1 e1 f1
  rw [← hN] at h b0 hkl hc1
  have hMs : M ≤ 5000 := by have := hni.small; omega
  obtain ⟨p, hp⟩ : ∃ p, posN nd.units u = p := ⟨_, rfl⟩
  have hpl : p ≤ M := by rw [← hp, hM]; exact posN_le _ _
  unfold maxLen at hc2 f2 f4
  have H := Lib.hid h
  have HT := Lib.hid ht
  have HX := Lib.hid hx
  have HND := Lib.hid hnd
  have HNI := Lib.hid hni
  have HP := Lib.hid hp
  have HQ := Lib.hid hQ
  have HM := Lib.hid hm
  have HN := Lib.hid hN
  have HNP := Lib.hid hNP
  have HMu := Lib.hid hM
  have HM2 := Lib.hid hM2
  have HR1 := Lib.hid hR1
  have HR2 := Lib.hid hR2
  have E1 := Lib.hid e1
  have E2 := Lib.hid e2
  have k3 : (0 : Int) ≤ k := by omega
  have k4 : (k : Int) < N := by omega
  clear h ht hx hnd hni hp hQ hm hN hNP hM hM2 hR1 hR2 e1 e2 r1 r2
  go_enter Tryz.func145, Tryz.ntmps145
  have hTl := H.out.size
  have hbT := H.out.low
  go_wp2_with fail
  by_cases hu : u ∈ nd.units
  · refine (bsearch_any M A1 c1 nd.units w.heap.size w HMu.out HR1.out HNI.out.sorted (by omega) u p true HP.out (by simp [hu])).mono ?_
    rintro e w1 ⟨rfl, hq⟩
    have hin : x ++ [u] ∈ P := (HNI.out.units u).1 hu
    have hkid := HT.out.kid HND.out HX.out hu
    have hQP : Q = P := by rw [← HQ.out]; unfold addP; rw [if_pos hin]
    have hmm : idxP P (x ++ [u]) = m := by rw [← HM.out, hQP]
    rw [HP.out, hmm] at hkid
    have hpM : p < M := by rw [← HM2.out]; exact lt_of_some hkid
    obtain ⟨b2, o2, rfl, _, hcell⟩ := rd_ints HR2.out (by rw [HM2.out]; omega)
    have hc := hcell p (by rw [HM2.out]; exact hpM)
    have hgd : nd.next.getD p 0 = m := by rw [List.getD_eq_getElem?_getD, hkid]; rfl
    rw [hgd] at hc
    have hb1 : Below w.heap.size w w1 := by obtain ⟨q, rfl⟩ := hq; exact below_drewN q
    have d2' : w1.cell? ⟨g, k * 3 + 2, none⟩ = some (.slice (some ⟨b2, o2, none⟩) M c2) := by obtain ⟨q, rfl⟩ := hq; exact d2
    have hc' : w1.cell? ⟨b2, o2 + p, none⟩ = some (.int .i64 m) := by obtain ⟨q, rfl⟩ := hq; exact hc
    have k5 : (0 : Int) ≤ p := by omega
    have k6 : (p : Int) < M := by omega
    have HE : Hid (∃ ns' nV' xs' V', OwnTx base w1 T ns' outs nV' oV xs' ys V' ∧ TI Q ns' f ∧ Below base w w1 ∧ Fr T w (.slice (some ⟨g, 0, none⟩) N c) oV V ns.length w1 nV' oV V' ns'.length) :=
      ⟨_, _, _, _, H.out.below hb1 (Nat.le_refl _), by rw [hQP]; exact HT.out, hb1.mono (by omega), Fr.below hb1 (Nat.le_refl _)⟩
    clear hc d2 hcell hq hkid hgd hQP hin hmm
    go_wp2
    go_ret
    obtain ⟨ns', nV', xs', V', q1, q2, q3, q4⟩ := HE.out
    exact ⟨ns', nV', xs', V', rfl, q1, q2, q3, q4⟩
  · refine (bsearch_any M A1 c1 nd.units w.heap.size w HMu.out HR1.out HNI.out.sorted (by omega) u p false HP.out (by simp [hu])).mono ?_
    rintro e w1 ⟨rfl, hq⟩
    have hb1 : Below w.heap.size w w1 := by obtain ⟨q, rfl⟩ := hq; exact below_drewN q
    have hs1 := hb1.size
    have H1 := Lib.hid (H.out.below hb1 (Nat.le_refl _))
    obtain ⟨b0', b1', _⟩ := H1.out.boxes
    obtain ⟨d0', d1', d2', _⟩ := H1.out.cells HND.out
    rw [E1.out] at d1'
    rw [E2.out] at d2'
    clear b0 b1 d0 d1 d2 hq
    go_wp2_with fail
    have hnew : x ++ [u] ∉ P := fun e => hu ((HNI.out.units u).2 e)
    have hsA : ∀ t cs, Below w1.heap.size w1 (w1.alloc (.cells cs t)) := fun t cs => (Below.refl _ _).alloc (Nat.le_refl _) _
    have Ha := Lib.hid (H1.out.below (hsA 3 #[.int .i64 u]) (Nat.le_refl _))
    have hoA : OwnI .i64 3 (w1.alloc (.cells #[.int .i64 u] 3)) base (.slice A1 M c1) nd.units := by rw [← E1.out]; exact (Ha.out.node k nd HND.out).2.2.2.1
    have hne1 : (Value.slice A1 M c1).ownBlock ≠ some w1.heap.size := by
      intro e
      have hoB : OwnI .i64 3 w1 base (.slice A1 M c1) nd.units := by rw [← E1.out]; exact (H1.out.node k nd HND.out).2.2.2.1
      have := own_lt hoB e; omega
    refine (insert_any base (.slice A1 M c1) nd.units p u w1.heap.size (w1.alloc (.cells #[.int .i64 u] 3)) hoA (by rw [← HMu.out]; exact hpl) (heap_alloc_new w1 _) hne1 (by rw [← HMu.out]; omega) (by simp; omega)).mono ?_
    rintro e w2 ⟨v1, rfl, ho2, hg2, hn2⟩
    have hg2' : (w1.alloc (.cells #[.int .i64 u] 3)).grownBy w2 (V (k * 2 + 0)).ownBlock := by rw [Nat.add_zero, E1.out]; exact hg2
    have hkl0 : k < ns.length := by rw [← HN.out]; exact hkl
    obtain ⟨s1, s2⟩ := Ha.out.still (i := k * 2 + 0) (by omega) hg2'
    have s3 := s2 g rfl
    obtain ⟨ab0, ab1, abf⟩ := Ha.out.boxes
    obtain ⟨ad0, ad1, ad2, adf⟩ := Ha.out.cells HND.out
    have t0 : w2.cell? ⟨T, 0, none⟩ = some (.slice (some ⟨g, 0, none⟩) N c) := (block_cells s1 0).1.trans ab0
    have t1 : w2.cell? ⟨g, k * 3 + 1, none⟩ = some (.slice A1 M c1) := (block_cells s3 _).1.trans (by rw [ad1, E1.out])
    have t2 : w2.cell? ⟨g, k * 3 + 2, none⟩ = some (.slice A2 M c2) := (block_cells s3 _).1.trans (by rw [ad2, E2.out])
    have t3 : w2.frozen? ⟨g, k * 3 + 1, none⟩ = false := (block_cells s3 _).2.trans (adf _)
    have hbE2 : Below base w w2 := ((hb1.mono (by omega)).trans ((hsA _ _).mono (by omega))).grown hg2 (by simp; omega) (fun k' hk' => (hoA.lt k' hk').1)
    have H3 := Lib.hid (Ha.out.setRow (nd' := ⟨nd.rule, insL nd.units p u, nd.next⟩) rfl HND.out (.inl ⟨rfl, rfl, rfl, rfl⟩) ho2 hg2' (fun g' e => by
      rcases hn2 with h | h
      · left; rw [Nat.add_zero, E1.out, ← h]; exact e
      · right; rw [h] at e; injection e with e; omega))
    have FR3 : Hid (Fr T w (.slice (some ⟨g, 0, none⟩) N c) oV V ns.length (w2.setCell ⟨g, k * 3 + 1 + 0, none⟩ v1) (.slice (some ⟨g, 0, none⟩) N c) oV (fun i => if i = k * 2 + 0 then v1 else V i) ns.length) :=
      (Fr.below (hb1.trans ((hsA 3 #[.int .i64 u]).mono hs1)) (Nat.le_refl _)).trans (Fr.setRow rfl (by omega) hg2' (fun g' e => by
      rcases hn2 with h | h
      · left; rw [Nat.add_zero, E1.out, ← h]; exact e
      · right; rw [h] at e; injection e with e; omega))
    have hgl : base ≤ g := (H1.out.nodes.lt g rfl).1
    obtain ⟨B1, k1, ev1, _, _⟩ := own_form ho2
    rw [insL_len nd.units p u (by rw [← HMu.out]; exact hpl), ← HMu.out] at ev1
    subst ev1
    clear b0' b1' d0' d1' d2' hoA hne1 ho2 hg2 hn2 hg2' s1 s2 s3 ab0 ab1 abf ad0 ad1 ad2 adf
    go_wp2_with fail
    obtain ⟨w3, hw3⟩ : ∃ w3, w3 = w2.setCell ⟨g, k * 3 + 1, none⟩ (.slice B1 (M + 1) k1) := ⟨_, rfl⟩
    have hz3 : w3.heap.size = w2.heap.size := by rw [hw3]; simp
    have hs2 := hbE2.size
    obtain ⟨ns1, hns1⟩ : ∃ ns1, ns1 = ns.set k ⟨nd.rule, insL nd.units p u, nd.next⟩ := ⟨_, rfl⟩
    have hl1 : ns1.length = ns.length := by rw [hns1]; simp
    have hnd1 : ns1[k]? = some ⟨nd.rule, insL nd.units p u, nd.next⟩ := by rw [hns1]; exact List.getElem?_set_self hkl0
    obtain ⟨V1, xs1, hV1, H4, FR4⟩ : ∃ V1 : Nat → Value, ∃ xs1, V1 (k * 2 + 1) = .slice A2 M c2 ∧ Hid (OwnTx base w3 T ns1 outs (.slice (some ⟨g, 0, none⟩) N c) oV xs1 ys V1) ∧ Hid (Fr T w (.slice (some ⟨g, 0, none⟩) N c) oV V ns.length w3 (.slice (some ⟨g, 0, none⟩) N c) oV V1 ns1.length) :=
      ⟨fun i => if i = k * 2 + 0 then .slice B1 (M + 1) k1 else V i, _, by show (if k * 2 + 1 = k * 2 + 0 then Value.slice B1 (M + 1) k1 else V (k * 2 + 1)) = _; rw [if_neg (by omega)]; exact E2.out, by rw [hw3, hns1]; exact H3, by rw [hw3, hl1]; exact FR3⟩
    have hbE3 : Below base w w3 := by rw [hw3]; exact hbE2.setCell hgl _
    rw [← hw3, ← hz3]
    rw [← hz3] at hs2
    clear hw3 hz3 H3 FR3 t0 t1 t2 t3 Ha hbE2
    have hsB : ∀ t cs, Below w3.heap.size w3 (w3.alloc (.cells cs t)) := fun t cs => (Below.refl _ _).alloc (Nat.le_refl _) _
    have Hb := Lib.hid (H4.out.below (hsB 3 #[.int .i64 N]) (Nat.le_refl _))
    have hoB : OwnI .i64 3 (w3.alloc (.cells #[.int .i64 N] 3)) base (.slice A2 M c2) nd.next := by rw [← hV1]; exact (Hb.out.node k _ hnd1).2.2.2.2
    have hne2 : (Value.slice A2 M c2).ownBlock ≠ some w3.heap.size := by
      intro e
      have hoC : OwnI .i64 3 w3 base (.slice A2 M c2) nd.next := by rw [← hV1]; exact (H4.out.node k _ hnd1).2.2.2.2
      have := own_lt hoC e; omega
    refine (insert_any base (.slice A2 M c2) nd.next p N w3.heap.size (w3.alloc (.cells #[.int .i64 N] 3)) hoB (by rw [HM2.out]; exact hpl) (heap_alloc_new w3 _) hne2 (by rw [HM2.out]; omega) (by simp; omega)).mono ?_
    rintro e w4 ⟨v2, rfl, ho4, hg4, hn4⟩
    have hg4' : (w3.alloc (.cells #[.int .i64 N] 3)).grownBy w4 (V1 (k * 2 + 1)).ownBlock := by rw [hV1]; exact hg4
    obtain ⟨s1, s2⟩ := Hb.out.still (i := k * 2 + 1) (by omega) hg4'
    have s3 := s2 g rfl
    obtain ⟨ab0, ab1, abf⟩ := Hb.out.boxes
    obtain ⟨ad0, ad1, ad2, adf⟩ := Hb.out.cells hnd1
    have t0 : w4.cell? ⟨T, 0, none⟩ = some (.slice (some ⟨g, 0, none⟩) N c) := (block_cells s1 0).1.trans ab0
    have t0f : w4.frozen? ⟨T, 0, none⟩ = false := (block_cells s1 0).2.trans (abf _)
    have t2 : w4.cell? ⟨g, k * 3 + 2, none⟩ = some (.slice A2 M c2) := (block_cells s3 _).1.trans (by rw [ad2, hV1])
    have t3 : w4.frozen? ⟨g, k * 3 + 2, none⟩ = false := (block_cells s3 _).2.trans (adf _)
    have hgT : g ≠ T := fun e => absurd (own_type Hb.out.nodes (show (Value.slice (some ⟨g, 0, none⟩) N c).ownBlock = some T by rw [← e]; rfl) Hb.out.box) (by decide)
    have hbE4 : Below base w w4 := (hbE3.trans ((hsB _ _).mono (by omega))).grown hg4 (by simp; omega) (fun k' hk' => (hoB.lt k' hk').1)
    have H5 := Lib.hid (Hb.out.setRow (nd' := ⟨nd.rule, insL nd.units p u, insL nd.next p N⟩) rfl hnd1 (.inr ⟨rfl, rfl, rfl, rfl⟩) ho4 hg4' (fun g' e => by
      rcases hn4 with h | h
      · left; rw [hV1, ← h]; exact e
      · right; rw [h] at e; injection e with e; omega))
    have FR5 : Hid (Fr T w (.slice (some ⟨g, 0, none⟩) N c) oV V ns.length (w4.setCell ⟨g, k * 3 + 1 + 1, none⟩ v2) (.slice (some ⟨g, 0, none⟩) N c) oV (fun i => if i = k * 2 + 1 then v2 else V1 i) ns1.length) :=
      FR4.out.trans ((Fr.below (hsB 3 #[.int .i64 N]) (Nat.le_refl _)).trans (Fr.setRow rfl (by omega) hg4' (fun g' e => by
      rcases hn4 with h | h
      · left; rw [hV1, ← h]; exact e
      · right; rw [h] at e; injection e with e; omega)))
    obtain ⟨B2, k2, ev2, _, _⟩ := own_form ho4
    rw [insL_len nd.next p N (by rw [HM2.out]; exact hpl), HM2.out] at ev2
    subst ev2
    clear hoB hne2 ho4 hg4 hn4 hg4' s1 s2 s3 ab0 ab1 abf ad0 ad1 ad2 adf
    obtain ⟨w5, hw5⟩ : ∃ w5, w5 = w4.setCell ⟨g, k * 3 + 2, none⟩ (.slice B2 (M + 1) k2) := ⟨_, rfl⟩
    have hz5 : w5.heap.size = w4.heap.size := by rw [hw5]; simp
    obtain ⟨ns2, hns2⟩ : ∃ ns2, ns2 = ns.set k ⟨nd.rule, insL nd.units p u, insL nd.next p N⟩ := ⟨_, rfl⟩
    have hl2 : ns2.length = N := by rw [hns2, HN.out]; simp
    obtain ⟨V2, xs2, H6, FR6⟩ : ∃ V2 : Nat → Value, ∃ xs2, Hid (OwnTx base w5 T ns2 outs (.slice (some ⟨g, 0, none⟩) N c) oV xs2 ys V2) ∧ Hid (Fr T w (.slice (some ⟨g, 0, none⟩) N c) oV V ns.length w5 (.slice (some ⟨g, 0, none⟩) N c) oV V2 ns2.length) :=
      ⟨_, _, by
        have h := H5.out
        rw [hns1, List.set_set] at h
        rw [hw5, hns2]; exact Lib.hid h, by
        rw [hw5, show ns2.length = ns1.length from by rw [hl2, hl1, HN.out]]
        exact FR5⟩
    have hbE5 : Below base w w5 := by rw [hw5]; exact hbE4.setCell hgl _
    have hs5 := hbE5.size
    have HW5 := Lib.hid hw5
    clear hw5 H5 Hb hbE4 H4 FR4 FR5 hV1 hnd1
    obtain ⟨i0, hi, hz0, HZ1, hz2⟩ := info_parts infond
    have hN5 : N ≤ 5000 := by rw [HNP.out]; exact hP
    have Hc := Lib.hid (H6.out.below ((Below.refl w5.heap.size w5).alloc (Nat.le_refl _) (.cells #[.int .i64 (-1), .slice none 0 0, .slice none 0 0] 243)) (Nat.le_refl _))
    have hown : ((w4.setCell ⟨g, k * 3 + 2, none⟩ (.slice B2 (M + 1) k2)).alloc (.cells #[.int .i64 (-1), .slice none 0 0, .slice none 0 0] 243)).ownsRow base 243 3 (.slice (some ⟨g, 0, none⟩) N c) N xs2 := by
      have h := Hc.out.nodes
      rw [hl2] at h
      rw [← HW5.out]; exact h
    go_wp2_with (at_builtin; refine wpList_appB _ rfl _ _ 105 rfl base 243 i0 _ 3 56 Tryz.underlying105 hi hz0 HZ1 hz2 rfl (by decide) _ _ _ rfl hown (w4.heap.size + 1) _ 1 1 [.int .i64 (-1), .slice none 0 0, .slice none 0 0] rfl rfl ?a1 ?a2 ?a3 ?a4 ?a5 ?_)
    case a1 => exact Rd_newR _ _ _ _ (by simp)
    case a2 => intro y hy; simp at hy; rcases hy with rfl | rfl | rfl <;> rfl
    case a3 => simp only [maxLen]; omega
    case a4 => omega
    case a5 => simp; omega
    intro v6 w6 ho6 hg6 hn6
    rw [← HW5.out] at hg6
    have hz6 : (w5.alloc (.cells #[.int .i64 (-1), .slice none 0 0, .slice none 0 0] 243)).heap.size = w4.heap.size + 1 := by simp [hz5]
    have hbox6 : w6.heap[T]? = some (.cells #[.slice (some ⟨g, 0, none⟩) N c, oV] 108 (0, 0)) :=
      (hg6.block T Hc.out.size (fun e => hgT (by simpa [Value.ownBlock] using e.symm))).trans Hc.out.box
    have y0 : w6.cell? ⟨T, 0, none⟩ = some (.slice (some ⟨g, 0, none⟩) N c) := by rw [cell_of_row _ _ _ _ _ _ hbox6]; rfl
    have y1 : w6.frozen? ⟨T, 0, none⟩ = false := frozen_of_row _ _ _ _ _ hbox6
    have H7 := Lib.hid (Hc.out.push (by rw [hl2]; exact ho6) hg6 (fun g' e => by
      rcases hn6 with h | h
      · left; rw [← h]; exact e
      · right; rw [h] at e; injection e with e; omega))
    have hbE6 : Below base w w6 := (hbE5.trans (((Below.refl w5.heap.size w5).alloc (Nat.le_refl _) _).mono (by omega))).grown hg6 (by omega) (fun k' hk' => by
      obtain rfl : g = k' := by simpa [Value.ownBlock] using hk'
      exact hgl)
    have FR7 : Hid (Fr T w (.slice (some ⟨g, 0, none⟩) N c) oV V ns.length (w6.setCell ⟨T, 0, none⟩ v6) v6 oV (fun i => if i < ns2.length * 2 then V2 i else .slice none 0 0) (ns2 ++ [(⟨-1, [], []⟩ : NodeM)]).length) := by
      rw [List.length_append]
      exact FR6.out.trans ((Fr.below ((Below.refl w5.heap.size w5).alloc (Nat.le_refl _) _) (Nat.le_refl _)).trans (Fr.push hg6 (fun g' e => by
      rcases hn6 with h | h
      · left; rw [← h]; exact e
      · right; rw [h] at e; injection e with e; omega)))
    obtain ⟨A6, c6, ev6, _, _⟩ := own_form ho6
    subst ev6
    have hmm : idxP Q (x ++ [u]) = N := by rw [← HQ.out]; unfold addP; rw [if_neg hnew, idxP_new hnew, HNP.out]
    have hmN : N = m := by rw [← hmm]; exact HM.out
    have HE : Hid (TI Q (ns2 ++ [⟨-1, [], []⟩]) f) := by
      have h := HT.out.add HND.out HX.out hu
      rw [HP.out, ← HNP.out, ← hns2] at h
      rw [← HQ.out]; unfold addP; rw [if_neg hnew]; exact h
    clear ho6 hg6 hn6 hbox6 hown hnew hmm
    subst hmN
    go_wp2
    go_ret
    exact ⟨_, _, _, _, rfl, H7.out, HE.out, hbE6.setCell hbT _, FR7.out⟩
end Go.Proofs.YtncpokioagpclaaGreatDoor
