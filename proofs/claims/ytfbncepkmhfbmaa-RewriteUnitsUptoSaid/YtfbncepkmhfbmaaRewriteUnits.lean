/- RewriteUnits: the walk. -/
import Derived.Test.YtfbncepkmhfbmaaRewC
import Derived.Test.YtfbncepkmhfbmaaRewE
import Derived.Test.YtfbncepkmhfbmaaTokSet
import Derived.Test.YtfbncepkmhfbmaaTrieQ
namespace Go.Proofs.Ytfbncepkmhfbmaa
set_option linter.unusedVariables false
open Go.RowKit
/-- how the law's two lie: the units, and the token that is wrong -/
structure WuI (base g B : Nat) (w : World) (v : Value) (us : List Int) (t : Tk) : Prop where
  own : OwnI .i64 3 w base v us
  box : ∃ s, w.heap[g]? = some (.cells #[.int .i64 t.pos, .int .i64 t.size, s, .int .i64 t.err] 39 (0, 0)) ∧ Us (· < B) w s t.out
theorem outsT_drop {ts : List Tk} {K : Nat} (hK : K < ts.length) : outsT (ts.drop K) = ts[K].out ++ outsT (ts.drop (K + 1)) := by
  unfold outsT; rw [List.drop_eq_getElem_cons hK, List.flatMap_cons]
theorem wrongT_drop {ts : List Tk} {K : Nat} (hK : K < ts.length) : wrongT (ts.drop K) = if ts[K].err = 0 then wrongT (ts.drop (K + 1)) else ts[K] := by
  rw [List.drop_eq_getElem_cons hK]; rfl
theorem outs_drop_le {ts : List Tk} (K : Nat) : (outsT (ts.drop K)).length ≤ (outsT ts).length := by
  have h := outsT_app (ts.take K) (ts.drop K)
  rw [List.take_append_drop] at h
  rw [h]; simp
theorem outs_take_le {ts : List Tk} (K : Nat) : (outsT (ts.take K)).length ≤ (outsT ts).length := by
  have h := outsT_app (ts.take K) (ts.drop K)
  rw [List.take_append_drop] at h
  rw [h]; simp
set_option maxHeartbeats 6400000 in
theorem rewriteUnits_any (n : Nat) (A : Option Addr) (c : Nat) (tsA : List Tk) (w : World) (hr : TkAt w w.heap.size A n c tsA) (hl : (outsT tsA).length ≤ 1048576) :
    Calls Try.prog 4 #[.slice A n c] w fun e w' => e = .returned (.bool true) ∧ Below w.heap.size w w' := by
  obtain ⟨i0, hi, hz0, HZ1, hz2⟩ := info_parts infoint
  obtain ⟨q, hq, hqn, hq6⟩ : ∃ q : Nat, ((if 60 < n then 60 else n) = q) ∧ q ≤ n ∧ q ≤ 60 := ⟨_, rfl, by split <;> omega, by split <;> omega⟩
  have hmin : min (n : Int) 60 = (q : Int) := by rw [← hq]; split <;> omega
  obtain ⟨ts, hts⟩ : ∃ ts, ts = tsA.take q := ⟨_, rfl⟩
  have hcut := hr.cut q hqn
  rw [← hts] at hcut
  have hl' : (outsT ts).length ≤ 1048576 := by have := outs_take_le (ts := tsA) q; rw [← hts] at this; omega
  obtain ⟨us, hus⟩ : ∃ us, outsT ts = us := ⟨_, rfl⟩
  obtain ⟨t, ht⟩ : ∃ t, wrongT ts = t := ⟨_, rfl⟩
  have hc1 := hr.fits
  have hc2 := hr.small
  unfold maxLen at hc2
  have hqc : q ≤ c := by omega
  have hq0 : (0 : Int) ≤ (q : Int) := by omega
  have H := Lib.hid hcut
  have HL := Lib.hid hl'
  have HU := Lib.hid hus
  have HT := Lib.hid ht
  have HQL := Lib.hid hcut.len
  clear hr hl hcut hl' hus ht hts hq
  go_enter Try.func4, Try.ntmps4
  go_wp2_with fail
  refine (rawake5_any _).mono ?_
  rintro e w1 ⟨rfl, hb1⟩
  have hs1 := hb1.size
  have H1 := Lib.hid (H.out.below hb1 (Nat.le_refl _))
  go_wp2
  have hbA : ∀ o, Below w1.heap.size w1 (w1.alloc o) := fun o => (Below.refl _ _).alloc (Nat.le_refl _) _
  have HBA := Lib.hid hbA
  clear hbA
  go_loopw [3, 5] (fun v i wr => ∃ (K : Nat) (acc : List Int) (tw : Tk), K ≤ q ∧ i = .int .i64 ((K : Int) - 1) ∧ Hid (WuI (w1.heap.size + 1) w1.heap.size w.heap.size wr v acc tw) ∧ Hid (acc = outsT (ts.drop K)) ∧ Hid (tw = wrongT (ts.drop K)) ∧ Below w1.heap.size w1 wr ∧ w1.heap.size + 1 ≤ wr.heap.size) (fun _ i _ => (intOf i + 1).toNat)
  case atStart =>
    have e : ts.drop q = [] := List.drop_of_length_le (by rw [← HQL.out]; exact Nat.le_refl _)
    refine ⟨q, [], ⟨0, 0, [], 0⟩, Nat.le_refl _, rfl, ⟨World.ownsRow_nil _ _ _ _, .slice none 0 0, heap_alloc_new w1 _, ⟨none, 0, rfl, by simp, by simp [maxLen], .inl rfl⟩⟩, by rw [e]; rfl, by rw [e]; rfl, HBA.out _, by simp⟩
  case round =>
    obtain ⟨K, acc, tw, hK, rfl, hui, hacc, htw, hb, hs2⟩ := hrel
    have hs := hb.size
    obtain ⟨A3, c3, rfl, h31, h32⟩ := own_form hui.out.own
    obtain ⟨sw, hbox, husw⟩ := hui.out.box
    obtain ⟨A5, c5, rfl, _, _, _⟩ := id husw
    match K, hK with
    | 0, _ =>
      have HA : Hid (acc = us) := hacc.out.trans HU.out
      have HTW : Hid (tw = t) := htw.out.trans HT.out
      obtain ⟨m, hm⟩ : ∃ m, us.length = m := ⟨_, rfl⟩
      obtain ⟨m', hm'⟩ : ∃ m', t.out.length = m' := ⟨_, rfl⟩
      have HM := Lib.hid hm
      have HM' := Lib.hid hm'
      have HUI := Lib.hid hui.out
      rw [HA.out, hm] at hui ⊢
      go_wp2_with fail
      refine (unitsT_any q A c ts w.heap.size wr (H1.out.below (hb.mono hs1) (Nat.le_refl _)) (by omega) (by have := HL.out; omega) us t m m' HU.out HT.out HM.out HM'.out).mono ?_
      rintro e w2 ⟨A1, c1, A2, c2, rfl, hu1, hu2, hb2⟩
      have hs2' := hb2.size
      rw [HTW.out] at hbox husw
      have hbox2 := (hb2.block _ (by omega)).trans hbox
      rw [hm'] at hbox2
      have HBX := Lib.hid hbox2
      obtain ⟨q1, q2, q3, q4⟩ := hu1.rd
      obtain ⟨r1, r2, r3, r4⟩ := hu2.rd
      obtain ⟨s1, s2, s3, s4⟩ := husw.rd
      have hown := HUI.out.own
      rw [HA.out] at hown
      have hro : Rd wr wr.heap.size A3 (us.map (Value.int .i64)) := by
        have h := hown; unfold OwnI at h; rw [hm] at h; exact Rd.own h
      have R1 := Lib.hid (q4.rd (Nat.le_refl w2.heap.size))
      have R2 := Lib.hid (r4.rd (Nat.le_refl w2.heap.size))
      have R3 := Lib.hid (hro.below hb2 (Nat.le_refl _))
      have R4 := Lib.hid ((s4.rdB).below (hb2.mono (show w.heap.size ≤ wr.heap.size by omega)) (Nat.le_refl _))
      have HEQ := Lib.hid (show eqB us us = true by simp [eqB])
      have HEQ' := Lib.hid (show eqB t.out t.out = true by simp [eqB])
      have hbE : ∀ o m, Below w.heap.size w ((w2.alloc o).drewN m) := fun o m => ((hb1.trans (hb.mono hs1)).trans (hb2.mono (by omega))).alloc (by omega) _ |>.trans (below_drewN m)
      have HBE := Lib.hid hbE
      have e1 : (t.pos == t.pos) = true := by simp
      have e2 : (t.size == t.size) = true := by simp
      have e3 : (t.err == t.err) = true := by simp
      have hm3 : m ≤ 9223372036854775807 := by unfold maxLen at q3; omega
      have hm4 : m' ≤ 9223372036854775807 := by unfold maxLen at r3; omega
      have hbW : ∀ o, Below w2.heap.size w2 (w2.alloc o) := fun o => (Below.refl _ _).alloc (Nat.le_refl _) _
      have HBW := Lib.hid hbW
      clear hui hbox hbox2 husw hu1 hu2 q1 q4 r1 r4 s1 s4 hown hro hbE hacc htw hm hm' hbW
      go_wp2_with fail
      refine (units_v m m A1 A3 _ _ us us w2.heap.size wr.heap.size _ true HEQ.out HM.out.symm HM.out.symm (R1.out.below (HBW.out _) (Nat.le_refl _)) (R3.out.below ((HBW.out _).mono hs2') (Nat.le_refl _)) hm3).mono ?_
      rintro e w3 ⟨rfl, m1, rfl⟩
      obtain ⟨W2, hW2⟩ : ∃ W2, W2 = w2.alloc (.cells #[.int .i64 t.pos, .int .i64 t.size, .slice A2 m' c2, .int .i64 t.err] 39) := ⟨_, rfl⟩
      obtain ⟨x0, x1, x2, x3, xf⟩ := tok_cells (show (W2.drewN m1).heap[w1.heap.size]? = _ by rw [hW2]; exact ((HBW.out _).block _ (by omega)).trans HBX.out)
      obtain ⟨y0, y1, y2, y3, yf⟩ := tok_cells (show (W2.drewN m1).heap[w2.heap.size]? = _ by rw [hW2]; exact heap_alloc_new w2 _)
      rw [← hW2]
      have HW2 := Lib.hid hW2
      clear hW2
      obtain ⟨w4, hw4⟩ : ∃ w4, w4 = W2.drewN m1 := ⟨_, rfl⟩
      rw [← hw4] at x0 x1 x2 x3 xf y0 y1 y2 y3 yf ⊢
      have HW4 := Lib.hid hw4
      clear hw4
      have hb4 : Below w2.heap.size w2 w4 := by rw [HW4.out, HW2.out]; exact (HBW.out _).trans (below_drewN m1)
      have hbF : Below w.heap.size w w4 := by rw [HW4.out, HW2.out]; exact HBE.out _ _
      have HB4 := Lib.hid hb4
      clear hb4
      go_wp2_with fail
      refine (units_v m' m' A2 A5 _ _ t.out t.out w2.heap.size w.heap.size _ true HEQ'.out HM'.out.symm HM'.out.symm (R2.out.below HB4.out (Nat.le_refl _)) (R4.out.below (HB4.out.mono (by omega)) (Nat.le_refl _)) hm4).mono ?_
      rintro e w5 ⟨rfl, m2, rfl⟩
      go_wp2
      go_ret
      exact ⟨rfl, hbF.trans (below_drewN m2)⟩
    | J + 1, hK =>
      rw [show (((J + 1 : Nat)) : Int) - 1 = J from by omega]
      have hJ1 : J < ts.length := by rw [← HQL.out]; omega
      have hbw := hb1.trans (hb.mono hs1)
      have HAD := Lib.hid (outsT_drop hJ1)
      have HWD := Lib.hid (wrongT_drop hJ1)
      have hroom := outs_drop_le (ts := ts) J
      rw [HAD.out, ← hacc.out, List.length_append] at hroom
      have hroom2 := HL.out
      obtain ⟨b, o, rfl, hbB, A1, n1, c1, g1, g2, g3, g4, e1, e2, e3, e4⟩ := H.out.at hJ1
      have HCL : Hid (∀ (o' : Nat) (w' : World), Below w.heap.size w w' → w'.cell? ⟨b, o', none⟩ = w.cell? ⟨b, o', none⟩) := fun o' w' h => h.cell (p := ⟨b, o', none⟩) (by show b < _; omega)
      have k1 := (HCL.out _ _ hbw).trans g1
      have k2 := (HCL.out _ _ hbw).trans g2
      have k5 := (HCL.out _ _ hbw).trans g3
      have k6 := (HCL.out _ _ hbw).trans g4
      have k3 : (0 : Int) ≤ J := by omega
      have k4 : (J : Int) < q := by omega
      obtain ⟨P, hP⟩ : ∃ x, x = ts[J].pos := ⟨_, rfl⟩
      obtain ⟨S, hS⟩ : ∃ x, x = ts[J].size := ⟨_, rfl⟩
      obtain ⟨E, hE⟩ : ∃ x, x = ts[J].err := ⟨_, rfl⟩
      obtain ⟨O, hO⟩ : ∃ x, x = ts[J].out := ⟨_, rfl⟩
      have HTK : Hid (ts[J] = ⟨P, S, O, E⟩) := by rw [hP, hS, hE, hO]; rfl
      rw [← hP] at g1 k1
      rw [← hS] at g2 k2
      rw [← hE] at g4 k6
      rw [← hO] at e1 e4 hroom HAD
      rw [← e1] at hroom
      have E1 := Lib.hid e1
      have E4 := Lib.hid e4
      have G1 := Lib.hid g1
      have G2 := Lib.hid g2
      have G3 := Lib.hid g3
      have G4 := Lib.hid g4
      unfold maxLen at e3
      obtain ⟨accL, haccL⟩ : ∃ accL, accL = acc.length := ⟨_, rfl⟩
      have hown := hui.out.own
      unfold OwnI at hown
      have HRO := Lib.hid (Rd.own hown)
      rw [← haccL] at hown hroom
      have HAL := Lib.hid haccL
      have HBOX := Lib.hid hbox
      have HUSW := Lib.hid husw
      rw [← haccL]
      have hn18 : n1 + accL ≤ 1048576 := by omega
      clear g1 g2 g3 g4 e1 e4 hP hS hE hO hroom haccL hbox husw hown hui
      go_wp2_with (at_builtin; refine wpList_appB _ rfl _ _ 24 rfl (w1.heap.size + 1) 3 i0 _ 1 8 Try.underlying24 hi hz0 HZ1 hz2 rfl (by decide) _ _ _ rfl (World.ownsRow_nil _ _ _ _) w.heap.size A1 n1 c1 (O.map (Value.int .i64)) rfl ?c0 ?c1 ?c2 ?c3 ?c4 ?c5 ?_)
      case c0 => simp; exact E1.out.symm
      case c1 => exact E4.out.below hbw (Nat.le_refl _)
      case c2 => exact ints_one _ _
      case c3 => simp only [maxLen]; omega
      case c4 => omega
      case c5 => omega
      intro v1 w4 hown4 hg4 hv4
      have hb4 : Below wr.heap.size wr w4 := (Below.refl _ _).grown hg4 (Nat.le_refl _) (by intro k hk; simp [Value.ownBlock] at hk)
      have hs4 := hb4.size
      go_wp2_with (at_builtin; refine wpList_appB _ rfl _ _ 24 rfl (w1.heap.size + 1) 3 i0 _ 1 8 Try.underlying24 hi hz0 HZ1 hz2 rfl (by decide) _ _ _ rfl hown4 wr.heap.size A3 accL c3 (acc.map (Value.int .i64)) rfl ?c0 ?c1 ?c2 ?c3 ?c4 ?c5 ?_)
      case c0 => simp; exact HAL.out.symm
      case c1 => exact HRO.out.below hb4 (Nat.le_refl _)
      case c2 => exact ints_one _ _
      case c3 => simp only [maxLen]; omega
      case c4 => omega
      case c5 => omega
      intro v2 w5 hown5 hg5 hv5
      have hb5 : Below wr.heap.size wr w5 := hb4.grown hg5 hs4 (fun k hk => by
        rcases hv4 with e | e
        · rw [e] at hk; simp [Value.ownBlock] at hk
        · rw [e] at hk; injection hk with hk; omega)
      have hs5 := hb5.size
      have hb05 := hbw.trans (hb5.mono (by omega))
      have hbx5 := (hb5.block _ (by omega)).trans HBOX.out
      have z1 := (HCL.out _ _ hb05).trans G1.out
      have z2 := (HCL.out _ _ hb05).trans G2.out
      have z3 := (HCL.out _ _ hb05).trans G3.out
      have z4 := (HCL.out _ _ hb05).trans G4.out
      have HACC : Hid (O ++ acc = outsT (ts.drop J)) := by rw [HAD.out, ← hacc.out]; rfl
      have HOWN : Hid (OwnI .i64 3 w5 (w1.heap.size + 1) v2 (O ++ acc)) := by
        show w5.ownsRow _ _ _ _ _ _
        rw [List.length_append, List.map_append, ← E1.out, ← HAL.out]; exact hown5
      obtain ⟨A8, c8, rfl, _⟩ := own_form hown5
      have HB5 := Lib.hid (hb.trans (hb5.mono (by omega)))
      have HBX5 := Lib.hid hbx5
      have HB05 := Lib.hid hb05
      clear hown4 hown5 hg4 hg5 hv4 hv5 k1 k2 k5 k6 hbx5
      by_cases hE0 : E = 0
      · have HTW : Hid (tw = wrongT (ts.drop J)) := by
          rw [HWD.out, if_pos (by rw [HTK.out]; exact hE0)]; exact htw.out
        subst hE0
        go_wp2
        go_roundw
        case rel => exact ⟨J, _, _, by omega, by go_num, ⟨HOWN.out, _, HBX5.out, HUSW.out.step hs5 fun b hb hx => ⟨hx, hb5.block b hb⟩⟩, HACC, HTW, HB5.out, by omega⟩
        case measure => simp [intOf]
      · have HTW : Hid (⟨P, S, O, E⟩ = wrongT (ts.drop J)) := by
          rw [HWD.out, if_neg (by rw [HTK.out]; exact hE0), HTK.out]; rfl
        have hd : (E != 0) = true := by simpa using hE0
        go_wp2_with (refine wpList_store_row rfl _ _ _ rfl w1.heap.size #[.int .i64 P, .int .i64 S, .slice A1 n1 c1, .int .i64 E] rfl rfl _ _ HBX5.out infotok4 rfl (by simp [Value.oneCell']) ?_)
        obtain ⟨W, hW⟩ : ∃ W, W = w5.setRow w1.heap.size #[.int .i64 P, .int .i64 S, .slice A1 n1 c1, .int .i64 E] := ⟨_, rfl⟩
        have hoth : ∀ k, k ≠ w1.heap.size → W.heap[k]? = w5.heap[k]? := fun k hk => by rw [hW]; exact setRow_other _ _ _ _ hk
        have hWs : W.heap.size = w5.heap.size := by rw [hW, setRow_size]
        have hbW : Below w1.heap.size w1 W := by rw [hW]; exact below_row HB5.out (Nat.le_refl _) _
        have hbox6 := setRow_heap w5 w1.heap.size _ #[.int .i64 P, .int .i64 S, .slice A1 n1 c1, .int .i64 E] _ _ HBX5.out
        rw [← hW] at hbox6 ⊢
        have hgr : w5.grownBy W (some w1.heap.size) := by
          rw [hW]
          exact ⟨rfl, rfl, rfl, by rw [setRow_size]; exact Nat.le_refl _, fun k hk hne => setRow_other _ _ _ _ (fun e => hne (by rw [e]))⟩
        have HOWN6 : Hid (OwnI .i64 3 W (w1.heap.size + 1) (.slice A8 (n1 + accL) c8) (O ++ acc)) :=
          own_other HOWN.out hgr (fun k hk e => by injection e with e; have := (HOWN.out.lt k hk).1; omega)
        have hus : Us (· < w.heap.size) W (.slice A1 n1 c1) O := (us_at E1.out e2 (by unfold maxLen; omega) (E4.out.below HB05.out (Nat.le_refl _))).step (by omega) fun b hb hx => ⟨hx, hoth b (by have : b < w.heap.size := hx; omega)⟩
        go_roundw
        case rel => exact ⟨J, _, ⟨P, S, O, E⟩, by omega, by go_num, ⟨HOWN6.out, _, hbox6, hus⟩, HACC, HTW, hbW, by omega⟩
        case measure => simp [intOf]
end Go.Proofs.Ytfbncepkmhfbmaa
