/- Layer 5: Units. -/
import Derived.Test.YtgjmclbcmfkhdaaDoorTok
import Derived.Test.YtgjmclbcmfkhdaaDoorRewA
namespace Go.Proofs.YtgjmclbcmfkhdaaDoor
set_option linter.unusedVariables false
open Go.RowKit
theorem results_tmp_row {P : Program} {fn : Func} {p u : Tmp} {ty : TypeId} (h : fn.results = #[.tmp u, .cell p ty]) (tmps : Array Value) (w : World) (g : Nat) (t : TypeId) (cs : Array Value) (fr : Nat × Nat) (d : TypeDesc)
    (hp : tmps.getD p undef = .pointer (some ⟨g, 0, none⟩)) (hg : w.heap[g]? = some (.cells cs t fr))
    (hu : P.underlying ty = some d) (hd : (match d with | .struct _ | .array _ _ => true | _ => false) = true) (hi : (P.info? ty).map (·.size) = some cs.size) :
    (results fn tmps).run P w = .ok (.tuple #[tmps.getD u undef, .agg cs]) w := by
  have hp' : tmps[p]?.getD undef = .pointer (some ⟨g, 0, none⟩) := by simpa using hp
  simp [results, h, hp', asAddr, run_loadVar_row w g t ty cs fr d hg hu hd hi]
theorem pair_ret {fn : Func} {p u : Tmp} {a : Act} {w : World} {R : Ending → World → Prop} {g : Nat} {cs : Array Value} {t : TypeId} {fr : Nat × Nat} {v : Value} (h : fn.results = #[.tmp u, .cell p 53]) (hp : a.tmps.getD p undef = .pointer (some ⟨g, 0, none⟩)) (hg : w.heap[g]? = some (.cells cs t fr)) (hs : cs.size = 4)
    (hu : a.tmps.getD u undef = v) (hd : a.defers = []) (hR : R (.returned (.tuple #[v, .agg cs])) w) : bodyPost Tryd.prog fn R .ret a w :=
  bodyPost_ret (results_tmp_row h a.tmps w g t cs fr _ hp hg Tryd.underlying53 rfl (by rw [infotok4, hs])) hd (by rw [hu]; exact hR)
/-- how the two that are gathered lie: the units, and the token that is wrong -/
structure UnI (base g : Nat) (w : World) (v : Value) (us : List Int) (t : Tk) : Prop where
  own : OwnI .i64 3 w base v us
  box : ∃ s, w.heap[g]? = some (.cells #[.int .i64 t.pos, .int .i64 t.size, s, .int .i64 t.err] 53 (0, 0)) ∧ Us (fun b => base ≤ b ∧ v.ownBlock ≠ some b) w s t.out
theorem tok_cells {w : World} {g : Nat} {x y z u : Value} {T : TypeId} (hp : w.heap[g]? = some (.cells #[x, y, z, u] T (0, 0))) : w.cell? ⟨g, 0, none⟩ = some x ∧ w.cell? ⟨g, 1, none⟩ = some y ∧ w.cell? ⟨g, 2, none⟩ = some z ∧ w.cell? ⟨g, 3, none⟩ = some u ∧ ∀ o, w.frozen? ⟨g, o, none⟩ = false := by
  refine ⟨?_, ?_, ?_, ?_, fun o => frozen_of_row _ _ _ _ _ hp⟩ <;> (rw [cell_of_row _ _ _ _ _ _ hp]; rfl)

theorem UnI.push {base g n1 : Nat} {w w1 w4 : World} {v v' : Value} {us out : List Int} {t : Tk} (h : UnI base g w v us t) (hb : Below w.heap.size w w1) (ho : w4.ownsRow base 3 1 v' (us.length + n1) (us.map (Value.int .i64) ++ out.map (Value.int .i64))) (hn : n1 = out.length) (hg : w1.grownBy w4 v.ownBlock) (hv : v'.ownBlock = v.ownBlock ∨ v'.ownBlock = some w1.heap.size) (hgb : g < base) (hgs : g < w.heap.size) : UnI base g w4 v' (us ++ out) t := by
  have hs := hb.size
  obtain ⟨s, h1, h2⟩ := h.box
  refine ⟨by unfold OwnI; rw [List.length_append, List.map_append, ← hn]; exact ho, s, ?_, ?_⟩
  · rw [hg.block g (by omega) (fun e => by have := (h.own.lt g e.symm).1; omega), hb.block g hgs]; exact h1
  · refine h2.step (by have := hg.size; omega) fun b hbl ⟨q1, q2⟩ => ⟨⟨q1, ?_⟩, (hg.block b (by omega) (fun e => q2 e.symm)).trans (hb.block b hbl)⟩
    rcases hv with e | e
    · rw [e]; exact q2
    · rw [e]; intro e'; injection e' with e'; omega
theorem UnI.wrong {base g : Nat} {w w5 : World} {v : Value} {us out : List Int} {t : Tk} {p z e : Int} {s s0 : Value} (h : UnI base g w v us t) (hb : Below w.heap.size (w.setRow g #[.int .i64 p, .int .i64 z, s0, .int .i64 e]) w5) (hu : Us (fun b => w.heap.size ≤ b) w5 s out) (hgb : g < base) (hgs : base ≤ w.heap.size) : UnI base g (w5.setCell ⟨g, 2, none⟩ s) v us ⟨p, z, out, e⟩ := by
  have hs := hb.size
  rw [setRow_size] at hs
  obtain ⟨s1, h1, h2⟩ := h.box
  have hoth : ∀ k, k < w.heap.size → k ≠ g → (w5.setCell ⟨g, 2, none⟩ s).heap[k]? = w.heap[k]? := fun k hk hne => by
    rw [Below.heap_setCell _ _ _ _ hne, hb.block k hk, setRow_other _ _ _ _ hne]
  have hgr : w.grownBy (w5.setCell ⟨g, 2, none⟩ s) (some g) := ⟨hb.os, hb.tape, hb.output, by rw [World.size_setCell]; exact hs, fun k hk hne => hoth k hk (fun e => hne (by rw [e]))⟩
  refine ⟨own_other h.own hgr (fun k hk e => by injection e with e; have := (h.own.lt k hk).1; omega), s, ?_, ?_⟩
  · have := heap_setCell_same w5 g 2 _ _ s ((hb.block g (by omega)).trans (setRow_heap w g _ #[.int .i64 p, .int .i64 z, s0, .int .i64 e] _ _ h1))
    exact this
  · refine hu.step (by rw [World.size_setCell]; exact Nat.le_refl _) fun b hbl hx => ⟨⟨by have : w.heap.size ≤ b := hx; omega, fun e => by have := own_lt h.own e; have : w.heap.size ≤ b := hx; omega⟩, Below.heap_setCell _ _ _ _ (by have : w.heap.size ≤ b := hx; show b ≠ g; omega)⟩
theorem set4 {w : World} {g : Nat} {x y z u a b c d : Value} {T : TypeId} (h : w.heap[g]? = some (.cells #[x, y, z, u] T (0, 0))) :
    (((w.setCell ⟨g, 0, none⟩ a).setCell ⟨g, 1, none⟩ b).setCell ⟨g, 2, none⟩ c).setCell ⟨g, 3, none⟩ d = w.setRow g #[a, b, c, d] := by
  rw [setCell_eq_setRow w g 0 _ _ _ a h]
  have h1 := setRow_heap w g _ (#[x, y, z, u].setIfInBounds 0 a) _ _ h
  rw [setCell_eq_setRow _ g 1 _ _ _ b h1, setRow_setRow]
  have h2 := setRow_heap w g _ ((#[x, y, z, u].setIfInBounds 0 a).setIfInBounds 1 b) _ _ h
  rw [setCell_eq_setRow _ g 2 _ _ _ c h2, setRow_setRow]
  have h3 := setRow_heap w g _ (((#[x, y, z, u].setIfInBounds 0 a).setIfInBounds 1 b).setIfInBounds 2 c) _ _ h
  rw [setCell_eq_setRow _ g 3 _ _ _ d h3, setRow_setRow]
  rfl
theorem outs_room {ts : List Tk} {K : Nat} (hK : K < ts.length) : (outsT (ts.take K)).length + ts[K].out.length ≤ (outsT ts).length := by
  have h := outsT_app (ts.take (K + 1)) (ts.drop (K + 1))
  rw [List.take_append_drop, outsT_take hK] at h
  rw [h]; simp

set_option maxHeartbeats 3200000 in
theorem unitsT_any (n : Nat) (A : Option Addr) (c : Nat) (ts : List Tk) (B : Nat) (w : World) (h : TkAt w B A n c ts) (hB : B ≤ w.heap.size) (hl : (outsT ts).length ≤ 17592186044415) (us : List Int) (t : Tk) (m m' : Nat) (hu : outsT ts = us) (ht : wrongT ts = t) (hm : us.length = m) (hm' : t.out.length = m') :
    Calls Tryd.prog 23 #[.slice A n c] w fun en w' => ∃ A1 c1 A2 c2, en = .returned (.tuple #[.slice A1 m c1, .agg #[.int .i64 t.pos, .int .i64 t.size, .slice A2 m' c2, .int .i64 t.err]]) ∧ Us (fun b => w.heap.size ≤ b) w' (.slice A1 m c1) us ∧ Us (fun b => w.heap.size ≤ b) w' (.slice A2 m' c2) t.out ∧ Below w.heap.size w w' := by
  obtain ⟨i0, hi, hz0, HZ1, hz2⟩ := info_parts infoint
  have hc1 := h.fits
  have hc2 := h.small
  unfold maxLen at hc2
  have H := Lib.hid h
  have HL := Lib.hid hl
  have HU := Lib.hid hu
  have HT := Lib.hid ht
  have HM := Lib.hid hm
  have HM' := Lib.hid hm'
  clear h hl hu ht hm hm'
  go_enter Tryd.func23, Tryd.ntmps23
  go_wp2
  have hbW : ∀ o1 o2, Below w.heap.size w ((w.alloc o1).alloc o2) := fun o1 o2 => ((Below.refl _ _).alloc (Nat.le_refl _) _).alloc (by simp) _
  have HBW := Lib.hid hbW
  clear hbW
  go_loopw [4, 10] (fun v i wr => ∃ (K : Nat) (acc : List Int) (tw : Tk), K ≤ n ∧ i = .int .i64 K ∧ Hid (UnI (w.heap.size + 2) (w.heap.size + 1) wr v acc tw) ∧ Hid (acc = outsT (ts.take K)) ∧ Hid (tw = wrongT (ts.take K)) ∧
      Hid (wr.heap[w.heap.size]? = some (.cells #[.int .i64 0, .int .i64 0, .slice none 0 0, .int .i64 0] 53 (0, 0))) ∧ Below w.heap.size w wr ∧ w.heap.size + 2 ≤ wr.heap.size) (fun _ i _ => n - (intOf i).toNat)
  case atStart =>
    refine ⟨0, [], ⟨0, 0, [], 0⟩, by omega, rfl, ⟨World.ownsRow_nil _ _ _ _, .slice none 0 0, heap_alloc2_new w _ _, ⟨none, 0, rfl, by simp, by simp [maxLen], .inl rfl⟩⟩, rfl, rfl, heap_alloc2_old w _ _, HBW.out _ _, by simp⟩
  case round =>
    obtain ⟨K, acc, tw, hK, rfl, hui, hacc, htw, h3, hb, hs2⟩ := hrel
    have hs := hb.size
    obtain ⟨A3, c3, rfl, _⟩ := own_form hui.out.own
    obtain ⟨sw, hbox, husw⟩ := hui.out.box
    obtain ⟨A5, c5, rfl, _, _, _⟩ := id husw
    by_cases hKn : K = n
    · have hK' : ¬ K < n := by omega
      have e : ts.take K = ts := List.take_of_length_le (by rw [← H.out.len]; omega)
      have HA : Hid (acc = us) := by rw [e] at hacc; exact hacc.out.trans HU.out
      have HTW : Hid (tw = t) := by rw [e] at htw; exact htw.out.trans HT.out
      clear hKn e
      obtain ⟨x0, x1, x2, x3, xf⟩ := tok_cells hbox
      obtain ⟨y0, y1, y2, y3, yf⟩ := tok_cells h3.out
      have HBOX := Lib.hid hbox
      clear hbox
      go_wp2
      go_region
      go_wp2
      rw [set4 h3.out]
      have hfin := setRow_heap wr w.heap.size _ #[.int .i64 tw.pos, .int .i64 tw.size, .slice A5 tw.out.length c5, .int .i64 tw.err] _ _ h3.out
      obtain ⟨W, hW⟩ : ∃ W, W = wr.setRow w.heap.size #[.int .i64 tw.pos, .int .i64 tw.size, .slice A5 tw.out.length c5, .int .i64 tw.err] := ⟨_, rfl⟩
      have hbW : Below w.heap.size w W := by rw [hW]; exact below_row hb (Nat.le_refl _) _
      have hoth : ∀ k, k ≠ w.heap.size → W.heap[k]? = wr.heap[k]? := fun k hk => by rw [hW]; exact setRow_other _ _ _ _ hk
      have hWs : wr.heap.size ≤ W.heap.size := by rw [hW, setRow_size]; exact Nat.le_refl _
      rw [← hW] at hfin ⊢
      obtain ⟨A6, c6, e6, hu6⟩ := us_own (us := acc) (n := acc.length) hui.out.own rfl
      injection e6 with e6 e7 e8
      subst e6 e8
      have hstep : ∀ {v : Value} {zs : List Int} {X : Nat → Prop}, (∀ b, X b → w.heap.size + 2 ≤ b) → Us X wr v zs → Us (fun b => w.heap.size ≤ b) W.drew v zs := fun hX h => h.step (w' := W.drew) hWs fun b _ hx => ⟨by have := hX b hx; omega, hoth b (by have := hX b hx; omega)⟩
      refine pair_ret (g := w.heap.size) (w := W.drew) rfl rfl hfin rfl rfl rfl ?_
      have h1 := hstep (fun b hx => hx) hu6
      have h2 := hstep (fun b hx => hx.1) husw
      rw [← HA.out] at HM
      rw [← HTW.out] at HM' ⊢
      rw [← HM.out, ← HM'.out, ← HA.out]
      exact ⟨_, _, _, _, rfl, h1, h2, hbW.drew⟩
    have hK' : K < n := by omega
    have hK1 : K < ts.length := by rw [← H.out.len]; exact hK'
    have hroom := outs_room hK1
    rw [← hacc.out] at hroom
    have HA2 := Lib.hid (outsT_take hK1)
    have HW2 := Lib.hid (wrongT_take hK1)
    obtain ⟨b, o, rfl, hbB, A1, n1, c1, g1, g2, g3, g4, e1, e2, e3, e4⟩ := H.out.at hK1
    have hcl : ∀ o', wr.cell? ⟨b, o', none⟩ = w.cell? ⟨b, o', none⟩ := fun o' => hb.cell (p := ⟨b, o', none⟩) (by show b < _; omega)
    have k1 := (hcl _).trans g1
    have k2 := (hcl _).trans g2
    have k5 := (hcl _).trans g3
    have k6 := (hcl _).trans g4
    have k3 : (0 : Int) ≤ K := by omega
    have k4 : (K : Int) < n := by omega
    have E1 := Lib.hid e1
    have E4 := Lib.hid e4
    obtain ⟨P, hP⟩ : ∃ x, x = ts[K].pos := ⟨_, rfl⟩
    obtain ⟨S, hS⟩ : ∃ x, x = ts[K].size := ⟨_, rfl⟩
    obtain ⟨E, hE⟩ : ∃ x, x = ts[K].err := ⟨_, rfl⟩
    obtain ⟨O, hO⟩ : ∃ x, x = ts[K].out := ⟨_, rfl⟩
    rw [← hP] at k1
    rw [← hS] at k2
    rw [← hE] at k6
    rw [← hO] at E1 E4 hroom HA2
    have HTK : Hid (ts[K] = ⟨P, S, O, E⟩) := by rw [hP, hS, hE, hO]; rfl
    have hn1 : acc.length + n1 ≤ 17592186044415 := by rw [E1.out]; have := HL.out; omega
    unfold maxLen at e3
    obtain ⟨accL, haccL⟩ : ∃ accL, accL = acc.length := ⟨_, rfl⟩
    have hown := hui.out.own
    unfold OwnI at hown
    rw [← haccL] at hown hn1
    have HAL := Lib.hid haccL
    have HBOX := Lib.hid hbox
    have HUSW := Lib.hid husw
    rw [← haccL]
    clear hKn g1 g2 g3 g4 e1 e4 hcl hP hS hE hO hroom haccL hbox husw
    have HBA : Hid (∀ o1, Below wr.heap.size wr (wr.alloc o1)) := fun o1 => ((Below.refl _ _).alloc (Nat.le_refl _) _)
    have HBR : Hid (Rd wr B A1 (O.map (Value.int .i64))) := E4.out.below (hb.mono hB) (Nat.le_refl _)
    go_wp2_with (at_builtin; refine wpList_appB _ rfl _ _ 30 rfl (w.heap.size + 2) 3 i0 _ 1 8 Tryd.underlying30 hi hz0 HZ1 hz2 rfl (by decide) _ _ _ rfl (hown.alloc _) B A1 n1 c1 (O.map (Value.int .i64)) rfl ?c0 ?c1 ?c2 ?c3 ?c4 ?c5 ?_)
    case c0 => simp; exact E1.out.symm
    case c1 => exact HBR.out.below ((HBA.out _).mono (by omega)) (Nat.le_refl _)
    case c2 => exact ints_one _ _
    case c3 => simp only [maxLen]; omega
    case c4 => omega
    case c5 => simp; omega
    intro v' w4 hown4 hg4 hv4
    have hs4 := hg4.size
    rw [World.size_alloc] at hs4
    have hlow : ∀ x, (Value.slice A3 accL c3).ownBlock = some x → w.heap.size + 2 ≤ x ∧ x < wr.heap.size := fun x hx => ⟨(hown.lt x hx).1, own_lt hown hx⟩
    have hui4 : UnI (w.heap.size + 2) (w.heap.size + 1) w4 v' (acc ++ O) tw := by
      have h := hui.out
      rw [← HAL.out] at h
      exact h.push (HBA.out _) (by rw [← HAL.out]; exact hown4) E1.out hg4 (by simpa using hv4) (by omega) (by omega)
    have hkeep : ∀ k, k < wr.heap.size + 1 → (∀ x, (Value.slice A3 accL c3).ownBlock = some x → k ≠ x) → w4.heap[k]? = (wr.alloc (.cells #[.int .i64 P, .int .i64 S, .slice A1 n1 c1, .int .i64 E] 53)).heap[k]? := fun k hk hne => hg4.block k (by simpa using hk) (fun e => hne k e.symm rfl)
    have hgx : w4.heap[wr.heap.size]? = some (.cells #[.int .i64 P, .int .i64 S, .slice A1 n1 c1, .int .i64 E] 53 (0, 0)) := (hkeep _ (by omega) (fun x hx => by have := hlow x hx; omega)).trans (heap_alloc_new wr _)
    have h34 : Hid (w4.heap[w.heap.size]? = some (.cells #[.int .i64 0, .int .i64 0, .slice none 0 0, .int .i64 0] 53 (0, 0))) := (hkeep _ (by omega) (fun x hx => by have := hlow x hx; omega)).trans (((HBA.out _).block _ (by omega)).trans h3.out)
    have hb4 : Below w.heap.size w w4 := below_own (hb.trans ((HBA.out _).mono hs)) hg4 (hown.alloc _) (by omega) (by simp; omega)
    obtain ⟨s4, hbox4, hus4⟩ := hui4.box
    obtain ⟨A7, c7, rfl, _⟩ := id hus4
    obtain ⟨x0, x1, x2, x3, xf⟩ := tok_cells hbox4
    obtain ⟨y0, y1, y2, y3, yf⟩ := tok_cells hgx
    have HUI := Lib.hid hui4
    have HACC : Hid (acc ++ O = outsT (ts.take (K + 1))) := by rw [HA2.out, ← hacc.out]; rfl
    have HOWN := Lib.hid hown4
    have HLOW := Lib.hid hlow
    have HGX := Lib.hid hgx
    have HBX := Lib.hid hbox4
    obtain ⟨A8, c8, rfl, _⟩ := own_form hown4
    clear hui hui4 hacc hown4 hlow hgx hbox4 hus4 hkeep hg4 hv4 hown
    by_cases hE0 : E = 0
    · have HTW : Hid (tw = wrongT (ts.take (K + 1))) := by
        rw [HW2.out]
        by_cases hz : (wrongT (ts.take K)).err = 0
        · rw [if_pos hz, if_pos (by rw [HTK.out]; exact hE0), htw.out, wrongT_none hz]; rfl
        · rw [if_neg hz]; exact htw.out
      have hd : decide (E ≠ 0) = false := by simpa using hE0
      subst hE0
      clear htw
      go_wp2
      go_roundw
      case rel => exact ⟨K + 1, _, _, by omega, by go_num, HUI, HACC, HTW, h34, hb4, by omega⟩
      case measure => simp [intOf]; omega
    have hd : (E != 0) = true := by simpa using hE0
    by_cases hz : tw.err = 0
    · have HTW : Hid (⟨P, S, O, E⟩ = wrongT (ts.take (K + 1))) := by
        rw [HW2.out, if_pos (by rw [← htw.out]; exact hz), HTK.out, if_neg hE0]; rfl
      have hd2 : (tw.err == 0) = true := by simpa using hz
      rw [hz] at x3
      have HZ := Lib.hid hz
      clear htw hz
      have z2 : (w4.setRow (w.heap.size + 1) #[.int .i64 P, .int .i64 S, .slice A1 n1 c1, .int .i64 E]).cell? ⟨wr.heap.size, 2, none⟩ = some (.slice A1 n1 c1) := by rw [cell_setRow_other _ _ _ _ (by show wr.heap.size ≠ _; omega)]; exact y2
      go_wp2_with (refine wpList_store_row rfl _ _ _ rfl (w.heap.size + 1) #[.int .i64 P, .int .i64 S, .slice A1 n1 c1, .int .i64 E] rfl rfl _ _ HBX.out infotok4 rfl (by simp [Value.oneCell']) ?_)
      obtain ⟨W3, hW3⟩ : ∃ W3, W3 = w4.setRow (w.heap.size + 1) #[.int .i64 P, .int .i64 S, .slice A1 n1 c1, .int .i64 E] := ⟨_, rfl⟩
      have hb3 : Below (w.heap.size) w W3 := by rw [hW3]; exact below_row hb4 (by omega) _
      have hs3 : W3.heap.size = w4.heap.size := by rw [hW3, setRow_size]
      have z3 : W3.heap[w.heap.size + 1]? = some (.cells #[.int .i64 P, .int .i64 S, .slice A1 n1 c1, .int .i64 E] 53 (0, 0)) := by rw [hW3]; exact setRow_heap w4 _ _ _ _ _ HBX.out
      have z4 : W3.heap[w.heap.size]? = w4.heap[w.heap.size]? := by rw [hW3]; exact setRow_other _ _ _ _ (by omega)
      rw [← hW3]
      have HW3 := Lib.hid hW3
      have Z3 := Lib.hid z3
      have Z4 := Lib.hid z4
      clear hW3 z2 z3 z4 x0 x1 x2 x3 xf y0 y1 y2 y3 yf
      refine (clone_any n1 A1 c1 O B W3 E1.out (E4.out.below (hb3.mono hB) (Nat.le_refl _)) (by omega) (by omega)).mono ?_
      rintro en w5 ⟨A6, c6, rfl, hu6, hb5⟩
      have hs5 := hb5.size
      obtain ⟨x0, x1, x2, x3, xf⟩ := tok_cells ((hb5.block _ (by omega)).trans Z3.out)
      have hui5 : UnI (w.heap.size + 2) (w.heap.size + 1) (w5.setCell ⟨w.heap.size + 1, 2, none⟩ (.slice A6 n1 c6)) (.slice A8 (accL + n1) c8) (acc ++ O) ⟨P, S, O, E⟩ := by
        refine HUI.out.wrong (s0 := .slice A1 n1 c1) (by rw [← HW3.out]; exact hb5.mono (by omega)) (hu6.step (Nat.le_refl _) fun b _ hx => ⟨by have : W3.heap.size ≤ b := hx; omega, rfl⟩) (by omega) (by omega)
      have HUI5 := Lib.hid hui5
      have HB6 : Hid (Below w.heap.size w (w5.setCell ⟨w.heap.size + 1, 2, none⟩ (.slice A6 n1 c6))) := (hb3.trans (hb5.mono (by omega))).setCell (by show _ ≤ w.heap.size + 1; omega) _
      have H35 : Hid ((w5.setCell ⟨w.heap.size + 1, 2, none⟩ (.slice A6 n1 c6)).heap[w.heap.size]? = some (.cells #[.int .i64 0, .int .i64 0, .slice none 0 0, .int .i64 0] 53 (0, 0))) := by
        rw [Below.heap_setCell _ _ _ _ (by show w.heap.size ≠ w.heap.size + 1; omega), hb5.block _ (by omega), Z4.out]; exact h34.out
      clear hui5 hu6
      go_wp2
      go_roundw
      case rel => exact ⟨K + 1, _, _, by omega, by go_num, HUI5, HACC, HTW, H35, HB6.out, by rw [World.size_setCell]; omega⟩
      case measure => simp [intOf]; omega
    · have HTW : Hid (tw = wrongT (ts.take (K + 1))) := by
        rw [HW2.out, if_neg (by rw [← htw.out]; exact hz)]; exact htw.out
      have hd2 : (tw.err == 0) = false := by simpa using hz
      clear htw
      go_wp2
      go_roundw
      case rel => exact ⟨K + 1, _, _, by omega, by go_num, HUI, HACC, HTW, h34, hb4, by omega⟩
      case measure => simp [intOf]; omega
end Go.Proofs.YtgjmclbcmfkhdaaDoor
