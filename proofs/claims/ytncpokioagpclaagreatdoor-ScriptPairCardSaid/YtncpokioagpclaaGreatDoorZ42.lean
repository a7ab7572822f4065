/- Texts of this seat, one behind the other: StwG, StwN, StwH, StwP, StwQ, StwR, StwS, ScP. -/
import Derived.Test.YtncpokioagpclaaGreatDoorZ38
import Derived.Test.YtncpokioagpclaaGreatDoorZ41
import Derived.Test.YtncpokioagpclaaGreatDoorZ8
namespace Go.Proofs.YtncpokioagpclaaGreatDoor
set_option linter.unusedVariables false
set_option linter.unusedSimpArgs false
set_option linter.unnecessarySimpa false
open Go.RowKit
theorem head3 (A : Option Addr) (L c n : Nat) (h : n ≤ L) (hc : L ≤ c) (hm : c ≤ 2 ^ 63 - 1) : ∀ W : World, (Instr.sliceAt 22 (.slice A L c) none (some (.int .i64 n)) (some (.int .i64 n))).run Tryz.prog W = .ok (.slice A n n) W := fun W => by
  have e2 : (0 : Int) ≤ n := by omega
  have e4 : (n : Int) ≤ c := by omega
  cases A <;> go_simp
theorem tail8 (A : Option Addr) (L c n : Nat) (h : n ≤ L) (hc : L ≤ c) (hm : c ≤ 2 ^ 63 - 1) : ∃ ad, (∀ W : World, (Instr.sliceAt 22 (.slice A L c) (some (.int .i64 n)) none none).run Tryz.prog W = .ok (.slice ad (L - n) (c - n)) W) ∧ ad = (if c = n then A else A.map (·.add n)) := by
  have e2 : (0 : Int) ≤ n := by omega
  have e3 : (n : Int) ≤ L := by omega
  have e4 : (L : Int) ≤ c := by omega
  refine ⟨_, fun W => ?_, rfl⟩
  by_cases h : c = n
  · cases A <;> go_simp
  · cases A <;> go_simp
theorem rd_drop {w : World} {B : Nat} {A : Option Addr} {c : Nat} {zs : List Int} (h : Rd w B A (zs.map (Value.int .u8))) (n : Nat) (hc : zs.length ≤ c) : Rd w B (if c = n then A else A.map (·.add n)) ((zs.drop n).map (Value.int .u8)) := by
  by_cases he : zs.drop n = []
  · rw [he]; exact .inl rfl
  have hn : n < zs.length := by
    rcases Nat.lt_or_ge n zs.length with h1 | h1
    · exact h1
    · exact absurd (List.drop_of_length_le h1) he
  rw [if_neg (by omega)]
  rcases h with h | ⟨b, off, h1, h2, h3⟩
  · rw [List.map_eq_nil_iff] at h; rw [h] at hn; simp at hn
  · refine .inr ⟨b, off + n, by rw [h1]; simp [Go.WideShapes.add_plain], h2, fun j hj => ?_⟩
    rw [List.length_map, List.length_drop] at hj
    rw [List.map_drop, List.getElem?_drop, Nat.add_assoc]
    exact h3 (n + j) (by rw [List.length_map]; omega)
/-- a new row is what is owed -/
theorem StE.newRow {k : Nat} {s1 s2 : ByteArray} {pol : Int} {Vr : Value} {st : Int} {q p S : Nat} {w0 w w1 : World} {W0 F0 : Nat → Prop} {vo v' : Value} {G F : Nat → Prop} {e : ESt} {o o' : List Int} {f : Flt} (h : StE k s1 s2 pol Vr st q p S w0 W0 F0 w vo G F e o f) (hb : Below w.heap.size w w1) (ho : OwnI .u8 5 w1 S v' o') (hv : v'.ownBlock = none ∨ ∃ b, v'.ownBlock = some b ∧ w.heap.size ≤ b) :
    StE k s1 s2 pol Vr st q p S w0 W0 F0 (w1.setCell ⟨q, 5, none⟩ v') v' G F e o' f := by
  have h' := h.below hb
  obtain ⟨e', he, hee⟩ := h'.enc
  have hg := grownBy_setCellK w1 ⟨q, 5, none⟩ v'
  have hm0 := h.mid.size
  exact ⟨heldS _ _ 5 _ _ _ h'.box, own_kept ho hg h.lt, ⟨e', he.stay hg.size fun b hb => hg.block b (he.foot.2.1 b hb) (fun x => by injection x with x; have x2 : b = q := x; rw [x2] at hb; exact h.fq hb), hee⟩, h.ql, h.lt, Nat.le_trans h'.top hg.size, h.fq, fun b e hb => by
    rcases hv with h1 | ⟨b2, h1, h2⟩
    · rw [h1] at e; cases e
    · rw [h1] at e; injection e with e; have := h.gf.2 b hb; omega, h'.mid.then (G := fun b => b = q) (Mid.by hg rfl) (fun b hb => by rw [hb]; exact .inl h.wq), h.wq, fun b e => by
    rcases hv with h1 | ⟨b2, h1, h2⟩
    · rw [h1] at e; cases e
    · rw [h1] at e; injection e with e; exact .inr (by omega), h.wg, h.wf, h.ok⟩
/-- what is paid is none of what the stream writes -/
theorem paid_rd {k1 k2 : Nat} {s1 s2 : ByteArray} {pol st : Int} {q pd p S : Nat} {w0 w w' : World} {W0 F0 : Nat → Prop} {A0 : Option Addr} {n0 c0 : Nat} {v' : Value} {GD FD G F : Nat → Prop} {s : SSt} (h0 : StM k1 k2 s1 s2 pol st q pd p S w0 W0 F0 w (.slice A0 n0 c0) GD FD G F s) (hrd : Rd w w.heap.size A0 (s.o.map (Value.int .u8))) (m : Nat)
    (hs : w.heap.size ≤ w'.heap.size) (hk : ∀ b, b < w.heap.size → b ≠ q → w'.heap[b]? = w.heap[b]?) (hv : v'.ownBlock = none ∨ ∃ b, v'.ownBlock = some b ∧ w.heap.size ≤ b) : Rdx (fun b => ¬ Wm q v' GD G b) w' A0 ((s.o.take m).map (Value.int .u8)) := by
  rcases hrd with h | ⟨b, off, h1, h2, h3⟩
  · rw [List.map_eq_nil_iff] at h; rw [h]; exact .inl (by simp)
  · subst h1
    have hl := World.ownsRow.lt h0.e.row b rfl
    have hq := h0.e.lt
    refine .inr ⟨b, off, rfl, by omega, fun hb => ?_, fun j hj => ?_⟩
    · rcases hb with (hb | hb | hb) | hb
      · omega
      · rcases hv with e | ⟨b2, e, he⟩
        · rw [e] at hb; cases hb
        · rw [e] at hb; injection hb with hb; omega
      · exact h0.e.fv b rfl (h0.e.gf.1 b hb)
      · exact h0.dv b rfl (h0.dfoot.1 b hb)
    · rw [List.length_map, List.length_take] at hj
      rw [cell_block (hk b h2 (by omega)), h3 j (by rw [List.length_map]; omega), List.map_take, List.getElem?_take_of_lt (by omega)]
set_option maxRecDepth 100000 in
set_option maxHeartbeats 6400000 in
theorem spay_any {k1 k2 : Nat} {s1 s2 : ByteArray} {pol st : Int} {q pd p S : Nat} {w0 w : World} {W0 F0 : Nat → Prop} {vo : Value} {GD FD G F : Nat → Prop} {s : SSt} (h0 : StM k1 k2 s1 s2 pol st q pd p S w0 W0 F0 w vo GD FD G F s)
    (room : Int) (hr0 : 0 ≤ room) (ho9 : s.o.length ≤ 100000000) (out : List Int) (err : Int) (s' : SSt) (hpy : payS room s = (out, err, s')) :
    Calls Tryz.prog 95 #[.pointer (some ⟨q, 0, none⟩), .int .i64 room] w fun x w' => ∃ vo' A' c', x = .returned (.tuple #[.slice A' out.length c', .int .i64 err]) ∧ StM k1 k2 s1 s2 pol (if s.o.drop room.toNat = [] ∧ s.f.err ≠ 0 then 0 else st) q pd p S w (Wm q vo GD G) F w' vo' GD FD G F s' ∧ Rdx (fun b => ¬ Wm q vo' GD G b) w' A' (out.map (Value.int .u8)) := by
  have H0 := Lib.hid h0.start
  obtain ⟨A0, c0, hvo, hc0, hcm⟩ := own_form h0.e.row
  have hrd : Rd w w.heap.size A0 (s.o.map (Value.int .u8)) := by have h1 := h0.e.row; rw [hvo] at h1; exact Rd.own h1
  obtain ⟨n0, hn0⟩ : ∃ n0, s.o.length = n0 := ⟨_, rfl⟩
  rw [hn0] at hvo hc0 ho9
  subst hvo
  obtain ⟨m, hm⟩ : ∃ m, min room.toNat n0 = m := ⟨_, rfl⟩
  have hm1 : m ≤ n0 := by omega
  have hti : s.o.take room.toNat = s.o.take m := by
    rcases Nat.lt_or_ge room.toNat n0 with h1 | h1
    · rw [← hm, Nat.min_eq_left (by omega)]
    · rw [← hm, Nat.min_eq_right h1, List.take_of_length_le (by omega), List.take_of_length_le (by omega)]
  have hdi : s.o.drop room.toNat = s.o.drop m := by
    rcases Nat.lt_or_ge room.toNat n0 with h1 | h1
    · rw [← hm, Nat.min_eq_left (by omega)]
    · rw [← hm, Nat.min_eq_right h1, List.drop_of_length_le (by omega), List.drop_of_length_le (by omega)]
  have hmi : (if (n0 : Int) < room then (n0 : Int) else room) = (m : Int) := by split <;> omega
  have hmi2 : min room (n0 : Int) = (m : Int) := by omega
  have hout : out = s.o.take m ∧ err = (if s.o.drop m ≠ [] then 4 else s.f.err) ∧ s' = { s with o := s.o.drop m, cl := s.cl || (decide (s.o.drop m = []) && decide (s.f.err ≠ 0)) } := by
    unfold payS at hpy
    rw [hti, hdi] at hpy
    injection hpy with h1 h2
    injection h2 with h2 h3
    exact ⟨h1.symm, h2.symm, h3.symm⟩
  rw [hdi]
  have hol : out.length = m := by rw [hout.1, List.length_take]; omega
  have hdl : (s.o.drop m).length = n0 - m := by rw [List.length_drop]; omega
  rw [hol]
  have HOUT := Lib.hid hout
  have HDL := Lib.hid hdl
  have HN0 := Lib.hid hn0
  have hcm2 : c0 ≤ 2 ^ 63 - 1 := by unfold maxLen at hcm; omega
  have hh3 := head3 A0 n0 c0 m hm1 hc0 hcm2
  obtain ⟨ad, ht8, had⟩ := tail8 A0 n0 c0 m hm1 hc0 hcm2
  have HRD0 := Lib.hid hrd
  have HRD := Lib.hid (show Rd w w.heap.size ad ((s.o.drop m).map (Value.int .u8)) by rw [had]; exact rd_drop hrd m (by omega))
  have HRW := Lib.hid h0.e.row
  have HCM := Lib.hid (show n0 ≤ c0 ∧ c0 ≤ maxLen from ⟨hc0, hcm⟩)
  have c5 := h0.e.box.cell 5
  have HH := Lib.hid h0
  have HX : ∃ c5, c5 = c0 - m := ⟨_, rfl⟩
  obtain ⟨r, hr⟩ : ∃ r, n0 - m = r := ⟨_, rfl⟩
  obtain ⟨cr, hcr⟩ : ∃ cr, c0 - m = cr := ⟨_, rfl⟩
  rw [hr, hcr] at ht8
  rw [hr] at HDL
  clear h0 hm hm1 hti hdi hout hol hdl hn0 hcm hcm2 had hrd hpy HX hc0 hr hcr
  suffices key : ∀ P : Ending → World → Prop, (∀ x w', (∃ vo' A' c', x = .returned (.tuple #[.slice A' m c', .int .i64 err]) ∧ StM k1 k2 s1 s2 pol (if s.o.drop m = [] ∧ s.f.err ≠ 0 then 0 else st) q pd p S w (Wm q (.slice A0 n0 c0) GD G) F w' vo' GD FD G F s' ∧ Rdx (fun b => ¬ Wm q vo' GD G b) w' A' (out.map (Value.int .u8))) → P x w') → Calls Tryz.prog 95 #[.pointer (some ⟨q, 0, none⟩), .int .i64 room] w fun x w' => P x w' from key _ fun _ _ h => h
  intro P hP
  have HPP := Lib.hid hP
  clear hP
  go_enter Tryz.func95, Tryz.ntmps95
  go_wp2_with (at_builtin; refine wpList_appU8 rfl _ _ rfl S (.slice none 0 0) [] rfl (World.ownsRow_nil w S _ 1) ad r cr (s.o.drop m) rfl HDL.out.symm _ HRD.out (by have := HDL.out; have h := HN0.out; rw [List.length_drop] at *; simp; omega) HH.out.e.top ?_)
  intro v3 w3 hO3 hG3 hV3
  obtain ⟨A3, c3, rfl, -, -⟩ := own_form hO3.out
  have hb3 : Below w.heap.size w w3 := below_rowG (Below.refl w.heap.size w) hG3.out (fun b e => by cases e) (Nat.le_refl _)
  have hv3 : (Value.slice A3 (s.o.drop m).length c3).ownBlock = none ∨ ∃ b, (Value.slice A3 (s.o.drop m).length c3).ownBlock = some b ∧ w.heap.size ≤ b := hV3.out
  have hE4 := H0.out.e.start.newRow hb3 hO3.out hv3
  have hS4 := H0.out.wrote hE4 (s' := s') (by rw [HOUT.out.2.2]) (by rw [HOUT.out.2.2]) (by rw [HOUT.out.2.2]) (fun e => ⟨e, by rw [HOUT.out.2.2]⟩)
  have hP4 : ∀ W, (w3.setCell ⟨q, 5, none⟩ (.slice A3 (s.o.drop m).length c3)).grownBy W (some q) → Rdx (fun b => ¬ Wm q (.slice A3 (s.o.drop m).length c3) GD G b) W A0 (out.map (Value.int .u8)) := fun W hW => by
    rw [HOUT.out.1]
    have hg := (grownBy_setCellK w3 ⟨q, 5, none⟩ (.slice A3 (s.o.drop m).length c3))
    refine paid_rd HH.out HRD0.out m (Nat.le_trans hb3.size (Nat.le_trans hg.size hW.size)) (fun b hl hq => ?_) hv3
    have h1 := hb3.size
    have h2 := hg.size
    exact (hW.block b (by omega) (fun e => by injection e with e; exact hq e)).trans ((hg.block b (by omega) (fun e => by injection e with e; exact hq e)).trans (hb3.block b hl))
  have e5 := (H0.out.e.below hb3).box.cell 5
  have g5 := (H0.out.e.below hb3).box.frozen 5
  rw [HDL.out] at hE4 hS4 hP4 ⊢
  have HP4 := Lib.hid hP4
  have HS4 := Lib.hid hS4
  clear hO3 hG3 hV3 hb3 hv3 hE4 hS4 hP4 c5 ht8
  by_cases hr : r = 0
  · subst hr
    have HDN := Lib.hid (show s.o.drop m = [] from List.length_eq_zero_iff.1 HDL.out)
    obtain ⟨W4, hW4⟩ : ∃ W, w3.setCell ⟨q, 5, none⟩ (.slice A3 0 c3) = W := ⟨_, rfl⟩
    have HW4 := Lib.hid hW4
    rw [hW4] at HP4 HS4
    obtain ⟨b, hbb⟩ : ∃ b, (s.f.side != 0) = b := ⟨_, rfl⟩
    have hbx := HS4.out.e.box
    rw [show s'.f = s.f by rw [HOUT.out.2.2]] at hbx
    have C1 := Lib.hid (sfailed_any q s1 s2 pol _ _ _ s.f st W4 hbx b hbb)
    have HBB := Lib.hid hbb
    have HBX := Lib.hid hbx
    clear hW4 hbb hbx
    go_wp2_with fail
    rw [HW4.out]
    refine C1.out.mono ?_
    rintro e9 w5 ⟨rfl, rfl⟩
    clear C1
    have c8 := HBX.out.cell 8
    have c9 := HBX.out.cell 9
    have f9 := HBX.out.frozen 9
    cases b with
    | true =>
      have HE := Lib.hid (show s.f.err ≠ 0 from fun e => by
        have h1 := HBB.out
        have h2 : s.f.side = 0 := HH.out.e.ok.2 e
        rw [h2] at h1
        exact absurd h1 (by decide))
      have HER := Lib.hid (show err = s.f.err by rw [HOUT.out.2.1, HDN.out]; rfl)
      go_wp2_with fail
      go_quiet (fail)
      go_wp2_with fail
      (try go_ret2)
      refine HPP.out _ _ ⟨.slice A3 0 c3, A0, m, by rw [HER.out]; rfl, ?_, ?_⟩
      · rw [if_pos ⟨HDN.out, HE.out⟩]
        exact (HS4.out.setSt 0 (fun e => absurd e (by decide)) (s' := s') (.inl rfl) ⟨rfl, rfl, rfl⟩).below (below_drewS _ _ _)
      · exact HP4.out _ (grown_seq (grownBy_setCellK W4 ⟨q, 9, none⟩ _) (grown_below (below_drewS _ _ _)))
    | false =>
      have HE := Lib.hid (show s.f.err = 0 from HH.out.e.ok.1 (by simpa using HBB.out))
      have HER := Lib.hid (show err = 0 by rw [HOUT.out.2.1, HDN.out, HE.out]; rfl)
      go_wp2_with fail
      (try go_ret2)
      refine HPP.out _ _ ⟨.slice A3 0 c3, A0, m, by rw [HER.out]; rfl, ?_, ?_⟩
      · rw [if_neg (fun h => h.2 HE.out)]
        exact HS4.out
      · exact HP4.out _ (grownR _ _)
  · have HDN := Lib.hid (show s.o.drop m ≠ [] from fun h => hr (by have := HDL.out; rw [h] at this; simpa using this.symm))
    have HER := Lib.hid (show err = 4 by rw [HOUT.out.2.1, if_pos HDN.out])
    have hrp : 0 < r := by omega
    have dr : decide ((r : Int) > 0) = true := by simpa using hrp
    go_wp2_with fail
    (try go_ret2)
    refine HPP.out _ _ ⟨.slice A3 r c3, A0, m, by rw [HER.out]; rfl, ?_, ?_⟩
    · rw [if_neg (fun h => HDN.out h.1)]
      exact HS4.out
    · exact HP4.out _ (grownR _ _)
end Go.Proofs.YtncpokioagpclaaGreatDoor
namespace Go.Proofs.YtncpokioagpclaaGreatDoor
set_option linter.unusedVariables false
set_option linter.unusedSimpArgs false
set_option linter.unnecessarySimpa false
open Go.RowKit Go.Lib
def NewD (k : Nat) (S : Nat) (w : World) (p : Nat) : Prop := S ≤ p ∧ p < w.heap.size ∧ (k ≤ 6 → ∃ F, DV k (fun b => b = p) F w p D0 ∧ ∀ b, F b → S ≤ b)
def NewE (k : Nat) (S : Nat) (w : World) (p : Nat) : Prop := S ≤ p ∧ p < w.heap.size ∧ (k ≤ 6 → ∃ F, EV theW k (fun b => b = p) F w p E0 ∧ ∀ b, F b → S ≤ b)
theorem dt_new {k S : Nat} {w : World} {V : Value} (h1 : 1 ≤ k) (h6 : k ≤ 6) (h : DT k S w.heap.size w V) : ∃ p, V = vD k p ∧ NewD k S w p := by
  obtain ⟨p, R, B, rfl, g1, g2, g3, g4, g5, g6⟩ := h
  refine ⟨p, by unfold vD; rw [if_neg (by omega), if_neg (by omega)], by omega, by omega, fun _ => ⟨fun b => S ≤ b ∧ b < w.heap.size, ?_, fun b hb => hb.1⟩⟩
  unfold DV
  rw [if_neg (by omega)]
  exact ⟨by simp [D0], R, B, S, 0, ⟨rfl, fun b hb => hb, ⟨by omega, by omega⟩, fun b hb => hb.2, g3, g1, fun b x y => ⟨x, by omega⟩, g6, by omega, by simp [D0], .inl rfl⟩⟩
theorem et_new {k S : Nat} {w : World} {V : Value} (h1 : 1 ≤ k) (h6 : k ≤ 6) (h : ET k S w.heap.size w V) : ∃ p, V = vE k p ∧ NewE k S w p := by
  obtain ⟨p, T, B, R, rfl, g1, g2, g3, g4⟩ := h
  have hp := g4.ple
  refine ⟨p, by unfold vE; rw [if_neg (by omega), if_neg (by omega)], by omega, by omega, fun _ => ⟨fun b => S ≤ b ∧ b < w.heap.size, ?_, fun b hb => hb.1⟩⟩
  unfold EV
  rw [if_neg (by omega)]
  exact ⟨by simp [E0], T, B, S, R, 0, ⟨rfl, fun b hb => hb, ⟨by omega, by omega⟩, fun b hb => hb.2, by omega, g4.weak (fun b hb => hb.elim) (fun b hb => hb.2), fun b x y => ⟨x, by omega⟩, by omega, by simp [E0], .inl rfl⟩⟩
set_option maxRecDepth 100000 in
set_option maxHeartbeats 1600000 in
theorem cdecode_0 (w : World) (h : CodOK w) : Calls Tryz.prog 12 #[.string (nmB 0)] w fun e w' => ∃ p, e = .returned (.tuple #[vD 0 p, .int .i64 0]) ∧ NewD 0 w.heap.size w' p ∧ Below w.heap.size w w' := by
  have C1 := Lib.hid (find_nm 0 (by omega) w h)
  obtain ⟨s, hs⟩ : ∃ s, nmB 0 = s := ⟨_, rfl⟩
  rw [hs] at C1 ⊢
  clear h hs
  go_enter Tryz.func12, Tryz.ntmps12
  go_wp2_with fail
  refine C1.out.mono ?_
  rintro e w1 ⟨rfl, hb1⟩
  have HB1 := Lib.hid hb1
  clear hb1 C1
  go_wp2_with fail
  go_ret2
  refine ⟨w1.heap.size, rfl, ⟨HB1.out.size, by simp, fun _ => ⟨fun b => b = w1.heap.size, ?_, fun b hb => by rw [hb]; exact HB1.out.size⟩⟩, HB1.out.alloc HB1.out.size _⟩
  unfold DV
  rw [if_pos rfl]
  exact ⟨rfl, fun b hb => hb, rfl, fun b hb => by rw [hb]; simp, rfl, fun z hz => (by cases hz), by simp [D0], ⟨0, 0, 0, 0, Held.new w1 _ _, rfl⟩⟩
set_option maxRecDepth 100000 in
theorem iscDecode_new (w : World) : Calls Tryz.prog 45 #[] w fun e w' => e = .returned (.pointer (some ⟨w.heap.size, 0, none⟩)) ∧ w.heap.size < w'.heap.size ∧ Below w.heap.size w w' := by
  go_enter Tryz.func45, Tryz.ntmps45
  go_wp2
  go_ret
  exact ⟨rfl, by simp, below_allocS _ _⟩
set_option maxRecDepth 100000 in
set_option maxHeartbeats 1600000 in
theorem cdecode_7 (w : World) (h : CodOK w) : Calls Tryz.prog 12 #[.string (nmB 7)] w fun e w' => ∃ p, e = .returned (.tuple #[vD 7 p, .int .i64 0]) ∧ NewD 7 w.heap.size w' p ∧ Below w.heap.size w w' := by
  have C1 := Lib.hid (find_nm 7 (by omega) w h)
  obtain ⟨s, hs⟩ : ∃ s, nmB 7 = s := ⟨_, rfl⟩
  rw [hs] at C1 ⊢
  clear h hs
  go_enter Tryz.func12, Tryz.ntmps12
  go_wp2_with fail
  refine C1.out.mono ?_
  rintro e w1 ⟨rfl, hb1⟩
  have HB1 := Lib.hid hb1
  clear hb1 C1
  go_wp2_with fail
  refine (iscDecode_new w1).mono ?_
  rintro e w2 ⟨rfl, hl2, hb2⟩
  have HL2 := Lib.hid hl2
  have HB2 := Lib.hid (HB1.out.trans (hb2.mono HB1.out.size))
  clear hl2 hb2
  go_wp2_with fail
  go_ret2
  exact ⟨w1.heap.size, rfl, ⟨HB1.out.size, HL2.out, fun e => absurd e (by decide)⟩, HB2.out⟩
set_option maxRecDepth 100000 in
set_option maxHeartbeats 1600000 in
theorem cencode_0 (w : World) (h : CodOK w) : Calls Tryz.prog 25 #[.string (nmB 0)] w fun e w' => ∃ p, e = .returned (.tuple #[vE 0 p, .int .i64 0]) ∧ NewE 0 w.heap.size w' p ∧ Below w.heap.size w w' := by
  have C1 := Lib.hid (find_nm 0 (by omega) w h)
  obtain ⟨s, hs⟩ : ∃ s, nmB 0 = s := ⟨_, rfl⟩
  rw [hs] at C1 ⊢
  clear h hs
  go_enter Tryz.func25, Tryz.ntmps25
  go_wp2_with fail
  refine C1.out.mono ?_
  rintro e w1 ⟨rfl, hb1⟩
  have HB1 := Lib.hid hb1
  clear hb1 C1
  go_wp2_with fail
  go_ret2
  refine ⟨w1.heap.size, rfl, ⟨HB1.out.size, by simp, fun _ => ⟨fun b => b = w1.heap.size, ?_, fun b hb => by rw [hb]; exact HB1.out.size⟩⟩, HB1.out.alloc HB1.out.size _⟩
  unfold EV
  rw [if_pos rfl]
  exact ⟨Held.new w1 _ _, rfl, by simp [E0], rfl, fun b hb => hb, rfl, fun b hb => by rw [hb]; simp⟩
set_option maxRecDepth 100000 in
theorem iscEncode_new (w : World) : Calls Tryz.prog 61 #[] w fun e w' => e = .returned (.pointer (some ⟨w.heap.size, 0, none⟩)) ∧ w.heap.size < w'.heap.size ∧ Below w.heap.size w w' := by
  go_enter Tryz.func61, Tryz.ntmps61
  go_wp2
  go_ret
  exact ⟨rfl, by simp, below_allocS _ _⟩
set_option maxRecDepth 100000 in
set_option maxHeartbeats 1600000 in
theorem cencode_7 (w : World) (h : CodOK w) : Calls Tryz.prog 25 #[.string (nmB 7)] w fun e w' => ∃ p, e = .returned (.tuple #[vE 7 p, .int .i64 0]) ∧ NewE 7 w.heap.size w' p ∧ Below w.heap.size w w' := by
  have C1 := Lib.hid (find_nm 7 (by omega) w h)
  obtain ⟨s, hs⟩ : ∃ s, nmB 7 = s := ⟨_, rfl⟩
  rw [hs] at C1 ⊢
  clear h hs
  go_enter Tryz.func25, Tryz.ntmps25
  go_wp2_with fail
  refine C1.out.mono ?_
  rintro e w1 ⟨rfl, hb1⟩
  have HB1 := Lib.hid hb1
  clear hb1 C1
  go_wp2_with fail
  refine (iscEncode_new w1).mono ?_
  rintro e w2 ⟨rfl, hl2, hb2⟩
  have HL2 := Lib.hid hl2
  have HB2 := Lib.hid (HB1.out.trans (hb2.mono HB1.out.size))
  clear hl2 hb2
  go_wp2_with fail
  go_ret2
  exact ⟨w1.heap.size, rfl, ⟨HB1.out.size, HL2.out, fun e => absurd e (by decide)⟩, HB2.out⟩
theorem newD_any (k : Nat) (hk : k < 8) (w : World) (h : CodOK w) : Calls Tryz.prog 12 #[.string (nmB k)] w fun e w' => ∃ p, e = .returned (.tuple #[vD k p, .int .i64 0]) ∧ NewD k w.heap.size w' p ∧ Below w.heap.size w w' := by
  rcases kinds hk with rfl | rfl | ⟨h1, h6⟩
  · exact cdecode_0 w h
  · exact cdecode_7 w h
  · refine (cdecode_any k h1 h6 w h).mono ?_
    rintro e w' ⟨V, rfl, hd, hb⟩
    obtain ⟨p, rfl, hn⟩ := dt_new h1 h6 hd
    exact ⟨p, rfl, hn, hb⟩
theorem newE_any (k : Nat) (hk : k < 8) (w : World) (h : CodOK w) : Calls Tryz.prog 25 #[.string (nmB k)] w fun e w' => ∃ p, e = .returned (.tuple #[vE k p, .int .i64 0]) ∧ NewE k w.heap.size w' p ∧ Below w.heap.size w w' := by
  rcases kinds hk with rfl | rfl | ⟨h1, h6⟩
  · exact cencode_0 w h
  · exact cencode_7 w h
  · refine (cencode_any k h1 h6 w h).mono ?_
    rintro e w' ⟨V, rfl, hd, hb⟩
    obtain ⟨p, rfl, hn⟩ := et_new h1 h6 hd
    exact ⟨p, rfl, hn, hb⟩
end Go.Proofs.YtncpokioagpclaaGreatDoor
namespace Go.Proofs.YtncpokioagpclaaGreatDoor
set_option linter.unusedVariables false
set_option linter.unusedSimpArgs false
set_option linter.unnecessarySimpa false
open Go.RowKit Go.Lib
/-- two new machines -/
def NewDE (k1 k2 S : Nat) (w : World) (pd p : Nat) : Prop := k1 ≤ 6 → k2 ≤ 6 → ∃ FD F, DV k1 (fun b => b = pd) FD w pd D0 ∧ EV theW k2 (fun b => b = p) F w p E0 ∧ (∀ b, FD b → S ≤ b) ∧ (∀ b, F b → S ≤ b) ∧ ∀ b, FD b → ¬ F b
theorem newDE {k1 k2 S : Nat} {w1 w2 w3 : World} {pd p : Nat} (hd : NewD k1 S w1 pd) (he : NewE k2 w1.heap.size w2 p) (hS : S ≤ w1.heap.size) (h12 : Below w1.heap.size w1 w2) (h3 : w2.heap.size ≤ w3.heap.size) (hk : ∀ b, S ≤ b → b < w2.heap.size → w3.heap[b]? = w2.heap[b]?) : NewDE k1 k2 S w3 pd p := by
  intro h1 h2
  obtain ⟨FD, d1, d2⟩ := hd.2.2 h1
  obtain ⟨F, e1, e2⟩ := he.2.2 h2
  have hdl := d1.foot.2.1
  have d3 := d1.stay h12.size fun b hb => h12.block b (hdl b hb)
  exact ⟨FD, F, d3.stay h3 fun b hb => hk b (d2 b hb) (d3.foot.2.1 b hb), e1.stay h3 fun b hb => hk b (Nat.le_trans hS (e2 b hb)) (e1.foot.2.1 b hb), d2, fun b hb => Nat.le_trans hS (e2 b hb), fun b hb hx => by have := hdl b hb; have := e2 b hx; omega⟩
theorem grown_setCells : ∀ (vs : List Value) (w : World) (q o : Nat), w.grownBy (w.setCells q o vs) (some q)
  | [], w, q, o => World.grownBy.refl w _
  | v :: vs, w, q, o => grown_seq (grownBy_setCellK w ⟨q, o, none⟩ v) (grown_setCells vs (w.setCell ⟨q, o, none⟩ v) q (o + 1))
def setAr : Array Value → Nat → List Value → Array Value
  | cs, _, [] => cs
  | cs, o, v :: vs => setAr (cs.setIfInBounds o v) (o + 1) vs
theorem held_setCells : ∀ (vs : List Value) (w : World) (q o : Nat) (cs : Array Value) (t : TypeId), Held w q cs t → Held (w.setCells q o vs) q (setAr cs o vs) t
  | [], w, q, o, cs, t, h => h
  | v :: vs, w, q, o, cs, t, h => held_setCells vs (w.setCell ⟨q, o, none⟩ v) q (o + 1) (cs.setIfInBounds o v) t (heldS w q o cs t v h)
theorem setAr_all (a0 a1 a2 a3 a4 a5 a6 a7 a8 a9 b0 b1 b2 b3 b4 b5 b6 b7 b8 b9 : Value) : setAr #[a0, a1, a2, a3, a4, a5, a6, a7, a8, a9] 0 [b0, b1, b2, b3, b4, b5, b6, b7, b8, b9] = #[b0, b1, b2, b3, b4, b5, b6, b7, b8, b9] := by
  simp [setAr]
/-- three cells stay -/
def Keep3 (q : Nat) (a b : World) : Prop := b.cell? ⟨q, 0, none⟩ = a.cell? ⟨q, 0, none⟩ ∧ b.cell? ⟨q, 1, none⟩ = a.cell? ⟨q, 1, none⟩ ∧ b.cell? ⟨q, 2, none⟩ = a.cell? ⟨q, 2, none⟩
theorem Keep3.refl (q : Nat) (w : World) : Keep3 q w w := ⟨rfl, rfl, rfl⟩
theorem Keep3.trans (q : Nat) (a b c : World) (h : Keep3 q a b) (k : Keep3 q b c) : Keep3 q a c := ⟨k.1.trans h.1, k.2.1.trans h.2.1, k.2.2.trans h.2.2⟩
set_option maxRecDepth 100000 in
set_option maxHeartbeats 3200000 in
theorem sreset_any (k1 k2 : Nat) (h1 : k1 < 8) (h2 : k2 < 8) (q : Nat) (pol : Int) (Vr Vw vo : Value) (f : Flt) (st : Int) (w : World) (hm : Held w q (StC (nmB k1) (nmB k2) pol Vr Vw vo f st) 129) (h : CodOK w) :
    Calls Tryz.prog 65 #[.pointer (some ⟨q, 0, none⟩)] w fun e w' => ∃ pd p, e = .returned (.tuple #[]) ∧ Held w' q (StC (nmB k1) (nmB k2) pol (vD k1 pd) (vE k2 p) (.slice none 0 0) F0 1) 129 ∧ NewDE k1 k2 w.heap.size w' pd p ∧ w.grownBy w' (some q) := by
  have HM := Lib.hid hm
  have HO := Lib.hid h
  have hlt := hm.lt
  have C1 := Lib.hid (newD_any k1 h1 w h)
  have E2 := Lib.hid (fun W hW => newE_any k2 h2 W hW)
  have c0 := hm.cell 0
  obtain ⟨n1, hn1⟩ : ∃ n, nmB k1 = n := ⟨_, rfl⟩
  obtain ⟨n2, hn2⟩ : ∃ n, nmB k2 = n := ⟨_, rfl⟩
  rw [hn1] at C1 HM c0 ⊢
  rw [hn2] at E2 HM c0 ⊢
  clear hm h hn1 hn2
  go_enter Tryz.func65, Tryz.ntmps65
  go_wp2_with fail
  refine C1.out.mono ?_
  rintro e w1 ⟨pd, rfl, hd, hb1⟩
  have HM1 := Lib.hid (HM.out.below hb1 hlt)
  have c1 := HM1.out.cell 1
  have HB1 := Lib.hid hb1
  have HD := Lib.hid hd
  have C2 := Lib.hid (E2.out w1 (HO.out.below hb1))
  clear c0 hb1 hd C1
  go_wp2_with fail
  refine C2.out.mono ?_
  rintro e w2 ⟨p, rfl, he, hb2⟩
  have HM2 := Lib.hid (HM1.out.below hb2 HM1.out.lt)
  have HB2 := Lib.hid hb2
  have HE := Lib.hid he
  have c0 := HM2.out.cell 0
  have c1 := HM2.out.cell 1
  have c2 := HM2.out.cell 2
  obtain ⟨T, x, hVd, -⟩ := kindD k1 pd
  obtain ⟨T2, x2, hVe, -⟩ := kindE k2 p
  have HVD := Lib.hid hVd
  have HVE := Lib.hid hVe
  rw [hVd, hVe]
  clear hb2 he C2 hVd hVe
  go_upto_region 3 with fail
  have hbd : Below w2.heap.size w2 w2.drew := (Below.refl w2.heap.size w2).drew
  have HMD := Lib.hid (HM2.out.below hbd HM2.out.lt)
  have HTH := Lib.hid (thereS HMD.out 0 10 (by show 10 ≤ 10; omega))
  clear hbd
  refine wp_region_mixe (G := Keep3 q) [(0, false), (1, false), (2, false), (3, false), (4, false), (5, false), (6, false), (7, false), (8, false), (9, false), (10, false), (11, false), (12, false), (13, false), (14, false), (15, false), (16, false), (17, true)]
    (Keep3.refl _) (Keep3.trans _) (by kernel_rfl) rfl (by kernel_rfl) (by kernel_rfl) ?_
  iterate 4 (refine mixe_one rfl rfl ?_; go_big_quiet_step ((intro _; rfl)); refine wpQuiet_nil ?_)
  refine mixe_one rfl rfl ?_
  go_big_quiet_step ((intro hh; rw [hh.1, World.cell?_drew, c0]; exact ⟨rfl, rfl⟩))
  refine wpQuiet_nil ?_
  iterate 3 (refine mixe_one rfl rfl ?_; go_big_quiet_step ((intro _; rfl)); refine wpQuiet_nil ?_)
  refine mixe_one rfl rfl ?_
  go_big_quiet_step ((intro hh; rw [hh.2.1, World.cell?_drew, c1]; exact ⟨rfl, rfl⟩))
  refine wpQuiet_nil ?_
  iterate 3 (refine mixe_one rfl rfl ?_; go_big_quiet_step ((intro _; rfl)); refine wpQuiet_nil ?_)
  refine mixe_one rfl rfl ?_
  go_big_quiet_step ((intro hh; rw [hh.2.2, World.cell?_drew, c2]; exact ⟨rfl, rfl⟩))
  refine wpQuiet_nil ?_
  iterate 2 (refine mixe_one rfl rfl ?_; go_big_quiet_step ((intro _; rfl)); refine wpQuiet_nil ?_)
  refine mixe_one rfl rfl ?_
  go_big_quiet_step ((intro _; rfl))
  refine wpQuiet_nil ?_
  refine mixe_one rfl rfl ?_
  go_big_quiet_step ((intro _; rfl))
  refine wpQuiet_nil ?_
  refine mixe_call rfl ?_
  go_wp2_with (refine wpList_store_mid rfl _ _ _ rfl q 0 #[.string n1, .string n2, .int .i64 pol, .iface T x, .iface T2 x2, .slice none 0 0, .int .i64 0, .int .i64 0, .int .i64 0, .int .i64 1] rfl rfl HTH.out (by kernel_rfl) (by simp [Value.oneCell']) ?_)
  obtain ⟨W5, hW5⟩ : ∃ W, w2.drew.setCells q 0 [.string n1, .string n2, .int .i64 pol, .iface T x, .iface T2 x2, .slice none 0 0, .int .i64 0, .int .i64 0, .int .i64 0, .int .i64 1] = W := ⟨_, rfl⟩
  have hh5 : Held W5 q (StC n1 n2 pol (.iface T x) (.iface T2 x2) (.slice none 0 0) F0 1) 129 := by
    rw [← hW5]
    have := held_setCells [.string n1, .string n2, .int .i64 pol, .iface T x, .iface T2 x2, .slice none 0 0, .int .i64 0, .int .i64 0, .int .i64 0, .int .i64 1] w2.drew q 0 _ _ HMD.out
    rw [setAr_all] at this
    exact this
  have hg5 : w2.drew.grownBy W5 (some q) := by rw [← hW5]; exact grown_setCells _ _ _ _
  rw [hW5]
  have HH5 := Lib.hid hh5
  have HG5 := Lib.hid hg5
  clear hW5 hh5 hg5
  refine ⟨⟨(HH5.out.cell 0).trans (HMD.out.cell 0).symm, (HH5.out.cell 1).trans (HMD.out.cell 1).symm, (HH5.out.cell 2).trans (HMD.out.cell 2).symm⟩, ?_⟩
  refine NoPanic.normal ?_
  go_wp2_with fail
  go_end0
  have hs1 := HB1.out.size
  have hs2 := HB2.out.size
  have hs5 := HG5.out.size
  refine ⟨pd, p, rfl, by rw [HVD.out, HVE.out]; exact HH5.out, newDE HD.out HE.out hs1 HB2.out hs5 fun b h3 h4 => HG5.out.block b h4 (fun e => by injection e with e; omega), ?_⟩
  exact grown_seq (grown_seq (grown_below (HB1.out.trans (HB2.out.mono hs1))) (grown_below (show Below w2.heap.size w2 w2.drew from (Below.refl w2.heap.size w2).drew))) HG5.out
end Go.Proofs.YtncpokioagpclaaGreatDoor
namespace Go.Proofs.YtncpokioagpclaaGreatDoor
set_option linter.unusedVariables false
set_option linter.unusedSimpArgs false
set_option linter.unnecessarySimpa false
open Go.RowKit Go.Lib
theorem infoflt : (Tryz.prog.info? 66).map (·.size) = some 3 := by kernel_rfl
theorem flt_ret {fn : Func} {p : Tmp} {a : Act} {w : World} {R : Ending → World → Prop} {g : Nat} {cs : Array Value} {t : TypeId} {fr : Nat × Nat} (h : fn.results = #[.cell p 66]) (hp : a.tmps.getD p undef = .pointer (some ⟨g, 0, none⟩)) (hg : w.heap[g]? = some (.cells cs t fr)) (hs : cs.size = 3)
    (hd : a.defers = []) (hR : R (.returned (.agg cs)) w) : bodyPost Tryz.prog fn R .ret a w :=
  bodyPost_ret (results_cell_row h a.tmps w g t cs fr _ hp hg Tryz.underlying66 rfl (by rw [infoflt, hs])) hd hR
set_option maxRecDepth 100000 in
theorem sfaultH_any {w : World} {q : Nat} {s1 s2 : ByteArray} {pol : Int} {Vr Vw vo : Value} {f : Flt} {st : Int} (hm : Held w q (StC s1 s2 pol Vr Vw vo f st) 129) : Calls Tryz.prog 33 #[.pointer (some ⟨q, 0, none⟩)] w fun e w' => e = .returned (fltV f) ∧ Below w.heap.size w w' := by
  have hb := below_allocS w (.cells #[.int .i64 0, .int .i64 0, .int .i64 0] 66)
  have hm2 := hm.below hb hm.lt
  have hn := Held.new w #[.int .i64 0, .int .i64 0, .int .i64 0] 66
  have hne : q < w.heap.size := hm.lt
  obtain ⟨N, hN⟩ : ∃ N, w.heap.size = N := ⟨_, rfl⟩
  obtain ⟨W, hW⟩ : ∃ W, w.alloc (.cells #[.int .i64 0, .int .i64 0, .int .i64 0] 66) = W := ⟨_, rfl⟩
  rw [hW] at hb hm2 hn
  rw [hN] at hn hne
  have c6 := hm2.cell 6
  have c7 := hm2.cell 7
  have c8 := hm2.cell 8
  have x0 := hn.cell 0
  have x1 := hn.cell 1
  have x2 := hn.cell 2
  have g0 := hn.frozen 0
  have g1 := hn.frozen 1
  have g2 := hn.frozen 2
  have HB := Lib.hid hb
  have HM2 := Lib.hid hm2
  have HNW := Lib.hid hn
  have HN := Lib.hid hN
  have HW := Lib.hid hW
  clear hm hb hm2 hn hN hW
  go_enter Tryz.func33, Tryz.ntmps33
  go_upto_region 1 with fail
  rw [HW.out, HN.out]
  go_wp2_with fail
  have hfin := heldS _ _ 2 _ _ (.int .i64 f.err) (heldS _ _ 1 _ _ (.int .i64 f.at_) (heldS _ _ 0 _ _ (.int .i64 f.side) HNW.out))
  refine flt_ret (g := N) rfl rfl hfin rfl rfl ?_
  have hN := HN.out
  exact ⟨rfl, ((HB.out.setCell (p := ⟨N, 0, none⟩) (Nat.le_of_eq hN) _).setCell (p := ⟨N, 1, none⟩) (Nat.le_of_eq hN) _).setCell (p := ⟨N, 2, none⟩) (Nat.le_of_eq hN) _⟩
theorem sname_any (s : ByteArray) (w : World) (hs : s.size ≤ 1000) (h : CodOK w) (o : Option Nat) (ho : nameB (lowT s) = o) : Calls Tryz.prog 30 #[.string s] w fun e w' => e = .returned (nameV o) ∧ Below w.heap.size w w' := cname_any s w hs h.case h.utf o ho
set_option maxRecDepth 100000 in
set_option maxHeartbeats 1600000 in
theorem sopenY_any (w : World) (a b : ByteArray) (pol : Int) (k1 k2 : Nat) (ha : a.size ≤ 1000) (hb : b.size ≤ 1000) (h1 : nameB (lowT a) = some k1) (h2 : nameB (lowT b) = some k2) (h18 : k1 < 8) (h28 : k2 < 8) (hp0 : 0 ≤ pol) (hp2 : pol ≤ 2) (h : CodOK w) :
    Calls Tryz.prog 31 #[.string a, .string b, .int .i64 pol] w fun e w' => ∃ q pd p, e = .returned (.tuple #[.pointer (some ⟨q, 0, none⟩), .int .i64 0]) ∧ Held w' q (StC (nmB k1) (nmB k2) pol (vD k1 pd) (vE k2 p) (.slice none 0 0) F0 1) 129 ∧ w.heap.size ≤ q ∧ NewDE k1 k2 (q + 1) w' pd p ∧ Below w.heap.size w w' := by
  have HO := Lib.hid h
  have C1 := Lib.hid (sname_any a w ha h (some k1) h1)
  have E2 := Lib.hid (fun W hW => sname_any b W hb hW (some k2) h2)
  have E3 := Lib.hid (fun W q Vr Vw vo f st hm hW => sreset_any k1 k2 h18 h28 q pol Vr Vw vo f st W hm hW)
  have d0 : decide (pol < 0) = false := by simp; omega
  have d3 : decide (pol ≥ 3) = false := by simp; omega
  have d4 : decide (3 ≤ pol) = false := by simp; omega
  have nl : ¬ pol < 0 := by omega
  have nl3 : ¬ 3 ≤ pol := by omega
  obtain ⟨n1, hn1⟩ : ∃ n, nmB k1 = n := ⟨_, rfl⟩
  obtain ⟨n2, hn2⟩ : ∃ n, nmB k2 = n := ⟨_, rfl⟩
  rw [hn1, hn2] at E3
  have HN1 := Lib.hid hn1
  have HN2 := Lib.hid hn2
  clear h h1 h2 hn1 hn2
  go_enter Tryz.func31, Tryz.ntmps31
  go_wp2_with fail
  refine C1.out.mono ?_
  rintro e w1 ⟨rfl, hb1⟩
  have HB1 := Lib.hid hb1
  have C2 := Lib.hid (E2.out w1 (HO.out.below hb1))
  simp only [nameV]
  rw [HN1.out]
  clear hb1 C1
  go_wp2_with fail
  refine C2.out.mono ?_
  rintro e w2 ⟨rfl, hb2⟩
  have hb := HB1.out.trans (hb2.mono HB1.out.size)
  have HB2 := Lib.hid hb
  have hb3 := below_allocS w2 (.cells #[.string n1, .string n2, .int .i64 pol, .nilIface, .nilIface, .slice none 0 0, .int .i64 0, .int .i64 0, .int .i64 0, .int .i64 0] 129)
  have hn3 := Held.new w2 #[.string n1, .string n2, .int .i64 pol, .nilIface, .nilIface, .slice none 0 0, .int .i64 0, .int .i64 0, .int .i64 0, .int .i64 0] 129
  have hs3 : (w2.alloc (.cells #[.string n1, .string n2, .int .i64 pol, .nilIface, .nilIface, .slice none 0 0, .int .i64 0, .int .i64 0, .int .i64 0, .int .i64 0] 129)).heap.size = w2.heap.size + 1 := by simp
  obtain ⟨q, hq⟩ : ∃ q, w2.heap.size = q := ⟨_, rfl⟩
  obtain ⟨W3, hW3⟩ : ∃ W, w2.alloc (.cells #[.string n1, .string n2, .int .i64 pol, .nilIface, .nilIface, .slice none 0 0, .int .i64 0, .int .i64 0, .int .i64 0, .int .i64 0] 129) = W := ⟨_, rfl⟩
  rw [hW3] at hb3 hn3 hs3
  have hb03 := hb.trans (hb3.mono hb.size)
  rw [hq] at hn3 hs3
  have C3 := Lib.hid (E3.out W3 q .nilIface .nilIface (.slice none 0 0) F0 0 hn3 (HO.out.below hb03))
  have HQ := Lib.hid (show w.heap.size ≤ q by rw [← hq]; exact hb.size)
  have HWE := Lib.hid hW3
  have HQE := Lib.hid hq
  have HB3 := Lib.hid hb03
  have HS3 := Lib.hid hs3
  simp only [nameV]
  rw [HN2.out]
  clear hb2 hb hb3 hn3 hW3 hb03 hs3 hq C2
  go_wp2_with fail
  rw [HWE.out, HQE.out]
  refine C3.out.mono ?_
  rintro e w4 ⟨pd, p, rfl, hh4, hde, hg4⟩
  have HH4 := Lib.hid hh4
  have HDE := Lib.hid hde
  have HB4 := Lib.hid (below_rowG HB3.out hg4 (fun b e => by injection e with e; have := HQ.out; omega) HB3.out.size)
  clear hh4 hde hg4 C3
  go_wp2_with fail
  go_ret2
  refine ⟨q, pd, p, rfl, by rw [HN1.out, HN2.out]; exact HH4.out, HQ.out, ?_, HB4.out⟩
  rw [← HS3.out]
  exact HDE.out
end Go.Proofs.YtncpokioagpclaaGreatDoor
namespace Go.Proofs.YtncpokioagpclaaGreatDoor
set_option linter.unusedVariables false
set_option linter.unusedSimpArgs false
set_option linter.unnecessarySimpa false
open Go.RowKit Go.Lib
theorem bytesS_flags {k1 k2 : Nat} {pol room : Int} : ∀ (us : List Int) (s : SSt), (bytesS k1 k2 pol room s us).1.fl = s.fl ∧ (bytesS k1 k2 pol room s us).1.cl = s.cl
  | [], s => ⟨rfl, rfl⟩
  | u :: us, s => by
    rw [bytesS]
    split
    · exact bytesS_flags us (byteS k1 k2 pol s u)
    · exact ⟨rfl, rfl⟩
theorem endS_flags {k1 k2 : Nat} {pol : Int} (s : SSt) : (endS k1 k2 pol s).fl = true ∧ (endS k1 k2 pol s).cl = s.cl := by
  unfold endS
  split
  · exact ⟨rfl, rfl⟩
  · dsimp only; split <;> exact ⟨rfl, rfl⟩
theorem endS_len {k1 k2 : Nat} (h1 : k1 ≤ 6) (h2 : k2 ≤ 6) {pol : Int} (s : SSt) (hd : s.fl = true ∨ s.d.q.length ≤ 7) (he : s.e.q.length ≤ 7) (hf : FltOK s.f) : (endS k1 k2 pol s).o.length ≤ s.o.length + 4672 := by
  unfold endS
  split
  · simp
  · rename_i h
    have hd' : s.d.q.length ≤ 7 := hd.resolve_left fun x => h (.inl x)
    obtain ⟨b1, b2, b3, b4⟩ := takesS_b h2 (pol := pol) (finD k1 s.d) s.e s.o s.f (finD_small h1 s.d) he hf
    have h8 := finD_len h1 s.d hd'
    dsimp only
    split
    · show (takesS k2 pol s.e s.o s.f (finD k1 s.d)).2.1.length ≤ _; omega
    · have h3 := toksS_len (pol := pol) (finE k2 (takesS k2 pol s.e s.o s.f (finD k1 s.d)).1) (takesS k2 pol s.e s.o s.f (finD k1 s.d)).2.1 (takesS k2 pol s.e s.o s.f (finD k1 s.d)).2.2 (finE_small h2 _)
      have h4 := finE_len h2 (takesS k2 pol s.e s.o s.f (finD k1 s.d)).1 b1
      show (toksS pol _ _ _).1.length ≤ _
      omega
/-- what a stream takes still -/
def stN (s : SSt) : Int := if s.cl = true then 0 else if s.fl = true then 2 else 1
/-- a stream: it writes G, looks at F -/
def StS (k1 k2 : Nat) (pol : Int) (G F : Nat → Prop) (w : World) (q : Nat) (s : SSt) : Prop :=
  0 ≤ pol ∧ pol ≤ 2 ∧ ∃ s1 s2 pd p S vo GD FD GE FE, StM k1 k2 s1 s2 pol (stN s) q pd p S w (Wm q vo GD GE) FE w vo GD FD GE FE s ∧ G = Wm q vo GD GE ∧ F = fun b => Wm q vo GD GE b ∨ FD b ∨ FE b
section
variable {k1 k2 : Nat} {s1 s2 : ByteArray} {pol : Int} {st : Int} {q pd p S : Nat} {w0 w w' : World} {W0 F0 : Nat → Prop} {vo : Value} {GD FD G F : Nat → Prop} {s : SSt}
theorem own_stayB {base n size : Nat} {T : TypeId} {v : Value} {xs : List Value} (ho : w.ownsRow base T size v n xs) (hk : ∀ b, v.ownBlock = some b → w'.heap[b]? = w.heap[b]?) : w'.ownsRow base T size v n xs := by
  refine ⟨ho.1, ?_⟩
  rcases ho.2 with hn | ⟨g, cap, cur, h1, h2, h3, h4⟩
  · exact .inl hn
  · exact .inr ⟨g, cap, cur, h1, h2, (hk g (by rw [h1]; rfl)).trans h3, h4⟩
theorem StM.stayF (h : StM k1 k2 s1 s2 pol st q pd p S w0 W0 F0 w vo GD FD G F s) (hs : w.heap.size ≤ w'.heap.size) (hk : ∀ b, Wm q vo GD G b ∨ FD b ∨ F b → w'.heap[b]? = w.heap[b]?) : StM k1 k2 s1 s2 pol st q pd p S w' (Wm q vo GD G) F w' vo GD FD G F s := by
  obtain ⟨e', he, hee⟩ := h.e.enc
  obtain ⟨d', hd, hdd⟩ := h.dec
  exact ⟨⟨(hk q (.inl (.inl (.inl rfl)))).trans h.e.box, own_stayB h.e.row fun b e => hk b (.inl (.inl (.inr (.inl e)))), ⟨e', he.stay hs fun b hb => hk b (.inr (.inr hb)), hee⟩, h.e.ql, h.e.lt, Nat.le_trans h.e.top hs, h.e.fq, h.e.fv, Mid.refl _ w', .inl (.inl rfl), fun b e => .inl (.inl (.inr (.inl e))), fun b hb => .inl (.inl (.inr (.inr hb))), fun b hb => .inl hb, h.e.ok⟩,
    ⟨d', hd.stay hs fun b hb => hk b (.inr (.inl hb)), hdd⟩, h.dq, h.dv, h.dg, h.gd, fun b hb => .inl (.inr hb)⟩
end
theorem StS.foot {k1 k2 : Nat} {pol : Int} {G F : Nat → Prop} {w : World} {q : Nat} {s : SSt} (h : StS k1 k2 pol G F w q s) : (∀ b, G b → F b) ∧ ∀ b, F b → b < w.heap.size := by
  obtain ⟨_, _, s1, s2, pd, p, S, vo, GD, FD, GE, FE, h, rfl, rfl⟩ := h
  refine ⟨fun b hb => .inl hb, fun b hb => ?_⟩
  rcases hb with hb | hb | hb
  · exact h.wmlt b hb
  · exact h.dfoot.2 b hb
  · exact h.e.gf.2 b hb
theorem StS.stay {k1 k2 : Nat} {pol : Int} {G F : Nat → Prop} {w w' : World} {q : Nat} {s : SSt} (h : StS k1 k2 pol G F w q s) (hs : w.heap.size ≤ w'.heap.size) (hk : ∀ b, F b → w'.heap[b]? = w.heap[b]?) : StS k1 k2 pol G F w' q s := by
  obtain ⟨p0, p2, s1, s2, pd, p, S, vo, GD, FD, GE, FE, h, rfl, rfl⟩ := h
  exact ⟨p0, p2, s1, s2, pd, p, S, vo, GD, FD, GE, FE, h.stayF hs hk, rfl, rfl⟩
/-- a stream that was made -/
theorem stm_new {k1 k2 : Nat} (h1 : k1 ≤ 6) (h2 : k2 ≤ 6) {pol : Int} {w' : World} {q pd p : Nat} {s1 s2 : ByteArray} (hh : Held w' q (StC s1 s2 pol (vD k1 pd) (vE k2 p) (.slice none 0 0) F0 1) 129) (hn : NewDE k1 k2 (q + 1) w' pd p) :
    ∃ FD FE, StM k1 k2 s1 s2 pol 1 q pd p (q + 1) w' (Wm q (.slice none 0 0) (fun b => b = pd) (fun b => b = p)) FE w' (.slice none 0 0) (fun b => b = pd) FD (fun b => b = p) FE S0 ∧ (∀ b, FD b → q + 1 ≤ b) ∧ (∀ b, FE b → q + 1 ≤ b) ∧ ∀ b, Wm q (.slice none 0 0) (fun b => b = pd) (fun b => b = p) b → q ≤ b := by
  obtain ⟨FD, FE, d1, e1, d2, e2, hde⟩ := hn h1 h2
  have hM : StM k1 k2 s1 s2 pol 1 q pd p (q + 1) w' (Wm q (.slice none 0 0) (fun b => b = pd) (fun b => b = p)) FE w' (.slice none 0 0) (fun b => b = pd) FD (fun b => b = p) FE S0 :=
    ⟨⟨hh, World.ownsRow_nil w' (q + 1) _ 1, ⟨E0, e1, fun _ _ => rfl⟩, by simp [S0, E0], Nat.lt_succ_self q, hh.lt, fun hx => by have := e2 q hx; omega, fun b e => (by cases e), Mid.refl _ w', .inl (.inl rfl), fun b e => (by cases e), fun b hb => .inl (.inl (.inr (.inr hb))), fun b hb => .inl hb, ⟨fun _ => rfl, fun _ => rfl⟩⟩,
      ⟨D0, d1, fun _ => rfl⟩, fun hx => by have := d2 q hx; omega, fun b e => (by cases e), fun b hb hx => hde b hb (e1.foot.1 b hx), fun b hb hx => hde b (d1.foot.1 b hb) hx, fun b hb => .inl (.inr hb)⟩
  refine ⟨FD, FE, hM, d2, e2, fun b hb => ?_⟩
  rcases hb with (hb | hb | hb) | hb
  · omega
  · cases hb
  · have := e2 b (e1.foot.1 b hb); omega
  · have := d2 b (d1.foot.1 b hb); omega
/-- the same, and where its decoder lies -/
def StSP (k1 k2 : Nat) (pol : Int) (pd : Nat) (G F : Nat → Prop) (w : World) (q : Nat) (s : SSt) : Prop :=
  0 ≤ pol ∧ pol ≤ 2 ∧ ∃ s1 s2 p S vo GD FD GE FE, StM k1 k2 s1 s2 pol (stN s) q pd p S w (Wm q vo GD GE) FE w vo GD FD GE FE s ∧ G = Wm q vo GD GE ∧ F = fun b => Wm q vo GD GE b ∨ FD b ∨ FE b
theorem StSP.to {k1 k2 : Nat} {pol : Int} {pd : Nat} {G F : Nat → Prop} {w : World} {q : Nat} {s : SSt} (h : StSP k1 k2 pol pd G F w q s) : StS k1 k2 pol G F w q s := by
  obtain ⟨p0, p2, s1, s2, p, S, vo, GD, FD, GE, FE, h, hG, hF⟩ := h
  exact ⟨p0, p2, s1, s2, pd, p, S, vo, GD, FD, GE, FE, h, hG, hF⟩
theorem StSP.stay {k1 k2 : Nat} {pol : Int} {pd : Nat} {G F : Nat → Prop} {w w' : World} {q : Nat} {s : SSt} (h : StSP k1 k2 pol pd G F w q s) (hs : w.heap.size ≤ w'.heap.size) (hk : ∀ b, F b → w'.heap[b]? = w.heap[b]?) : StSP k1 k2 pol pd G F w' q s := by
  obtain ⟨p0, p2, s1, s2, p, S, vo, GD, FD, GE, FE, h, rfl, rfl⟩ := h
  exact ⟨p0, p2, s1, s2, p, S, vo, GD, FD, GE, FE, h.stayF hs hk, rfl, rfl⟩
/-- a decoder looks at nothing that was made behind it -/
theorem DV.less {k : Nat} {G F : Nat → Prop} {w : World} {p : Nat} {s : DSt} (h : DV k G F w p s) : DV k G (fun b => F b ∧ b ≤ p) w p s := by
  unfold DV at h ⊢
  by_cases h0 : k = 0
  · rw [if_pos h0] at h ⊢
    obtain ⟨g1, g2, g3, g4, g5, g6, g7, g8⟩ := h
    exact ⟨g1, g2, ⟨g3, Nat.le_refl _⟩, fun b hb => g4 b hb.1, g5, g6, g7, g8⟩
  · rw [if_neg h0] at h ⊢
    obtain ⟨h1, R, B, L, st, h⟩ := h
    exact ⟨h1, R, B, L, st, h.gp, h.ge, ⟨h.fp, Nat.le_refl _⟩, fun b hb => h.lt b hb.1, h.bp, h.tr, fun b g1 g2 => ⟨h.fl b g1 g2, by have := h.bp; omega⟩, h.is, h.s0, h.s1, h.op⟩
theorem StM.less {k1 k2 : Nat} {s1 s2 : ByteArray} {pol : Int} {st : Int} {q pd p S : Nat} {w0 w : World} {W0 F0 : Nat → Prop} {vo : Value} {GD FD G F : Nat → Prop} {s : SSt} (h : StM k1 k2 s1 s2 pol st q pd p S w0 W0 F0 w vo GD FD G F s) : StM k1 k2 s1 s2 pol st q pd p S w0 W0 F0 w vo GD (fun b => FD b ∧ b ≤ pd) G F s := by
  obtain ⟨d', a, b⟩ := h.dec
  exact ⟨h.e, ⟨d', a.less, b⟩, fun hx => h.dq hx.1, fun b e hx => h.dv b e hx.1, fun b hx => h.dg b hx.1, h.gd, h.wd⟩
set_option maxRecDepth 100000 in
set_option maxHeartbeats 3200000 in
theorem sfeedP_any {k1 k2 : Nat} {pol : Int} {pd : Nat} {G F : Nat → Prop} {w : World} {q : Nat} {s : SSt} (n : Nat) (A : Option Addr) (c : Nat) (us : List Int) (room : Int) (out : List Int) (used err : Int) (s' : SSt) (h : StSP k1 k2 pol pd G F w q s) (h1 : k1 ≤ 6) (h2 : k2 ≤ 6) (hn : us.length = n) (hr : Rdx (fun b => ¬ G b) w A (us.map (Value.int .u8))) (hn9 : n ≤ 1000) (hb : ∀ u ∈ us, 0 ≤ u ∧ u ≤ 255) (hda : s.d.a ≤ 1000) (hea : s.e.a ≤ 1000) (hol : s.o.length ≤ 100000) (hf : feedS k1 k2 pol room s us = (out, used, err, s')) :
    Calls Tryz.prog 63 #[.pointer (some ⟨q, 0, none⟩), .slice A n c, .int .i64 room] w fun e w' => ∃ A' c' G' F', e = .returned (.tuple #[.slice A' out.length c', .int .i64 used, .int .i64 err]) ∧ Rdx (fun b => ¬ G' b) w' A' (out.map (Value.int .u8)) ∧ StSP k1 k2 pol pd G' F' w' q s' ∧ (∀ b, F' b → F b ∨ b ≤ pd ∨ w.heap.size ≤ b) ∧ (∀ b, G' b → G b ∨ w.heap.size ≤ b) ∧ Mid G w w' := by
  suffices key : ∀ P : Ending → World → Prop, (∀ e w', (∃ A' c' G' F', e = .returned (.tuple #[.slice A' out.length c', .int .i64 used, .int .i64 err]) ∧ Rdx (fun b => ¬ G' b) w' A' (out.map (Value.int .u8)) ∧ StSP k1 k2 pol pd G' F' w' q s' ∧ (∀ b, F' b → F b ∨ b ≤ pd ∨ w.heap.size ≤ b) ∧ (∀ b, G' b → G b ∨ w.heap.size ≤ b) ∧ Mid G w w') → P e w') → Calls Tryz.prog 63 #[.pointer (some ⟨q, 0, none⟩), .slice A n c, .int .i64 room] w fun e w' => P e w' from key _ fun _ _ h => h
  intro P hP
  have HPP := Lib.hid hP
  have HS := Lib.hid h
  clear hP
  obtain ⟨p0, p2, s1, s2, p, S, vo, GD, FD, GE, FE, hm, hG, hF⟩ := h
  have c9 := hm.e.box.cell 9
  by_cases hst : s.cl = true ∨ s.fl = true
  · obtain ⟨st, hst2⟩ : ∃ st, stN s = st := ⟨_, rfl⟩
    have hne : ¬ st = 1 := by
      rw [← hst2]; unfold stN
      split
      · decide
      · rw [if_pos (by rename_i h; exact hst.resolve_left h)]; decide
    have dne : (st != 1) = true := by simpa using hne
    have hfe : out = [] ∧ used = 0 ∧ err = 5 ∧ s' = s := by
      unfold feedS at hf
      rw [if_pos hst] at hf
      injection hf with a b; injection b with b c; injection c with c d
      exact ⟨a.symm, b.symm, c.symm, d.symm⟩
    obtain ⟨rfl, rfl, rfl, rfl⟩ := hfe
    rw [hst2] at c9
    clear hst hm hG hF hr hb hf hst2
    go_enter Tryz.func63, Tryz.ntmps63
    go_wp2_with fail
    (try go_ret3)
    exact HPP.out _ _ ⟨none, 0, G, F, rfl, .inl rfl, HS.out, fun b hb => .inl hb, fun b hb => .inl hb, Mid.refl _ w⟩
  have hst1 : stN s = 1 := by
    unfold stN
    rw [if_neg (fun h => hst (.inl h)), if_neg (fun h => hst (.inr h))]
  rw [hst1] at hm c9
  by_cases hrm : room < 16
  · have dr : decide (room < 16) = true := by simpa using hrm
    have hfe : out = [] ∧ used = 0 ∧ err = 9 ∧ s' = s := by
      unfold feedS at hf
      rw [if_neg hst, if_pos hrm] at hf
      injection hf with a b; injection b with b c; injection c with c d
      exact ⟨a.symm, b.symm, c.symm, d.symm⟩
    obtain ⟨rfl, rfl, rfl, rfl⟩ := hfe
    clear hst hm hG hF hr hb hf
    go_enter Tryz.func63, Tryz.ntmps63
    go_wp2_with fail
    (try go_ret3)
    exact HPP.out _ _ ⟨none, 0, G, F, rfl, .inl rfl, HS.out, fun b hb => .inl hb, fun b hb => .inl hb, Mid.refl _ w⟩
  · have dr : decide (room < 16) = false := by simpa using hrm
    obtain ⟨sb, used', hbs⟩ : ∃ sb used', bytesS k1 k2 pol room s us = (sb, used') := ⟨_, _, rfl⟩
    have hfl := bytesS_flags (k1 := k1) (k2 := k2) (pol := pol) (room := room) us s
    rw [hbs] at hfl
    simp only at hfl
    have hfe : payS room sb = (out, err, s') ∧ used' = used := by
      unfold feedS at hf
      rw [if_neg hst, if_neg hrm, hbs] at hf
      injection hf with a b; injection b with b c; injection c with c d
      exact ⟨by rw [← a, ← c, ← d], b⟩
    obtain ⟨hpy, rfl⟩ := hfe
    have hql := hm.e.ql
    have hdq : s.d.q.length ≤ 7 := by obtain ⟨d', hd1, hd2⟩ := hm.dec; rw [hd2 rfl] at hd1; exact hd1.ql h1
    have C1 := Lib.hid (seat_any h1 h2 ⟨p0, p2⟩ hm n A c us room hn (by rw [← hG]; exact hr) hn9 hb (by omega) (by omega) (by omega) sb used' hbs)
    have HPY := Lib.hid hpy
    have HFL := Lib.hid hfl
    have HG := Lib.hid hG
    have HF := Lib.hid hF
    have HST := Lib.hid hst
    have HP := Lib.hid (show 0 ≤ pol ∧ pol ≤ 2 from ⟨p0, p2⟩)
    have hr0 : 0 ≤ room := by omega
    clear hst hm hG hF hr hb hf hbs hfl hpy hda hea hol hql hdq p0 p2 hst1 hn
    go_enter Tryz.func63, Tryz.ntmps63
    go_wp2_with fail
    refine C1.out.mono ?_
    rintro e w1 ⟨v1, GD1, FD1, G1, F1, rfl, hm1, hbd1⟩
    have HM1 := Lib.hid hm1
    have C2 := Lib.hid (spay_any hm1 room hr0 (by omega) out err s' HPY.out)
    clear hm1 hbd1 C1
    go_wp2_with fail
    refine C2.out.mono ?_
    rintro e w2 ⟨v2, A2, c2, rfl, hm2, hr2⟩
    have HM2 := Lib.hid hm2
    have HR2 := Lib.hid hr2
    clear hm2 hr2 C2
    go_wp2_with fail
    (try go_ret3)
    have hwm : ∀ b, Wm q v1 GD1 G1 b → G b ∨ w.heap.size ≤ b := fun b hb => by rw [HG.out]; exact HM1.out.wm0 b hb
    have hs1 := HM1.out.e.mid.size
    have hst' : (if sb.o.drop room.toNat = [] ∧ sb.f.err ≠ 0 then (0 : Int) else 1) = stN s' := by
      have hp := HPY.out
      unfold payS at hp
      injection hp with a b; injection b with b c
      have f1 := HFL.out.1
      have f2 := HFL.out.2
      have g1 : s.cl = false := by cases hc : s.cl with | true => exact absurd (.inl hc) HST.out | false => rfl
      have g2 : s.fl = false := by cases hc : s.fl with | true => exact absurd (.inr hc) HST.out | false => rfl
      rw [← c]
      unfold stN
      simp only [f2, g1, Bool.false_or, f1, g2]
      by_cases hq : sb.o.drop room.toNat = [] ∧ sb.f.err ≠ 0
      · rw [if_pos hq, if_pos (by simp [hq.1, hq.2])]
      · rw [if_neg hq, if_neg (by simpa using hq), if_neg (by decide)]
    have hM2 := HM2.out
    rw [hst'] at hM2
    have hM3 := hM2.start.less
    have hwm2 : ∀ b, Wm q v2 GD1 G1 b → G b ∨ w.heap.size ≤ b := fun b hb => by
      rcases hM2.wm0 b hb with h3 | h3
      · exact hwm b h3
      · exact .inr (by omega)
    refine HPP.out _ _ ⟨A2, c2, _, _, rfl, HR2.out, ⟨HP.out.1, HP.out.2, s1, s2, p, S, v2, GD1, _, G1, F1, hM3, rfl, rfl⟩, fun b hb => ?_, hwm2, ?_⟩
    · rcases hb with hb | hb | hb
      · rcases hwm2 b hb with h3 | h3
        · rw [HG.out] at h3
          rw [HF.out]; exact .inl (.inl h3)
        · exact .inr (.inr h3)
      · exact .inr (.inl hb.2)
      · rcases HM1.out.e.wf b hb with h3 | h3
        · rw [HF.out]; exact .inl (.inr (.inr h3))
        · exact .inr (.inr h3)
    · rw [HG.out]
      exact HM1.out.e.mid.then hM2.e.mid HM1.out.wm0
end Go.Proofs.YtncpokioagpclaaGreatDoor
namespace Go.Proofs.YtncpokioagpclaaGreatDoor
set_option linter.unusedVariables false
set_option linter.unusedSimpArgs false
set_option linter.unnecessarySimpa false
open Go.RowKit Go.Lib
set_option maxRecDepth 100000 in
set_option maxHeartbeats 3200000 in
theorem sflush_any {k1 k2 : Nat} {pol : Int} {G F : Nat → Prop} {w : World} {q : Nat} {s : SSt} (room : Int) (out : List Int) (err : Int) (s' : SSt) (h : StS k1 k2 pol G F w q s) (h1 : k1 ≤ 6) (h2 : k2 ≤ 6) (hda : s.d.a ≤ 1000) (hea : s.e.a ≤ 1000) (hol : s.o.length ≤ 100000) (hf : flushS k1 k2 pol room s = (out, err, s')) :
    Calls Tryz.prog 64 #[.pointer (some ⟨q, 0, none⟩), .int .i64 room] w fun e w' => ∃ A' c' G' F', e = .returned (.tuple #[.slice A' out.length c', .int .i64 err]) ∧ Rdx (fun b => ¬ G' b) w' A' (out.map (Value.int .u8)) ∧ StS k1 k2 pol G' F' w' q s' ∧ (∀ b, G' b → G b ∨ w.heap.size ≤ b) ∧ Mid G w w' := by
  suffices key : ∀ P : Ending → World → Prop, (∀ e w', (∃ A' c' G' F', e = .returned (.tuple #[.slice A' out.length c', .int .i64 err]) ∧ Rdx (fun b => ¬ G' b) w' A' (out.map (Value.int .u8)) ∧ StS k1 k2 pol G' F' w' q s' ∧ (∀ b, G' b → G b ∨ w.heap.size ≤ b) ∧ Mid G w w') → P e w') → Calls Tryz.prog 64 #[.pointer (some ⟨q, 0, none⟩), .int .i64 room] w fun e w' => P e w' from key _ fun _ _ h => h
  intro P hP
  have HPP := Lib.hid hP
  have HS := Lib.hid h
  clear hP
  obtain ⟨p0, p2, s1, s2, pd, p, S, vo, GD, FD, GE, FE, hm, hG, hF⟩ := h
  have c9 := hm.e.box.cell 9
  by_cases hcl : s.cl = true
  · have hst : stN s = 0 := by unfold stN; rw [if_pos hcl]
    have hfe : out = [] ∧ err = 5 ∧ s' = s := by
      unfold flushS at hf
      rw [if_pos hcl] at hf
      injection hf with a b; injection b with b c
      exact ⟨a.symm, b.symm, c.symm⟩
    obtain ⟨rfl, rfl, rfl⟩ := hfe
    rw [hst] at c9
    clear hcl hm hG hF hf hst
    go_enter Tryz.func64, Tryz.ntmps64
    go_wp2_with fail
    (try go_ret2)
    exact HPP.out _ _ ⟨none, 0, G, F, rfl, .inl rfl, HS.out, fun b hb => .inl hb, Mid.refl _ w⟩
  obtain ⟨st, hst2⟩ : ∃ st, stN s = st := ⟨_, rfl⟩
  have hst12 : (st = 1 ∨ st = 2) ∧ s.fl = decide (st = 2) := by
    rw [← hst2]; unfold stN; rw [if_neg hcl]
    cases hfl : s.fl with
    | true => exact ⟨.inr rfl, rfl⟩
    | false => exact ⟨.inl rfl, rfl⟩
  have dne : (st == 0) = false := by rcases hst12.1 with e | e <;> rw [e] <;> rfl
  rw [hst2] at hm c9
  by_cases hrm : room < 16
  · have dr : decide (room < 16) = true := by simpa using hrm
    have hfe : out = [] ∧ err = 9 ∧ s' = s := by
      unfold flushS at hf
      rw [if_neg hcl, if_pos hrm] at hf
      injection hf with a b; injection b with b c
      exact ⟨a.symm, b.symm, c.symm⟩
    obtain ⟨rfl, rfl, rfl⟩ := hfe
    clear hcl hm hG hF hf hst2 hst12
    go_enter Tryz.func64, Tryz.ntmps64
    go_wp2_with fail
    (try go_ret2)
    exact HPP.out _ _ ⟨none, 0, G, F, rfl, .inl rfl, HS.out, fun b hb => .inl hb, Mid.refl _ w⟩
  · have dr : decide (room < 16) = false := by simpa using hrm
    obtain ⟨sb, hsb⟩ : ∃ sb, endS k1 k2 pol s = sb := ⟨_, rfl⟩
    obtain ⟨s3, hpy⟩ : ∃ s3, payS room sb = (out, err, s3) ∧ s' = { s3 with cl := s3.cl || decide (err = 0) } := by
      unfold flushS at hf
      rw [if_neg hcl, if_neg hrm, hsb] at hf
      injection hf with a b; injection b with b c
      exact ⟨(payS room sb).2.2, by rw [← a, ← b], by rw [← c, ← b]⟩
    obtain ⟨hpy, hs3⟩ := hpy
    have hql := hm.e.ql
    have hdq : s.fl = true ∨ s.d.q.length ≤ 7 := by
      rcases hst12.1 with e | e
      · obtain ⟨d', hd1, hd2⟩ := hm.dec; rw [hd2 e] at hd1; exact .inr (hd1.ql h1)
      · exact .inl (by rw [hst12.2, e]; rfl)
    have hel := endS_len h1 h2 (pol := pol) s hdq hql hm.e.ok
    rw [hsb] at hel
    have hfl := endS_flags (k1 := k1) (k2 := k2) (pol := pol) s
    rw [hsb] at hfl
    have C1 := sfinish_any h1 h2 ⟨p0, p2⟩ hst12.1 hst12.2 hm (by omega) (by omega) (by omega)
    rw [hsb] at C1
    have C1 := Lib.hid C1
    have HPY := Lib.hid hpy
    have HS3 := Lib.hid hs3
    have HFL := Lib.hid hfl
    have HG := Lib.hid hG
    have HCL := Lib.hid hcl
    have HP := Lib.hid (show 0 ≤ pol ∧ pol ≤ 2 from ⟨p0, p2⟩)
    have hr0 : 0 ≤ room := by omega
    have hel' : sb.o.length ≤ 100000000 := by omega
    have HEL := Lib.hid hel'
    clear hcl hm hG hF hf hsb hfl hpy hda hea hol hql hdq p0 p2 hst2 hst12 hs3 hel hel'
    go_enter Tryz.func64, Tryz.ntmps64
    go_wp2_with fail
    refine C1.out.mono ?_
    rintro e w1 ⟨v1, GD1, FD1, G1, F1, rfl, hm1⟩
    have HM1 := Lib.hid hm1
    have C2 := Lib.hid (spay_any hm1 room hr0 HEL.out out err s3 HPY.out)
    clear hm1 C1
    go_wp2_with fail
    refine C2.out.mono ?_
    rintro e w2 ⟨v2, A2, c2, rfl, hm2, hr2⟩
    have HM2 := Lib.hid hm2
    have HR2 := Lib.hid hr2
    have c9 := hm2.e.box.cell 9
    have f9 := hm2.e.box.frozen 9
    clear hm2 hr2 C2
    have hwm : Hid (∀ b, Wm q v1 GD1 G1 b → G b ∨ w.heap.size ≤ b) := Lib.hid fun b hb => by rw [HG.out]; exact HM1.out.wm0 b hb
    by_cases he0 : err = 0
    · have de : (err == 0) = true := by simpa using he0
      have HE0 := Lib.hid he0
      have HSN := Lib.hid (show stN s' = 0 by rw [HS3.out]; unfold stN; rw [if_pos (by simp [he0])])
      clear he0
      go_wp2_with fail
      (try go_ret2)
      have hM2 := HM2.out.setSt 0 (fun e => absurd e (by decide)) (s' := s') (.inr (by decide)) (by rw [HS3.out]; exact ⟨rfl, rfl, rfl⟩)
      have hM3 : StM k1 k2 s1 s2 pol (stN s') q pd p S w1 (Wm q v1 GD1 G1) F1 (w2.setCell ⟨q, 9, none⟩ (.int .i64 0)) v2 GD1 FD1 G1 F1 s' := by rw [HSN.out]; exact hM2
      have hs1 := HM1.out.e.mid.size
      refine HPP.out _ _ ⟨A2, c2, _, _, rfl, ?_, ⟨HP.out.1, HP.out.2, s1, s2, pd, p, S, v2, GD1, FD1, G1, F1, hM3.start, rfl, rfl⟩, fun b hb => ?_, ?_⟩
      · exact HR2.out.step (by rw [World.size_setCell]; exact Nat.le_refl _) fun b hl hx => ⟨hx, Below.heap_setCell _ _ _ _ (fun e => hx (.inl (.inl e)))⟩
      · rcases hM3.wm0 b hb with h3 | h3
        · exact hwm.out b h3
        · exact .inr (by omega)
      · rw [HG.out]
        exact HM1.out.e.mid.then hM3.e.mid HM1.out.wm0
    · have de : (err == 0) = false := by simpa using he0
      have HE0 := Lib.hid he0
      clear he0
      go_wp2_with fail
      (try go_ret2)
      have hs1 := HM1.out.e.mid.size
      have hse : s' = s3 := by rw [HS3.out]; simp [HE0.out]
      have hst' : (if sb.o.drop room.toNat = [] ∧ sb.f.err ≠ 0 then (0 : Int) else 2) = stN s' := by
        have hp := HPY.out
        unfold payS at hp
        injection hp with a b; injection b with b c
        have f1 := HFL.out.1
        have f2 := HFL.out.2
        have g1 : s.cl = false := by cases hc : s.cl with | true => exact absurd hc HCL.out | false => rfl
        rw [hse, ← c]
        unfold stN
        simp only [f2, g1, Bool.false_or, f1]
        by_cases hq : sb.o.drop room.toNat = [] ∧ sb.f.err ≠ 0
        · rw [if_pos hq, if_pos (by simp [hq.1, hq.2])]
        · rw [if_neg hq, if_neg (by simpa using hq), if_pos trivial]
      have hM2 := HM2.out
      rw [hst', ← hse] at hM2
      refine HPP.out _ _ ⟨A2, c2, _, _, rfl, HR2.out, ⟨HP.out.1, HP.out.2, s1, s2, pd, p, S, v2, GD1, FD1, G1, F1, hM2.start, rfl, rfl⟩, fun b hb => ?_, ?_⟩
      · rcases hM2.wm0 b hb with h3 | h3
        · exact hwm.out b h3
        · exact .inr (by omega)
      · rw [HG.out]
        exact HM1.out.e.mid.then hM2.e.mid HM1.out.wm0
end Go.Proofs.YtncpokioagpclaaGreatDoor
namespace Go.Proofs.YtncpokioagpclaaGreatDoor
set_option linter.unusedVariables false
set_option linter.unusedSimpArgs false
set_option linter.unnecessarySimpa false
open Go.RowKit Go.Lib
theorem nmLowS (k : Nat) (hk : k < 8) : nameB (lowT (nmB k)) = some k := by
  obtain ⟨h1, h2, _⟩ := nm_low k hk
  rw [lowT_ascii _ h2]; exact h1
theorem nm_size (k : Nat) (hk : k < 8) : (nmB k).size ≤ 1000 := (nm_low k hk).2.2
end Go.Proofs.YtncpokioagpclaaGreatDoor
namespace Go.Proofs.YtncpokioagpclaaGreatDoor
set_option linter.unusedVariables false
set_option linter.unusedSimpArgs false
set_option linter.unnecessarySimpa false
open Go.RowKit Go.Lib
set_option maxRecDepth 100000 in
set_option maxHeartbeats 1600000 in
theorem spair_any (w : World) (z : Int) (k1 k2 : Nat) (pol : Int) (h0 : 0 ≤ z) (h1 : z ≤ 255) (hk1 : z % 8 = (k1 : Int)) (hk2 : z / 8 % 8 = (k2 : Int)) (hp : z / 64 % 3 = pol) :
    Calls Tryz.prog 42 #[.int .u8 z] w fun e w' => e = .returned (.tuple #[.string (nmB k1), .string (nmB k2), .int .i64 pol]) ∧ Below w.heap.size w w' := by
  have k11 : k1 < 8 := by omega
  have k21 : k2 < 8 := by omega
  have hb := below_allocT w (.cells nmC 9)
  have hx1 := names_cell w k1 k11
  have hx2 := names_cell w k2 k21
  have C1 := Lib.hid (cnames_any w)
  obtain ⟨n1, hn1⟩ : ∃ n, nmB k1 = n := ⟨_, rfl⟩
  obtain ⟨n2, hn2⟩ : ∃ n, nmB k2 = n := ⟨_, rfl⟩
  rw [hn1] at hx1
  rw [hn2] at hx2
  rw [hn1, hn2]
  obtain ⟨W, hW⟩ : ∃ W, w.alloc (.cells nmC 9) = W := ⟨_, rfl⟩
  obtain ⟨N, hN⟩ : ∃ N, w.heap.size = N := ⟨_, rfl⟩
  rw [hW] at hx1 hx2 hb
  rw [hN] at hx1 hx2
  have HB := Lib.hid hb
  have HW := Lib.hid hW
  have HN := Lib.hid hN
  have i1 : (0 : Int) ≤ (k1 : Int) := by omega
  have i2 : (0 : Int) ≤ (k2 : Int) := by omega
  have i3 : (k1 : Int) < 8 := by omega
  have i4 : (k2 : Int) < 8 := by omega
  have hw : IntKind.i64.wrap (z / 64) = z / 64 := by rw [IntKind.wrap_i64]; omega
  clear k11 k21 hb hW hN hn1 hn2
  go_enter Tryz.func42, Tryz.ntmps42
  go_wp2_with fail
  refine C1.out.mono ?_
  rintro e w1 ⟨rfl, rfl⟩
  rw [HW.out, HN.out]
  clear C1
  go_upto_region 2 with fail
  go_quiet (fail)
  go_wp2_with fail
  go_ret3
  exact ⟨by rw [← hp]; rfl, HB.out.trans (below_drewS _ _ _)⟩
/-- a block stays -/
def KeepB (b : Nat) (u u' : World) : Prop := u'.heap[b]? = u.heap[b]?
theorem KeepB.refl (b : Nat) (w : World) : KeepB b w w := rfl
theorem KeepB.trans (b : Nat) (x y z : World) (h : KeepB b x y) (k : KeepB b y z) : KeepB b x z := Eq.trans k h
/-- what an act is, by its first byte -/
def kd (z : Int) : Int := if z % 8 > 5 then z % 8 - 5 else 0
set_option maxRecDepth 100000 in
theorem kind_any (w : World) (z : Int) (h0 : 0 ≤ z) (h1 : z ≤ 255) : Calls Tryz.prog 74 #[.int .u8 z] w fun e w' => e = .returned (.int .i64 (kd z)) ∧ Below w.heap.size w w' := by
  obtain ⟨y, hy⟩ : ∃ y, z % 8 = y := ⟨_, rfl⟩
  have hy0 : 0 ≤ y ∧ y < 8 := by omega
  have hk : kd z = if y > 5 then y - 5 else 0 := by unfold kd; rw [hy]
  rw [hk]
  clear hk
  by_cases h6 : y = 6
  · subst h6
    clear hy0
    go_enter Tryz.func74, Tryz.ntmps74
    go_wp2_with fail
    go_ret
    exact ⟨rfl, Below.refl _ _⟩
  by_cases h7 : y = 7
  · subst h7
    clear hy0
    go_enter Tryz.func74, Tryz.ntmps74
    go_wp2_with fail
    go_ret
    exact ⟨rfl, Below.refl _ _⟩
  have e6 : (y == 6) = false := by simpa using h6
  have e7 : (y == 7) = false := by simpa using h7
  have hr : (if y > 5 then y - 5 else 0) = 0 := if_neg (by omega)
  rw [hr]
  clear hy0 hr
  go_enter Tryz.func74, Tryz.ntmps74
  go_wp2_with fail
  go_ret
  exact ⟨rfl, Below.refl _ _⟩
set_option maxRecDepth 100000 in
theorem text0_any (w : World) (A : Option Addr) (c : Nat) : Calls Tryz.prog 75 #[.slice A 0 c] w fun e w' => e = .returned (.tuple #[.slice none 0 0, .slice none 0 0]) ∧ Below w.heap.size w w' := by
  go_enter Tryz.func75, Tryz.ntmps75
  go_wp2_with fail
  go_ret2
  exact ⟨rfl, Below.refl _ _⟩
set_option maxRecDepth 100000 in
set_option maxHeartbeats 3200000 in
theorem text_any (w : World) (L : Nat) (A : Option Addr) (c : Nat) (y : Int) (t : List Int) (B : Nat) (m : Nat) (hn : t.length + 1 = L) (hr : Rd w B A ((y :: t).map (Value.int .u8))) (hB : B ≤ w.heap.size) (hc : L ≤ c) (hcm : c ≤ maxLen) (hL : L ≤ 1048576) (hy0 : 0 ≤ y) (hy1 : y ≤ 255) (hm : textN y t = m) :
    Calls Tryz.prog 75 #[.slice A L c] w fun e w' => ∃ v ad, e = .returned (.tuple #[v, .slice ad (L - (1 + m)) (c - (1 + m))]) ∧ OwnI .u8 5 w' w.heap.size v (t.take m) ∧ Rd w B ad ((t.drop m).map (Value.int .u8)) ∧ Below w.heap.size w w' := by
  have hmv : (m : Int) = min (y % 32) ((L : Int) - 1) := by rw [← hm]; unfold textN; omega
  have hmL : 1 + m ≤ L := by omega
  have hmin1 : min (y % 32) ((L : Int) - 1) = m := hmv.symm
  have hmin2 : (if (L : Int) - 1 < y % 32 then (L : Int) - 1 else y % 32) = m := by rw [hmv]; split <;> omega
  have hlen : ((y :: t)).length = L := by simpa using hn
  have hcm2 : c ≤ 2 ^ 63 - 1 := by unfold maxLen at hcm; omega
  obtain ⟨ad1, hs1, had1⟩ := slice8_mid A L c 1 (1 + m) (by omega) hmL hc hcm2 1 (1 + (m : Int)) rfl (by omega)
  obtain ⟨ad2, hs2, had2⟩ := tail8 A L c (1 + m) hmL hc hcm2
  have hr1 : Rd w B ad1 ((t.take m).map (Value.int .u8)) := by
    rw [had1]
    have h1 := (rd_drop hr 1 (c := c) (by omega)).take m
    rw [← List.map_take] at h1
    exact h1
  have hr2 : Rd w B ad2 ((t.drop m).map (Value.int .u8)) := by
    rw [had2]
    have h1 := rd_drop hr (1 + m) (c := c) (by omega)
    rwa [Nat.add_comm 1 m, List.drop_succ_cons, Nat.add_comm m 1] at h1
  rw [show ((1 + m : Nat) : Int) = 1 + (m : Int) by omega] at hs2
  rw [show 1 + m - 1 = m by omega] at hs1
  have htl : (t.take m).length = m := by rw [List.length_take]; omega
  obtain ⟨b3, o3, rfl, hb3, hc3⟩ := rd_ints hr (by simp)
  have hx := hc3 0 (by simp)
  have hxx : w.cell? ⟨b3, o3, none⟩ = some (.int .u8 y) := hx
  have l1 : (1 : Int) ≤ L := by omega
  have l0 : (0 : Int) < L := by omega
  have l9 : (L : Int) ≤ 1048576 := by omega
  have m0 : (0 : Int) ≤ (m : Int) := by omega
  have m9 : (m : Int) ≤ 31 := by omega
  have hw32 : IntKind.i64.wrap (y % 32) = y % 32 := by rw [IntKind.wrap_i64]; omega
  have e0 : ((L : Int) == 0) = false := by simp; omega
  have HR1 := Lib.hid hr1
  have HR2 := Lib.hid hr2
  have HTL := Lib.hid htl
  have HLB := Lib.hid hL
  have HBS := Lib.hid hB
  obtain ⟨cr, hcr⟩ : ∃ cr, c - (1 + m) = cr := ⟨_, rfl⟩
  obtain ⟨lr, hlr⟩ : ∃ lr, L - (1 + m) = lr := ⟨_, rfl⟩
  obtain ⟨c1, hc1⟩ : ∃ c1, c - 1 = c1 := ⟨_, rfl⟩
  rw [hcr, hlr] at hs2
  rw [hc1] at hs1
  rw [hcr, hlr]
  have HB3 := Lib.hid (show b3 < w.heap.size by omega)
  clear hn hr hB hc hcm hL hm hmv hmL hlen hcm2 had1 had2 hr1 hr2 htl hb3 hc3 hx hcr hlr hc1
  go_enter Tryz.func75, Tryz.ntmps75
  go_upto_region 4 with fail
  refine wp_region_mixe (G := KeepB b3) [(0, false), (1, false), (2, false), (3, false), (5, false), (6, false), (7, false), (8, false), (4, true), (9, false), (10, false)]
    (KeepB.refl _) (KeepB.trans _) (by kernel_rfl) rfl (by kernel_rfl) (by kernel_rfl) ?_
  iterate 8 (refine mixe_one rfl rfl ?_; go_big_quiet_step ((intro _; rfl)); refine wpQuiet_nil ?_)
  refine mixe_call rfl ?_
  go_wp2_with (at_builtin; refine wpList_appU8 rfl _ _ rfl w.heap.size (.slice none 0 0) [] rfl (World.ownsRow_nil _ _ _ 1) ad1 m c1 (t.take m) rfl HTL.out.symm _ (HR1.out.below (below_drewS _ _ _) (Nat.le_refl _)) (by have := HTL.out; have := HLB.out; simp; omega) (Nat.le_refl _) ?_)
  intro v4 w4 hO4 hG4 hV4
  have HB4 := Lib.hid (below_rowT (below_drewS w.heap.size w 1) hG4.out (fun b e => (by cases e)) (Nat.le_refl _))
  have HKB := Lib.hid (show KeepB b3 w.drew w4 from hG4.out.block b3 HB3.out (fun e => by cases e))
  go_wp2_with fail
  refine ⟨HKB.out, ?_⟩
  iterate 2 (refine mixe_one rfl rfl ?_; go_big_quiet_step ((intro _; rfl)); refine wpQuiet_nil ?_)
  refine NoPanic.normal ?_
  go_wp2_with fail
  go_ret2
  exact ⟨v4, ad2, rfl, by simpa using hO4.out, HR2.out, HB4.out⟩
end Go.Proofs.YtncpokioagpclaaGreatDoor
