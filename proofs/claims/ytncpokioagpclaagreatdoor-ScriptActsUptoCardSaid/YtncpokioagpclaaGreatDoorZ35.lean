/- Texts of this seat, one behind the other: MacA, TrieF, MacAF, MacBF, MacC, MacD, MacE, MacB, MacF, MacG, MacCF. -/
import Derived.Test.YtncpokioagpclaaGreatDoorZ33
import Derived.Test.YtncpokioagpclaaGreatDoorZ30
import Derived.Test.YtncpokioagpclaaGreatDoorZ4
import Derived.Handy
import Derived.Test.YtncpokioagpclaaGreatDoorZ29
import Derived.Test.YtncpokioagpclaaGreatDoorZ6
namespace Go.Proofs.YtncpokioagpclaaGreatDoor
set_option linter.unusedVariables false
set_option linter.unusedSimpArgs false
set_option linter.unnecessarySimpa false
open Go.RowKit
section
variable {X Y : Nat → Prop} {w w' : World} {B p T : Nat} {rs : List Rl} {R : List Value} {q : List Int} {at_ st : Int} {ah : List Int}
theorem TrieOKO.inb {O : Nat} (h : TrieOKO w B T O rs) : T < B := by
  obtain ⟨_, _, g, _⟩ := h; exact g.inb
end
end Go.Proofs.YtncpokioagpclaaGreatDoor
namespace Go.Proofs.YtncpokioagpclaaGreatDoor
set_option linter.unusedVariables false
set_option linter.unusedSimpArgs false
set_option linter.unnecessarySimpa false
open Go.RowKit
/-- Q holds of each world in which the blocks from L to B are as they are in w -/
def Stab (L B : Nat) (w : World) (Q : World → Prop) : Prop := ∀ w', w.heap.size ≤ w'.heap.size → (∀ b, L ≤ b → b < B → w'.heap[b]? = w.heap[b]?) → Q w'
theorem Stab.self {L B : Nat} {w : World} {Q : World → Prop} (h : Stab L B w Q) : Q w := h w (Nat.le_refl _) fun _ _ _ => rfl
theorem Stab.step {L B : Nat} {w w' : World} {Q : World → Prop} (h : Stab L B w Q) (hs : w.heap.size ≤ w'.heap.size) (hk : ∀ b, L ≤ b → b < B → w'.heap[b]? = w.heap[b]?) : Stab L B w' Q :=
  fun w2 h2 hk2 => h w2 (Nat.le_trans hs h2) fun b h3 h4 => (hk2 b h3 h4).trans (hk b h3 h4)
theorem Stab.below {L B B' : Nat} {w w' : World} {Q : World → Prop} (h : Stab L B w Q) (hb : Below B' w w') (hB : B ≤ B') : Stab L B w' Q := h.step hb.size fun b _ hl => hb.block b (by omega)
theorem Stab.mono {L B L' B' : Nat} {w : World} {Q : World → Prop} (h : Stab L B w Q) (hL : L' ≤ L) (hB : B ≤ B') : Stab L' B' w Q := fun w2 h2 hk => h w2 h2 fun b h3 h4 => hk b (by omega) (by omega)
theorem own_rdS {w w' : World} {base size n : Nat} {e : TypeId} {A : Option Addr} {c : Nat} {xs : List Value} (h : w.ownsRow base e size (.slice A n c) n xs) (hk : ∀ b, base ≤ b → b < w.heap.size → w'.heap[b]? = w.heap[b]?) : Rd w' w.heap.size A xs := by
  rcases h.2 with ⟨h1, h2⟩ | ⟨g, cap, cur, h1, h2, h3, h4⟩
  · left
    have := h.1
    rw [h2, Nat.zero_mul] at this
    exact List.length_eq_zero_iff.1 this
  · injection h1 with e1 e2 e3
    subst e1
    have hg : g < w.heap.size := (Array.getElem?_eq_some_iff.1 h3).1
    rcases Rd.own h with h5 | ⟨b, off, h5, h6, h7⟩
    · exact .inl h5
    · injection h5 with h5
      injection h5 with h5 h8
      subst h5 h8
      exact .inr ⟨g, 0, rfl, hg, fun j hj => (cell_block (hk g h2 hg) _).trans (h7 j hj)⟩
theorem own_usS {w w' : World} {base : Nat} {v : Value} {zs : List Int} (h : OwnI .i64 3 w base v zs) (hk : ∀ b, base ≤ b → b < w.heap.size → w'.heap[b]? = w.heap[b]?) : Us (· < w.heap.size) w' v zs := by
  obtain ⟨A, c, e, h1, h2⟩ := own_form h
  have h' := h
  unfold OwnI at h'
  rw [e] at h'
  exact ⟨A, c, e, h1, h2, (own_rdS h' hk).rdx⟩
theorem OwnTx.stab {base T : Nat} {w : World} {ns : List NodeM} {outs : List (List Int)} {nV oV : Value} {xs ys : List Value} {V : Nat → Value} (h : OwnTx base w T ns outs nV oV xs ys V) : Stab base w.heap.size w (fun w' => TrAtO w' w.heap.size T 0 ns outs) := by
  intro w' hs hk
  obtain ⟨A, c, e1, h1, h2⟩ := own_form h.nodes
  obtain ⟨A', c', e2, h3, h4⟩ := own_form h.orow
  subst e1 e2
  have hT : w'.heap[T]? = w.heap[T]? := hk T h.low h.size
  refine ⟨h.size, A, c, xs, A', c', ys, V, (cell_block hT _).trans h.boxes.1, h1, h2, own_rdS h.nodes hk, h.xlen, (cell_block hT _).trans h.boxes.2.1, h3, h4, own_rdS h.orow hk, by have := h.orow.1; omega, ?_, ?_⟩
  · intro k nd hk2
    obtain ⟨g1, g2, g3, g4, g5⟩ := h.node k nd hk2
    exact ⟨g1, g2, g3, own_usS g4 hk, own_usS g5 hk⟩
  · intro k o hk2
    obtain ⟨y, g1, g2⟩ := h.out k o hk2
    exact ⟨y, g1, g2.step hs fun b hb hx => ⟨hb, hk b hx.1.2 hb⟩⟩
theorem of_okS (n : Nat) (A : Option Addr) (c : Nat) (rs : List Rl) (B : Nat) (w : World) (hr : RsAt w B A n c rs) (hB : B ≤ w.heap.size) (hv : checkR rs = (-1, 0)) :
    Calls Tryz.prog 114 #[.slice A n c] w fun en w' => ∃ T, en = .returned (.tuple #[.pointer (some ⟨T, 0, none⟩), .int .i64 0]) ∧ TrieOK w' w'.heap.size T rs ∧ Stab w.heap.size w'.heap.size w' (fun W => TrieOK W w'.heap.size T rs) ∧ w.heap.size ≤ T ∧ Below w.heap.size w w' := by
  refine (of_good n A c rs B w hr hB hv).mono ?_
  rintro en w' ⟨T, ns, nV, oV, xs, ys, V, rfl, ho, ht, hb⟩
  exact ⟨T, rfl, ⟨good_of hv, ns, ho.at, ht⟩, fun W hs hk => ⟨good_of hv, ns, ho.stab W hs hk, ht⟩, ho.low, hb⟩
set_option maxRecDepth 100000 in
set_option maxHeartbeats 6400000 in
theorem tab_of_okS (n : Nat) (A : Option Addr) (c : Nat) (rs : List Rl) (B : Nat) (w : World) (hr : RsAt w B A n c rs) (hB : B ≤ w.heap.size) (hn : n ≤ 1024) (hv : checkR rs = (-1, 0)) (hcl : closedR rs = true) :
    Calls Tryz.prog 81 #[.slice A n c] w fun e w' => ∃ T, e = .returned (.tuple #[.pointer (some ⟨T, 0, none⟩), .int .i64 0]) ∧ TabAt w' w'.heap.size T rs ∧ Stab w.heap.size w'.heap.size w' (fun W => TabAt W w'.heap.size T rs) ∧ w.heap.size ≤ T ∧ Below w.heap.size w w' := by
  have C1 := Lib.hid (of_okS n A c rs B w hr hB hv)
  have HR := Lib.hid hr
  have HG := Lib.hid (good_of hv)
  have HCT := Lib.hid (turn_check hv)
  have HCL := Lib.hid hcl
  clear hr hv hcl
  go_enter Tryz.func81, Tryz.ntmps81
  go_wp2_with fail
  refine C1.out.mono ?_
  rintro e w1 ⟨R, rfl, hT, hTS, hRlo, hb1⟩
  have HTS1 := Lib.hid hTS
  have HRLO := Lib.hid hRlo
  have HBS1 := Lib.hid hb1.size
  have D1 := Lib.hid (ordered_any R n A c rs w1.heap.size w1 hT (HR.out.below (hb1.mono hB) (Nat.le_trans hB hb1.size)) (Nat.le_refl _) true HCL.out)
  have HT1 := Lib.hid hT
  have HB1 := Lib.hid hb1
  clear hb1 hT hTS hRlo C1
  go_wp2_with fail
  refine D1.out.mono ?_
  rintro e w2 ⟨rfl, hb2⟩
  have HT2 := Lib.hid (HT1.out.below hb2 hb2.size)
  have HTS2 := Lib.hid (HTS1.out.below hb2 (Nat.le_refl _))
  have HS12 := Lib.hid hb2.size
  have HB2 := Lib.hid (HB1.out.trans (hb2.mono HB1.out.size))
  have hb02 := HB2.out
  have T1 := Lib.hid (turn_any n A c rs B w2 (HR.out.below (hb02.mono hB) (Nat.le_refl _)) (Nat.le_trans hB hb02.size) (by omega) (fun r hr => by have := HG.out.side r hr; omega) (turnR rs) rfl)
  clear hb2 hb02 D1 HT1
  go_wp2_with fail
  refine T1.out.mono ?_
  rintro e w3 ⟨v3, rfl, ho3, hb3⟩
  obtain ⟨A3, c3, rfl, hat3⟩ := ho3.form
  obtain ⟨N3, hN3⟩ : ∃ N3, (turnR rs).length = N3 := ⟨_, rfl⟩
  rw [hN3] at hat3 ⊢
  have HAT3 := Lib.hid hat3
  have HT3 := Lib.hid (HT2.out.below hb3 hb3.size)
  have HTS3 := Lib.hid (HTS2.out.below hb3 HS12.out)
  have HS13 := Lib.hid (Nat.le_trans HS12.out hb3.size)
  have HS03 := Lib.hid (Nat.le_trans HB2.out.size hb3.size)
  have HB3 := Lib.hid (HB2.out.trans (hb3.mono HB2.out.size))
  have O2 := Lib.hid (of_okS N3 A3 c3 (turnR rs) w3.heap.size w3 hat3 (Nat.le_refl _) HCT.out)
  clear ho3 hat3 hN3 hb3 T1 HT2
  go_wp2_with fail
  refine O2.out.mono ?_
  rintro e w5 ⟨S, rfl, hS, hSS, hSlo, hb5⟩
  have HSS5 := Lib.hid hSS
  have HSLO := Lib.hid hSlo
  have HTS5 := Lib.hid (HTS3.out.below hb5 HS13.out)
  have HS15 := Lib.hid (Nat.le_trans HS13.out hb5.size)
  have HST := Lib.hid hS
  have HRT := Lib.hid (HT3.out.below hb5 hb5.size)
  have HB5 := Lib.hid (HB3.out.trans (hb5.mono HB3.out.size))
  have HB35 := Lib.hid hb5
  obtain ⟨A1, n1, c1, A2, n2, c2, p0, p1⟩ := HRT.out.cells
  obtain ⟨A4, n4, c4, A5, n5, c5, p2, p3⟩ := HST.out.cells
  have y0 : w5.drew.cell? ⟨R, 0, none⟩ = some (.slice A1 n1 c1) := p0
  have y1 : w5.drew.cell? ⟨R, 1, none⟩ = some (.slice A2 n2 c2) := p1
  have y2 : w5.drew.cell? ⟨S, 0, none⟩ = some (.slice A4 n4 c4) := p2
  have y3 : w5.drew.cell? ⟨S, 1, none⟩ = some (.slice A5 n5 c5) := p3
  have Y0 := Lib.hid y0
  have Y1 := Lib.hid y1
  have Y2 := Lib.hid y2
  have Y3 := Lib.hid y3
  have hRl : R < w5.drew.heap.size := by obtain ⟨_, _, g, _⟩ := HRT.out; exact g.inb
  have hSl : S < w5.drew.heap.size := by obtain ⟨_, _, g, _⟩ := HST.out; exact g.inb
  obtain ⟨x, hx⟩ : ∃ x, longR rs = x := ⟨_, rfl⟩
  obtain ⟨y, hy⟩ : ∃ y, longR (turnR rs) = y := ⟨_, rfl⟩
  have hb05 := HB5.out.drew
  have HD5 := Lib.hid hb05
  have L1 := Lib.hid (longest_any n A c rs B w5.drew (HR.out.below (hb05.mono hB) (Nat.le_refl _)) (Nat.le_trans hB hb05.size) x hx)
  have hb35 := HB35.out.drew
  have HD35 := Lib.hid hb35
  have HX := Lib.hid hx
  have HY := Lib.hid hy
  clear hS hSS hSlo hb5 O2 HT3 p0 p1 p2 p3 y0 y1 y2 y3 hx hy hb05 hb35
  go_wp2_with fail
  refine wp_region_mixe (G := fun w w' => Below w.heap.size w w') [(0, false), (1, false), (2, false), (3, false), (4, false), (5, false), (6, false), (8, false), (7, true), (9, true), (10, false), (11, true), (12, false), (13, false)]
    below_refl below_trans (by kernel_rfl) rfl (by kernel_rfl) (by kernel_rfl) ?_
  iterate 2 (refine mixe_one rfl rfl ?_; go_big_quiet_step ((intro _; rfl)); refine wpQuiet_nil ?_)
  refine mixe_one rfl rfl ?_
  go_big_quiet_step ((intro hh; have e0 := (hh.cell (p := ⟨R, 0, none⟩) hRl).trans Y0.out; have e1 := (hh.cell (p := ⟨R, 1, none⟩) hRl).trans Y1.out; simp only [e0, e1, Result.andThen_ok]; exact ⟨trivial, rfl⟩))
  refine wpQuiet_nil ?_
  iterate 2 (refine mixe_one rfl rfl ?_; go_big_quiet_step ((intro _; rfl)); refine wpQuiet_nil ?_)
  refine mixe_one rfl rfl ?_
  go_big_quiet_step ((intro hh; have e0 := (hh.cell (p := ⟨S, 0, none⟩) hSl).trans Y2.out; have e1 := (hh.cell (p := ⟨S, 1, none⟩) hSl).trans Y3.out; simp only [e0, e1, Result.andThen_ok]; exact ⟨trivial, rfl⟩))
  refine wpQuiet_nil ?_
  iterate 2 (refine mixe_one rfl rfl ?_; go_big_quiet_step ((intro _; rfl)); refine wpQuiet_nil ?_)
  refine mixe_call rfl ?_
  go_wp2_with fail
  refine L1.out.mono ?_
  rintro e w6 ⟨rfl, hb6⟩
  have HB6 := Lib.hid hb6
  have hbr := HD35.out.trans (hb6.mono HD35.out.size)
  have L2 := Lib.hid (longest_any N3 A3 c3 (turnR rs) w3.heap.size w6 (HAT3.out.below hbr (Nat.le_refl _)) hbr.size y HY.out)
  clear hbr L1
  go_wp2_with fail
  refine ⟨HB6.out, ?_⟩
  clear hb6
  refine mixe_call rfl ?_
  go_wp2_with fail
  refine L2.out.mono ?_
  rintro e w7 ⟨rfl, hb7⟩
  have HB7 := Lib.hid hb7
  have HF7 := Lib.hid (HB6.out.trans (hb7.mono HB6.out.size))
  clear L2
  go_wp2_with fail
  refine ⟨HB7.out, ?_⟩
  clear hb7
  iterate 1 (refine mixe_one rfl rfl ?_; go_big_quiet_step ((intro _; rfl)); refine wpQuiet_nil ?_)
  have hF8 : Below w7.heap.size w7 (w7.alloc (.cells #[.slice A1 n1 c1, .slice A2 n2 c2, .slice A4 n4 c4, .slice A5 n5 c5, .int .i64 x, .int .i64 y] 110)) := (Below.refl _ w7).alloc (Nat.le_refl _) _
  have HF8 := Lib.hid hF8
  have HN8 := Lib.hid (Held.new w7 #[.slice A1 n1 c1, .slice A2 n2 c2, .slice A4 n4 c4, .slice A5 n5 c5, .int .i64 x, .int .i64 y] 110)
  clear hF8
  refine mixe_call rfl ?_
  go_wp2_with fail
  refine ⟨HF8.out, ?_⟩
  iterate 2 (refine mixe_one rfl rfl ?_; go_big_quiet_step ((intro _; rfl)); refine wpQuiet_nil ?_)
  refine NoPanic.normal ?_
  go_wp2_with fail
  go_ret2
  have hb58 := HF7.out.trans (HF8.out.mono HF7.out.size)
  have hb5d : Below w5.heap.size w5 (w7.alloc (.cells #[.slice A1 n1 c1, .slice A2 n2 c2, .slice A4 n4 c4, .slice A5 n5 c5, .int .i64 x, .int .i64 y] 110)) := (Below.refl _ w5).drew.trans hb58
  have hcopy : ∀ W : World, (w7.alloc (.cells #[.slice A1 n1 c1, .slice A2 n2 c2, .slice A4 n4 c4, .slice A5 n5 c5, .int .i64 x, .int .i64 y] 110)).heap.size ≤ W.heap.size → (∀ b, w.heap.size ≤ b → b < (w7.alloc (.cells #[.slice A1 n1 c1, .slice A2 n2 c2, .slice A4 n4 c4, .slice A5 n5 c5, .int .i64 x, .int .i64 y] 110)).heap.size → W.heap[b]? = (w7.alloc (.cells #[.slice A1 n1 c1, .slice A2 n2 c2, .slice A4 n4 c4, .slice A5 n5 c5, .int .i64 x, .int .i64 y] 110)).heap[b]?) →
      TabAt W (w7.alloc (.cells #[.slice A1 n1 c1, .slice A2 n2 c2, .slice A4 n4 c4, .slice A5 n5 c5, .int .i64 x, .int .i64 y] 110)).heap.size w7.heap.size rs := by
    intro W hs hk
    have hsz5 := hb5d.size
    have h15 := HS15.out
    have h03 := HS03.out
    have hrlo := HRLO.out
    have hslo := HSLO.out
    have h57 : w5.heap.size ≤ w7.heap.size := by have := HF7.out.size; exact this
    have hkw5 : ∀ b, w.heap.size ≤ b → b < w5.heap.size → W.heap[b]? = w5.heap[b]? := fun b h1 h2 => (hk b h1 (by omega)).trans (hb5d.block b h2)
    have hRT := HTS5.out W (by omega) fun b h1 h2 => hkw5 b h1 (by omega)
    have hST := HSS5.out W (by omega) fun b h1 h2 => hkw5 b (by omega) h2
    have hR1 : R < w5.heap.size := hRl
    have hS1 : S < w5.heap.size := hSl
    have hRb : W.heap[R]? = w5.heap[R]? := hkw5 R hrlo hR1
    have hSb : W.heap[S]? = w5.heap[S]? := hkw5 S (by omega) hS1
    have hNb := hk w7.heap.size (by omega) HN8.out.lt
    refine ⟨HN8.out.lt, ?_, ?_, ?_⟩
    · rw [HX.out, HY.out]
      exact ⟨_, _, _, _, _, _, _, _, _, _, _, _, hNb.trans HN8.out⟩
    · refine hRT.copy (Below.refl _ W) (by omega) HN8.out.lt (fun v hv => ?_) (fun v hv => ?_)
      · rw [cell_block hRb] at hv
        exact ((cell_block hNb 0).trans (HN8.out.cell 0)).trans (Y0.out.symm.trans hv)
      · rw [cell_block hRb] at hv
        exact ((cell_block hNb 1).trans (HN8.out.cell 1)).trans (Y1.out.symm.trans hv)
    · refine hST.copy (Below.refl _ W) (by omega) HN8.out.lt (fun v hv => ?_) (fun v hv => ?_)
      · rw [cell_block hSb] at hv
        exact ((cell_block hNb 2).trans (HN8.out.cell 2)).trans (Y2.out.symm.trans hv)
      · rw [cell_block hSb] at hv
        exact ((cell_block hNb 3).trans (HN8.out.cell 3)).trans (Y3.out.symm.trans hv)
  have hlow : w.heap.size ≤ w7.heap.size := by have h1 := HF7.out.size; have h2 : w.heap.size ≤ w5.heap.size := HB5.out.size; have h3 : w5.heap.size ≤ w7.heap.size := h1; omega
  exact ⟨w7.heap.size, rfl, hcopy _ (Nat.le_refl _) (fun _ _ _ => rfl), hcopy, hlow, HD5.out.trans (hb58.mono HD5.out.size)⟩
set_option maxRecDepth 100000 in
theorem tab_readS (w : World) (L B T : Nat) (rs : List Rl) (h : Stab L B w (fun W => TabAt W B T rs)) (hT : L ≤ T) (hB : B ≤ w.heap.size) (hL : L ≤ w.heap.size) :
    Calls Tryz.prog 79 #[.pointer (some ⟨T, 0, none⟩)] w fun e w' => ∃ R, e = .returned (.pointer (some ⟨R, 0, none⟩)) ∧ Below w.heap.size w w' ∧ w.heap.size ≤ R ∧ Stab L w'.heap.size w' (fun W => TrieOK W w'.heap.size R rs) := by
  have hb : ∀ o, Below w.heap.size w (w.alloc o) := fun o => (Below.refl _ _).alloc (Nat.le_refl _) _
  have hself := h.self
  obtain ⟨A1, n1, c1, A2, n2, c2, A3, n3, c3, A4, n4, c4, h2⟩ := hself.is
  have HST := Lib.hid h
  have g0 := h2.cell 0
  have g1 := h2.cell 1
  have G0 := Lib.hid g0
  have G1 := Lib.hid g1
  have hTB := Lib.hid hself.lt
  have HBL := Lib.hid hb
  have HN := Lib.hid (Held.new w #[.slice A1 n1 c1, .slice A2 n2 c2] 108)
  clear h h2 hb hself
  go_enter Tryz.func79, Tryz.ntmps79
  go_wp2
  go_ret
  refine ⟨w.heap.size, rfl, HBL.out _, Nat.le_refl _, fun W hs hk => ?_⟩
  have hsz : (w.alloc (.cells #[.slice A1 n1 c1, .slice A2 n2 c2] 108)).heap.size = w.heap.size + 1 := by simp
  have hW : ∀ b, L ≤ b → b < B → W.heap[b]? = w.heap[b]? := fun b h1 h2 => (hk b h1 (by omega)).trans ((HBL.out _).block b (by omega))
  have hTW := HST.out W (by omega) hW
  have hTs : W.heap[T]? = w.heap[T]? := hW T hT hTB.out
  have hNs := hk w.heap.size hL (by omega)
  refine hTW.read.copy (Below.refl B W) (by omega) (by omega) (fun v hv => ?_) (fun v hv => ?_)
  · rw [cell_block hTs, G0.out] at hv
    exact ((cell_block hNs 0).trans (HN.out.cell 0)).trans hv
  · rw [cell_block hTs, G1.out] at hv
    exact ((cell_block hNs 1).trans (HN.out.cell 1)).trans hv
theorem mdecode_anyS (w : World) (L B T : Nat) (rs : List Rl) (h : Stab L B w (fun W => TabAt W B T rs)) (hT : L ≤ T) (hB : B ≤ w.heap.size) (hL : L ≤ w.heap.size) :
    Calls Tryz.prog 46 #[.pointer (some ⟨T, 0, none⟩)] w fun e w' => ∃ p R B', e = .returned (.iface 162 (.agg #[.pointer (some ⟨p, 0, none⟩)])) ∧ Stab L B' w' (fun W => TrieOK W B' R rs) ∧ B' ≤ p ∧ w.heap.size ≤ B' ∧ MAt w' p R [] 0 0 ∧ Below w.heap.size w w' := by
  have H := Lib.hid (tab_readS w L B T rs h hT hB hL)
  clear h
  go_enter Tryz.func46, Tryz.ntmps46
  go_wp2_with fail
  refine H.out.mono ?_
  rintro e w1 ⟨R, rfl, hb1, -, hT1⟩
  have HB1 := Lib.hid hb1
  have HT1 := Lib.hid hT1
  clear hb1 hT1 H
  go_wp2_with fail
  refine (mof_any w1 R).mono ?_
  rintro e w2 ⟨p, rfl, hp, hm, hb2⟩
  have HM := Lib.hid hm
  have HB2 := Lib.hid hb2
  clear hm hb2
  go_wp2_with fail
  go_ret
  exact ⟨p, R, w1.heap.size, rfl, HT1.out.below HB2.out (Nat.le_refl _), hp, HB1.out.size, HM.out, HB1.out.trans (HB2.out.mono HB1.out.size)⟩
end Go.Proofs.YtncpokioagpclaaGreatDoor
namespace Go.Proofs.YtncpokioagpclaaGreatDoor
set_option linter.unusedVariables false
set_option linter.unusedSimpArgs false
set_option linter.unnecessarySimpa false
open Go.RowKit
/-- at block p lies an Encoder of the rules: q waits, ah stands ahead; its table lies from block L on -/
structure EAtF (L : Nat) (X : Nat → Prop) (w : World) (B p : Nat) (rs : List Rl) (T : Nat) (R : List Value) (q : List Int) (at_ st : Int) (ah : List Int) : Prop where
  le : B ≤ T
  tlt : T < p
  tab : ∃ T0, (L ≤ T0 ∧ Stab L B w (fun W => TrieOKO W B T0 0 rs ∧ TrieOKO W B T0 2 (turnR rs))) ∧ (∀ v, w.cell? ⟨T0, 0, none⟩ = some v → R[0]? = some v) ∧ (∀ v, w.cell? ⟨T0, 1, none⟩ = some v → R[1]? = some v) ∧ (∀ v, w.cell? ⟨T0, 2, none⟩ = some v → w.cell? ⟨T, 0, none⟩ = some v) ∧ (∀ v, w.cell? ⟨T0, 3, none⟩ = some v → w.cell? ⟨T, 1, none⟩ = some v)
  long : R[4]? = some (.int .i64 (longR rs))
  seven : R.length = 7
  ahead : ∃ A c, R[6]? = some (.slice A ah.length c) ∧ Us X w (.slice A ah.length c) ah
  far : ∀ b, X b → b ≠ p
  small : ah.length ≤ 8
  is : MAtR R 187 w p T q at_ st
section
variable {L : Nat} {X Y : Nat → Prop} {w w' : World} {B p T : Nat} {rs : List Rl} {R : List Value} {q : List Int} {at_ st : Int} {ah : List Int}
theorem EAtF.lt (h : EAtF L X w B p rs T R q at_ st ah) : p < w.heap.size := h.is.lt
theorem EAtF.ple (h : EAtF L X w B p rs T R q at_ st ah) : B ≤ p := by have := h.le; have := h.tlt; omega
theorem EAtF.jo (h : EAtF L X w B p rs T R q at_ st ah) : TabJo w (p + 1) p 12 rs := by
  obtain ⟨T0, ⟨_, hst⟩, h2, h3, _⟩ := h.tab
  have h1 := hst.self.1
  have hle := h.ple
  refine ⟨by omega, (h.is.tail 4).trans h.long, h1.copy (Below.refl _ _) (by omega) (by omega) (fun v hv => ?_) (fun v hv => ?_)⟩
  · exact (h.is.tail 0).trans (h2 v hv)
  · exact (h.is.tail 1).trans (h3 v hv)
theorem EAtF.trie (h : EAtF L X w B p rs T R q at_ st ah) : TrieOK w p T (turnR rs) := by
  obtain ⟨T0, ⟨_, hst⟩, _, _, h2, h3⟩ := h.tab
  have h1 := hst.self.2
  exact h1.copy (Below.refl _ _) h.ple h.tlt h2 h3
theorem EAtF.with {q' : List Int} {a' s' : Int} (h : EAtF L X w B p rs T R q at_ st ah) (hs : w.heap.size ≤ w'.heap.size) (hk : ∀ b, L ≤ b → b < B → w'.heap[b]? = w.heap[b]?) (hTb : w'.heap[T]? = w.heap[T]?) (hX : ∀ b, b < w.heap.size → X b → Y b ∧ w'.heap[b]? = w.heap[b]?) (hY : ∀ b, Y b → b ≠ p) (hm : MAtR R 187 w' p T q' a' s') : EAtF L Y w' B p rs T R q' a' s' ah := by
  obtain ⟨T0, ⟨hl0, hst⟩, h2, h3, h2', h3'⟩ := h.tab
  obtain ⟨A, c, h4, h5⟩ := h.ahead
  have hT := hst.self.1.inb
  have hc0 : ∀ j, w'.cell? ⟨T0, j, none⟩ = w.cell? ⟨T0, j, none⟩ := fun j => cell_block (hk T0 hl0 hT) j
  have hcT : ∀ j, w'.cell? ⟨T, j, none⟩ = w.cell? ⟨T, j, none⟩ := fun j => by simp only [World.cell?, hTb]
  exact ⟨h.le, h.tlt, ⟨T0, ⟨hl0, hst.step hs hk⟩, fun v hv => h2 v ((hc0 0).symm.trans hv), fun v hv => h3 v ((hc0 1).symm.trans hv), fun v hv => (hcT 0).trans (h2' v ((hc0 2).symm.trans hv)), fun v hv => (hcT 1).trans (h3' v ((hc0 3).symm.trans hv))⟩, h.long, h.seven, ⟨A, c, h4, h5.step hs hX⟩, hY, h.small, hm⟩
theorem EAtF.below (h : EAtF L X w B p rs T R q at_ st ah) (hb : Below w.heap.size w w') : EAtF L X w' B p rs T R q at_ st ah :=
  h.with hb.size (fun b _ hl => hb.block b (by have := h.ple; have := h.lt; omega)) (hb.block T (by have := h.tlt; have := h.lt; omega)) (fun b hl hx => ⟨hx, hb.block b hl⟩) h.far (h.is.below hb h.lt)
/-- a row of the call's own is written -/
theorem EAtF.row (h : EAtF L X w B p rs T R q at_ st ah) {g j : Nat} {v : Value} (hg : p < g) (hX : ∀ b, X b → b ≠ g) : EAtF L X (w.setCell ⟨g, j, none⟩ v) B p rs T R q at_ st ah :=
  h.with (by rw [World.size_setCell]; exact Nat.le_refl _) (fun b _ hl => ((Below.refl B w).setCell (p := ⟨g, j, none⟩) (by show B ≤ g; have := h.ple; omega) v).block b hl) (Below.heap_setCell _ _ _ _ (fun e => by have : T = g := e; have := h.tlt; omega)) (fun b hl hx => ⟨hx, Below.heap_setCell _ _ _ _ (hX b hx)⟩) h.far (h.is.of_block (Below.heap_setCell _ _ _ _ (fun e => by have : p = g := e; omega)))
theorem EAtF.setAhead (h : EAtF L X w B p rs T R q at_ st ah) {A : Option Addr} {n c : Nat} {us : List Int} (hn : n = us.length) (hu : Us X w (.slice A n c) us) (h8 : us.length ≤ 8) : EAtF L X (w.setCell ⟨p, 18, none⟩ (.slice A n c)) B p rs T (R.set 6 (.slice A n c)) q at_ st us := by
  subst hn
  obtain ⟨T0, ⟨hl0, hst⟩, h2, h3, h2', h3'⟩ := h.tab
  have hT := hst.self.1.inb
  have h7 := h.seven
  have hle := h.ple
  have htl := h.tlt
  have hb : Below B w (w.setCell ⟨p, 18, none⟩ (.slice A us.length c)) := (Below.refl B w).setCell (p := ⟨p, 18, none⟩) hle _
  have hTb : (w.setCell ⟨p, 18, none⟩ (.slice A us.length c)).heap[T]? = w.heap[T]? := Below.heap_setCell _ _ _ _ (fun e => by have : T = p := e; omega)
  have hcT : ∀ j, (w.setCell ⟨p, 18, none⟩ (.slice A us.length c)).cell? ⟨T, j, none⟩ = w.cell? ⟨T, j, none⟩ := fun j => by simp only [World.cell?, hTb]
  refine ⟨h.le, h.tlt, ⟨T0, ⟨hl0, hst.below hb (Nat.le_refl _)⟩, fun v hv => ?_, fun v hv => ?_, fun v hv => (hcT 0).trans (h2' v ((hb.cell (p := ⟨T0, 2, none⟩) hT).symm.trans hv)), fun v hv => (hcT 1).trans (h3' v ((hb.cell (p := ⟨T0, 3, none⟩) hT).symm.trans hv))⟩, ?_, by rw [List.length_set]; exact h7, ⟨A, c, ?_, hu.step (by simp) fun b hl hx => ⟨hx, Below.heap_setCell _ _ _ _ (h.far b hx)⟩⟩, h.far, h8, h.is.setTail 6 _⟩
  · rw [List.getElem?_set_ne (by omega)]; exact h2 v ((hb.cell (p := ⟨T0, 0, none⟩) hT).symm.trans hv)
  · rw [List.getElem?_set_ne (by omega)]; exact h3 v ((hb.cell (p := ⟨T0, 1, none⟩) hT).symm.trans hv)
  · rw [List.getElem?_set_ne (by omega)]; exact h.long
  · rw [List.getElem?_set_self (by omega)]
theorem EAtF.weak (h : EAtF L X w B p rs T R q at_ st ah) (hX : ∀ b, X b → Y b) (hY : ∀ b, Y b → b ≠ p) : EAtF L Y w B p rs T R q at_ st ah :=
  h.with (Nat.le_refl _) (fun _ _ _ => rfl) rfl (fun b _ hx => ⟨hX b hx, rfl⟩) hY h.is
theorem EAtF.cells (h : EAtF L X w B p rs T R q at_ st ah) : ∃ A c, w.cell? ⟨p, 18, none⟩ = some (.slice A ah.length c) ∧ Us X w (.slice A ah.length c) ah ∧ ∀ o, w.frozen? ⟨p, o, none⟩ = false := by
  obtain ⟨A, c, h4, h5⟩ := h.ahead
  obtain ⟨_, _, _, _, hf, _⟩ := h.is.cells
  exact ⟨A, c, (h.is.tail 6).trans h4, h5, hf⟩
/-- what it looks at stays -/
theorem EAtF.stay (h : EAtF L X w B p rs T R q at_ st ah) (hs : w.heap.size ≤ w'.heap.size) (hk : ∀ b, L ≤ b → b ≤ p → w'.heap[b]? = w.heap[b]?) (hX : ∀ b, b < w.heap.size → X b → w'.heap[b]? = w.heap[b]?) : EAtF L X w' B p rs T R q at_ st ah := by
  have h1 := h.le
  have h2 := h.tlt
  obtain ⟨T0, ⟨hl0, hst⟩, _⟩ := h.tab
  have hT := hst.self.1.inb
  exact h.with hs (fun b h3 h4 => hk b h3 (by omega)) (hk T (by omega) (by omega)) (fun b hl hx => ⟨hx, hX b hl hx⟩) h.far (h.is.of_block (hk p (by omega) (Nat.le_refl _)))
end
end Go.Proofs.YtncpokioagpclaaGreatDoor
namespace Go.Proofs.YtncpokioagpclaaGreatDoor
set_option linter.unusedVariables false
set_option linter.unusedSimpArgs false
set_option linter.unnecessarySimpa false
open Go.RowKit
set_option maxRecDepth 100000 in
set_option maxHeartbeats 3200000 in
theorem mencode_anyF (w : World) (L B T : Nat) (rs : List Rl) (hS : Stab L B w (fun W => TabAt W B T rs)) (hLT : L ≤ T) (hB : B ≤ w.heap.size) :
    Calls Tryz.prog 62 #[.pointer (some ⟨T, 0, none⟩)] w fun e w' => ∃ p T' R, e = .returned (.pointer (some ⟨p, 0, none⟩)) ∧ w.heap.size ≤ T' ∧ (∀ X : Nat → Prop, (∀ b, X b → b ≠ p) → EAtF L X w' B p rs T' R [] 0 0 []) ∧ Below w.heap.size w w' := by
  have h := hS.self
  have hd := h.below (Below.refl B w).drew (Nat.le_refl _)
  have HSS := Lib.hid hS
  clear hS
  have HW := Lib.hid (tab_writeX w.drew B T rs hd hB)
  obtain ⟨A1, n1, c1, A2, n2, c2, A3, n3, c3, A4, n4, c4, h2⟩ := hd.is
  obtain ⟨x, hx⟩ : ∃ x, longR rs = x := ⟨_, rfl⟩
  obtain ⟨y, hy⟩ : ∃ y, longR (turnR rs) = y := ⟨_, rfl⟩
  rw [hx, hy] at h2
  have HX := Lib.hid hx
  have HQ := Lib.hid h2
  have HR := Lib.hid hd.read
  have HRW := Lib.hid hd.write
  have hTl : T < w.drew.heap.size := Nat.lt_of_lt_of_le h.lt hB
  have Y0 : Hid (w.drew.cell? ⟨T, 0, none⟩ = some (.slice A1 n1 c1)) := HQ.out.cell 0
  have Y1 : Hid (w.drew.cell? ⟨T, 1, none⟩ = some (.slice A2 n2 c2)) := HQ.out.cell 1
  have Y2 : Hid (w.drew.cell? ⟨T, 2, none⟩ = some (.slice A3 n3 c3)) := HQ.out.cell 2
  have Y3 : Hid (w.drew.cell? ⟨T, 3, none⟩ = some (.slice A4 n4 c4)) := HQ.out.cell 3
  have Y4 : Hid (w.drew.cell? ⟨T, 4, none⟩ = some (.int .i64 x)) := HQ.out.cell 4
  have Y5 : Hid (w.drew.cell? ⟨T, 5, none⟩ = some (.int .i64 y)) := HQ.out.cell 5
  clear hd h h2 hx hy
  go_enter Tryz.func62, Tryz.ntmps62
  go_wp2
  refine wp_region_mixe (G := fun w w' => Below w.heap.size w w') [(0, false), (5, false), (6, false), (7, false), (1, true), (2, true), (3, false), (4, false), (8, false), (9, true), (10, false)]
    below_refl below_trans (by kernel_rfl) rfl (by kernel_rfl) (by kernel_rfl) ?_
  iterate 3 (refine mixe_one rfl rfl ?_; go_big_quiet_step ((intro _; rfl)); refine wpQuiet_nil ?_)
  refine mixe_one rfl rfl ?_
  go_big_quiet_step ((intro hh; have e0 := (hh.cell (p := ⟨T, 0, none⟩) hTl).trans Y0.out; have e1 := (hh.cell (p := ⟨T, 1, none⟩) hTl).trans Y1.out; have e2 := (hh.cell (p := ⟨T, 2, none⟩) hTl).trans Y2.out; have e3 := (hh.cell (p := ⟨T, 3, none⟩) hTl).trans Y3.out; have e4 := (hh.cell (p := ⟨T, 4, none⟩) hTl).trans Y4.out; have e5 := (hh.cell (p := ⟨T, 5, none⟩) hTl).trans Y5.out; simp only [e0, e1, e2, e3, e4, e5, Result.andThen_ok]; exact ⟨trivial, rfl⟩))
  refine wpQuiet_nil ?_
  refine mixe_call rfl ?_
  go_wp2_with fail
  refine HW.out.mono ?_
  rintro e w1 ⟨T', rfl, hb1, hT1, hle1, hc0, hc1⟩
  have HC0 := Lib.hid hc0
  have HC1 := Lib.hid hc1
  have htl1 : T' < w1.heap.size := TrieOKO.inb hT1
  have HB1 := Lib.hid hb1
  have HT1 := Lib.hid hT1
  clear hT1 HW hc0 hc1
  go_wp2_with fail
  refine ⟨HB1.out, ?_⟩
  clear hb1
  refine mixe_call rfl ?_
  go_wp2_with fail
  refine (mof_any w1 T').mono ?_
  rintro e w2 ⟨p1, rfl, hp1, hm, hb2⟩
  have HB2 := Lib.hid hb2
  have hlt2 := hm.lt
  obtain ⟨xs, hx8, hblk, -⟩ := hm
  match xs, hx8 with
  | [x0, x1, x2, x3, x4, x5, x6, x7], _ =>
  have HM : Hid (Held w2 p1 #[.pointer (some ⟨T', 0, none⟩), .int .i64 x0, .int .i64 x1, .int .i64 x2, .int .i64 x3, .int .i64 x4, .int .i64 x5, .int .i64 x6, .int .i64 x7, .int .i64 0, .int .i64 0, .int .i64 0] 185) := hblk
  have Z0 : Hid (w2.cell? ⟨p1, 0, none⟩ = some (.pointer (some ⟨T', 0, none⟩))) := HM.out.cell 0
  have Z1 : Hid (w2.cell? ⟨p1, 1, none⟩ = some (.int .i64 x0)) := HM.out.cell 1
  have Z2 : Hid (w2.cell? ⟨p1, 2, none⟩ = some (.int .i64 x1)) := HM.out.cell 2
  have Z3 : Hid (w2.cell? ⟨p1, 3, none⟩ = some (.int .i64 x2)) := HM.out.cell 3
  have Z4 : Hid (w2.cell? ⟨p1, 4, none⟩ = some (.int .i64 x3)) := HM.out.cell 4
  have Z5 : Hid (w2.cell? ⟨p1, 5, none⟩ = some (.int .i64 x4)) := HM.out.cell 5
  have Z6 : Hid (w2.cell? ⟨p1, 6, none⟩ = some (.int .i64 x5)) := HM.out.cell 6
  have Z7 : Hid (w2.cell? ⟨p1, 7, none⟩ = some (.int .i64 x6)) := HM.out.cell 7
  have Z8 : Hid (w2.cell? ⟨p1, 8, none⟩ = some (.int .i64 x7)) := HM.out.cell 8
  have Z9 : Hid (w2.cell? ⟨p1, 9, none⟩ = some (.int .i64 0)) := HM.out.cell 9
  have Z10 : Hid (w2.cell? ⟨p1, 10, none⟩ = some (.int .i64 0)) := HM.out.cell 10
  have Z11 : Hid (w2.cell? ⟨p1, 11, none⟩ = some (.int .i64 0)) := HM.out.cell 11
  clear hblk
  go_wp2_with fail
  refine ⟨HB2.out, ?_⟩
  clear hb2
  refine mixe_one rfl rfl ?_
  go_big_quiet_step ((intro _; rfl))
  refine wpQuiet_nil ?_
  refine mixe_one rfl rfl ?_
  go_big_quiet_step ((intro hh; have e0 := (hh.cell (p := ⟨p1, 0, none⟩) hlt2).trans Z0.out; have e1 := (hh.cell (p := ⟨p1, 1, none⟩) hlt2).trans Z1.out; have e2 := (hh.cell (p := ⟨p1, 2, none⟩) hlt2).trans Z2.out; have e3 := (hh.cell (p := ⟨p1, 3, none⟩) hlt2).trans Z3.out; have e4 := (hh.cell (p := ⟨p1, 4, none⟩) hlt2).trans Z4.out; have e5 := (hh.cell (p := ⟨p1, 5, none⟩) hlt2).trans Z5.out; have e6 := (hh.cell (p := ⟨p1, 6, none⟩) hlt2).trans Z6.out; have e7 := (hh.cell (p := ⟨p1, 7, none⟩) hlt2).trans Z7.out; have e8 := (hh.cell (p := ⟨p1, 8, none⟩) hlt2).trans Z8.out; have e9 := (hh.cell (p := ⟨p1, 9, none⟩) hlt2).trans Z9.out; have e10 := (hh.cell (p := ⟨p1, 10, none⟩) hlt2).trans Z10.out; have e11 := (hh.cell (p := ⟨p1, 11, none⟩) hlt2).trans Z11.out; simp only [e0, e1, e2, e3, e4, e5, e6, e7, e8, e9, e10, e11, Result.andThen_ok]; exact ⟨trivial, rfl⟩))
  refine wpQuiet_nil ?_
  refine mixe_one rfl rfl ?_
  go_big_quiet_step ((intro _; rfl))
  refine wpQuiet_nil ?_
  obtain ⟨cs, hcs⟩ : ∃ cs : Array Value, cs = #[.pointer (some ⟨T', 0, none⟩), .int .i64 x0, .int .i64 x1, .int .i64 x2, .int .i64 x3, .int .i64 x4, .int .i64 x5, .int .i64 x6, .int .i64 x7, .int .i64 0, .int .i64 0, .int .i64 0, .slice A1 n1 c1, .slice A2 n2 c2, .slice A3 n3 c3, .slice A4 n4 c4, .int .i64 x, .int .i64 y, .slice none 0 0] := ⟨_, rfl⟩
  have HCS := Lib.hid hcs
  have HF8 := Lib.hid (show Below w2.heap.size w2 (w2.alloc (.cells cs 187)) from (Below.refl _ w2).alloc (Nat.le_refl _) _)
  have HN8 := Lib.hid (Held.new w2 cs 187)
  clear hcs
  refine mixe_call rfl ?_
  go_wp2_with fail
  refine ⟨(Below.refl _ w2).alloc (Nat.le_refl _) _, ?_⟩
  refine mixe_one rfl rfl ?_
  go_big_quiet_step ((intro _; rfl))
  refine wpQuiet_nil ?_
  refine NoPanic.normal ?_
  go_wp2_with fail
  go_ret
  have hcs := HCS.out
  have hF := HF8.out
  have hN := HN8.out
  subst hcs
  have hs2 := HB2.out.size
  have hs1 := HB1.out.size
  have hb1F : Below w1.heap.size w1 (w2.alloc (.cells #[.pointer (some ⟨T', 0, none⟩), .int .i64 x0, .int .i64 x1, .int .i64 x2, .int .i64 x3, .int .i64 x4, .int .i64 x5, .int .i64 x6, .int .i64 x7, .int .i64 0, .int .i64 0, .int .i64 0, .slice A1 n1 c1, .slice A2 n2 c2, .slice A3 n3 c3, .slice A4 n4 c4, .int .i64 x, .int .i64 y, .slice none 0 0] 187)) := HB2.out.trans (hF.mono hs2)
  have hb0F := HB1.out.trans (hb1F.mono hs1)
  refine ⟨w2.heap.size, T', [.slice A1 n1 c1, .slice A2 n2 c2, .slice A3 n3 c3, .slice A4 n4 c4, .int .i64 x, .int .i64 y, .slice none 0 0], rfl, hle1, fun X hX => ⟨Nat.le_trans hB hle1, by omega, ⟨T, ⟨hLT, fun W h1 h2 => (fun t => ⟨t.read, t.write⟩) ((HSS.out.below ((Below.refl B w).drew.trans (hb0F.mono hB)) (Nat.le_refl _)) W h1 h2)⟩, fun v hv => ?_, fun v hv => ?_, fun v hv => ?_, fun v hv => ?_⟩, by rw [HX.out]; rfl, rfl, ⟨none, 0, rfl, us_nil _ _⟩, hX, by simp, ⟨[x0, x1, x2, x3, x4, x5, x6, x7], rfl, hN, rfl⟩⟩, (Below.refl _ w).drew.trans hb0F⟩
  · have := (hb0F.cell (p := ⟨T, 0, none⟩) hTl).trans Y0.out
    rw [hv] at this; exact this.symm ▸ rfl
  · have := (hb0F.cell (p := ⟨T, 1, none⟩) hTl).trans Y1.out
    rw [hv] at this; exact this.symm ▸ rfl
  · exact (hb1F.cell (p := ⟨T', 0, none⟩) htl1).trans (HC0.out v ((hb0F.cell (p := ⟨T, 2, none⟩) hTl).symm.trans hv))
  · exact (hb1F.cell (p := ⟨T', 1, none⟩) htl1).trans (HC1.out v ((hb0F.cell (p := ⟨T, 3, none⟩) hTl).symm.trans hv))
end Go.Proofs.YtncpokioagpclaaGreatDoor
namespace Go.Proofs.YtncpokioagpclaaGreatDoor
set_option linter.unusedVariables false
set_option linter.unusedSimpArgs false
set_option linter.unnecessarySimpa false
open Go.RowKit
/-- a token written in place -/
theorem OwnTkB.setTok {base g n c : Nat} {w : World} {ts : List Tk} (h : OwnTkB base w (.slice (some ⟨g, 0, none⟩) n c) ts) {k : Nat} (hk : k < ts.length) (p z e : Int) {o : Value} {u : List Int} (hu : Us (fun b => (Value.slice (some ⟨g, 0, none⟩) n c).ownBlock ≠ some b ∧ base ≤ b) w o u) :
    OwnTkB base ((((w.setCell ⟨g, k * 4, none⟩ (.int .i64 p)).setCell ⟨g, k * 4 + 1, none⟩ (.int .i64 z)).setCell ⟨g, k * 4 + 2, none⟩ o).setCell ⟨g, k * 4 + 3, none⟩ (.int .i64 e)) (.slice (some ⟨g, 0, none⟩) n c) (ts.set k ⟨p, z, u, e⟩) ∧ base ≤ g := by
  obtain ⟨xs, ho, hx⟩ := h
  obtain ⟨A', c', e', h1, h2⟩ := own_form ho
  injection e' with e1 e2 e3
  subst e2
  have s1 := (ho.stored (k * 4) (.int .i64 p)).1
  have s2 := (s1.stored (k * 4 + 1) (.int .i64 z)).1
  have s3 := (s2.stored (k * 4 + 2) o).1
  have s4 := (s3.stored (k * 4 + 3) (.int .i64 e)).1
  have hst : ∀ {w' w2 : World} {j : Nat} {x : Value}, w2 = w'.setCell ⟨g, j, none⟩ x → w'.heap.size ≤ w2.heap.size ∧ ∀ b, b < w'.heap.size → ((Value.slice (some ⟨g, 0, none⟩) ts.length c).ownBlock ≠ some b ∧ base ≤ b) → ((Value.slice (some ⟨g, 0, none⟩) ts.length c).ownBlock ≠ some b ∧ base ≤ b) ∧ w2.heap[b]? = w'.heap[b]? := by
    rintro w' w2 j x rfl
    exact ⟨by rw [World.size_setCell]; exact Nat.le_refl _, fun b hb hx => ⟨hx, Below.heap_setCell _ _ _ _ (fun e => hx.1 (by show some g = some b; rw [e]))⟩⟩
  obtain ⟨a1, b1⟩ := hst (w' := w) (j := k * 4) (x := .int .i64 p) rfl
  obtain ⟨a2, b2⟩ := hst (w' := w.setCell ⟨g, k * 4, none⟩ (.int .i64 p)) (j := k * 4 + 1) (x := .int .i64 z) rfl
  obtain ⟨a3, b3⟩ := hst (w' := (w.setCell ⟨g, k * 4, none⟩ (.int .i64 p)).setCell ⟨g, k * 4 + 1, none⟩ (.int .i64 z)) (j := k * 4 + 2) (x := o) rfl
  obtain ⟨a4, b4⟩ := hst (w' := ((w.setCell ⟨g, k * 4, none⟩ (.int .i64 p)).setCell ⟨g, k * 4 + 1, none⟩ (.int .i64 z)).setCell ⟨g, k * 4 + 2, none⟩ o) (j := k * 4 + 3) (x := .int .i64 e) rfl
  refine ⟨⟨_, by rw [List.length_set]; exact s4, ?_⟩, (ho.lt g rfl).1⟩
  exact ((((hx.step a1 b1).step a2 b2).step a3 b3).step a4 b4).setTok ((((hu.step a1 b1).step a2 b2).step a3 b3).step a4 b4) k hk
theorem OwnTkB.cellsAt {base g n c : Nat} {w : World} {ts : List Tk} (h : OwnTkB base w (.slice (some ⟨g, 0, none⟩) n c) ts) {k : Nat} (hk : k < ts.length) :
    ∃ A1 n1 c1, w.cell? ⟨g, k * 4, none⟩ = some (.int .i64 ts[k].pos) ∧ w.cell? ⟨g, k * 4 + 1, none⟩ = some (.int .i64 ts[k].size) ∧ w.cell? ⟨g, k * 4 + 2, none⟩ = some (.slice A1 n1 c1) ∧ w.cell? ⟨g, k * 4 + 3, none⟩ = some (.int .i64 ts[k].err) ∧
      n1 = ts[k].out.length ∧ Us (fun b => (Value.slice (some ⟨g, 0, none⟩) n c).ownBlock ≠ some b ∧ base ≤ b) w (.slice A1 n1 c1) ts[k].out ∧ ∀ j, w.frozen? ⟨g, j, none⟩ = false := by
  obtain ⟨xs, ho, hx⟩ := h
  obtain ⟨A', c', e', h1, h2⟩ := own_form ho
  injection e' with e1 e2 e3
  subst e2
  have hlen := Tks.length hx
  obtain ⟨s, g1, g2, g3, g4, hu⟩ := hx.at k hk
  have hu' := hu
  obtain ⟨A1, c1, rfl, e2, e3', e4⟩ := hu
  exact ⟨A1, _, c1, (ho.cellAt _ (by omega)).trans g1, (ho.cellAt _ (by omega)).trans g2, (ho.cellAt _ (by omega)).trans g3, (ho.cellAt _ (by omega)).trans g4, rfl, hu', fun j => ho.frozenAt _⟩
theorem grown_at {w0 w : World} {p g j : Nat} {v : Value} (h : w0.grownBy w (some p)) (hg : w0.heap.size ≤ g) : w0.grownBy (w.setCell ⟨g, j, none⟩ v) (some p) :=
  ⟨h.os, h.tape, h.output, by rw [World.size_setCell]; exact h.size, fun k hk hr => (Below.heap_setCell _ _ _ _ (fun e => by have : k = g := e; omega)).trans (h.block k hk hr)⟩
end Go.Proofs.YtncpokioagpclaaGreatDoor
namespace Go.Proofs.YtncpokioagpclaaGreatDoor
set_option linter.unusedVariables false
set_option linter.unusedSimpArgs false
set_option linter.unnecessarySimpa false
open Go.RowKit
theorem Good.drain_small {rs : List Rl} (hg : Good rs) {us rest : List Int} {a : Int} {ts : List Tk} {k : Nat} (hd : drain rs a us = (ts, rest, k)) : (∀ t ∈ ts, t.out.length ≤ 8) ∧ ts.length ≤ us.length := by
  have hd' := hg.drained us a
  rw [hd] at hd'
  obtain ⟨_, ha, _, hc, _⟩ := hd'
  have h1 := ha []
  refine ⟨fun t ht => (hg.rew_tk (us ++ []) a t (by rw [h1]; exact List.mem_append.2 (.inl ht))).len, ?_⟩
  simp only at hc
  omega
end Go.Proofs.YtncpokioagpclaaGreatDoor
namespace Go.Proofs.YtncpokioagpclaaGreatDoor
set_option linter.unusedVariables false
set_option linter.unusedSimpArgs false
set_option linter.unnecessarySimpa false
open Go.RowKit
end Go.Proofs.YtncpokioagpclaaGreatDoor
namespace Go.Proofs.YtncpokioagpclaaGreatDoor
set_option linter.unusedVariables false
set_option linter.unusedSimpArgs false
set_option linter.unnecessarySimpa false
open Go.RowKit
end Go.Proofs.YtncpokioagpclaaGreatDoor
namespace Go.Proofs.YtncpokioagpclaaGreatDoor
set_option linter.unusedVariables false
set_option linter.unusedSimpArgs false
set_option linter.unnecessarySimpa false
open Go.RowKit
end Go.Proofs.YtncpokioagpclaaGreatDoor
namespace Go.Proofs.YtncpokioagpclaaGreatDoor
set_option linter.unusedVariables false
set_option linter.unusedSimpArgs false
set_option linter.unnecessarySimpa false
open Go.RowKit

end Go.Proofs.YtncpokioagpclaaGreatDoor
namespace Go.Proofs.YtncpokioagpclaaGreatDoor
set_option linter.unusedVariables false
set_option linter.unusedSimpArgs false
set_option linter.unnecessarySimpa false
open Go.RowKit
set_option maxRecDepth 100000 in
set_option maxHeartbeats 6400000 in
theorem ejoin_anyF (L : Nat) (X0 : Nat → Prop) (w0 w : World) (B p : Nat) (rs : List Rl) (T : Nat) (R : List Value) (q : List Int) (a s : Int) (ah : List Int) (A : Option Addr) (N c : Nat) (tk : List Tk) (h : EAtF L (fun b => X0 b ∧ (Value.slice A N c).ownBlock ≠ some b) w B p rs T R q a s ah)
    (hg : w0.grownBy w (some p)) (hp : p < w0.heap.size) (hN : tk.length = N) (hN9 : N ≤ 1048576) (ho : OwnTkB w0.heap.size w (.slice A N c) tk) (h8 : ∀ t ∈ tk, t.out.length ≤ 8) (hX0 : ∀ b, w.heap.size ≤ b → X0 b) (hXp : ∀ b, X0 b → b ≠ p) :
    Calls Tryz.prog 227 #[.pointer (some ⟨p, 0, none⟩), .slice A N c] w fun e w' => e = .returned (.slice A N c) ∧ OwnTkB w0.heap.size w' (.slice A N c) (encF rs ah tk) ∧ (∃ R', EAtF L (fun b => X0 b ∧ (Value.slice A N c).ownBlock ≠ some b) w' B p rs T R' q a s (aheadF ah (encF rs ah tk))) ∧ w0.grownBy w' (some p) := by
  obtain ⟨S, hS⟩ : ∃ S, w0.heap.size = S := ⟨_, rfl⟩
  rw [hS] at ho hp ⊢
  have HA := Lib.hid h
  have HG := Lib.hid hg
  have HN := Lib.hid hN
  have HO := Lib.hid ho
  have H8 := Lib.hid h8
  have HS := Lib.hid hS
  have ha8 := h.small
  have HA8 := Lib.hid ha8
  have HX0 := Lib.hid hX0
  have HXP := Lib.hid hXp
  clear h hg hN ho h8 hS ha8 hX0 hXp
  go_enter Tryz.func227, Tryz.ntmps227
  go_wp2
  go_loopw [9] (fun i wr => ∃ (K : Nat) (R' : List Value), K ≤ N ∧ i = .int .i64 K ∧ Hid (OwnTkB S wr (.slice A N c) (mixF rs ah tk K)) ∧ Hid (EAtF L (fun b => X0 b ∧ (Value.slice A N c).ownBlock ≠ some b) wr B p rs T R' q a s (ahF rs ah tk K)) ∧ Hid (w0.grownBy wr (some p)) ∧ w.heap.size ≤ wr.heap.size) (fun i _ => N - (intOf i).toNat)
  case atStart => exact ⟨0, R, by omega, rfl, by rw [mixF_zero]; exact HO, by rw [ahF_zero]; exact HA, HG, Nat.le_refl _⟩
  case round =>
    obtain ⟨K, R1, hK, rfl, ho, ha, hg, hwr⟩ := hrel
    by_cases hKn : K = N
    · have hK' : ¬ K < N := by omega
      have HE := Lib.hid (show mixF rs ah tk K = encF rs ah tk from mixF_all (by rw [HN.out]; omega))
      have HE2 := Lib.hid (show ahF rs ah tk K = aheadF ah (encF rs ah tk) from ahF_all (by rw [HN.out]; omega))
      clear hKn
      go_wp2
      go_ret
      exact ⟨rfl, by rw [← HE.out]; exact ho.out, ⟨R1, by rw [← HE2.out]; exact ha.out⟩, hg.out⟩
    have hK' : K < N := by omega
    have hK1 : K < tk.length := by rw [HN.out]; exact hK'
    have k3 : (0 : Int) ≤ K := by omega
    have k4 : (K : Int) < N := by omega
    obtain ⟨g, cg, hgv⟩ : ∃ g c', Value.slice A N c = .slice (some ⟨g, 0, none⟩) N c' := by
      obtain ⟨xs, hown, _⟩ := ho.out
      rcases hown.2 with ⟨_, h2⟩ | ⟨g, cap, cur, h1, _⟩
      · rw [mixF_len, HN.out] at h2; omega
      · rw [mixF_len, HN.out] at h1
        exact ⟨g, cap, h1⟩
    obtain ⟨rfl, rfl⟩ : A = some ⟨g, 0, none⟩ ∧ c = cg := by injection hgv with a b c; exact ⟨a, c⟩
    clear hgv HO HA
    obtain ⟨A3, n3, c3, q0, q1, q2, q3, hn3, hu3, hfr⟩ := ho.out.cellsAt (k := K) (by rw [mixF_len]; exact hK1)
    rw [mixF_at hK1] at q0 q1 q3 hn3 hu3
    have hsm := ahF_small (rs := rs) HA8.out H8.out K (by rw [HN.out]; omega)
    have hs3 := H8.out _ (List.getElem_mem hK1)
    have hmn := mixF_next (rs := rs) (a := ah) hK1
    have han := ahF_next (rs := rs) (a := ah) hK1
    have hml := mixF_len rs ah tk K
    obtain ⟨t, ht⟩ : ∃ t, tk[K] = t := ⟨_, rfl⟩
    rw [ht] at q0 q1 q3 hn3 hu3 hs3 hmn han
    have HT := Lib.hid ht
    obtain ⟨tp, tz, u, te⟩ := t
    simp only at q0 q1 q3 hn3 hu3 hs3
    have HMN := Lib.hid hmn
    have HAN := Lib.hid han
    have HML := Lib.hid hml
    obtain ⟨a1, ha1⟩ : ∃ a1, ahF rs ah tk K = a1 := ⟨_, rfl⟩
    obtain ⟨mx, hmx⟩ : ∃ mx, mixF rs ah tk K = mx := ⟨_, rfl⟩
    rw [ha1] at ha hsm HMN HAN
    rw [hmx] at ho HMN HML
    have hgl : S ≤ g ∧ g < wr.heap.size := by
      obtain ⟨xs, hown, _⟩ := ho.out
      exact hown.lt g rfl
    obtain ⟨hSg, hgw⟩ := hgl
    have hpw := ha.out.lt
    have hgS := hg.out.size
    rw [HS.out] at hgS
    obtain ⟨X, hX⟩ : ∃ X, wr.heap.size = X := ⟨_, rfl⟩
    obtain ⟨W1, hW1⟩ : ∃ W1, wr.alloc (.cells #[.int .i64 tp, .int .i64 tz, .slice A3 n3 c3, .int .i64 te] 51) = W1 := ⟨_, rfl⟩
    have hb1 : Below wr.heap.size wr W1 := by rw [← hW1]; exact (Below.refl _ wr).alloc (Nat.le_refl _) _
    have hx1 : Held W1 X #[.int .i64 tp, .int .i64 tz, .slice A3 n3 c3, .int .i64 te] 51 := by rw [← hW1, ← hX]; exact Held.new wr _ _
    have HB1 := Lib.hid hb1
    have HX1 := Lib.hid hx1
    have HXE := Lib.hid hX
    have HW1 := Lib.hid hW1
    have HOr := Lib.hid ho.out
    have HUr := Lib.hid hu3
    have HAr := Lib.hid ha.out
    have HGr := Lib.hid hg.out
    have HN3 := Lib.hid hn3
    clear ho ha hg hb1 hx1 hn3 hmn han hml ha1 hmx ht hfr hKn hu3 hX hW1
    go_upto_region 4 with fail
    rw [HW1.out, HXE.out]
    have hXw : wr.heap.size = X := HXE.out
    have hs1 := HB1.out.size
    have hXl := HX1.out.lt
    have HA1 := Lib.hid (HAr.out.below HB1.out)
    obtain ⟨Aa, ca, cah, hua, hfp⟩ := HA1.out.cells
    have D18 := Lib.hid cah
    have hx0 : W1.drew.cell? ⟨X, 0, none⟩ = some (.int .i64 tp) := HX1.out.cell 0
    have hx1 : W1.drew.cell? ⟨X, 1, none⟩ = some (.int .i64 tz) := HX1.out.cell 1
    have hx2 : W1.drew.cell? ⟨X, 2, none⟩ = some (.slice A3 n3 c3) := HX1.out.cell 2
    have hx3 : W1.drew.cell? ⟨X, 3, none⟩ = some (.int .i64 te) := HX1.out.cell 3
    obtain ⟨na, hna⟩ : ∃ na, a1.length = na := ⟨_, rfl⟩
    rw [hna] at hsm hua D18
    have hu3 := HUr.out.step hs1 (fun b hb hx => ⟨hx, HB1.out.block b hb⟩)
    obtain ⟨Ua, ca', ea, ga1, ga2, ga3⟩ := hua
    obtain ⟨Uu, cu', eu, gu1, gu2, gu3⟩ := hu3
    obtain ⟨rfl, rfl⟩ : Aa = Ua ∧ ca = ca' := by injection ea with a b c; exact ⟨a, c⟩
    obtain ⟨rfl, rfl⟩ : A3 = Uu ∧ c3 = cu' := by injection eu with a b c; exact ⟨a, c⟩
    have hd1 : Below W1.heap.size W1 W1.drew := (Below.refl _ _).drew
    have J1 := Lib.hid (tab_joinXO W1.drew (p + 1) p 12 rs (HA1.out.jo.below (hd1.mono (by omega)) (Nat.le_refl _)) (by show p + 1 ≤ W1.heap.size; omega)
      na Aa ca a1 W1.heap.size hna.symm (Rd.below (ga3.rd (Nat.le_refl _)) hd1 (Nat.le_refl _)) hd1.size (by rw [← hna]; exact ga1) ga2 (by omega) n3 A3 c3 u W1.heap.size HN3.out (Rd.below (gu3.rd (Nat.le_refl _)) hd1 (Nat.le_refl _)) hd1.size (by rw [HN3.out]; exact gu1) gu2 (by have := HN3.out; omega) tp tz te)
    have HNA := Lib.hid hna
    clear hna ea eu ga1 ga2 ga3 gu1 gu2 gu3 cah hfp q0 q1 q2 q3 hd1 hsm hs3
    refine wp_region_mixe (G := SameB p) [(0, false), (1, false), (2, false), (3, false), (4, false), (5, false), (6, false), (7, true), (8, true), (9, true)]
      (SameB.refl _) (SameB.trans _) (by kernel_rfl) rfl (by kernel_rfl) (by kernel_rfl) ?_
    iterate 6 (refine mixe_one rfl rfl ?_; go_big_quiet_step ((intro _; rfl)); refine wpQuiet_nil ?_)
    refine mixe_one rfl rfl ?_
    go_big_quiet_step ((intro hh; rw [hh.cell, World.cell?_drew, D18.out]; exact ⟨rfl, rfl⟩))
    refine wpQuiet_nil ?_
    refine mixe_call rfl ?_
    go_wp2_with fail
    refine ⟨SameB.refl _ _, ?_⟩
    refine mixe_call rfl ?_
    go_wp2_with fail
    refine J1.out.mono ?_
    rintro e' w9 ⟨hres, hb9⟩
    have HBd := Lib.hid ((Below.refl W1.heap.size W1).drew.trans hb9)
    have HB9 := Lib.hid (HB1.out.trans (HBd.out.mono hs1))
    have hX9 : Held w9 X #[.int .i64 tp, .int .i64 tz, .slice A3 n3 c3, .int .i64 te] 51 := HX1.out.below HBd.out hXl
    obtain ⟨A6, n6, c6, u6, d6, he', hJ6, hn6, hu6⟩ : ∃ A6 n6 c6 u6 d6, e' = .returned (.agg #[.int .i64 tp, .int .i64 tz, .slice A6 n6 c6, .int .i64 d6]) ∧ joinT rs a1 ⟨tp, tz, u, te⟩ = ⟨tp, tz, u6, d6⟩ ∧ n6 = u6.length ∧ ∀ W, Below wr.heap.size wr W → Us (fun b => (Value.slice (some ⟨g, 0, none⟩) N c).ownBlock ≠ some b ∧ S ≤ b) W (.slice A6 n6 c6) u6 := by
      rcases hres with ⟨h1, h2, rfl⟩ | ⟨h1, rfl⟩
      · exact ⟨none, 0, 0, [], 3, rfl, by subst h1; exact joinT_yes rfl h2, rfl, fun W _ => us_nil _ _⟩
      · exact ⟨A3, n3, c3, u, te, rfl, by unfold joinT; exact if_neg h1, HN3.out, fun W hW => HUr.out.step hW.size fun b hb hx => ⟨hx, hW.block b hb⟩⟩
    subst he'
    have HJ6 := Lib.hid hJ6
    have HN6 := Lib.hid hn6
    have HU6 := Lib.hid hu6
    have hX9' : w9.heap[X]? = some (.cells #[.int .i64 tp, .int .i64 tz, .slice A3 n3 c3, .int .i64 te] 51 (0, 0)) := hX9
    have hsp : SameB p W1.drew w9 := SameB.of hb9 (by show p < W1.heap.size; omega)
    have HSP := Lib.hid hsp
    clear hres hJ6 hn6 hu6 J1 HX1 hx0 hx1 hx2 hx3 hb9 hsp
    go_wp2_with fail
    refine ⟨HSP.out, ?_⟩
    refine mixe_call rfl ?_
    go_wp2_with (refine wpList_store_row rfl _ _ _ rfl X #[.int .i64 tp, .int .i64 tz, .slice A6 n6 c6, .int .i64 d6] rfl rfl _ _ hX9' infotok4 rfl (by simp [Value.oneCell']) ?_)
    have hX10 : Held (w9.setRow X #[.int .i64 tp, .int .i64 tz, .slice A6 n6 c6, .int .i64 d6]) X #[.int .i64 tp, .int .i64 tz, .slice A6 n6 c6, .int .i64 d6] 51 := setRow_heap w9 X _ #[.int .i64 tp, .int .i64 tz, .slice A6 n6 c6, .int .i64 d6] _ _ hX9'
    have hB10 : Below wr.heap.size wr (w9.setRow X #[.int .i64 tp, .int .i64 tz, .slice A6 n6 c6, .int .i64 d6]) := below_row HB9.out (Nat.le_of_eq hXw) _
    have hs10 : w9.heap.size ≤ (w9.setRow X #[.int .i64 tp, .int .i64 tz, .slice A6 n6 c6, .int .i64 d6]).heap.size := Nat.le_of_eq (setRow_size _ _ _).symm
    refine ⟨⟨setRow_other _ _ _ _ (by omega), hs10⟩, ?_⟩
    refine NoPanic.normal ?_
    obtain ⟨W9, hW9⟩ : ∃ W9, w9.setRow X #[.int .i64 tp, .int .i64 tz, .slice A6 n6 c6, .int .i64 d6] = W9 := ⟨_, rfl⟩
    rw [hW9] at hX10 hB10 ⊢
    have HX10 := Lib.hid hX10
    have HB10 := Lib.hid hB10
    have HO10 := Lib.hid (HOr.out.below hB10 (Nat.le_refl _))
    have HA10 := Lib.hid (HAr.out.below hB10)
    have HG10 := Lib.hid (grown_seq HGr.out (grown_below (p := some p) hB10))
    have HU10 := Lib.hid (HU6.out W9 hB10)
    have hpX : p < W9.heap.size := HA10.out.lt
    have hgX : g < W9.heap.size := by have := hB10.size; omega
    have hXX : X < W9.heap.size := hX10.lt
    have hpg : p ≠ g := by omega
    have hpXn : p ≠ X := by omega
    have hgXn : g ≠ X := by omega
    have HM : Hid (mixF rs ah tk (K + 1) = mx.set K ⟨tp, tz, u6, d6⟩) := by
      show mixF rs ah tk (K + 1) = _
      rw [HMN.out, HJ6.out]
    have HAH : Hid (ahF rs ah tk (K + 1) = if d6 = 0 then u6 else a1) := by
      show ahF rs ah tk (K + 1) = _
      rw [HAN.out, HJ6.out]
    have hu68 : u6.length ≤ 8 := by
      have := joinT_small (rs := rs) (a := a1) (t := ⟨tp, tz, u, te⟩) (by have h := H8.out _ (List.getElem_mem hK1); rw [HT.out] at h; exact h)
      rw [HJ6.out] at this
      exact this
    have HU68 := Lib.hid hu68
    clear hW9 hX10 hB10 hs10 hX9' hX9 HSP HU6 HB9 HBd HA1 D18 HB1 HW1 HUr HOr HAr HGr hu68
    by_cases hd : d6 = 0
    · have HAH2 : Hid (ahF rs ah tk (K + 1) = u6) := by
        show ahF rs ah tk (K + 1) = u6
        rw [HAH.out, if_pos hd]
      clear HAH
      subst hd
      have x2 : W9.cell? ⟨X, 2, none⟩ = some (.slice A6 n6 c6) := HX10.out.cell 2
      have x3 : W9.cell? ⟨X, 3, none⟩ = some (.int .i64 0) := HX10.out.cell 3
      obtain ⟨Uu, cu', eu, gu1, gu2, gu3⟩ := HU10.out
      obtain ⟨rfl, rfl⟩ : A6 = Uu ∧ c6 = cu' := by injection eu with a b c; exact ⟨a, c⟩
      have C1 := Lib.hid (clone_any n6 A6 c6 u6 W9.heap.size W9 HN6.out (gu3.rd (Nat.le_refl _)) (Nat.le_refl _) (by have := HN6.out; have := HU68.out; omega))
      clear eu gu1 gu2 gu3
      go_wp2_with fail
      refine C1.out.mono ?_
      rintro e w10 ⟨A7, c7, rfl, hu7, hb10⟩
      have hX11 := HX10.out.below hb10 hXX
      have HA11 := Lib.hid (HA10.out.below hb10)
      have HO11 := Lib.hid (HO10.out.below hb10 (Nat.le_refl _))
      have HG11 := Lib.hid (grown_seq HG10.out (grown_below (p := some p) hb10))
      have hs11 := hb10.size
      have hu7' : Us (fun b => X0 b ∧ (Value.slice (some ⟨g, 0, none⟩) N c).ownBlock ≠ some b) w10 (.slice A7 n6 c7) u6 := hu7.step (Nat.le_refl _) fun b _ hx => ⟨⟨HX0.out b (by have h2 : W9.heap.size ≤ b := hx; omega), fun e => by injection e with e; have h1 : g = b := e; have h2 : W9.heap.size ≤ b := hx; omega⟩, rfl⟩
      have HA12 := Lib.hid (HA11.out.setAhead HN6.out hu7' HU68.out)
      obtain ⟨Aq, cq, p18, -, hfp⟩ := HA11.out.cells
      have hfp18 := hfp 18
      have hgs : w10.grownBy (w10.setCell ⟨p, 18, none⟩ (.slice A7 n6 c7)) (some p) := grown_set (grownR _ _) _ _
      have HO12 := Lib.hid (HO11.out.past hgs hp)
      have HG12 := Lib.hid (grown_seq HG11.out hgs)
      have hX12 : Held (w10.setCell ⟨p, 18, none⟩ (.slice A7 n6 c7)) X #[.int .i64 tp, .int .i64 tz, .slice A6 n6 c6, .int .i64 0] 51 := hX11.kept hgs (fun e => by injection e with e; omega)
      have X12 := Lib.hid hX12
      have v0 := hX12.cell 0
      have v1 := hX12.cell 1
      have v2 := hX12.cell 2
      have v3 := hX12.cell 3
      have hU12 := (HU10.out.step hb10.size (fun b hb hx => ⟨hx, hb10.block b hb⟩)).past hgs (fun b hx e => by have := hx.2; omega)
      obtain ⟨A8, n8, c8, y0, y1, y2, y3, -, -, hfr⟩ := HO12.out.cellsAt (k := K) (by rw [HML.out]; exact hK1)
      have z0 := hfr (K * 4)
      have z1 := hfr (K * 4 + 1)
      have z2 := hfr (K * 4 + 2)
      have z3 := hfr (K * 4 + 3)
      obtain ⟨HS', hge⟩ := HO12.out.setTok (k := K) (by rw [HML.out]; exact hK1) tp tz 0 hU12
      have HSF := Lib.hid HS'
      have hXg : ∀ b, (X0 b ∧ (Value.slice (some ⟨g, 0, none⟩) N c).ownBlock ≠ some b) → b ≠ g := fun b hb e => hb.2 (by rw [e]; rfl)
      have hpg' : p < g := by omega
      have HAF := Lib.hid ((((HA12.out.row (j := K * 4) (v := .int .i64 tp) hpg' hXg).row (j := K * 4 + 1) (v := .int .i64 tz) hpg' hXg).row (j := K * 4 + 2) (v := .slice A6 n6 c6) hpg' hXg).row (j := K * 4 + 3) (v := .int .i64 0) hpg' hXg)
      have HGF := Lib.hid (grown_at (j := K * 4 + 3) (v := .int .i64 0) (grown_at (j := K * 4 + 2) (v := .slice A6 n6 c6) (grown_at (j := K * 4 + 1) (v := .int .i64 tz) (grown_at (j := K * 4) (v := .int .i64 tp) HG12.out (by rw [HS.out]; exact hge)) (by rw [HS.out]; exact hge)) (by rw [HS.out]; exact hge)) (by rw [HS.out]; exact hge))
      clear hX11 hu7 hb10 hu7' hgs hX12 hU12 HS' hXg hfr hfp C1 x2 x3 HA10 HA11 HO10 HO11 HG10 HG11
      go_wp2_with fail
      go_roundw
      case rel => exact ⟨K + 1, _, by omega, by go_num, by rw [HM.out]; exact HSF, by rw [HAH2.out]; exact HAF, HGF, by simp only [World.size_setCell]; omega⟩
      case measure => simp [intOf]; omega
    · have hne : (d6 == 0) = false := by simpa using hd
      have HAH2 : Hid (ahF rs ah tk (K + 1) = a1) := by
        show ahF rs ah tk (K + 1) = a1
        rw [HAH.out, if_neg hd]
      clear HAH hd
      have v0 := HX10.out.cell 0
      have v1 := HX10.out.cell 1
      have v2 := HX10.out.cell 2
      have v3 := HX10.out.cell 3
      obtain ⟨A8, n8, c8, y0, y1, y2, y3, -, -, hfr⟩ := HO10.out.cellsAt (k := K) (by rw [HML.out]; exact hK1)
      have z0 := hfr (K * 4)
      have z1 := hfr (K * 4 + 1)
      have z2 := hfr (K * 4 + 2)
      have z3 := hfr (K * 4 + 3)
      obtain ⟨HS', hge⟩ := HO10.out.setTok (k := K) (by rw [HML.out]; exact hK1) tp tz d6 HU10.out
      have HSF := Lib.hid HS'
      have hXg : ∀ b, (X0 b ∧ (Value.slice (some ⟨g, 0, none⟩) N c).ownBlock ≠ some b) → b ≠ g := fun b hb e => hb.2 (by rw [e]; rfl)
      have hpg' : p < g := by omega
      have HAF := Lib.hid ((((HA10.out.row (j := K * 4) (v := .int .i64 tp) hpg' hXg).row (j := K * 4 + 1) (v := .int .i64 tz) hpg' hXg).row (j := K * 4 + 2) (v := .slice A6 n6 c6) hpg' hXg).row (j := K * 4 + 3) (v := .int .i64 d6) hpg' hXg)
      have HGF := Lib.hid (grown_at (j := K * 4 + 3) (v := .int .i64 d6) (grown_at (j := K * 4 + 2) (v := .slice A6 n6 c6) (grown_at (j := K * 4 + 1) (v := .int .i64 tz) (grown_at (j := K * 4) (v := .int .i64 tp) HG10.out (by rw [HS.out]; exact hge)) (by rw [HS.out]; exact hge)) (by rw [HS.out]; exact hge)) (by rw [HS.out]; exact hge))
      clear HS' hXg hfr HA10 HO10 HG10
      go_wp2_with fail
      go_roundw
      case rel => exact ⟨K + 1, _, by omega, by go_num, by rw [HM.out]; exact HSF, by rw [HAH2.out]; exact HAF, HGF, by simp only [World.size_setCell]; omega⟩
      case measure => simp [intOf]; omega
set_option maxHeartbeats 1600000 in
theorem eput_anyF (L : Nat) (X : Nat → Prop) (w : World) (B p : Nat) (rs : List Rl) (T : Nat) (R : List Value) (q : List Int) (a s u : Int) (ah : List Int) (h : EAtF L X w B p rs T R q a s ah) (hq : q.length ≤ 7) (hX : ∀ b, w.heap.size ≤ b → X b) (h0 : 0 ≤ a) (h9 : a ≤ 1099511627776) (hs0 : 0 ≤ s) (hs9 : s ≤ 1099511627776)
    (ts : List Tk) (rest : List Int) (k : Nat) (hv : drain (turnR rs) a (q ++ [u]) = (ts, rest, k)) :
    Calls Tryz.prog 225 #[.pointer (some ⟨p, 0, none⟩), .int .i64 u] w fun en w' => ∃ v, en = .returned v ∧ OwnTkB w.heap.size w' v (encF rs ah ts) ∧ (∃ R', EAtF L (fun b => X b ∧ v.ownBlock ≠ some b) w' B p rs T R' rest (a + q.length + 1 - rest.length) (s + k) (aheadF ah (encF rs ah ts))) ∧ w.grownBy w' (some p) := by
  obtain ⟨g8, gl⟩ := h.trie.good.drain_small hv
  have hlt := h.lt
  have HXX := Lib.hid hX
  have HFAR := Lib.hid h.far
  have HA := Lib.hid h
  have H8 := Lib.hid g8
  have HGL := Lib.hid (show ts.length ≤ 8 by simp at gl; omega)
  have HP := Lib.hid (mput_any w p T q a s u h.is hq p (turnR rs) h.trie (Nat.le_refl _) h0 h9 hs0 hs9 ts rest k hv)
  clear h hX g8 gl hv hq h0 h9 hs0 hs9
  go_enter Tryz.func225, Tryz.ntmps225
  go_wp2_with fail
  refine HP.out.mono ?_
  rintro en w1 ⟨v, rfl, ho, hm, hg⟩
  obtain ⟨A1, c1, rfl, -⟩ := ho.own.form
  obtain ⟨N, hN⟩ : ∃ N, ts.length = N := ⟨_, rfl⟩
  have hgl := HGL.out
  rw [hN] at ho hgl ⊢
  have hown : ∀ b, (Value.slice A1 N c1).ownBlock = some b → w.heap.size ≤ b := fun b e => by
    obtain ⟨xs, hw, _⟩ := ho
    exact (hw.lt b e).1
  have hA1 : EAtF L (fun b => X b ∧ (Value.slice A1 N c1).ownBlock ≠ some b) w1 B p rs T R rest (a + q.length + 1 - rest.length) (s + k) ah :=
    HA.out.with hg.size (fun b _ hl => (below_of hg HA.out.ple (by have := HA.out.ple; omega)).block b hl) (hg.block T (by have := HA.out.tlt; omega) (fun e => by injection e with e; have := HA.out.tlt; omega)) (fun b hl hx => ⟨⟨hx, fun e => by have := hown b e; omega⟩, hg.block b hl (fun e => by injection e with e; exact HFAR.out b hx e)⟩) (fun b hb => HFAR.out b hb.1) hm
  have HJ := Lib.hid (ejoin_anyF L X w w1 B p rs T R rest _ _ ah A1 N c1 ts hA1 hg hlt hN (by omega) ho H8.out (fun b hb => HXX.out b (Nat.le_trans hg.size hb)) HFAR.out)
  clear ho hm hg hN hA1 hown HP hgl HGL
  go_wp2_with fail
  refine HJ.out.mono ?_
  rintro e w2 ⟨rfl, ho2, ⟨R', ha2⟩, hg2⟩
  have HO2 := Lib.hid ho2
  have HA2 := Lib.hid ha2
  have HG2 := Lib.hid hg2
  clear ho2 ha2 hg2 HJ
  go_wp2_with fail
  go_ret
  exact ⟨_, rfl, HO2.out, ⟨R', HA2.out⟩, HG2.out⟩
set_option maxHeartbeats 1600000 in
theorem eend_anyF (L : Nat) (X : Nat → Prop) (w : World) (B p : Nat) (rs : List Rl) (T : Nat) (R : List Value) (q : List Int) (a s : Int) (ah : List Int) (h : EAtF L X w B p rs T R q a s ah) (hX : ∀ b, w.heap.size ≤ b → X b) (h0 : 0 ≤ a) (h9 : a ≤ 1099511627776) (hs0 : 0 ≤ s) (hs9 : s ≤ 1099511627776)
    (ts : List Tk) (hv : rewA (turnR rs) a q = ts) :
    Calls Tryz.prog 221 #[.pointer (some ⟨p, 0, none⟩)] w fun en w' => ∃ v, en = .returned v ∧ OwnTkB w.heap.size w' v (encF rs ah ts) ∧ (∃ R', EAtF L (fun b => X b ∧ v.ownBlock ≠ some b) w' B p rs T R' [] (a + q.length) (s + looksE (turnR rs) q) (aheadF ah (encF rs ah ts))) ∧ w.grownBy w' (some p) := by
  have hlt := h.lt
  have HXX := Lib.hid hX
  have HFAR := Lib.hid h.far
  have HA := Lib.hid h
  have H8 := Lib.hid (show ∀ t ∈ ts, t.out.length ≤ 8 from fun t ht => (h.trie.good.rew_tk q a t (by rw [hv]; exact ht)).len)
  have HGL := Lib.hid (show ts.length ≤ 8 by have h1 := h.trie.good.rew_len q a; have := h.is.le8; rw [hv] at h1; omega)
  have HP := Lib.hid (mend_any w p T q a s h.is p (turnR rs) h.trie (Nat.le_refl _) h0 h9 hs0 hs9 ts hv)
  clear h hX hv h0 h9 hs0 hs9
  go_enter Tryz.func221, Tryz.ntmps221
  go_wp2_with fail
  refine HP.out.mono ?_
  rintro en w1 ⟨v, rfl, ho, hm, hg⟩
  obtain ⟨A1, c1, rfl, -⟩ := ho.own.form
  obtain ⟨N, hN⟩ : ∃ N, ts.length = N := ⟨_, rfl⟩
  have hgl := HGL.out
  rw [hN] at ho hgl ⊢
  have hown : ∀ b, (Value.slice A1 N c1).ownBlock = some b → w.heap.size ≤ b := fun b e => by
    obtain ⟨xs, hw, _⟩ := ho
    exact (hw.lt b e).1
  have hA1 : EAtF L (fun b => X b ∧ (Value.slice A1 N c1).ownBlock ≠ some b) w1 B p rs T R [] (a + q.length) (s + looksE (turnR rs) q) ah :=
    HA.out.with hg.size (fun b _ hl => (below_of hg HA.out.ple (by have := HA.out.ple; omega)).block b hl) (hg.block T (by have := HA.out.tlt; omega) (fun e => by injection e with e; have := HA.out.tlt; omega)) (fun b hl hx => ⟨⟨hx, fun e => by have := hown b e; omega⟩, hg.block b hl (fun e => by injection e with e; exact HFAR.out b hx e)⟩) (fun b hb => HFAR.out b hb.1) hm
  have HJ := Lib.hid (ejoin_anyF L X w w1 B p rs T R [] _ _ ah A1 N c1 ts hA1 hg hlt hN (by omega) ho H8.out (fun b hb => HXX.out b (Nat.le_trans hg.size hb)) HFAR.out)
  clear ho hm hg hN hA1 hown HP hgl HGL
  go_wp2_with fail
  refine HJ.out.mono ?_
  rintro e w2 ⟨rfl, ho2, ⟨R', ha2⟩, hg2⟩
  have HO2 := Lib.hid ho2
  have HA2 := Lib.hid ha2
  have HG2 := Lib.hid hg2
  clear ho2 ha2 hg2 HJ
  go_wp2_with fail
  go_ret
  exact ⟨_, rfl, HO2.out, ⟨R', HA2.out⟩, HG2.out⟩
end Go.Proofs.YtncpokioagpclaaGreatDoor
