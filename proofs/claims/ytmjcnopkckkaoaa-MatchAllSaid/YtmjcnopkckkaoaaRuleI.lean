/- Layer 3: the law's Rules. -/
import Derived.Test.YtmjcnopkckkaoaaRuleH
namespace Go.Proofs.Ytmjcnopkckkaoaa
set_option linter.unusedVariables false
open Go.RowKit
theorem rules_snoc {rows : List RowL} {K : Nat} (hK : K < rows.length) : (rows.take (K + 1)).map rowR = (rows.take K).map rowR ++ [rowR rows[K]] := by
  rw [List.take_succ_eq_append_getElem hK, List.map_append]; rfl

theorem own_lt' {w : World} {p : Nat} {o : Obj} (hp : w.heap[p]? = some o) : p < w.heap.size := by
  rcases Nat.lt_or_ge p w.heap.size with h | h
  · exact h
  · rw [Array.getElem?_eq_none h] at hp; cases hp
theorem pair_cells {w : World} {g : Nat} {x y : Value} {T : TypeId} (hp : w.heap[g]? = some (.cells #[x, y] T (0, 0))) : w.cell? ⟨g, 0, none⟩ = some x ∧ w.cell? ⟨g, 1, none⟩ = some y ∧ ∀ o, w.frozen? ⟨g, o, none⟩ = false := by
  refine ⟨?_, ?_, fun o => frozen_of_row _ _ _ _ _ hp⟩ <;> (rw [cell_of_row _ _ _ _ _ _ hp]; rfl)
theorem pair_set {w : World} {g : Nat} {x y v1 v2 : Value} {T : TypeId} (hp : w.heap[g]? = some (.cells #[x, y] T (0, 0))) :
    ((w.setCell ⟨g, 0, none⟩ v1).setCell ⟨g, 1, none⟩ v2).heap[g]? = some (.cells #[v1, v2] T (0, 0)) ∧ ((w.setCell ⟨g, 0, none⟩ v1).setCell ⟨g, 1, none⟩ v2).heap.size = w.heap.size ∧ ∀ b, b ≠ g → ((w.setCell ⟨g, 0, none⟩ v1).setCell ⟨g, 1, none⟩ v2).heap[b]? = w.heap[b]? :=
  ⟨heap_setCell_same _ g 1 _ _ _ (heap_setCell_same w g 0 _ _ _ hp), by simp, fun b hb => by rw [heap_setCell_other _ ⟨g, 1, none⟩ b _ hb, heap_setCell_other _ ⟨g, 0, none⟩ b _ hb]⟩
theorem pair_below {w w0 : World} {B g : Nat} {x y v1 v2 : Value} {T : TypeId} (h : Below B w0 w) (hg : B ≤ g) : Below B w0 ((w.setCell ⟨g, 0, none⟩ v1).setCell ⟨g, 1, none⟩ v2) := (h.setCell hg _).setCell hg _
/-- what a rule that is laid into a block of its own leaves -/
def CutR (R : Nat) (W wr : World) (l1 l2 : List Int) (s6 : Value) (wx : World) : Prop := ∃ g v1 v2, s6 = .pointer (some ⟨g, 0, none⟩) ∧ R < g ∧ wx.heap[g]? = some (.cells #[v1, v2] 53 (0, 0)) ∧ Us (fun b => R < b ∧ b ≠ g) wx v1 l1 ∧ Us (fun b => R < b ∧ b ≠ g) wx v2 l2 ∧ SameB R W wx ∧ Below R wr wx
theorem cut_new {R : Nat} {W wr wz : World} {l1 l2 : List Int} {v1 v2 : Value} (hR : R < wz.heap.size) (u1 : Us (fun b => R < b) wz v1 l1) (u2 : Us (fun b => R < b) wz v2 l2) (hs : SameB R W wz) (hb : Below R wr wz) :
    CutR R W wr l1 l2 (.pointer (some ⟨wz.heap.size, 0, none⟩)) (wz.alloc (.cells #[v1, v2] 53)) :=
  ⟨wz.heap.size, v1, v2, rfl, hR, heap_alloc_new wz _, u1.step (by simp) fun b hb hx => ⟨⟨hx, by omega⟩, Below.heap_alloc _ _ _ hb⟩, u2.step (by simp) fun b hb hx => ⟨⟨hx, by omega⟩, Below.heap_alloc _ _ _ hb⟩,
    hs.trans _ _ _ _ (SameB.of ((Below.refl wz.heap.size wz).alloc (Nat.le_refl _) _) hR), hb.alloc (by omega) _⟩
theorem cut_set {R g : Nat} {W wr wz : World} {l1 l2 : List Int} {x y v1 v2 : Value} (hz : wz.heap[g]? = some (.cells #[x, y] 53 (0, 0))) (hR : R < g) (u1 : Us (fun b => R < b ∧ b ≠ g) wz v1 l1) (u2 : Us (fun b => R < b ∧ b ≠ g) wz v2 l2) (hs : SameB R W wz) (hb : Below R wr wz) :
    CutR R W wr l1 l2 (.pointer (some ⟨g, 0, none⟩)) ((wz.setCell ⟨g, 0, none⟩ v1).setCell ⟨g, 1, none⟩ v2) := by
  obtain ⟨h1, h2, h3⟩ := pair_set (v1 := v1) (v2 := v2) hz
  exact ⟨g, v1, v2, rfl, hR, h1, u1.step (by omega) fun b hb hx => ⟨hx, h3 b hx.2⟩, u2.step (by omega) fun b hb hx => ⟨hx, h3 b hx.2⟩,
    ⟨(h3 R (by omega)).trans hs.1, by have := hs.2; omega⟩, pair_below (x := x) (y := y) (T := 0) hb (by omega)⟩

set_option maxHeartbeats 3200000 in
theorem rules_any (n : Nat) (A : Option Addr) (c : Nat) (rows : List RowL) (B : Nat) (w : World) (hr : RwAt w B A n c rows) (hB : B ≤ w.heap.size) (ts : List Rl) (ht : rulesR rows = ts) :
    Calls Try.prog 23 #[.slice A n c] w fun e w' => ∃ v, e = .returned v ∧ OwnRs w.heap.size w' v ts ∧ Below w.heap.size w w' := by
  obtain ⟨i0, hi, hz0, hz1, hz2⟩ := info_parts inforl
  have hn1 := hr.fits
  have hn2 := hr.small
  obtain ⟨q, hq, hqn, hq4⟩ : ∃ q : Nat, ((if 40 < n then 40 else n) = q) ∧ q ≤ n ∧ q ≤ 40 := ⟨_, rfl, by split <;> omega, by split <;> omega⟩
  have hmin : (if (40 : Int) < n then (40 : Int) else n) = (q : Int) := by rw [← hq]; split <;> split <;> omega
  have hqc : q ≤ c := by omega
  have hq0 : (0 : Int) ≤ (q : Int) := by omega
  have hT : (rows.take q).map rowR = ts := by
    rw [← ht, rulesR]
    have hl := hr.len
    by_cases h4 : 40 < n
    · rw [if_pos h4] at hq; rw [hq]
    · rw [if_neg h4] at hq; rw [List.take_of_length_le (l := rows) (by omega), List.take_of_length_le (l := rows) (by omega)]
  have HR := Lib.hid hr
  have HT := Lib.hid hT
  unfold maxLen at hn2
  clear hr ht hq hT
  go_enter Try.func23, Try.ntmps23
  go_wp2
  go_loopw [3, 13] (fun v i wr => ∃ (K : Nat) (acc : List Rl), K ≤ q ∧ i = .int .i64 K ∧ Hid (OwnRs w.heap.size wr v acc) ∧ acc.length ≤ K ∧ Hid ((rows.take K).map rowR = acc) ∧ Below w.heap.size w wr) (fun _ i _ => q - (intOf i).toNat)
  case atStart => exact ⟨0, [], by omega, rfl, OwnRs.nil _ _, by simp, rfl, Below.refl _ _⟩
  case round =>
    obtain ⟨K, acc, hK, rfl, ho, hacc, hmap, hb⟩ := hrel
    have hs := hb.size
    by_cases hKq : K = q
    · have hK' : ¬ K < q := by omega
      have HE : Hid (ts = acc) := by rw [← hmap.out, ← HT.out, hKq]; exact rfl
      clear hKq
      go_wp2
      go_ret
      exact ⟨_, rfl, by rw [HE.out]; exact ho.out, hb⟩
    have hK' : K < q := by omega
    have hK1 : K < rows.length := by rw [← HR.out.len]; omega
    obtain ⟨b, o, rfl, hbB, A1, c1, A2, c2, A3, c3, A4, c4, g1, g2, g3, g4, g5, e1, e2, e3, e4⟩ := HR.out.at hK1
    have HSN : Hid ((rows.take (K + 1)).map rowR = acc ++ [rowR rows[K]]) := by rw [rules_snoc hK1, hmap.out]; exact rfl
    obtain ⟨r, hr⟩ : ∃ r, rows[K] = r := ⟨_, rfl⟩
    rw [hr] at g1 g2 g3 g4 g5 e1 e2 e3 e4 HSN
    obtain ⟨n1, hn1'⟩ : ∃ n1, n1 = r.inp.length := ⟨_, rfl⟩
    obtain ⟨n2, hn2'⟩ : ∃ n2, n2 = r.out.length := ⟨_, rfl⟩
    obtain ⟨n3, hn3'⟩ : ∃ n3, n3 = r.ain.length := ⟨_, rfl⟩
    obtain ⟨n4, hn4'⟩ : ∃ n4, n4 = r.aout.length := ⟨_, rfl⟩
    rw [← hn1'] at g1 e1
    rw [← hn2'] at g2 e2
    rw [← hn3'] at g4 e3
    rw [← hn4'] at g5 e4
    have hcl : ∀ o', wr.cell? ⟨b, o', none⟩ = w.cell? ⟨b, o', none⟩ := fun o' => hb.cell (p := ⟨b, o', none⟩) (by show b < _; omega)
    have k1 := (hcl _).trans g1
    have k2 := (hcl _).trans g2
    have k3 := (hcl _).trans g3
    have k4 := (hcl _).trans g4
    have k5 := (hcl _).trans g5
    have k6 : (0 : Int) ≤ K := by omega
    have k7 : (K : Int) < q := by omega
    have E1 := Lib.hid e1
    have E2 := Lib.hid e2
    have E3 := Lib.hid e3
    have E4 := Lib.hid e4
    clear hcl hr hn1' hn2' hn3' hn4' g1 g2 g3 g4 g5 e1 e2 e3 e4
    go_upto_region 5 with fail
    have HM1 : Hid (n1 ≤ 9223372036854775807) := by have := E1.out.rd.2.1; have h2 := E1.out.rd.2.2.1; unfold maxLen at h2; exact (show n1 ≤ 9223372036854775807 by omega)
    have HM2 : Hid (n2 ≤ 9223372036854775807) := by have := E2.out.rd.2.1; have h2 := E2.out.rd.2.2.1; unfold maxLen at h2; exact (show n2 ≤ 9223372036854775807 by omega)
    obtain ⟨W, hW⟩ : ∃ W, W = wr.alloc (.cells #[.slice A1 n1 c1, .slice A2 n2 c2, .bool r.odd, .slice A3 n3 c3, .slice A4 n4 c4] 76) := ⟨_, rfl⟩
    have q0 : ∀ o', W.cell? ⟨wr.heap.size, o', none⟩ = (#[.slice A1 n1 c1, .slice A2 n2 c2, .bool r.odd, .slice A3 n3 c3, .slice A4 n4 c4] : Array Value)[o']? := by intro o'; rw [hW]; exact World.cell?_alloc_new (w := wr) _ _ o'
    have hbW : Below wr.heap.size wr W := by rw [hW]; exact (Below.refl _ _).alloc (Nat.le_refl _) _
    have hsW : W.heap.size = wr.heap.size + 1 := by rw [hW]; simp
    obtain ⟨R, hR⟩ : ∃ R, R = wr.heap.size := ⟨_, rfl⟩
    rw [← hW, ← hR]
    rw [← hR] at q0 hbW hsW
    have Q0 := Lib.hid q0
    have HW := Lib.hid hW
    have HRS := Lib.hid hR
    have HSW := Lib.hid hsW
    have hRW : R < W.heap.size := by omega
    have hwR : w.heap.size ≤ R := by omega
    clear hW hR q0 hsW
    go_cut [6] (fun s6 wx => CutR R W wr (unitsR r.inp 97) (unitsR r.out 97) s6 wx)
    case first =>
      refine wp_region_fork (G := SameB R) (.soft 0 (.soft 1 (.soft 3 (.soft 4 (.two 2 7 (.two 5 7 (.soft 6 (.one 7 (.one 8 .done))) (.one 5 (.soft 6 (.one 8 .done)))) (.one 2 (.one 5 (.soft 6 (.one 8 .done)))))))))
        (SameB.refl _) (SameB.trans _) (by kernel_rfl) rfl (by kernel_rfl) (by kernel_rfl) ?_
      refine fork_soft rfl rfl ?_
      go_big_quiet_step ((intro _; rfl))
      refine wpQuiet_nil ?_
      refine fork_soft rfl rfl ?_
      go_big_quiet_step ((intro hh; rw [hh.cell, World.cell?_drew, Q0.out]; exact ⟨rfl, rfl⟩))
      refine wpQuiet_nil ?_
      refine fork_soft rfl rfl ?_
      go_big_quiet_step ((intro _; rfl))
      refine wpQuiet_nil ?_
      refine fork_soft rfl rfl ?_
      go_big_quiet_step ((intro hh; rw [hh.cell, World.cell?_drew, Q0.out]; exact ⟨rfl, rfl⟩))
      refine wpQuiet_nil ?_
      refine fork_two rfl rfl ?_ ?_
      · go_wp2_with fail
        refine (units_any n1 A1 c1 r.inp 97 B _ E1.out.rd.1 (E1.out.rd.2.2.2.1.rdB.below (hb.trans ((hbW.drew).mono hwR) |>.mono hB) (Nat.le_refl _)) E1.out.rd.2.2.2.2 (by show B ≤ W.heap.size; omega) HM1.out E1.out.rd.2.1 (by omega) _ _ rfl rfl).mono ?_
        rintro e w2 ⟨A5, c5, rfl, hu5, hb_w2⟩
        have U5 := Lib.hid hu5
        have hz_w2 := hb_w2.size
        clear hu5
        go_wp2_with fail
        have hz2 : W.heap.size ≤ w2.heap.size := hz_w2
        have hb2 : Below W.heap.size W w2 := (Below.refl W.heap.size W).drew.trans hb_w2
        have hbr2 : Below R wr w2 := hbW.trans (hb2.mono (by omega))
        refine ⟨SameB.of hb_w2 (by show R < W.heap.size; omega), ?_⟩
        refine fork_two rfl rfl ?_ ?_
        · go_wp2_with fail
          refine (units_any n2 A2 c2 r.out 97 B _ E2.out.rd.1 (E2.out.rd.2.2.2.1.rdB.below (hb.trans (hbr2.mono hwR) |>.mono hB) (Nat.le_refl _)) E2.out.rd.2.2.2.2 (by omega) HM2.out E2.out.rd.2.1 (by omega) _ _ rfl rfl).mono ?_
          rintro e w3 ⟨A6, c6, rfl, hu6, hb_w3⟩
          have U6 := Lib.hid hu6
          have hz_w3 := hb_w3.size
          clear hu6
          go_wp2_with fail
          refine ⟨SameB.of hb_w3 (by omega), ?_⟩
          refine fork_soft rfl rfl ?_
          go_big_quiet_step ((intro _; rfl))
          refine wpQuiet_nil ?_
          refine fork_one rfl ?_
          go_wp2_with fail
          refine ⟨SameB.of ((Below.refl w3.heap.size w3).alloc (Nat.le_refl _) _) (by omega), ?_⟩
          refine fork_one rfl ?_
          go_wp2_with fail
          refine ⟨SameB.of (B := w3.heap.size) ⟨rfl, rfl, rfl, by simp, fun k hk => by rw [Below.heap_alloc _ _ _ hk, Below.heap_alloc _ _ _ hk]⟩ (by omega), ?_⟩
          refine fork_done (NoPanic.normal ?_)
          go_wp2_with fail
          go_meet
          exact cut_new (by omega) (U5.out.step hz_w3 fun b hb hx => ⟨by have : W.heap.size ≤ b := hx; omega, hb_w3.block b hb⟩) (U6.out.step (Nat.le_refl _) fun b hb hx => ⟨by have : w2.heap.size ≤ b := hx; omega, rfl⟩) (SameB.of (hb2.trans (hb_w3.mono hz2)) (by omega)) (hbr2.trans (hb_w3.mono (by omega)))
        · go_wp2_with fail
          obtain ⟨W7, hW7⟩ : ∃ W7, W7 = w2.alloc (.cells #[.slice none 0 0, .slice none 0 0] 53) := ⟨_, rfl⟩
          obtain ⟨g, hg⟩ : ∃ g, g = w2.heap.size := ⟨_, rfl⟩
          have hc7 : W7.heap[g]? = some (.cells #[.slice none 0 0, .slice none 0 0] 53 (0, 0)) := by rw [hW7, hg]; exact heap_alloc_new w2 _
          have hb7 : Below w2.heap.size w2 W7 := by rw [hW7]; exact (Below.refl _ _).alloc (Nat.le_refl _) _
          have hs7 : W7.heap.size = g + 1 := by rw [hW7, hg]; simp
          have hg2 : w2.heap.size ≤ g := by omega
          have hg3 : g ≤ w2.heap.size := by omega
          rw [← hW7, ← hg]
          have HC7 := Lib.hid hc7
          have HS7 := Lib.hid hs7
          clear hW7 hg hc7 hs7
          refine ⟨SameB.of hb7 (by omega), ?_⟩
          refine fork_one rfl ?_
          go_wp2_with fail
          refine (units_any n2 A2 c2 r.out 97 B _ E2.out.rd.1 (E2.out.rd.2.2.2.1.rdB.below (hb.trans ((hbr2.trans (hb7.mono (by omega))).mono hwR) |>.mono hB) (Nat.le_refl _)) E2.out.rd.2.2.2.2 (by rw [HS7.out]; omega) HM2.out E2.out.rd.2.1 (by omega) _ _ rfl rfl).mono ?_
          rintro e w3 ⟨A6, c6, rfl, hu6, hb_w3⟩
          have U6 := Lib.hid hu6
          have hz_w3 := hb_w3.size
          clear hu6
          go_wp2_with fail
          refine ⟨SameB.of hb_w3 (by rw [HS7.out]; omega), ?_⟩
          refine fork_soft rfl rfl ?_
          go_big_quiet_step ((intro _; rfl))
          refine wpQuiet_nil ?_
          have hc3 := (hb_w3.block g (by rw [HS7.out]; omega)).trans HC7.out
          obtain ⟨d0, d1, d2⟩ := pair_cells hc3
          have HC3 := Lib.hid hc3
          clear hc3
          refine fork_one rfl ?_
          go_wp2_with fail
          refine ⟨⟨(pair_set HC3.out).2.2 R (by omega), Nat.le_of_eq (pair_set HC3.out).2.1.symm⟩, ?_⟩
          refine fork_done (NoPanic.normal ?_)
          go_wp2_with fail
          go_meet
          have hb27 : Below w2.heap.size w2 w3 := hb7.trans (hb_w3.mono (by rw [HS7.out]; omega))
          exact cut_set HC3.out (by omega) (U5.out.step hb27.size fun b hb hx => ⟨⟨by have : W.heap.size ≤ b := hx; omega, by omega⟩, hb27.block b hb⟩) (U6.out.step (Nat.le_refl _) fun b hb hx => ⟨⟨by have : W7.heap.size ≤ b := hx; rw [HS7.out] at this; omega, by have : W7.heap.size ≤ b := hx; rw [HS7.out] at this; omega⟩, rfl⟩) (SameB.of (hb2.trans (hb27.mono hz2)) (by omega)) (hbr2.trans (hb27.mono (by omega)))
      · go_wp2_with fail
        obtain ⟨W7, hW7⟩ : ∃ W7, W7 = (W.alloc (.cells #[.slice none 0 0, .slice none 0 0] 53)).drew := ⟨_, rfl⟩
        obtain ⟨g, hg⟩ : ∃ g, g = W.heap.size := ⟨_, rfl⟩
        have hc7 : W7.heap[g]? = some (.cells #[.slice none 0 0, .slice none 0 0] 53 (0, 0)) := by rw [hW7, hg]; exact heap_alloc_new W _
        have hb7 : Below W.heap.size W W7 := by rw [hW7]; exact ((Below.refl _ _).alloc (Nat.le_refl _) _).drew
        have hb7' : Below W.heap.size W.drew W7 := ⟨hb7.os, hb7.tape, hb7.output, hb7.size, hb7.block⟩
        have hs7 : W7.heap.size = g + 1 := by rw [hW7, hg]; simp
        have hg2 : W.heap.size ≤ g := by omega
        have hg3 : g ≤ W.heap.size := by omega
        rw [← hW7, ← hg]
        have HC7 := Lib.hid hc7
        have HS7 := Lib.hid hs7
        clear hW7 hg hc7 hs7
        have hbr7 : Below R wr W7 := hbW.trans (hb7.mono (by omega))
        refine ⟨SameB.of hb7' (by omega), ?_⟩
        refine fork_one rfl ?_
        go_wp2_with fail
        refine (units_any n1 A1 c1 r.inp 97 B _ E1.out.rd.1 (E1.out.rd.2.2.2.1.rdB.below (hb.trans (hbr7.mono hwR) |>.mono hB) (Nat.le_refl _)) E1.out.rd.2.2.2.2 (by rw [HS7.out]; omega) HM1.out E1.out.rd.2.1 (by omega) _ _ rfl rfl).mono ?_
        rintro e w2 ⟨A5, c5, rfl, hu5, hb_w2⟩
        have U5 := Lib.hid hu5
        have hz_w2 := hb_w2.size
        clear hu5
        go_wp2_with fail
        refine ⟨SameB.of hb_w2 (by rw [HS7.out]; omega), ?_⟩
        have hbr2 : Below R wr w2 := hbr7.trans (hb_w2.mono (by rw [HS7.out]; omega))
        have hz2 : g + 1 ≤ w2.heap.size := by rw [← HS7.out]; exact hz_w2
        refine fork_one rfl ?_
        go_wp2_with fail
        refine (units_any n2 A2 c2 r.out 97 B _ E2.out.rd.1 (E2.out.rd.2.2.2.1.rdB.below (hb.trans (hbr2.mono hwR) |>.mono hB) (Nat.le_refl _)) E2.out.rd.2.2.2.2 (by omega) HM2.out E2.out.rd.2.1 (by omega) _ _ rfl rfl).mono ?_
        rintro e w3 ⟨A6, c6, rfl, hu6, hb_w3⟩
        have U6 := Lib.hid hu6
        have hz_w3 := hb_w3.size
        clear hu6
        go_wp2_with fail
        refine ⟨SameB.of hb_w3 (by omega), ?_⟩
        refine fork_soft rfl rfl ?_
        go_big_quiet_step ((intro _; rfl))
        refine wpQuiet_nil ?_
        have hb73 : Below W7.heap.size W7 w3 := hb_w2.trans (hb_w3.mono hz_w2)
        have hc3 := (hb73.block g (by rw [HS7.out]; omega)).trans HC7.out
        obtain ⟨d0, d1, d2⟩ := pair_cells hc3
        have HC3 := Lib.hid hc3
        clear hc3
        refine fork_one rfl ?_
        go_wp2_with fail
        refine ⟨⟨(pair_set HC3.out).2.2 R (by omega), Nat.le_of_eq (pair_set HC3.out).2.1.symm⟩, ?_⟩
        refine fork_done (NoPanic.normal ?_)
        go_wp2_with fail
        go_meet
        exact cut_set HC3.out (by omega) (U5.out.step hz_w3 fun b hb hx => ⟨⟨by have : W7.heap.size ≤ b := hx; rw [HS7.out] at this; omega, by have : W7.heap.size ≤ b := hx; rw [HS7.out] at this; omega⟩, hb_w3.block b hb⟩) (U6.out.step (Nat.le_refl _) fun b hb hx => ⟨⟨by have : w2.heap.size ≤ b := hx; omega, by have : w2.heap.size ≤ b := hx; omega⟩, rfl⟩) (SameB.of (hb7.trans (hb73.mono (by rw [HS7.out]; omega))) (by omega)) (hbr7.trans (hb73.mono (by rw [HS7.out]; omega)))
    case rest =>
      obtain ⟨g, v1, v2, rfl, hgR, hcg, hu1, hu2, hsm, hbx⟩ := hcut
      have kq : wc.cell? ⟨R, 2, none⟩ = some (.bool r.odd) := by rw [hsm.cell, Q0.out]; rfl
      have kq3 : wc.cell? ⟨R, 3, none⟩ = some (.slice A3 n3 c3) := by rw [hsm.cell, Q0.out]; rfl
      have kq4 : wc.cell? ⟨R, 4, none⟩ = some (.slice A4 n4 c4) := by rw [hsm.cell, Q0.out]; rfl
      obtain ⟨d0, d1, d2⟩ := pair_cells hcg
      have hgl := own_lt' hcg
      have HCG := Lib.hid hcg
      have HU1 := Lib.hid hu1
      have HU2 := Lib.hid hu2
      have hsz := hbx.size
      obtain ⟨A7, c7, rfl, _⟩ := ho.out.form
      have hol : ∀ x, (Value.slice A7 acc.length c7).ownBlock = some x → x < R := by
        intro x hx
        obtain ⟨ys, h1, _⟩ := ho.out
        have := own_lt h1 hx; rw [HRS.out]; exact this
      have HOL := Lib.hid hol
      have hwr : wr.heap.size ≤ R := Nat.le_of_eq HRS.out.symm
      clear hcg hu1 hu2 hsm hol
      by_cases hodd : r.odd = true
      · have HROW : Hid (rowR r = (r.ain, r.aout)) := by unfold rowR; rw [if_pos hodd]; exact rfl
        rw [hodd] at kq
        clear hodd
        go_upto_region 8 with fail
        obtain ⟨W8, hW8⟩ : ∃ W8, W8 = (wc.setCell ⟨g, 0, none⟩ (.slice A3 n3 c3)).setCell ⟨g, 1, none⟩ (.slice A4 n4 c4) := ⟨_, rfl⟩
        rw [← hW8]
        obtain ⟨p1, p2, p3⟩ := pair_set (v1 := .slice A3 n3 c3) (v2 := .slice A4 n4 c4) HCG.out
        rw [← hW8] at p1 p2 p3
        have hbr' : Below wr.heap.size wr W8 := by rw [hW8]; exact pair_below (x := v1) (y := v2) (T := 0) (hbx.mono hwr) (by omega)
        obtain ⟨d3, d4, d5⟩ := pair_cells p1
        have HW8 := Lib.hid hW8
        have hz8 : w.heap.size ≤ W8.heap.size := by rw [p2]; omega
        have P2 := Lib.hid p2
        clear p1 p2 p3 hW8 d0 d1 d2
        have hlow : ∀ x, (Value.slice A7 acc.length c7).ownBlock = some x → w.heap.size ≤ x := by
          intro x hx
          obtain ⟨ys, h1, _⟩ := ho.out
          exact (h1.lt x hx).1
        have hw8 : Below w.heap.size w W8 := hb.trans (hbr'.mono hs)
        have UV1 : Us (fun b => (Value.slice A7 acc.length c7).ownBlock ≠ some b) W8 (.slice A3 n3 c3) r.ain := E3.out.step hw8.size fun b hb hx => ⟨fun e => by have := hlow _ e; have : b < B := hx; omega, hw8.block b hb⟩
        have UV2 : Us (fun b => (Value.slice A7 acc.length c7).ownBlock ≠ some b) W8 (.slice A4 n4 c4) r.aout := E4.out.step hw8.size fun b hb hx => ⟨fun e => by have := hlow _ e; have : b < B := hx; omega, hw8.block b hb⟩
        clear hlow
        have hw1' : Below w.heap.size w W8 := hb.trans (hbr'.mono hs)
        obtain ⟨xs, hown, hx⟩ := ho.out.below hbr' (by omega)
        have HX := Lib.hid hx
        clear hx
        go_wp2_with (at_builtin; refine wpList_appB _ rfl _ _ 26 rfl w.heap.size 53 i0 _ 2 48 Try.underlying26 hi hz0 hz1 hz2 rfl (by decide) _ _ _ rfl (hown.alloc _) (W8.heap.size + 1) _ 1 1 [.slice A3 n3 c3, .slice A4 n4 c4] rfl rfl ?c1 ?c2 ?c3 ?c4 ?c5 ?_)
        case c1 => exact Rd_newR _ _ _ _ rfl
        case c2 => intro u hu; simp at hu; rcases hu with rfl | rfl <;> first | exact UV1.one | exact UV2.one
        case c3 => simp only [maxLen]; omega
        case c4 => omega
        case c5 => simp; omega
        intro v' w4 hown4 hg4 hv4
        have hbA : Below W8.heap.size W8 (W8.alloc (.cells #[.slice A3 n3 c3, .slice A4 n4 c4] 53)) := (Below.refl _ _).alloc (Nat.le_refl _) _
        have hpush : OwnRs w.heap.size w4 v' (acc ++ [rowR r]) := by
          refine own_push (v := .slice A7 acc.length c7) (xs := xs) (by simpa using hown4) (HX.out.step hbA.size fun b hb hx => ⟨hx, hbA.block b hb⟩) ?_ ?_ hg4 (by simpa using hv4)
          · rw [HROW.out]; exact UV1.step hbA.size fun b hb hx => ⟨hx, hbA.block b hb⟩
          · rw [HROW.out]; exact UV2.step hbA.size fun b hb hx => ⟨hx, hbA.block b hb⟩
        have HP := Lib.hid hpush
        have hbE : Below w.heap.size w w4 := below_own (hw1'.trans (hbA.mono (by omega))) hg4 (hown.alloc _) (Nat.le_refl _) (by simp; omega)
        have HMAP : Hid ((rows.take (K + 1)).map rowR = acc ++ [rowR r]) := HSN
        clear hown4 hpush
        go_wp2
        go_roundw
        case rel => exact ⟨K + 1, _, by omega, by go_num, HP, by simp; omega, HMAP, hbE⟩
        case measure => simp [intOf]; omega
      · have hodd' : r.odd = false := by simpa using hodd
        have HROW : Hid (rowR r = (unitsR r.inp 97, unitsR r.out 97)) := by unfold rowR; rw [if_neg hodd]; exact rfl
        rw [hodd'] at kq
        clear hodd hodd'
        obtain ⟨B1, e1, rfl, _⟩ := id HU1.out
        obtain ⟨B2, e2, rfl, _⟩ := id HU2.out
        have hbr' : Below wr.heap.size wr wc := hbx.mono hwr
        have UV1 : Us (fun b => (Value.slice A7 acc.length c7).ownBlock ≠ some b) wc (.slice B1 (unitsR r.inp 97).length e1) (unitsR r.inp 97) := HU1.out.step (Nat.le_refl _) fun b _ hx => ⟨fun e => by have := HOL.out _ e; have := hx.1; omega, rfl⟩
        have UV2 : Us (fun b => (Value.slice A7 acc.length c7).ownBlock ≠ some b) wc (.slice B2 (unitsR r.out 97).length e2) (unitsR r.out 97) := HU2.out.step (Nat.le_refl _) fun b _ hx => ⟨fun e => by have := HOL.out _ e; have := hx.1; omega, rfl⟩
        have hw1' : Below w.heap.size w wc := hb.trans (hbr'.mono hs)
        obtain ⟨xs, hown, hx⟩ := ho.out.below hbr' (by omega)
        have HX := Lib.hid hx
        clear hx
        go_wp2_with (at_builtin; refine wpList_appB _ rfl _ _ 26 rfl w.heap.size 53 i0 _ 2 48 Try.underlying26 hi hz0 hz1 hz2 rfl (by decide) _ _ _ rfl (hown.alloc _) (wc.heap.size + 1) _ 1 1 [.slice B1 (unitsR r.inp 97).length e1, .slice B2 (unitsR r.out 97).length e2] rfl rfl ?c1 ?c2 ?c3 ?c4 ?c5 ?_)
        case c1 => exact Rd_newR _ _ _ _ rfl
        case c2 => intro u hu; simp at hu; rcases hu with rfl | rfl <;> first | exact UV1.one | exact UV2.one
        case c3 => simp only [maxLen]; omega
        case c4 => omega
        case c5 => simp; omega
        intro v' w4 hown4 hg4 hv4
        have hbA : Below wc.heap.size wc (wc.alloc (.cells #[.slice B1 (unitsR r.inp 97).length e1, .slice B2 (unitsR r.out 97).length e2] 53)) := (Below.refl _ _).alloc (Nat.le_refl _) _
        have hpush : OwnRs w.heap.size w4 v' (acc ++ [rowR r]) := by
          refine own_push (v := .slice A7 acc.length c7) (xs := xs) (by simpa using hown4) (HX.out.step hbA.size fun b hb hx => ⟨hx, hbA.block b hb⟩) ?_ ?_ hg4 (by simpa using hv4)
          · rw [HROW.out]; exact UV1.step hbA.size fun b hb hx => ⟨hx, hbA.block b hb⟩
          · rw [HROW.out]; exact UV2.step hbA.size fun b hb hx => ⟨hx, hbA.block b hb⟩
        have HP := Lib.hid hpush
        have hbE : Below w.heap.size w w4 := below_own (hw1'.trans (hbA.mono (by omega))) hg4 (hown.alloc _) (Nat.le_refl _) (by simp; omega)
        have HMAP : Hid ((rows.take (K + 1)).map rowR = acc ++ [rowR r]) := HSN
        clear hown4 hpush
        go_wp2
        go_roundw
        case rel => exact ⟨K + 1, _, by omega, by go_num, HP, by simp; omega, HMAP, hbE⟩
        case measure => simp [intOf]; omega
theorem right_yes {rs acc ts : List Rl} {K : Nat} (h : rightFrom acc (rs.drop K) = ts) (hK : K < rs.length) (hf : sideB rs[K].1 = true ∧ sideB rs[K].2 = true ∧ findR acc rs[K].1 < 0) : rightFrom (acc ++ [rs[K]]) (rs.drop (K + 1)) = ts := by
  rw [List.drop_eq_getElem_cons hK] at h
  simp only [rightFrom, if_pos hf] at h
  exact h
theorem right_no {rs acc ts : List Rl} {K : Nat} (h : rightFrom acc (rs.drop K) = ts) (hK : K < rs.length) (hf : ¬ (sideB rs[K].1 = true ∧ sideB rs[K].2 = true ∧ findR acc rs[K].1 < 0)) : rightFrom acc (rs.drop (K + 1)) = ts := by
  rw [List.drop_eq_getElem_cons hK] at h
  simp only [rightFrom, if_neg hf] at h
  exact h
theorem right_end {rs acc ts : List Rl} {K : Nat} (h : rightFrom acc (rs.drop K) = ts) (hK : rs.length ≤ K) : ts = acc := by
  rw [List.drop_of_length_le hK] at h
  exact h.symm
end Go.Proofs.Ytmjcnopkckkaoaa
