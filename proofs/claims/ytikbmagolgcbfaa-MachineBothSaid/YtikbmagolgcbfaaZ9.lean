/- Texts of this seat, one behind the other: RuleH, RuleI, RuleK, Tok. -/
import Derived.Test.YtikbmagolgcbfaaZ3
import Derived.Test.YtikbmagolgcbfaaZ8
import Derived.Test.YtikbmagolgcbfaaZ1
namespace Go.Proofs.Ytikbmagolgcbfaa
set_option linter.unusedVariables false
open Go.RowKit
/-- a slice of bytes -/
def Bs (X : Nat → Prop) (w : World) (v : Value) (zs : List Int) : Prop := ∃ A c, v = .slice A zs.length c ∧ zs.length ≤ c ∧ c ≤ maxLen ∧ Rdx X w A (zs.map (Value.int .u8)) ∧ ∀ z ∈ zs, 0 ≤ z ∧ z ≤ 255
theorem Bs.step {X Y : Nat → Prop} {w w' : World} {v : Value} {us : List Int} (h : Bs X w v us) (hs : w.heap.size ≤ w'.heap.size) (hk : ∀ b, b < w.heap.size → X b → Y b ∧ w'.heap[b]? = w.heap[b]?) : Bs Y w' v us := by
  obtain ⟨A, c, h1, h2, h3, h4, h5⟩ := h
  exact ⟨A, c, h1, h2, h3, h4.step hs hk, h5⟩
def Rws (X : Nat → Prop) (w : World) : List Value → List RowL → Prop
  | [], [] => True
  | a :: b :: o :: c :: d :: xs, r :: rs => Bs X w a r.inp ∧ Bs X w b r.out ∧ o = .bool r.odd ∧ Us X w c r.ain ∧ Us X w d r.aout ∧ Rws X w xs rs
  | _, _ => False
theorem Rws.step {X Y : Nat → Prop} {w w' : World} (hs : w.heap.size ≤ w'.heap.size) (hk : ∀ b, b < w.heap.size → X b → Y b ∧ w'.heap[b]? = w.heap[b]?) : ∀ {xs : List Value} {rs : List RowL}, Rws X w xs rs → Rws Y w' xs rs
  | [], [], _ => trivial
  | a :: b :: o :: c :: d :: xs, r :: rs, ⟨h1, h2, h3, h4, h5, h6⟩ => ⟨h1.step hs hk, h2.step hs hk, h3, h4.step hs hk, h5.step hs hk, Rws.step hs hk h6⟩
theorem Rws.length {X : Nat → Prop} {w : World} : ∀ {xs : List Value} {rs : List RowL}, Rws X w xs rs → xs.length = rs.length * 5
  | [], [], _ => rfl
  | a :: b :: o :: c :: d :: xs, r :: rs, ⟨_, _, _, _, _, h⟩ => by simp only [List.length_cons, Rws.length h]; omega
theorem Rws.at {X : Nat → Prop} {w : World} : ∀ {xs : List Value} {rs : List RowL} (h : Rws X w xs rs) (k : Nat) (hk : k < rs.length),
    ∃ a b c d, xs[k * 5]? = some a ∧ xs[k * 5 + 1]? = some b ∧ xs[k * 5 + 2]? = some (.bool rs[k].odd) ∧ xs[k * 5 + 3]? = some c ∧ xs[k * 5 + 4]? = some d ∧ Bs X w a rs[k].inp ∧ Bs X w b rs[k].out ∧ Us X w c rs[k].ain ∧ Us X w d rs[k].aout
  | a :: b :: o :: c :: d :: xs, r :: rs, ⟨h1, h2, h3, h4, h5, h6⟩, 0, _ => ⟨a, b, c, d, rfl, rfl, by rw [h3]; rfl, rfl, rfl, h1, h2, h4, h5⟩
  | a :: b :: o :: c :: d :: xs, r :: rs, ⟨h1, h2, h3, h4, h5, h6⟩, k + 1, hk => by
    obtain ⟨a', b', c', d', g1, g2, g3, g4, g5, g6, g7, g8, g9⟩ := Rws.at h6 k (by simpa using hk)
    have e : (k + 1) * 5 = k * 5 + 1 + 1 + 1 + 1 + 1 := by omega
    rw [e]
    exact ⟨a', b', c', d', g1, g2, g3, g4, g5, g6, g7, g8, g9⟩
  | [], [], _, k, hk => by cases hk
structure RwAt (w : World) (B : Nat) (A : Option Addr) (n c : Nat) (rs : List RowL) : Prop where
  len : n = rs.length
  fits : n ≤ c
  small : c ≤ maxLen
  lies : ∃ xs, Rd w B A xs ∧ Rws (· < B) w xs rs
theorem RwAt.below {w w' : World} {B B' : Nat} {A : Option Addr} {n c : Nat} {rs : List RowL} (h : RwAt w B A n c rs) (hb : Below B w w') (hB : B ≤ B') : RwAt w' B' A n c rs := by
  obtain ⟨h1, h2, h3, xs, h4, h5⟩ := h
  exact ⟨h1, h2, h3, xs, h4.below hb hB, h5.step hb.size fun b _ hl => ⟨Nat.lt_of_lt_of_le hl hB, hb.block b hl⟩⟩
theorem RwAt.at {w : World} {B : Nat} {A : Option Addr} {n c : Nat} {rs : List RowL} (h : RwAt w B A n c rs) {k : Nat} (hk : k < rs.length) :
    ∃ b off, A = some ⟨b, off, none⟩ ∧ b < B ∧ ∃ A1 c1 A2 c2 A3 c3 A4 c4, w.cell? ⟨b, off + k * 5, none⟩ = some (.slice A1 rs[k].inp.length c1) ∧ w.cell? ⟨b, off + k * 5 + 1, none⟩ = some (.slice A2 rs[k].out.length c2) ∧ w.cell? ⟨b, off + k * 5 + 2, none⟩ = some (.bool rs[k].odd) ∧
      w.cell? ⟨b, off + k * 5 + 3, none⟩ = some (.slice A3 rs[k].ain.length c3) ∧ w.cell? ⟨b, off + k * 5 + 4, none⟩ = some (.slice A4 rs[k].aout.length c4) ∧
      Bs (· < B) w (.slice A1 rs[k].inp.length c1) rs[k].inp ∧ Bs (· < B) w (.slice A2 rs[k].out.length c2) rs[k].out ∧ Us (· < B) w (.slice A3 rs[k].ain.length c3) rs[k].ain ∧ Us (· < B) w (.slice A4 rs[k].aout.length c4) rs[k].aout := by
  obtain ⟨h1, h2, h3, xs, h4, h5⟩ := h
  have hlen := Rws.length h5
  obtain ⟨a, b', c', d, g1, g2, g3, g4, g5, e1, e2, e3, e4⟩ := Rws.at h5 k hk
  obtain ⟨A1, c1, rfl, _⟩ := id e1
  obtain ⟨A2, c2, rfl, _⟩ := id e2
  obtain ⟨A3, c3, rfl, _⟩ := id e3
  obtain ⟨A4, c4, rfl, _⟩ := id e4
  rcases h4 with h | ⟨b, off, k1, k2, k3⟩
  · rw [h] at hlen; simp only [List.length_nil] at hlen; omega
  · refine ⟨b, off, k1, k2, A1, c1, A2, c2, A3, c3, A4, c4, (k3 _ (by omega)).trans g1, ?_, ?_, ?_, ?_, e1, e2, e3, e4⟩
    · rw [Nat.add_assoc]; exact (k3 _ (by omega)).trans g2
    · rw [Nat.add_assoc]; exact (k3 _ (by omega)).trans g3
    · rw [Nat.add_assoc]; exact (k3 _ (by omega)).trans g4
    · rw [Nat.add_assoc]; exact (k3 _ (by omega)).trans g5
theorem Us.rd {X : Nat → Prop} {w : World} {A : Option Addr} {n c : Nat} {us : List Int} (h : Us X w (.slice A n c) us) : n = us.length ∧ n ≤ c ∧ c ≤ maxLen ∧ Rdx X w A (us.map (Value.int .i64)) := by
  obtain ⟨A', c', e, h2, h3, h4⟩ := h
  injection e with e1 e2 e3
  subst e1 e2 e3
  exact ⟨rfl, h2, h3, h4⟩
theorem Bs.rd {X : Nat → Prop} {w : World} {A : Option Addr} {n c : Nat} {us : List Int} (h : Bs X w (.slice A n c) us) : n = us.length ∧ n ≤ c ∧ c ≤ maxLen ∧ Rdx X w A (us.map (Value.int .u8)) ∧ ∀ z ∈ us, 0 ≤ z ∧ z ≤ 255 := by
  obtain ⟨A', c', e, h2, h3, h4, h5⟩ := h
  injection e with e1 e2 e3
  subst e1 e2 e3
  exact ⟨rfl, h2, h3, h4, h5⟩
theorem us_at {w : World} {B n c : Nat} {A : Option Addr} {us : List Int} (hn : n = us.length) (hc : n ≤ c) (hm : c ≤ maxLen) (h : Rd w B A (us.map (Value.int .i64))) : Us (· < B) w (.slice A n c) us := by
  subst hn; exact ⟨A, c, rfl, hc, hm, h.rdx⟩
end Go.Proofs.Ytikbmagolgcbfaa
namespace Go.Proofs.Ytikbmagolgcbfaa
set_option linter.unusedVariables false
open Go.RowKit
theorem rules_snoc {rows : List RowL} {K : Nat} (hK : K < rows.length) : (rows.take (K + 1)).map rowR = (rows.take K).map rowR ++ [rowR rows[K]] := by
  rw [List.take_succ_eq_append_getElem hK, List.map_append]; rfl

theorem own_lt' {w : World} {p : Nat} {o : Obj} (hp : w.heap[p]? = some o) : p < w.heap.size := by
  rcases Nat.lt_or_ge p w.heap.size with h | h
  · exact h
  · rw [Array.getElem?_eq_none h] at hp; cases hp
theorem pair_cells {w : World} {g : Nat} {x y : Value} {T : TypeId} (hp : w.heap[g]? = some (.cells #[x, y] T (0, 0))) : w.cell? ⟨g, 0, none⟩ = some x ∧ w.cell? ⟨g, 1, none⟩ = some y ∧ ∀ o, w.frozen? ⟨g, o, none⟩ = false := by
  refine ⟨?_, ?_, fun o => frozen_of_row _ _ _ _ _ hp⟩ <;> (rw [cell_of_row _ _ _ _ _ _ hp]; rfl)
theorem pair_set {w : World} {g : Nat} {x y v1 v2 : Value} {T : TypeId} (hp : w.heap[g]? = some (.cells #[x, y] T (0, 0))) :
    ((w.setCell ⟨g, 0, none⟩ v1).setCell ⟨g, 1, none⟩ v2).heap[g]? = some (.cells #[v1, v2] T (0, 0)) ∧ ((w.setCell ⟨g, 0, none⟩ v1).setCell ⟨g, 1, none⟩ v2).heap.size = w.heap.size ∧ ∀ b, b ≠ g → ((w.setCell ⟨g, 0, none⟩ v1).setCell ⟨g, 1, none⟩ v2).heap[b]? = w.heap[b]? :=
  ⟨heap_setCell_same _ g 1 _ _ _ (heap_setCell_same w g 0 _ _ _ hp), by simp, fun b hb => by rw [heap_setCell_other _ ⟨g, 1, none⟩ b _ hb, heap_setCell_other _ ⟨g, 0, none⟩ b _ hb]⟩
theorem pair_below {w w0 : World} {B g : Nat} {x y v1 v2 : Value} {T : TypeId} (h : Below B w0 w) (hg : B ≤ g) : Below B w0 ((w.setCell ⟨g, 0, none⟩ v1).setCell ⟨g, 1, none⟩ v2) := (h.setCell hg _).setCell hg _
/-- what a rule that is laid into a block of its own leaves -/
def CutR (R : Nat) (W wr : World) (l1 l2 : List Int) (s6 : Value) (wx : World) : Prop := ∃ g v1 v2, s6 = .pointer (some ⟨g, 0, none⟩) ∧ R < g ∧ wx.heap[g]? = some (.cells #[v1, v2] 54 (0, 0)) ∧ Us (fun b => R < b ∧ b ≠ g) wx v1 l1 ∧ Us (fun b => R < b ∧ b ≠ g) wx v2 l2 ∧ SameB R W wx ∧ Below R wr wx
theorem cut_new {R : Nat} {W wr wz : World} {l1 l2 : List Int} {v1 v2 : Value} (hR : R < wz.heap.size) (u1 : Us (fun b => R < b) wz v1 l1) (u2 : Us (fun b => R < b) wz v2 l2) (hs : SameB R W wz) (hb : Below R wr wz) :
    CutR R W wr l1 l2 (.pointer (some ⟨wz.heap.size, 0, none⟩)) (wz.alloc (.cells #[v1, v2] 54)) :=
  ⟨wz.heap.size, v1, v2, rfl, hR, heap_alloc_new wz _, u1.step (by simp) fun b hb hx => ⟨⟨hx, by omega⟩, Below.heap_alloc _ _ _ hb⟩, u2.step (by simp) fun b hb hx => ⟨⟨hx, by omega⟩, Below.heap_alloc _ _ _ hb⟩,
    hs.trans _ _ _ _ (SameB.of ((Below.refl wz.heap.size wz).alloc (Nat.le_refl _) _) hR), hb.alloc (by omega) _⟩
theorem cut_set {R g : Nat} {W wr wz : World} {l1 l2 : List Int} {x y v1 v2 : Value} (hz : wz.heap[g]? = some (.cells #[x, y] 54 (0, 0))) (hR : R < g) (u1 : Us (fun b => R < b ∧ b ≠ g) wz v1 l1) (u2 : Us (fun b => R < b ∧ b ≠ g) wz v2 l2) (hs : SameB R W wz) (hb : Below R wr wz) :
    CutR R W wr l1 l2 (.pointer (some ⟨g, 0, none⟩)) ((wz.setCell ⟨g, 0, none⟩ v1).setCell ⟨g, 1, none⟩ v2) := by
  obtain ⟨h1, h2, h3⟩ := pair_set (v1 := v1) (v2 := v2) hz
  exact ⟨g, v1, v2, rfl, hR, h1, u1.step (by omega) fun b hb hx => ⟨hx, h3 b hx.2⟩, u2.step (by omega) fun b hb hx => ⟨hx, h3 b hx.2⟩,
    ⟨(h3 R (by omega)).trans hs.1, by have := hs.2; omega⟩, pair_below (x := x) (y := y) (T := 0) hb (by omega)⟩

set_option maxHeartbeats 3200000 in
theorem rules_any (n : Nat) (A : Option Addr) (c : Nat) (rows : List RowL) (B : Nat) (w : World) (hr : RwAt w B A n c rows) (hB : B ≤ w.heap.size) (ts : List Rl) (ht : rulesR rows = ts) :
    Calls Try.prog 40 #[.slice A n c] w fun e w' => ∃ v, e = .returned v ∧ OwnRs w.heap.size w' v ts ∧ Below w.heap.size w w' := by
  obtain ⟨i0, hi, hz0, hz1, hz2⟩ := info_parts inforl
  have hn1 := hr.fits
  have hn2 := hr.small
  obtain ⟨q, hq, hqn, hq4⟩ : ∃ q : Nat, ((if 40 < n then 40 else n) = q) ∧ q ≤ n ∧ q ≤ 40 := ⟨_, rfl, by split <;> omega, by split <;> omega⟩
  have hmin : (if (40 : Int) < n then (40 : Int) else n) = (q : Int) := by rw [← hq]; split <;> split <;> omega
  have hqc : q ≤ c := by omega
  have hq0 : (0 : Int) ≤ (q : Int) := by omega
  have hT : (rows.take q).map rowR = ts := by
    rw [← ht, rulesR]
    have hl := hr.len
    by_cases h4 : 40 < n
    · rw [if_pos h4] at hq; rw [hq]
    · rw [if_neg h4] at hq; rw [List.take_of_length_le (l := rows) (by omega), List.take_of_length_le (l := rows) (by omega)]
  have HR := Lib.hid hr
  have HT := Lib.hid hT
  unfold maxLen at hn2
  clear hr ht hq hT
  go_enter Try.func40, Try.ntmps40
  go_wp2
  go_loopw [3, 13] (fun v i wr => ∃ (K : Nat) (acc : List Rl), K ≤ q ∧ i = .int .i64 K ∧ Hid (OwnRs w.heap.size wr v acc) ∧ acc.length ≤ K ∧ Hid ((rows.take K).map rowR = acc) ∧ Below w.heap.size w wr) (fun _ i _ => q - (intOf i).toNat)
  case atStart => exact ⟨0, [], by omega, rfl, OwnRs.nil _ _, by simp, rfl, Below.refl _ _⟩
  case round =>
    obtain ⟨K, acc, hK, rfl, ho, hacc, hmap, hb⟩ := hrel
    have hs := hb.size
    by_cases hKq : K = q
    · have hK' : ¬ K < q := by omega
      have HE : Hid (ts = acc) := by rw [← hmap.out, ← HT.out, hKq]; exact rfl
      clear hKq
      go_wp2
      go_ret
      exact ⟨_, rfl, by rw [HE.out]; exact ho.out, hb⟩
    have hK' : K < q := by omega
    have hK1 : K < rows.length := by rw [← HR.out.len]; omega
    obtain ⟨b, o, rfl, hbB, A1, c1, A2, c2, A3, c3, A4, c4, g1, g2, g3, g4, g5, e1, e2, e3, e4⟩ := HR.out.at hK1
    have HSN : Hid ((rows.take (K + 1)).map rowR = acc ++ [rowR rows[K]]) := by rw [rules_snoc hK1, hmap.out]; exact rfl
    obtain ⟨r, hr⟩ : ∃ r, rows[K] = r := ⟨_, rfl⟩
    rw [hr] at g1 g2 g3 g4 g5 e1 e2 e3 e4 HSN
    obtain ⟨n1, hn1'⟩ : ∃ n1, n1 = r.inp.length := ⟨_, rfl⟩
    obtain ⟨n2, hn2'⟩ : ∃ n2, n2 = r.out.length := ⟨_, rfl⟩
    obtain ⟨n3, hn3'⟩ : ∃ n3, n3 = r.ain.length := ⟨_, rfl⟩
    obtain ⟨n4, hn4'⟩ : ∃ n4, n4 = r.aout.length := ⟨_, rfl⟩
    rw [← hn1'] at g1 e1
    rw [← hn2'] at g2 e2
    rw [← hn3'] at g4 e3
    rw [← hn4'] at g5 e4
    have hcl : ∀ o', wr.cell? ⟨b, o', none⟩ = w.cell? ⟨b, o', none⟩ := fun o' => hb.cell (p := ⟨b, o', none⟩) (by show b < _; omega)
    have k1 := (hcl _).trans g1
    have k2 := (hcl _).trans g2
    have k3 := (hcl _).trans g3
    have k4 := (hcl _).trans g4
    have k5 := (hcl _).trans g5
    have k6 : (0 : Int) ≤ K := by omega
    have k7 : (K : Int) < q := by omega
    have E1 := Lib.hid e1
    have E2 := Lib.hid e2
    have E3 := Lib.hid e3
    have E4 := Lib.hid e4
    clear hcl hr hn1' hn2' hn3' hn4' g1 g2 g3 g4 g5 e1 e2 e3 e4
    go_upto_region 5 with fail
    have HM1 : Hid (n1 ≤ 9223372036854775807) := by have := E1.out.rd.2.1; have h2 := E1.out.rd.2.2.1; unfold maxLen at h2; exact (show n1 ≤ 9223372036854775807 by omega)
    have HM2 : Hid (n2 ≤ 9223372036854775807) := by have := E2.out.rd.2.1; have h2 := E2.out.rd.2.2.1; unfold maxLen at h2; exact (show n2 ≤ 9223372036854775807 by omega)
    obtain ⟨W, hW⟩ : ∃ W, W = wr.alloc (.cells #[.slice A1 n1 c1, .slice A2 n2 c2, .bool r.odd, .slice A3 n3 c3, .slice A4 n4 c4] 97) := ⟨_, rfl⟩
    have q0 : ∀ o', W.cell? ⟨wr.heap.size, o', none⟩ = (#[.slice A1 n1 c1, .slice A2 n2 c2, .bool r.odd, .slice A3 n3 c3, .slice A4 n4 c4] : Array Value)[o']? := by intro o'; rw [hW]; exact World.cell?_alloc_new (w := wr) _ _ o'
    have hbW : Below wr.heap.size wr W := by rw [hW]; exact (Below.refl _ _).alloc (Nat.le_refl _) _
    have hsW : W.heap.size = wr.heap.size + 1 := by rw [hW]; simp
    obtain ⟨R, hR⟩ : ∃ R, R = wr.heap.size := ⟨_, rfl⟩
    rw [← hW, ← hR]
    rw [← hR] at q0 hbW hsW
    have Q0 := Lib.hid q0
    have HW := Lib.hid hW
    have HRS := Lib.hid hR
    have HSW := Lib.hid hsW
    have hRW : R < W.heap.size := by omega
    have hwR : w.heap.size ≤ R := by omega
    clear hW hR q0 hsW
    go_cut [6] (fun s6 wx => CutR R W wr (unitsR r.inp 97) (unitsR r.out 97) s6 wx)
    case first =>
      refine wp_region_fork (G := SameB R) (.soft 0 (.soft 1 (.soft 3 (.soft 4 (.two 2 7 (.two 5 7 (.soft 6 (.one 7 (.one 8 .done))) (.one 5 (.soft 6 (.one 8 .done)))) (.one 2 (.one 5 (.soft 6 (.one 8 .done)))))))))
        (SameB.refl _) (SameB.trans _) (by kernel_rfl) rfl (by kernel_rfl) (by kernel_rfl) ?_
      refine fork_soft rfl rfl ?_
      go_big_quiet_step ((intro _; rfl))
      refine wpQuiet_nil ?_
      refine fork_soft rfl rfl ?_
      go_big_quiet_step ((intro hh; rw [hh.cell, World.cell?_drew, Q0.out]; exact ⟨rfl, rfl⟩))
      refine wpQuiet_nil ?_
      refine fork_soft rfl rfl ?_
      go_big_quiet_step ((intro _; rfl))
      refine wpQuiet_nil ?_
      refine fork_soft rfl rfl ?_
      go_big_quiet_step ((intro hh; rw [hh.cell, World.cell?_drew, Q0.out]; exact ⟨rfl, rfl⟩))
      refine wpQuiet_nil ?_
      refine fork_two rfl rfl ?_ ?_
      · go_wp2_with fail
        refine (units_any n1 A1 c1 r.inp 97 B _ E1.out.rd.1 (E1.out.rd.2.2.2.1.rdB.below (hb.trans ((hbW.drew).mono hwR) |>.mono hB) (Nat.le_refl _)) E1.out.rd.2.2.2.2 (by show B ≤ W.heap.size; omega) HM1.out E1.out.rd.2.1 (by omega) _ _ rfl rfl).mono ?_
        rintro e w2 ⟨A5, c5, rfl, hu5, hb_w2⟩
        have U5 := Lib.hid hu5
        have hz_w2 := hb_w2.size
        clear hu5
        go_wp2_with fail
        have hz2 : W.heap.size ≤ w2.heap.size := hz_w2
        have hb2 : Below W.heap.size W w2 := (Below.refl W.heap.size W).drew.trans hb_w2
        have hbr2 : Below R wr w2 := hbW.trans (hb2.mono (by omega))
        refine ⟨SameB.of hb_w2 (by show R < W.heap.size; omega), ?_⟩
        refine fork_two rfl rfl ?_ ?_
        · go_wp2_with fail
          refine (units_any n2 A2 c2 r.out 97 B _ E2.out.rd.1 (E2.out.rd.2.2.2.1.rdB.below (hb.trans (hbr2.mono hwR) |>.mono hB) (Nat.le_refl _)) E2.out.rd.2.2.2.2 (by omega) HM2.out E2.out.rd.2.1 (by omega) _ _ rfl rfl).mono ?_
          rintro e w3 ⟨A6, c6, rfl, hu6, hb_w3⟩
          have U6 := Lib.hid hu6
          have hz_w3 := hb_w3.size
          clear hu6
          go_wp2_with fail
          refine ⟨SameB.of hb_w3 (by omega), ?_⟩
          refine fork_soft rfl rfl ?_
          go_big_quiet_step ((intro _; rfl))
          refine wpQuiet_nil ?_
          refine fork_one rfl ?_
          go_wp2_with fail
          refine ⟨SameB.of ((Below.refl w3.heap.size w3).alloc (Nat.le_refl _) _) (by omega), ?_⟩
          refine fork_one rfl ?_
          go_wp2_with fail
          refine ⟨SameB.of (B := w3.heap.size) ⟨rfl, rfl, rfl, by simp, fun k hk => by rw [Below.heap_alloc _ _ _ hk, Below.heap_alloc _ _ _ hk]⟩ (by omega), ?_⟩
          refine fork_done (NoPanic.normal ?_)
          go_wp2_with fail
          go_meet
          exact cut_new (by omega) (U5.out.step hz_w3 fun b hb hx => ⟨by have : W.heap.size ≤ b := hx; omega, hb_w3.block b hb⟩) (U6.out.step (Nat.le_refl _) fun b hb hx => ⟨by have : w2.heap.size ≤ b := hx; omega, rfl⟩) (SameB.of (hb2.trans (hb_w3.mono hz2)) (by omega)) (hbr2.trans (hb_w3.mono (by omega)))
        · go_wp2_with fail
          obtain ⟨W7, hW7⟩ : ∃ W7, W7 = w2.alloc (.cells #[.slice none 0 0, .slice none 0 0] 54) := ⟨_, rfl⟩
          obtain ⟨g, hg⟩ : ∃ g, g = w2.heap.size := ⟨_, rfl⟩
          have hc7 : W7.heap[g]? = some (.cells #[.slice none 0 0, .slice none 0 0] 54 (0, 0)) := by rw [hW7, hg]; exact heap_alloc_new w2 _
          have hb7 : Below w2.heap.size w2 W7 := by rw [hW7]; exact (Below.refl _ _).alloc (Nat.le_refl _) _
          have hs7 : W7.heap.size = g + 1 := by rw [hW7, hg]; simp
          have hg2 : w2.heap.size ≤ g := by omega
          have hg3 : g ≤ w2.heap.size := by omega
          rw [← hW7, ← hg]
          have HC7 := Lib.hid hc7
          have HS7 := Lib.hid hs7
          clear hW7 hg hc7 hs7
          refine ⟨SameB.of hb7 (by omega), ?_⟩
          refine fork_one rfl ?_
          go_wp2_with fail
          refine (units_any n2 A2 c2 r.out 97 B _ E2.out.rd.1 (E2.out.rd.2.2.2.1.rdB.below (hb.trans ((hbr2.trans (hb7.mono (by omega))).mono hwR) |>.mono hB) (Nat.le_refl _)) E2.out.rd.2.2.2.2 (by rw [HS7.out]; omega) HM2.out E2.out.rd.2.1 (by omega) _ _ rfl rfl).mono ?_
          rintro e w3 ⟨A6, c6, rfl, hu6, hb_w3⟩
          have U6 := Lib.hid hu6
          have hz_w3 := hb_w3.size
          clear hu6
          go_wp2_with fail
          refine ⟨SameB.of hb_w3 (by rw [HS7.out]; omega), ?_⟩
          refine fork_soft rfl rfl ?_
          go_big_quiet_step ((intro _; rfl))
          refine wpQuiet_nil ?_
          have hc3 := (hb_w3.block g (by rw [HS7.out]; omega)).trans HC7.out
          obtain ⟨d0, d1, d2⟩ := pair_cells hc3
          have HC3 := Lib.hid hc3
          clear hc3
          refine fork_one rfl ?_
          go_wp2_with fail
          refine ⟨⟨(pair_set HC3.out).2.2 R (by omega), Nat.le_of_eq (pair_set HC3.out).2.1.symm⟩, ?_⟩
          refine fork_done (NoPanic.normal ?_)
          go_wp2_with fail
          go_meet
          have hb27 : Below w2.heap.size w2 w3 := hb7.trans (hb_w3.mono (by rw [HS7.out]; omega))
          exact cut_set HC3.out (by omega) (U5.out.step hb27.size fun b hb hx => ⟨⟨by have : W.heap.size ≤ b := hx; omega, by omega⟩, hb27.block b hb⟩) (U6.out.step (Nat.le_refl _) fun b hb hx => ⟨⟨by have : W7.heap.size ≤ b := hx; rw [HS7.out] at this; omega, by have : W7.heap.size ≤ b := hx; rw [HS7.out] at this; omega⟩, rfl⟩) (SameB.of (hb2.trans (hb27.mono hz2)) (by omega)) (hbr2.trans (hb27.mono (by omega)))
      · go_wp2_with fail
        obtain ⟨W7, hW7⟩ : ∃ W7, W7 = (W.alloc (.cells #[.slice none 0 0, .slice none 0 0] 54)).drew := ⟨_, rfl⟩
        obtain ⟨g, hg⟩ : ∃ g, g = W.heap.size := ⟨_, rfl⟩
        have hc7 : W7.heap[g]? = some (.cells #[.slice none 0 0, .slice none 0 0] 54 (0, 0)) := by rw [hW7, hg]; exact heap_alloc_new W _
        have hb7 : Below W.heap.size W W7 := by rw [hW7]; exact ((Below.refl _ _).alloc (Nat.le_refl _) _).drew
        have hb7' : Below W.heap.size W.drew W7 := ⟨hb7.os, hb7.tape, hb7.output, hb7.size, hb7.block⟩
        have hs7 : W7.heap.size = g + 1 := by rw [hW7, hg]; simp
        have hg2 : W.heap.size ≤ g := by omega
        have hg3 : g ≤ W.heap.size := by omega
        rw [← hW7, ← hg]
        have HC7 := Lib.hid hc7
        have HS7 := Lib.hid hs7
        clear hW7 hg hc7 hs7
        have hbr7 : Below R wr W7 := hbW.trans (hb7.mono (by omega))
        refine ⟨SameB.of hb7' (by omega), ?_⟩
        refine fork_one rfl ?_
        go_wp2_with fail
        refine (units_any n1 A1 c1 r.inp 97 B _ E1.out.rd.1 (E1.out.rd.2.2.2.1.rdB.below (hb.trans (hbr7.mono hwR) |>.mono hB) (Nat.le_refl _)) E1.out.rd.2.2.2.2 (by rw [HS7.out]; omega) HM1.out E1.out.rd.2.1 (by omega) _ _ rfl rfl).mono ?_
        rintro e w2 ⟨A5, c5, rfl, hu5, hb_w2⟩
        have U5 := Lib.hid hu5
        have hz_w2 := hb_w2.size
        clear hu5
        go_wp2_with fail
        refine ⟨SameB.of hb_w2 (by rw [HS7.out]; omega), ?_⟩
        have hbr2 : Below R wr w2 := hbr7.trans (hb_w2.mono (by rw [HS7.out]; omega))
        have hz2 : g + 1 ≤ w2.heap.size := by rw [← HS7.out]; exact hz_w2
        refine fork_one rfl ?_
        go_wp2_with fail
        refine (units_any n2 A2 c2 r.out 97 B _ E2.out.rd.1 (E2.out.rd.2.2.2.1.rdB.below (hb.trans (hbr2.mono hwR) |>.mono hB) (Nat.le_refl _)) E2.out.rd.2.2.2.2 (by omega) HM2.out E2.out.rd.2.1 (by omega) _ _ rfl rfl).mono ?_
        rintro e w3 ⟨A6, c6, rfl, hu6, hb_w3⟩
        have U6 := Lib.hid hu6
        have hz_w3 := hb_w3.size
        clear hu6
        go_wp2_with fail
        refine ⟨SameB.of hb_w3 (by omega), ?_⟩
        refine fork_soft rfl rfl ?_
        go_big_quiet_step ((intro _; rfl))
        refine wpQuiet_nil ?_
        have hb73 : Below W7.heap.size W7 w3 := hb_w2.trans (hb_w3.mono hz_w2)
        have hc3 := (hb73.block g (by rw [HS7.out]; omega)).trans HC7.out
        obtain ⟨d0, d1, d2⟩ := pair_cells hc3
        have HC3 := Lib.hid hc3
        clear hc3
        refine fork_one rfl ?_
        go_wp2_with fail
        refine ⟨⟨(pair_set HC3.out).2.2 R (by omega), Nat.le_of_eq (pair_set HC3.out).2.1.symm⟩, ?_⟩
        refine fork_done (NoPanic.normal ?_)
        go_wp2_with fail
        go_meet
        exact cut_set HC3.out (by omega) (U5.out.step hz_w3 fun b hb hx => ⟨⟨by have : W7.heap.size ≤ b := hx; rw [HS7.out] at this; omega, by have : W7.heap.size ≤ b := hx; rw [HS7.out] at this; omega⟩, hb_w3.block b hb⟩) (U6.out.step (Nat.le_refl _) fun b hb hx => ⟨⟨by have : w2.heap.size ≤ b := hx; omega, by have : w2.heap.size ≤ b := hx; omega⟩, rfl⟩) (SameB.of (hb7.trans (hb73.mono (by rw [HS7.out]; omega))) (by omega)) (hbr7.trans (hb73.mono (by rw [HS7.out]; omega)))
    case rest =>
      obtain ⟨g, v1, v2, rfl, hgR, hcg, hu1, hu2, hsm, hbx⟩ := hcut
      have kq : wc.cell? ⟨R, 2, none⟩ = some (.bool r.odd) := by rw [hsm.cell, Q0.out]; rfl
      have kq3 : wc.cell? ⟨R, 3, none⟩ = some (.slice A3 n3 c3) := by rw [hsm.cell, Q0.out]; rfl
      have kq4 : wc.cell? ⟨R, 4, none⟩ = some (.slice A4 n4 c4) := by rw [hsm.cell, Q0.out]; rfl
      obtain ⟨d0, d1, d2⟩ := pair_cells hcg
      have hgl := own_lt' hcg
      have HCG := Lib.hid hcg
      have HU1 := Lib.hid hu1
      have HU2 := Lib.hid hu2
      have hsz := hbx.size
      obtain ⟨A7, c7, rfl, _⟩ := ho.out.form
      have hol : ∀ x, (Value.slice A7 acc.length c7).ownBlock = some x → x < R := by
        intro x hx
        obtain ⟨ys, h1, _⟩ := ho.out
        have := own_lt h1 hx; rw [HRS.out]; exact this
      have HOL := Lib.hid hol
      have hwr : wr.heap.size ≤ R := Nat.le_of_eq HRS.out.symm
      clear hcg hu1 hu2 hsm hol
      by_cases hodd : r.odd = true
      · have HROW : Hid (rowR r = (r.ain, r.aout)) := by unfold rowR; rw [if_pos hodd]; exact rfl
        rw [hodd] at kq
        clear hodd
        go_upto_region 8 with fail
        obtain ⟨W8, hW8⟩ : ∃ W8, W8 = (wc.setCell ⟨g, 0, none⟩ (.slice A3 n3 c3)).setCell ⟨g, 1, none⟩ (.slice A4 n4 c4) := ⟨_, rfl⟩
        rw [← hW8]
        obtain ⟨p1, p2, p3⟩ := pair_set (v1 := .slice A3 n3 c3) (v2 := .slice A4 n4 c4) HCG.out
        rw [← hW8] at p1 p2 p3
        have hbr' : Below wr.heap.size wr W8 := by rw [hW8]; exact pair_below (x := v1) (y := v2) (T := 0) (hbx.mono hwr) (by omega)
        obtain ⟨d3, d4, d5⟩ := pair_cells p1
        have HW8 := Lib.hid hW8
        have hz8 : w.heap.size ≤ W8.heap.size := by rw [p2]; omega
        have P2 := Lib.hid p2
        clear p1 p2 p3 hW8 d0 d1 d2
        have hlow : ∀ x, (Value.slice A7 acc.length c7).ownBlock = some x → w.heap.size ≤ x := by
          intro x hx
          obtain ⟨ys, h1, _⟩ := ho.out
          exact (h1.lt x hx).1
        have hw8 : Below w.heap.size w W8 := hb.trans (hbr'.mono hs)
        have UV1 : Us (fun b => (Value.slice A7 acc.length c7).ownBlock ≠ some b) W8 (.slice A3 n3 c3) r.ain := E3.out.step hw8.size fun b hb hx => ⟨fun e => by have := hlow _ e; have : b < B := hx; omega, hw8.block b hb⟩
        have UV2 : Us (fun b => (Value.slice A7 acc.length c7).ownBlock ≠ some b) W8 (.slice A4 n4 c4) r.aout := E4.out.step hw8.size fun b hb hx => ⟨fun e => by have := hlow _ e; have : b < B := hx; omega, hw8.block b hb⟩
        clear hlow
        have hw1' : Below w.heap.size w W8 := hb.trans (hbr'.mono hs)
        obtain ⟨xs, hown, hx⟩ := ho.out.below hbr' (by omega)
        have HX := Lib.hid hx
        clear hx
        go_wp2_with (at_builtin; refine wpList_appB _ rfl _ _ 25 rfl w.heap.size 54 i0 _ 2 48 Try.underlying25 hi hz0 hz1 hz2 rfl (by decide) _ _ _ rfl (hown.alloc _) (W8.heap.size + 1) _ 1 1 [.slice A3 n3 c3, .slice A4 n4 c4] rfl rfl ?c1 ?c2 ?c3 ?c4 ?c5 ?_)
        case c1 => exact Rd_newR _ _ _ _ rfl
        case c2 => intro u hu; simp at hu; rcases hu with rfl | rfl <;> first | exact UV1.one | exact UV2.one
        case c3 => simp only [maxLen]; omega
        case c4 => omega
        case c5 => simp; omega
        intro v' w4 hown4 hg4 hv4
        have hbA : Below W8.heap.size W8 (W8.alloc (.cells #[.slice A3 n3 c3, .slice A4 n4 c4] 54)) := (Below.refl _ _).alloc (Nat.le_refl _) _
        have hpush : OwnRs w.heap.size w4 v' (acc ++ [rowR r]) := by
          refine own_push (v := .slice A7 acc.length c7) (xs := xs) (by simpa using hown4) (HX.out.step hbA.size fun b hb hx => ⟨hx, hbA.block b hb⟩) ?_ ?_ hg4 (by simpa using hv4)
          · rw [HROW.out]; exact UV1.step hbA.size fun b hb hx => ⟨hx, hbA.block b hb⟩
          · rw [HROW.out]; exact UV2.step hbA.size fun b hb hx => ⟨hx, hbA.block b hb⟩
        have HP := Lib.hid hpush
        have hbE : Below w.heap.size w w4 := below_own (hw1'.trans (hbA.mono (by omega))) hg4 (hown.alloc _) (Nat.le_refl _) (by simp; omega)
        have HMAP : Hid ((rows.take (K + 1)).map rowR = acc ++ [rowR r]) := HSN
        clear hown4 hpush
        go_wp2
        go_roundw
        case rel => exact ⟨K + 1, _, by omega, by go_num, HP, by simp; omega, HMAP, hbE⟩
        case measure => simp [intOf]; omega
      · have hodd' : r.odd = false := by simpa using hodd
        have HROW : Hid (rowR r = (unitsR r.inp 97, unitsR r.out 97)) := by unfold rowR; rw [if_neg hodd]; exact rfl
        rw [hodd'] at kq
        clear hodd hodd'
        obtain ⟨B1, e1, rfl, _⟩ := id HU1.out
        obtain ⟨B2, e2, rfl, _⟩ := id HU2.out
        have hbr' : Below wr.heap.size wr wc := hbx.mono hwr
        have UV1 : Us (fun b => (Value.slice A7 acc.length c7).ownBlock ≠ some b) wc (.slice B1 (unitsR r.inp 97).length e1) (unitsR r.inp 97) := HU1.out.step (Nat.le_refl _) fun b _ hx => ⟨fun e => by have := HOL.out _ e; have := hx.1; omega, rfl⟩
        have UV2 : Us (fun b => (Value.slice A7 acc.length c7).ownBlock ≠ some b) wc (.slice B2 (unitsR r.out 97).length e2) (unitsR r.out 97) := HU2.out.step (Nat.le_refl _) fun b _ hx => ⟨fun e => by have := HOL.out _ e; have := hx.1; omega, rfl⟩
        have hw1' : Below w.heap.size w wc := hb.trans (hbr'.mono hs)
        obtain ⟨xs, hown, hx⟩ := ho.out.below hbr' (by omega)
        have HX := Lib.hid hx
        clear hx
        go_wp2_with (at_builtin; refine wpList_appB _ rfl _ _ 25 rfl w.heap.size 54 i0 _ 2 48 Try.underlying25 hi hz0 hz1 hz2 rfl (by decide) _ _ _ rfl (hown.alloc _) (wc.heap.size + 1) _ 1 1 [.slice B1 (unitsR r.inp 97).length e1, .slice B2 (unitsR r.out 97).length e2] rfl rfl ?c1 ?c2 ?c3 ?c4 ?c5 ?_)
        case c1 => exact Rd_newR _ _ _ _ rfl
        case c2 => intro u hu; simp at hu; rcases hu with rfl | rfl <;> first | exact UV1.one | exact UV2.one
        case c3 => simp only [maxLen]; omega
        case c4 => omega
        case c5 => simp; omega
        intro v' w4 hown4 hg4 hv4
        have hbA : Below wc.heap.size wc (wc.alloc (.cells #[.slice B1 (unitsR r.inp 97).length e1, .slice B2 (unitsR r.out 97).length e2] 54)) := (Below.refl _ _).alloc (Nat.le_refl _) _
        have hpush : OwnRs w.heap.size w4 v' (acc ++ [rowR r]) := by
          refine own_push (v := .slice A7 acc.length c7) (xs := xs) (by simpa using hown4) (HX.out.step hbA.size fun b hb hx => ⟨hx, hbA.block b hb⟩) ?_ ?_ hg4 (by simpa using hv4)
          · rw [HROW.out]; exact UV1.step hbA.size fun b hb hx => ⟨hx, hbA.block b hb⟩
          · rw [HROW.out]; exact UV2.step hbA.size fun b hb hx => ⟨hx, hbA.block b hb⟩
        have HP := Lib.hid hpush
        have hbE : Below w.heap.size w w4 := below_own (hw1'.trans (hbA.mono (by omega))) hg4 (hown.alloc _) (Nat.le_refl _) (by simp; omega)
        have HMAP : Hid ((rows.take (K + 1)).map rowR = acc ++ [rowR r]) := HSN
        clear hown4 hpush
        go_wp2
        go_roundw
        case rel => exact ⟨K + 1, _, by omega, by go_num, HP, by simp; omega, HMAP, hbE⟩
        case measure => simp [intOf]; omega
theorem right_yes {rs acc ts : List Rl} {K : Nat} (h : rightFrom acc (rs.drop K) = ts) (hK : K < rs.length) (hf : sideB rs[K].1 = true ∧ sideB rs[K].2 = true ∧ findR acc rs[K].1 < 0) : rightFrom (acc ++ [rs[K]]) (rs.drop (K + 1)) = ts := by
  rw [List.drop_eq_getElem_cons hK] at h
  simp only [rightFrom, if_pos hf] at h
  exact h
theorem right_no {rs acc ts : List Rl} {K : Nat} (h : rightFrom acc (rs.drop K) = ts) (hK : K < rs.length) (hf : ¬ (sideB rs[K].1 = true ∧ sideB rs[K].2 = true ∧ findR acc rs[K].1 < 0)) : rightFrom acc (rs.drop (K + 1)) = ts := by
  rw [List.drop_eq_getElem_cons hK] at h
  simp only [rightFrom, if_neg hf] at h
  exact h
theorem right_end {rs acc ts : List Rl} {K : Nat} (h : rightFrom acc (rs.drop K) = ts) (hK : rs.length ≤ K) : ts = acc := by
  rw [List.drop_of_length_le hK] at h
  exact h.symm
end Go.Proofs.Ytikbmagolgcbfaa
namespace Go.Proofs.Ytikbmagolgcbfaa
set_option linter.unusedVariables false
open Go.RowKit
set_option maxHeartbeats 3200000 in
theorem right_any (n : Nat) (A : Option Addr) (c : Nat) (rows : List RowL) (B : Nat) (w : World) (hr : RwAt w B A n c rows) (hB : B ≤ w.heap.size) (ts : List Rl) (ht : rightR (rulesR rows) = ts) :
    Calls Try.prog 25 #[.slice A n c] w fun e w' => ∃ v, e = .returned v ∧ OwnRs w.heap.size w' v ts ∧ Below w.heap.size w w' := by
  obtain ⟨i0, hi, hz0, HZ1, hz2⟩ := info_parts inforl
  obtain ⟨rs, hrs⟩ : ∃ rs, rulesR rows = rs := ⟨_, rfl⟩
  rw [hrs] at ht
  have hl40 : rs.length ≤ 40 := by rw [← hrs]; exact rulesR_len rows
  have HR := Lib.hid hr
  have HT := Lib.hid ht
  have HRS := Lib.hid hrs
  clear hr ht hrs
  go_enter Try.func25, Try.ntmps25
  go_wp2_with fail
  refine (rules_any n A c rows B _ HR.out hB rs HRS.out).mono ?_
  rintro e w1 ⟨v1, rfl, ho1, hb1⟩
  obtain ⟨A1, c1, rfl, hat1⟩ := ho1.form
  obtain ⟨N, hN⟩ : ∃ N, N = rs.length := ⟨_, rfl⟩
  rw [← hN] at hat1 hl40 ⊢
  have HAT := Lib.hid hat1
  have HN := Lib.hid hN
  have hs0 := hb1.size
  have hc1 := hat1.fits
  have hc2 := hat1.small
  unfold maxLen at hc2
  obtain ⟨S, hS⟩ : ∃ S, S = w1.heap.size := ⟨_, rfl⟩
  have hS1 : S ≤ w1.heap.size := Nat.le_of_eq hS
  have hS2 : w1.heap.size ≤ S := Nat.le_of_eq hS.symm
  clear ho1 hat1 hN hS
  go_wp2
  go_loopw [3, 9] (fun v i wr => ∃ (K : Nat) (acc : List Rl), K ≤ N ∧ i = .int .i64 K ∧ Hid (OwnRs S wr v acc) ∧ acc.length ≤ K ∧ Hid (rightFrom acc (rs.drop K) = ts) ∧ Below S w1 wr) (fun _ i _ => N - (intOf i).toNat)
  case atStart => exact ⟨0, [], by omega, rfl, OwnRs.nil _ _, by simp, HT.out, Below.refl _ _⟩
  case round =>
    obtain ⟨K, acc, hK, rfl, ho, hacc, hf, hb⟩ := hrel
    have hs := hb.size
    by_cases hKq : K = N
    · have hK' : ¬ K < N := by omega
      have HE : Hid (ts = acc) := right_end hf.out (by rw [← HN.out]; omega)
      clear hKq
      go_wp2
      go_ret
      exact ⟨_, rfl, by rw [HE.out]; exact ho.out.low (by omega), hb1.trans (hb.mono (by omega))⟩
    have hK' : K < N := by omega
    have hK1 : K < rs.length := by rw [← HN.out]; exact hK'
    obtain ⟨b, o, rfl, hbB, A2, n2, c2, A3, n3, c3, g1, g2, e1, e2, e3, e4, f1, f2, f3, f4⟩ := HAT.out.at hK1
    have hcl : ∀ o', wr.cell? ⟨b, o', none⟩ = w1.cell? ⟨b, o', none⟩ := fun o' => hb.cell (p := ⟨b, o', none⟩) (by show b < _; omega)
    have k1 := (hcl _).trans g1
    have k2 := (hcl _).trans g2
    have k3 : (0 : Int) ≤ K := by omega
    have k4 : (K : Int) < N := by omega
    have E1 := Lib.hid e1
    have F1 := Lib.hid f1
    have E4 := Lib.hid (e4.below (hb.mono hS2) (Nat.le_refl _))
    have F4 := Lib.hid (f4.below (hb.mono hS2) (Nat.le_refl _))
    have M1 : Hid (n2 ≤ 9223372036854775807) := by unfold maxLen at e3; exact (show n2 ≤ 9223372036854775807 by omega)
    have M2 : Hid (n3 ≤ 9223372036854775807) := by unfold maxLen at f3; exact (show n3 ≤ 9223372036854775807 by omega)
    have E3 := Lib.hid e3
    have F3 := Lib.hid f3
    obtain ⟨a, ha⟩ : ∃ a, sideB rs[K].1 = a := ⟨_, rfl⟩
    obtain ⟨d, hd⟩ : ∃ d, sideB rs[K].2 = d := ⟨_, rfl⟩
    have HA := Lib.hid ha
    have HD := Lib.hid hd
    obtain ⟨A7, c7, rfl, hat7⟩ := ho.out.form
    have HAT7 := Lib.hid hat7
    have hsz : ∀ (wz : World) o, (wz.alloc o).heap.size = wz.heap.size + 1 := fun wz o => by simp
    have hbA : ∀ o, Below wr.heap.size wr (wr.alloc o) := fun o => (Below.refl _ _).alloc (Nat.le_refl _) _
    have HSZ := Lib.hid hsz
    have HBA := Lib.hid hbA
    clear g1 g2 e1 e4 f1 f4 e3 f3 ha hd hcl hat7 hsz hbA
    cases a with
    | false =>
      have HE := Lib.hid (right_no hf.out hK1 (by rw [HA.out]; simp))
      go_wp2_with fail
      refine (may_any n2 A2 c2 rs[K].1 w1.heap.size _ E1.out (E4.out.below ((HBA.out _).mono (by omega)) (Nat.le_refl _)) M1.out _ HA.out).mono ?_
      rintro e w2 ⟨rfl, rfl⟩
      go_wp2
      go_roundw
      case rel => exact ⟨K + 1, acc, by omega, by go_num, ho.out.below (HBA.out _) (by omega), by omega, HE, hb.trans ((HBA.out _).mono (by omega))⟩
      case measure => simp [intOf]; omega
    | true =>
      cases d with
      | false =>
        have HE := Lib.hid (right_no hf.out hK1 (by rw [HD.out]; simp))
        go_wp2_with fail
        refine (may_any n2 A2 c2 rs[K].1 w1.heap.size _ E1.out (E4.out.below ((HBA.out _).mono (by omega)) (Nat.le_refl _)) M1.out _ HA.out).mono ?_
        rintro e w2 ⟨rfl, rfl⟩
        go_wp2_with fail
        refine (may_any n3 A3 c3 rs[K].2 w1.heap.size _ F1.out (F4.out.below ((HBA.out _).mono (by omega)) (Nat.le_refl _)) M2.out _ HD.out).mono ?_
        rintro e w2 ⟨rfl, rfl⟩
        go_wp2
        go_roundw
        case rel => exact ⟨K + 1, acc, by omega, by go_num, ho.out.below (HBA.out _) (by omega), by omega, HE, hb.trans ((HBA.out _).mono (by omega))⟩
        case measure => simp [intOf]; omega
      | true =>
        have hfe := findR_lo acc rs[K].1
        obtain ⟨fd, hfd⟩ : ∃ fd, findR acc rs[K].1 = fd := ⟨_, rfl⟩
        rw [hfd] at hfe
        have HFD := Lib.hid hfd
        clear hfd
        go_wp2_with fail
        refine (may_any n2 A2 c2 rs[K].1 w1.heap.size _ E1.out (E4.out.below ((HBA.out _).mono (by omega)) (Nat.le_refl _)) M1.out _ HA.out).mono ?_
        rintro e w2 ⟨rfl, rfl⟩
        go_wp2_with fail
        refine (may_any n3 A3 c3 rs[K].2 w1.heap.size _ F1.out (F4.out.below ((HBA.out _).mono (by omega)) (Nat.le_refl _)) M2.out _ HD.out).mono ?_
        rintro e w2 ⟨rfl, rfl⟩
        go_wp2_with fail
        refine (find_law _ _ A7 A2 c7 c2 acc rs[K].1 wr.heap.size w1.heap.size _ (HAT7.out.below (HBA.out _) (Nat.le_refl _)) E1.out (E4.out.below ((HBA.out _).mono (by omega)) (Nat.le_refl _)) e2 E3.out (by simp) (by simp; omega) fd HFD.out).mono ?_
        rintro e w2 ⟨rfl, hb2⟩
        have hbl : Below wr.heap.size wr w2 := (HBA.out _).trans (hb2.mono (by simp))
        have hz1 : wr.heap.size < w2.heap.size := by have := hb2.size; simp at this; omega
        have q0 : w2.cell? ⟨wr.heap.size, 0, none⟩ = some (.slice A2 n2 c2) := by rw [hb2.cell (p := ⟨wr.heap.size, 0, none⟩) (by simp)]; exact World.cell?_alloc_new (w := wr) _ _ 0
        have q1 : w2.cell? ⟨wr.heap.size, 1, none⟩ = some (.slice A3 n3 c3) := by rw [hb2.cell (p := ⟨wr.heap.size, 1, none⟩) (by simp)]; exact World.cell?_alloc_new (w := wr) _ _ 1
        by_cases hfd0 : fd < 0
        · have HE := Lib.hid (right_yes hf.out hK1 ⟨HA.out, HD.out, by rw [HFD.out]; exact hfd0⟩)
          have hfdb : decide (fd < 0) = true := by simpa using hfd0
          obtain ⟨xs, hown, hx⟩ := ho.out.below hbl (Nat.le_refl _)
          have HX := Lib.hid hx
          have hlow : ∀ x, (Value.slice A7 acc.length c7).ownBlock = some x → S ≤ x := fun x hx => (hown.lt x hx).1
          have UV1 : Us (fun b => (Value.slice A7 acc.length c7).ownBlock ≠ some b) w2 (.slice A2 n2 c2) rs[K].1 := (us_at E1.out e2 E3.out (E4.out.below (hbl.mono (by omega)) (Nat.le_refl _))).step (Nat.le_refl _) fun b _ hx => ⟨fun e => by have := hlow _ e; have : b < w1.heap.size := hx; omega, rfl⟩
          have UV2 : Us (fun b => (Value.slice A7 acc.length c7).ownBlock ≠ some b) w2 (.slice A3 n3 c3) rs[K].2 := (us_at F1.out f2 F3.out (F4.out.below (hbl.mono (by omega)) (Nat.le_refl _))).step (Nat.le_refl _) fun b _ hx => ⟨fun e => by have := hlow _ e; have : b < w1.heap.size := hx; omega, rfl⟩
          have HLOW := Lib.hid hlow
          clear hx hlow
          go_wp2_with (at_builtin; refine wpList_appB _ rfl _ _ 25 rfl S 54 i0 _ 2 48 Try.underlying25 hi hz0 HZ1 hz2 rfl (by decide) _ _ _ rfl (hown.alloc _) (w2.heap.size + 1) _ 1 1 [.slice A2 n2 c2, .slice A3 n3 c3] rfl rfl ?c1 ?c2 ?c3 ?c4 ?c5 ?_)
          case c1 => exact Rd_newR _ _ _ _ rfl
          case c2 => intro u hu; simp at hu; rcases hu with rfl | rfl <;> rfl
          case c3 => simp only [maxLen]; omega
          case c4 => omega
          case c5 => simp; omega
          intro v' w4 hown4 hg4 hv4
          have hbA : Below w2.heap.size w2 (w2.alloc (.cells #[.slice A2 n2 c2, .slice A3 n3 c3] 54)) := (Below.refl _ _).alloc (Nat.le_refl _) _
          have hpush : OwnRs S w4 v' (acc ++ [rs[K]]) := by
            refine own_push (v := .slice A7 acc.length c7) (xs := xs) (by simpa using hown4) (HX.out.step hbA.size fun b hb hx => ⟨hx, hbA.block b hb⟩) ?_ ?_ hg4 (by simpa using hv4)
            · exact UV1.step hbA.size fun b hb hx => ⟨hx, hbA.block b hb⟩
            · exact UV2.step hbA.size fun b hb hx => ⟨hx, hbA.block b hb⟩
          have HP := Lib.hid hpush
          have hbE : Below S w1 w4 := below_own (hb.trans ((hbl.mono (by omega)).trans (hbA.mono (by omega)))) hg4 (hown.alloc _) (Nat.le_refl _) (by simp; omega)
          clear hown4 hpush
          go_wp2
          go_roundw
          case rel => exact ⟨K + 1, _, by omega, by go_num, HP, by simp; omega, HE, hbE⟩
          case measure => simp [intOf]; omega
        · have HE := Lib.hid (right_no hf.out hK1 (by rw [HFD.out]; omega))
          have hfdb : decide (fd < 0) = false := by simpa using hfd0
          go_wp2
          go_roundw
          case rel => exact ⟨K + 1, acc, by omega, by go_num, ho.out.below hbl (by omega), by omega, HE, hb.trans (hbl.mono (by omega))⟩
          case measure => simp [intOf]; omega
end Go.Proofs.Ytikbmagolgcbfaa
namespace Go.Proofs.Ytikbmagolgcbfaa
set_option linter.unusedVariables false
open Go.RowKit
/-- these cells are those of the tokens -/
def Tks (X : Nat → Prop) (w : World) : List Value → List Tk → Prop
  | [], [] => True
  | a :: b :: s :: e :: xs, t :: ts => a = .int .i64 t.pos ∧ b = .int .i64 t.size ∧ Us X w s t.out ∧ e = .int .i64 t.err ∧ Tks X w xs ts
  | _, _ => False
theorem Tks.step {X Y : Nat → Prop} {w w' : World} (hs : w.heap.size ≤ w'.heap.size) (hk : ∀ b, b < w.heap.size → X b → Y b ∧ w'.heap[b]? = w.heap[b]?) : ∀ {xs : List Value} {ts : List Tk}, Tks X w xs ts → Tks Y w' xs ts
  | [], [], _ => trivial
  | a :: b :: s :: e :: xs, t :: ts, ⟨h1, h2, h3, h4, h5⟩ => ⟨h1, h2, h3.step hs hk, h4, Tks.step hs hk h5⟩
theorem Tks.length {X : Nat → Prop} {w : World} : ∀ {xs : List Value} {ts : List Tk}, Tks X w xs ts → xs.length = ts.length * 4
  | [], [], _ => rfl
  | a :: b :: s :: e :: xs, t :: ts, ⟨_, _, _, _, h⟩ => by simp only [List.length_cons, Tks.length h]; omega
theorem Tks.app {X : Nat → Prop} {w : World} : ∀ {xs ys : List Value} {ts us : List Tk}, Tks X w xs ts → Tks X w ys us → Tks X w (xs ++ ys) (ts ++ us)
  | [], _, [], _, _, h => h
  | a :: b :: s :: e :: xs, _, t :: ts, _, ⟨h1, h2, h3, h4, h5⟩, h => ⟨h1, h2, h3, h4, Tks.app h5 h⟩
theorem Tks.one {X : Nat → Prop} {w : World} {s : Value} {p z e : Int} {o : List Int} (h : Us X w s o) : Tks X w [.int .i64 p, .int .i64 z, s, .int .i64 e] [⟨p, z, o, e⟩] := ⟨rfl, rfl, h, rfl, trivial⟩
theorem Tks.ones {X : Nat → Prop} {w : World} : ∀ {xs : List Value} {ts : List Tk}, Tks X w xs ts → ∀ u ∈ xs, u.oneCell' = true
  | [], [], _, u, hu => by cases hu
  | a :: b :: s :: e :: xs, t :: ts, ⟨h1, h2, h3, h4, h5⟩, u, hu => by
    simp only [List.mem_cons] at hu
    rcases hu with rfl | rfl | rfl | rfl | hu
    · rw [h1]; rfl
    · rw [h2]; rfl
    · exact h3.one
    · rw [h4]; rfl
    · exact Tks.ones h5 u hu
theorem Tks.at {X : Nat → Prop} {w : World} : ∀ {xs : List Value} {ts : List Tk} (h : Tks X w xs ts) (k : Nat) (hk : k < ts.length),
    ∃ s, xs[k * 4]? = some (.int .i64 ts[k].pos) ∧ xs[k * 4 + 1]? = some (.int .i64 ts[k].size) ∧ xs[k * 4 + 2]? = some s ∧ xs[k * 4 + 3]? = some (.int .i64 ts[k].err) ∧ Us X w s ts[k].out
  | a :: b :: s :: e :: xs, t :: ts, ⟨h1, h2, h3, h4, h5⟩, 0, _ => ⟨s, by rw [h1]; rfl, by rw [h2]; rfl, rfl, by rw [h4]; rfl, h3⟩
  | a :: b :: s :: e :: xs, t :: ts, ⟨h1, h2, h3, h4, h5⟩, k + 1, hk => by
    obtain ⟨s', g1, g2, g3, g4, g5⟩ := Tks.at h5 k (by simpa using hk)
    have e0 : (k + 1) * 4 = k * 4 + 1 + 1 + 1 + 1 := by omega
    rw [e0]
    exact ⟨s', g1, g2, g3, g4, by simpa using g5⟩
  | [], [], _, k, hk => by cases hk
theorem Tks.split {X : Nat → Prop} {w : World} : ∀ {xs : List Value} {ts us : List Tk}, Tks X w xs (ts ++ us) → Tks X w (xs.take (ts.length * 4)) ts ∧ Tks X w (xs.drop (ts.length * 4)) us
  | xs, [], us, h => by simp; exact ⟨trivial, h⟩
  | [], t :: ts, us, h => h.elim
  | [_], t :: ts, us, h => h.elim
  | [_, _], t :: ts, us, h => h.elim
  | [_, _, _], t :: ts, us, h => h.elim
  | a :: b :: s :: e :: xs, t :: ts, us, ⟨g1, g2, g3, g4, g5⟩ => by
    have ⟨h1, h2⟩ := Tks.split g5
    have e0 : (t :: ts).length * 4 = ts.length * 4 + 1 + 1 + 1 + 1 := by simp only [List.length_cons]; omega
    rw [e0]
    exact ⟨⟨g1, g2, g3, g4, h1⟩, h2⟩
theorem Tks.setPos {X : Nat → Prop} {w : World} {q : Int} : ∀ {xs : List Value} {ts : List Tk} (k : Nat) (t : Tk), ts[k]? = some t → Tks X w xs ts → Tks X w (xs.set (k * 4) (.int .i64 q)) (ts.set k ⟨q, t.size, t.out, t.err⟩)
  | [], [], k, t, h, _ => by simp at h
  | a :: b :: s :: e :: xs, t' :: ts, 0, t, h, ⟨g1, g2, g3, g4, g5⟩ => by
    obtain rfl : t' = t := by simpa using h
    exact ⟨rfl, g2, g3, g4, g5⟩
  | a :: b :: s :: e :: xs, t' :: ts, k + 1, t, h, ⟨g1, g2, g3, g4, g5⟩ => by
    have := Tks.setPos (q := q) k t (by simpa using h) g5
    have e0 : (k + 1) * 4 = k * 4 + 1 + 1 + 1 + 1 := by omega
    rw [e0]
    exact ⟨g1, g2, g3, g4, this⟩

/-- a slice of tokens, all below block B -/
structure TkAt (w : World) (B : Nat) (A : Option Addr) (n c : Nat) (ts : List Tk) : Prop where
  len : n = ts.length
  fits : n ≤ c
  small : c ≤ maxLen
  lies : ∃ xs, Rd w B A xs ∧ Tks (· < B) w xs ts
theorem TkAt.below {w w' : World} {B B' : Nat} {A : Option Addr} {n c : Nat} {ts : List Tk} (h : TkAt w B A n c ts) (hb : Below B w w') (hB : B ≤ B') : TkAt w' B' A n c ts := by
  obtain ⟨h1, h2, h3, xs, h4, h5⟩ := h
  exact ⟨h1, h2, h3, xs, h4.below hb hB, h5.step hb.size fun b _ hl => ⟨Nat.lt_of_lt_of_le hl hB, hb.block b hl⟩⟩
theorem TkAt.cut {w : World} {B : Nat} {A : Option Addr} {n c : Nat} {ts : List Tk} (h : TkAt w B A n c ts) (k : Nat) (hk : k ≤ n) : TkAt w B A k c (ts.take k) := by
  obtain ⟨h1, h2, h3, xs, h4, h5⟩ := h
  have hl : (ts.take k).length = k := by simp; omega
  rw [← List.take_append_drop k ts] at h5
  have h6 := h5.split.1
  rw [hl] at h6
  exact ⟨hl.symm, by omega, h3, xs.take (k * 4), h4.take _, h6⟩
/-- the cells of token k -/
theorem TkAt.at {w : World} {B : Nat} {A : Option Addr} {n c : Nat} {ts : List Tk} (h : TkAt w B A n c ts) {k : Nat} (hk : k < ts.length) :
    ∃ b off, A = some ⟨b, off, none⟩ ∧ b < B ∧ ∃ A1 n1 c1, w.cell? ⟨b, off + k * 4, none⟩ = some (.int .i64 ts[k].pos) ∧ w.cell? ⟨b, off + k * 4 + 1, none⟩ = some (.int .i64 ts[k].size) ∧ w.cell? ⟨b, off + k * 4 + 2, none⟩ = some (.slice A1 n1 c1) ∧ w.cell? ⟨b, off + k * 4 + 3, none⟩ = some (.int .i64 ts[k].err) ∧
      n1 = ts[k].out.length ∧ n1 ≤ c1 ∧ c1 ≤ maxLen ∧ Rd w B A1 (ts[k].out.map (Value.int .i64)) := by
  obtain ⟨h1, h2, h3, xs, h4, h5⟩ := h
  have hlen := Tks.length h5
  obtain ⟨s, g1, g2, g3, g4, A1, c1, rfl, e2, e3, e4⟩ := Tks.at h5 k hk
  rcases h4 with h | ⟨b, off, k1, k2, k3⟩
  · rw [h] at hlen; simp only [List.length_nil] at hlen; omega
  · refine ⟨b, off, k1, k2, A1, _, c1, (k3 _ (by omega)).trans g1, ?_, ?_, ?_, rfl, e2, e3, e4.rdB⟩
    · rw [Nat.add_assoc]; exact (k3 _ (by omega)).trans g2
    · rw [Nat.add_assoc]; exact (k3 _ (by omega)).trans g3
    · rw [Nat.add_assoc]; exact (k3 _ (by omega)).trans g4

/-- a row of tokens of the call's own, from block base on: their units lie elsewhere -/
def OwnTk (base : Nat) (w : World) (v : Value) (ts : List Tk) : Prop := ∃ xs, w.ownsRow base 45 4 v ts.length xs ∧ Tks (fun b => v.ownBlock ≠ some b) w xs ts
theorem OwnTk.nil (base : Nat) (w : World) : OwnTk base w (.slice none 0 0) [] := ⟨[], World.ownsRow_nil _ _ _ _, trivial⟩
theorem OwnTk.form {base : Nat} {w : World} {v : Value} {ts : List Tk} (h : OwnTk base w v ts) : ∃ A c, v = .slice A ts.length c ∧ TkAt w w.heap.size A ts.length c ts := by
  obtain ⟨xs, ho, hr⟩ := h
  obtain ⟨A, c, rfl, h1, h2⟩ := own_form ho
  exact ⟨A, c, rfl, rfl, h1, h2, xs, Rd.own ho, hr.step (Nat.le_refl _) fun b hl _ => ⟨hl, rfl⟩⟩
theorem OwnTk.below {base B : Nat} {w w' : World} {v : Value} {ts : List Tk} (h : OwnTk base w v ts) (hb : Below B w w') (hB : w.heap.size ≤ B) : OwnTk base w' v ts := by
  obtain ⟨xs, ho, hr⟩ := h
  exact ⟨xs, own_below ho hb hB, hr.step hb.size fun b hl hx => ⟨hx, hb.block b (by omega)⟩⟩
theorem OwnTk.drew {base : Nat} {w : World} {v : Value} {ts : List Tk} (h : OwnTk base w v ts) : OwnTk base w.drew v ts := by
  obtain ⟨xs, ho, hr⟩ := h
  exact ⟨xs, ho, hr.step (w := w) (w' := w.drew) (Nat.le_refl _) fun b _ hx => ⟨hx, rfl⟩⟩
theorem OwnTk.low {base base' : Nat} {w : World} {v : Value} {ts : List Tk} (h : OwnTk base w v ts) (hb : base' ≤ base) : OwnTk base' w v ts := by
  obtain ⟨xs, ho, hr⟩ := h
  exact ⟨xs, own_low ho hb, hr⟩
theorem Tks.grown {w w' : World} {v v' : Value} {xs : List Value} {ts : List Tk} (h : Tks (fun b => v.ownBlock ≠ some b) w xs ts) (hg : w.grownBy w' v.ownBlock) (hv : v'.ownBlock = v.ownBlock ∨ v'.ownBlock = some w.heap.size) : Tks (fun b => v'.ownBlock ≠ some b) w' xs ts :=
  h.step hg.size fun b hl hx => ⟨by
    rcases hv with e | e
    · rw [e]; exact hx
    · rw [e]; intro e'; injection e' with e'; omega, hg.block b hl (fun e => hx e.symm)⟩
/-- a token more: what it means lies in block X of the world ahead of the append -/
theorem tok_push {base : Nat} {w1 w2 : World} {v v' : Value} {ts : List Tk} {xs : List Value} {s : Value} {p z e : Int} {o : List Int} (ho : w2.ownsRow base 45 4 v' (ts.length + 1) (xs ++ [.int .i64 p, .int .i64 z, s, .int .i64 e])) (hx : Tks (fun b => v.ownBlock ≠ some b) w1 xs ts)
    (hs : Us (fun b => v.ownBlock ≠ some b) w1 s o) (hg : w1.grownBy w2 v.ownBlock) (hv : v'.ownBlock = v.ownBlock ∨ v'.ownBlock = some w1.heap.size) : OwnTk base w2 v' (ts ++ [⟨p, z, o, e⟩]) :=
  ⟨xs ++ [.int .i64 p, .int .i64 z, s, .int .i64 e], by simpa using ho, Tks.grown (hx.app (Tks.one hs)) hg hv⟩
theorem below_row {B g : Nat} {w0 w : World} (hb : Below B w0 w) (hBg : B ≤ g) (cs : Array Value) : Below B w0 (w.setRow g cs) :=
  ⟨hb.os, hb.tape, hb.output, by rw [setRow_size]; exact hb.size, fun k hk => (setRow_other w g k cs (by omega)).trans (hb.block k hk)⟩
theorem infotok : (Try.prog.info? 45).map (fun i => (i.zero, i.size, i.bytes)) = some (some (.agg #[.int .i64 0, .int .i64 0, .slice none 0 0, .int .i64 0]), 4, 48) := by kernel_rfl
end Go.Proofs.Ytikbmagolgcbfaa
