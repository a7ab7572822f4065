/- Texts of this seat, one behind the other: StwA, StwO, StwB, StwC, StwD, StwE, StwF. -/
import Derived.Test.YtncpokioagpclaaGreatDoorZ37
import Derived.Test.YtncpokioagpclaaGreatDoorZ31
import Derived.Handy
import Derived.Deep.MidRow
import Derived.Test.YtncpokioagpclaaGreatDoorZ6
import Derived.Test.YtncpokioagpclaaGreatDoorZ2
import Derived.Test.YtncpokioagpclaaGreatDoorZ1
namespace Go.Proofs.YtncpokioagpclaaGreatDoor
set_option linter.unusedVariables false
set_option linter.unusedSimpArgs false
set_option linter.unnecessarySimpa false
open Go.RowKit
/-- append bytes -/
theorem wpList_appU8 {w : World} {ops : Array Oper} {rest : List Oper} {o : Oper} {a : Act} {Q : Exit → Act → World → Prop} (hgd : o.guard = none) (s x : Operand)
    (ho : o.op = .call { callee := .builtin .append, args := #[s, x], argTypes := #[22, 22] })
    (base : Nat) (v : Value) (zs : List Int) (hs : a.eval s = v) (hown : OwnI .u8 5 w base v zs) (A : Option Addr) (m c : Nat) (ys : List Int) (hx : a.eval x = .slice A m c) (hm : m = ys.length) (B : Nat) (hr : Rd w B A (ys.map (Value.int .u8)))
    (hsz : zs.length + ys.length ≤ 17592186044415) (hbase : base ≤ w.heap.size)
    (h : ∀ v' w', Hid (OwnI .u8 5 w' base v' (zs ++ ys)) → Hid (w.grownBy w' v.ownBlock) → Hid (v'.ownBlock = v.ownBlock ∨ ∃ b, v'.ownBlock = some b ∧ w.heap.size ≤ b) → wpList Tryz.prog ops Q rest (a.put o.dst v') w') : wpList Tryz.prog ops Q (o :: rest) a w := by
  subst hm
  obtain ⟨i0, hi, hz0, hz1, hz2⟩ := info_parts info5
  refine wpList_appB _ hgd s x 22 ho base 5 i0 (.int .u8 0) 1 1 Tryz.underlying22 hi hz0 hz1 hz2 rfl (by decide) v zs.length _ hs hown B A ys.length c _ hx (by simp) hr (fun u hu => by obtain ⟨y, _, rfl⟩ := List.mem_map.1 hu; rfl) (by simp only [maxLen]; omega) (by omega) hbase ?_
  intro v' w' h1 h2 h3
  refine h v' w' (Lib.hid ?_) (Lib.hid h2) (Lib.hid ?_)
  · unfold OwnI
    rw [List.length_append, List.map_append]
    exact h1
  · rcases h3 with h | h
    · exact .inl h
    · exact .inr ⟨_, h, Nat.le_refl _⟩
/-- append one byte that a slice was just built of -/
theorem wpList_appU1o {w : World} {ops : Array Oper} {rest : List Oper} {o : Oper} {a : Act} {Q : Exit → Act → World → Prop} (hgd : o.guard = none) (s x : Operand)
    (ho : o.op = .call { callee := .builtin .append, args := #[s, x], argTypes := #[22, 22] })
    (base : Nat) (v : Value) (zs : List Int) (y : Int) (hs : a.eval s = v) (hown : OwnI .u8 5 w base v zs) (N : Nat) (hx : a.eval x = .slice (some ⟨N, 0, none⟩) 1 1) (hN : w.heap.size = N)
    (hsz : zs.length ≤ 17592186044414) (hbase : base ≤ w.heap.size)
    (h : ∀ v' w', Hid (OwnI .u8 5 w' base v' (zs ++ [y])) → Hid (w.grownBy w' v.ownBlock) → Hid (v'.ownBlock = v.ownBlock ∨ ∃ b, v'.ownBlock = some b ∧ w.heap.size ≤ b) → wpList Tryz.prog ops Q rest (a.put o.dst v') w') : wpList Tryz.prog ops Q (o :: rest) a (w.alloc (.cells #[.int .u8 y] 5)) := by
  subst hN
  refine wpList_appU8 hgd s x ho base v zs hs (own_below hown ((Below.refl _ w).alloc (Nat.le_refl _) _) (Nat.le_refl _)) _ 1 1 [y] hx rfl _ (rd_new_ints w .u8 [y] _ _ rfl) (by simp; omega) (by simp; omega) ?_
  intro v' w' h1 h2 h3
  refine h v' w' h1 (Lib.hid ((World.grownBy_alloc w _ v.ownBlock).trans h2.out)) (Lib.hid ?_)
  rcases h3.out with h | ⟨b, h, hb⟩
  · exact .inl h
  · exact .inr ⟨b, h, by simp at hb; omega⟩
/-- a stream's block -/
abbrev StC (s1 s2 : ByteArray) (pol : Int) (Vr Vw vo : Value) (f : Flt) (st : Int) : Array Value := #[.string s1, .string s2, .int .i64 pol, Vr, Vw, vo, .int .i64 f.side, .int .i64 f.at_, .int .i64 f.err, .int .i64 st]
/-- a row of tokens; it, and their units, lie in X -/
def OwnTkX (X : Nat → Prop) (w : World) (v : Value) (ts : List Tk) : Prop := ∃ xs base, w.ownsRow base 51 4 v ts.length xs ∧ (∀ g, v.ownBlock = some g → X g) ∧ Tks X w xs ts
theorem OwnTkX.step {X Y : Nat → Prop} {w w' : World} {v : Value} {ts : List Tk} (h : OwnTkX X w v ts) (hs : w.heap.size ≤ w'.heap.size) (hk : ∀ b, b < w.heap.size → X b → Y b ∧ w'.heap[b]? = w.heap[b]?) : OwnTkX Y w' v ts := by
  obtain ⟨xs, base, ho, hX, ht⟩ := h
  have hlt : ∀ g, v.ownBlock = some g → g < w.heap.size := fun g e => (ho.lt g e).2
  refine ⟨xs, base, ?_, fun g e => (hk g (hlt g e) (hX g e)).1, ht.step hs hk⟩
  refine ⟨ho.1, ?_⟩
  rcases ho.2 with h1 | ⟨g, cap, cur, h1, h2, h3, h4⟩
  · exact .inl h1
  · refine .inr ⟨g, cap, cur, h1, h2, ?_, h4⟩
    have e : v.ownBlock = some g := by rw [h1]; rfl
    rw [(hk g (hlt g e) (hX g e)).2]
    exact h3
theorem OwnTkX.cells {X : Nat → Prop} {w : World} {A : Option Addr} {n c : Nat} {ts : List Tk} (h : OwnTkX X w (.slice A n c) ts) (hn : ts.length = n) {K : Nat} (hK : K < n) :
    ∃ g s, A = some ⟨g, 0, none⟩ ∧ w.cell? ⟨g, K * 4, none⟩ = some (.int .i64 (ts[K]'(by omega)).pos) ∧ w.cell? ⟨g, K * 4 + 1, none⟩ = some (.int .i64 (ts[K]'(by omega)).size) ∧ w.cell? ⟨g, K * 4 + 2, none⟩ = some s ∧ w.cell? ⟨g, K * 4 + 3, none⟩ = some (.int .i64 (ts[K]'(by omega)).err) ∧ Us X w s (ts[K]'(by omega)).out := by
  obtain ⟨xs, base, ho, hX, ht⟩ := h
  have hlen := Tks.length ht
  rcases ho.2 with ⟨_, h2⟩ | ⟨g, cap, cur, h1, h2, h3, h4⟩
  · omega
  · have h0 := ho
    rw [h1] at h0
    obtain ⟨s, g1, g2, g3, g4, hu⟩ := ht.at K (by omega)
    refine ⟨g, s, by injection h1, ?_, ?_, ?_, ?_, hu⟩
    · exact (World.ownsRow.cellAt h0 _ (by omega)).trans g1
    · exact (World.ownsRow.cellAt h0 _ (by omega)).trans g2
    · exact (World.ownsRow.cellAt h0 _ (by omega)).trans g3
    · exact (World.ownsRow.cellAt h0 _ (by omega)).trans g4
theorem heldS (W : World) (B j : Nat) (cs : Array Value) (t : TypeId) (v : Value) (h : Held W B cs t) : Held (W.setCell ⟨B, j, none⟩ v) B (cs.setIfInBounds j v) t := by
  have := heap_setCell_same W B j cs t v h
  exact this
theorem thereS {W : World} {q : Nat} {cs : Array Value} {T : TypeId} (h : Held W q cs T) (o n : Nat) (hn : o + n ≤ cs.size) : W.there q o n := fun j hj => ⟨by rw [h.cell (o + j), Array.getElem?_eq_getElem (by omega)]; rfl, h.frozen (o + j)⟩
theorem keepS {W w4 : World} {q S : Nat} {cs : Array Value} {T : TypeId} {v : Value} {zs : List Int} (h : Held W q cs T) (ho : OwnI .u8 5 W S v zs) (hS : q < S) (hg : W.grownBy w4 v.ownBlock) : Held w4 q cs T :=
  h.kept hg fun e => by have := (World.ownsRow.lt ho q e.symm).1; omega
theorem ownV {V0 : Option Nat} {v : Value} {w : World} (h : v.ownBlock = V0 ∨ ∃ b, v.ownBlock = some b ∧ w.heap.size ≤ b) : v.ownBlock = V0 ∨ ∃ b, v.ownBlock = some b ∧ w.heap.size ≤ b := h
theorem ownVN {V0 : Option Nat} {v v' : Value} {w W : World} (h : v'.ownBlock = v.ownBlock ∨ ∃ b, v'.ownBlock = some b ∧ W.heap.size ≤ b) (hv : v.ownBlock = V0 ∨ ∃ b, v.ownBlock = some b ∧ w.heap.size ≤ b) (hs : w.heap.size ≤ W.heap.size) : v'.ownBlock = V0 ∨ ∃ b, v'.ownBlock = some b ∧ w.heap.size ≤ b := by
  rcases h with h | ⟨b, h, hb⟩
  · rw [h]; exact hv
  · exact .inr ⟨b, h, by omega⟩
set_option maxRecDepth 100000 in
set_option maxHeartbeats 1600000 in
/-- units as bytes -/
theorem sbytes_any (n : Nat) (A : Option Addr) (c : Nat) (us : List Int) (X : Nat → Prop) (w : World) (hn : us.length = n) (hu : Us X w (.slice A n c) us) (hl : n ≤ 1000) :
    Calls Tryz.prog 132 #[.slice A n c] w fun e w' => ∃ v, e = .returned v ∧ OwnI .u8 5 w' w.heap.size v (us.map (· % 256)) ∧ Below w.heap.size w w' := by
  have HU := Lib.hid (hu.step (Nat.le_refl _) (Y := fun b => b < w.heap.size) fun b hl hx => ⟨hl, rfl⟩)
  have HQL := Lib.hid hn
  clear hu hn
  go_enter Tryz.func132, Tryz.ntmps132
  go_wp2
  go_loopw [3, 8] (fun v i wr => ∃ K : Nat, K ≤ n ∧ i = .int .i64 K ∧ Hid (OwnI .u8 5 wr w.heap.size v ((us.take K).map (· % 256))) ∧ Hid (Below w.heap.size w wr)) (fun _ i _ => n - (intOf i).toNat)
  case atStart => exact ⟨0, by omega, rfl, Lib.hid (World.ownsRow_nil w w.heap.size _ 1), Lib.hid (Below.refl _ _)⟩
  case round =>
    obtain ⟨K, hK, rfl, HO, HB⟩ := hrel
    have hbs := HB.out.size
    by_cases hKl : K = n
    · have HF := Lib.hid (show us.take K = us by rw [hKl, ← HQL.out, List.take_length])
      have hKl' : ¬ K < n := by omega
      clear hKl
      go_wp2
      go_ret
      exact ⟨_, rfl, by have := HO.out; rw [HF.out] at this; exact this, HB.out⟩
    have hKl' : K < n := by omega
    have hKL : K < us.length := by rw [HQL.out]; exact hKl'
    have hal : ((us.take K).map (· % 256)).length ≤ 1000 := by simp; omega
    have huw := HU.out.step (w' := wr) (Y := fun b => b < w.heap.size) HB.out.size fun b hl hx => ⟨hx, HB.out.block b hl⟩
    obtain ⟨Au, cu, eu, gu1, gu2, gu3⟩ := huw
    obtain ⟨rfl, rfl⟩ : A = Au ∧ c = cu := by injection eu with a b c; exact ⟨a, c⟩
    obtain ⟨b3, o3, rfl, -, hc3⟩ := rd_ints (gu3.rd (Nat.le_refl _)) (by omega)
    have hx := hc3 K hKL
    obtain ⟨y, hy⟩ : ∃ y, us.getD K 0 = y := ⟨_, rfl⟩
    rw [hy] at hx
    have htk : (us.take (K + 1)).map (· % 256) = (us.take K).map (· % 256) ++ [y % 256] := by
      rw [List.take_succ_eq_append_getElem hKL, ← hy, List.getD_eq_getElem?_getD, List.getElem?_eq_getElem hKL, List.map_append]; rfl
    have HTK := Lib.hid htk
    obtain ⟨acc, hacc⟩ : ∃ acc, (us.take K).map (· % 256) = acc := ⟨_, rfl⟩
    rw [hacc] at HO hal HTK
    have k3 : (0 : Int) ≤ K := by omega
    have k4 : (K : Int) < n := by omega
    have hwy : IntKind.u8.wrap y = y % 256 := by rw [IntKind.wrap_u8]
    obtain ⟨A3, c3, rfl, -⟩ := own_form HO.out
    have hwr : w.heap.size ≤ wr.heap.size := hbs
    clear hy hacc htk hKl hc3 gu1 gu2 gu3 eu
    go_wp2_with (at_builtin; refine wpList_appU1o rfl _ _ rfl w.heap.size (.slice A3 acc.length c3) acc (y % 256) rfl HO.out _ rfl (by simp) (by omega) hwr ?_)
    intro v4 w4 hO4 hG4 hV4
    have HB4 : Hid (Below w.heap.size w w4) := Lib.hid (below_rowG HB.out hG4.out (fun b e => (World.ownsRow.lt HO.out b e).1) hwr)
    have HO5 : Hid (OwnI .u8 5 w4 w.heap.size v4 ((us.take (K + 1)).map (· % 256))) := by rw [HTK.out]; exact hO4
    clear hO4 hG4 hV4
    go_wp2_with fail
    go_roundw
    case rel => exact ⟨K + 1, by omega, by go_num, HO5, HB4⟩
    case measure => simp [intOf]; omega
set_option maxRecDepth 100000 in
/-- is anything wrong -/
theorem sfailed_any (q : Nat) (s1 s2 : ByteArray) (pol : Int) (Vr Vw vo : Value) (f : Flt) (st : Int) (w : World) (hm : Held w q (StC s1 s2 pol Vr Vw vo f st) 129) (b : Bool) (hb : (f.side != 0) = b) :
    Calls Tryz.prog 96 #[.pointer (some ⟨q, 0, none⟩)] w fun e w' => e = .returned (.bool b) ∧ w = w' := by
  have c6 := hm.cell 6
  clear hm
  go_enter Tryz.func96, Tryz.ntmps96
  go_wp2
  go_ret
  exact ⟨by rw [← hb]; rfl, rfl⟩
theorem held3 {W : World} {q : Nat} {s1 s2 : ByteArray} {pol : Int} {Vr Vw vo : Value} {f : Flt} {st : Int} (h : Held W q (StC s1 s2 pol Vr Vw vo f st) 129) (a b c : Int) :
    Held (((W.setCell ⟨q, 6, none⟩ (.int .i64 a)).setCell ⟨q, 7, none⟩ (.int .i64 b)).setCell ⟨q, 8, none⟩ (.int .i64 c)) q (StC s1 s2 pol Vr Vw vo ⟨a, b, c⟩ st) 129 :=
  heldS _ _ 8 _ _ _ (heldS _ _ 7 _ _ _ (heldS _ _ 6 _ _ _ h))
set_option maxRecDepth 100000 in
set_option maxHeartbeats 1600000 in
/-- a token is what is wrong -/
theorem sfail_any (q : Nat) (s1 s2 : ByteArray) (pol : Int) (Vr Vw vo : Value) (f : Flt) (st : Int) (w : World) (hm : Held w q (StC s1 s2 pol Vr Vw vo f st) 129) (side tp tz te : Int) (A3 : Option Addr) (n3 c3 : Nat) :
    Calls Tryz.prog 131 #[.pointer (some ⟨q, 0, none⟩), .int .i64 side, .agg #[.int .i64 tp, .int .i64 tz, .slice A3 n3 c3, .int .i64 te]] w fun e w' => e = .returned (.tuple #[]) ∧ Held w' q (StC s1 s2 pol Vr Vw vo (if f.side = 0 then ⟨side, tp, te⟩ else f) st) 129 ∧ w.grownBy w' (some q) := by
  have hlt := hm.lt
  have hb := below_allocI' w (.cells #[.int .i64 tp, .int .i64 tz, .slice A3 n3 c3, .int .i64 te] 51)
  have hq := Held.new w #[.int .i64 tp, .int .i64 tz, .slice A3 n3 c3, .int .i64 te] 51
  have hh := hm.below hb hlt
  have hg := World.grownBy_alloc w (.cells #[.int .i64 tp, .int .i64 tz, .slice A3 n3 c3, .int .i64 te] 51) (some q)
  obtain ⟨N, hN⟩ : ∃ N, w.heap.size = N := ⟨_, rfl⟩
  obtain ⟨W, hW⟩ : ∃ W, w.alloc (.cells #[.int .i64 tp, .int .i64 tz, .slice A3 n3 c3, .int .i64 te] 51) = W := ⟨_, rfl⟩
  rw [hW] at hb hq hh hg
  rw [hN] at hq
  have x0 := hq.cell 0
  have x3 := hq.cell 3
  have HN := Lib.hid hN
  have HW := Lib.hid hW
  have HH := Lib.hid hh
  have HG := Lib.hid hg
  obtain ⟨b, hbb⟩ : ∃ b, (f.side != 0) = b := ⟨_, rfl⟩
  have C1 := Lib.hid (sfailed_any q s1 s2 pol Vr Vw vo f st W hh b hbb)
  have HBB := Lib.hid hbb
  clear hm hb hq hh hg hN hW hbb hlt
  go_enter Tryz.func131, Tryz.ntmps131
  go_wp2_with fail
  rw [HW.out, HN.out]
  refine C1.out.mono ?_
  rintro e w1 ⟨rfl, rfl⟩
  cases b with
  | true =>
    have HS := Lib.hid (show ¬ f.side = 0 by simpa using HBB.out)
    go_wp2_with fail
    go_end0
    exact ⟨rfl, by first | exact HH.out | (rw [if_neg HS.out]; exact HH.out), HG.out⟩
  | false =>
    have HS := Lib.hid (show f.side = 0 by simpa using HBB.out)
    have HTH := Lib.hid (thereS HH.out 6 3 (by show 9 ≤ 10; omega))
    go_wp2_with (refine wpList_store_mid rfl _ _ _ rfl q 6 #[.int .i64 side, .int .i64 tp, .int .i64 te] rfl rfl HTH.out (by kernel_rfl) (by simp [Value.oneCell']) ?_)
    go_end0
    exact ⟨rfl, by first | exact held3 HH.out _ _ _ | (rw [if_pos HS.out]; exact held3 HH.out _ _ _), grown_seq (grown_seq (grown_seq HG.out (grownBy_setCellK _ ⟨q, 6, none⟩ _)) (grownBy_setCellK _ ⟨q, 7, none⟩ _)) (grownBy_setCellK _ ⟨q, 8, none⟩ _)⟩
end Go.Proofs.YtncpokioagpclaaGreatDoor
namespace Go.Proofs.YtncpokioagpclaaGreatDoor
set_option linter.unusedVariables false
set_option linter.unusedSimpArgs false
set_option linter.unnecessarySimpa false
open Go.RowKit
set_option maxRecDepth 100000 in
set_option maxHeartbeats 12800000 in
theorem sowe_any (q : Nat) (s1 s2 : ByteArray) (pol : Int) (Vr Vw : Value) (st : Int) (o : List Int) (f : Flt) (w : World) (S : Nat) (vo : Value) (hm : Held w q (StC s1 s2 pol Vr Vw vo f st) 129) (ho : OwnI .u8 5 w S vo o) (hS : q < S) (hSw : S ≤ w.heap.size) (hf : FltOK f)
    (A : Option Addr) (n c : Nat) (ts : List Tk) (hn : ts.length = n) (ht : OwnTkX (fun b => b ≠ q ∧ vo.ownBlock ≠ some b) w (.slice A n c) ts) (hsm : ∀ t ∈ ts, t.out.length ≤ 8) (hn9 : n ≤ 100000) (ho9 : o.length ≤ 100000000) (hp : 0 ≤ pol ∧ pol ≤ 2) (o' : List Int) (f' : Flt) (hr : toksS pol o f ts = (o', f')) :
    Calls Tryz.prog 98 #[.pointer (some ⟨q, 0, none⟩), .slice A n c] w fun e w' => ∃ vo', e = .returned (.tuple #[]) ∧ Held w' q (StC s1 s2 pol Vr Vw vo' f' st) 129 ∧ OwnI .u8 5 w' S vo' o' ∧ Gr q vo.ownBlock w w' ∧ (vo'.ownBlock = vo.ownBlock ∨ ∃ b, vo'.ownBlock = some b ∧ w.heap.size ≤ b) := by
  obtain ⟨V0, hV0⟩ : ∃ V0, vo.ownBlock = V0 := ⟨_, rfl⟩
  rw [hV0] at ht ⊢
  have HH0 := Lib.hid hm
  have HO0 := Lib.hid ho
  have HT0 := Lib.hid (ht.step (Nat.le_refl _) (Y := fun b => b < w.heap.size ∧ b ≠ q ∧ V0 ≠ some b) fun b hl hx => ⟨⟨hl, hx⟩, rfl⟩)
  have HN := Lib.hid hn
  have HSM := Lib.hid hsm
  have HR := Lib.hid hr
  have HF := Lib.hid hf
  have HG0 := Lib.hid (Gr.refl q V0 w)
  have HVV := Lib.hid hV0
  have HOL := Lib.hid ho9
  obtain ⟨p0, p2⟩ := hp
  have hml := hm.lt
  clear hm ho ht hn hsm hr hV0 ho9 hf
  go_enter Tryz.func98, Tryz.ntmps98
  go_wp2_with fail
  go_loopw [8] (fun i wr => ∃ (K : Nat) (vk : Value) (ok : List Int) (fk : Flt), K ≤ n ∧ i = .int .i64 K ∧ Hid (toksS pol o f (ts.take K) = (ok, fk)) ∧ Hid (Held wr q (StC s1 s2 pol Vr Vw vk fk st) 129) ∧ Hid (OwnI .u8 5 wr S vk ok) ∧ Hid (Gr q V0 w wr) ∧ Hid (vk.ownBlock = V0 ∨ ∃ b, vk.ownBlock = some b ∧ w.heap.size ≤ b) ∧ Hid (ok.length ≤ o.length + 8 * K)) (fun i _ => n - (intOf i).toNat)
  case atStart => exact ⟨0, vo, o, f, by omega, rfl, Lib.hid rfl, HH0, HO0, HG0, Lib.hid (.inl HVV.out), Lib.hid (by simp)⟩
  case round =>
    clear HH0 HO0 HG0
    obtain ⟨K, vk, ok, fk, hK, rfl, hrk, hh, ho, hg, hv, hl⟩ := hrel
    obtain ⟨wa, rfl⟩ : ∃ wa : World, wa = wr := ⟨_, rfl⟩
    by_cases hKn : K = n
    · have hK' : ¬ K < n := by omega
      have HE := Lib.hid (show ok = o' ∧ fk = f' by
        have h1 := hrk.out
        rw [List.take_of_length_le (by rw [HN.out]; omega), HR.out] at h1
        injection h1 with h1 h2
        exact ⟨h1.symm, h2.symm⟩)
      obtain ⟨rfl, rfl⟩ := HE.out
      clear hKn hrk HE
      go_wp2
      go_end0
      exact ⟨vk, rfl, hh.out, ho.out, hg.out, hv.out⟩
    have hK' : K < n := by omega
    have hK1 : K < ts.length := by rw [HN.out]; exact hK'
    have k3 : (0 : Int) ≤ K := by omega
    have k4 : (K : Int) < n := by omega
    have htx := HT0.out.step (w' := wa) (Y := fun b => b < w.heap.size ∧ b ≠ q ∧ V0 ≠ some b) hg.out.size fun b hl hx => ⟨hx, hg.out.block b hl hx.2.1 (fun e => hx.2.2 e.symm)⟩
    obtain ⟨g, sv, rfl, q0, q1, q2, q3, hu3⟩ := htx.cells HN.out hK'
    have htk : ts.take (K + 1) = ts.take K ++ [ts[K]] := List.take_succ_eq_append_getElem hK1
    have hnx : toksS pol o f (ts.take (K + 1)) = toksS pol ok fk [ts[K]] := by rw [htk, toksS_app, hrk.out]
    have hstop : fk.err ≠ 0 → ok = o' ∧ fk = f' := fun h => by
      have h1 := HR.out
      rw [← List.take_append_drop K ts, toksS_app, hrk.out, toksS_stop h] at h1
      injection h1 with h1 h2
      exact ⟨h1, h2⟩
    have hfk : FltOK fk := by have := toksS_ok (pol := pol) (ts.take K) o f HF.out; rw [hrk.out] at this; exact this
    have hs3 := HSM.out _ (List.getElem_mem hK1)
    obtain ⟨t, htt⟩ : ∃ t, ts[K] = t := ⟨_, rfl⟩
    rw [htt] at q0 q1 q3 hu3 hs3 hnx
    obtain ⟨tp, tz, u, te⟩ := t
    simp only at q0 q1 q3 hu3 hs3
    obtain ⟨A3, c3, rfl, hu31, hu32, hu33⟩ := hu3
    have hu3 : Us (fun b => b < w.heap.size ∧ b ≠ q ∧ V0 ≠ some b) wa (.slice A3 u.length c3) u := ⟨A3, c3, rfl, hu31, hu32, hu33⟩
    obtain ⟨n3, hn3⟩ : ∃ n3, u.length = n3 := ⟨_, rfl⟩
    rw [hn3] at q2 hs3 hu3
    have HSM3 := Lib.hid hs3
    have HN3 := Lib.hid hn3
    have HNX := Lib.hid hnx
    have HSTOP := Lib.hid hstop
    have HFK := Lib.hid hfk
    have hba := below_allocI' wa (.cells #[.int .i64 tp, .int .i64 tz, .slice A3 n3 c3, .int .i64 te] 51)
    have HQ := Held.new wa #[.int .i64 tp, .int .i64 tz, .slice A3 n3 c3, .int .i64 te] 51
    have hqa : q < wa.heap.size := hh.out.lt
    have hwa : w.heap.size ≤ wa.heap.size := hg.out.size
    have hSa : S ≤ wa.heap.size := Nat.le_trans hSw hwa
    have hvl : ∀ b, vk.ownBlock = some b → b < wa.heap.size := fun b e => (World.ownsRow.lt ho.out b e).2
    obtain ⟨N, hN⟩ : ∃ N, wa.heap.size = N := ⟨_, rfl⟩
    obtain ⟨W, hW⟩ : ∃ W, wa.alloc (.cells #[.int .i64 tp, .int .i64 tz, .slice A3 n3 c3, .int .i64 te] 51) = W := ⟨_, rfl⟩
    have hsW : W.heap.size = N + 1 := by rw [← hW, ← hN]; simp
    rw [hW] at hba HQ
    have hhW := hh.out.below hba hh.out.lt
    have hoW : OwnI .u8 5 W S vk ok := own_below ho.out hba (Nat.le_refl _)
    have hgW := hg.out.below hba
    have huW := hu3.step (w' := W) (Y := fun b => b < w.heap.size ∧ b ≠ q ∧ V0 ≠ some b) hba.size fun b hl hx => ⟨hx, hba.block b hl⟩
    rw [hN] at HQ hqa hwa hSa hvl
    have x0 := HQ.cell 0
    have x1 := HQ.cell 1
    have x2 := HQ.cell 2
    have x3 := HQ.cell 3
    have c2 := hhW.cell 2
    obtain ⟨A0, n0, c0, hvk⟩ : ∃ A0 n0 c0, vk = .slice A0 n0 c0 := by obtain ⟨A, c, h, _⟩ := own_form ho.out; exact ⟨_, _, _, h⟩
    subst hvk
    have HVN := Lib.hid (show (Value.slice A0 n0 c0).ownBlock ≠ some N from fun e => by have := hvl N e; omega)
    have HNQ := Lib.hid (show N ≠ q by omega)
    have c5 := hhW.cell 5
    have f5 := hhW.frozen 5
    have HHW := Lib.hid hhW
    have HOW := Lib.hid hoW
    have HGW := Lib.hid hgW
    have HUW := Lib.hid huW
    have HSZ := Lib.hid hsW
    have HWE := Lib.hid hW
    have HNE := Lib.hid hN
    have HXN := Lib.hid (show q < N ∧ w.heap.size ≤ N ∧ S ≤ N from ⟨hqa, hwa, hSa⟩)
    have HOK := Lib.hid (show ok.length ≤ 1000000000 by have := hl.out; have := HOL.out; omega)
    obtain ⟨b, hbb⟩ : ∃ b, (fk.side != 0) = b := ⟨_, rfl⟩
    have C1 := Lib.hid (sfailed_any q s1 s2 pol Vr Vw _ fk st W hhW b hbb)
    have HBB := Lib.hid hbb
    clear hba hhW hoW hgW huW htx hu3 hu31 hu32 hu33 htt htk hnx hstop hg ho hh hKn hrk hn3 HQ hK1 hfk hs3 hN hW hsW hqa hwa hSa hvl hbb
    go_wp2_with fail
    rw [HWE.out, HNE.out]
    refine C1.out.mono ?_
    rintro e w1 ⟨rfl, rfl⟩
    clear C1
    cases b with
    | true =>
      have HE : fk.err ≠ 0 := fun e => by
        have h1 := HBB.out
        have h2 := HFK.out.2 e
        simp [h2] at h1
      obtain ⟨rfl, rfl⟩ := HSTOP.out HE
      clear HE HNX HSTOP
      go_wp2_with fail
      (try simp only [Exit.inBlock, Exit.then]); refine bodyPost_ret (results_none rfl _ _ _) rfl ?_
      exact ⟨_, rfl, HHW.out, HOW.out, HGW.out, hv.out⟩
    | false =>
      have he : fk.err = 0 := HFK.out.1 (by simpa using HBB.out)
      have HE := Lib.hid he
      clear he HSTOP
      by_cases ht0 : te = 0
      · subst ht0
        have HSTEP := Lib.hid (show toksS pol o f (ts.take (K + 1)) = (ok ++ u.map (· % 256), fk) by rw [HNX.out]; simp only [toksS]; rw [if_neg (by have := HE.out; simpa using this), if_pos trivial])
        clear HNX
        go_upto_region 5 with fail
        have HHd : Hid (Held W.drew q _ 129) := Lib.hid (HHW.out.below ((Below.refl W.heap.size W).drew) HHW.out.lt)
        have HOd : Hid (OwnI .u8 5 W.drew S (.slice A0 n0 c0) ok) := Lib.hid (own_below HOW.out ((Below.refl W.heap.size W).drew) (Nat.le_refl _))
        have HGd : Hid (Gr q V0 w W.drew) := Lib.hid (HGW.out.below ((Below.refl W.heap.size W).drew))
        have HU3d : Hid (Us (fun b => b < w.heap.size ∧ b ≠ q ∧ V0 ≠ some b) W.drew (.slice A3 n3 c3) u) := Lib.hid (HUW.out.step (Nat.le_refl _) fun b hl hx => ⟨hx, rfl⟩)
        have HQd : Hid (q < W.drew.heap.size) := Lib.hid HHW.out.lt
        have HSd : Hid (S ≤ W.drew.heap.size) := Lib.hid (by show S ≤ W.heap.size; have := HXN.out; have := HSZ.out; omega)
        have HNd : Hid (N < W.drew.heap.size) := Lib.hid (by show N < W.heap.size; have := HSZ.out; omega)
        refine wp_region_fork (G := SameB N) (.soft 0 (.soft 1 (.soft 2 (.soft 3 (.soft 5 (.soft 6 (.two 4 7 (.one 7 (.one 8 (.soft 9 (.soft 10 (.one 11 .done))))) (.one 4 (.one 8 (.soft 9 (.soft 10 (.one 11 .done)))))))))))) 
          (SameB.refl _) (SameB.trans _) (by kernel_rfl) rfl (by kernel_rfl) (by kernel_rfl) ?_
        iterate 5 (refine fork_soft rfl rfl ?_; go_big_quiet_step ((intro _; rfl)); refine wpQuiet_nil ?_)
        refine fork_soft rfl rfl ?_
        go_big_quiet_step ((intro hh; rw [hh.cell, World.cell?_drew, x2]; exact ⟨rfl, rfl⟩))
        refine wpQuiet_nil ?_
        refine fork_two rfl rfl ?_ ?_
        · go_wp2_with fail
          refine ⟨SameB.refl _ _, ?_⟩
          refine fork_one rfl ?_
          go_wp2_with fail
          refine (sbytes_any n3 A3 c3 u _ _ HN3.out HU3d.out (by have := HSM3.out; omega)).mono ?_
          rintro e w4 ⟨v4, rfl, hO4, hb4⟩
          obtain ⟨A4, c4, rfl, -, -⟩ := own_form hO4
          obtain ⟨n4, hn4⟩ : ∃ n4, (u.map (· % 256)).length = n4 := ⟨_, rfl⟩
          have HR4 := Lib.hid (Rd.own hO4)
          rw [hn4] at hO4 ⊢
          have HN4 := Lib.hid hn4.symm
          have HHW4 := Lib.hid (HHd.out.below hb4 HQd.out)
          have HOW4 : Hid (OwnI .u8 5 w4 S (.slice A0 n0 c0) ok) := Lib.hid (own_below HOd.out hb4 (Nat.le_refl _))
          have HGW4 := Lib.hid (HGd.out.below hb4)
          have HS4 := Lib.hid (show S ≤ w4.heap.size from Nat.le_trans HSd.out hb4.size)
          have HNW4 := Lib.hid (show N < w4.heap.size from Nat.lt_of_lt_of_le HNd.out hb4.size)
          have hsb4 := SameB.of hb4 HNd.out
          have HVN4 := Lib.hid HVN.out
          clear hn4 hO4 hb4
          go_wp2_with fail
          refine ⟨hsb4, ?_⟩
          refine fork_one rfl ?_
          go_wp2_with (at_builtin; refine wpList_appU8 rfl _ _ rfl S (.slice A0 n0 c0) ok rfl HOW4.out A4 n4 c4 (u.map (· % 256)) rfl HN4.out _ HR4.out (by have := HOK.out; have h1 := HSM3.out; have h2 := HN3.out; rw [List.length_map]; omega) HS4.out ?_)
          intro v5 w5 hO5 hG5 hV5
          obtain ⟨A5, c5', rfl, -, -⟩ := own_form hO5.out
          obtain ⟨L5, hL5⟩ : ∃ L, (ok ++ u.map (· % 256)).length = L := ⟨_, rfl⟩
          rw [hL5] at hO5 hV5 ⊢
          clear hL5
          have hh5 := keepS HHW4.out HOW4.out hS hG5.out
          have g5 := hh5.frozen 5
          have e5 := hh5.cell 5
          have HH5 := Lib.hid hh5
          have HSB5 := Lib.hid (show SameB N w4 w5 from SameB.grown hG5.out HNW4.out (HVN4.out))
          clear hh5
          go_wp2_with fail
          refine ⟨HSB5.out, ?_⟩
          refine fork_soft rfl rfl ?_
          go_big_quiet_step ((intro _; rfl))
          refine wpQuiet_nil ?_
          refine fork_soft rfl rfl ?_
          go_big_quiet_step ((intro _; rfl))
          refine wpQuiet_nil ?_
          refine fork_one rfl ?_
          go_wp2_with fail
          refine ⟨SameB.grown (grownBy_setCellK w5 ⟨q, 5, none⟩ _) (by have := HSB5.out.2; have := HNW4.out; omega) (fun e => by injection e with e; exact HNQ.out e.symm), ?_⟩
          refine fork_done (NoPanic.normal ?_)
          go_wp2_with fail
          go_roundw
          case rel => exact ⟨K + 1, _, ok ++ u.map (· % 256), fk, by omega, by go_num, HSTEP, Lib.hid (heldS _ _ 5 _ _ _ HH5.out), Lib.hid (own_kept hO5.out (grownBy_setCellK _ ⟨q, 5, none⟩ _) hS), Lib.hid ((HGW4.out.grown hG5.out (ownV hv.out)).set _ (.inl rfl)), Lib.hid (ownVN hV5.out hv.out HGW4.out.size), Lib.hid (by have := hl.out; have := HSM3.out; have := HN3.out; simp; omega)⟩
          case measure => simp [intOf]; omega
        · go_wp2_with fail
          refine (sbytes_any n3 A3 c3 u _ _ HN3.out HU3d.out (by have := HSM3.out; omega)).mono ?_
          rintro e w4 ⟨v4, rfl, hO4, hb4⟩
          obtain ⟨A4, c4, rfl, -, -⟩ := own_form hO4
          obtain ⟨n4, hn4⟩ : ∃ n4, (u.map (· % 256)).length = n4 := ⟨_, rfl⟩
          have HR4 := Lib.hid (Rd.own hO4)
          rw [hn4] at hO4 ⊢
          have HN4 := Lib.hid hn4.symm
          have HHW4 := Lib.hid (HHd.out.below hb4 HQd.out)
          have HOW4 : Hid (OwnI .u8 5 w4 S (.slice A0 n0 c0) ok) := Lib.hid (own_below HOd.out hb4 (Nat.le_refl _))
          have HGW4 := Lib.hid (HGd.out.below hb4)
          have HS4 := Lib.hid (show S ≤ w4.heap.size from Nat.le_trans HSd.out hb4.size)
          have HNW4 := Lib.hid (show N < w4.heap.size from Nat.lt_of_lt_of_le HNd.out hb4.size)
          have hsb4 := SameB.of hb4 HNd.out
          have HVN4 := Lib.hid HVN.out
          clear hn4 hO4 hb4
          go_wp2_with fail
          refine ⟨hsb4, ?_⟩
          have c5 := HHW4.out.cell 5
          refine fork_one rfl ?_
          go_wp2_with fail
          refine ⟨SameB.refl _ _, ?_⟩
          clear c5
          refine fork_one rfl ?_
          go_wp2_with (at_builtin; refine wpList_appU8 rfl _ _ rfl S (.slice A0 n0 c0) ok rfl HOW4.out A4 n4 c4 (u.map (· % 256)) rfl HN4.out _ HR4.out (by have := HOK.out; have h1 := HSM3.out; have h2 := HN3.out; rw [List.length_map]; omega) HS4.out ?_)
          intro v5 w5 hO5 hG5 hV5
          obtain ⟨A5, c5', rfl, -, -⟩ := own_form hO5.out
          obtain ⟨L5, hL5⟩ : ∃ L, (ok ++ u.map (· % 256)).length = L := ⟨_, rfl⟩
          rw [hL5] at hO5 hV5 ⊢
          clear hL5
          have hh5 := keepS HHW4.out HOW4.out hS hG5.out
          have g5 := hh5.frozen 5
          have e5 := hh5.cell 5
          have HH5 := Lib.hid hh5
          have HSB5 := Lib.hid (show SameB N w4 w5 from SameB.grown hG5.out HNW4.out (HVN4.out))
          clear hh5
          go_wp2_with fail
          refine ⟨HSB5.out, ?_⟩
          refine fork_soft rfl rfl ?_
          go_big_quiet_step ((intro _; rfl))
          refine wpQuiet_nil ?_
          refine fork_soft rfl rfl ?_
          go_big_quiet_step ((intro _; rfl))
          refine wpQuiet_nil ?_
          refine fork_one rfl ?_
          go_wp2_with fail
          refine ⟨SameB.grown (grownBy_setCellK w5 ⟨q, 5, none⟩ _) (by have := HSB5.out.2; have := HNW4.out; omega) (fun e => by injection e with e; exact HNQ.out e.symm), ?_⟩
          refine fork_done (NoPanic.normal ?_)
          go_wp2_with fail
          go_roundw
          case rel => exact ⟨K + 1, _, ok ++ u.map (· % 256), fk, by omega, by go_num, HSTEP, Lib.hid (heldS _ _ 5 _ _ _ HH5.out), Lib.hid (own_kept hO5.out (grownBy_setCellK _ ⟨q, 5, none⟩ _) hS), Lib.hid ((HGW4.out.grown hG5.out (ownV hv.out)).set _ (.inl rfl)), Lib.hid (ownVN hV5.out hv.out HGW4.out.size), Lib.hid (by have := hl.out; have := HSM3.out; have := HN3.out; simp; omega)⟩
          case measure => simp [intOf]; omega
      · have tne : (te == 0) = false := by simpa using ht0
        by_cases hp0 : pol = 0
        · subst hp0
          have HSTEP := Lib.hid (show toksS 0 o f (ts.take (K + 1)) = (ok, ⟨2, tp, te⟩) by rw [HNX.out]; simp only [toksS]; rw [if_neg (by have := HE.out; simpa using this), if_neg ht0, if_pos trivial])
          have C2 := Lib.hid (sfail_any q s1 s2 0 Vr Vw _ fk st W HHW.out 2 tp tz te A3 n3 c3)
          have HS0 := Lib.hid (HFK.out.2 HE.out)
          clear HNX
          go_wp2_with fail
          refine C2.out.mono ?_
          rintro e w4 ⟨rfl, hh4, hg4⟩
          rw [if_pos HS0.out] at hh4
          have HH4 := Lib.hid hh4
          have HO4 := Lib.hid (own_kept HOW.out hg4 hS)
          have HG4 := Lib.hid (⟨hg4.os.trans HGW.out.os, hg4.tape.trans HGW.out.tape, hg4.output.trans HGW.out.output, Nat.le_trans HGW.out.size hg4.size, fun k hk hp hv => (hg4.block k (Nat.lt_of_lt_of_le hk HGW.out.size) (fun e => by injection e with e; exact hp e)).trans (HGW.out.block k hk hp hv)⟩ : Gr q V0 w w4)
          clear hh4 hg4 C2
          go_wp2_with fail
          go_roundw
          case rel => exact ⟨K + 1, _, ok, ⟨2, tp, te⟩, by omega, by go_num, HSTEP, HH4, HO4, HG4, hv, Lib.hid (by have := hl.out; omega)⟩
          case measure => simp [intOf]; omega
        · by_cases hp1 : pol = 1
          · subst hp1
            have HSTEP := Lib.hid (show toksS 1 o f (ts.take (K + 1)) = (ok ++ [63], fk) by rw [HNX.out]; simp only [toksS]; rw [if_neg (by have := HE.out; simpa using this), if_neg ht0, if_neg (by decide), if_pos trivial])
            clear HNX
            go_wp2_with (at_builtin; refine wpList_appU1o rfl _ _ rfl S (.slice A0 n0 c0) ok 63 rfl HOW.out _ rfl (by simp) (by have := HOK.out; omega) (by have := HXN.out; have := HSZ.out; omega) ?_)
            intro v4 w4 hO4 hG4 hV4
            obtain ⟨A4, c4, rfl, -, -⟩ := own_form hO4.out
            obtain ⟨L4, hL4⟩ : ∃ L, (ok ++ [63]).length = L := ⟨_, rfl⟩
            rw [hL4] at hO4 hV4 ⊢
            clear hL4
            have hh4 := keepS HHW.out HOW.out hS hG4.out
            have g5 := hh4.frozen 5
            have e5 := hh4.cell 5
            have HH4 := Lib.hid hh4
            clear hh4
            go_wp2_with fail
            go_roundw
            case rel => exact ⟨K + 1, _, ok ++ [63], fk, by omega, by go_num, HSTEP, Lib.hid (heldS _ _ 5 _ _ _ HH4.out), Lib.hid (own_kept hO4.out (grownBy_setCellK _ ⟨q, 5, none⟩ _) hS), Lib.hid ((HGW.out.grown hG4.out (ownV hv.out)).set _ (.inl rfl)), Lib.hid (ownVN hV4.out hv.out HGW.out.size), Lib.hid (by have := hl.out; simp; omega)⟩
            case measure => simp [intOf]; omega
          · have d0 : (pol == 0) = false := by simpa using hp0
            have d1 : (pol == 1) = false := by simpa using hp1
            have HSTEP := Lib.hid (show toksS pol o f (ts.take (K + 1)) = (ok, fk) by rw [HNX.out]; simp only [toksS]; rw [if_neg (by have := HE.out; simpa using this), if_neg ht0, if_neg hp0, if_neg hp1])
            clear HNX
            go_wp2_with fail
            go_roundw
            case rel => exact ⟨K + 1, _, ok, fk, by omega, by go_num, HSTEP, HHW, HOW, HGW, hv, Lib.hid (by have := hl.out; omega)⟩
            case measure => simp [intOf]; omega
end Go.Proofs.YtncpokioagpclaaGreatDoor
namespace Go.Proofs.YtncpokioagpclaaGreatDoor
set_option linter.unusedVariables false
set_option linter.unusedSimpArgs false
set_option linter.unnecessarySimpa false
open Go.RowKit
/-- what a stream's writing side writes -/
def Wr (q : Nat) (vo : Value) (G : Nat → Prop) : Nat → Prop := fun b => b = q ∨ vo.ownBlock = some b ∨ G b
/-- what a stream's writing has: its block, what is owed, its encoder; w0: the world at first, in which W0 may be written; F0: what the encoder looked at then -/
structure StE (k : Nat) (s1 s2 : ByteArray) (pol : Int) (Vr : Value) (st : Int) (q p S : Nat) (w0 : World) (W0 F0 : Nat → Prop) (w : World) (vo : Value) (G F : Nat → Prop) (e : ESt) (o : List Int) (f : Flt) : Prop where
  box : Held w q (StC s1 s2 pol Vr (vE k p) vo f st) 129
  row : OwnI .u8 5 w S vo o
  enc : ∃ e', EV theW k G F w p e' ∧ (st = 1 → f.err = 0 → e' = e)
  ql : e.q.length ≤ 7
  lt : q < S
  top : S ≤ w.heap.size
  fq : ¬ F q
  fv : ∀ b, vo.ownBlock = some b → ¬ F b
  mid : Mid W0 w0 w
  wq : W0 q
  wv : ∀ b, vo.ownBlock = some b → W0 b ∨ w0.heap.size ≤ b
  wg : ∀ b, G b → W0 b ∨ w0.heap.size ≤ b
  wf : ∀ b, F b → F0 b ∨ w0.heap.size ≤ b
  ok : FltOK f
section
variable {k : Nat} {s1 s2 : ByteArray} {pol : Int} {Vr : Value} {st : Int} {q p S : Nat} {w0 w w1 w2 : World} {W0 F0 : Nat → Prop} {vo : Value} {G F : Nat → Prop} {e : ESt} {o : List Int} {f : Flt}
theorem StE.vlt (h : StE k s1 s2 pol Vr st q p S w0 W0 F0 w vo G F e o f) : ∀ b, vo.ownBlock = some b → b < w.heap.size := fun b e => (World.ownsRow.lt h.row b e).2
theorem StE.gf (h : StE k s1 s2 pol Vr st q p S w0 W0 F0 w vo G F e o f) : (∀ b, G b → F b) ∧ ∀ b, F b → b < w.heap.size := by
  obtain ⟨e', he, _⟩ := h.enc; exact ⟨he.foot.1, he.foot.2.1⟩
theorem StE.wrlt (h : StE k s1 s2 pol Vr st q p S w0 W0 F0 w vo G F e o f) : ∀ b, Wr q vo G b → b < w.heap.size := fun b hb => by
  rcases hb with rfl | hb | hb
  · exact h.box.lt
  · exact h.vlt b hb
  · exact h.gf.2 b (h.gf.1 b hb)
theorem StE.wr0 (h : StE k s1 s2 pol Vr st q p S w0 W0 F0 w vo G F e o f) : ∀ b, Wr q vo G b → W0 b ∨ w0.heap.size ≤ b := fun b hb => by
  rcases hb with rfl | hb | hb
  · exact .inl h.wq
  · exact h.wv b hb
  · exact h.wg b hb
/-- seen from here -/
theorem StE.start (h : StE k s1 s2 pol Vr st q p S w0 W0 F0 w vo G F e o f) : StE k s1 s2 pol Vr st q p S w (Wr q vo G) F w vo G F e o f :=
  ⟨h.box, h.row, h.enc, h.ql, h.lt, h.top, h.fq, h.fv, Mid.refl _ w, .inl rfl, fun b e => .inl (.inr (.inl e)), fun b hb => .inl (.inr (.inr hb)), fun b hb => .inl hb, h.ok⟩
/-- seen from where it was -/
theorem StE.rebase (h : StE k s1 s2 pol Vr st q p S w0 W0 F0 w vo G F e o f) {st' : Int} {vo' : Value} {G' F' : Nat → Prop} {e' : ESt} {o' : List Int} {f' : Flt} (h' : StE k s1 s2 pol Vr st' q p S w (Wr q vo G) F w1 vo' G' F' e' o' f') : StE k s1 s2 pol Vr st' q p S w0 W0 F0 w1 vo' G' F' e' o' f' := by
  have hs := h.mid.size
  refine ⟨h'.box, h'.row, h'.enc, h'.ql, h'.lt, h'.top, h'.fq, h'.fv, h.mid.then h'.mid h.wr0, h.wq, fun b e => ?_, fun b hb => ?_, fun b hb => ?_, h'.ok⟩
  · rcases h'.wv b e with h1 | h1
    · exact h.wr0 b h1
    · exact .inr (by omega)
  · rcases h'.wg b hb with h1 | h1
    · exact h.wr0 b h1
    · exact .inr (by omega)
  · rcases h'.wf b hb with h1 | h1
    · exact h.wf b h1
    · exact .inr (by omega)
/-- other blocks are written -/
theorem StE.midX (h : StE k s1 s2 pol Vr st q p S w0 W0 F0 w vo G F e o f) {X : Nat → Prop} (hm : Mid X w w1) (hX : ∀ b, X b → b ≠ q ∧ vo.ownBlock ≠ some b ∧ ¬ F b) (h0 : ∀ b, X b → W0 b ∨ w0.heap.size ≤ b) : StE k s1 s2 pol Vr st q p S w0 W0 F0 w1 vo G F e o f := by
  obtain ⟨e', he, hee⟩ := h.enc
  exact ⟨(hm.block q h.box.lt fun hx => (hX q hx).1 rfl).trans h.box, own_mid h.row hm (fun b e hx => (hX b hx).2.1 e), ⟨e', he.stay hm.size fun b hb => hm.block b (he.foot.2.1 b hb) (fun hx => (hX b hx).2.2 hb), hee⟩, h.ql, h.lt, Nat.le_trans h.top hm.size, h.fq, h.fv, h.mid.then hm h0, h.wq, h.wv, h.wg, h.wf, h.ok⟩
theorem StE.below (h : StE k s1 s2 pol Vr st q p S w0 W0 F0 w vo G F e o f) (hb : Below w.heap.size w w1) : StE k s1 s2 pol Vr st q p S w0 W0 F0 w1 vo G F e o f :=
  h.midX (X := fun _ => False) ⟨hb.os, hb.tape, hb.output, hb.size, fun k hk _ => hb.block k hk⟩ (fun _ h => h.elim) (fun _ h => h.elim)
/-- the encoder was called, and what it told was written -/
theorem StE.next (h : StE k s1 s2 pol Vr st q p S w0 W0 F0 w vo G F e o f) {G' F' : Nat → Prop} {v vo' : Value} {B : Nat} {fr : Prop} {e2 e' : ESt} {o' : List Int} {f' : Flt} (hE : EV theW k G' F' w1 p e2) {st' : Int} (he : st' = 1 → f'.err = 0 → e2 = e') (hq7 : e'.q.length ≤ 7) (hT : Told G G' F F' w w1 v B fr)
    (hb : Held w2 q (StC s1 s2 pol Vr (vE k p) vo' f' st') 129) (ho : OwnI .u8 5 w2 S vo' o') (hg : Gr q vo.ownBlock w1 w2) (hv : vo'.ownBlock = vo.ownBlock ∨ ∃ b, vo'.ownBlock = some b ∧ w1.heap.size ≤ b) (hf' : FltOK f') :
    StE k s1 s2 pol Vr st' q p S w0 W0 F0 w2 vo' G' F' e' o' f' := by
  have hq := h.box.lt
  have hf := hE.foot
  have hs := hT.mid.size
  have hfq : ¬ F' q := fun hx => by
    rcases hT.news q hx with h1 | h1
    · exact h.fq h1
    · omega
  have hvl := h.vlt
  have hfv : ∀ b, vo.ownBlock = some b → ¬ F' b := fun b e hx => by
    rcases hT.news b hx with h1 | h1
    · exact h.fv b e h1
    · have := hvl b e; omega
  have hm0 := h.mid.size
  refine ⟨hb, ho, ⟨e2, hE.stay hg.size fun b hx => hg.block b (hf.2.1 b hx) (fun e => hfq (e ▸ hx)) (fun e => hfv b e.symm hx), he⟩, hq7, h.lt, Nat.le_trans h.top (Nat.le_trans hs hg.size), hfq, fun b e hx => ?_, ?_, h.wq, fun b e => ?_, fun b hb => ?_, fun b hb => ?_, hf'⟩
  · rcases hv with h1 | ⟨b2, h1, h2⟩
    · exact hfv b (h1.symm.trans e) hx
    · rw [h1] at e; injection e with e; have := hf.2.1 b hx; omega
  · refine (h.mid.then hT.mid h.wg).then (G := fun b => b = q ∨ vo.ownBlock = some b) ⟨hg.os, hg.tape, hg.output, hg.size, fun b hl hn => hg.block b hl (fun e => hn (.inl e)) (fun e => hn (.inr e.symm))⟩ fun b hb => ?_
    rcases hb with rfl | hb
    · exact .inl h.wq
    · exact h.wv b hb
  · rcases hv with h1 | ⟨b2, h1, h2⟩
    · exact h.wv b (h1.symm.trans e)
    · rw [h1] at e; injection e with e; exact .inr (by omega)
  · rcases hT.gnew b hb with h1 | h1
    · exact h.wg b h1
    · exact .inr (by omega)
  · rcases hT.news b hb with h1 | h1
    · exact h.wf b h1
    · exact .inr (by omega)
/-- another state is set -/
theorem StE.setSt (h : StE k s1 s2 pol Vr st q p S w0 W0 F0 w vo G F e o f) (st' : Int) (hs : st' = 1 → st = 1) : StE k s1 s2 pol Vr st' q p S w0 W0 F0 (w.setCell ⟨q, 9, none⟩ (.int .i64 st')) vo G F e o f := by
  obtain ⟨e', he, hee⟩ := h.enc
  have hg := grownBy_setCellK w ⟨q, 9, none⟩ (.int .i64 st')
  exact ⟨heldS _ _ 9 _ _ _ h.box, own_kept h.row hg h.lt, ⟨e', he.stay hg.size fun b hb => hg.block b (he.foot.2.1 b hb) (fun x => by injection x with x; have x2 : b = q := x; rw [x2] at hb; exact h.fq hb), fun x => hee (hs x)⟩, h.ql, h.lt, Nat.le_trans h.top hg.size, h.fq, h.fv, h.mid.then (G := fun b => b = q) (Mid.by hg rfl) (fun b hb => by rw [hb]; exact .inl h.wq), h.wq, h.wv, h.wg, h.wf, h.ok⟩
/-- behind a call of the encoder: what sowe_any asks -/
theorem StE.mid1 (h : StE k s1 s2 pol Vr st q p S w0 W0 F0 w vo G F e o f) {G' F' : Nat → Prop} {v : Value} {B : Nat} {fr : Prop} {ts : List Tk} (hT : Told G G' F F' w w1 v B fr) (hts : OwnTkB B w1 v ts) :
    Held w1 q (StC s1 s2 pol Vr (vE k p) vo f st) 129 ∧ OwnI .u8 5 w1 S vo o ∧ S ≤ w1.heap.size ∧ OwnTkX (fun b => b ≠ q ∧ vo.ownBlock ≠ some b) w1 v ts := by
  have hF := h.gf.1
  have hq := h.box.lt
  have hvl := h.vlt
  have hB := hT.base
  refine ⟨(hT.mid.block q hq fun hx => h.fq (hF q hx)).trans h.box, own_mid h.row hT.mid (fun b e hx => h.fv b e (hF b hx)), Nat.le_trans h.top hT.mid.size, ?_⟩
  obtain ⟨xs, hown, ht⟩ := hts
  have key : ∀ b, B ≤ b → b ≠ q ∧ vo.ownBlock ≠ some b := fun b hb => ⟨by omega, fun e => by have := hvl b e; omega⟩
  exact ⟨xs, B, hown, fun g e => key g (hown.lt g e).1, ht.step (Nat.le_refl _) fun b _ hx => ⟨key b hx.2, rfl⟩⟩
end
set_option maxRecDepth 100000 in
set_option maxHeartbeats 6400000 in
theorem swrite_any {k : Nat} {s1 s2 : ByteArray} {pol : Int} {Vr : Value} {q p S : Nat} {w0 w : World} {W0 F0 : Nat → Prop} {vo : Value} {G F : Nat → Prop} {e : ESt} {o : List Int} {f : Flt} (hk : k ≤ 6) (hp : 0 ≤ pol ∧ pol ≤ 2) (h0 : StE k s1 s2 pol Vr 1 q p S w0 W0 F0 w vo G F e o f)
    (n : Nat) (A : Option Addr) (c : Nat) (us : List Int) (hn : us.length = n) (hu : Us (fun b => ¬ Wr q vo G b) w (.slice A n c) us) (hn8 : n ≤ 8) (ha : e.a + (e.q.length : Int) ≤ 80000) (ho9 : o.length ≤ 50000000) (e' : ESt) (o' : List Int) (f' : Flt) (hr : writeS k pol e o f us = (e', o', f')) :
    Calls Tryz.prog 130 #[.pointer (some ⟨q, 0, none⟩), .slice A n c] w fun x w' => ∃ vo' G' F', x = .returned (.tuple #[]) ∧ StE k s1 s2 pol Vr 1 q p S w (Wr q vo G) F w' vo' G' F' e' o' f' := by
  have hS := h0.lt
  have H0 := Lib.hid h0.start
  have HN := Lib.hid hn
  have HU := Lib.hid (hu.step (Nat.le_refl _) (Y := fun b => b < w.heap.size ∧ ¬ Wr q vo G b) fun b hl hx => ⟨⟨hl, hx⟩, rfl⟩)
  have HR := Lib.hid hr
  have HQ7 := Lib.hid h0.ql
  have HFK := Lib.hid h0.ok
  have HA := Lib.hid ha
  have HOL := Lib.hid ho9
  have HP := Lib.hid hp
  have HK6 := Lib.hid hk
  obtain ⟨T, x, hV, m1, m2, m3, e1, e2, e3⟩ := kindE k p
  obtain ⟨V, hVV⟩ : ∃ V, vE k p = V := ⟨_, rfl⟩
  have HV := Lib.hid hVV
  rw [hVV] at hV
  subst hV
  unfold Enters at e1 e2 e3
  clear h0 hn hu hr ha ho9 hp hk hVV m2 m3 e2 e3
  go_enter Tryz.func130, Tryz.ntmps130
  go_wp2_with fail
  go_loopw [8] (fun i wr => ∃ (K : Nat) (vk : Value) (Gk Fk : Nat → Prop) (ek : ESt) (ok : List Int) (fk : Flt), K ≤ n ∧ i = .int .i64 K ∧ Hid (writeS k pol e o f (us.take K) = (ek, ok, fk)) ∧ Hid (StE k s1 s2 pol Vr 1 q p S w (Wr q vo G) F wr vk Gk Fk ek ok fk)) (fun i _ => n - (intOf i).toNat)
  case atStart => exact ⟨0, vo, G, F, e, o, f, by omega, rfl, Lib.hid rfl, H0⟩
  case round =>
    obtain ⟨K, vk, Gk, Fk, ek, ok, fk, hK, rfl, hrk, hst⟩ := hrel
    obtain ⟨wa, rfl⟩ : ∃ wa : World, wa = wr := ⟨_, rfl⟩
    by_cases hKn : K = n
    · have hK' : ¬ K < n := by omega
      have HE := Lib.hid (show ek = e' ∧ ok = o' ∧ fk = f' by
        have h1 := hrk.out
        rw [List.take_of_length_le (by rw [HN.out]; omega), HR.out] at h1
        injection h1 with h1 h2
        injection h2 with h2 h3
        exact ⟨h1.symm, h2.symm, h3.symm⟩)
      obtain ⟨rfl, rfl, rfl⟩ := HE.out
      clear hKn hrk HE
      go_wp2
      go_end0
      exact ⟨_, _, _, rfl, hst.out⟩
    have hK' : K < n := by omega
    have hK1 : K < us.length := by rw [HN.out]; exact hK'
    have k3 : (0 : Int) ≤ K := by omega
    have k4 : (K : Int) < n := by omega
    have huw := HU.out.step (w' := wa) (Y := fun b => b < w.heap.size) hst.out.mid.size fun b hl hx => ⟨hl, hst.out.mid.block b hl hx.2⟩
    obtain ⟨Au, cu, eu, gu1, gu2, gu3⟩ := huw
    obtain ⟨rfl, rfl⟩ : A = Au ∧ c = cu := by injection eu with a b c; exact ⟨a, c⟩
    obtain ⟨b3, o3, rfl, -, hc3⟩ := rd_ints (gu3.rd (Nat.le_refl _)) (by omega)
    have hx := hc3 K hK1
    have htk : us.take (K + 1) = us.take K ++ [us.getD K 0] := by rw [List.take_succ_eq_append_getElem hK1, List.getD_eq_getElem?_getD, List.getElem?_eq_getElem hK1]; rfl
    obtain ⟨u, hy⟩ : ∃ u, us.getD K 0 = u := ⟨_, rfl⟩
    rw [hy] at hx htk
    obtain ⟨b1, b2, b3', -⟩ := writeS_b HK6.out (pol := pol) (us.take K) e o f HQ7.out HFK.out
    rw [hrk.out] at b1 b2 b3'
    rw [List.length_take, Nat.min_eq_left (by omega)] at b2 b3'
    simp only at b1 b2 b3'
    have hfo : 0 ≤ ek.a ∨ ¬ fk.err = 0 := by
      obtain ⟨e2, he2, hee⟩ := hst.out.enc
      by_cases hfe : fk.err = 0
      · rw [hee rfl hfe] at he2; exact .inl he2.foot.2.2
      · exact .inr hfe
    have HB := Lib.hid (show ek.a ≤ 90000 ∧ ok.length ≤ 100000000 by have := HA.out; have := HOL.out; omega)
    obtain ⟨b, hbb⟩ : ∃ b, (fk.side != 0) = b := ⟨_, rfl⟩
    have C1 := Lib.hid (sfailed_any q s1 s2 pol Vr _ vk fk 1 wa hst.out.box b hbb)
    have HBB := Lib.hid hbb
    have HTK := Lib.hid htk
    clear eu gu1 gu2 gu3 hc3 hy htk hKn hK1 b1 b2 b3' hbb hfo
    go_wp2_with fail
    refine C1.out.mono ?_
    rintro e9 w1 ⟨rfl, rfl⟩
    clear C1
    cases b with
    | true =>
      have HE := Lib.hid (show fk.err ≠ 0 from fun e => by
        have h1 := HBB.out
        have h2 := hst.out.ok.2 e
        simp [h2] at h1)
      have HEE := Lib.hid (show ek = e' ∧ ok = o' ∧ fk = f' by
        have h1 := writeS_end hrk.out HE.out
        rw [HR.out] at h1
        injection h1 with h1 h2
        injection h2 with h2 h3
        exact ⟨h1.symm, h2.symm, h3.symm⟩)
      obtain ⟨rfl, rfl, rfl⟩ := HEE.out
      clear hrk HEE HE
      go_wp2_with fail
      (try simp only [Exit.inBlock, Exit.then]); refine bodyPost_ret (results_none rfl _ _ _) rfl ?_
      exact ⟨_, _, _, rfl, hst.out⟩
    | false =>
      have HE := Lib.hid (show fk.err = 0 from hst.out.ok.1 (by simpa using HBB.out))
      have c4 := hst.out.box.cell 4
      rw [show (StC s1 s2 pol Vr (vE k p) vk fk 1)[4]? = some (vE k p) from rfl, HV.out] at c4
      have C2 : Hid (Calls Tryz.prog (fPE k) #[.pointer (some ⟨p, 0, none⟩), .int .i64 u] wa fun e w' => ∃ v G' F' B, e = .returned v ∧ OwnTkB B w' v (putE k ek u).1 ∧ EV theW k G' F' w' p (putE k ek u).2 ∧ Told Gk G' Fk F' wa w' v B (ek.q = [] ∧ ek.a = 0)) := by
        obtain ⟨e2, he2, hee⟩ := hst.out.enc
        rw [hee rfl HE.out] at he2
        exact Lib.hid (he2.put HK6.out u HB.out.1)
      have HSM := Lib.hid (show (∀ t ∈ (putE k ek u).1, t.out.length ≤ 8) ∧ (putE k ek u).1.length ≤ 8 from ⟨putE_small HK6.out ek u, putE_len HK6.out ek u hst.out.ql⟩)
      have HNX := Lib.hid (show writeS k pol e o f (us.take (K + 1)) = ((putE k ek u).2, (toksS pol ok fk (putE k ek u).1).1, (toksS pol ok fk (putE k ek u).1).2) by
        rw [HTK.out, writeS_snoc, hrk.out]
        simp only [writeS]
        rw [if_neg (by have := HE.out; simpa using this)])
      have HQ2 := Lib.hid (putE_q HK6.out ek u)
      obtain ⟨ts, hts⟩ : ∃ ts, (putE k ek u).1 = ts := ⟨_, rfl⟩
      obtain ⟨en, hen⟩ : ∃ en, (putE k ek u).2 = en := ⟨_, rfl⟩
      rw [hts, hen] at C2 HNX
      rw [hts] at HSM
      rw [hen] at HQ2
      obtain ⟨on, fn, hon⟩ : ∃ on fn, toksS pol ok fk ts = (on, fn) := ⟨_, _, rfl⟩
      rw [hon] at HNX
      have HON := Lib.hid hon
      clear hts hen hon
      go_wp2_with fail
      refine C2.out.mono ?_
      rintro e9 w1 ⟨v1, G1, F1, B1, rfl, ho1, hE1, hT1⟩
      obtain ⟨A1, c1, hv1, -⟩ := ho1.form
      subst hv1
      obtain ⟨g1, g2, g3, g4⟩ := hst.out.mid1 hT1 ho1
      have C3 := Lib.hid (sowe_any q s1 s2 pol Vr _ 1 ok fk w1 S vk g1 g2 hS g3 hst.out.ok A1 ts.length c1 ts rfl g4 HSM.out.1 (by have := HSM.out.2; omega) HB.out.2 HP.out on fn HON.out)
      have HE1 := Lib.hid hE1
      have HT1 := Lib.hid hT1
      have HFN := Lib.hid (show FltOK fn by have := toksS_ok (pol := pol) ts ok fk hst.out.ok; rw [HON.out] at this; exact this)
      obtain ⟨m1', hm1'⟩ : ∃ m, ts.length = m := ⟨_, rfl⟩
      rw [hm1'] at C3 HT1 ⊢
      clear ho1 hE1 hT1 g1 g2 g3 g4 hm1' C2 c4
      go_wp2_with fail
      refine C3.out.mono ?_
      rintro e9 w2 ⟨vn, rfl, hb2, ho2, hg2, hv2⟩
      have HST := Lib.hid (hst.out.next (e' := en) HE1.out (fun _ _ => rfl) HQ2.out HT1.out hb2 ho2 hg2 hv2 HFN.out)
      clear hb2 ho2 hg2 hv2 C3
      go_wp2_with fail
      go_roundw
      case rel => exact ⟨K + 1, vn, _, _, en, on, fn, by omega, by go_num, HNX, HST⟩
      case measure => simp [intOf]; omega
end Go.Proofs.YtncpokioagpclaaGreatDoor
namespace Go.Proofs.YtncpokioagpclaaGreatDoor
set_option linter.unusedVariables false
set_option linter.unusedSimpArgs false
set_option linter.unnecessarySimpa false
open Go.RowKit
theorem takesS_one {k : Nat} {pol : Int} {e e1 : ESt} {o o1 : List Int} {f f1 : Flt} {ts : List Tk} {K : Nat} {t : Tk} (htk : ts.take (K + 1) = ts.take K ++ [t]) (h : takesS k pol e o f (ts.take K) = (e1, o1, f1)) (hf : f1.err = 0) : takesS k pol e o f (ts.take (K + 1)) = takeS k pol e1 o1 f1 t := by
  rw [htk, takesS_app, h]
  simp only [takesS]
  rw [if_neg (by simpa using hf)]
theorem takeS_ok {k : Nat} {pol : Int} {e : ESt} {o : List Int} {f : Flt} {tp tz : Int} {u : List Int} : takeS k pol e o f ⟨tp, tz, u, 0⟩ = writeS k pol e o f u := by
  unfold takeS outS
  simp
theorem takeS_rep {k : Nat} {e : ESt} {o : List Int} {f : Flt} {tp tz te : Int} {u : List Int} (h : te ≠ 0) : takeS k 1 e o f ⟨tp, tz, u, te⟩ = writeS k 1 e o f [65533] := by
  unfold takeS outS
  simp [h]
theorem takeS_skip {k : Nat} {pol : Int} {e : ESt} {o : List Int} {f : Flt} {tp tz te : Int} {u : List Int} (h : te ≠ 0) (h0 : pol ≠ 0) (h1 : pol ≠ 1) : takeS k pol e o f ⟨tp, tz, u, te⟩ = (e, o, f) := by
  unfold takeS outS
  simp [h, h0, h1, writeS]
theorem takeS_strict {k : Nat} {e : ESt} {o o2 : List Int} {f f2 : Flt} {tp tz te : Int} {u : List Int} (h : te ≠ 0) (hf : f.err = 0) (ht : toksS 0 o f (finE k e) = (o2, f2)) (h2 : FltOK f2) : takeS k 0 e o f ⟨tp, tz, u, te⟩ = (e, o2, if f2.side = 0 then ⟨1, tp, te⟩ else f2) := by
  unfold takeS outS
  simp only [writeS, h, ne_eq, not_false_eq_true, if_true, hf, and_self, Int.zero_ne_one, if_false, ht]
  by_cases h3 : f2.err = 0
  · rw [if_pos h3, if_pos (h2.2 h3)]
  · rw [if_neg h3, if_neg (fun e => h3 (h2.1 e))]
set_option maxRecDepth 100000 in
set_option maxHeartbeats 12800000 in
theorem stake_any {k : Nat} {s1 s2 : ByteArray} {pol : Int} {Vr : Value} {q p S : Nat} {w0 w : World} {W0 F0 : Nat → Prop} {vo : Value} {G F : Nat → Prop} {e : ESt} {o : List Int} {f : Flt} (hk : k ≤ 6) (hp : 0 ≤ pol ∧ pol ≤ 2) (h0 : StE k s1 s2 pol Vr 1 q p S w0 W0 F0 w vo G F e o f)
    (n : Nat) (A : Option Addr) (c : Nat) (ts : List Tk) (hn : ts.length = n) (ht : OwnTkX (fun b => ¬ Wr q vo G b) w (.slice A n c) ts) (hsm : ∀ t ∈ ts, t.out.length ≤ 8) (hn8 : n ≤ 8) (ha : e.a + (e.q.length : Int) ≤ 79000) (ho9 : o.length ≤ 40000000) (e' : ESt) (o' : List Int) (f' : Flt) (hr : takesS k pol e o f ts = (e', o', f')) :
    Calls Tryz.prog 97 #[.pointer (some ⟨q, 0, none⟩), .slice A n c] w fun x w' => ∃ vo' G' F', x = .returned (.tuple #[]) ∧ StE k s1 s2 pol Vr 1 q p S w (Wr q vo G) F w' vo' G' F' e' o' f' := by
  have hS := h0.lt
  have H0 := Lib.hid h0.start
  have HN := Lib.hid hn
  have HT0 := Lib.hid (ht.step (Nat.le_refl _) (Y := fun b => b < w.heap.size ∧ ¬ Wr q vo G b) fun b hl hx => ⟨⟨hl, hx⟩, rfl⟩)
  have HR := Lib.hid hr
  have HQ7 := Lib.hid h0.ql
  have HFK := Lib.hid h0.ok
  have HA := Lib.hid ha
  have HOL := Lib.hid ho9
  have HP := Lib.hid hp
  have HK6 := Lib.hid hk
  have HSMA := Lib.hid hsm
  obtain ⟨p0, p2⟩ := hp
  obtain ⟨T, x, hV, m1, m2, m3, e1, e2, e3⟩ := kindE k p
  obtain ⟨V, hVV⟩ : ∃ V, vE k p = V := ⟨_, rfl⟩
  have HV := Lib.hid hVV
  rw [hVV] at hV
  subst hV
  unfold Enters at e1 e2 e3
  clear h0 hn ht hr ha ho9 hk hVV m1 m3 e1 e3 hsm
  go_enter Tryz.func97, Tryz.ntmps97
  go_wp2_with fail
  go_loopw [8] (fun i wr => ∃ (K : Nat) (vk : Value) (Gk Fk : Nat → Prop) (ek : ESt) (ok : List Int) (fk : Flt), K ≤ n ∧ i = .int .i64 K ∧ Hid (takesS k pol e o f (ts.take K) = (ek, ok, fk)) ∧ Hid (StE k s1 s2 pol Vr 1 q p S w (Wr q vo G) F wr vk Gk Fk ek ok fk)) (fun i _ => n - (intOf i).toNat)
  case atStart => exact ⟨0, vo, G, F, e, o, f, by omega, rfl, Lib.hid rfl, H0⟩
  case round =>
    obtain ⟨K, vk, Gk, Fk, ek, ok, fk, hK, rfl, hrk, hst⟩ := hrel
    obtain ⟨wa, rfl⟩ : ∃ wa : World, wa = wr := ⟨_, rfl⟩
    by_cases hKn : K = n
    · have hK' : ¬ K < n := by omega
      have HE := Lib.hid (show ek = e' ∧ ok = o' ∧ fk = f' by
        have h1 := hrk.out
        rw [List.take_of_length_le (by rw [HN.out]; omega), HR.out] at h1
        injection h1 with h1 h2
        injection h2 with h2 h3
        exact ⟨h1.symm, h2.symm, h3.symm⟩)
      obtain ⟨rfl, rfl, rfl⟩ := HE.out
      clear hKn hrk HE
      go_wp2
      go_end0
      exact ⟨_, _, _, rfl, hst.out⟩
    have hK' : K < n := by omega
    have hK1 : K < ts.length := by rw [HN.out]; exact hK'
    have k3 : (0 : Int) ≤ K := by omega
    have k4 : (K : Int) < n := by omega
    have htx := HT0.out.step (w' := wa) (Y := fun b => b < w.heap.size ∧ ¬ Wr q vo G b) hst.out.mid.size fun b hl hx => ⟨hx, hst.out.mid.block b hl hx.2⟩
    obtain ⟨g, sv, rfl, q0, q1, q2, q3, hu3⟩ := htx.cells HN.out hK'
    have htk : ts.take (K + 1) = ts.take K ++ [ts[K]] := List.take_succ_eq_append_getElem hK1
    have hs3 := HSMA.out _ (List.getElem_mem hK1)
    obtain ⟨t, htt⟩ : ∃ t, ts[K] = t := ⟨_, rfl⟩
    rw [htt] at q0 q1 q3 hu3 hs3 htk
    obtain ⟨tp, tz, u, te⟩ := t
    simp only at q0 q1 q3 hu3 hs3
    obtain ⟨A3, c3, rfl, hu31, hu32, hu33⟩ := hu3
    have hu3 : Us (fun b => b < w.heap.size ∧ ¬ Wr q vo G b) wa (.slice A3 u.length c3) u := ⟨A3, c3, rfl, hu31, hu32, hu33⟩
    obtain ⟨n3, hn3⟩ : ∃ n3, u.length = n3 := ⟨_, rfl⟩
    rw [hn3] at q2 hs3 hu3
    have HSM3 := Lib.hid hs3
    have HN3 := Lib.hid hn3
    have HTK := Lib.hid htk
    obtain ⟨b1, b2, b3', -⟩ := takesS_b HK6.out (pol := pol) (ts.take K) e o f (fun x hx => HSMA.out x (List.mem_of_mem_take hx)) HQ7.out HFK.out
    rw [hrk.out] at b1 b2 b3'
    rw [List.length_take, Nat.min_eq_left (by omega)] at b2 b3'
    simp only at b1 b2 b3'
    have HB := Lib.hid (show ek.a + (ek.q.length : Int) ≤ 80000 ∧ ok.length ≤ 50000000 by have := HA.out; have := HOL.out; omega)
    have hba := below_allocI' wa (.cells #[.int .i64 tp, .int .i64 tz, .slice A3 n3 c3, .int .i64 te] 51)
    have HQ := Held.new wa #[.int .i64 tp, .int .i64 tz, .slice A3 n3 c3, .int .i64 te] 51
    obtain ⟨N, hN⟩ : ∃ N, wa.heap.size = N := ⟨_, rfl⟩
    obtain ⟨W, hW⟩ : ∃ W, wa.alloc (.cells #[.int .i64 tp, .int .i64 tz, .slice A3 n3 c3, .int .i64 te] 51) = W := ⟨_, rfl⟩
    have hsW : W.heap.size = N + 1 := by rw [← hW, ← hN]; simp
    have HNOT := Lib.hid (show ¬ Fk N ∧ N ≠ q ∧ vk.ownBlock ≠ some N from ⟨fun h => by have := hst.out.gf.2 N h; omega, fun h => by have := hst.out.box.lt; omega, fun h => by have := hst.out.vlt N h; omega⟩)
    rw [hW] at hba HQ
    have hsW2 := hst.out.below hba
    have huW := hu3.step (w' := W) (Y := fun b => ¬ Wr q vk Gk b) hba.size fun b hl hx => ⟨fun hy => by rcases hst.out.wr0 b hy with h1 | h1; exact hx.2 h1; have := hx.1; omega, hba.block b hl⟩
    rw [hN] at HQ
    have x0 := HQ.cell 0
    have x1 := HQ.cell 1
    have x2 := HQ.cell 2
    have x3 := HQ.cell 3
    have c2 := hsW2.box.cell 2
    have HST := Lib.hid hsW2
    have HUW := Lib.hid huW
    have HSZ := Lib.hid hsW
    have HWE := Lib.hid hW
    have HNE := Lib.hid hN
    have HXQ := Lib.hid HQ
    obtain ⟨b, hbb⟩ : ∃ b, (fk.side != 0) = b := ⟨_, rfl⟩
    have C1 := Lib.hid (sfailed_any q s1 s2 pol Vr _ vk fk 1 W hsW2.box b hbb)
    have HBB := Lib.hid hbb
    clear hba hsW2 huW htx hu3 hu31 hu32 hu33 htt htk hst hKn hn3 HQ hK1 hs3 hN hW hsW hbb b1 b2 b3'
    go_wp2_with fail
    rw [HWE.out, HNE.out]
    refine C1.out.mono ?_
    rintro e9 w1 ⟨rfl, rfl⟩
    clear C1
    cases b with
    | true =>
      have HE := Lib.hid (show fk.err ≠ 0 from fun e => by
        have h1 := HBB.out
        have h2 := HST.out.ok.2 e
        simp [h2] at h1)
      have HEE := Lib.hid (show ek = e' ∧ ok = o' ∧ fk = f' by
        have h1 := takesS_end hrk.out HE.out
        rw [HR.out] at h1
        injection h1 with h1 h2
        injection h2 with h2 h3
        exact ⟨h1.symm, h2.symm, h3.symm⟩)
      obtain ⟨rfl, rfl, rfl⟩ := HEE.out
      clear hrk HEE HE
      go_wp2_with fail
      (try simp only [Exit.inBlock, Exit.then]); refine bodyPost_ret (results_none rfl _ _ _) rfl ?_
      exact ⟨_, _, _, rfl, HST.out⟩
    | false =>
      have HE := Lib.hid (show fk.err = 0 from HST.out.ok.1 (by simpa using HBB.out))
      by_cases ht0 : te = 0
      · subst ht0
        obtain ⟨en, on, fn, hwn⟩ : ∃ en on fn, writeS k pol ek ok fk u = (en, on, fn) := ⟨_, _, _, rfl⟩
        have HNX := Lib.hid (show takesS k pol e o f (ts.take (K + 1)) = (en, on, fn) by rw [takesS_one HTK.out hrk.out HE.out, takeS_ok, hwn])
        have C2 := Lib.hid (swrite_any HK6.out HP.out HST.out n3 A3 c3 u HN3.out HUW.out HSM3.out HB.out.1 HB.out.2 en on fn hwn)
        clear hwn
        go_wp2_with fail
        refine C2.out.mono ?_
        rintro e9 w2 ⟨vn, Gn, Fn, rfl, hs2⟩
        have HS2 := Lib.hid (HST.out.rebase hs2)
        clear hs2 C2
        go_wp2_with fail
        go_roundw
        case rel => exact ⟨K + 1, vn, Gn, Fn, en, on, fn, by omega, by go_num, HNX, HS2⟩
        case measure => simp [intOf]; omega
      · have tne : (te == 0) = false := by simpa using ht0
        have HT9 := Lib.hid ht0
        by_cases hp0 : pol = 0
        · subst hp0
          have c4 := HST.out.box.cell 4
          rw [show (StC s1 s2 0 Vr (vE k p) vk fk 1)[4]? = some (vE k p) from rfl, HV.out] at c4
          have C2 : Hid (Calls Tryz.prog (fEE k) #[.pointer (some ⟨p, 0, none⟩)] W fun e w' => ∃ v G' F' B s', e = .returned v ∧ OwnTkB B w' v (finE k ek) ∧ EV theW k G' F' w' p s' ∧ Told Gk G' Fk F' W w' v B (ek.q = [] ∧ ek.a = 0)) := by
            obtain ⟨e2, he2, hee⟩ := HST.out.enc
            rw [hee rfl HE.out] at he2
            exact Lib.hid (he2.fin HK6.out (by have := HB.out.1; omega))
          have HSM := Lib.hid (show (∀ t ∈ finE k ek, t.out.length ≤ 8) ∧ (finE k ek).length ≤ 8 from ⟨finE_small HK6.out ek, finE_len HK6.out ek HST.out.ql⟩)
          obtain ⟨tf, htf⟩ : ∃ tf, finE k ek = tf := ⟨_, rfl⟩
          obtain ⟨on, f2, hon⟩ : ∃ on f2, toksS 0 ok fk (finE k ek) = (on, f2) := ⟨_, _, rfl⟩
          have HF2 := Lib.hid (show FltOK f2 by have := toksS_ok (pol := 0) (finE k ek) ok fk HST.out.ok; rw [hon] at this; exact this)
          have HNX := Lib.hid (show takesS k 0 e o f (ts.take (K + 1)) = (ek, on, if f2.side = 0 then ⟨1, tp, te⟩ else f2) by rw [takesS_one HTK.out hrk.out HE.out, takeS_strict HT9.out HE.out hon HF2.out])
          rw [htf] at C2 HSM hon
          have HON := Lib.hid hon
          clear htf hon
          go_wp2_with fail
          refine C2.out.mono ?_
          rintro e9 w1 ⟨v1, G1, F1, B1, s9, rfl, ho1, hE1, hT1⟩
          obtain ⟨A1, c1, hv1, -⟩ := ho1.form
          subst hv1
          obtain ⟨g1, g2, g3, g4⟩ := HST.out.mid1 hT1 ho1
          have C3 := Lib.hid (sowe_any q s1 s2 0 Vr _ 1 ok fk w1 S vk g1 g2 hS g3 HST.out.ok A1 tf.length c1 tf rfl g4 HSM.out.1 (by have := HSM.out.2; omega) (by have := HB.out.2; omega) HP.out on f2 HON.out)
          have HE1 := Lib.hid hE1
          have HT1 := Lib.hid hT1
          have HXQ1 := Lib.hid (show Held w1 N _ _ from (hT1.mid.block N HXQ.out.lt (fun hg => HNOT.out.1 (HST.out.gf.1 N hg))).trans HXQ.out)
          obtain ⟨m1', hm1'⟩ : ∃ m, tf.length = m := ⟨_, rfl⟩
          rw [hm1'] at C3 HT1 ⊢
          clear ho1 hE1 hT1 g1 g2 g3 g4 hm1' C2 c4
          go_wp2_with fail
          refine C3.out.mono ?_
          rintro e9 w2 ⟨vn, rfl, hb2, ho2, hg2, hv2⟩
          have hn2 : Held w2 N _ _ := (hg2.block N HXQ1.out.lt HNOT.out.2.1 (fun e => HNOT.out.2.2 e.symm)).trans HXQ1.out
          have y0 := hn2.cell 0
          have y1 := hn2.cell 1
          have y2 := hn2.cell 2
          have y3 := hn2.cell 3
          have C4 := Lib.hid (sfail_any q s1 s2 0 Vr _ vn f2 1 w2 hb2 1 tp tz te A3 n3 c3)
          have HO2 := Lib.hid ho2
          have HG2 := Lib.hid hg2
          have HV2 := Lib.hid hv2
          clear hn2 hb2 ho2 hg2 hv2 C3 x0 x1 x2 x3
          go_wp2_with fail
          refine C4.out.mono ?_
          rintro e9 w3 ⟨rfl, hh4, hg4⟩
          have HFN := Lib.hid (show FltOK (if f2.side = 0 then ⟨1, tp, te⟩ else f2) by
            split
            · exact ⟨fun e => absurd (show (1 : Int) = 0 from e) (by decide), fun e => absurd e HT9.out⟩
            · exact HF2.out)
          have HFE := Lib.hid (show (if f2.side = 0 then (⟨1, tp, te⟩ : Flt) else f2).err = 0 → s9 = ek from fun e => by
            split at e
            · exact absurd e HT9.out
            · rename_i h1; exact absurd (HF2.out.2 e) h1)
          have hgr : Gr q vk.ownBlock w1 w3 := ⟨hg4.os.trans HG2.out.os, hg4.tape.trans HG2.out.tape, hg4.output.trans HG2.out.output, Nat.le_trans HG2.out.size hg4.size, fun k hk hp hv => (hg4.block k (Nat.lt_of_lt_of_le hk HG2.out.size) (fun e => by injection e with e; exact hp e)).trans (HG2.out.block k hk hp hv)⟩
          have HSN := Lib.hid (HST.out.next (e' := ek) HE1.out (fun _ => HFE.out) HST.out.ql HT1.out hh4 (own_kept HO2.out hg4 hS) hgr HV2.out HFN.out)
          clear hh4 hg4 hgr C4
          go_wp2_with fail
          go_roundw
          case rel => exact ⟨K + 1, vn, _, _, ek, on, _, by omega, by go_num, HNX, HSN⟩
          case measure => simp [intOf]; omega
        · by_cases hp1 : pol = 1
          · subst hp1
            obtain ⟨en, on, fn, hwn⟩ : ∃ en on fn, writeS k 1 ek ok fk [65533] = (en, on, fn) := ⟨_, _, _, rfl⟩
            have HNX := Lib.hid (show takesS k 1 e o f (ts.take (K + 1)) = (en, on, fn) by rw [takesS_one HTK.out hrk.out HE.out, takeS_rep HT9.out, hwn])
            have hb5 := below_allocI' W (.cells #[.int .i64 65533] 3)
            have HS5 := Lib.hid (HST.out.below hb5)
            have hu5 := us_new W _ rfl 65533
            have C2 := Lib.hid (swrite_any HK6.out HP.out HS5.out 1 _ 1 [65533] rfl (hu5.step (Nat.le_refl _) fun b _ hb => ⟨fun hy => by have := HST.out.wrlt b hy; omega, rfl⟩) (by decide) HB.out.1 HB.out.2 en on fn hwn)
            clear hwn hb5 hu5
            go_wp2_with fail
            refine C2.out.mono ?_
            rintro e9 w2 ⟨vn, Gn, Fn, rfl, hs2⟩
            have HS2 := Lib.hid (HS5.out.rebase hs2)
            clear hs2 C2
            go_wp2_with fail
            go_roundw
            case rel => exact ⟨K + 1, vn, Gn, Fn, en, on, fn, by omega, by go_num, HNX, HS2⟩
            case measure => simp [intOf]; omega
          · have d0 : (pol == 0) = false := by simpa using hp0
            have d1 : (pol == 1) = false := by simpa using hp1
            have HNX := Lib.hid (show takesS k pol e o f (ts.take (K + 1)) = (ek, ok, fk) by rw [takesS_one HTK.out hrk.out HE.out, takeS_skip HT9.out hp0 hp1])
            go_wp2_with fail
            go_roundw
            case rel => exact ⟨K + 1, vk, Gk, Fk, ek, ok, fk, by omega, by go_num, HNX, HST⟩
            case measure => simp [intOf]; omega
end Go.Proofs.YtncpokioagpclaaGreatDoor
namespace Go.Proofs.YtncpokioagpclaaGreatDoor
set_option linter.unusedVariables false
set_option linter.unusedSimpArgs false
set_option linter.unnecessarySimpa false
open Go.RowKit
theorem intBl_not {w : World} {b : Nat} {cs : Array Value} {t : TypeId} {fr : Nat × Nat} (h : w.heap[b]? = some (.cells cs t fr)) (ht : t ≠ 3) : ¬ IntBl w b := by
  rintro ⟨cs', fr', h'⟩
  rw [h] at h'
  injection h' with h'
  injection h' with _ e
  exact ht e
theorem EV.notInt {k : Nat} {G F : Nat → Prop} {w : World} {p : Nat} {e : ESt} (h : EV theW k G F w p e) : ∀ b, G b → ¬ IntBl w b := by
  intro b hb
  unfold EV at h
  by_cases h0 : k = 0
  · rw [if_pos h0] at h
    obtain ⟨g, _, _, _, h3, _, _⟩ := h
    rw [h3 b hb]
    exact intBl_not (show w.heap[p]? = some (.cells #[.int .i64 e.a] 118 (0, 0)) from g) (by decide)
  · rw [if_neg h0] at h
    obtain ⟨_, T, B, L, R, st, h⟩ := h
    rw [h.ge b hb]
    obtain ⟨xs, _, h1, _⟩ := h.en.is
    exact intBl_not h1 (by decide)
theorem DV.ql {k : Nat} {G F : Nat → Prop} {w : World} {p : Nat} {s : DSt} (h : DV k G F w p s) (h6 : k ≤ 6) : s.q.length ≤ 7 := by
  unfold DV at h
  by_cases h0 : k = 0
  · rw [if_pos h0] at h
    have := (HD_len s.q).1
    rw [h.hd] at this
    omega
  · rw [if_neg h0] at h
    obtain ⟨_, R, B, L, st, h⟩ := h
    exact opens_lt (cdR_p (by omega) h6).good h.op
/-- what a stream writes -/
def Wm (q : Nat) (vo : Value) (GD G : Nat → Prop) : Nat → Prop := fun b => Wr q vo G b ∨ GD b
/-- a whole stream -/
structure StM (k1 k2 : Nat) (s1 s2 : ByteArray) (pol : Int) (st : Int) (q pd p S : Nat) (w0 : World) (W0 F0 : Nat → Prop) (w : World) (vo : Value) (GD FD G F : Nat → Prop) (s : SSt) : Prop where
  e : StE k2 s1 s2 pol (vD k1 pd) st q p S w0 W0 F0 w vo G F s.e s.o s.f
  dec : ∃ d', DV k1 GD FD w pd d' ∧ (st = 1 → d' = s.d)
  dq : ¬ FD q
  dv : ∀ b, vo.ownBlock = some b → ¬ FD b
  dg : ∀ b, FD b → ¬ G b
  gd : ∀ b, GD b → ¬ F b
  wd : ∀ b, GD b → W0 b ∨ w0.heap.size ≤ b
section
variable {k1 k2 : Nat} {s1 s2 : ByteArray} {pol : Int} {st : Int} {q pd p S : Nat} {w0 w w1 : World} {W0 F0 : Nat → Prop} {vo : Value} {GD FD G F : Nat → Prop} {s : SSt}
theorem StM.dfoot (h : StM k1 k2 s1 s2 pol st q pd p S w0 W0 F0 w vo GD FD G F s) : (∀ b, GD b → FD b) ∧ ∀ b, FD b → b < w.heap.size := by
  obtain ⟨d, hd, _⟩ := h.dec; exact ⟨hd.foot.1, hd.foot.2.1⟩
theorem StM.wm0 (h : StM k1 k2 s1 s2 pol st q pd p S w0 W0 F0 w vo GD FD G F s) : ∀ b, Wm q vo GD G b → W0 b ∨ w0.heap.size ≤ b := fun b hb => by
  rcases hb with hb | hb
  · exact h.e.wr0 b hb
  · exact h.wd b hb
theorem StM.wmlt (h : StM k1 k2 s1 s2 pol st q pd p S w0 W0 F0 w vo GD FD G F s) : ∀ b, Wm q vo GD G b → b < w.heap.size := fun b hb => by
  rcases hb with hb | hb
  · exact h.e.wrlt b hb
  · exact h.dfoot.2 b (h.dfoot.1 b hb)
/-- the writing side went on -/
theorem StM.wrote (h : StM k1 k2 s1 s2 pol st q pd p S w0 W0 F0 w vo GD FD G F s) {st' : Int} {vo' : Value} {G' F' : Nat → Prop} {e' : ESt} {o' : List Int} {f' : Flt} (h' : StE k2 s1 s2 pol (vD k1 pd) st' q p S w (Wr q vo G) F w1 vo' G' F' e' o' f') {s' : SSt} (he : s'.e = e') (ho : s'.o = o') (hf : s'.f = f') (hd : st' = 1 → st = 1 ∧ s'.d = s.d) :
    StM k1 k2 s1 s2 pol st' q pd p S w0 W0 F0 w1 vo' GD FD G' F' s' := by
  subst he ho hf
  have hm := h'.mid
  have hdf := h.dfoot
  have hnw : ∀ b, FD b → ¬ Wr q vo G b := fun b hb hx => by
    rcases hx with rfl | hx | hx
    · exact h.dq hb
    · exact h.dv b hx hb
    · exact h.dg b hb hx
  refine ⟨h.e.rebase h', ?_, h.dq, fun b e hb => ?_, fun b hb hx => ?_, fun b hb hx => ?_, h.wd⟩
  · obtain ⟨d, hd1, hd2⟩ := h.dec
    exact ⟨d, hd1.stay hm.size fun b hb => hm.block b (hdf.2 b hb) (hnw b hb), fun e => by rw [hd2 (hd e).1, (hd e).2]⟩
  · rcases h'.wv b e with h1 | h1
    · exact hnw b hb h1
    · have := hdf.2 b hb; omega
  · rcases h'.wg b hx with h1 | h1
    · exact hnw b hb h1
    · have := hdf.2 b hb; omega
  · rcases h'.wf b hx with h1 | h1
    · exact h.gd b hb h1
    · have := hdf.2 b (hdf.1 b hb); omega
/-- the reading machine was called: the writing side stays; its tokens -/
theorem StM.read (h : StM k1 k2 s1 s2 pol st q pd p S w0 W0 F0 w vo GD FD G F s) {GD' FD' : Nat → Prop} {v : Value} {B : Nat} {fr : Prop} {ts : List Tk} {d' : DSt} (hD : DV k1 GD' FD' w1 pd d') (hT : Told GD GD' FD FD' w w1 v B fr) (ho : OwnTkU B w1 v ts) {s' : SSt} (hs : s'.e = s.e ∧ s'.o = s.o ∧ s'.f = s.f) (hd : st = 1 → d' = s'.d) :
    StM k1 k2 s1 s2 pol st q pd p S w0 W0 F0 w1 vo GD' FD' G F s' ∧ OwnTkX (fun b => ¬ Wr q vo G b) w1 v ts := by
  obtain ⟨he, hoo, hf⟩ := hs
  have hdf := h.dfoot
  have hX : ∀ b, GD b → b ≠ q ∧ vo.ownBlock ≠ some b ∧ ¬ F b := fun b hb => ⟨fun e => h.dq (e ▸ hdf.1 b hb), fun e => h.dv b e (hdf.1 b hb), h.gd b hb⟩
  have h1 := h.e.midX hT.mid hX h.wd
  have hB := hT.base
  have hm0 := h.e.mid.size
  refine ⟨⟨by rw [he, hoo, hf]; exact h1, ⟨d', hD, hd⟩, fun hb => ?_, fun b e hb => ?_, fun b hb hx => ?_, fun b hb hx => ?_, fun b hb => ?_⟩, ?_⟩
  · rcases hT.news q hb with g1 | g1
    · exact h.dq g1
    · have := h.e.box.lt; omega
  · rcases hT.news b hb with g1 | g1
    · exact h.dv b e g1
    · have := h.e.vlt b e; omega
  · rcases hT.news b hb with g1 | g1
    · exact h.dg b g1 hx
    · have := h.e.gf.2 b (h.e.gf.1 b hx); omega
  · rcases hT.gnew b hb with g1 | g1
    · exact h.gd b g1 hx
    · have := h.e.gf.2 b hx; omega
  · rcases hT.gnew b hb with g1 | g1
    · exact h.wd b g1
    · exact .inr (by omega)
  · obtain ⟨xs, hown, ht⟩ := ho
    have key : ∀ b, B ≤ b → ¬ Wr q vo G b := fun b hb hx => by have := h.e.wrlt b hx; omega
    refine ⟨xs, B, hown, fun g e => key g (hown.lt g e).1, ht.step (Nat.le_refl _) fun b _ hx => ⟨?_, rfl⟩⟩
    rcases hx.2 with g1 | g1
    · exact key b g1
    · intro hw
      rcases hw with rfl | hw | hw
      · exact intBl_not h1.box (by decide) g1
      · obtain ⟨cur, hc⟩ := own_heap h1.row hw
        exact intBl_not hc (by decide) g1
      · obtain ⟨e', he', _⟩ := h1.enc
        exact he'.notInt b hw g1
/-- seen from here -/
theorem StM.start (h : StM k1 k2 s1 s2 pol st q pd p S w0 W0 F0 w vo GD FD G F s) : StM k1 k2 s1 s2 pol st q pd p S w (Wm q vo GD G) F w vo GD FD G F s :=
  ⟨⟨h.e.box, h.e.row, h.e.enc, h.e.ql, h.e.lt, h.e.top, h.e.fq, h.e.fv, Mid.refl _ w, .inl (.inl rfl), fun b e => .inl (.inl (.inr (.inl e))), fun b hb => .inl (.inl (.inr (.inr hb))), fun b hb => .inl hb, h.e.ok⟩, h.dec, h.dq, h.dv, h.dg, h.gd, fun b hb => .inl (.inr hb)⟩
theorem StM.below (h : StM k1 k2 s1 s2 pol st q pd p S w0 W0 F0 w vo GD FD G F s) (hb : Below w.heap.size w w1) : StM k1 k2 s1 s2 pol st q pd p S w0 W0 F0 w1 vo GD FD G F s := by
  have hdf := h.dfoot
  obtain ⟨d, hd1, hd2⟩ := h.dec
  exact ⟨h.e.below hb, ⟨d, hd1.stay hb.size fun b hx => hb.block b (hdf.2 b hx), hd2⟩, h.dq, h.dv, h.dg, h.gd, h.wd⟩
end
/-- a cell, and a block, stay -/
def KeepC (q B : Nat) (a b : World) : Prop := b.cell? ⟨q, 3, none⟩ = a.cell? ⟨q, 3, none⟩ ∧ b.heap[B]? = a.heap[B]?
theorem KeepC.refl (q B : Nat) (w : World) : KeepC q B w w := ⟨rfl, rfl⟩
theorem KeepC.trans (q B : Nat) (a b c : World) (h : KeepC q B a b) (k : KeepC q B b c) : KeepC q B a c := ⟨k.1.trans h.1, k.2.trans h.2⟩
theorem bytesS_go {k1 k2 : Nat} {pol room : Int} {s sk : SSt} {us : List Int} {K : Nat} {u : Int} (h : (bytesS k1 k2 pol room s us).1 = (bytesS k1 k2 pol room sk (us.drop K)).1 ∧ (bytesS k1 k2 pol room s us).2 = (bytesS k1 k2 pol room sk (us.drop K)).2 + K) (hd : us.drop K = u :: us.drop (K + 1)) (hc : (sk.o.length : Int) < room ∧ sk.f.err = 0) :
    (bytesS k1 k2 pol room s us).1 = (bytesS k1 k2 pol room (byteS k1 k2 pol sk u) (us.drop (K + 1))).1 ∧ (bytesS k1 k2 pol room s us).2 = (bytesS k1 k2 pol room (byteS k1 k2 pol sk u) (us.drop (K + 1))).2 + ((K + 1 : Nat) : Int) := by
  rw [hd] at h
  simp only [bytesS] at h
  rw [if_pos hc] at h
  refine ⟨h.1, ?_⟩
  rw [h.2]
  show (bytesS k1 k2 pol room (byteS k1 k2 pol sk u) (us.drop (K + 1))).2 + 1 + (K : Int) = _
  omega
theorem bytesS_stop {k1 k2 : Nat} {pol room : Int} {s sk : SSt} {us : List Int} {K : Nat} (h : (bytesS k1 k2 pol room s us).1 = (bytesS k1 k2 pol room sk (us.drop K)).1 ∧ (bytesS k1 k2 pol room s us).2 = (bytesS k1 k2 pol room sk (us.drop K)).2 + K) (hc : us.drop K = [] ∨ ¬ ((sk.o.length : Int) < room ∧ sk.f.err = 0)) :
    bytesS k1 k2 pol room s us = (sk, (K : Int)) := by
  have h0 : bytesS k1 k2 pol room sk (us.drop K) = (sk, 0) := by
    rcases hc with h1 | h1
    · rw [h1]; rfl
    · cases hd : us.drop K with
      | nil => rfl
      | cons u t => rw [bytesS, if_neg h1]
  rw [h0] at h
  refine Prod.ext h.1 ?_
  rw [h.2]
  show (0 : Int) + K = K
  omega
end Go.Proofs.YtncpokioagpclaaGreatDoor
namespace Go.Proofs.YtncpokioagpclaaGreatDoor
set_option linter.unusedVariables false
set_option linter.unusedSimpArgs false
set_option linter.unnecessarySimpa false
open Go.RowKit
set_option maxRecDepth 100000 in
set_option maxHeartbeats 6400000 in
theorem seat_any {k1 k2 : Nat} {s1 s2 : ByteArray} {pol : Int} {q pd p S : Nat} {w0 w : World} {W0 F0 : Nat → Prop} {vo : Value} {GD FD G F : Nat → Prop} {s : SSt} (h1 : k1 ≤ 6) (h2 : k2 ≤ 6) (hp : 0 ≤ pol ∧ pol ≤ 2) (h0 : StM k1 k2 s1 s2 pol 1 q pd p S w0 W0 F0 w vo GD FD G F s)
    (n : Nat) (A : Option Addr) (c : Nat) (us : List Int) (room : Int) (hn : us.length = n) (hr : Rdx (fun b => ¬ Wm q vo GD G b) w A (us.map (Value.int .u8))) (hn9 : n ≤ 1000) (hb : ∀ u ∈ us, 0 ≤ u ∧ u ≤ 255) (hd : s.d.a + (s.d.q.length : Int) ≤ 2000) (he : s.e.a + (s.e.q.length : Int) ≤ 2000) (ho9 : s.o.length ≤ 1000000) (s' : SSt) (used : Int) (hs : bytesS k1 k2 pol room s us = (s', used)) :
    Calls Tryz.prog 66 #[.pointer (some ⟨q, 0, none⟩), .slice A n c, .int .i64 room] w fun x w' => ∃ vo' GD' FD' G' F', x = .returned (.int .i64 used) ∧ StM k1 k2 s1 s2 pol 1 q pd p S w (Wm q vo GD G) F w' vo' GD' FD' G' F' s' ∧ s'.e.a + (s'.e.q.length : Int) ≤ 70000 ∧ s'.d.a ≤ 4000 ∧ s'.o.length ≤ 6000000 := by
  have H0 := Lib.hid h0.start
  have HN := Lib.hid hn
  have HR := Lib.hid (hr.step (Nat.le_refl _) (Y := fun b => b < w.heap.size ∧ ¬ Wm q vo GD G b) fun b hl hx => ⟨⟨hl, hx⟩, rfl⟩)
  have HS := Lib.hid hs
  have HB := Lib.hid hb
  have HP := Lib.hid hp
  have HK := Lib.hid (show k1 ≤ 6 ∧ k2 ≤ 6 from ⟨h1, h2⟩)
  have HBD := Lib.hid (show s.d.a + (s.d.q.length : Int) ≤ 2000 ∧ s.e.a + (s.e.q.length : Int) ≤ 2000 ∧ s.o.length ≤ 1000000 from ⟨hd, he, ho9⟩)
  obtain ⟨T, x, hV, m1, m2, m3, e1, e2, e3⟩ := kindD k1 pd
  obtain ⟨V, hVV⟩ : ∃ V, vD k1 pd = V := ⟨_, rfl⟩
  have HV := Lib.hid hVV
  rw [hVV] at hV
  subst hV
  unfold Enters at e1 e2 e3
  clear h0 hn hr hs hb hp h1 h2 hd he ho9 hVV m2 m3 e2 e3
  go_enter Tryz.func66, Tryz.ntmps66
  go_wp2_with fail
  go_loopw [7] (fun i wr => ∃ (K : Nat) (vk : Value) (GDk FDk Gk Fk : Nat → Prop) (sk : SSt), K ≤ n ∧ i = .int .i64 K ∧ Hid ((bytesS k1 k2 pol room s us).1 = (bytesS k1 k2 pol room sk (us.drop K)).1 ∧ (bytesS k1 k2 pol room s us).2 = (bytesS k1 k2 pol room sk (us.drop K)).2 + K) ∧ Hid (StM k1 k2 s1 s2 pol 1 q pd p S w (Wm q vo GD G) F wr vk GDk FDk Gk Fk sk) ∧ Hid (sk.d.a + (sk.d.q.length : Int) ≤ 2000 + K ∧ sk.e.a + (sk.e.q.length : Int) ≤ 2000 + 64 * K ∧ sk.o.length ≤ 1000000 + 4608 * K)) (fun i _ => n - (intOf i).toNat)
  case atStart => exact ⟨0, vo, GD, FD, G, F, s, by omega, rfl, Lib.hid (by simp), H0, Lib.hid (by have := HBD.out; omega)⟩
  case round =>
    obtain ⟨K, vk, GDk, FDk, Gk, Fk, sk, hK, rfl, hrk, hst, hbd⟩ := hrel
    obtain ⟨wa, rfl⟩ : ∃ wa : World, wa = wr := ⟨_, rfl⟩
    have k3 : (0 : Int) ≤ K := by omega
    obtain ⟨A0, n0, c0, hvk, hn0⟩ : ∃ A0 n0 c0, vk = .slice A0 n0 c0 ∧ sk.o.length = n0 := by obtain ⟨A, c, h, _⟩ := own_form hst.out.e.row; exact ⟨_, _, _, h, rfl⟩
    subst hvk
    have c5 := hst.out.e.box.cell 5
    have HN0 := Lib.hid hn0
    by_cases hKn : K = n
    · have hK' : ¬ (K : Int) < n := by omega
      have dK : decide ((K : Int) < n) = false := by simpa using hK'
      have HE := Lib.hid (show sk = s' ∧ (K : Int) = used by
        have h1 := bytesS_stop hrk.out (.inl (List.drop_of_length_le (by rw [HN.out]; omega)))
        rw [HS.out] at h1
        injection h1 with h1 h2
        exact ⟨h1.symm, h2.symm⟩)
      clear hKn hrk hn0
      go_wp2_with fail
      go_ret
      obtain ⟨rfl, rfl⟩ := HE.out
      have hbz := hbd.out
      have hbx : sk.e.a + (sk.e.q.length : Int) ≤ 70000 ∧ sk.d.a ≤ 4000 ∧ sk.o.length ≤ 6000000 := by omega
      first | exact ⟨_, _, _, _, _, rfl, hst.out, hbx⟩ | exact ⟨rfl, _, _, _, _, _, hst.out, hbx⟩ | (refine ⟨rfl, ?_⟩; exact ⟨⟨_, _, _, _, _, hst.out⟩, hbx⟩)
    have hK' : (K : Int) < n := by omega
    have dK : decide ((K : Int) < n) = true := by simpa using hK'
    by_cases hroom : ¬ (n0 : Int) < room
    · have dR : decide ((n0 : Int) < room) = false := by simpa using hroom
      have HE := Lib.hid (show sk = s' ∧ (K : Int) = used by
        have h1 := bytesS_stop hrk.out (.inr fun h => hroom (by rw [← hn0]; exact h.1))
        rw [HS.out] at h1
        injection h1 with h1 h2
        exact ⟨h1.symm, h2.symm⟩)
      clear hKn hrk hn0
      go_wp2_with fail
      go_ret
      obtain ⟨rfl, rfl⟩ := HE.out
      have hbz := hbd.out
      have hbx : sk.e.a + (sk.e.q.length : Int) ≤ 70000 ∧ sk.d.a ≤ 4000 ∧ sk.o.length ≤ 6000000 := by omega
      first | exact ⟨_, _, _, _, _, rfl, hst.out, hbx⟩ | exact ⟨rfl, _, _, _, _, _, hst.out, hbx⟩ | (refine ⟨rfl, ?_⟩; exact ⟨⟨_, _, _, _, _, hst.out⟩, hbx⟩)
    have hroom' : (n0 : Int) < room := by omega
    have dR : decide ((n0 : Int) < room) = true := by simpa using hroom'
    obtain ⟨b, hbb⟩ : ∃ b, (sk.f.side != 0) = b := ⟨_, rfl⟩
    have C1 := Lib.hid (sfailed_any q s1 s2 pol _ _ _ sk.f 1 wa hst.out.e.box b hbb)
    have HBB := Lib.hid hbb
    have HRM := Lib.hid (show (sk.o.length : Int) < room by rw [hn0]; exact hroom')
    clear hroom hbb hn0
    go_wp2_with fail
    refine C1.out.mono ?_
    rintro e9 w1 ⟨rfl, rfl⟩
    clear C1
    cases b with
    | true =>
      have HE := Lib.hid (show sk = s' ∧ (K : Int) = used by
        have h1 := bytesS_stop hrk.out (.inr fun h => by
          have h1 := HBB.out
          have h2 := hst.out.e.ok.2 h.2
          simp [h2] at h1)
        rw [HS.out] at h1
        injection h1 with h1 h2
        exact ⟨h1.symm, h2.symm⟩)
      clear hKn hrk
      go_wp2_with fail
      go_ret
      obtain ⟨rfl, rfl⟩ := HE.out
      have hbz := hbd.out
      have hbx : sk.e.a + (sk.e.q.length : Int) ≤ 70000 ∧ sk.d.a ≤ 4000 ∧ sk.o.length ≤ 6000000 := by omega
      first | exact ⟨_, _, _, _, _, rfl, hst.out, hbx⟩ | exact ⟨rfl, _, _, _, _, _, hst.out, hbx⟩ | (refine ⟨rfl, ?_⟩; exact ⟨⟨_, _, _, _, _, hst.out⟩, hbx⟩)
    | false =>
      have HE := Lib.hid (show sk.f.err = 0 from hst.out.e.ok.1 (by simpa using HBB.out))
      have hK1 : K < us.length := by rw [HN.out]; omega
      have hne : ¬ us.map (Value.int .u8) = [] := by intro h; rw [List.map_eq_nil_iff] at h; rw [h] at hK1; cases hK1
      obtain ⟨b3, o3, rfl, hb3, hx3, hc3⟩ := HR.out.resolve_left hne
      have hx := hc3 K (by rw [List.length_map]; exact hK1)
      rw [List.getElem?_map, List.getElem?_eq_getElem hK1] at hx
      have hdr : us.drop K = us[K] :: us.drop (K + 1) := List.drop_eq_getElem_cons hK1
      have hur := HB.out _ (List.getElem_mem hK1)
      obtain ⟨u, hy⟩ : ∃ u, us[K] = u := ⟨_, rfl⟩
      rw [hy] at hx hdr hur
      have HUR := Lib.hid hur
      have HNX := Lib.hid (bytesS_go hrk.out hdr ⟨HRM.out, HE.out⟩)
      have hxa : wa.cell? ⟨b3, o3 + K, none⟩ = some (.int .u8 u) := (cell_block (hst.out.e.mid.block b3 hb3 hx3.2) _).trans hx
      have hw64 : IntKind.i64.wrap u = u := by rw [IntKind.wrap_i64]; omega
      have c3 := hst.out.e.box.cell 3
      rw [show (StC s1 s2 pol (vD k1 pd) (vE k2 p) (.slice A0 n0 c0) sk.f 1)[3]? = some (vD k1 pd) from rfl, HV.out] at c3
      have HX3 := Lib.hid (show b3 < w.heap.size ∧ ¬ Wm q vo GD G b3 from ⟨hb3, hx3.2⟩)
      clear hc3 hx hne hrk hKn hdr hur hy hb3 hx3 hK1
      go_upto_region 3 with fail
      refine wp_region_mixe (G := KeepC q b3) [(0, false), (1, false), (2, false), (3, false), (4, false), (5, false), (6, false), (7, false), (8, false), (9, false), (10, false), (11, false), (12, true), (13, true)]
        (KeepC.refl _ _) (KeepC.trans _ _) (by kernel_rfl) rfl (by kernel_rfl) (by kernel_rfl) ?_
      iterate 4 (refine mixe_one rfl rfl ?_; go_big_quiet_step ((intro _; rfl)); refine wpQuiet_nil ?_)
      refine mixe_one rfl rfl ?_
      go_big_quiet_step ((intro hh; rw [hh.1, World.cell?_drew, c3]; exact ⟨rfl, rfl⟩))
      refine wpQuiet_nil ?_
      iterate 2 (refine mixe_one rfl rfl ?_; go_big_quiet_step ((intro _; rfl)); refine wpQuiet_nil ?_)
      refine mixe_one rfl rfl ?_
      go_big_quiet_step ((intro _; rfl))
      refine wpQuiet_nil ?_
      refine mixe_one rfl rfl ?_
      go_big_quiet_step ((intro hh; rw [cell_block hh.2, World.cell?_drew, hxa]; exact ⟨rfl, rfl⟩))
      refine wpQuiet_nil ?_
      iterate 3 (refine mixe_one rfl rfl ?_; go_big_quiet_step ((intro _; rfl)); refine wpQuiet_nil ?_)
      have hbw : Below wa.heap.size wa wa.drew := (Below.refl wa.heap.size wa).drew
      have hstd := hst.out.below hbw
      have C2 : Hid (Calls Tryz.prog (fPD k1) #[.pointer (some ⟨pd, 0, none⟩), .int .i64 u] wa.drew fun e w' => ∃ v G' F' B, e = .returned v ∧ OwnTkU B w' v (putD k1 sk.d u).1 ∧ DV k1 G' F' w' pd (putD k1 sk.d u).2 ∧ Told GDk G' FDk F' wa.drew w' v B (sk.d.q = [] ∧ sk.d.a = 0)) := by
        obtain ⟨d', hd1, hd2⟩ := hstd.dec
        rw [hd2 rfl] at hd1
        exact Lib.hid (hd1.put HK.out.1 u (fun _ => HUR.out) (by have := hbd.out; omega))
      have HQL := Lib.hid (show sk.d.q.length ≤ 7 by obtain ⟨d', hd1, hd2⟩ := hstd.dec; rw [hd2 rfl] at hd1; exact hd1.ql HK.out.1)
      have HSM := Lib.hid (show (∀ t ∈ (putD k1 sk.d u).1, t.out.length ≤ 8) ∧ (putD k1 sk.d u).1.length ≤ 8 from ⟨putD_small HK.out.1 sk.d u, putD_len HK.out.1 sk.d u HQL.out⟩)
      have HDA := Lib.hid (putD_a HK.out.1 sk.d u)
      have HSTD := Lib.hid hstd
      obtain ⟨sn, hsn⟩ : ∃ sn, byteS k1 k2 pol sk u = sn := ⟨_, rfl⟩
      rw [hsn] at HNX
      have HSN := Lib.hid hsn
      obtain ⟨ts, hts⟩ : ∃ ts, (putD k1 sk.d u).1 = ts := ⟨_, rfl⟩
      have HTS := Lib.hid hts
      obtain ⟨dn, hdn⟩ : ∃ dn, (putD k1 sk.d u).2 = dn := ⟨_, rfl⟩
      have HDN := Lib.hid hdn
      rw [hts, hdn] at C2
      rw [hts] at HSM
      rw [hdn] at HDA
      obtain ⟨en, on, fn, htn⟩ : ∃ en on fn, takesS k2 pol sk.e sk.o sk.f ts = (en, on, fn) := ⟨_, _, _, rfl⟩
      have HTN := Lib.hid htn
      have HSE := Lib.hid (show sn.d = dn ∧ sn.e = en ∧ sn.o = on ∧ sn.f = fn ∧ sn.fl = sk.fl ∧ sn.cl = sk.cl by
        rw [← hsn]; unfold byteS; rw [hts, hdn, htn]; exact ⟨rfl, rfl, rfl, rfl, rfl, rfl⟩)
      clear hbw hstd hsn hts hdn htn hst
      refine mixe_call rfl ?_
      go_wp2_with fail
      refine C2.out.mono ?_
      rintro e9 w1 ⟨v1, GD1, FD1, B1, rfl, ho1, hD1, hT1⟩
      obtain ⟨A1, c1, hv1, -⟩ := ho1.form
      subst hv1
      obtain ⟨g1, g2⟩ := HSTD.out.read hD1 hT1 ho1 (s' := { sk with d := dn }) ⟨rfl, rfl, rfl⟩ (fun _ => rfl)
      have hkc : KeepC q b3 wa.drew w1 := ⟨(g1.e.box.cell 3).trans (HSTD.out.e.box.cell 3).symm, hT1.mid.block b3 (Nat.lt_of_lt_of_le HX3.out.1 HSTD.out.e.mid.size) fun hg => by
        rcases HSTD.out.wd b3 hg with h1 | h1
        · exact HX3.out.2 h1
        · have := HX3.out.1; omega⟩
      have C3 := Lib.hid (stake_any HK.out.2 HP.out g1.e ts.length A1 c1 ts rfl g2 HSM.out.1 HSM.out.2 (by have := hbd.out; show sk.e.a + (sk.e.q.length : Int) ≤ 79000; omega) (by have := hbd.out; show sk.o.length ≤ 40000000; omega) en on fn HTN.out)
      have HG1 := Lib.hid g1
      have HKC := Lib.hid hkc
      have HTB := Lib.hid (takesS_b HK.out.2 (pol := pol) ts sk.e sk.o sk.f HSM.out.1 g1.e.ql g1.e.ok)
      obtain ⟨m1', hm1'⟩ : ∃ m, ts.length = m := ⟨_, rfl⟩
      rw [hm1'] at C3 HTB ⊢
      rw [hm1'] at HSM
      clear ho1 hD1 hT1 g1 g2 hkc hm1' C2
      go_wp2_with fail
      refine ⟨HKC.out, ?_⟩
      refine mixe_call rfl ?_
      go_wp2_with fail
      refine C3.out.mono ?_
      rintro e9 w2 ⟨vn, Gn, Fn, rfl, hs2⟩
      have HG2 := Lib.hid (HG1.out.wrote hs2 (s' := sn) HSE.out.2.1 HSE.out.2.2.1 HSE.out.2.2.2.1 (fun e => ⟨e, HSE.out.1⟩))
      have hkc : KeepC q b3 w1 w2 := ⟨(HG2.out.e.box.cell 3).trans (HG1.out.e.box.cell 3).symm, hs2.mid.block b3 (Nat.lt_of_lt_of_le HX3.out.1 HG1.out.e.mid.size) fun hg => by
        rcases HG1.out.e.wr0 b3 hg with h1 | h1
        · exact HX3.out.2 h1
        · have := HX3.out.1; omega⟩
      have HKC2 := Lib.hid hkc
      clear hs2 hkc C3
      go_wp2_with fail
      refine ⟨HKC2.out, ?_⟩
      refine NoPanic.normal ?_
      have HBN := Lib.hid (show sn.d.a + (sn.d.q.length : Int) ≤ 2000 + ((K + 1 : Nat) : Int) ∧ sn.e.a + (sn.e.q.length : Int) ≤ 2000 + 64 * ((K + 1 : Nat) : Int) ∧ sn.o.length ≤ 1000000 + 4608 * (K + 1) by
        obtain ⟨q1, q2, q3, q4, -⟩ := HSE.out
        obtain ⟨t1, t2, t3, -⟩ := HTB.out
        have h1 := HDA.out
        have h2 := hbd.out
        have h3 := HSM.out.2
        rw [q1, q2, q3]
        rw [HTN.out] at t2 t3
        simp only at t2 t3
        omega)
      go_wp2_with fail
      go_roundw
      case rel => exact ⟨K + 1, vn, _, _, Gn, Fn, sn, by omega, by go_num, HNX, HG2, HBN⟩
      case measure => simp [intOf]; omega
end Go.Proofs.YtncpokioagpclaaGreatDoor
namespace Go.Proofs.YtncpokioagpclaaGreatDoor
set_option linter.unusedVariables false
set_option linter.unusedSimpArgs false
set_option linter.unnecessarySimpa false
open Go.RowKit
theorem StM.setSt {k1 k2 : Nat} {s1 s2 : ByteArray} {pol : Int} {st : Int} {q pd p S : Nat} {w0 w : World} {W0 F0 : Nat → Prop} {vo : Value} {GD FD G F : Nat → Prop} {s s' : SSt} (h : StM k1 k2 s1 s2 pol st q pd p S w0 W0 F0 w vo GD FD G F s) (st' : Int) (hs : st' = 1 → st = 1) (he : s'.d = s.d ∨ st' ≠ 1) (h2 : s'.e = s.e ∧ s'.o = s.o ∧ s'.f = s.f) :
    StM k1 k2 s1 s2 pol st' q pd p S w0 W0 F0 (w.setCell ⟨q, 9, none⟩ (.int .i64 st')) vo GD FD G F s' :=
  h.wrote (h.e.start.setSt st' hs) h2.1 h2.2.1 h2.2.2 (fun e => ⟨hs e, he.resolve_right (fun x => x e)⟩)
set_option maxRecDepth 100000 in
set_option maxHeartbeats 6400000 in
theorem sfinish_any {k1 k2 : Nat} {s1 s2 : ByteArray} {pol st : Int} {q pd p S : Nat} {w0 w : World} {W0 F0 : Nat → Prop} {vo : Value} {GD FD G F : Nat → Prop} {s : SSt} (h1 : k1 ≤ 6) (h2 : k2 ≤ 6) (hp : 0 ≤ pol ∧ pol ≤ 2) (hst : st = 1 ∨ st = 2) (hfl : s.fl = decide (st = 2)) (h0 : StM k1 k2 s1 s2 pol st q pd p S w0 W0 F0 w vo GD FD G F s)
    (hd : s.d.a ≤ 80000) (he : s.e.a + (s.e.q.length : Int) ≤ 79000) (ho9 : s.o.length ≤ 40000000) :
    Calls Tryz.prog 67 #[.pointer (some ⟨q, 0, none⟩)] w fun x w' => ∃ vo' GD' FD' G' F', x = .returned (.tuple #[]) ∧ StM k1 k2 s1 s2 pol 2 q pd p S w (Wm q vo GD G) F w' vo' GD' FD' G' F' (endS k1 k2 pol s) := by
  have H0 := Lib.hid h0.start
  have HP := Lib.hid hp
  have HK := Lib.hid (show k1 ≤ 6 ∧ k2 ≤ 6 from ⟨h1, h2⟩)
  have HBD := Lib.hid (show s.d.a ≤ 80000 ∧ s.e.a + (s.e.q.length : Int) ≤ 79000 ∧ s.o.length ≤ 40000000 from ⟨hd, he, ho9⟩)
  have HFL := Lib.hid hfl
  have c9 := h0.e.box.cell 9
  have f9 := h0.e.box.frozen 9
  rcases hst with rfl | rfl
  · obtain ⟨T, x, hV, m1, m2, m3, e1, e2, e3⟩ := kindD k1 pd
    obtain ⟨V, hVV⟩ : ∃ V, vD k1 pd = V := ⟨_, rfl⟩
    have HV := Lib.hid hVV
    rw [hVV] at hV
    subst hV
    obtain ⟨T2, x2, hV2, m12, m22, m32, e12, e22, e32⟩ := kindE k2 p
    obtain ⟨V2, hVV2⟩ : ∃ V, vE k2 p = V := ⟨_, rfl⟩
    have HV2 := Lib.hid hVV2
    rw [hVV2] at hV2
    subst hV2
    unfold Enters at e1 e2 e3 e12 e22 e32
    obtain ⟨b, hbb⟩ : ∃ b, (s.f.side != 0) = b := ⟨_, rfl⟩
    have C1 := Lib.hid (sfailed_any q s1 s2 pol _ _ _ s.f 1 w h0.e.box b hbb)
    have HBB := Lib.hid hbb
    clear h0 hp h1 h2 hd he ho9 hVV m1 m3 e1 e3 hVV2 m12 m32 e12 e32 hbb hfl
    go_enter Tryz.func67, Tryz.ntmps67
    go_wp2_with fail
    refine C1.out.mono ?_
    rintro e9 w1 ⟨rfl, rfl⟩
    clear C1
    cases b with
    | true =>
      have HE := Lib.hid (show endS k1 k2 pol s = { s with fl := true } by
        unfold endS
        rw [if_pos (.inr fun e => by
          have h1 := HBB.out
          have h2 := H0.out.e.ok.2 e
          simp [h2] at h1)])
      go_wp2_with fail
      go_end0
      have := H0.out.setSt 2 (fun e => absurd e (by decide)) (s' := endS k1 k2 pol s) (.inr (by decide)) (by rw [HE.out]; exact ⟨rfl, rfl, rfl⟩)
      first | exact ⟨_, _, _, _, _, rfl, this⟩ | exact ⟨rfl, _, _, _, _, _, this⟩
    | false =>
      have HE := Lib.hid (show s.f.err = 0 from H0.out.e.ok.1 (by simpa using HBB.out))
      have c3 := H0.out.e.box.cell 3
      rw [show (StC s1 s2 pol (vD k1 pd) (vE k2 p) vo s.f 1)[3]? = some (vD k1 pd) from rfl, HV.out] at c3
      have C2 : Hid (Calls Tryz.prog (fED k1) #[.pointer (some ⟨pd, 0, none⟩)] w fun e w' => ∃ v G' F' B s', e = .returned v ∧ OwnTkU B w' v (finD k1 s.d) ∧ DV k1 G' F' w' pd s' ∧ s'.q = [] ∧ Told GD G' FD F' w w' v B (s.d.q = [] ∧ s.d.a = 0)) := by
        obtain ⟨d', hd1, hd2⟩ := H0.out.dec
        rw [hd2 rfl] at hd1
        exact Lib.hid (hd1.fin HK.out.1 (by have := HBD.out; omega))
      have HQL := Lib.hid (show s.d.q.length ≤ 7 by obtain ⟨d', hd1, hd2⟩ := H0.out.dec; rw [hd2 rfl] at hd1; exact hd1.ql HK.out.1)
      have HSM := Lib.hid (show (∀ t ∈ finD k1 s.d, t.out.length ≤ 8) ∧ (finD k1 s.d).length ≤ 8 from ⟨finD_small HK.out.1 s.d, finD_len HK.out.1 s.d HQL.out⟩)
      obtain ⟨ts, hts⟩ : ∃ ts, finD k1 s.d = ts := ⟨_, rfl⟩
      have HTS := Lib.hid hts
      rw [hts] at C2 HSM
      obtain ⟨en, on, fn, htn⟩ : ∃ en on fn, takesS k2 pol s.e s.o s.f ts = (en, on, fn) := ⟨_, _, _, rfl⟩
      have HTN := Lib.hid htn
      have HES := Lib.hid (show endS k1 k2 pol s = if fn.err ≠ 0 then { s with e := en, o := on, f := fn, fl := true } else { s with e := en, o := (toksS pol on fn (finE k2 en)).1, f := (toksS pol on fn (finE k2 en)).2, fl := true } by
        unfold endS
        rw [if_neg (by
          have h1 := HFL.out
          have h2 := HE.out
          rw [h1]; simp; exact h2)]
        rw [hts, htn])
      clear hts htn
      go_wp2_with fail
      refine C2.out.mono ?_
      rintro e9 w1 ⟨v1, GD1, FD1, B1, d9, rfl, ho1, hD1, -, hT1⟩
      obtain ⟨A1, c1, hv1, -⟩ := ho1.form
      subst hv1
      obtain ⟨g1, g2⟩ := H0.out.read hD1 hT1 ho1 (s' := { s with d := d9 }) ⟨rfl, rfl, rfl⟩ (fun _ => rfl)
      have C3 := Lib.hid (stake_any HK.out.2 HP.out g1.e ts.length A1 c1 ts rfl g2 HSM.out.1 HSM.out.2 (by have := HBD.out; show s.e.a + (s.e.q.length : Int) ≤ 79000; omega) (by have := HBD.out; show s.o.length ≤ 40000000; omega) en on fn HTN.out)
      have HG1 := Lib.hid g1
      have HTB := Lib.hid (takesS_b HK.out.2 (pol := pol) ts s.e s.o s.f HSM.out.1 g1.e.ql g1.e.ok)
      obtain ⟨m1', hm1'⟩ : ∃ m, ts.length = m := ⟨_, rfl⟩
      rw [hm1'] at C3 HTB ⊢
      rw [hm1'] at HSM
      clear ho1 hD1 hT1 g1 g2 hm1' C2 c3 c9 f9
      go_wp2_with fail
      refine C3.out.mono ?_
      rintro e9 w2 ⟨vn, Gn, Fn, rfl, hs2⟩
      have HG2 := Lib.hid (HG1.out.wrote hs2 (s' := { s with d := d9, e := en, o := on, f := fn }) rfl rfl rfl (fun e => ⟨e, rfl⟩))
      have c9 := HG2.out.e.box.cell 9
      have f9 := HG2.out.e.box.frozen 9
      obtain ⟨b2, hbb2⟩ : ∃ b, (fn.side != 0) = b := ⟨_, rfl⟩
      have C4 := Lib.hid (sfailed_any q s1 s2 pol _ _ _ fn 1 w2 HG2.out.e.box b2 hbb2)
      have HBB2 := Lib.hid hbb2
      clear hs2 C3 hbb2
      go_wp2_with fail
      refine C4.out.mono ?_
      rintro e9 w3 ⟨rfl, rfl⟩
      clear C4
      cases b2 with
      | true =>
        have HE2 := Lib.hid (show fn.err ≠ 0 from fun e => by
          have h1 := HBB2.out
          have h2 := HG2.out.e.ok.2 e
          have h3 : fn.side = 0 := h2
          simp [h3] at h1)
        go_wp2_with fail
        go_end0
        have := HG2.out.setSt 2 (fun e => absurd e (by decide)) (s' := endS k1 k2 pol s) (.inr (by decide)) (by rw [HES.out, if_pos HE2.out]; exact ⟨rfl, rfl, rfl⟩)
        first | exact ⟨_, _, _, _, _, rfl, this⟩ | exact ⟨rfl, _, _, _, _, _, this⟩
      | false =>
        have HE2 := Lib.hid (show fn.err = 0 from HG2.out.e.ok.1 (by have h1 := HBB2.out; have h2 : fn.side = 0 := (by simpa using h1); exact h2))
        have c4 := HG2.out.e.box.cell 4
        rw [show (StC s1 s2 pol (vD k1 pd) (vE k2 p) vn fn 1)[4]? = some (vE k2 p) from rfl, HV2.out] at c4
        have C5 : Hid (Calls Tryz.prog (fEE k2) #[.pointer (some ⟨p, 0, none⟩)] w2 fun e w' => ∃ v G' F' B s', e = .returned v ∧ OwnTkB B w' v (finE k2 en) ∧ EV theW k2 G' F' w' p s' ∧ Told Gn G' Fn F' w2 w' v B (en.q = [] ∧ en.a = 0)) := by
          obtain ⟨e2, he2, hee⟩ := HG2.out.e.enc
          rw [hee rfl HE2.out] at he2
          exact Lib.hid (he2.fin HK.out.2 (by have h1 := HTB.out.2.1; have h2 := HBD.out; have h3 := HSM.out; rw [HTN.out] at h1; simp only at h1; show en.a ≤ 90000; omega))
        have HQ2 := Lib.hid (show en.q.length ≤ 7 from HG2.out.e.ql)
        have HSM2 := Lib.hid (show (∀ t ∈ finE k2 en, t.out.length ≤ 8) ∧ (finE k2 en).length ≤ 8 from ⟨finE_small HK.out.2 en, finE_len HK.out.2 en HQ2.out⟩)
        obtain ⟨tf, htf⟩ : ∃ tf, finE k2 en = tf := ⟨_, rfl⟩
        rw [htf] at C5 HSM2 HES
        obtain ⟨o3, f3, hon⟩ : ∃ o3 f3, toksS pol on fn tf = (o3, f3) := ⟨_, _, rfl⟩
        rw [hon] at HES
        have HON := Lib.hid hon
        have HF3 := Lib.hid (show FltOK f3 by have := toksS_ok (pol := pol) tf on fn HG2.out.e.ok; rw [hon] at this; exact this)
        have HOL := Lib.hid (show on.length ≤ 100000000 by have h1 := HTB.out.2.2.1; have h2 := HBD.out; have h3 := HSM.out; rw [HTN.out] at h1; simp only at h1; omega)
        clear htf hon c9 f9
        go_wp2_with fail
        refine C5.out.mono ?_
        rintro e9 w4 ⟨v4, G4, F4, B4, e4, rfl, ho4, hE4, hT4⟩
        obtain ⟨A4, c4', hv4, -⟩ := ho4.form
        subst hv4
        obtain ⟨g1, g2, g3, g4⟩ := HG2.out.e.mid1 hT4 ho4
        have C6 := Lib.hid (sowe_any q s1 s2 pol _ _ 1 on fn w4 S vn g1 g2 HG2.out.e.lt g3 HG2.out.e.ok A4 tf.length c4' tf rfl g4 HSM2.out.1 (by have := HSM2.out.2; omega) HOL.out HP.out o3 f3 HON.out)
        have HE4 := Lib.hid hE4
        have HT4 := Lib.hid hT4
        obtain ⟨m4', hm4'⟩ : ∃ m, tf.length = m := ⟨_, rfl⟩
        rw [hm4'] at C6 HT4 ⊢
        clear ho4 hE4 hT4 g1 g2 g3 g4 hm4' C5 c4
        go_wp2_with fail
        refine C6.out.mono ?_
        rintro e9 w5 ⟨v5, rfl, hb5, ho5, hg5, hv5⟩
        have c9 := hb5.cell 9
        have f9 := hb5.frozen 9
        have HB5 := Lib.hid hb5
        have HO5 := Lib.hid ho5
        have HG5 := Lib.hid hg5
        have HV5 := Lib.hid hv5
        clear hb5 ho5 hg5 hv5 C6
        go_wp2_with fail
        go_end0
        have hgr : Gr q vn.ownBlock w4 (w5.setCell ⟨q, 9, none⟩ (.int .i64 2)) := HG5.out.set _ (.inl rfl)
        have hst2 := HG2.out.e.start.next (e' := en) (st' := 2) HE4.out (fun e => absurd e (by decide)) HQ2.out HT4.out (heldS _ _ 9 _ _ _ HB5.out) (own_kept HO5.out (grownBy_setCellK _ ⟨q, 9, none⟩ _) HG2.out.e.lt) hgr HV5.out HF3.out
        have := HG2.out.wrote hst2 (s' := endS k1 k2 pol s) (by rw [HES.out, if_neg (by have := HE2.out; simpa using this)]) (by rw [HES.out, if_neg (by have := HE2.out; simpa using this)]) (by rw [HES.out, if_neg (by have := HE2.out; simpa using this)]) (fun e => absurd e (by decide))
        first | exact ⟨_, _, _, _, _, rfl, this⟩ | exact ⟨rfl, _, _, _, _, _, this⟩
  · clear h0 hp h1 h2 hd he ho9 hfl
    have HE := Lib.hid (show endS k1 k2 pol s = { s with fl := true } by
      unfold endS
      rw [if_pos (.inl (by rw [HFL.out]; decide))])
    go_enter Tryz.func67, Tryz.ntmps67
    go_wp2_with fail
    go_end0
    have := H0.out.setSt 2 (fun e => absurd e (by decide)) (s' := endS k1 k2 pol s) (.inr (by decide)) (by rw [HE.out]; exact ⟨rfl, rfl, rfl⟩)
    first | exact ⟨_, _, _, _, _, rfl, this⟩ | exact ⟨rfl, _, _, _, _, _, this⟩
end Go.Proofs.YtncpokioagpclaaGreatDoor
