/- Texts of this seat, one behind the other: IscIl, MidR. -/
import Derived.Test.YtmenjcdmdmngcaaGreatDoorZ20
import Derived.Test.YtmenjcdmdmngcaaGreatDoorZ28
import Derived.Test.YtmenjcdmdmngcaaGreatDoorZ7
import Derived.Test.YtmenjcdmdmngcaaGreatDoorZ27
namespace Go.Proofs.YtmenjcdmdmngcaaGreatDoor
set_option linter.unusedVariables false
set_option linter.unusedSimpArgs false
set_option linter.unnecessarySimpa false
open Go.RowKit
/-- of the blocks that there were only such as are G's are written -/
structure Mid (G : Nat → Prop) (w w' : World) : Prop where
  os : w'.os = w.os
  tape : w'.tape = w.tape
  output : w'.output = w.output
  size : w.heap.size ≤ w'.heap.size
  block : ∀ k, k < w.heap.size → ¬ G k → w'.heap[k]? = w.heap[k]?
theorem Mid.below {G : Nat → Prop} {B : Nat} {w w' : World} (h : Mid G w w') (hG : ∀ b, G b → B ≤ b) (hw : B ≤ w.heap.size) : Below B w w' :=
  ⟨h.os, h.tape, h.output, h.size, fun k hk => h.block k (by omega) (fun e => by have := hG k e; omega)⟩
theorem Mid.of {G : Nat → Prop} {w w' : World} (h : Below w.heap.size w w') : Mid G w w' := ⟨h.os, h.tape, h.output, h.size, fun k hk _ => h.block k hk⟩
theorem Mid.refl (G : Nat → Prop) (w : World) : Mid G w w := Mid.of (Below.refl _ w)
theorem Mid.trans {G : Nat → Prop} {w w1 w2 : World} (h : Mid G w w1) (h' : Mid G w1 w2) : Mid G w w2 :=
  ⟨h'.os.trans h.os, h'.tape.trans h.tape, h'.output.trans h.output, Nat.le_trans h.size h'.size, fun k hk hr => (h'.block k (Nat.lt_of_lt_of_le hk h.size) hr).trans (h.block k hk hr)⟩
/-- what is written later has grown by blocks made since -/
theorem Mid.then {G0 G : Nat → Prop} {w w1 w2 : World} (h : Mid G0 w w1) (h' : Mid G w1 w2) (hg : ∀ b, G b → G0 b ∨ w.heap.size ≤ b) : Mid G0 w w2 :=
  ⟨h'.os.trans h.os, h'.tape.trans h.tape, h'.output.trans h.output, Nat.le_trans h.size h'.size, fun k hk hr => (h'.block k (Nat.lt_of_lt_of_le hk h.size) (fun e => by rcases hg k e with h1 | h1; exact hr h1; omega)).trans (h.block k hk hr)⟩
theorem own_mid {base n size : Nat} {G : Nat → Prop} {T : TypeId} {w w' : World} {v : Value} {xs : List Value} (ho : w.ownsRow base T size v n xs) (hm : Mid G w w') (hL : ∀ b, v.ownBlock = some b → ¬ G b) : w'.ownsRow base T size v n xs := by
  refine ⟨ho.1, ?_⟩
  rcases ho.2 with hn | ⟨g, cap, cur, h1, h2, h3, h4⟩
  · exact .inl hn
  · refine .inr ⟨g, cap, cur, h1, h2, ?_, h4⟩
    rw [hm.block g (Array.getElem?_eq_some_iff.1 h3).1 (hL g (by rw [h1]; rfl))]
    exact h3
theorem OwnTkB.mid {base : Nat} {G : Nat → Prop} {w w' : World} {v : Value} {ts : List Tk} (h : OwnTkB base w v ts) (hm : Mid G w w') (hL : ∀ b, G b → b < base) : OwnTkB base w' v ts := by
  obtain ⟨xs, ho, hr⟩ := h
  exact ⟨xs, own_mid ho hm (fun b e hb => by have h1 := hL b hb; have h2 := (ho.lt b e).1; omega), hr.step hm.size fun b hl hx => ⟨hx, hm.block b hl (fun e => by have h1 := hL b e; have := hx.2; omega)⟩⟩
theorem IR.mid {base : Nat} {G : Nat → Prop} {w w' : World} {v : Value} {zs : List Int} (h : IR w base v zs) (hm : Mid G w w') (hL : ∀ b, v.ownBlock = some b → ¬ G b) : IR w' base v zs := own_mid h hm hL
theorem Us.mid {G : Nat → Prop} {w w' : World} {X : Nat → Prop} {v : Value} {us : List Int} (h : Us X w v us) (hm : Mid G w w') (hX : ∀ b, X b → ¬ G b) : Us X w' v us := h.step hm.size fun b hl hx => ⟨hx, hm.block b hl (hX b hx)⟩
theorem own_ltT {base : Nat} {w : World} {v : Value} {ts : List Tk} (h : OwnTkB base w v ts) {b : Nat} (e : v.ownBlock = some b) : base ≤ b ∧ b < w.heap.size := by
  obtain ⟨xs, ho, _⟩ := h
  exact ho.lt b e
/-- a call that a coder makes: it writes G, looks at F; G', F': behind it; v: what it told, from B on; fr: it may be the first call -/
structure Told (G G' F F' : Nat → Prop) (w w' : World) (v : Value) (B : Nat) (fr : Prop) : Prop where
  base : w.heap.size ≤ B
  top : B ≤ w'.heap.size
  far : ∀ b, G' b → b < B
  news : ∀ b, F' b → F b ∨ w.heap.size ≤ b
  gnew : ∀ b, G' b → G b ∨ w.heap.size ≤ b
  old : (∀ b, G' b → G b) ∨ fr
  notin : ∀ b, v.ownBlock = some b → ¬ F' b
  mid : Mid G w w'
/-- a row of tokens, from R on, that stays while G is written -/
structure TkRow (G : Nat → Prop) (R base : Nat) (w : World) (v : Value) (ts : List Tk) : Prop where
  le : R ≤ base
  top : base ≤ w.heap.size
  far : ∀ b, G b → b < base
  row : OwnTkB base w v ts
/-- behind a call -/
theorem TkRow.told {G G' F F' : Nat → Prop} {R base B : Nat} {w w' : World} {v v8 : Value} {ts : List Tk} {fr : Prop} (h : TkRow G R base w v ts) (ht : Told G G' F F' w w' v8 B fr) (hf : fr → v = .slice none 0 0 ∧ ts = []) : ∃ base', base' ≤ B ∧ TkRow G' R base' w' v ts := by
  rcases ht.old with h1 | h1
  · exact ⟨base, Nat.le_trans h.top ht.base, h.le, Nat.le_trans h.top ht.mid.size, fun b hb => h.far b (h1 b hb), h.row.mid ht.mid h.far⟩
  · obtain ⟨rfl, rfl⟩ := hf h1
    exact ⟨B, Nat.le_refl _, Nat.le_trans h.le (Nat.le_trans h.top ht.base), ht.top, ht.far, OwnTkB.nil _ _⟩
/-- append tokens that were just told -/
theorem wpList_appTk {w : World} {ops : Array Oper} {rest : List Oper} {o : Oper} {a : Act} {Q : Exit → Act → World → Prop} (hgd : o.guard = none) (s x : Operand)
    (ho : o.op = .call { callee := .builtin .append, args := #[s, x], argTypes := #[37, 37] })
    (base : Nat) (v : Value) (acc : List Tk) (hs : a.eval s = v) (hown : OwnTkB base w v acc) (A : Option Addr) (m c : Nat) (B6 : Nat) (ts : List Tk) (hx : a.eval x = .slice A m c) (hm : m = ts.length) (h6 : OwnTkB B6 w (.slice A m c) ts)
    (hB : base ≤ B6) (hv : ∀ b, v.ownBlock = some b → b < B6) (hsz : acc.length + ts.length ≤ 1048576) (hbase : base ≤ w.heap.size)
    (h : ∀ v' w', Hid (OwnTkB base w' v' (acc ++ ts)) → Hid (w.grownBy w' v.ownBlock) → Hid (v'.ownBlock = v.ownBlock ∨ v'.ownBlock = some w.heap.size) → wpList Tryz.prog ops Q rest (a.put o.dst v') w') :
    wpList Tryz.prog ops Q (o :: rest) a w := by
  subst hm
  obtain ⟨i0, hi, hz0, hz1, hz2⟩ := info_parts infotok
  obtain ⟨xs, ho1, hx1⟩ := hown
  obtain ⟨ys, ho6, hy6⟩ := h6
  refine wpList_appB _ hgd s x 37 ho base 47 i0 _ 4 48 Tryz.underlying37 hi hz0 hz1 hz2 rfl (by decide) v acc.length xs hs ho1 w.heap.size A ts.length c ys hx (Tks.length hy6) (Rd.own ho6) (Tks.ones hy6) (by simp only [maxLen]; omega) (by omega) hbase ?_
  intro v' w4 hown4 hg4 hv4
  exact h v' w4 (Lib.hid (OwnTkB.push rfl hown4 hx1 (hy6.step (Nat.le_refl _) fun b _ hx => ⟨⟨fun e => by have := hv b e; have := hx.2; omega, by have := hx.2; omega⟩, rfl⟩) hg4 hv4)) (Lib.hid hg4) (Lib.hid hv4)
/-- Iscii's contracts. A coder writes the blocks G, and looks at F -/
structure IsCore where
  OK : World → Prop
  keep : ∀ {w w' : World}, OK w → Below w.heap.size w w' → OK w'
  D : (Nat → Prop) → (Nat → Prop) → World → Nat → List Int → Int → Int → Prop
  dfoot : ∀ {G F : Nat → Prop} {w : World} {p : Nat} {q : List Int} {a sc : Int}, D G F w p q a sc → (∀ b, G b → F b) ∧ ∀ b, F b → b < w.heap.size
  dstay : ∀ {G F : Nat → Prop} {w w' : World} {p : Nat} {q : List Int} {a sc : Int}, D G F w p q a sc → w.heap.size ≤ w'.heap.size → (∀ b, F b → w'.heap[b]? = w.heap[b]?) → D G F w' p q a sc
  decode : ∀ w : World, OK w → Calls Tryz.prog 34 #[] w fun e w' => ∃ p F, e = .returned (.pointer (some ⟨p, 0, none⟩)) ∧ D F F w' p [] 0 0 ∧ (∀ b, F b → w.heap.size ≤ b) ∧ Below w.heap.size w w'
  dput : ∀ {G F : Nat → Prop} {w : World} {p : Nat} {q : List Int} {a sc : Int} (u : Int) (ts : List Tk) (rest : List Int) (k : Nat) (ms : List Tk) (sc' : Int), D G F w p q a sc → OK w → q.length ≤ 1 → 0 ≤ a → a ≤ 100000 → 0 ≤ sc → sc ≤ 8 →
    drain inR a (q ++ [u]) = (ts, rest, k) → meanT sc ts = (ms, sc') →
    Calls Tryz.prog 170 #[.pointer (some ⟨p, 0, none⟩), .int .i64 u] w fun e w' => ∃ v G' F' B, e = .returned v ∧ OwnTkB B w' v ms ∧ D G' F' w' p rest (a + q.length + 1 - rest.length) sc' ∧ Told G G' F F' w w' v B (q = [] ∧ a = 0)
  dend : ∀ {G F : Nat → Prop} {w : World} {p : Nat} {q : List Int} {a sc : Int} (ts ms : List Tk) (sc' : Int), D G F w p q a sc → OK w → q.length ≤ 1 → 0 ≤ a → a ≤ 100000 → 0 ≤ sc → sc ≤ 8 →
    rewA inR a q = ts → meanT sc ts = (ms, sc') →
    Calls Tryz.prog 168 #[.pointer (some ⟨p, 0, none⟩)] w fun e w' => ∃ v G' F' B, e = .returned v ∧ OwnTkB B w' v ms ∧ D G' F' w' p [] (a + q.length) sc' ∧ Told G G' F F' w w' v B (q = [] ∧ a = 0)
  dheld : ∀ {G F : Nat → Prop} {w : World} {p : Nat} {q : List Int} {a sc : Int} (n : Nat), D G F w p q a sc → OK w → q.length = n → Calls Tryz.prog 169 #[.pointer (some ⟨p, 0, none⟩)] w fun e w' => ∃ G' F' B, e = .returned (.int .i64 n) ∧ D G' F' w' p q a sc ∧ Told G G' F F' w w' (.slice none 0 0) B (q = [] ∧ a = 0)
  E : (Nat → Prop) → (Nat → Prop) → World → Nat → List Int → Int → List Int → Int → Prop
  efoot : ∀ {G F : Nat → Prop} {w : World} {p : Nat} {q ah : List Int} {a sc : Int}, E G F w p q a ah sc → (∀ b, G b → F b) ∧ ∀ b, F b → b < w.heap.size
  estay : ∀ {G F : Nat → Prop} {w w' : World} {p : Nat} {q ah : List Int} {a sc : Int}, E G F w p q a ah sc → w.heap.size ≤ w'.heap.size → (∀ b, F b → w'.heap[b]? = w.heap[b]?) → E G F w' p q a ah sc
  encode : ∀ w : World, OK w → Calls Tryz.prog 43 #[] w fun e w' => ∃ p F, e = .returned (.pointer (some ⟨p, 0, none⟩)) ∧ E F F w' p [] 0 [] 0 ∧ (∀ b, F b → w.heap.size ≤ b) ∧ Below w.heap.size w w'
  eput : ∀ {G F : Nat → Prop} {w : World} {p : Nat} {q ah : List Int} {a sc : Int} (s : Int) (ts : List Tk) (q' : List Int) (a' : Int) (ah' : List Int) (sc' : Int), E G F w p q a ah sc → OK w → q.length ≤ 1 → ah.length ≤ 8 → 0 ≤ a → a ≤ 100000 → 0 ≤ sc → sc ≤ 8 →
    ePut q a ah sc s = (ts, q', a', ah', sc') →
    Calls Tryz.prog 188 #[.pointer (some ⟨p, 0, none⟩), .int .i64 s] w fun e w' => ∃ v G' F' B, e = .returned v ∧ OwnTkB B w' v ts ∧ E G' F' w' p q' a' ah' sc' ∧ Told G G' F F' w w' v B (q = [] ∧ a = 0)
  eend : ∀ {G F : Nat → Prop} {w : World} {p : Nat} {q ah : List Int} {a sc : Int} (ts : List Tk), E G F w p q a ah sc → OK w → q.length ≤ 1 → ah.length ≤ 8 → 0 ≤ a → a ≤ 100000 → 0 ≤ sc → sc ≤ 8 →
    encF inR ah (rewA (turnR inR) a q) = ts →
    Calls Tryz.prog 186 #[.pointer (some ⟨p, 0, none⟩)] w fun e w' => ∃ v G' F' B, e = .returned v ∧ OwnTkB B w' v ts ∧ E G' F' w' p [] (a + q.length) (aheadF ah ts) sc ∧ Told G G' F F' w w' v B (q = [] ∧ a = 0)
  eheld : ∀ {G F : Nat → Prop} {w : World} {p : Nat} {q ah : List Int} {a sc : Int} (n : Nat), E G F w p q a ah sc → OK w → q.length = n → Calls Tryz.prog 187 #[.pointer (some ⟨p, 0, none⟩)] w fun e w' => ∃ G' F' B, e = .returned (.int .i64 n) ∧ E G' F' w' p q a ah sc ∧ Told G G' F F' w w' (.slice none 0 0) B (q = [] ∧ a = 0)
section
variable {I : IsCore} {G F : Nat → Prop} {w w' : World} {p : Nat} {q ah : List Int} {a sc : Int}
theorem dBelow (h : I.D G F w p q a sc) (hb : Below w.heap.size w w') : I.D G F w' p q a sc := I.dstay h hb.size fun b hx => hb.block b ((I.dfoot h).2 b hx)
theorem eBelow (h : I.E G F w p q a ah sc) (hb : Below w.heap.size w w') : I.E G F w' p q a ah sc := I.estay h hb.size fun b hx => hb.block b ((I.efoot h).2 b hx)
/-- a row that is none of what the coder looks at is appended to -/
theorem dGrown (h : I.D G F w p q a sc) {row : Option Nat} (hg : w.grownBy w' row) (hr : ∀ b, row = some b → ¬ F b) : I.D G F w' p q a sc :=
  I.dstay h hg.size fun b hx => hg.block b ((I.dfoot h).2 b hx) (fun e => hr b e.symm hx)
theorem eGrown (h : I.E G F w p q a ah sc) {row : Option Nat} (hg : w.grownBy w' row) (hr : ∀ b, row = some b → ¬ F b) : I.E G F w' p q a ah sc :=
  I.estay h hg.size fun b hx => hg.block b ((I.efoot h).2 b hx) (fun e => hr b e.symm hx)
/-- another coder's blocks are written -/
theorem dMid (h : I.D G F w p q a sc) {G2 : Nat → Prop} (hm : Mid G2 w w') (h2 : ∀ b, F b → ¬ G2 b) : I.D G F w' p q a sc :=
  I.dstay h hm.size fun b hx => hm.block b ((I.dfoot h).2 b hx) (h2 b hx)
theorem eMid (h : I.E G F w p q a ah sc) {G2 : Nat → Prop} (hm : Mid G2 w w') (h2 : ∀ b, F b → ¬ G2 b) : I.E G F w' p q a ah sc :=
  I.estay h hm.size fun b hx => hm.block b ((I.efoot h).2 b hx) (h2 b hx)
end
/-- what a row is, that is none of what a coder looks at -/
def NotIn (F : Nat → Prop) (v : Value) : Prop := ∀ b, v.ownBlock = some b → ¬ F b
theorem NotIn.nil (F : Nat → Prop) : NotIn F (.slice none 0 0) := fun b e => by cases e
/-- behind a call that the coder makes: a row that there was -/
theorem NotIn.put {F F' : Nat → Prop} {v : Value} {n : Nat} (h : NotIn F v) (hF : ∀ b, F' b → F b ∨ n ≤ b) (hv : ∀ b, v.ownBlock = some b → b < n) : NotIn F' v := fun b e hb => by
  rcases hF b hb with h1 | h1
  · exact h b e h1
  · have := hv b e; omega
/-- behind an append -/
theorem NotIn.app {F : Nat → Prop} {v v' : Value} {n : Nat} (h : NotIn F v) (hv : v'.ownBlock = v.ownBlock ∨ v'.ownBlock = some n) (hn : ∀ b, F b → b < n) : NotIn F v' := fun b e hb => by
  rcases hv with h1 | h1
  · exact h b (by rw [← h1]; exact e) hb
  · rw [h1] at e; injection e with e; have := hn b hb; omega
theorem below_rowG {B : Nat} {w0 w w' : World} {row : Option Nat} (h : Below B w0 w) (hg : w.grownBy w' row) (hr : ∀ b, row = some b → B ≤ b) (hB : B ≤ w.heap.size) : Below B w0 w' :=
  h.trans ⟨hg.os, hg.tape, hg.output, hg.size, fun k hk => hg.block k (by omega) (fun e => by have := hr k e.symm; omega)⟩
/-- a call makes blocks of its own: two coders stay apart -/
theorem apart_told {G G' F F' F2 : Nat → Prop} {w w' : World} {v : Value} {B : Nat} {fr : Prop} (ht : Told G G' F F' w w' v B fr) (h : ∀ b, F2 b → ¬ G b) (hF : ∀ b, F2 b → b < w.heap.size) : ∀ b, F2 b → ¬ G' b := fun b hb e => by
  rcases ht.gnew b e with h1 | h1
  · exact h b hb h1
  · have := hF b hb; omega
theorem apart_toldF {G G' F F' G2 : Nat → Prop} {w w' : World} {v : Value} {B : Nat} {fr : Prop} (ht : Told G G' F F' w w' v B fr) (h : ∀ b, F b → ¬ G2 b) (hG : ∀ b, G2 b → b < w.heap.size) : ∀ b, F' b → ¬ G2 b := fun b hb e => by
  rcases ht.news b hb with h1 | h1
  · exact h b h1 e
  · have := hG b e; omega
end Go.Proofs.YtmenjcdmdmngcaaGreatDoor
namespace Go.Proofs.YtmenjcdmdmngcaaGreatDoor
set_option linter.unusedVariables false
set_option linter.unusedSimpArgs false
set_option linter.unnecessarySimpa false
open Go.RowKit
/-- of the blocks that there were only those from S to L are written -/
structure MidR (S L : Nat) (w w' : World) : Prop where
  os : w'.os = w.os
  tape : w'.tape = w.tape
  output : w'.output = w.output
  size : w.heap.size ≤ w'.heap.size
  block : ∀ k, k < w.heap.size → (k < S ∨ L ≤ k) → w'.heap[k]? = w.heap[k]?
theorem MidR.below {S L B : Nat} {w w' : World} (h : MidR S L w w') (hB : B ≤ S) (hw : B ≤ w.heap.size) : Below B w w' :=
  ⟨h.os, h.tape, h.output, h.size, fun k hk => h.block k (by omega) (.inl (by omega))⟩
theorem MidR.of {S L : Nat} {w w' : World} (h : Below w.heap.size w w') : MidR S L w w' := ⟨h.os, h.tape, h.output, h.size, fun k hk _ => h.block k hk⟩
theorem MidR.trans {S L : Nat} {w w1 w2 : World} (h : MidR S L w w1) (h' : MidR S L w1 w2) : MidR S L w w2 :=
  ⟨h'.os.trans h.os, h'.tape.trans h.tape, h'.output.trans h.output, Nat.le_trans h.size h'.size, fun k hk hr => (h'.block k (Nat.lt_of_lt_of_le hk h.size) hr).trans (h.block k hk hr)⟩
theorem own_midR {base n size S L : Nat} {T : TypeId} {w w' : World} {v : Value} {xs : List Value} (ho : w.ownsRow base T size v n xs) (hm : MidR S L w w') (hL : L ≤ base) : w'.ownsRow base T size v n xs := by
  refine ⟨ho.1, ?_⟩
  rcases ho.2 with hn | ⟨g, cap, cur, h1, h2, h3, h4⟩
  · exact .inl hn
  · refine .inr ⟨g, cap, cur, h1, h2, ?_, h4⟩
    rw [hm.block g (Array.getElem?_eq_some_iff.1 h3).1 (.inr (by omega))]
    exact h3
theorem OwnTkB.midR {base S L : Nat} {w w' : World} {v : Value} {ts : List Tk} (h : OwnTkB base w v ts) (hm : MidR S L w w') (hL : L ≤ base) : OwnTkB base w' v ts := by
  obtain ⟨xs, ho, hr⟩ := h
  exact ⟨xs, own_midR ho hm hL, hr.step hm.size fun b hl hx => ⟨hx, hm.block b hl (.inr (by have := hx.2; omega))⟩⟩
theorem IR.midR {base S L : Nat} {w w' : World} {v : Value} {zs : List Int} (h : IR w base v zs) (hm : MidR S L w w') (hL : L ≤ base) : IR w' base v zs := own_midR h hm hL
theorem Us.midR {S L : Nat} {w w' : World} {X : Nat → Prop} {v : Value} {us : List Int} (h : Us X w v us) (hm : MidR S L w w') (hX : ∀ b, X b → b < S ∨ L ≤ b) : Us X w' v us := h.step hm.size fun b hl hx => ⟨hx, hm.block b hl (hX b hx)⟩
/-- a row made since is written -/
theorem MidR.grown {S L : Nat} {W0 w w' : World} {row : Option Nat} (h : MidR S L W0 w) (hg : w.grownBy w' row) (hr : ∀ b, row = some b → W0.heap.size ≤ b) : MidR S L W0 w' :=
  ⟨hg.os.trans h.os, hg.tape.trans h.tape, hg.output.trans h.output, Nat.le_trans h.size hg.size, fun k hk hx => (hg.block k (Nat.lt_of_lt_of_le hk h.size) (fun e => by have := hr k e.symm; omega)).trans (h.block k hk hx)⟩
theorem MidR.refl (S L : Nat) (w : World) : MidR S L w w := MidR.of (Below.refl _ w)
theorem IR.atMidR {base S L : Nat} {w w' : World} {A : Option Addr} {n c : Nat} {zs : List Int} (h : IR w base (.slice A n c) zs) (hL : L ≤ base) (hm : MidR S L w w') : Rd w' w'.heap.size A (zs.map (Value.int .i64)) := (h.midR hm hL).rd
/-- by predicates -/
theorem Mid.rng {G : Nat → Prop} {S L : Nat} {w w' : World} (h : Mid G w w') (hG : ∀ b, G b → S ≤ b ∧ b < L) : MidR S L w w' :=
  ⟨h.os, h.tape, h.output, h.size, fun k hk hr => h.block k hk (fun e => by have := hG k e; omega)⟩
theorem MidR.mid {S L : Nat} {w w' : World} (h : MidR S L w w') : Mid (fun b => S ≤ b ∧ b < L) w w' :=
  ⟨h.os, h.tape, h.output, h.size, fun k hk hr => h.block k hk (by omega)⟩
end Go.Proofs.YtmenjcdmdmngcaaGreatDoor
