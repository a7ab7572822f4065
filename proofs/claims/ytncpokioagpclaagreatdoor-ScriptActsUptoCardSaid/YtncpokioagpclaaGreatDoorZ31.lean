/- Texts of this seat, one behind the other: IscIl, MidR, GrT. -/
import Derived.Test.YtncpokioagpclaaGreatDoorZ22
import Derived.Test.YtncpokioagpclaaGreatDoorZ30
import Derived.Test.YtncpokioagpclaaGreatDoorZ9
import Derived.Test.YtncpokioagpclaaGreatDoorZ29
namespace Go.Proofs.YtncpokioagpclaaGreatDoor
set_option linter.unusedVariables false
set_option linter.unusedSimpArgs false
set_option linter.unnecessarySimpa false
open Go.RowKit
/-- of the blocks that there were only such as are G's are written -/
structure Mid (G : Nat → Prop) (w w' : World) : Prop where
  os : w'.os = w.os
  tape : w'.tape = w.tape
  output : w'.output = w.output
  size : w.heap.size ≤ w'.heap.size
  block : ∀ k, k < w.heap.size → ¬ G k → w'.heap[k]? = w.heap[k]?
theorem Mid.below {G : Nat → Prop} {B : Nat} {w w' : World} (h : Mid G w w') (hG : ∀ b, G b → B ≤ b) (hw : B ≤ w.heap.size) : Below B w w' :=
  ⟨h.os, h.tape, h.output, h.size, fun k hk => h.block k (by omega) (fun e => by have := hG k e; omega)⟩
theorem Mid.of {G : Nat → Prop} {w w' : World} (h : Below w.heap.size w w') : Mid G w w' := ⟨h.os, h.tape, h.output, h.size, fun k hk _ => h.block k hk⟩
theorem Mid.refl (G : Nat → Prop) (w : World) : Mid G w w := Mid.of (Below.refl _ w)
/-- what is written later has grown by blocks made since -/
theorem Mid.then {G0 G : Nat → Prop} {w w1 w2 : World} (h : Mid G0 w w1) (h' : Mid G w1 w2) (hg : ∀ b, G b → G0 b ∨ w.heap.size ≤ b) : Mid G0 w w2 :=
  ⟨h'.os.trans h.os, h'.tape.trans h.tape, h'.output.trans h.output, Nat.le_trans h.size h'.size, fun k hk hr => (h'.block k (Nat.lt_of_lt_of_le hk h.size) (fun e => by rcases hg k e with h1 | h1; exact hr h1; omega)).trans (h.block k hk hr)⟩
theorem own_mid {base n size : Nat} {G : Nat → Prop} {T : TypeId} {w w' : World} {v : Value} {xs : List Value} (ho : w.ownsRow base T size v n xs) (hm : Mid G w w') (hL : ∀ b, v.ownBlock = some b → ¬ G b) : w'.ownsRow base T size v n xs := by
  refine ⟨ho.1, ?_⟩
  rcases ho.2 with hn | ⟨g, cap, cur, h1, h2, h3, h4⟩
  · exact .inl hn
  · refine .inr ⟨g, cap, cur, h1, h2, ?_, h4⟩
    rw [hm.block g (Array.getElem?_eq_some_iff.1 h3).1 (hL g (by rw [h1]; rfl))]
    exact h3
theorem own_ltT {base : Nat} {w : World} {v : Value} {ts : List Tk} (h : OwnTkB base w v ts) {b : Nat} (e : v.ownBlock = some b) : base ≤ b ∧ b < w.heap.size := by
  obtain ⟨xs, ho, _⟩ := h
  exact ho.lt b e
/-- a call that a coder makes: it writes G, looks at F; G', F': behind it; v: what it told, from B on; fr: it may be the first call -/
structure Told (G G' F F' : Nat → Prop) (w w' : World) (v : Value) (B : Nat) (fr : Prop) : Prop where
  base : w.heap.size ≤ B
  top : B ≤ w'.heap.size
  far : ∀ b, G' b → b < B
  news : ∀ b, F' b → F b ∨ w.heap.size ≤ b
  gnew : ∀ b, G' b → G b ∨ w.heap.size ≤ b
  old : (∀ b, G' b → G b) ∨ fr
  notin : ∀ b, v.ownBlock = some b → ¬ F' b
  mid : Mid G w w'
/-- Iscii's contracts. A coder writes the blocks G, and looks at F -/
structure IsCore where
  OK : World → Prop
  keep : ∀ {w w' : World}, OK w → Below w.heap.size w w' → OK w'
  D : (Nat → Prop) → (Nat → Prop) → World → Nat → List Int → Int → Int → Prop
  dfoot : ∀ {G F : Nat → Prop} {w : World} {p : Nat} {q : List Int} {a sc : Int}, D G F w p q a sc → (∀ b, G b → F b) ∧ ∀ b, F b → b < w.heap.size
  dstay : ∀ {G F : Nat → Prop} {w w' : World} {p : Nat} {q : List Int} {a sc : Int}, D G F w p q a sc → w.heap.size ≤ w'.heap.size → (∀ b, F b → w'.heap[b]? = w.heap[b]?) → D G F w' p q a sc
  decode : ∀ w : World, OK w → Calls Tryz.prog 45 #[] w fun e w' => ∃ p F, e = .returned (.pointer (some ⟨p, 0, none⟩)) ∧ D F F w' p [] 0 0 ∧ (∀ b, F b → w.heap.size ≤ b) ∧ Below w.heap.size w w'
  dput : ∀ {G F : Nat → Prop} {w : World} {p : Nat} {q : List Int} {a sc : Int} (u : Int) (ts : List Tk) (rest : List Int) (k : Nat) (ms : List Tk) (sc' : Int), D G F w p q a sc → OK w → q.length ≤ 1 → 0 ≤ a → a ≤ 100000 → 0 ≤ sc → sc ≤ 8 →
    drain inR a (q ++ [u]) = (ts, rest, k) → meanT sc ts = (ms, sc') →
    Calls Tryz.prog 201 #[.pointer (some ⟨p, 0, none⟩), .int .i64 u] w fun e w' => ∃ v G' F' B, e = .returned v ∧ OwnTkB B w' v ms ∧ D G' F' w' p rest (a + q.length + 1 - rest.length) sc' ∧ Told G G' F F' w w' v B (q = [] ∧ a = 0)
  dend : ∀ {G F : Nat → Prop} {w : World} {p : Nat} {q : List Int} {a sc : Int} (ts ms : List Tk) (sc' : Int), D G F w p q a sc → OK w → q.length ≤ 1 → 0 ≤ a → a ≤ 100000 → 0 ≤ sc → sc ≤ 8 →
    rewA inR a q = ts → meanT sc ts = (ms, sc') →
    Calls Tryz.prog 199 #[.pointer (some ⟨p, 0, none⟩)] w fun e w' => ∃ v G' F' B, e = .returned v ∧ OwnTkB B w' v ms ∧ D G' F' w' p [] (a + q.length) sc' ∧ Told G G' F F' w w' v B (q = [] ∧ a = 0)
  dheld : ∀ {G F : Nat → Prop} {w : World} {p : Nat} {q : List Int} {a sc : Int} (n : Nat), D G F w p q a sc → OK w → q.length = n → Calls Tryz.prog 200 #[.pointer (some ⟨p, 0, none⟩)] w fun e w' => ∃ G' F' B, e = .returned (.int .i64 n) ∧ D G' F' w' p q a sc ∧ Told G G' F F' w w' (.slice none 0 0) B (q = [] ∧ a = 0)
  E : (Nat → Prop) → (Nat → Prop) → World → Nat → List Int → Int → List Int → Int → Prop
  efoot : ∀ {G F : Nat → Prop} {w : World} {p : Nat} {q ah : List Int} {a sc : Int}, E G F w p q a ah sc → (∀ b, G b → F b) ∧ ∀ b, F b → b < w.heap.size
  estay : ∀ {G F : Nat → Prop} {w w' : World} {p : Nat} {q ah : List Int} {a sc : Int}, E G F w p q a ah sc → w.heap.size ≤ w'.heap.size → (∀ b, F b → w'.heap[b]? = w.heap[b]?) → E G F w' p q a ah sc
  encode : ∀ w : World, OK w → Calls Tryz.prog 61 #[] w fun e w' => ∃ p F, e = .returned (.pointer (some ⟨p, 0, none⟩)) ∧ E F F w' p [] 0 [] 0 ∧ (∀ b, F b → w.heap.size ≤ b) ∧ Below w.heap.size w w'
  eput : ∀ {G F : Nat → Prop} {w : World} {p : Nat} {q ah : List Int} {a sc : Int} (s : Int) (ts : List Tk) (q' : List Int) (a' : Int) (ah' : List Int) (sc' : Int), E G F w p q a ah sc → OK w → q.length ≤ 1 → ah.length ≤ 8 → 0 ≤ a → a ≤ 100000 → 0 ≤ sc → sc ≤ 8 →
    ePut q a ah sc s = (ts, q', a', ah', sc') →
    Calls Tryz.prog 219 #[.pointer (some ⟨p, 0, none⟩), .int .i64 s] w fun e w' => ∃ v G' F' B, e = .returned v ∧ OwnTkB B w' v ts ∧ E G' F' w' p q' a' ah' sc' ∧ Told G G' F F' w w' v B (q = [] ∧ a = 0)
  eend : ∀ {G F : Nat → Prop} {w : World} {p : Nat} {q ah : List Int} {a sc : Int} (ts : List Tk), E G F w p q a ah sc → OK w → q.length ≤ 1 → ah.length ≤ 8 → 0 ≤ a → a ≤ 100000 → 0 ≤ sc → sc ≤ 8 →
    encF inR ah (rewA (turnR inR) a q) = ts →
    Calls Tryz.prog 217 #[.pointer (some ⟨p, 0, none⟩)] w fun e w' => ∃ v G' F' B, e = .returned v ∧ OwnTkB B w' v ts ∧ E G' F' w' p [] (a + q.length) (aheadF ah ts) sc ∧ Told G G' F F' w w' v B (q = [] ∧ a = 0)
  eheld : ∀ {G F : Nat → Prop} {w : World} {p : Nat} {q ah : List Int} {a sc : Int} (n : Nat), E G F w p q a ah sc → OK w → q.length = n → Calls Tryz.prog 218 #[.pointer (some ⟨p, 0, none⟩)] w fun e w' => ∃ G' F' B, e = .returned (.int .i64 n) ∧ E G' F' w' p q a ah sc ∧ Told G G' F F' w w' (.slice none 0 0) B (q = [] ∧ a = 0)
section
variable {I : IsCore} {G F : Nat → Prop} {w w' : World} {p : Nat} {q ah : List Int} {a sc : Int}
end
theorem below_rowG {B : Nat} {w0 w w' : World} {row : Option Nat} (h : Below B w0 w) (hg : w.grownBy w' row) (hr : ∀ b, row = some b → B ≤ b) (hB : B ≤ w.heap.size) : Below B w0 w' :=
  h.trans ⟨hg.os, hg.tape, hg.output, hg.size, fun k hk => hg.block k (by omega) (fun e => by have := hr k e.symm; omega)⟩
theorem Mid.by {G : Nat → Prop} {w w' : World} {r : Nat} (h : w.grownBy w' (some r)) (hr : G r) : Mid G w w' :=
  ⟨h.os, h.tape, h.output, h.size, fun k hk hn => h.block k hk (fun e => by injection e with e; exact hn (e ▸ hr))⟩
end Go.Proofs.YtncpokioagpclaaGreatDoor
namespace Go.Proofs.YtncpokioagpclaaGreatDoor
set_option linter.unusedVariables false
set_option linter.unusedSimpArgs false
set_option linter.unnecessarySimpa false
open Go.RowKit
/-- of the blocks that there were only those from S to L are written -/
structure MidR (S L : Nat) (w w' : World) : Prop where
  os : w'.os = w.os
  tape : w'.tape = w.tape
  output : w'.output = w.output
  size : w.heap.size ≤ w'.heap.size
  block : ∀ k, k < w.heap.size → (k < S ∨ L ≤ k) → w'.heap[k]? = w.heap[k]?
end Go.Proofs.YtncpokioagpclaaGreatDoor
namespace Go.Proofs.YtncpokioagpclaaGreatDoor
set_option linter.unusedVariables false
set_option linter.unusedSimpArgs false
set_option linter.unnecessarySimpa false
open Go.RowKit
theorem below_allocI' (w : World) (o : Obj) : Below w.heap.size w (w.alloc o) := (Below.refl _ w).alloc (Nat.le_refl _) o
/-- of the blocks that there were only P and V's are written -/
structure Gr (P : Nat) (V : Option Nat) (w w' : World) : Prop where
  os : w'.os = w.os
  tape : w'.tape = w.tape
  output : w'.output = w.output
  size : w.heap.size ≤ w'.heap.size
  block : ∀ k, k < w.heap.size → k ≠ P → some k ≠ V → w'.heap[k]? = w.heap[k]?
theorem Gr.refl (P : Nat) (V : Option Nat) (w : World) : Gr P V w w := ⟨rfl, rfl, rfl, Nat.le_refl _, fun _ _ _ _ => rfl⟩
theorem Gr.below {P : Nat} {V : Option Nat} {w w1 w2 : World} (h : Gr P V w w1) (hb : Below w1.heap.size w1 w2) : Gr P V w w2 :=
  ⟨hb.os.trans h.os, hb.tape.trans h.tape, hb.output.trans h.output, Nat.le_trans h.size hb.size, fun k hk hp hv => (hb.block k (Nat.lt_of_lt_of_le hk h.size)).trans (h.block k hk hp hv)⟩
theorem Gr.grown {P : Nat} {V : Option Nat} {w w1 w2 : World} {row : Option Nat} (h : Gr P V w w1) (hg : w1.grownBy w2 row) (hr : row = V ∨ ∃ b, row = some b ∧ w.heap.size ≤ b) : Gr P V w w2 :=
  ⟨hg.os.trans h.os, hg.tape.trans h.tape, hg.output.trans h.output, Nat.le_trans h.size hg.size, fun k hk hp hv => (hg.block k (Nat.lt_of_lt_of_le hk h.size) (fun e => by
    rcases hr with e1 | ⟨b, e1, hb⟩
    · exact hv (e.trans e1)
    · rw [e1] at e; injection e with e; omega)).trans (h.block k hk hp hv)⟩
theorem Gr.set {P : Nat} {V : Option Nat} {w w1 : World} (h : Gr P V w w1) {g j : Nat} (v : Value) (hg : g = P ∨ w.heap.size ≤ g) : Gr P V w (w1.setCell ⟨g, j, none⟩ v) :=
  ⟨h.os, h.tape, h.output, by rw [World.size_setCell]; exact h.size, fun k hk hp hv => (Below.heap_setCell _ _ _ _ (fun e => by have : k = g := e; rcases hg with h1 | h1 <;> omega)).trans (h.block k hk hp hv)⟩
end Go.Proofs.YtncpokioagpclaaGreatDoor
