/- Texts of this seat, one behind the other: CdM. -/
import Derived.Test.YtncpokioagpclaaGreatDoorZ23
import Derived.Test.YtncpokioagpclaaGreatDoorZ31
import Derived.Test.YtncpokioagpclaaGreatDoorZ33
namespace Go.Proofs.YtncpokioagpclaaGreatDoor
set_option linter.unusedVariables false
set_option linter.unusedSimpArgs false
set_option linter.unnecessarySimpa false
open Go.RowKit
/-- a machine that nothing waits in, at the end: Held of each sort of them -/
def DHeld (w : World) (V : Value) : Prop :=
  (∃ p, V = .iface 84 (.pointer (some ⟨p, 0, none⟩)) ∧ Calls Tryz.prog 192 #[.pointer (some ⟨p, 0, none⟩)] w fun e w' => e = .returned (.int .i64 0) ∧ Below w.heap.size w w') ∨
  (∃ p, V = .iface 90 (.pointer (some ⟨p, 0, none⟩)) ∧ Calls Tryz.prog 200 #[.pointer (some ⟨p, 0, none⟩)] w fun e w' => e = .returned (.int .i64 0) ∧ Below w.heap.size w w') ∨
  (∃ p, V = .iface 162 (.agg #[.pointer (some ⟨p, 0, none⟩)]) ∧ Calls Tryz.prog 229 #[.pointer (some ⟨p, 0, none⟩)] w fun e w' => e = .returned (.int .i64 0) ∧ Below w.heap.size w w')
def EHeld (w : World) (V : Value) : Prop :=
  (∃ p, V = .iface 116 (.pointer (some ⟨p, 0, none⟩)) ∧ Calls Tryz.prog 214 #[.pointer (some ⟨p, 0, none⟩)] w fun e w' => e = .returned (.int .i64 0) ∧ Below w.heap.size w w') ∨
  (∃ p, V = .iface 119 (.pointer (some ⟨p, 0, none⟩)) ∧ Calls Tryz.prog 218 #[.pointer (some ⟨p, 0, none⟩)] w fun e w' => e = .returned (.int .i64 0) ∧ Below w.heap.size w w') ∨
  (∃ p, V = .iface 121 (.pointer (some ⟨p, 0, none⟩)) ∧ Calls Tryz.prog 222 #[.pointer (some ⟨p, 0, none⟩)] w fun e w' => e = .returned (.int .i64 0) ∧ Below w.heap.size w w')
/-- it is a machine -/
def IsM (V : Value) : Prop := ∃ T x, V = .iface T x
/-- letters made small, of ASCII -/
def lowC (c : UInt8) : UInt8 := if 65 ≤ c ∧ c ≤ 90 then c + 32 else c
def lowB (s : ByteArray) : ByteArray := ⟨(s.data.toList.map lowC).toArray⟩
def isAscii (s : ByteArray) : Bool := s.data.toList.all fun c => decide (c < 128)
/-- what a small name means -/
def nameB (s : ByteArray) : Option Nat :=
  if s.toList = "utf-8".toUTF8.toList ∨ s.toList = "utf8".toUTF8.toList then some 0
  else if s.toList = "ascii".toUTF8.toList ∨ s.toList = "us-ascii".toUTF8.toList then some 1
  else if s.toList = "viscii".toUTF8.toList ∨ s.toList = "viscii1.1-1".toUTF8.toList then some 2
  else if s.toList = "tcvn3".toUTF8.toList ∨ s.toList = "tcvn".toUTF8.toList ∨ s.toList = "abc".toUTF8.toList then some 3
  else if s.toList = "vni".toUTF8.toList ∨ s.toList = "vni-win".toUTF8.toList then some 4
  else if s.toList = "tis-620".toUTF8.toList ∨ s.toList = "tis620".toUTF8.toList ∨ s.toList = "iso-8859-11".toUTF8.toList then some 5
  else if s.toList = "tscii".toUTF8.toList then some 6
  else if s.toList = "iscii".toUTF8.toList ∨ s.toList = "iscii-91".toUTF8.toList then some 7
  else none
def nameV (o : Option Nat) : Value := match o with | some k => .tuple #[.string (nmB k), .int .i64 0] | none => .tuple #[.string ⟨#[]⟩, .int .i64 6]
/-- package codec's contracts. N: the codecs whose machines are told of. A machine lies in blocks from S to L, and such as it made since -/
structure CodApi where
  OK : World → Prop
  N : Nat → Prop
  keep : ∀ {w w' : World}, OK w → Below w.heap.size w w' → OK w'
  tabs : ∀ {w : World}, OK w → Tabs w
  names : ∀ w : World, OK w → Calls Tryz.prog 43 #[] w fun e w' => ∃ A c, e = .returned (.slice A 8 c) ∧ Below w.heap.size w w'
  name : ∀ (w : World) (s : ByteArray), s.size ≤ 1000 → OK w → ∃ t : ByteArray, (isAscii s = true → t = lowB s) ∧ Calls Tryz.prog 30 #[.string s] w fun e w' => e = .returned (nameV (nameB t)) ∧ Below w.heap.size w w'
  table : ∀ (w : World) (k : Nat), 1 ≤ k → k ≤ 6 → OK w → Calls Tryz.prog 18 #[.string (nmB k)] w fun e w' => ∃ T, e = .returned (.pointer (some ⟨T, 0, none⟩)) ∧ TabAt w' w'.heap.size T (cdR k) ∧ Below w.heap.size w w'
  notab : ∀ (w : World) (s : ByteArray), s = nmB 0 ∨ s = nmB 7 ∨ s = ⟨#[120]⟩ → OK w → Calls Tryz.prog 18 #[.string s] w fun e w' => e = .returned (.pointer none) ∧ Below w.heap.size w w'
  D : Nat → Nat → Nat → World → Value → Prop
  dfoot : ∀ {k S L : Nat} {w : World} {V : Value}, D k S L w V → S ≤ L ∧ L ≤ w.heap.size ∧ IsM V
  dstay : ∀ {k S L : Nat} {w w' : World} {V : Value}, D k S L w V → w.heap.size ≤ w'.heap.size → (∀ b, S ≤ b → b < L → w'.heap[b]? = w.heap[b]?) → D k S L w' V
  decode : ∀ (w : World) (k : Nat), k < 8 → N k → OK w → Calls Tryz.prog 12 #[.string (nmB k)] w fun e w' => ∃ V, e = .returned (.tuple #[V, .int .i64 0]) ∧ D k w.heap.size w'.heap.size w' V ∧ Below w.heap.size w w'
  dall : ∀ {k S L : Nat} {w : World} {V : Value} (n : Nat) (A : Option Addr) (c : Nat) (us : List Int) (ts : List Tk), D k S L w V → k < 8 → N k → (∀ w', MidR S L w w' → OK w') → us.length = n → Us (fun b => b < S ∨ L ≤ b) w (.slice A n c) us → n ≤ 20000 → (k = 0 → ∀ u ∈ us, 0 ≤ u ∧ u ≤ 255) → decL k us = ts →
    Calls Tryz.prog 15 #[V, .slice A n c] w fun e w' => ∃ v, e = .returned v ∧ OwnTkB w.heap.size w' v ts ∧ (∀ w2, w'.heap.size ≤ w2.heap.size → (∀ b, b < w'.heap.size → v.ownBlock ≠ some b → w2.heap[b]? = w'.heap[b]?) → DHeld w2 V) ∧ MidR S L w w'
  E : Nat → Nat → Nat → World → Value → Prop
  efoot : ∀ {k S L : Nat} {w : World} {V : Value}, E k S L w V → S ≤ L ∧ L ≤ w.heap.size ∧ IsM V
  estay : ∀ {k S L : Nat} {w w' : World} {V : Value}, E k S L w V → w.heap.size ≤ w'.heap.size → (∀ b, S ≤ b → b < L → w'.heap[b]? = w.heap[b]?) → E k S L w' V
  encode : ∀ (w : World) (k : Nat), k < 8 → N k → OK w → Calls Tryz.prog 25 #[.string (nmB k)] w fun e w' => ∃ V, e = .returned (.tuple #[V, .int .i64 0]) ∧ E k w.heap.size w'.heap.size w' V ∧ Below w.heap.size w w'
  encode8 : ∀ (w : World), N 0 → OK w → Calls Tryz.prog 25 #[.string ⟨#[117, 116, 102, 56]⟩] w fun e w' => ∃ V, e = .returned (.tuple #[V, .int .i64 0]) ∧ E 0 w.heap.size w'.heap.size w' V ∧ Below w.heap.size w w'
  eall : ∀ {k S L : Nat} {w : World} {V : Value} (n : Nat) (A : Option Addr) (c : Nat) (us : List Int) (ts : List Tk), E k S L w V → k < 8 → N k → (∀ w', MidR S L w w' → OK w') → us.length = n → Us (fun b => b < S ∨ L ≤ b) w (.slice A n c) us → n ≤ 20000 → encK k us = ts →
    Calls Tryz.prog 15 #[V, .slice A n c] w fun e w' => ∃ v, e = .returned v ∧ OwnTkB w.heap.size w' v ts ∧ (∀ w2, w'.heap.size ≤ w2.heap.size → (∀ b, b < w'.heap.size → v.ownBlock ≠ some b → w2.heap[b]? = w'.heap[b]?) → EHeld w2 V) ∧ MidR S L w w'
section
variable {I : CodApi} {k S L : Nat} {w w' : World} {V : Value}
end

end Go.Proofs.YtncpokioagpclaaGreatDoor
