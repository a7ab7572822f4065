/-
  No cell of these rows narrows 'for every input' (looked for: loops, veiled, ifaces, maps, wideKeys, modest, calm, conditions, laid).
  DERIVED. THE GIVEN ROWS OF THIS SEAT. 6 by the template 'for every input the law returns true; each argument reads behind the call as it read before'; 0 by the template 'total and deterministic' (their statements: YtfbncepkmhfbmaaTotals.lean).
  GIVEN WITH THE SEED: the statements are not yours to turn. If you find one false, say at which input.
  Laid BY PROGRAM, IN A SANDBOX (cutbox-rows.mjs): the forced cells as the released guide's own fill.sh prints them over the translation e9a7663ccf06e9a1… (all of the seat's roots in one cut). By AI agents, Wed Nov 11 2026. No macro, syntax, notation, axiom, sorry.
-/
import Derived.Test.YtfbncepkmhfbmaaChecked
import GoSem.Claim
import GoSem.ClaimJoined
import GoSem.ClaimMapViews
import Derived.JoinedTies
import Derived.KernelRfl
namespace Go.Proofs.Ytfbncepkmhfbmaa
/- THE CELL 'sum', in the pinned program and in every row, IS THE sha256 OF THE DUMP (.gsa) THAT YtfbncepkmhfbmaaProg.lean LOADS. Nothing in Lean hashes anything: it is a label: what it is worth is what the hold of that sum in a sandbox is worth. -/
noncomputable def Try.pinned : Pinned := { name := "ytfbncepkmhfbmaa", sum := "e9a7663ccf06e9a1b1b19680659edc90b7014f3652f31b601f168978388bab4b", checked := Try.checked }
namespace Rows
def none {H : Type} : Left H := { results := [], args := [] }

/-- 'lontarlaw05.RewriteAll': WHATEVER THE INPUT: true; the input reads as it did. -/
def rewriteAllSpec : ChangeSpec := { name := "rewriteAll", fn := fun _ => fun
  | [d1, d2, d3] => { results := [.lit (.bool true)], args := [d1, d2, d3] }
  | _ => none }
def rewriteAllRow : OpenClaim := { program := "ytfbncepkmhfbmaa", sum := "e9a7663ccf06e9a1b1b19680659edc90b7014f3652f31b601f168978388bab4b", func := "lontar/lontarlaw05.RewriteAll", spec := "rewriteAll", inPlace := ["slices.overlaps[int]"], apart := false }
def RewriteAllSaid : Prop := rewriteAllRow.holds Try.pinned (OpenSpec.ofChange rewriteAllSpec)

/-- ITS FALSE NEIGHBOUR: 'it returns false'. Refute it at one input. -/
def rewriteAllWrong : ChangeSpec := { name := "rewriteAll", fn := fun _ => fun
  | [d1, d2, d3] => { results := [.lit (.bool false)], args := [d1, d2, d3] }
  | _ => none }
def RewriteAllWrongFalsely : Prop := rewriteAllRow.holds Try.pinned (OpenSpec.ofChange rewriteAllWrong)

/-- 'lontarlaw05.RewriteUnits': WHATEVER THE INPUT: true; the input reads as it did. -/
def rewriteUnitsSpec : ChangeSpec := { name := "rewriteUnits", fn := fun _ => fun
  | [d] => { results := [.lit (.bool true)], args := [d] }
  | _ => none }
def rewriteUnitsRow : OpenClaim := { program := "ytfbncepkmhfbmaa", sum := "e9a7663ccf06e9a1b1b19680659edc90b7014f3652f31b601f168978388bab4b", func := "lontar/lontarlaw05.RewriteUnits", spec := "rewriteUnits", inPlace := ["slices.overlaps[int]"], apart := false }
def RewriteUnitsSaid : Prop := rewriteUnitsRow.holds Try.pinned (OpenSpec.ofChange rewriteUnitsSpec)

/-- ITS FALSE NEIGHBOUR: 'it returns false'. Refute it at one input. -/
def rewriteUnitsWrong : ChangeSpec := { name := "rewriteUnits", fn := fun _ => fun
  | [d] => { results := [.lit (.bool false)], args := [d] }
  | _ => none }
def RewriteUnitsWrongFalsely : Prop := rewriteUnitsRow.holds Try.pinned (OpenSpec.ofChange rewriteUnitsWrong)

/-- 'lontarlaw05.RewriteCover': WHATEVER THE INPUT: true; the input reads as it did. -/
def rewriteCoverSpec : ChangeSpec := { name := "rewriteCover", fn := fun _ => fun
  | [d1, d2] => { results := [.lit (.bool true)], args := [d1, d2] }
  | _ => none }
def rewriteCoverRow : OpenClaim := { program := "ytfbncepkmhfbmaa", sum := "e9a7663ccf06e9a1b1b19680659edc90b7014f3652f31b601f168978388bab4b", func := "lontar/lontarlaw05.RewriteCover", spec := "rewriteCover", inPlace := ["slices.overlaps[int]"], apart := false }
def RewriteCoverSaid : Prop := rewriteCoverRow.holds Try.pinned (OpenSpec.ofChange rewriteCoverSpec)

/-- ITS FALSE NEIGHBOUR: 'it returns false'. Refute it at one input. -/
def rewriteCoverWrong : ChangeSpec := { name := "rewriteCover", fn := fun _ => fun
  | [d1, d2] => { results := [.lit (.bool false)], args := [d1, d2] }
  | _ => none }
def RewriteCoverWrongFalsely : Prop := rewriteCoverRow.holds Try.pinned (OpenSpec.ofChange rewriteCoverWrong)

/-- 'lontarlaw05.RewriteTail': WHATEVER THE INPUT: true; the input reads as it did. -/
def rewriteTailSpec : ChangeSpec := { name := "rewriteTail", fn := fun _ => fun
  | [d1, d2, d3] => { results := [.lit (.bool true)], args := [d1, d2, d3] }
  | _ => none }
def rewriteTailRow : OpenClaim := { program := "ytfbncepkmhfbmaa", sum := "e9a7663ccf06e9a1b1b19680659edc90b7014f3652f31b601f168978388bab4b", func := "lontar/lontarlaw05.RewriteTail", spec := "rewriteTail", inPlace := ["slices.overlaps[int]"], apart := false }
def RewriteTailSaid : Prop := rewriteTailRow.holds Try.pinned (OpenSpec.ofChange rewriteTailSpec)

/-- ITS FALSE NEIGHBOUR: 'it returns false'. Refute it at one input. -/
def rewriteTailWrong : ChangeSpec := { name := "rewriteTail", fn := fun _ => fun
  | [d1, d2, d3] => { results := [.lit (.bool false)], args := [d1, d2, d3] }
  | _ => none }
def RewriteTailWrongFalsely : Prop := rewriteTailRow.holds Try.pinned (OpenSpec.ofChange rewriteTailWrong)

/-- 'lontarlaw05.RewriteSingles': WHATEVER THE INPUT: true; the input reads as it did. -/
def rewriteSinglesSpec : ChangeSpec := { name := "rewriteSingles", fn := fun _ => fun
  | [d1, d2] => { results := [.lit (.bool true)], args := [d1, d2] }
  | _ => none }
def rewriteSinglesRow : OpenClaim := { program := "ytfbncepkmhfbmaa", sum := "e9a7663ccf06e9a1b1b19680659edc90b7014f3652f31b601f168978388bab4b", func := "lontar/lontarlaw05.RewriteSingles", spec := "rewriteSingles", inPlace := ["slices.overlaps[int]"], apart := false }
def RewriteSinglesSaid : Prop := rewriteSinglesRow.holds Try.pinned (OpenSpec.ofChange rewriteSinglesSpec)

/-- ITS FALSE NEIGHBOUR: 'it returns false'. Refute it at one input. -/
def rewriteSinglesWrong : ChangeSpec := { name := "rewriteSingles", fn := fun _ => fun
  | [d1, d2] => { results := [.lit (.bool false)], args := [d1, d2] }
  | _ => none }
def RewriteSinglesWrongFalsely : Prop := rewriteSinglesRow.holds Try.pinned (OpenSpec.ofChange rewriteSinglesWrong)

/-- 'lontarlaw05.RewriteSum': WHATEVER THE INPUT: true; the input reads as it did. -/
def rewriteSumSpec : ChangeSpec := { name := "rewriteSum", fn := fun _ => fun
  | [d1, d2] => { results := [.lit (.bool true)], args := [d1, d2] }
  | _ => none }
def rewriteSumRow : OpenClaim := { program := "ytfbncepkmhfbmaa", sum := "e9a7663ccf06e9a1b1b19680659edc90b7014f3652f31b601f168978388bab4b", func := "lontar/lontarlaw05.RewriteSum", spec := "rewriteSum", inPlace := ["slices.overlaps[int]"], apart := false }
def RewriteSumSaid : Prop := rewriteSumRow.holds Try.pinned (OpenSpec.ofChange rewriteSumSpec)

/-- ITS FALSE NEIGHBOUR: 'it returns false'. Refute it at one input. -/
def rewriteSumWrong : ChangeSpec := { name := "rewriteSum", fn := fun _ => fun
  | [d1, d2] => { results := [.lit (.bool false)], args := [d1, d2] }
  | _ => none }
def RewriteSumWrongFalsely : Prop := rewriteSumRow.holds Try.pinned (OpenSpec.ofChange rewriteSumWrong)

/- THE SECOND FORM. 'bulk': how many values and letters a reading holds, each counted each time it is reached (what is shared counts as often as it is met; a slice's spare places count too). A statement '..UptoSaid' is the law's where the arguments, and the package variables that the reading takes, are together of bulk at most 1048576: NARROWER than '..Said'. Prove '..Said' where nothing that the law and all that it calls make is longer than what came in: it says more and counts as full. Else prove '..UptoSaid'. A law counts once. -/
mutual
def uptoBulk {H : Type} : DataW H → Nat
  | .lit (.string bytes) => bytes.length + 1
  | .lit _ => 1
  | .nil => 1
  | .ptr d => uptoBulk d + 1
  | .slice elems spare => uptoBulkAll elems + uptoBulkAll spare + 1
  | .agg parts => uptoBulkAll parts + 1
  | .iface _ d => uptoBulk d + 1
  | .map entries => uptoBulkEntries entries + 1
  | .held _ => 1
def uptoBulkAll {H : Type} : List (DataW H) → Nat
  | [] => 0
  | d :: r => uptoBulk d + uptoBulkAll r
def uptoBulkEntries {H : Type} : List (Lit × DataW H) → Nat
  | [] => 0
  | x :: r => uptoBulkEntry x + uptoBulkEntries r
def uptoBulkEntry {H : Type} : Lit × DataW H → Nat
  | (.string bytes, d) => bytes.length + uptoBulk d + 1
  | (_, d) => uptoBulk d + 1
 end
def uptoSmall : (H : Type) → List (DataW H) → Bool := fun _ ds => decide (uptoBulkAll ds ≤ 1048576)
def OpenSpec.upto (s : _root_.Go.ChangeSpec) : _root_.Go.OpenSpec := { _root_.Go.OpenSpec.ofChange s with cond := some uptoSmall }

/-- 'lontarlaw05.RewriteAll', WHERE WHAT IT READS IS OF BULK AT MOST 1048576: true; the input reads as it did. -/
def rewriteAllUptoRow : OpenClaim := { program := "ytfbncepkmhfbmaa", sum := "e9a7663ccf06e9a1b1b19680659edc90b7014f3652f31b601f168978388bab4b", func := "lontar/lontarlaw05.RewriteAll", spec := "rewriteAll", inPlace := ["slices.overlaps[int]"], apart := false, narrowed := true }
def RewriteAllUptoSaid : Prop := rewriteAllUptoRow.holds Try.pinned (OpenSpec.upto rewriteAllSpec)

/-- 'lontarlaw05.RewriteUnits', WHERE WHAT IT READS IS OF BULK AT MOST 1048576: true; the input reads as it did. -/
def rewriteUnitsUptoRow : OpenClaim := { program := "ytfbncepkmhfbmaa", sum := "e9a7663ccf06e9a1b1b19680659edc90b7014f3652f31b601f168978388bab4b", func := "lontar/lontarlaw05.RewriteUnits", spec := "rewriteUnits", inPlace := ["slices.overlaps[int]"], apart := false, narrowed := true }
def RewriteUnitsUptoSaid : Prop := rewriteUnitsUptoRow.holds Try.pinned (OpenSpec.upto rewriteUnitsSpec)

/-- 'lontarlaw05.RewriteCover', WHERE WHAT IT READS IS OF BULK AT MOST 1048576: true; the input reads as it did. -/
def rewriteCoverUptoRow : OpenClaim := { program := "ytfbncepkmhfbmaa", sum := "e9a7663ccf06e9a1b1b19680659edc90b7014f3652f31b601f168978388bab4b", func := "lontar/lontarlaw05.RewriteCover", spec := "rewriteCover", inPlace := ["slices.overlaps[int]"], apart := false, narrowed := true }
def RewriteCoverUptoSaid : Prop := rewriteCoverUptoRow.holds Try.pinned (OpenSpec.upto rewriteCoverSpec)

/-- 'lontarlaw05.RewriteTail', WHERE WHAT IT READS IS OF BULK AT MOST 1048576: true; the input reads as it did. -/
def rewriteTailUptoRow : OpenClaim := { program := "ytfbncepkmhfbmaa", sum := "e9a7663ccf06e9a1b1b19680659edc90b7014f3652f31b601f168978388bab4b", func := "lontar/lontarlaw05.RewriteTail", spec := "rewriteTail", inPlace := ["slices.overlaps[int]"], apart := false, narrowed := true }
def RewriteTailUptoSaid : Prop := rewriteTailUptoRow.holds Try.pinned (OpenSpec.upto rewriteTailSpec)

/-- 'lontarlaw05.RewriteSingles', WHERE WHAT IT READS IS OF BULK AT MOST 1048576: true; the input reads as it did. -/
def rewriteSinglesUptoRow : OpenClaim := { program := "ytfbncepkmhfbmaa", sum := "e9a7663ccf06e9a1b1b19680659edc90b7014f3652f31b601f168978388bab4b", func := "lontar/lontarlaw05.RewriteSingles", spec := "rewriteSingles", inPlace := ["slices.overlaps[int]"], apart := false, narrowed := true }
def RewriteSinglesUptoSaid : Prop := rewriteSinglesUptoRow.holds Try.pinned (OpenSpec.upto rewriteSinglesSpec)

/-- 'lontarlaw05.RewriteSum', WHERE WHAT IT READS IS OF BULK AT MOST 1048576: true; the input reads as it did. -/
def rewriteSumUptoRow : OpenClaim := { program := "ytfbncepkmhfbmaa", sum := "e9a7663ccf06e9a1b1b19680659edc90b7014f3652f31b601f168978388bab4b", func := "lontar/lontarlaw05.RewriteSum", spec := "rewriteSum", inPlace := ["slices.overlaps[int]"], apart := false, narrowed := true }
def RewriteSumUptoSaid : Prop := rewriteSumUptoRow.holds Try.pinned (OpenSpec.upto rewriteSumSpec)

end Rows
end Go.Proofs.Ytfbncepkmhfbmaa
