/-
  No cell of these rows narrows 'for every input' (looked for: loops, veiled, ifaces, maps, wideKeys, modest, calm, conditions, laid).
  DERIVED. THE GIVEN ROWS OF THIS SEAT. 5 by the template 'for every input the law returns true; each argument reads behind the call as it read before'; 0 by the template 'total and deterministic' (their statements: YtmjcnopkckkaoaaTotals.lean).
  GIVEN WITH THE SEED: the statements are not yours to turn. If you find one false, say at which input.
  Laid BY PROGRAM, IN A SANDBOX (cutbox-rows.mjs): the forced cells as the released guide's own fill.sh prints them over the translation 46fd29c909f224af… (all of the seat's roots in one cut). By AI agents, Wed Nov 11 2026. No macro, syntax, notation, axiom, sorry.
-/
import Derived.Test.YtmjcnopkckkaoaaChecked
import GoSem.Claim
import GoSem.ClaimJoined
import GoSem.ClaimMapViews
import Derived.JoinedTies
import Derived.KernelRfl
namespace Go.Proofs.Ytmjcnopkckkaoaa
/- THE CELL 'sum', in the pinned program and in every row, IS THE sha256 OF THE DUMP (.gsa) THAT YtmjcnopkckkaoaaProg.lean LOADS. Nothing in Lean hashes anything: it is a label: what it is worth is what the hold of that sum in a sandbox is worth. -/
noncomputable def Try.pinned : Pinned := { name := "ytmjcnopkckkaoaa", sum := "46fd29c909f224af680495162d292e436e45a96a0827f8f3c84cf09321bd9d71", checked := Try.checked }
namespace Rows
def none {H : Type} : Left H := { results := [], args := [] }

/-- 'lontarlaw06.MatchAll': WHATEVER THE INPUT: true; the input reads as it did. -/
def matchAllSpec : ChangeSpec := { name := "matchAll", fn := fun _ => fun
  | [d1, d2, d3] => { results := [.lit (.bool true)], args := [d1, d2, d3] }
  | _ => none }
def matchAllRow : OpenClaim := { program := "ytmjcnopkckkaoaa", sum := "46fd29c909f224af680495162d292e436e45a96a0827f8f3c84cf09321bd9d71", func := "lontar/lontarlaw06.MatchAll", spec := "matchAll", inPlace := ["slices.overlaps[int]"], apart := false }
def MatchAllSaid : Prop := matchAllRow.holds Try.pinned (OpenSpec.ofChange matchAllSpec)

/-- ITS FALSE NEIGHBOUR: 'it returns false'. Refute it at one input. -/
def matchAllWrong : ChangeSpec := { name := "matchAll", fn := fun _ => fun
  | [d1, d2, d3] => { results := [.lit (.bool false)], args := [d1, d2, d3] }
  | _ => none }
def MatchAllWrongFalsely : Prop := matchAllRow.holds Try.pinned (OpenSpec.ofChange matchAllWrong)

/-- 'lontarlaw06.MatchWaits': WHATEVER THE INPUT: true; the input reads as it did. -/
def matchWaitsSpec : ChangeSpec := { name := "matchWaits", fn := fun _ => fun
  | [d1, d2] => { results := [.lit (.bool true)], args := [d1, d2] }
  | _ => none }
def matchWaitsRow : OpenClaim := { program := "ytmjcnopkckkaoaa", sum := "46fd29c909f224af680495162d292e436e45a96a0827f8f3c84cf09321bd9d71", func := "lontar/lontarlaw06.MatchWaits", spec := "matchWaits", inPlace := ["slices.overlaps[int]"], apart := false }
def MatchWaitsSaid : Prop := matchWaitsRow.holds Try.pinned (OpenSpec.ofChange matchWaitsSpec)

/-- ITS FALSE NEIGHBOUR: 'it returns false'. Refute it at one input. -/
def matchWaitsWrong : ChangeSpec := { name := "matchWaits", fn := fun _ => fun
  | [d1, d2] => { results := [.lit (.bool false)], args := [d1, d2] }
  | _ => none }
def MatchWaitsWrongFalsely : Prop := matchWaitsRow.holds Try.pinned (OpenSpec.ofChange matchWaitsWrong)

/-- 'lontarlaw06.MatchHeld': WHATEVER THE INPUT: true; the input reads as it did. -/
def matchHeldSpec : ChangeSpec := { name := "matchHeld", fn := fun _ => fun
  | [d1, d2] => { results := [.lit (.bool true)], args := [d1, d2] }
  | _ => none }
def matchHeldRow : OpenClaim := { program := "ytmjcnopkckkaoaa", sum := "46fd29c909f224af680495162d292e436e45a96a0827f8f3c84cf09321bd9d71", func := "lontar/lontarlaw06.MatchHeld", spec := "matchHeld", inPlace := ["slices.overlaps[int]"], apart := false }
def MatchHeldSaid : Prop := matchHeldRow.holds Try.pinned (OpenSpec.ofChange matchHeldSpec)

/-- ITS FALSE NEIGHBOUR: 'it returns false'. Refute it at one input. -/
def matchHeldWrong : ChangeSpec := { name := "matchHeld", fn := fun _ => fun
  | [d1, d2] => { results := [.lit (.bool false)], args := [d1, d2] }
  | _ => none }
def MatchHeldWrongFalsely : Prop := matchHeldRow.holds Try.pinned (OpenSpec.ofChange matchHeldWrong)

/-- 'lontarlaw06.MatchEnds': WHATEVER THE INPUT: true; the input reads as it did. -/
def matchEndsSpec : ChangeSpec := { name := "matchEnds", fn := fun _ => fun
  | [d1, d2, d3] => { results := [.lit (.bool true)], args := [d1, d2, d3] }
  | _ => none }
def matchEndsRow : OpenClaim := { program := "ytmjcnopkckkaoaa", sum := "46fd29c909f224af680495162d292e436e45a96a0827f8f3c84cf09321bd9d71", func := "lontar/lontarlaw06.MatchEnds", spec := "matchEnds", inPlace := ["slices.overlaps[int]"], apart := false }
def MatchEndsSaid : Prop := matchEndsRow.holds Try.pinned (OpenSpec.ofChange matchEndsSpec)

/-- ITS FALSE NEIGHBOUR: 'it returns false'. Refute it at one input. -/
def matchEndsWrong : ChangeSpec := { name := "matchEnds", fn := fun _ => fun
  | [d1, d2, d3] => { results := [.lit (.bool false)], args := [d1, d2, d3] }
  | _ => none }
def MatchEndsWrongFalsely : Prop := matchEndsRow.holds Try.pinned (OpenSpec.ofChange matchEndsWrong)

/-- 'lontarlaw06.MatchSoon': WHATEVER THE INPUT: true; the input reads as it did. -/
def matchSoonSpec : ChangeSpec := { name := "matchSoon", fn := fun _ => fun
  | [d1, d2] => { results := [.lit (.bool true)], args := [d1, d2] }
  | _ => none }
def matchSoonRow : OpenClaim := { program := "ytmjcnopkckkaoaa", sum := "46fd29c909f224af680495162d292e436e45a96a0827f8f3c84cf09321bd9d71", func := "lontar/lontarlaw06.MatchSoon", spec := "matchSoon", inPlace := ["slices.overlaps[int]"], apart := false }
def MatchSoonSaid : Prop := matchSoonRow.holds Try.pinned (OpenSpec.ofChange matchSoonSpec)

/-- ITS FALSE NEIGHBOUR: 'it returns false'. Refute it at one input. -/
def matchSoonWrong : ChangeSpec := { name := "matchSoon", fn := fun _ => fun
  | [d1, d2] => { results := [.lit (.bool false)], args := [d1, d2] }
  | _ => none }
def MatchSoonWrongFalsely : Prop := matchSoonRow.holds Try.pinned (OpenSpec.ofChange matchSoonWrong)

/- THE SECOND FORM. 'bulk': how many values and letters a reading holds, each counted each time it is reached (what is shared counts as often as it is met; a slice's spare places count too). A statement '..UptoSaid' is the law's where the arguments, and the package variables that the reading takes, are together of bulk at most 1048576: NARROWER than '..Said'. Prove '..Said' where nothing that the law and all that it calls make is longer than what came in: it says more and counts as full. Else prove '..UptoSaid'. A law counts once. -/
mutual
def uptoBulk {H : Type} : DataW H → Nat
  | .lit (.string bytes) => bytes.length + 1
  | .lit _ => 1
  | .nil => 1
  | .ptr d => uptoBulk d + 1
  | .slice elems spare => uptoBulkAll elems + uptoBulkAll spare + 1
  | .agg parts => uptoBulkAll parts + 1
  | .iface _ d => uptoBulk d + 1
  | .map entries => uptoBulkEntries entries + 1
  | .held _ => 1
def uptoBulkAll {H : Type} : List (DataW H) → Nat
  | [] => 0
  | d :: r => uptoBulk d + uptoBulkAll r
def uptoBulkEntries {H : Type} : List (Lit × DataW H) → Nat
  | [] => 0
  | x :: r => uptoBulkEntry x + uptoBulkEntries r
def uptoBulkEntry {H : Type} : Lit × DataW H → Nat
  | (.string bytes, d) => bytes.length + uptoBulk d + 1
  | (_, d) => uptoBulk d + 1
 end
def uptoSmall : (H : Type) → List (DataW H) → Bool := fun _ ds => decide (uptoBulkAll ds ≤ 1048576)
def OpenSpec.upto (s : _root_.Go.ChangeSpec) : _root_.Go.OpenSpec := { _root_.Go.OpenSpec.ofChange s with cond := some uptoSmall }

/-- 'lontarlaw06.MatchAll', WHERE WHAT IT READS IS OF BULK AT MOST 1048576: true; the input reads as it did. -/
def matchAllUptoRow : OpenClaim := { program := "ytmjcnopkckkaoaa", sum := "46fd29c909f224af680495162d292e436e45a96a0827f8f3c84cf09321bd9d71", func := "lontar/lontarlaw06.MatchAll", spec := "matchAll", inPlace := ["slices.overlaps[int]"], apart := false, narrowed := true }
def MatchAllUptoSaid : Prop := matchAllUptoRow.holds Try.pinned (OpenSpec.upto matchAllSpec)

/-- 'lontarlaw06.MatchWaits', WHERE WHAT IT READS IS OF BULK AT MOST 1048576: true; the input reads as it did. -/
def matchWaitsUptoRow : OpenClaim := { program := "ytmjcnopkckkaoaa", sum := "46fd29c909f224af680495162d292e436e45a96a0827f8f3c84cf09321bd9d71", func := "lontar/lontarlaw06.MatchWaits", spec := "matchWaits", inPlace := ["slices.overlaps[int]"], apart := false, narrowed := true }
def MatchWaitsUptoSaid : Prop := matchWaitsUptoRow.holds Try.pinned (OpenSpec.upto matchWaitsSpec)

/-- 'lontarlaw06.MatchHeld', WHERE WHAT IT READS IS OF BULK AT MOST 1048576: true; the input reads as it did. -/
def matchHeldUptoRow : OpenClaim := { program := "ytmjcnopkckkaoaa", sum := "46fd29c909f224af680495162d292e436e45a96a0827f8f3c84cf09321bd9d71", func := "lontar/lontarlaw06.MatchHeld", spec := "matchHeld", inPlace := ["slices.overlaps[int]"], apart := false, narrowed := true }
def MatchHeldUptoSaid : Prop := matchHeldUptoRow.holds Try.pinned (OpenSpec.upto matchHeldSpec)

/-- 'lontarlaw06.MatchEnds', WHERE WHAT IT READS IS OF BULK AT MOST 1048576: true; the input reads as it did. -/
def matchEndsUptoRow : OpenClaim := { program := "ytmjcnopkckkaoaa", sum := "46fd29c909f224af680495162d292e436e45a96a0827f8f3c84cf09321bd9d71", func := "lontar/lontarlaw06.MatchEnds", spec := "matchEnds", inPlace := ["slices.overlaps[int]"], apart := false, narrowed := true }
def MatchEndsUptoSaid : Prop := matchEndsUptoRow.holds Try.pinned (OpenSpec.upto matchEndsSpec)

/-- 'lontarlaw06.MatchSoon', WHERE WHAT IT READS IS OF BULK AT MOST 1048576: true; the input reads as it did. -/
def matchSoonUptoRow : OpenClaim := { program := "ytmjcnopkckkaoaa", sum := "46fd29c909f224af680495162d292e436e45a96a0827f8f3c84cf09321bd9d71", func := "lontar/lontarlaw06.MatchSoon", spec := "matchSoon", inPlace := ["slices.overlaps[int]"], apart := false, narrowed := true }
def MatchSoonUptoSaid : Prop := matchSoonUptoRow.holds Try.pinned (OpenSpec.upto matchSoonSpec)

end Rows
end Go.Proofs.Ytmjcnopkckkaoaa
