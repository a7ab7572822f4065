/-
  No cell of these rows narrows 'for every input' (looked for: loops, veiled, ifaces, maps, wideKeys, modest, calm, conditions, laid).
  DERIVED. THE GIVEN ROWS OF THIS SEAT. 6 by the template 'for every input the law returns true; each argument reads behind the call as it read before'; 0 by the template 'total and deterministic' (their statements: YtbigbkplhlmbmaaTotals.lean).
  GIVEN WITH THE SEED: the statements are not yours to turn. If you find one false, say at which input.
  Laid BY PROGRAM, IN A SANDBOX (cutbox-rows.mjs): the forced cells as the released guide's own fill.sh prints them over the translation fcb9a5873041f349… (all of the seat's roots in one cut). By AI agents, Wed Nov 11 2026. No macro, syntax, notation, axiom, sorry.
-/
import Derived.Test.YtbigbkplhlmbmaaChecked
import GoSem.Claim
import GoSem.ClaimJoined
import GoSem.ClaimMapViews
import Derived.JoinedTies
import Derived.KernelRfl
namespace Go.Proofs.Ytbigbkplhlmbmaa
/- THE CELL 'sum', in the pinned program and in every row, IS THE sha256 OF THE DUMP (.gsa) THAT YtbigbkplhlmbmaaProg.lean LOADS. Nothing in Lean hashes anything: it is a label: what it is worth is what the hold of that sum in a sandbox is worth. -/
noncomputable def Try.pinned : Pinned := { name := "ytbigbkplhlmbmaa", sum := "fcb9a5873041f34914621fed14607e87550625b0927808d703c5fe56175326f6", checked := Try.checked }
namespace Rows
def none {H : Type} : Left H := { results := [], args := [] }

/-- 'lontarlaw01.UtfPut': WHATEVER THE INPUT: true; the input reads as it did. -/
def utfPutSpec : ChangeSpec := { name := "utfPut", fn := fun _ => fun
  | [d1, d2, d3] => { results := [.lit (.bool true)], args := [d1, d2, d3] }
  | _ => none }
def utfPutRow : OpenClaim := { program := "ytbigbkplhlmbmaa", sum := "fcb9a5873041f34914621fed14607e87550625b0927808d703c5fe56175326f6", func := "lontar/lontarlaw01.UtfPut", spec := "utfPut", apart := false }
def UtfPutSaid : Prop := utfPutRow.holds Try.pinned (OpenSpec.ofChange utfPutSpec)

/-- ITS FALSE NEIGHBOUR: 'it returns false'. Refute it at one input. -/
def utfPutWrong : ChangeSpec := { name := "utfPut", fn := fun _ => fun
  | [d1, d2, d3] => { results := [.lit (.bool false)], args := [d1, d2, d3] }
  | _ => none }
def UtfPutWrongFalsely : Prop := utfPutRow.holds Try.pinned (OpenSpec.ofChange utfPutWrong)

/-- 'lontarlaw01.UtfOne': WHATEVER THE INPUT: true; the input reads as it did. -/
def utfOneSpec : ChangeSpec := { name := "utfOne", fn := fun _ => fun
  | [d1, d2, d3] => { results := [.lit (.bool true)], args := [d1, d2, d3] }
  | _ => none }
def utfOneRow : OpenClaim := { program := "ytbigbkplhlmbmaa", sum := "fcb9a5873041f34914621fed14607e87550625b0927808d703c5fe56175326f6", func := "lontar/lontarlaw01.UtfOne", spec := "utfOne", apart := false }
def UtfOneSaid : Prop := utfOneRow.holds Try.pinned (OpenSpec.ofChange utfOneSpec)

/-- ITS FALSE NEIGHBOUR: 'it returns false'. Refute it at one input. -/
def utfOneWrong : ChangeSpec := { name := "utfOne", fn := fun _ => fun
  | [d1, d2, d3] => { results := [.lit (.bool false)], args := [d1, d2, d3] }
  | _ => none }
def UtfOneWrongFalsely : Prop := utfOneRow.holds Try.pinned (OpenSpec.ofChange utfOneWrong)

/-- 'lontarlaw01.UtfBytes': WHATEVER THE INPUT: true; the input reads as it did. -/
def utfBytesSpec : ChangeSpec := { name := "utfBytes", fn := fun _ => fun
  | [d1, d2] => { results := [.lit (.bool true)], args := [d1, d2] }
  | _ => none }
def utfBytesRow : OpenClaim := { program := "ytbigbkplhlmbmaa", sum := "fcb9a5873041f34914621fed14607e87550625b0927808d703c5fe56175326f6", func := "lontar/lontarlaw01.UtfBytes", spec := "utfBytes", apart := false }
def UtfBytesSaid : Prop := utfBytesRow.holds Try.pinned (OpenSpec.ofChange utfBytesSpec)

/-- ITS FALSE NEIGHBOUR: 'it returns false'. Refute it at one input. -/
def utfBytesWrong : ChangeSpec := { name := "utfBytes", fn := fun _ => fun
  | [d1, d2] => { results := [.lit (.bool false)], args := [d1, d2] }
  | _ => none }
def UtfBytesWrongFalsely : Prop := utfBytesRow.holds Try.pinned (OpenSpec.ofChange utfBytesWrong)

/-- 'lontarlaw02.CarryFeed': WHATEVER THE INPUT: true; the input reads as it did. -/
def carryFeedSpec : ChangeSpec := { name := "carryFeed", fn := fun _ => fun
  | [d1, d2, d3] => { results := [.lit (.bool true)], args := [d1, d2, d3] }
  | _ => none }
def carryFeedRow : OpenClaim := { program := "ytbigbkplhlmbmaa", sum := "fcb9a5873041f34914621fed14607e87550625b0927808d703c5fe56175326f6", func := "lontar/lontarlaw02.CarryFeed", spec := "carryFeed", apart := false }
def CarryFeedSaid : Prop := carryFeedRow.holds Try.pinned (OpenSpec.ofChange carryFeedSpec)

/-- ITS FALSE NEIGHBOUR: 'it returns false'. Refute it at one input. -/
def carryFeedWrong : ChangeSpec := { name := "carryFeed", fn := fun _ => fun
  | [d1, d2, d3] => { results := [.lit (.bool false)], args := [d1, d2, d3] }
  | _ => none }
def CarryFeedWrongFalsely : Prop := carryFeedRow.holds Try.pinned (OpenSpec.ofChange carryFeedWrong)

/-- 'lontarlaw02.CarryHeld': WHATEVER THE INPUT: true; the input reads as it did. -/
def carryHeldSpec : ChangeSpec := { name := "carryHeld", fn := fun _ => fun
  | [d] => { results := [.lit (.bool true)], args := [d] }
  | _ => none }
def carryHeldRow : OpenClaim := { program := "ytbigbkplhlmbmaa", sum := "fcb9a5873041f34914621fed14607e87550625b0927808d703c5fe56175326f6", func := "lontar/lontarlaw02.CarryHeld", spec := "carryHeld", apart := false }
def CarryHeldSaid : Prop := carryHeldRow.holds Try.pinned (OpenSpec.ofChange carryHeldSpec)

/-- ITS FALSE NEIGHBOUR: 'it returns false'. Refute it at one input. -/
def carryHeldWrong : ChangeSpec := { name := "carryHeld", fn := fun _ => fun
  | [d] => { results := [.lit (.bool false)], args := [d] }
  | _ => none }
def CarryHeldWrongFalsely : Prop := carryHeldRow.holds Try.pinned (OpenSpec.ofChange carryHeldWrong)

/-- 'lontarlaw02.CarrySoon': WHATEVER THE INPUT: true; the input reads as it did. -/
def carrySoonSpec : ChangeSpec := { name := "carrySoon", fn := fun _ => fun
  | [d] => { results := [.lit (.bool true)], args := [d] }
  | _ => none }
def carrySoonRow : OpenClaim := { program := "ytbigbkplhlmbmaa", sum := "fcb9a5873041f34914621fed14607e87550625b0927808d703c5fe56175326f6", func := "lontar/lontarlaw02.CarrySoon", spec := "carrySoon", apart := false }
def CarrySoonSaid : Prop := carrySoonRow.holds Try.pinned (OpenSpec.ofChange carrySoonSpec)

/-- ITS FALSE NEIGHBOUR: 'it returns false'. Refute it at one input. -/
def carrySoonWrong : ChangeSpec := { name := "carrySoon", fn := fun _ => fun
  | [d] => { results := [.lit (.bool false)], args := [d] }
  | _ => none }
def CarrySoonWrongFalsely : Prop := carrySoonRow.holds Try.pinned (OpenSpec.ofChange carrySoonWrong)

/- THE SECOND FORM. 'bulk': how many values and letters a reading holds, each counted each time it is reached (what is shared counts as often as it is met; a slice's spare places count too). A statement '..UptoSaid' is the law's where the arguments, and the package variables that the reading takes, are together of bulk at most 1048576: NARROWER than '..Said'. Prove '..Said' where nothing that the law and all that it calls make is longer than what came in: it says more and counts as full. Else prove '..UptoSaid'. A law counts once. -/
mutual
def uptoBulk {H : Type} : DataW H → Nat
  | .lit (.string bytes) => bytes.length + 1
  | .lit _ => 1
  | .nil => 1
  | .ptr d => uptoBulk d + 1
  | .slice elems spare => uptoBulkAll elems + uptoBulkAll spare + 1
  | .agg parts => uptoBulkAll parts + 1
  | .iface _ d => uptoBulk d + 1
  | .map entries => uptoBulkEntries entries + 1
  | .held _ => 1
def uptoBulkAll {H : Type} : List (DataW H) → Nat
  | [] => 0
  | d :: r => uptoBulk d + uptoBulkAll r
def uptoBulkEntries {H : Type} : List (Lit × DataW H) → Nat
  | [] => 0
  | x :: r => uptoBulkEntry x + uptoBulkEntries r
def uptoBulkEntry {H : Type} : Lit × DataW H → Nat
  | (.string bytes, d) => bytes.length + uptoBulk d + 1
  | (_, d) => uptoBulk d + 1
 end
def uptoSmall : (H : Type) → List (DataW H) → Bool := fun _ ds => decide (uptoBulkAll ds ≤ 1048576)
def OpenSpec.upto (s : _root_.Go.ChangeSpec) : _root_.Go.OpenSpec := { _root_.Go.OpenSpec.ofChange s with cond := some uptoSmall }

/-- 'lontarlaw01.UtfPut', WHERE WHAT IT READS IS OF BULK AT MOST 1048576: true; the input reads as it did. -/
def utfPutUptoRow : OpenClaim := { program := "ytbigbkplhlmbmaa", sum := "fcb9a5873041f34914621fed14607e87550625b0927808d703c5fe56175326f6", func := "lontar/lontarlaw01.UtfPut", spec := "utfPut", apart := false, narrowed := true }
def UtfPutUptoSaid : Prop := utfPutUptoRow.holds Try.pinned (OpenSpec.upto utfPutSpec)

/-- 'lontarlaw01.UtfOne', WHERE WHAT IT READS IS OF BULK AT MOST 1048576: true; the input reads as it did. -/
def utfOneUptoRow : OpenClaim := { program := "ytbigbkplhlmbmaa", sum := "fcb9a5873041f34914621fed14607e87550625b0927808d703c5fe56175326f6", func := "lontar/lontarlaw01.UtfOne", spec := "utfOne", apart := false, narrowed := true }
def UtfOneUptoSaid : Prop := utfOneUptoRow.holds Try.pinned (OpenSpec.upto utfOneSpec)

/-- 'lontarlaw01.UtfBytes', WHERE WHAT IT READS IS OF BULK AT MOST 1048576: true; the input reads as it did. -/
def utfBytesUptoRow : OpenClaim := { program := "ytbigbkplhlmbmaa", sum := "fcb9a5873041f34914621fed14607e87550625b0927808d703c5fe56175326f6", func := "lontar/lontarlaw01.UtfBytes", spec := "utfBytes", apart := false, narrowed := true }
def UtfBytesUptoSaid : Prop := utfBytesUptoRow.holds Try.pinned (OpenSpec.upto utfBytesSpec)

/-- 'lontarlaw02.CarryFeed', WHERE WHAT IT READS IS OF BULK AT MOST 1048576: true; the input reads as it did. -/
def carryFeedUptoRow : OpenClaim := { program := "ytbigbkplhlmbmaa", sum := "fcb9a5873041f34914621fed14607e87550625b0927808d703c5fe56175326f6", func := "lontar/lontarlaw02.CarryFeed", spec := "carryFeed", apart := false, narrowed := true }
def CarryFeedUptoSaid : Prop := carryFeedUptoRow.holds Try.pinned (OpenSpec.upto carryFeedSpec)

/-- 'lontarlaw02.CarryHeld', WHERE WHAT IT READS IS OF BULK AT MOST 1048576: true; the input reads as it did. -/
def carryHeldUptoRow : OpenClaim := { program := "ytbigbkplhlmbmaa", sum := "fcb9a5873041f34914621fed14607e87550625b0927808d703c5fe56175326f6", func := "lontar/lontarlaw02.CarryHeld", spec := "carryHeld", apart := false, narrowed := true }
def CarryHeldUptoSaid : Prop := carryHeldUptoRow.holds Try.pinned (OpenSpec.upto carryHeldSpec)

/-- 'lontarlaw02.CarrySoon', WHERE WHAT IT READS IS OF BULK AT MOST 1048576: true; the input reads as it did. -/
def carrySoonUptoRow : OpenClaim := { program := "ytbigbkplhlmbmaa", sum := "fcb9a5873041f34914621fed14607e87550625b0927808d703c5fe56175326f6", func := "lontar/lontarlaw02.CarrySoon", spec := "carrySoon", apart := false, narrowed := true }
def CarrySoonUptoSaid : Prop := carrySoonUptoRow.holds Try.pinned (OpenSpec.upto carrySoonSpec)

end Rows
end Go.Proofs.Ytbigbkplhlmbmaa
