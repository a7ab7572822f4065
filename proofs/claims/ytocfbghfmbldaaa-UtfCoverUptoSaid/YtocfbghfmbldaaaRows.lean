/-
  No cell of these rows narrows 'for every input' (looked for: loops, veiled, ifaces, maps, wideKeys, modest, calm, conditions, laid).
  DERIVED. THE GIVEN ROWS OF THIS SEAT. 4 by the template 'for every input the law returns true; each argument reads behind the call as it read before'; 0 by the template 'total and deterministic' (their statements: YtocfbghfmbldaaaTotals.lean).
  GIVEN WITH THE SEED: the statements are not yours to turn. If you find one false, say at which input.
  Laid BY PROGRAM, IN A SANDBOX (cutbox-rows.mjs): the forced cells as the released guide's own fill.sh prints them over the translation 295f4a9ef94155dd… (all of the seat's roots in one cut). By AI agents, Wed Nov 11 2026. No macro, syntax, notation, axiom, sorry.
-/
import Derived.Test.YtocfbghfmbldaaaChecked
import GoSem.Claim
import GoSem.ClaimJoined
import GoSem.ClaimMapViews
import Derived.JoinedTies
import Derived.KernelRfl
namespace Go.Proofs.Ytocfbghfmbldaaa
/- THE CELL 'sum', in the pinned program and in every row, IS THE sha256 OF THE DUMP (.gsa) THAT YtocfbghfmbldaaaProg.lean LOADS. Nothing in Lean hashes anything: it is a label: what it is worth is what the hold of that sum in a sandbox is worth. -/
noncomputable def Try.pinned : Pinned := { name := "ytocfbghfmbldaaa", sum := "295f4a9ef94155dda511fa81591e5f7a76c15757487a62b9138b2ee9805ab917", checked := Try.checked }
namespace Rows
def none {H : Type} : Left H := { results := [], args := [] }

/-- 'lontarlaw01.UtfPut': WHATEVER THE INPUT: true; the input reads as it did. -/
def utfPutSpec : ChangeSpec := { name := "utfPut", fn := fun _ => fun
  | [d1, d2, d3] => { results := [.lit (.bool true)], args := [d1, d2, d3] }
  | _ => none }
def utfPutRow : OpenClaim := { program := "ytocfbghfmbldaaa", sum := "295f4a9ef94155dda511fa81591e5f7a76c15757487a62b9138b2ee9805ab917", func := "lontar/lontarlaw01.UtfPut", spec := "utfPut", apart := false }
def UtfPutSaid : Prop := utfPutRow.holds Try.pinned (OpenSpec.ofChange utfPutSpec)

/-- ITS FALSE NEIGHBOUR: 'it returns false'. Refute it at one input. -/
def utfPutWrong : ChangeSpec := { name := "utfPut", fn := fun _ => fun
  | [d1, d2, d3] => { results := [.lit (.bool false)], args := [d1, d2, d3] }
  | _ => none }
def UtfPutWrongFalsely : Prop := utfPutRow.holds Try.pinned (OpenSpec.ofChange utfPutWrong)

/-- 'lontarlaw01.UtfRound': WHATEVER THE INPUT: true; the input reads as it did. -/
def utfRoundSpec : ChangeSpec := { name := "utfRound", fn := fun _ => fun
  | [d1, d2] => { results := [.lit (.bool true)], args := [d1, d2] }
  | _ => none }
def utfRoundRow : OpenClaim := { program := "ytocfbghfmbldaaa", sum := "295f4a9ef94155dda511fa81591e5f7a76c15757487a62b9138b2ee9805ab917", func := "lontar/lontarlaw01.UtfRound", spec := "utfRound", apart := false }
def UtfRoundSaid : Prop := utfRoundRow.holds Try.pinned (OpenSpec.ofChange utfRoundSpec)

/-- ITS FALSE NEIGHBOUR: 'it returns false'. Refute it at one input. -/
def utfRoundWrong : ChangeSpec := { name := "utfRound", fn := fun _ => fun
  | [d1, d2] => { results := [.lit (.bool false)], args := [d1, d2] }
  | _ => none }
def UtfRoundWrongFalsely : Prop := utfRoundRow.holds Try.pinned (OpenSpec.ofChange utfRoundWrong)

/-- 'lontarlaw01.UtfCover': WHATEVER THE INPUT: true; the input reads as it did. -/
def utfCoverSpec : ChangeSpec := { name := "utfCover", fn := fun _ => fun
  | [d] => { results := [.lit (.bool true)], args := [d] }
  | _ => none }
def utfCoverRow : OpenClaim := { program := "ytocfbghfmbldaaa", sum := "295f4a9ef94155dda511fa81591e5f7a76c15757487a62b9138b2ee9805ab917", func := "lontar/lontarlaw01.UtfCover", spec := "utfCover", apart := false }
def UtfCoverSaid : Prop := utfCoverRow.holds Try.pinned (OpenSpec.ofChange utfCoverSpec)

/-- ITS FALSE NEIGHBOUR: 'it returns false'. Refute it at one input. -/
def utfCoverWrong : ChangeSpec := { name := "utfCover", fn := fun _ => fun
  | [d] => { results := [.lit (.bool false)], args := [d] }
  | _ => none }
def UtfCoverWrongFalsely : Prop := utfCoverRow.holds Try.pinned (OpenSpec.ofChange utfCoverWrong)

/-- 'lontarlaw01.UtfBytes': WHATEVER THE INPUT: true; the input reads as it did. -/
def utfBytesSpec : ChangeSpec := { name := "utfBytes", fn := fun _ => fun
  | [d1, d2] => { results := [.lit (.bool true)], args := [d1, d2] }
  | _ => none }
def utfBytesRow : OpenClaim := { program := "ytocfbghfmbldaaa", sum := "295f4a9ef94155dda511fa81591e5f7a76c15757487a62b9138b2ee9805ab917", func := "lontar/lontarlaw01.UtfBytes", spec := "utfBytes", apart := false }
def UtfBytesSaid : Prop := utfBytesRow.holds Try.pinned (OpenSpec.ofChange utfBytesSpec)

/-- ITS FALSE NEIGHBOUR: 'it returns false'. Refute it at one input. -/
def utfBytesWrong : ChangeSpec := { name := "utfBytes", fn := fun _ => fun
  | [d1, d2] => { results := [.lit (.bool false)], args := [d1, d2] }
  | _ => none }
def UtfBytesWrongFalsely : Prop := utfBytesRow.holds Try.pinned (OpenSpec.ofChange utfBytesWrong)

/- THE SECOND FORM. 'bulk': how many values and letters a reading holds, each counted each time it is reached (what is shared counts as often as it is met; a slice's spare places count too). A statement '..UptoSaid' is the law's where the arguments, and the package variables that the reading takes, are together of bulk at most 1048576: NARROWER than '..Said'. Prove '..Said' where nothing that the law and all that it calls make is longer than what came in: it says more and counts as full. Else prove '..UptoSaid'. A law counts once. -/
mutual
def uptoBulk {H : Type} : DataW H → Nat
  | .lit (.string bytes) => bytes.length + 1
  | .lit _ => 1
  | .nil => 1
  | .ptr d => uptoBulk d + 1
  | .slice elems spare => uptoBulkAll elems + uptoBulkAll spare + 1
  | .agg parts => uptoBulkAll parts + 1
  | .iface _ d => uptoBulk d + 1
  | .map entries => uptoBulkEntries entries + 1
  | .held _ => 1
def uptoBulkAll {H : Type} : List (DataW H) → Nat
  | [] => 0
  | d :: r => uptoBulk d + uptoBulkAll r
def uptoBulkEntries {H : Type} : List (Lit × DataW H) → Nat
  | [] => 0
  | x :: r => uptoBulkEntry x + uptoBulkEntries r
def uptoBulkEntry {H : Type} : Lit × DataW H → Nat
  | (.string bytes, d) => bytes.length + uptoBulk d + 1
  | (_, d) => uptoBulk d + 1
 end
def uptoSmall : (H : Type) → List (DataW H) → Bool := fun _ ds => decide (uptoBulkAll ds ≤ 1048576)
def OpenSpec.upto (s : _root_.Go.ChangeSpec) : _root_.Go.OpenSpec := { _root_.Go.OpenSpec.ofChange s with cond := some uptoSmall }

/-- 'lontarlaw01.UtfPut', WHERE WHAT IT READS IS OF BULK AT MOST 1048576: true; the input reads as it did. -/
def utfPutUptoRow : OpenClaim := { program := "ytocfbghfmbldaaa", sum := "295f4a9ef94155dda511fa81591e5f7a76c15757487a62b9138b2ee9805ab917", func := "lontar/lontarlaw01.UtfPut", spec := "utfPut", apart := false, narrowed := true }
def UtfPutUptoSaid : Prop := utfPutUptoRow.holds Try.pinned (OpenSpec.upto utfPutSpec)

/-- 'lontarlaw01.UtfRound', WHERE WHAT IT READS IS OF BULK AT MOST 1048576: true; the input reads as it did. -/
def utfRoundUptoRow : OpenClaim := { program := "ytocfbghfmbldaaa", sum := "295f4a9ef94155dda511fa81591e5f7a76c15757487a62b9138b2ee9805ab917", func := "lontar/lontarlaw01.UtfRound", spec := "utfRound", apart := false, narrowed := true }
def UtfRoundUptoSaid : Prop := utfRoundUptoRow.holds Try.pinned (OpenSpec.upto utfRoundSpec)

/-- 'lontarlaw01.UtfCover', WHERE WHAT IT READS IS OF BULK AT MOST 1048576: true; the input reads as it did. -/
def utfCoverUptoRow : OpenClaim := { program := "ytocfbghfmbldaaa", sum := "295f4a9ef94155dda511fa81591e5f7a76c15757487a62b9138b2ee9805ab917", func := "lontar/lontarlaw01.UtfCover", spec := "utfCover", apart := false, narrowed := true }
def UtfCoverUptoSaid : Prop := utfCoverUptoRow.holds Try.pinned (OpenSpec.upto utfCoverSpec)

/-- 'lontarlaw01.UtfBytes', WHERE WHAT IT READS IS OF BULK AT MOST 1048576: true; the input reads as it did. -/
def utfBytesUptoRow : OpenClaim := { program := "ytocfbghfmbldaaa", sum := "295f4a9ef94155dda511fa81591e5f7a76c15757487a62b9138b2ee9805ab917", func := "lontar/lontarlaw01.UtfBytes", spec := "utfBytes", apart := false, narrowed := true }
def UtfBytesUptoSaid : Prop := utfBytesUptoRow.holds Try.pinned (OpenSpec.upto utfBytesSpec)

end Rows
end Go.Proofs.Ytocfbghfmbldaaa
