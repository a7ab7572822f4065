/-
  NARROWER THAN 'FOR EVERY INPUT', by the rows' own cells (each row's printed sentence says how): ThaiDecode: laid · ThaiEncode: laid · ThaiClass: laid · ThaiRound: laid · ThaiMany: laid.
  DERIVED. THE GIVEN ROWS OF THIS SEAT. 5 by the template 'for every input the law returns true; each argument reads behind the call as it read before'; 0 by the template 'total and deterministic' (their statements: YtbegfdlkhmiilaaDoorTotals.lean).
  GIVEN WITH THE SEED: the statements are not yours to turn. If you find one false, say at which input.
  Laid BY PROGRAM, IN A SANDBOX (cutbox-rows.mjs): the forced cells as the released guide's own fill.sh prints them over the translation 771706d1c9f0fb6e… (all of the seat's roots in one cut). By AI agents, Wed Nov 11 2026. No macro, syntax, notation, axiom, sorry.
-/
import Derived.Test.YtbegfdlkhmiilaaDoorChecked
import GoSem.Claim
import GoSem.ClaimJoined
import GoSem.ClaimMapViews
import Derived.JoinedTies
import Derived.KernelRfl
namespace Go.Proofs.YtbegfdlkhmiilaaDoor
/- THE CELL 'sum', in the pinned program and in every row, IS THE sha256 OF THE DUMP (.gsa) THAT YtbegfdlkhmiilaaDoorProg.lean LOADS. Nothing in Lean hashes anything: it is a label: what it is worth is what the hold of that sum in a sandbox is worth. -/
noncomputable def Tryd.pinned : Pinned := { name := "ytbegfdlkhmiilaadoor", sum := "771706d1c9f0fb6e42b1b754c50be904c0468f15aa8f5e5e2a4f8fb42b831ae6", checked := Tryd.checked }
namespace Rows
def none {H : Type} : Left H := { results := [], args := [] }

/- WHAT THE LISTED PACKAGE-LEVEL VARIABLES READ AS WHEN THE CALL BEGINS. Each datum BY PROGRAM (the guide's laid-datum.mjs) off the statement by which the dump's own 'gosem.cut.vars' lays the variable. In a bare row this is a premise. The card (YtbegfdlkhmiilaaDoorCards.lean) ties it to the program's text. -/
def laid_lontar_thai_high {H : Type} : DataW H := .agg [.lit (.int .i64 1), .lit (.int .i64 2), .lit (.int .i64 2), .lit (.int .i64 2), .lit (.int .i64 2), .lit (.int .i64 2), .lit (.int .i64 2), .lit (.int .i64 2), .lit (.int .i64 2), .lit (.int .i64 2), .lit (.int .i64 2), .lit (.int .i64 2), .lit (.int .i64 2), .lit (.int .i64 2), .lit (.int .i64 2), .lit (.int .i64 2), .lit (.int .i64 2), .lit (.int .i64 2), .lit (.int .i64 2), .lit (.int .i64 2), .lit (.int .i64 2), .lit (.int .i64 2), .lit (.int .i64 2), .lit (.int .i64 2), .lit (.int .i64 2), .lit (.int .i64 2), .lit (.int .i64 2), .lit (.int .i64 2), .lit (.int .i64 2), .lit (.int .i64 2), .lit (.int .i64 2), .lit (.int .i64 2), .lit (.int .i64 2), .lit (.int .i64 2), .lit (.int .i64 2), .lit (.int .i64 2), .lit (.int .i64 6), .lit (.int .i64 2), .lit (.int .i64 6), .lit (.int .i64 2), .lit (.int .i64 2), .lit (.int .i64 2), .lit (.int .i64 2), .lit (.int .i64 2), .lit (.int .i64 2), .lit (.int .i64 2), .lit (.int .i64 2), .lit (.int .i64 1), .lit (.int .i64 4), .lit (.int .i64 15), .lit (.int .i64 4), .lit (.int .i64 4), .lit (.int .i64 14), .lit (.int .i64 16), .lit (.int .i64 15), .lit (.int .i64 16), .lit (.int .i64 7), .lit (.int .i64 8), .lit (.int .i64 9), .lit (.int .i64 1), .lit (.int .i64 1), .lit (.int .i64 1), .lit (.int .i64 1), .lit (.int .i64 1), .lit (.int .i64 3), .lit (.int .i64 3), .lit (.int .i64 3), .lit (.int .i64 3), .lit (.int .i64 3), .lit (.int .i64 5), .lit (.int .i64 1), .lit (.int .i64 12), .lit (.int .i64 10), .lit (.int .i64 10), .lit (.int .i64 10), .lit (.int .i64 10), .lit (.int .i64 11), .lit (.int .i64 11), .lit (.int .i64 13), .lit (.int .i64 1), .lit (.int .i64 1), .lit (.int .i64 1), .lit (.int .i64 1), .lit (.int .i64 1), .lit (.int .i64 1), .lit (.int .i64 1), .lit (.int .i64 1), .lit (.int .i64 1), .lit (.int .i64 1), .lit (.int .i64 1), .lit (.int .i64 1), .lit (.int .i64 1), .lit (.int .i64 1), .lit (.int .i64 1), .lit (.int .i64 1), .lit (.int .i64 1)]

/-- 'lontarlaw07.ThaiDecode': WHATEVER THE INPUT: true; the input reads as it did. -/
def thaiDecodeSpec : ChangeSpec := { name := "thaiDecode", fn := fun _ => fun
  | [d] => { results := [.lit (.bool true)], args := [d] }
  | _ => none }
def thaiDecodeRow : OpenClaim := { program := "ytbegfdlkhmiilaadoor", sum := "771706d1c9f0fb6e42b1b754c50be904c0468f15aa8f5e5e2a4f8fb42b831ae6", func := "lontar/lontarlaw07.ThaiDecode", spec := "thaiDecode", named := ["lontar/thai.high"], apart := false, laid := [("lontar/thai.high", laid_lontar_thai_high)] }
def ThaiDecodeSaid : Prop := thaiDecodeRow.holds Tryd.pinned (OpenSpec.ofChange thaiDecodeSpec)

/-- ITS FALSE NEIGHBOUR: 'it returns false'. Refute it at one input. -/
def thaiDecodeWrong : ChangeSpec := { name := "thaiDecode", fn := fun _ => fun
  | [d] => { results := [.lit (.bool false)], args := [d] }
  | _ => none }
def ThaiDecodeWrongFalsely : Prop := thaiDecodeRow.holds Tryd.pinned (OpenSpec.ofChange thaiDecodeWrong)

/-- 'lontarlaw07.ThaiEncode': WHATEVER THE INPUT: true; the input reads as it did. -/
def thaiEncodeSpec : ChangeSpec := { name := "thaiEncode", fn := fun _ => fun
  | [d1, d2] => { results := [.lit (.bool true)], args := [d1, d2] }
  | _ => none }
def thaiEncodeRow : OpenClaim := { program := "ytbegfdlkhmiilaadoor", sum := "771706d1c9f0fb6e42b1b754c50be904c0468f15aa8f5e5e2a4f8fb42b831ae6", func := "lontar/lontarlaw07.ThaiEncode", spec := "thaiEncode", named := ["lontar/thai.high"], apart := false, laid := [("lontar/thai.high", laid_lontar_thai_high)] }
def ThaiEncodeSaid : Prop := thaiEncodeRow.holds Tryd.pinned (OpenSpec.ofChange thaiEncodeSpec)

/-- ITS FALSE NEIGHBOUR: 'it returns false'. Refute it at one input. -/
def thaiEncodeWrong : ChangeSpec := { name := "thaiEncode", fn := fun _ => fun
  | [d1, d2] => { results := [.lit (.bool false)], args := [d1, d2] }
  | _ => none }
def ThaiEncodeWrongFalsely : Prop := thaiEncodeRow.holds Tryd.pinned (OpenSpec.ofChange thaiEncodeWrong)

/-- 'lontarlaw07.ThaiClass': WHATEVER THE INPUT: true; the input reads as it did. -/
def thaiClassSpec : ChangeSpec := { name := "thaiClass", fn := fun _ => fun
  | [d] => { results := [.lit (.bool true)], args := [d] }
  | _ => none }
def thaiClassRow : OpenClaim := { program := "ytbegfdlkhmiilaadoor", sum := "771706d1c9f0fb6e42b1b754c50be904c0468f15aa8f5e5e2a4f8fb42b831ae6", func := "lontar/lontarlaw07.ThaiClass", spec := "thaiClass", named := ["lontar/thai.high"], apart := false, laid := [("lontar/thai.high", laid_lontar_thai_high)] }
def ThaiClassSaid : Prop := thaiClassRow.holds Tryd.pinned (OpenSpec.ofChange thaiClassSpec)

/-- ITS FALSE NEIGHBOUR: 'it returns false'. Refute it at one input. -/
def thaiClassWrong : ChangeSpec := { name := "thaiClass", fn := fun _ => fun
  | [d] => { results := [.lit (.bool false)], args := [d] }
  | _ => none }
def ThaiClassWrongFalsely : Prop := thaiClassRow.holds Tryd.pinned (OpenSpec.ofChange thaiClassWrong)

/-- 'lontarlaw07.ThaiRound': WHATEVER THE INPUT: true; the input reads as it did. -/
def thaiRoundSpec : ChangeSpec := { name := "thaiRound", fn := fun _ => fun
  | [d1, d2] => { results := [.lit (.bool true)], args := [d1, d2] }
  | _ => none }
def thaiRoundRow : OpenClaim := { program := "ytbegfdlkhmiilaadoor", sum := "771706d1c9f0fb6e42b1b754c50be904c0468f15aa8f5e5e2a4f8fb42b831ae6", func := "lontar/lontarlaw07.ThaiRound", spec := "thaiRound", named := ["lontar/thai.high"], apart := false, laid := [("lontar/thai.high", laid_lontar_thai_high)] }
def ThaiRoundSaid : Prop := thaiRoundRow.holds Tryd.pinned (OpenSpec.ofChange thaiRoundSpec)

/-- ITS FALSE NEIGHBOUR: 'it returns false'. Refute it at one input. -/
def thaiRoundWrong : ChangeSpec := { name := "thaiRound", fn := fun _ => fun
  | [d1, d2] => { results := [.lit (.bool false)], args := [d1, d2] }
  | _ => none }
def ThaiRoundWrongFalsely : Prop := thaiRoundRow.holds Tryd.pinned (OpenSpec.ofChange thaiRoundWrong)

/-- 'lontarlaw07.ThaiMany': WHATEVER THE INPUT: true; the input reads as it did. -/
def thaiManySpec : ChangeSpec := { name := "thaiMany", fn := fun _ => fun
  | [d] => { results := [.lit (.bool true)], args := [d] }
  | _ => none }
def thaiManyRow : OpenClaim := { program := "ytbegfdlkhmiilaadoor", sum := "771706d1c9f0fb6e42b1b754c50be904c0468f15aa8f5e5e2a4f8fb42b831ae6", func := "lontar/lontarlaw07.ThaiMany", spec := "thaiMany", named := ["lontar/thai.high"], apart := false, laid := [("lontar/thai.high", laid_lontar_thai_high)] }
def ThaiManySaid : Prop := thaiManyRow.holds Tryd.pinned (OpenSpec.ofChange thaiManySpec)

/-- ITS FALSE NEIGHBOUR: 'it returns false'. Refute it at one input. -/
def thaiManyWrong : ChangeSpec := { name := "thaiMany", fn := fun _ => fun
  | [d] => { results := [.lit (.bool false)], args := [d] }
  | _ => none }
def ThaiManyWrongFalsely : Prop := thaiManyRow.holds Tryd.pinned (OpenSpec.ofChange thaiManyWrong)

/- THE SECOND FORM. 'bulk': how many values and letters a reading holds, each counted each time it is reached (what is shared counts as often as it is met; a slice's spare places count too). A statement '..UptoSaid' is the law's where the arguments, and the package variables that the reading takes, are together of bulk at most 1048576: NARROWER than '..Said'. Prove '..Said' where nothing that the law and all that it calls make is longer than what came in: it says more and counts as full. Else prove '..UptoSaid'. A law counts once. -/
mutual
def uptoBulk {H : Type} : DataW H → Nat
  | .lit (.string bytes) => bytes.length + 1
  | .lit _ => 1
  | .nil => 1
  | .ptr d => uptoBulk d + 1
  | .slice elems spare => uptoBulkAll elems + uptoBulkAll spare + 1
  | .agg parts => uptoBulkAll parts + 1
  | .iface _ d => uptoBulk d + 1
  | .map entries => uptoBulkEntries entries + 1
  | .held _ => 1
def uptoBulkAll {H : Type} : List (DataW H) → Nat
  | [] => 0
  | d :: r => uptoBulk d + uptoBulkAll r
def uptoBulkEntries {H : Type} : List (Lit × DataW H) → Nat
  | [] => 0
  | x :: r => uptoBulkEntry x + uptoBulkEntries r
def uptoBulkEntry {H : Type} : Lit × DataW H → Nat
  | (.string bytes, d) => bytes.length + uptoBulk d + 1
  | (_, d) => uptoBulk d + 1
 end
def uptoSmall : (H : Type) → List (DataW H) → Bool := fun _ ds => decide (uptoBulkAll ds ≤ 1048576)
def OpenSpec.upto (s : _root_.Go.ChangeSpec) : _root_.Go.OpenSpec := { _root_.Go.OpenSpec.ofChange s with cond := some uptoSmall }

/-- 'lontarlaw07.ThaiDecode', WHERE WHAT IT READS IS OF BULK AT MOST 1048576: true; the input reads as it did. -/
def thaiDecodeUptoRow : OpenClaim := { program := "ytbegfdlkhmiilaadoor", sum := "771706d1c9f0fb6e42b1b754c50be904c0468f15aa8f5e5e2a4f8fb42b831ae6", func := "lontar/lontarlaw07.ThaiDecode", spec := "thaiDecode", named := ["lontar/thai.high"], apart := false, laid := [("lontar/thai.high", laid_lontar_thai_high)], narrowed := true }
def ThaiDecodeUptoSaid : Prop := thaiDecodeUptoRow.holds Tryd.pinned (OpenSpec.upto thaiDecodeSpec)

/-- 'lontarlaw07.ThaiEncode', WHERE WHAT IT READS IS OF BULK AT MOST 1048576: true; the input reads as it did. -/
def thaiEncodeUptoRow : OpenClaim := { program := "ytbegfdlkhmiilaadoor", sum := "771706d1c9f0fb6e42b1b754c50be904c0468f15aa8f5e5e2a4f8fb42b831ae6", func := "lontar/lontarlaw07.ThaiEncode", spec := "thaiEncode", named := ["lontar/thai.high"], apart := false, laid := [("lontar/thai.high", laid_lontar_thai_high)], narrowed := true }
def ThaiEncodeUptoSaid : Prop := thaiEncodeUptoRow.holds Tryd.pinned (OpenSpec.upto thaiEncodeSpec)

/-- 'lontarlaw07.ThaiClass', WHERE WHAT IT READS IS OF BULK AT MOST 1048576: true; the input reads as it did. -/
def thaiClassUptoRow : OpenClaim := { program := "ytbegfdlkhmiilaadoor", sum := "771706d1c9f0fb6e42b1b754c50be904c0468f15aa8f5e5e2a4f8fb42b831ae6", func := "lontar/lontarlaw07.ThaiClass", spec := "thaiClass", named := ["lontar/thai.high"], apart := false, laid := [("lontar/thai.high", laid_lontar_thai_high)], narrowed := true }
def ThaiClassUptoSaid : Prop := thaiClassUptoRow.holds Tryd.pinned (OpenSpec.upto thaiClassSpec)

/-- 'lontarlaw07.ThaiRound', WHERE WHAT IT READS IS OF BULK AT MOST 1048576: true; the input reads as it did. -/
def thaiRoundUptoRow : OpenClaim := { program := "ytbegfdlkhmiilaadoor", sum := "771706d1c9f0fb6e42b1b754c50be904c0468f15aa8f5e5e2a4f8fb42b831ae6", func := "lontar/lontarlaw07.ThaiRound", spec := "thaiRound", named := ["lontar/thai.high"], apart := false, laid := [("lontar/thai.high", laid_lontar_thai_high)], narrowed := true }
def ThaiRoundUptoSaid : Prop := thaiRoundUptoRow.holds Tryd.pinned (OpenSpec.upto thaiRoundSpec)

/-- 'lontarlaw07.ThaiMany', WHERE WHAT IT READS IS OF BULK AT MOST 1048576: true; the input reads as it did. -/
def thaiManyUptoRow : OpenClaim := { program := "ytbegfdlkhmiilaadoor", sum := "771706d1c9f0fb6e42b1b754c50be904c0468f15aa8f5e5e2a4f8fb42b831ae6", func := "lontar/lontarlaw07.ThaiMany", spec := "thaiMany", named := ["lontar/thai.high"], apart := false, laid := [("lontar/thai.high", laid_lontar_thai_high)], narrowed := true }
def ThaiManyUptoSaid : Prop := thaiManyUptoRow.holds Tryd.pinned (OpenSpec.upto thaiManySpec)

end Rows
end Go.Proofs.YtbegfdlkhmiilaaDoor
