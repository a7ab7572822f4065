/-
  NARROWER THAN 'FOR EVERY INPUT', by the rows' own cells (each row's printed sentence says how): WttKind: laid · WttMay: laid · WttCheck: laid · WttChecker: laid · WttParts: laid · WttLevels: laid · WttGrows: laid.
  DERIVED. THE GIVEN ROWS OF THIS SEAT. 7 by the template 'for every input the law returns true; each argument reads behind the call as it read before'; 0 by the template 'total and deterministic' (their statements: YtgeecngpmcjdpaaDoorTotals.lean).
  GIVEN WITH THE SEED: the statements are not yours to turn. If you find one false, say at which input.
  Laid BY PROGRAM, IN A SANDBOX (cutbox-rows.mjs): the forced cells as the released guide's own fill.sh prints them over the translation d55a3414198a74f3… (all of the seat's roots in one cut). By AI agents, Wed Nov 11 2026. No macro, syntax, notation, axiom, sorry.
-/
import Derived.Test.YtgeecngpmcjdpaaDoorChecked
import GoSem.Claim
import GoSem.ClaimJoined
import GoSem.ClaimMapViews
import Derived.JoinedTies
import Derived.KernelRfl
namespace Go.Proofs.YtgeecngpmcjdpaaDoor
/- THE CELL 'sum', in the pinned program and in every row, IS THE sha256 OF THE DUMP (.gsa) THAT YtgeecngpmcjdpaaDoorProg.lean LOADS. Nothing in Lean hashes anything: it is a label: what it is worth is what the hold of that sum in a sandbox is worth. -/
noncomputable def Tryd.pinned : Pinned := { name := "ytgeecngpmcjdpaadoor", sum := "d55a3414198a74f36e8a4c906c5f0297dd7d6c5990687f8984702c0078ea06a0", checked := Tryd.checked }
namespace Rows
def none {H : Type} : Left H := { results := [], args := [] }

/- WHAT THE LISTED PACKAGE-LEVEL VARIABLES READ AS WHEN THE CALL BEGINS. Each datum BY PROGRAM (the guide's laid-datum.mjs) off the statement by which the dump's own 'gosem.cut.vars' lays the variable. In a bare row this is a premise. The card (YtgeecngpmcjdpaaDoorCards.lean) ties it to the program's text. -/
def laid_lontar_thai_high {H : Type} : DataW H := .agg [.lit (.int .i64 1), .lit (.int .i64 2), .lit (.int .i64 2), .lit (.int .i64 2), .lit (.int .i64 2), .lit (.int .i64 2), .lit (.int .i64 2), .lit (.int .i64 2), .lit (.int .i64 2), .lit (.int .i64 2), .lit (.int .i64 2), .lit (.int .i64 2), .lit (.int .i64 2), .lit (.int .i64 2), .lit (.int .i64 2), .lit (.int .i64 2), .lit (.int .i64 2), .lit (.int .i64 2), .lit (.int .i64 2), .lit (.int .i64 2), .lit (.int .i64 2), .lit (.int .i64 2), .lit (.int .i64 2), .lit (.int .i64 2), .lit (.int .i64 2), .lit (.int .i64 2), .lit (.int .i64 2), .lit (.int .i64 2), .lit (.int .i64 2), .lit (.int .i64 2), .lit (.int .i64 2), .lit (.int .i64 2), .lit (.int .i64 2), .lit (.int .i64 2), .lit (.int .i64 2), .lit (.int .i64 2), .lit (.int .i64 6), .lit (.int .i64 2), .lit (.int .i64 6), .lit (.int .i64 2), .lit (.int .i64 2), .lit (.int .i64 2), .lit (.int .i64 2), .lit (.int .i64 2), .lit (.int .i64 2), .lit (.int .i64 2), .lit (.int .i64 2), .lit (.int .i64 1), .lit (.int .i64 4), .lit (.int .i64 15), .lit (.int .i64 4), .lit (.int .i64 4), .lit (.int .i64 14), .lit (.int .i64 16), .lit (.int .i64 15), .lit (.int .i64 16), .lit (.int .i64 7), .lit (.int .i64 8), .lit (.int .i64 9), .lit (.int .i64 1), .lit (.int .i64 1), .lit (.int .i64 1), .lit (.int .i64 1), .lit (.int .i64 1), .lit (.int .i64 3), .lit (.int .i64 3), .lit (.int .i64 3), .lit (.int .i64 3), .lit (.int .i64 3), .lit (.int .i64 5), .lit (.int .i64 1), .lit (.int .i64 12), .lit (.int .i64 10), .lit (.int .i64 10), .lit (.int .i64 10), .lit (.int .i64 10), .lit (.int .i64 11), .lit (.int .i64 11), .lit (.int .i64 13), .lit (.int .i64 1), .lit (.int .i64 1), .lit (.int .i64 1), .lit (.int .i64 1), .lit (.int .i64 1), .lit (.int .i64 1), .lit (.int .i64 1), .lit (.int .i64 1), .lit (.int .i64 1), .lit (.int .i64 1), .lit (.int .i64 1), .lit (.int .i64 1), .lit (.int .i64 1), .lit (.int .i64 1), .lit (.int .i64 1), .lit (.int .i64 1), .lit (.int .i64 1)]
def laid_lontar_wtt_rows {H : Type} : DataW H := .agg [.lit (.string [88, 65, 65, 65, 65, 65, 65, 82, 82, 82, 82, 82, 82, 82, 82, 82, 82]), .lit (.string [88, 65, 65, 65, 83, 83, 65, 82, 82, 82, 82, 82, 82, 82, 82, 82, 82]), .lit (.string [88, 65, 65, 65, 65, 83, 65, 67, 67, 67, 67, 67, 67, 67, 67, 67, 67]), .lit (.string [88, 83, 65, 83, 83, 83, 83, 82, 82, 82, 82, 82, 82, 82, 82, 82, 82]), .lit (.string [88, 83, 65, 83, 65, 83, 65, 82, 82, 82, 82, 82, 82, 82, 82, 82, 82]), .lit (.string [88, 65, 65, 65, 65, 83, 65, 82, 82, 82, 82, 82, 82, 82, 82, 82, 82]), .lit (.string [88, 65, 65, 65, 83, 65, 83, 82, 82, 82, 82, 82, 82, 82, 82, 82, 82]), .lit (.string [88, 65, 65, 65, 65, 83, 65, 82, 82, 82, 67, 67, 82, 82, 82, 82, 82]), .lit (.string [88, 65, 65, 65, 83, 83, 65, 82, 82, 82, 67, 82, 82, 82, 82, 82, 82]), .lit (.string [88, 65, 65, 65, 83, 83, 65, 82, 82, 82, 82, 82, 82, 82, 82, 82, 82]), .lit (.string [88, 65, 65, 65, 65, 65, 65, 82, 82, 82, 82, 82, 82, 82, 82, 82, 82]), .lit (.string [88, 65, 65, 65, 83, 83, 65, 82, 82, 82, 82, 82, 82, 82, 82, 82, 82]), .lit (.string [88, 65, 65, 65, 83, 83, 65, 82, 82, 82, 82, 82, 82, 82, 82, 82, 82]), .lit (.string [88, 65, 65, 65, 83, 83, 65, 82, 82, 82, 82, 82, 82, 82, 82, 82, 82]), .lit (.string [88, 65, 65, 65, 83, 83, 65, 82, 82, 82, 67, 67, 82, 82, 82, 82, 82]), .lit (.string [88, 65, 65, 65, 83, 83, 65, 82, 82, 82, 67, 82, 82, 82, 82, 82, 82]), .lit (.string [88, 65, 65, 65, 83, 83, 65, 82, 82, 82, 67, 82, 67, 82, 82, 82, 82])]

/-- 'lontarlaw08.WttKind': WHATEVER THE INPUT: true; the input reads as it did. -/
def wttKindSpec : ChangeSpec := { name := "wttKind", fn := fun _ => fun
  | [d1, d2, d3, d4] => { results := [.lit (.bool true)], args := [d1, d2, d3, d4] }
  | _ => none }
def wttKindRow : OpenClaim := { program := "ytgeecngpmcjdpaadoor", sum := "d55a3414198a74f36e8a4c906c5f0297dd7d6c5990687f8984702c0078ea06a0", func := "lontar/lontarlaw08.WttKind", spec := "wttKind", named := ["lontar/thai.high", "lontar/wtt.rows"], apart := false, laid := [("lontar/thai.high", laid_lontar_thai_high), ("lontar/wtt.rows", laid_lontar_wtt_rows)] }
def WttKindSaid : Prop := wttKindRow.holds Tryd.pinned (OpenSpec.ofChange wttKindSpec)

/-- ITS FALSE NEIGHBOUR: 'it returns false'. Refute it at one input. -/
def wttKindWrong : ChangeSpec := { name := "wttKind", fn := fun _ => fun
  | [d1, d2, d3, d4] => { results := [.lit (.bool false)], args := [d1, d2, d3, d4] }
  | _ => none }
def WttKindWrongFalsely : Prop := wttKindRow.holds Tryd.pinned (OpenSpec.ofChange wttKindWrong)

/-- 'lontarlaw08.WttMay': WHATEVER THE INPUT: true; the input reads as it did. -/
def wttMaySpec : ChangeSpec := { name := "wttMay", fn := fun _ => fun
  | [d1, d2, d3] => { results := [.lit (.bool true)], args := [d1, d2, d3] }
  | _ => none }
def wttMayRow : OpenClaim := { program := "ytgeecngpmcjdpaadoor", sum := "d55a3414198a74f36e8a4c906c5f0297dd7d6c5990687f8984702c0078ea06a0", func := "lontar/lontarlaw08.WttMay", spec := "wttMay", named := ["lontar/thai.high", "lontar/wtt.rows"], apart := false, laid := [("lontar/thai.high", laid_lontar_thai_high), ("lontar/wtt.rows", laid_lontar_wtt_rows)] }
def WttMaySaid : Prop := wttMayRow.holds Tryd.pinned (OpenSpec.ofChange wttMaySpec)

/-- ITS FALSE NEIGHBOUR: 'it returns false'. Refute it at one input. -/
def wttMayWrong : ChangeSpec := { name := "wttMay", fn := fun _ => fun
  | [d1, d2, d3] => { results := [.lit (.bool false)], args := [d1, d2, d3] }
  | _ => none }
def WttMayWrongFalsely : Prop := wttMayRow.holds Tryd.pinned (OpenSpec.ofChange wttMayWrong)

/-- 'lontarlaw08.WttCheck': WHATEVER THE INPUT: true; the input reads as it did. -/
def wttCheckSpec : ChangeSpec := { name := "wttCheck", fn := fun _ => fun
  | [d1, d2] => { results := [.lit (.bool true)], args := [d1, d2] }
  | _ => none }
def wttCheckRow : OpenClaim := { program := "ytgeecngpmcjdpaadoor", sum := "d55a3414198a74f36e8a4c906c5f0297dd7d6c5990687f8984702c0078ea06a0", func := "lontar/lontarlaw08.WttCheck", spec := "wttCheck", named := ["lontar/thai.high", "lontar/wtt.rows"], apart := false, laid := [("lontar/thai.high", laid_lontar_thai_high), ("lontar/wtt.rows", laid_lontar_wtt_rows)] }
def WttCheckSaid : Prop := wttCheckRow.holds Tryd.pinned (OpenSpec.ofChange wttCheckSpec)

/-- ITS FALSE NEIGHBOUR: 'it returns false'. Refute it at one input. -/
def wttCheckWrong : ChangeSpec := { name := "wttCheck", fn := fun _ => fun
  | [d1, d2] => { results := [.lit (.bool false)], args := [d1, d2] }
  | _ => none }
def WttCheckWrongFalsely : Prop := wttCheckRow.holds Tryd.pinned (OpenSpec.ofChange wttCheckWrong)

/-- 'lontarlaw08.WttChecker': WHATEVER THE INPUT: true; the input reads as it did. -/
def wttCheckerSpec : ChangeSpec := { name := "wttChecker", fn := fun _ => fun
  | [d1, d2] => { results := [.lit (.bool true)], args := [d1, d2] }
  | _ => none }
def wttCheckerRow : OpenClaim := { program := "ytgeecngpmcjdpaadoor", sum := "d55a3414198a74f36e8a4c906c5f0297dd7d6c5990687f8984702c0078ea06a0", func := "lontar/lontarlaw08.WttChecker", spec := "wttChecker", named := ["lontar/thai.high", "lontar/wtt.rows"], apart := false, laid := [("lontar/thai.high", laid_lontar_thai_high), ("lontar/wtt.rows", laid_lontar_wtt_rows)] }
def WttCheckerSaid : Prop := wttCheckerRow.holds Tryd.pinned (OpenSpec.ofChange wttCheckerSpec)

/-- ITS FALSE NEIGHBOUR: 'it returns false'. Refute it at one input. -/
def wttCheckerWrong : ChangeSpec := { name := "wttChecker", fn := fun _ => fun
  | [d1, d2] => { results := [.lit (.bool false)], args := [d1, d2] }
  | _ => none }
def WttCheckerWrongFalsely : Prop := wttCheckerRow.holds Tryd.pinned (OpenSpec.ofChange wttCheckerWrong)

/-- 'lontarlaw08.WttParts': WHATEVER THE INPUT: true; the input reads as it did. -/
def wttPartsSpec : ChangeSpec := { name := "wttParts", fn := fun _ => fun
  | [d1, d2, d3] => { results := [.lit (.bool true)], args := [d1, d2, d3] }
  | _ => none }
def wttPartsRow : OpenClaim := { program := "ytgeecngpmcjdpaadoor", sum := "d55a3414198a74f36e8a4c906c5f0297dd7d6c5990687f8984702c0078ea06a0", func := "lontar/lontarlaw08.WttParts", spec := "wttParts", named := ["lontar/thai.high", "lontar/wtt.rows"], apart := false, laid := [("lontar/thai.high", laid_lontar_thai_high), ("lontar/wtt.rows", laid_lontar_wtt_rows)] }
def WttPartsSaid : Prop := wttPartsRow.holds Tryd.pinned (OpenSpec.ofChange wttPartsSpec)

/-- ITS FALSE NEIGHBOUR: 'it returns false'. Refute it at one input. -/
def wttPartsWrong : ChangeSpec := { name := "wttParts", fn := fun _ => fun
  | [d1, d2, d3] => { results := [.lit (.bool false)], args := [d1, d2, d3] }
  | _ => none }
def WttPartsWrongFalsely : Prop := wttPartsRow.holds Tryd.pinned (OpenSpec.ofChange wttPartsWrong)

/-- 'lontarlaw08.WttLevels': WHATEVER THE INPUT: true; the input reads as it did. -/
def wttLevelsSpec : ChangeSpec := { name := "wttLevels", fn := fun _ => fun
  | [d] => { results := [.lit (.bool true)], args := [d] }
  | _ => none }
def wttLevelsRow : OpenClaim := { program := "ytgeecngpmcjdpaadoor", sum := "d55a3414198a74f36e8a4c906c5f0297dd7d6c5990687f8984702c0078ea06a0", func := "lontar/lontarlaw08.WttLevels", spec := "wttLevels", named := ["lontar/thai.high", "lontar/wtt.rows"], apart := false, laid := [("lontar/thai.high", laid_lontar_thai_high), ("lontar/wtt.rows", laid_lontar_wtt_rows)] }
def WttLevelsSaid : Prop := wttLevelsRow.holds Tryd.pinned (OpenSpec.ofChange wttLevelsSpec)

/-- ITS FALSE NEIGHBOUR: 'it returns false'. Refute it at one input. -/
def wttLevelsWrong : ChangeSpec := { name := "wttLevels", fn := fun _ => fun
  | [d] => { results := [.lit (.bool false)], args := [d] }
  | _ => none }
def WttLevelsWrongFalsely : Prop := wttLevelsRow.holds Tryd.pinned (OpenSpec.ofChange wttLevelsWrong)

/-- 'lontarlaw08.WttGrows': WHATEVER THE INPUT: true; the input reads as it did. -/
def wttGrowsSpec : ChangeSpec := { name := "wttGrows", fn := fun _ => fun
  | [d1, d2, d3] => { results := [.lit (.bool true)], args := [d1, d2, d3] }
  | _ => none }
def wttGrowsRow : OpenClaim := { program := "ytgeecngpmcjdpaadoor", sum := "d55a3414198a74f36e8a4c906c5f0297dd7d6c5990687f8984702c0078ea06a0", func := "lontar/lontarlaw08.WttGrows", spec := "wttGrows", named := ["lontar/thai.high", "lontar/wtt.rows"], apart := false, laid := [("lontar/thai.high", laid_lontar_thai_high), ("lontar/wtt.rows", laid_lontar_wtt_rows)] }
def WttGrowsSaid : Prop := wttGrowsRow.holds Tryd.pinned (OpenSpec.ofChange wttGrowsSpec)

/-- ITS FALSE NEIGHBOUR: 'it returns false'. Refute it at one input. -/
def wttGrowsWrong : ChangeSpec := { name := "wttGrows", fn := fun _ => fun
  | [d1, d2, d3] => { results := [.lit (.bool false)], args := [d1, d2, d3] }
  | _ => none }
def WttGrowsWrongFalsely : Prop := wttGrowsRow.holds Tryd.pinned (OpenSpec.ofChange wttGrowsWrong)

/- THE SECOND FORM. 'bulk': how many values and letters a reading holds, each counted each time it is reached (what is shared counts as often as it is met; a slice's spare places count too). A statement '..UptoSaid' is the law's where the arguments, and the package variables that the reading takes, are together of bulk at most 1048576: NARROWER than '..Said'. Prove '..Said' where nothing that the law and all that it calls make is longer than what came in: it says more and counts as full. Else prove '..UptoSaid'. A law counts once. -/
mutual
def uptoBulk {H : Type} : DataW H → Nat
  | .lit (.string bytes) => bytes.length + 1
  | .lit _ => 1
  | .nil => 1
  | .ptr d => uptoBulk d + 1
  | .slice elems spare => uptoBulkAll elems + uptoBulkAll spare + 1
  | .agg parts => uptoBulkAll parts + 1
  | .iface _ d => uptoBulk d + 1
  | .map entries => uptoBulkEntries entries + 1
  | .held _ => 1
def uptoBulkAll {H : Type} : List (DataW H) → Nat
  | [] => 0
  | d :: r => uptoBulk d + uptoBulkAll r
def uptoBulkEntries {H : Type} : List (Lit × DataW H) → Nat
  | [] => 0
  | x :: r => uptoBulkEntry x + uptoBulkEntries r
def uptoBulkEntry {H : Type} : Lit × DataW H → Nat
  | (.string bytes, d) => bytes.length + uptoBulk d + 1
  | (_, d) => uptoBulk d + 1
 end
def uptoSmall : (H : Type) → List (DataW H) → Bool := fun _ ds => decide (uptoBulkAll ds ≤ 1048576)
def OpenSpec.upto (s : _root_.Go.ChangeSpec) : _root_.Go.OpenSpec := { _root_.Go.OpenSpec.ofChange s with cond := some uptoSmall }

/-- 'lontarlaw08.WttKind', WHERE WHAT IT READS IS OF BULK AT MOST 1048576: true; the input reads as it did. -/
def wttKindUptoRow : OpenClaim := { program := "ytgeecngpmcjdpaadoor", sum := "d55a3414198a74f36e8a4c906c5f0297dd7d6c5990687f8984702c0078ea06a0", func := "lontar/lontarlaw08.WttKind", spec := "wttKind", named := ["lontar/thai.high", "lontar/wtt.rows"], apart := false, laid := [("lontar/thai.high", laid_lontar_thai_high), ("lontar/wtt.rows", laid_lontar_wtt_rows)], narrowed := true }
def WttKindUptoSaid : Prop := wttKindUptoRow.holds Tryd.pinned (OpenSpec.upto wttKindSpec)

/-- 'lontarlaw08.WttMay', WHERE WHAT IT READS IS OF BULK AT MOST 1048576: true; the input reads as it did. -/
def wttMayUptoRow : OpenClaim := { program := "ytgeecngpmcjdpaadoor", sum := "d55a3414198a74f36e8a4c906c5f0297dd7d6c5990687f8984702c0078ea06a0", func := "lontar/lontarlaw08.WttMay", spec := "wttMay", named := ["lontar/thai.high", "lontar/wtt.rows"], apart := false, laid := [("lontar/thai.high", laid_lontar_thai_high), ("lontar/wtt.rows", laid_lontar_wtt_rows)], narrowed := true }
def WttMayUptoSaid : Prop := wttMayUptoRow.holds Tryd.pinned (OpenSpec.upto wttMaySpec)

/-- 'lontarlaw08.WttCheck', WHERE WHAT IT READS IS OF BULK AT MOST 1048576: true; the input reads as it did. -/
def wttCheckUptoRow : OpenClaim := { program := "ytgeecngpmcjdpaadoor", sum := "d55a3414198a74f36e8a4c906c5f0297dd7d6c5990687f8984702c0078ea06a0", func := "lontar/lontarlaw08.WttCheck", spec := "wttCheck", named := ["lontar/thai.high", "lontar/wtt.rows"], apart := false, laid := [("lontar/thai.high", laid_lontar_thai_high), ("lontar/wtt.rows", laid_lontar_wtt_rows)], narrowed := true }
def WttCheckUptoSaid : Prop := wttCheckUptoRow.holds Tryd.pinned (OpenSpec.upto wttCheckSpec)

/-- 'lontarlaw08.WttChecker', WHERE WHAT IT READS IS OF BULK AT MOST 1048576: true; the input reads as it did. -/
def wttCheckerUptoRow : OpenClaim := { program := "ytgeecngpmcjdpaadoor", sum := "d55a3414198a74f36e8a4c906c5f0297dd7d6c5990687f8984702c0078ea06a0", func := "lontar/lontarlaw08.WttChecker", spec := "wttChecker", named := ["lontar/thai.high", "lontar/wtt.rows"], apart := false, laid := [("lontar/thai.high", laid_lontar_thai_high), ("lontar/wtt.rows", laid_lontar_wtt_rows)], narrowed := true }
def WttCheckerUptoSaid : Prop := wttCheckerUptoRow.holds Tryd.pinned (OpenSpec.upto wttCheckerSpec)

/-- 'lontarlaw08.WttParts', WHERE WHAT IT READS IS OF BULK AT MOST 1048576: true; the input reads as it did. -/
def wttPartsUptoRow : OpenClaim := { program := "ytgeecngpmcjdpaadoor", sum := "d55a3414198a74f36e8a4c906c5f0297dd7d6c5990687f8984702c0078ea06a0", func := "lontar/lontarlaw08.WttParts", spec := "wttParts", named := ["lontar/thai.high", "lontar/wtt.rows"], apart := false, laid := [("lontar/thai.high", laid_lontar_thai_high), ("lontar/wtt.rows", laid_lontar_wtt_rows)], narrowed := true }
def WttPartsUptoSaid : Prop := wttPartsUptoRow.holds Tryd.pinned (OpenSpec.upto wttPartsSpec)

/-- 'lontarlaw08.WttLevels', WHERE WHAT IT READS IS OF BULK AT MOST 1048576: true; the input reads as it did. -/
def wttLevelsUptoRow : OpenClaim := { program := "ytgeecngpmcjdpaadoor", sum := "d55a3414198a74f36e8a4c906c5f0297dd7d6c5990687f8984702c0078ea06a0", func := "lontar/lontarlaw08.WttLevels", spec := "wttLevels", named := ["lontar/thai.high", "lontar/wtt.rows"], apart := false, laid := [("lontar/thai.high", laid_lontar_thai_high), ("lontar/wtt.rows", laid_lontar_wtt_rows)], narrowed := true }
def WttLevelsUptoSaid : Prop := wttLevelsUptoRow.holds Tryd.pinned (OpenSpec.upto wttLevelsSpec)

/-- 'lontarlaw08.WttGrows', WHERE WHAT IT READS IS OF BULK AT MOST 1048576: true; the input reads as it did. -/
def wttGrowsUptoRow : OpenClaim := { program := "ytgeecngpmcjdpaadoor", sum := "d55a3414198a74f36e8a4c906c5f0297dd7d6c5990687f8984702c0078ea06a0", func := "lontar/lontarlaw08.WttGrows", spec := "wttGrows", named := ["lontar/thai.high", "lontar/wtt.rows"], apart := false, laid := [("lontar/thai.high", laid_lontar_thai_high), ("lontar/wtt.rows", laid_lontar_wtt_rows)], narrowed := true }
def WttGrowsUptoSaid : Prop := wttGrowsUptoRow.holds Tryd.pinned (OpenSpec.upto wttGrowsSpec)

end Rows
end Go.Proofs.YtgeecngpmcjdpaaDoor
