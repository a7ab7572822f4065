/-
  NARROWER THAN 'FOR EVERY INPUT', by the rows' own cells (each row's printed sentence says how): TcvnDecode: laid · TcvnEncode: laid · TcvnRules: laid · TcvnSmall: laid · TcvnRound: laid · TcvnAscii: laid.
  DERIVED. THE GIVEN ROWS OF THIS SEAT. 6 by the template 'for every input the law returns true; each argument reads behind the call as it read before'; 0 by the template 'total and deterministic' (their statements: YtojcmmjcafbngaaDoorTotals.lean).
  GIVEN WITH THE SEED: the statements are not yours to turn. If you find one false, say at which input.
  Laid BY PROGRAM, IN A SANDBOX (cutbox-rows.mjs): the forced cells as the released guide's own fill.sh prints them over the translation aa11f529e048d378… (all of the seat's roots in one cut). By AI agents, Wed Nov 11 2026. No macro, syntax, notation, axiom, sorry.
-/
import Derived.Test.YtojcmmjcafbngaaDoorChecked
import GoSem.Claim
import GoSem.ClaimJoined
import GoSem.ClaimMapViews
import Derived.JoinedTies
import Derived.KernelRfl
namespace Go.Proofs.YtojcmmjcafbngaaDoor
/- THE CELL 'sum', in the pinned program and in every row, IS THE sha256 OF THE DUMP (.gsa) THAT YtojcmmjcafbngaaDoorProg.lean LOADS. Nothing in Lean hashes anything: it is a label: what it is worth is what the hold of that sum in a sandbox is worth. -/
noncomputable def Tryd.pinned : Pinned := { name := "ytojcmmjcafbngaadoor", sum := "aa11f529e048d3784641f99914c7d795af07cde840aa0ad0114353c00326be92", checked := Tryd.checked }
namespace Rows
def none {H : Type} : Left H := { results := [], args := [] }

/- WHAT THE LISTED PACKAGE-LEVEL VARIABLES READ AS WHEN THE CALL BEGINS. Each datum BY PROGRAM (the guide's laid-datum.mjs) off the statement by which the dump's own 'gosem.cut.vars' lays the variable. In a bare row this is a premise. The card (YtojcmmjcafbngaaDoorCards.lean) ties it to the program's text. -/
def laid_lontar_tcvn_high {H : Type} : DataW H := .agg [.lit (.int .u16 0), .lit (.int .u16 258), .lit (.int .u16 194), .lit (.int .u16 202), .lit (.int .u16 212), .lit (.int .u16 416), .lit (.int .u16 431), .lit (.int .u16 272), .lit (.int .u16 259), .lit (.int .u16 226), .lit (.int .u16 234), .lit (.int .u16 244), .lit (.int .u16 417), .lit (.int .u16 432), .lit (.int .u16 273), .lit (.int .u16 0), .lit (.int .u16 0), .lit (.int .u16 0), .lit (.int .u16 0), .lit (.int .u16 0), .lit (.int .u16 0), .lit (.int .u16 224), .lit (.int .u16 7843), .lit (.int .u16 227), .lit (.int .u16 225), .lit (.int .u16 7841), .lit (.int .u16 0), .lit (.int .u16 7857), .lit (.int .u16 7859), .lit (.int .u16 7861), .lit (.int .u16 7855), .lit (.int .u16 0), .lit (.int .u16 0), .lit (.int .u16 0), .lit (.int .u16 0), .lit (.int .u16 0), .lit (.int .u16 0), .lit (.int .u16 0), .lit (.int .u16 7863), .lit (.int .u16 7847), .lit (.int .u16 7849), .lit (.int .u16 7851), .lit (.int .u16 7845), .lit (.int .u16 7853), .lit (.int .u16 232), .lit (.int .u16 0), .lit (.int .u16 7867), .lit (.int .u16 7869), .lit (.int .u16 233), .lit (.int .u16 7865), .lit (.int .u16 7873), .lit (.int .u16 7875), .lit (.int .u16 7877), .lit (.int .u16 7871), .lit (.int .u16 7879), .lit (.int .u16 236), .lit (.int .u16 7881), .lit (.int .u16 0), .lit (.int .u16 0), .lit (.int .u16 0), .lit (.int .u16 297), .lit (.int .u16 237), .lit (.int .u16 7883), .lit (.int .u16 242), .lit (.int .u16 0), .lit (.int .u16 7887), .lit (.int .u16 245), .lit (.int .u16 243), .lit (.int .u16 7885), .lit (.int .u16 7891), .lit (.int .u16 7893), .lit (.int .u16 7895), .lit (.int .u16 7889), .lit (.int .u16 7897), .lit (.int .u16 7901), .lit (.int .u16 7903), .lit (.int .u16 7905), .lit (.int .u16 7899), .lit (.int .u16 7907), .lit (.int .u16 249), .lit (.int .u16 0), .lit (.int .u16 7911), .lit (.int .u16 361), .lit (.int .u16 250), .lit (.int .u16 7909), .lit (.int .u16 7915), .lit (.int .u16 7917), .lit (.int .u16 7919), .lit (.int .u16 7913), .lit (.int .u16 7921), .lit (.int .u16 7923), .lit (.int .u16 7927), .lit (.int .u16 7929), .lit (.int .u16 253), .lit (.int .u16 7925), .lit (.int .u16 0)]

/-- 'lontarlaw12.TcvnDecode': WHATEVER THE INPUT: true; the input reads as it did. -/
def tcvnDecodeSpec : ChangeSpec := { name := "tcvnDecode", fn := fun _ => fun
  | [d] => { results := [.lit (.bool true)], args := [d] }
  | _ => none }
def tcvnDecodeRow : OpenClaim := { program := "ytojcmmjcafbngaadoor", sum := "aa11f529e048d3784641f99914c7d795af07cde840aa0ad0114353c00326be92", func := "lontar/lontarlaw12.TcvnDecode", spec := "tcvnDecode", named := ["lontar/tcvn.high"], apart := false, laid := [("lontar/tcvn.high", laid_lontar_tcvn_high)] }
def TcvnDecodeSaid : Prop := tcvnDecodeRow.holds Tryd.pinned (OpenSpec.ofChange tcvnDecodeSpec)

/-- ITS FALSE NEIGHBOUR: 'it returns false'. Refute it at one input. -/
def tcvnDecodeWrong : ChangeSpec := { name := "tcvnDecode", fn := fun _ => fun
  | [d] => { results := [.lit (.bool false)], args := [d] }
  | _ => none }
def TcvnDecodeWrongFalsely : Prop := tcvnDecodeRow.holds Tryd.pinned (OpenSpec.ofChange tcvnDecodeWrong)

/-- 'lontarlaw12.TcvnEncode': WHATEVER THE INPUT: true; the input reads as it did. -/
def tcvnEncodeSpec : ChangeSpec := { name := "tcvnEncode", fn := fun _ => fun
  | [d1, d2] => { results := [.lit (.bool true)], args := [d1, d2] }
  | _ => none }
def tcvnEncodeRow : OpenClaim := { program := "ytojcmmjcafbngaadoor", sum := "aa11f529e048d3784641f99914c7d795af07cde840aa0ad0114353c00326be92", func := "lontar/lontarlaw12.TcvnEncode", spec := "tcvnEncode", named := ["lontar/tcvn.high"], apart := false, laid := [("lontar/tcvn.high", laid_lontar_tcvn_high)] }
def TcvnEncodeSaid : Prop := tcvnEncodeRow.holds Tryd.pinned (OpenSpec.ofChange tcvnEncodeSpec)

/-- ITS FALSE NEIGHBOUR: 'it returns false'. Refute it at one input. -/
def tcvnEncodeWrong : ChangeSpec := { name := "tcvnEncode", fn := fun _ => fun
  | [d1, d2] => { results := [.lit (.bool false)], args := [d1, d2] }
  | _ => none }
def TcvnEncodeWrongFalsely : Prop := tcvnEncodeRow.holds Tryd.pinned (OpenSpec.ofChange tcvnEncodeWrong)

/-- 'lontarlaw12.TcvnRules': WHATEVER THE INPUT: true; the input reads as it did. -/
def tcvnRulesSpec : ChangeSpec := { name := "tcvnRules", fn := fun _ => fun
  | [d] => { results := [.lit (.bool true)], args := [d] }
  | _ => none }
def tcvnRulesRow : OpenClaim := { program := "ytojcmmjcafbngaadoor", sum := "aa11f529e048d3784641f99914c7d795af07cde840aa0ad0114353c00326be92", func := "lontar/lontarlaw12.TcvnRules", spec := "tcvnRules", named := ["lontar/tcvn.high"], apart := false, laid := [("lontar/tcvn.high", laid_lontar_tcvn_high)] }
def TcvnRulesSaid : Prop := tcvnRulesRow.holds Tryd.pinned (OpenSpec.ofChange tcvnRulesSpec)

/-- ITS FALSE NEIGHBOUR: 'it returns false'. Refute it at one input. -/
def tcvnRulesWrong : ChangeSpec := { name := "tcvnRules", fn := fun _ => fun
  | [d] => { results := [.lit (.bool false)], args := [d] }
  | _ => none }
def TcvnRulesWrongFalsely : Prop := tcvnRulesRow.holds Tryd.pinned (OpenSpec.ofChange tcvnRulesWrong)

/-- 'lontarlaw12.TcvnSmall': WHATEVER THE INPUT: true; the input reads as it did. -/
def tcvnSmallSpec : ChangeSpec := { name := "tcvnSmall", fn := fun _ => fun
  | [d] => { results := [.lit (.bool true)], args := [d] }
  | _ => none }
def tcvnSmallRow : OpenClaim := { program := "ytojcmmjcafbngaadoor", sum := "aa11f529e048d3784641f99914c7d795af07cde840aa0ad0114353c00326be92", func := "lontar/lontarlaw12.TcvnSmall", spec := "tcvnSmall", named := ["lontar/tcvn.high"], apart := false, laid := [("lontar/tcvn.high", laid_lontar_tcvn_high)] }
def TcvnSmallSaid : Prop := tcvnSmallRow.holds Tryd.pinned (OpenSpec.ofChange tcvnSmallSpec)

/-- ITS FALSE NEIGHBOUR: 'it returns false'. Refute it at one input. -/
def tcvnSmallWrong : ChangeSpec := { name := "tcvnSmall", fn := fun _ => fun
  | [d] => { results := [.lit (.bool false)], args := [d] }
  | _ => none }
def TcvnSmallWrongFalsely : Prop := tcvnSmallRow.holds Tryd.pinned (OpenSpec.ofChange tcvnSmallWrong)

/-- 'lontarlaw12.TcvnRound': WHATEVER THE INPUT: true; the input reads as it did. -/
def tcvnRoundSpec : ChangeSpec := { name := "tcvnRound", fn := fun _ => fun
  | [d1, d2] => { results := [.lit (.bool true)], args := [d1, d2] }
  | _ => none }
def tcvnRoundRow : OpenClaim := { program := "ytojcmmjcafbngaadoor", sum := "aa11f529e048d3784641f99914c7d795af07cde840aa0ad0114353c00326be92", func := "lontar/lontarlaw12.TcvnRound", spec := "tcvnRound", named := ["lontar/tcvn.high"], apart := false, laid := [("lontar/tcvn.high", laid_lontar_tcvn_high)] }
def TcvnRoundSaid : Prop := tcvnRoundRow.holds Tryd.pinned (OpenSpec.ofChange tcvnRoundSpec)

/-- ITS FALSE NEIGHBOUR: 'it returns false'. Refute it at one input. -/
def tcvnRoundWrong : ChangeSpec := { name := "tcvnRound", fn := fun _ => fun
  | [d1, d2] => { results := [.lit (.bool false)], args := [d1, d2] }
  | _ => none }
def TcvnRoundWrongFalsely : Prop := tcvnRoundRow.holds Tryd.pinned (OpenSpec.ofChange tcvnRoundWrong)

/-- 'lontarlaw12.TcvnAscii': WHATEVER THE INPUT: true; the input reads as it did. -/
def tcvnAsciiSpec : ChangeSpec := { name := "tcvnAscii", fn := fun _ => fun
  | [d] => { results := [.lit (.bool true)], args := [d] }
  | _ => none }
def tcvnAsciiRow : OpenClaim := { program := "ytojcmmjcafbngaadoor", sum := "aa11f529e048d3784641f99914c7d795af07cde840aa0ad0114353c00326be92", func := "lontar/lontarlaw12.TcvnAscii", spec := "tcvnAscii", named := ["lontar/tcvn.high"], apart := false, laid := [("lontar/tcvn.high", laid_lontar_tcvn_high)] }
def TcvnAsciiSaid : Prop := tcvnAsciiRow.holds Tryd.pinned (OpenSpec.ofChange tcvnAsciiSpec)

/-- ITS FALSE NEIGHBOUR: 'it returns false'. Refute it at one input. -/
def tcvnAsciiWrong : ChangeSpec := { name := "tcvnAscii", fn := fun _ => fun
  | [d] => { results := [.lit (.bool false)], args := [d] }
  | _ => none }
def TcvnAsciiWrongFalsely : Prop := tcvnAsciiRow.holds Tryd.pinned (OpenSpec.ofChange tcvnAsciiWrong)

/- THE SECOND FORM. 'bulk': how many values and letters a reading holds, each counted each time it is reached (what is shared counts as often as it is met; a slice's spare places count too). A statement '..UptoSaid' is the law's where the arguments, and the package variables that the reading takes, are together of bulk at most 1048576: NARROWER than '..Said'. Prove '..Said' where nothing that the law and all that it calls make is longer than what came in: it says more and counts as full. Else prove '..UptoSaid'. A law counts once. -/
mutual
def uptoBulk {H : Type} : DataW H → Nat
  | .lit (.string bytes) => bytes.length + 1
  | .lit _ => 1
  | .nil => 1
  | .ptr d => uptoBulk d + 1
  | .slice elems spare => uptoBulkAll elems + uptoBulkAll spare + 1
  | .agg parts => uptoBulkAll parts + 1
  | .iface _ d => uptoBulk d + 1
  | .map entries => uptoBulkEntries entries + 1
  | .held _ => 1
def uptoBulkAll {H : Type} : List (DataW H) → Nat
  | [] => 0
  | d :: r => uptoBulk d + uptoBulkAll r
def uptoBulkEntries {H : Type} : List (Lit × DataW H) → Nat
  | [] => 0
  | x :: r => uptoBulkEntry x + uptoBulkEntries r
def uptoBulkEntry {H : Type} : Lit × DataW H → Nat
  | (.string bytes, d) => bytes.length + uptoBulk d + 1
  | (_, d) => uptoBulk d + 1
 end
def uptoSmall : (H : Type) → List (DataW H) → Bool := fun _ ds => decide (uptoBulkAll ds ≤ 1048576)
def OpenSpec.upto (s : _root_.Go.ChangeSpec) : _root_.Go.OpenSpec := { _root_.Go.OpenSpec.ofChange s with cond := some uptoSmall }

/-- 'lontarlaw12.TcvnDecode', WHERE WHAT IT READS IS OF BULK AT MOST 1048576: true; the input reads as it did. -/
def tcvnDecodeUptoRow : OpenClaim := { program := "ytojcmmjcafbngaadoor", sum := "aa11f529e048d3784641f99914c7d795af07cde840aa0ad0114353c00326be92", func := "lontar/lontarlaw12.TcvnDecode", spec := "tcvnDecode", named := ["lontar/tcvn.high"], apart := false, laid := [("lontar/tcvn.high", laid_lontar_tcvn_high)], narrowed := true }
def TcvnDecodeUptoSaid : Prop := tcvnDecodeUptoRow.holds Tryd.pinned (OpenSpec.upto tcvnDecodeSpec)

/-- 'lontarlaw12.TcvnEncode', WHERE WHAT IT READS IS OF BULK AT MOST 1048576: true; the input reads as it did. -/
def tcvnEncodeUptoRow : OpenClaim := { program := "ytojcmmjcafbngaadoor", sum := "aa11f529e048d3784641f99914c7d795af07cde840aa0ad0114353c00326be92", func := "lontar/lontarlaw12.TcvnEncode", spec := "tcvnEncode", named := ["lontar/tcvn.high"], apart := false, laid := [("lontar/tcvn.high", laid_lontar_tcvn_high)], narrowed := true }
def TcvnEncodeUptoSaid : Prop := tcvnEncodeUptoRow.holds Tryd.pinned (OpenSpec.upto tcvnEncodeSpec)

/-- 'lontarlaw12.TcvnRules', WHERE WHAT IT READS IS OF BULK AT MOST 1048576: true; the input reads as it did. -/
def tcvnRulesUptoRow : OpenClaim := { program := "ytojcmmjcafbngaadoor", sum := "aa11f529e048d3784641f99914c7d795af07cde840aa0ad0114353c00326be92", func := "lontar/lontarlaw12.TcvnRules", spec := "tcvnRules", named := ["lontar/tcvn.high"], apart := false, laid := [("lontar/tcvn.high", laid_lontar_tcvn_high)], narrowed := true }
def TcvnRulesUptoSaid : Prop := tcvnRulesUptoRow.holds Tryd.pinned (OpenSpec.upto tcvnRulesSpec)

/-- 'lontarlaw12.TcvnSmall', WHERE WHAT IT READS IS OF BULK AT MOST 1048576: true; the input reads as it did. -/
def tcvnSmallUptoRow : OpenClaim := { program := "ytojcmmjcafbngaadoor", sum := "aa11f529e048d3784641f99914c7d795af07cde840aa0ad0114353c00326be92", func := "lontar/lontarlaw12.TcvnSmall", spec := "tcvnSmall", named := ["lontar/tcvn.high"], apart := false, laid := [("lontar/tcvn.high", laid_lontar_tcvn_high)], narrowed := true }
def TcvnSmallUptoSaid : Prop := tcvnSmallUptoRow.holds Tryd.pinned (OpenSpec.upto tcvnSmallSpec)

/-- 'lontarlaw12.TcvnRound', WHERE WHAT IT READS IS OF BULK AT MOST 1048576: true; the input reads as it did. -/
def tcvnRoundUptoRow : OpenClaim := { program := "ytojcmmjcafbngaadoor", sum := "aa11f529e048d3784641f99914c7d795af07cde840aa0ad0114353c00326be92", func := "lontar/lontarlaw12.TcvnRound", spec := "tcvnRound", named := ["lontar/tcvn.high"], apart := false, laid := [("lontar/tcvn.high", laid_lontar_tcvn_high)], narrowed := true }
def TcvnRoundUptoSaid : Prop := tcvnRoundUptoRow.holds Tryd.pinned (OpenSpec.upto tcvnRoundSpec)

/-- 'lontarlaw12.TcvnAscii', WHERE WHAT IT READS IS OF BULK AT MOST 1048576: true; the input reads as it did. -/
def tcvnAsciiUptoRow : OpenClaim := { program := "ytojcmmjcafbngaadoor", sum := "aa11f529e048d3784641f99914c7d795af07cde840aa0ad0114353c00326be92", func := "lontar/lontarlaw12.TcvnAscii", spec := "tcvnAscii", named := ["lontar/tcvn.high"], apart := false, laid := [("lontar/tcvn.high", laid_lontar_tcvn_high)], narrowed := true }
def TcvnAsciiUptoSaid : Prop := tcvnAsciiUptoRow.holds Tryd.pinned (OpenSpec.upto tcvnAsciiSpec)

end Rows
end Go.Proofs.YtojcmmjcafbngaaDoor
