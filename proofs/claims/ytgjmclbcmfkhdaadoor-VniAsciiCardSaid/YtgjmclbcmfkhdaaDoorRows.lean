/-
  NARROWER THAN 'FOR EVERY INPUT', by the rows' own cells (each row's printed sentence says how): VniSmall: laid · VniRules: laid · VniRight: laid · VniReads: laid · VniAscii: laid · VniSize: laid.
  DERIVED. THE GIVEN ROWS OF THIS SEAT. 6 by the template 'for every input the law returns true; each argument reads behind the call as it read before'; 0 by the template 'total and deterministic' (their statements: YtgjmclbcmfkhdaaDoorTotals.lean).
  GIVEN WITH THE SEED: the statements are not yours to turn. If you find one false, say at which input.
  Laid BY PROGRAM, IN A SANDBOX (cutbox-rows.mjs): the forced cells as the released guide's own fill.sh prints them over the translation c76849c22d244b32… (all of the seat's roots in one cut). By AI agents, Wed Nov 11 2026. No macro, syntax, notation, axiom, sorry.
-/
import Derived.Test.YtgjmclbcmfkhdaaDoorChecked
import GoSem.Claim
import GoSem.ClaimJoined
import GoSem.ClaimMapViews
import Derived.JoinedTies
import Derived.KernelRfl
namespace Go.Proofs.YtgjmclbcmfkhdaaDoor
/- THE CELL 'sum', in the pinned program and in every row, IS THE sha256 OF THE DUMP (.gsa) THAT YtgjmclbcmfkhdaaDoorProg.lean LOADS. Nothing in Lean hashes anything: it is a label: what it is worth is what the hold of that sum in a sandbox is worth. -/
noncomputable def Tryd.pinned : Pinned := { name := "ytgjmclbcmfkhdaadoor", sum := "c76849c22d244b324fd062f7cdf8286aabd9402e09e533d9929c71a430e226dc", checked := Tryd.checked }
namespace Rows
def none {H : Type} : Left H := { results := [], args := [] }

/- WHAT THE LISTED PACKAGE-LEVEL VARIABLES READ AS WHEN THE CALL BEGINS. Each datum BY PROGRAM (the guide's laid-datum.mjs) off the statement by which the dump's own 'gosem.cut.vars' lays the variable. In a bare row this is a premise. The card (YtgjmclbcmfkhdaaDoorCards.lean) ties it to the program's text. -/
def laid_lontar_viet_rows {H : Type} : DataW H := .agg [.agg [.lit (.int .i64 97), .lit (.int .i64 0), .agg [.lit (.int .i64 97), .lit (.int .i64 224), .lit (.int .i64 225), .lit (.int .i64 7843), .lit (.int .i64 227), .lit (.int .i64 7841)]], .agg [.lit (.int .i64 97), .lit (.int .i64 1), .agg [.lit (.int .i64 259), .lit (.int .i64 7857), .lit (.int .i64 7855), .lit (.int .i64 7859), .lit (.int .i64 7861), .lit (.int .i64 7863)]], .agg [.lit (.int .i64 97), .lit (.int .i64 2), .agg [.lit (.int .i64 226), .lit (.int .i64 7847), .lit (.int .i64 7845), .lit (.int .i64 7849), .lit (.int .i64 7851), .lit (.int .i64 7853)]], .agg [.lit (.int .i64 101), .lit (.int .i64 0), .agg [.lit (.int .i64 101), .lit (.int .i64 232), .lit (.int .i64 233), .lit (.int .i64 7867), .lit (.int .i64 7869), .lit (.int .i64 7865)]], .agg [.lit (.int .i64 101), .lit (.int .i64 2), .agg [.lit (.int .i64 234), .lit (.int .i64 7873), .lit (.int .i64 7871), .lit (.int .i64 7875), .lit (.int .i64 7877), .lit (.int .i64 7879)]], .agg [.lit (.int .i64 105), .lit (.int .i64 0), .agg [.lit (.int .i64 105), .lit (.int .i64 236), .lit (.int .i64 237), .lit (.int .i64 7881), .lit (.int .i64 297), .lit (.int .i64 7883)]], .agg [.lit (.int .i64 111), .lit (.int .i64 0), .agg [.lit (.int .i64 111), .lit (.int .i64 242), .lit (.int .i64 243), .lit (.int .i64 7887), .lit (.int .i64 245), .lit (.int .i64 7885)]], .agg [.lit (.int .i64 111), .lit (.int .i64 2), .agg [.lit (.int .i64 244), .lit (.int .i64 7891), .lit (.int .i64 7889), .lit (.int .i64 7893), .lit (.int .i64 7895), .lit (.int .i64 7897)]], .agg [.lit (.int .i64 111), .lit (.int .i64 3), .agg [.lit (.int .i64 417), .lit (.int .i64 7901), .lit (.int .i64 7899), .lit (.int .i64 7903), .lit (.int .i64 7905), .lit (.int .i64 7907)]], .agg [.lit (.int .i64 117), .lit (.int .i64 0), .agg [.lit (.int .i64 117), .lit (.int .i64 249), .lit (.int .i64 250), .lit (.int .i64 7911), .lit (.int .i64 361), .lit (.int .i64 7909)]], .agg [.lit (.int .i64 117), .lit (.int .i64 3), .agg [.lit (.int .i64 432), .lit (.int .i64 7915), .lit (.int .i64 7913), .lit (.int .i64 7917), .lit (.int .i64 7919), .lit (.int .i64 7921)]], .agg [.lit (.int .i64 121), .lit (.int .i64 0), .agg [.lit (.int .i64 121), .lit (.int .i64 7923), .lit (.int .i64 253), .lit (.int .i64 7927), .lit (.int .i64 7929), .lit (.int .i64 7925)]], .agg [.lit (.int .i64 100), .lit (.int .i64 0), .agg [.lit (.int .i64 100), .lit (.int .i64 0), .lit (.int .i64 0), .lit (.int .i64 0), .lit (.int .i64 0), .lit (.int .i64 0)]], .agg [.lit (.int .i64 100), .lit (.int .i64 4), .agg [.lit (.int .i64 273), .lit (.int .i64 0), .lit (.int .i64 0), .lit (.int .i64 0), .lit (.int .i64 0), .lit (.int .i64 0)]]]
def laid_lontar_vni_signs {H : Type} : DataW H := .agg [.agg [.lit (.int .u8 0), .lit (.int .u8 248), .lit (.int .u8 249), .lit (.int .u8 251), .lit (.int .u8 245), .lit (.int .u8 239)], .agg [.lit (.int .u8 234), .lit (.int .u8 232), .lit (.int .u8 233), .lit (.int .u8 250), .lit (.int .u8 252), .lit (.int .u8 235)], .agg [.lit (.int .u8 226), .lit (.int .u8 224), .lit (.int .u8 225), .lit (.int .u8 229), .lit (.int .u8 227), .lit (.int .u8 228)], .agg [.lit (.int .u8 0), .lit (.int .u8 248), .lit (.int .u8 249), .lit (.int .u8 251), .lit (.int .u8 245), .lit (.int .u8 239)]]

/-- 'lontarlaw13.VniSmall': WHATEVER THE INPUT: true; the input reads as it did. -/
def vniSmallSpec : ChangeSpec := { name := "vniSmall", fn := fun _ => fun
  | [d1, d2, d3] => { results := [.lit (.bool true)], args := [d1, d2, d3] }
  | _ => none }
def vniSmallRow : OpenClaim := { program := "ytgjmclbcmfkhdaadoor", sum := "c76849c22d244b324fd062f7cdf8286aabd9402e09e533d9929c71a430e226dc", func := "lontar/lontarlaw13.VniSmall", spec := "vniSmall", unfollowed := true, recurses := true, named := ["lontar/viet.rows", "lontar/vni.signs"], apart := false, laid := [("lontar/viet.rows", laid_lontar_viet_rows), ("lontar/vni.signs", laid_lontar_vni_signs)] }
def VniSmallSaid : Prop := vniSmallRow.holds Tryd.pinned (OpenSpec.ofChange vniSmallSpec)

/-- ITS FALSE NEIGHBOUR: 'it returns false'. Refute it at one input. -/
def vniSmallWrong : ChangeSpec := { name := "vniSmall", fn := fun _ => fun
  | [d1, d2, d3] => { results := [.lit (.bool false)], args := [d1, d2, d3] }
  | _ => none }
def VniSmallWrongFalsely : Prop := vniSmallRow.holds Tryd.pinned (OpenSpec.ofChange vniSmallWrong)

/-- 'lontarlaw13.VniRules': WHATEVER THE INPUT: true; the input reads as it did. -/
def vniRulesSpec : ChangeSpec := { name := "vniRules", fn := fun _ => fun
  | [d] => { results := [.lit (.bool true)], args := [d] }
  | _ => none }
def vniRulesRow : OpenClaim := { program := "ytgjmclbcmfkhdaadoor", sum := "c76849c22d244b324fd062f7cdf8286aabd9402e09e533d9929c71a430e226dc", func := "lontar/lontarlaw13.VniRules", spec := "vniRules", unfollowed := true, recurses := true, named := ["lontar/viet.rows", "lontar/vni.signs"], apart := false, laid := [("lontar/viet.rows", laid_lontar_viet_rows), ("lontar/vni.signs", laid_lontar_vni_signs)] }
def VniRulesSaid : Prop := vniRulesRow.holds Tryd.pinned (OpenSpec.ofChange vniRulesSpec)

/-- ITS FALSE NEIGHBOUR: 'it returns false'. Refute it at one input. -/
def vniRulesWrong : ChangeSpec := { name := "vniRules", fn := fun _ => fun
  | [d] => { results := [.lit (.bool false)], args := [d] }
  | _ => none }
def VniRulesWrongFalsely : Prop := vniRulesRow.holds Tryd.pinned (OpenSpec.ofChange vniRulesWrong)

/-- 'lontarlaw13.VniRight': WHATEVER THE INPUT: true; the input reads as it did. -/
def vniRightSpec : ChangeSpec := { name := "vniRight", fn := fun _ => fun
  | [d] => { results := [.lit (.bool true)], args := [d] }
  | _ => none }
def vniRightRow : OpenClaim := { program := "ytgjmclbcmfkhdaadoor", sum := "c76849c22d244b324fd062f7cdf8286aabd9402e09e533d9929c71a430e226dc", func := "lontar/lontarlaw13.VniRight", spec := "vniRight", unfollowed := true, recurses := true, named := ["lontar/viet.rows", "lontar/vni.signs"], apart := false, laid := [("lontar/viet.rows", laid_lontar_viet_rows), ("lontar/vni.signs", laid_lontar_vni_signs)] }
def VniRightSaid : Prop := vniRightRow.holds Tryd.pinned (OpenSpec.ofChange vniRightSpec)

/-- ITS FALSE NEIGHBOUR: 'it returns false'. Refute it at one input. -/
def vniRightWrong : ChangeSpec := { name := "vniRight", fn := fun _ => fun
  | [d] => { results := [.lit (.bool false)], args := [d] }
  | _ => none }
def VniRightWrongFalsely : Prop := vniRightRow.holds Tryd.pinned (OpenSpec.ofChange vniRightWrong)

/-- 'lontarlaw13.VniReads': WHATEVER THE INPUT: true; the input reads as it did. -/
def vniReadsSpec : ChangeSpec := { name := "vniReads", fn := fun _ => fun
  | [d] => { results := [.lit (.bool true)], args := [d] }
  | _ => none }
def vniReadsRow : OpenClaim := { program := "ytgjmclbcmfkhdaadoor", sum := "c76849c22d244b324fd062f7cdf8286aabd9402e09e533d9929c71a430e226dc", func := "lontar/lontarlaw13.VniReads", spec := "vniReads", inPlace := ["slices.overlaps[int]"], unfollowed := true, recurses := true, named := ["lontar/viet.rows", "lontar/vni.signs"], apart := false, laid := [("lontar/viet.rows", laid_lontar_viet_rows), ("lontar/vni.signs", laid_lontar_vni_signs)] }
def VniReadsSaid : Prop := vniReadsRow.holds Tryd.pinned (OpenSpec.ofChange vniReadsSpec)

/-- ITS FALSE NEIGHBOUR: 'it returns false'. Refute it at one input. -/
def vniReadsWrong : ChangeSpec := { name := "vniReads", fn := fun _ => fun
  | [d] => { results := [.lit (.bool false)], args := [d] }
  | _ => none }
def VniReadsWrongFalsely : Prop := vniReadsRow.holds Tryd.pinned (OpenSpec.ofChange vniReadsWrong)

/-- 'lontarlaw13.VniAscii': WHATEVER THE INPUT: true; the input reads as it did. -/
def vniAsciiSpec : ChangeSpec := { name := "vniAscii", fn := fun _ => fun
  | [d] => { results := [.lit (.bool true)], args := [d] }
  | _ => none }
def vniAsciiRow : OpenClaim := { program := "ytgjmclbcmfkhdaadoor", sum := "c76849c22d244b324fd062f7cdf8286aabd9402e09e533d9929c71a430e226dc", func := "lontar/lontarlaw13.VniAscii", spec := "vniAscii", inPlace := ["slices.overlaps[int]"], unfollowed := true, recurses := true, named := ["lontar/viet.rows", "lontar/vni.signs"], apart := false, laid := [("lontar/viet.rows", laid_lontar_viet_rows), ("lontar/vni.signs", laid_lontar_vni_signs)] }
def VniAsciiSaid : Prop := vniAsciiRow.holds Tryd.pinned (OpenSpec.ofChange vniAsciiSpec)

/-- ITS FALSE NEIGHBOUR: 'it returns false'. Refute it at one input. -/
def vniAsciiWrong : ChangeSpec := { name := "vniAscii", fn := fun _ => fun
  | [d] => { results := [.lit (.bool false)], args := [d] }
  | _ => none }
def VniAsciiWrongFalsely : Prop := vniAsciiRow.holds Tryd.pinned (OpenSpec.ofChange vniAsciiWrong)

/-- 'lontarlaw13.VniSize': WHATEVER THE INPUT: true; the input reads as it did. -/
def vniSizeSpec : ChangeSpec := { name := "vniSize", fn := fun _ => fun
  | [d] => { results := [.lit (.bool true)], args := [d] }
  | _ => none }
def vniSizeRow : OpenClaim := { program := "ytgjmclbcmfkhdaadoor", sum := "c76849c22d244b324fd062f7cdf8286aabd9402e09e533d9929c71a430e226dc", func := "lontar/lontarlaw13.VniSize", spec := "vniSize", unfollowed := true, recurses := true, named := ["lontar/viet.rows", "lontar/vni.signs"], apart := false, laid := [("lontar/viet.rows", laid_lontar_viet_rows), ("lontar/vni.signs", laid_lontar_vni_signs)] }
def VniSizeSaid : Prop := vniSizeRow.holds Tryd.pinned (OpenSpec.ofChange vniSizeSpec)

/-- ITS FALSE NEIGHBOUR: 'it returns false'. Refute it at one input. -/
def vniSizeWrong : ChangeSpec := { name := "vniSize", fn := fun _ => fun
  | [d] => { results := [.lit (.bool false)], args := [d] }
  | _ => none }
def VniSizeWrongFalsely : Prop := vniSizeRow.holds Tryd.pinned (OpenSpec.ofChange vniSizeWrong)

/- THE SECOND FORM. 'bulk': how many values and letters a reading holds, each counted each time it is reached (what is shared counts as often as it is met; a slice's spare places count too). A statement '..UptoSaid' is the law's where the arguments, and the package variables that the reading takes, are together of bulk at most 1048576: NARROWER than '..Said'. Prove '..Said' where nothing that the law and all that it calls make is longer than what came in: it says more and counts as full. Else prove '..UptoSaid'. A law counts once. -/
mutual
def uptoBulk {H : Type} : DataW H → Nat
  | .lit (.string bytes) => bytes.length + 1
  | .lit _ => 1
  | .nil => 1
  | .ptr d => uptoBulk d + 1
  | .slice elems spare => uptoBulkAll elems + uptoBulkAll spare + 1
  | .agg parts => uptoBulkAll parts + 1
  | .iface _ d => uptoBulk d + 1
  | .map entries => uptoBulkEntries entries + 1
  | .held _ => 1
def uptoBulkAll {H : Type} : List (DataW H) → Nat
  | [] => 0
  | d :: r => uptoBulk d + uptoBulkAll r
def uptoBulkEntries {H : Type} : List (Lit × DataW H) → Nat
  | [] => 0
  | x :: r => uptoBulkEntry x + uptoBulkEntries r
def uptoBulkEntry {H : Type} : Lit × DataW H → Nat
  | (.string bytes, d) => bytes.length + uptoBulk d + 1
  | (_, d) => uptoBulk d + 1
 end
def uptoSmall : (H : Type) → List (DataW H) → Bool := fun _ ds => decide (uptoBulkAll ds ≤ 1048576)
def OpenSpec.upto (s : _root_.Go.ChangeSpec) : _root_.Go.OpenSpec := { _root_.Go.OpenSpec.ofChange s with cond := some uptoSmall }

/-- 'lontarlaw13.VniSmall', WHERE WHAT IT READS IS OF BULK AT MOST 1048576: true; the input reads as it did. -/
def vniSmallUptoRow : OpenClaim := { program := "ytgjmclbcmfkhdaadoor", sum := "c76849c22d244b324fd062f7cdf8286aabd9402e09e533d9929c71a430e226dc", func := "lontar/lontarlaw13.VniSmall", spec := "vniSmall", unfollowed := true, recurses := true, named := ["lontar/viet.rows", "lontar/vni.signs"], apart := false, laid := [("lontar/viet.rows", laid_lontar_viet_rows), ("lontar/vni.signs", laid_lontar_vni_signs)], narrowed := true }
def VniSmallUptoSaid : Prop := vniSmallUptoRow.holds Tryd.pinned (OpenSpec.upto vniSmallSpec)

/-- 'lontarlaw13.VniRules', WHERE WHAT IT READS IS OF BULK AT MOST 1048576: true; the input reads as it did. -/
def vniRulesUptoRow : OpenClaim := { program := "ytgjmclbcmfkhdaadoor", sum := "c76849c22d244b324fd062f7cdf8286aabd9402e09e533d9929c71a430e226dc", func := "lontar/lontarlaw13.VniRules", spec := "vniRules", unfollowed := true, recurses := true, named := ["lontar/viet.rows", "lontar/vni.signs"], apart := false, laid := [("lontar/viet.rows", laid_lontar_viet_rows), ("lontar/vni.signs", laid_lontar_vni_signs)], narrowed := true }
def VniRulesUptoSaid : Prop := vniRulesUptoRow.holds Tryd.pinned (OpenSpec.upto vniRulesSpec)

/-- 'lontarlaw13.VniRight', WHERE WHAT IT READS IS OF BULK AT MOST 1048576: true; the input reads as it did. -/
def vniRightUptoRow : OpenClaim := { program := "ytgjmclbcmfkhdaadoor", sum := "c76849c22d244b324fd062f7cdf8286aabd9402e09e533d9929c71a430e226dc", func := "lontar/lontarlaw13.VniRight", spec := "vniRight", unfollowed := true, recurses := true, named := ["lontar/viet.rows", "lontar/vni.signs"], apart := false, laid := [("lontar/viet.rows", laid_lontar_viet_rows), ("lontar/vni.signs", laid_lontar_vni_signs)], narrowed := true }
def VniRightUptoSaid : Prop := vniRightUptoRow.holds Tryd.pinned (OpenSpec.upto vniRightSpec)

/-- 'lontarlaw13.VniReads', WHERE WHAT IT READS IS OF BULK AT MOST 1048576: true; the input reads as it did. -/
def vniReadsUptoRow : OpenClaim := { program := "ytgjmclbcmfkhdaadoor", sum := "c76849c22d244b324fd062f7cdf8286aabd9402e09e533d9929c71a430e226dc", func := "lontar/lontarlaw13.VniReads", spec := "vniReads", inPlace := ["slices.overlaps[int]"], unfollowed := true, recurses := true, named := ["lontar/viet.rows", "lontar/vni.signs"], apart := false, laid := [("lontar/viet.rows", laid_lontar_viet_rows), ("lontar/vni.signs", laid_lontar_vni_signs)], narrowed := true }
def VniReadsUptoSaid : Prop := vniReadsUptoRow.holds Tryd.pinned (OpenSpec.upto vniReadsSpec)

/-- 'lontarlaw13.VniAscii', WHERE WHAT IT READS IS OF BULK AT MOST 1048576: true; the input reads as it did. -/
def vniAsciiUptoRow : OpenClaim := { program := "ytgjmclbcmfkhdaadoor", sum := "c76849c22d244b324fd062f7cdf8286aabd9402e09e533d9929c71a430e226dc", func := "lontar/lontarlaw13.VniAscii", spec := "vniAscii", inPlace := ["slices.overlaps[int]"], unfollowed := true, recurses := true, named := ["lontar/viet.rows", "lontar/vni.signs"], apart := false, laid := [("lontar/viet.rows", laid_lontar_viet_rows), ("lontar/vni.signs", laid_lontar_vni_signs)], narrowed := true }
def VniAsciiUptoSaid : Prop := vniAsciiUptoRow.holds Tryd.pinned (OpenSpec.upto vniAsciiSpec)

/-- 'lontarlaw13.VniSize', WHERE WHAT IT READS IS OF BULK AT MOST 1048576: true; the input reads as it did. -/
def vniSizeUptoRow : OpenClaim := { program := "ytgjmclbcmfkhdaadoor", sum := "c76849c22d244b324fd062f7cdf8286aabd9402e09e533d9929c71a430e226dc", func := "lontar/lontarlaw13.VniSize", spec := "vniSize", unfollowed := true, recurses := true, named := ["lontar/viet.rows", "lontar/vni.signs"], apart := false, laid := [("lontar/viet.rows", laid_lontar_viet_rows), ("lontar/vni.signs", laid_lontar_vni_signs)], narrowed := true }
def VniSizeUptoSaid : Prop := vniSizeUptoRow.holds Tryd.pinned (OpenSpec.upto vniSizeSpec)

end Rows
end Go.Proofs.YtgjmclbcmfkhdaaDoor
