/-
  NARROWER THAN 'FOR EVERY INPUT', by the rows' own cells (each row's printed sentence says how): VietAll: laid · VietSplit: laid · VietJoin: laid · VietSign: laid · VietAdd: laid · VietRound: laid · VietUpper: laid.
  DERIVED. THE GIVEN ROWS OF THIS SEAT. 7 by the template 'for every input the law returns true; each argument reads behind the call as it read before'; 0 by the template 'total and deterministic' (their statements: YtigpmnpfkgopnaaDoorTotals.lean).
  GIVEN WITH THE SEED: the statements are not yours to turn. If you find one false, say at which input.
  Laid BY PROGRAM, IN A SANDBOX (cutbox-rows.mjs): the forced cells as the released guide's own fill.sh prints them over the translation d9cd0257f1015be1… (all of the seat's roots in one cut). By AI agents, Wed Nov 11 2026. No macro, syntax, notation, axiom, sorry.
-/
import Derived.Test.YtigpmnpfkgopnaaDoorChecked
import GoSem.Claim
import GoSem.ClaimJoined
import GoSem.ClaimMapViews
import Derived.JoinedTies
import Derived.KernelRfl
namespace Go.Proofs.YtigpmnpfkgopnaaDoor
/- THE CELL 'sum', in the pinned program and in every row, IS THE sha256 OF THE DUMP (.gsa) THAT YtigpmnpfkgopnaaDoorProg.lean LOADS. Nothing in Lean hashes anything: it is a label: what it is worth is what the hold of that sum in a sandbox is worth. -/
noncomputable def Tryd.pinned : Pinned := { name := "ytigpmnpfkgopnaadoor", sum := "d9cd0257f1015be17a26d4cbe0a761ebb996c1e998705fe91063c59481f2ef5d", checked := Tryd.checked }
namespace Rows
def none {H : Type} : Left H := { results := [], args := [] }

/- WHAT THE LISTED PACKAGE-LEVEL VARIABLES READ AS WHEN THE CALL BEGINS. Each datum BY PROGRAM (the guide's laid-datum.mjs) off the statement by which the dump's own 'gosem.cut.vars' lays the variable. In a bare row this is a premise. The card (YtigpmnpfkgopnaaDoorCards.lean) ties it to the program's text. -/
def laid_lontar_viet_rows {H : Type} : DataW H := .agg [.agg [.lit (.int .i64 97), .lit (.int .i64 0), .agg [.lit (.int .i64 97), .lit (.int .i64 224), .lit (.int .i64 225), .lit (.int .i64 7843), .lit (.int .i64 227), .lit (.int .i64 7841)]], .agg [.lit (.int .i64 97), .lit (.int .i64 1), .agg [.lit (.int .i64 259), .lit (.int .i64 7857), .lit (.int .i64 7855), .lit (.int .i64 7859), .lit (.int .i64 7861), .lit (.int .i64 7863)]], .agg [.lit (.int .i64 97), .lit (.int .i64 2), .agg [.lit (.int .i64 226), .lit (.int .i64 7847), .lit (.int .i64 7845), .lit (.int .i64 7849), .lit (.int .i64 7851), .lit (.int .i64 7853)]], .agg [.lit (.int .i64 101), .lit (.int .i64 0), .agg [.lit (.int .i64 101), .lit (.int .i64 232), .lit (.int .i64 233), .lit (.int .i64 7867), .lit (.int .i64 7869), .lit (.int .i64 7865)]], .agg [.lit (.int .i64 101), .lit (.int .i64 2), .agg [.lit (.int .i64 234), .lit (.int .i64 7873), .lit (.int .i64 7871), .lit (.int .i64 7875), .lit (.int .i64 7877), .lit (.int .i64 7879)]], .agg [.lit (.int .i64 105), .lit (.int .i64 0), .agg [.lit (.int .i64 105), .lit (.int .i64 236), .lit (.int .i64 237), .lit (.int .i64 7881), .lit (.int .i64 297), .lit (.int .i64 7883)]], .agg [.lit (.int .i64 111), .lit (.int .i64 0), .agg [.lit (.int .i64 111), .lit (.int .i64 242), .lit (.int .i64 243), .lit (.int .i64 7887), .lit (.int .i64 245), .lit (.int .i64 7885)]], .agg [.lit (.int .i64 111), .lit (.int .i64 2), .agg [.lit (.int .i64 244), .lit (.int .i64 7891), .lit (.int .i64 7889), .lit (.int .i64 7893), .lit (.int .i64 7895), .lit (.int .i64 7897)]], .agg [.lit (.int .i64 111), .lit (.int .i64 3), .agg [.lit (.int .i64 417), .lit (.int .i64 7901), .lit (.int .i64 7899), .lit (.int .i64 7903), .lit (.int .i64 7905), .lit (.int .i64 7907)]], .agg [.lit (.int .i64 117), .lit (.int .i64 0), .agg [.lit (.int .i64 117), .lit (.int .i64 249), .lit (.int .i64 250), .lit (.int .i64 7911), .lit (.int .i64 361), .lit (.int .i64 7909)]], .agg [.lit (.int .i64 117), .lit (.int .i64 3), .agg [.lit (.int .i64 432), .lit (.int .i64 7915), .lit (.int .i64 7913), .lit (.int .i64 7917), .lit (.int .i64 7919), .lit (.int .i64 7921)]], .agg [.lit (.int .i64 121), .lit (.int .i64 0), .agg [.lit (.int .i64 121), .lit (.int .i64 7923), .lit (.int .i64 253), .lit (.int .i64 7927), .lit (.int .i64 7929), .lit (.int .i64 7925)]], .agg [.lit (.int .i64 100), .lit (.int .i64 0), .agg [.lit (.int .i64 100), .lit (.int .i64 0), .lit (.int .i64 0), .lit (.int .i64 0), .lit (.int .i64 0), .lit (.int .i64 0)]], .agg [.lit (.int .i64 100), .lit (.int .i64 4), .agg [.lit (.int .i64 273), .lit (.int .i64 0), .lit (.int .i64 0), .lit (.int .i64 0), .lit (.int .i64 0), .lit (.int .i64 0)]]]

/-- 'lontarlaw09.VietAll': WHATEVER THE INPUT: true; the input reads as it did. -/
def vietAllSpec : ChangeSpec := { name := "vietAll", fn := fun _ => fun
  | [d] => { results := [.lit (.bool true)], args := [d] }
  | _ => none }
def vietAllRow : OpenClaim := { program := "ytigpmnpfkgopnaadoor", sum := "d9cd0257f1015be17a26d4cbe0a761ebb996c1e998705fe91063c59481f2ef5d", func := "lontar/lontarlaw09.VietAll", spec := "vietAll", unfollowed := true, recurses := true, named := ["lontar/viet.rows"], apart := false, laid := [("lontar/viet.rows", laid_lontar_viet_rows)] }
def VietAllSaid : Prop := vietAllRow.holds Tryd.pinned (OpenSpec.ofChange vietAllSpec)

/-- ITS FALSE NEIGHBOUR: 'it returns false'. Refute it at one input. -/
def vietAllWrong : ChangeSpec := { name := "vietAll", fn := fun _ => fun
  | [d] => { results := [.lit (.bool false)], args := [d] }
  | _ => none }
def VietAllWrongFalsely : Prop := vietAllRow.holds Tryd.pinned (OpenSpec.ofChange vietAllWrong)

/-- 'lontarlaw09.VietSplit': WHATEVER THE INPUT: true; the input reads as it did. -/
def vietSplitSpec : ChangeSpec := { name := "vietSplit", fn := fun _ => fun
  | [d1, d2] => { results := [.lit (.bool true)], args := [d1, d2] }
  | _ => none }
def vietSplitRow : OpenClaim := { program := "ytigpmnpfkgopnaadoor", sum := "d9cd0257f1015be17a26d4cbe0a761ebb996c1e998705fe91063c59481f2ef5d", func := "lontar/lontarlaw09.VietSplit", spec := "vietSplit", unfollowed := true, recurses := true, named := ["lontar/viet.rows"], apart := false, laid := [("lontar/viet.rows", laid_lontar_viet_rows)] }
def VietSplitSaid : Prop := vietSplitRow.holds Tryd.pinned (OpenSpec.ofChange vietSplitSpec)

/-- ITS FALSE NEIGHBOUR: 'it returns false'. Refute it at one input. -/
def vietSplitWrong : ChangeSpec := { name := "vietSplit", fn := fun _ => fun
  | [d1, d2] => { results := [.lit (.bool false)], args := [d1, d2] }
  | _ => none }
def VietSplitWrongFalsely : Prop := vietSplitRow.holds Tryd.pinned (OpenSpec.ofChange vietSplitWrong)

/-- 'lontarlaw09.VietJoin': WHATEVER THE INPUT: true; the input reads as it did. -/
def vietJoinSpec : ChangeSpec := { name := "vietJoin", fn := fun _ => fun
  | [d1, d2, d3, d4, d5] => { results := [.lit (.bool true)], args := [d1, d2, d3, d4, d5] }
  | _ => none }
def vietJoinRow : OpenClaim := { program := "ytigpmnpfkgopnaadoor", sum := "d9cd0257f1015be17a26d4cbe0a761ebb996c1e998705fe91063c59481f2ef5d", func := "lontar/lontarlaw09.VietJoin", spec := "vietJoin", unfollowed := true, recurses := true, named := ["lontar/viet.rows"], apart := false, laid := [("lontar/viet.rows", laid_lontar_viet_rows)] }
def VietJoinSaid : Prop := vietJoinRow.holds Tryd.pinned (OpenSpec.ofChange vietJoinSpec)

/-- ITS FALSE NEIGHBOUR: 'it returns false'. Refute it at one input. -/
def vietJoinWrong : ChangeSpec := { name := "vietJoin", fn := fun _ => fun
  | [d1, d2, d3, d4, d5] => { results := [.lit (.bool false)], args := [d1, d2, d3, d4, d5] }
  | _ => none }
def VietJoinWrongFalsely : Prop := vietJoinRow.holds Tryd.pinned (OpenSpec.ofChange vietJoinWrong)

/-- 'lontarlaw09.VietSign': WHATEVER THE INPUT: true; the input reads as it did. -/
def vietSignSpec : ChangeSpec := { name := "vietSign", fn := fun _ => fun
  | [d1, d2] => { results := [.lit (.bool true)], args := [d1, d2] }
  | _ => none }
def vietSignRow : OpenClaim := { program := "ytigpmnpfkgopnaadoor", sum := "d9cd0257f1015be17a26d4cbe0a761ebb996c1e998705fe91063c59481f2ef5d", func := "lontar/lontarlaw09.VietSign", spec := "vietSign", unfollowed := true, recurses := true, named := ["lontar/viet.rows"], apart := false, laid := [("lontar/viet.rows", laid_lontar_viet_rows)] }
def VietSignSaid : Prop := vietSignRow.holds Tryd.pinned (OpenSpec.ofChange vietSignSpec)

/-- ITS FALSE NEIGHBOUR: 'it returns false'. Refute it at one input. -/
def vietSignWrong : ChangeSpec := { name := "vietSign", fn := fun _ => fun
  | [d1, d2] => { results := [.lit (.bool false)], args := [d1, d2] }
  | _ => none }
def VietSignWrongFalsely : Prop := vietSignRow.holds Tryd.pinned (OpenSpec.ofChange vietSignWrong)

/-- 'lontarlaw09.VietAdd': WHATEVER THE INPUT: true; the input reads as it did. -/
def vietAddSpec : ChangeSpec := { name := "vietAdd", fn := fun _ => fun
  | [d1, d2, d3, d4] => { results := [.lit (.bool true)], args := [d1, d2, d3, d4] }
  | _ => none }
def vietAddRow : OpenClaim := { program := "ytigpmnpfkgopnaadoor", sum := "d9cd0257f1015be17a26d4cbe0a761ebb996c1e998705fe91063c59481f2ef5d", func := "lontar/lontarlaw09.VietAdd", spec := "vietAdd", unfollowed := true, recurses := true, named := ["lontar/viet.rows"], apart := false, laid := [("lontar/viet.rows", laid_lontar_viet_rows)] }
def VietAddSaid : Prop := vietAddRow.holds Tryd.pinned (OpenSpec.ofChange vietAddSpec)

/-- ITS FALSE NEIGHBOUR: 'it returns false'. Refute it at one input. -/
def vietAddWrong : ChangeSpec := { name := "vietAdd", fn := fun _ => fun
  | [d1, d2, d3, d4] => { results := [.lit (.bool false)], args := [d1, d2, d3, d4] }
  | _ => none }
def VietAddWrongFalsely : Prop := vietAddRow.holds Tryd.pinned (OpenSpec.ofChange vietAddWrong)

/-- 'lontarlaw09.VietRound': WHATEVER THE INPUT: true; the input reads as it did. -/
def vietRoundSpec : ChangeSpec := { name := "vietRound", fn := fun _ => fun
  | [d1, d2] => { results := [.lit (.bool true)], args := [d1, d2] }
  | _ => none }
def vietRoundRow : OpenClaim := { program := "ytigpmnpfkgopnaadoor", sum := "d9cd0257f1015be17a26d4cbe0a761ebb996c1e998705fe91063c59481f2ef5d", func := "lontar/lontarlaw09.VietRound", spec := "vietRound", unfollowed := true, recurses := true, named := ["lontar/viet.rows"], apart := false, laid := [("lontar/viet.rows", laid_lontar_viet_rows)] }
def VietRoundSaid : Prop := vietRoundRow.holds Tryd.pinned (OpenSpec.ofChange vietRoundSpec)

/-- ITS FALSE NEIGHBOUR: 'it returns false'. Refute it at one input. -/
def vietRoundWrong : ChangeSpec := { name := "vietRound", fn := fun _ => fun
  | [d1, d2] => { results := [.lit (.bool false)], args := [d1, d2] }
  | _ => none }
def VietRoundWrongFalsely : Prop := vietRoundRow.holds Tryd.pinned (OpenSpec.ofChange vietRoundWrong)

/-- 'lontarlaw09.VietUpper': WHATEVER THE INPUT: true; the input reads as it did. -/
def vietUpperSpec : ChangeSpec := { name := "vietUpper", fn := fun _ => fun
  | [d] => { results := [.lit (.bool true)], args := [d] }
  | _ => none }
def vietUpperRow : OpenClaim := { program := "ytigpmnpfkgopnaadoor", sum := "d9cd0257f1015be17a26d4cbe0a761ebb996c1e998705fe91063c59481f2ef5d", func := "lontar/lontarlaw09.VietUpper", spec := "vietUpper", unfollowed := true, recurses := true, named := ["lontar/viet.rows"], apart := false, laid := [("lontar/viet.rows", laid_lontar_viet_rows)] }
def VietUpperSaid : Prop := vietUpperRow.holds Tryd.pinned (OpenSpec.ofChange vietUpperSpec)

/-- ITS FALSE NEIGHBOUR: 'it returns false'. Refute it at one input. -/
def vietUpperWrong : ChangeSpec := { name := "vietUpper", fn := fun _ => fun
  | [d] => { results := [.lit (.bool false)], args := [d] }
  | _ => none }
def VietUpperWrongFalsely : Prop := vietUpperRow.holds Tryd.pinned (OpenSpec.ofChange vietUpperWrong)

/- THE SECOND FORM. 'bulk': how many values and letters a reading holds, each counted each time it is reached (what is shared counts as often as it is met; a slice's spare places count too). A statement '..UptoSaid' is the law's where the arguments, and the package variables that the reading takes, are together of bulk at most 1048576: NARROWER than '..Said'. Prove '..Said' where nothing that the law and all that it calls make is longer than what came in: it says more and counts as full. Else prove '..UptoSaid'. A law counts once. -/
mutual
def uptoBulk {H : Type} : DataW H → Nat
  | .lit (.string bytes) => bytes.length + 1
  | .lit _ => 1
  | .nil => 1
  | .ptr d => uptoBulk d + 1
  | .slice elems spare => uptoBulkAll elems + uptoBulkAll spare + 1
  | .agg parts => uptoBulkAll parts + 1
  | .iface _ d => uptoBulk d + 1
  | .map entries => uptoBulkEntries entries + 1
  | .held _ => 1
def uptoBulkAll {H : Type} : List (DataW H) → Nat
  | [] => 0
  | d :: r => uptoBulk d + uptoBulkAll r
def uptoBulkEntries {H : Type} : List (Lit × DataW H) → Nat
  | [] => 0
  | x :: r => uptoBulkEntry x + uptoBulkEntries r
def uptoBulkEntry {H : Type} : Lit × DataW H → Nat
  | (.string bytes, d) => bytes.length + uptoBulk d + 1
  | (_, d) => uptoBulk d + 1
 end
def uptoSmall : (H : Type) → List (DataW H) → Bool := fun _ ds => decide (uptoBulkAll ds ≤ 1048576)
def OpenSpec.upto (s : _root_.Go.ChangeSpec) : _root_.Go.OpenSpec := { _root_.Go.OpenSpec.ofChange s with cond := some uptoSmall }

/-- 'lontarlaw09.VietAll', WHERE WHAT IT READS IS OF BULK AT MOST 1048576: true; the input reads as it did. -/
def vietAllUptoRow : OpenClaim := { program := "ytigpmnpfkgopnaadoor", sum := "d9cd0257f1015be17a26d4cbe0a761ebb996c1e998705fe91063c59481f2ef5d", func := "lontar/lontarlaw09.VietAll", spec := "vietAll", unfollowed := true, recurses := true, named := ["lontar/viet.rows"], apart := false, laid := [("lontar/viet.rows", laid_lontar_viet_rows)], narrowed := true }
def VietAllUptoSaid : Prop := vietAllUptoRow.holds Tryd.pinned (OpenSpec.upto vietAllSpec)

/-- 'lontarlaw09.VietSplit', WHERE WHAT IT READS IS OF BULK AT MOST 1048576: true; the input reads as it did. -/
def vietSplitUptoRow : OpenClaim := { program := "ytigpmnpfkgopnaadoor", sum := "d9cd0257f1015be17a26d4cbe0a761ebb996c1e998705fe91063c59481f2ef5d", func := "lontar/lontarlaw09.VietSplit", spec := "vietSplit", unfollowed := true, recurses := true, named := ["lontar/viet.rows"], apart := false, laid := [("lontar/viet.rows", laid_lontar_viet_rows)], narrowed := true }
def VietSplitUptoSaid : Prop := vietSplitUptoRow.holds Tryd.pinned (OpenSpec.upto vietSplitSpec)

/-- 'lontarlaw09.VietJoin', WHERE WHAT IT READS IS OF BULK AT MOST 1048576: true; the input reads as it did. -/
def vietJoinUptoRow : OpenClaim := { program := "ytigpmnpfkgopnaadoor", sum := "d9cd0257f1015be17a26d4cbe0a761ebb996c1e998705fe91063c59481f2ef5d", func := "lontar/lontarlaw09.VietJoin", spec := "vietJoin", unfollowed := true, recurses := true, named := ["lontar/viet.rows"], apart := false, laid := [("lontar/viet.rows", laid_lontar_viet_rows)], narrowed := true }
def VietJoinUptoSaid : Prop := vietJoinUptoRow.holds Tryd.pinned (OpenSpec.upto vietJoinSpec)

/-- 'lontarlaw09.VietSign', WHERE WHAT IT READS IS OF BULK AT MOST 1048576: true; the input reads as it did. -/
def vietSignUptoRow : OpenClaim := { program := "ytigpmnpfkgopnaadoor", sum := "d9cd0257f1015be17a26d4cbe0a761ebb996c1e998705fe91063c59481f2ef5d", func := "lontar/lontarlaw09.VietSign", spec := "vietSign", unfollowed := true, recurses := true, named := ["lontar/viet.rows"], apart := false, laid := [("lontar/viet.rows", laid_lontar_viet_rows)], narrowed := true }
def VietSignUptoSaid : Prop := vietSignUptoRow.holds Tryd.pinned (OpenSpec.upto vietSignSpec)

/-- 'lontarlaw09.VietAdd', WHERE WHAT IT READS IS OF BULK AT MOST 1048576: true; the input reads as it did. -/
def vietAddUptoRow : OpenClaim := { program := "ytigpmnpfkgopnaadoor", sum := "d9cd0257f1015be17a26d4cbe0a761ebb996c1e998705fe91063c59481f2ef5d", func := "lontar/lontarlaw09.VietAdd", spec := "vietAdd", unfollowed := true, recurses := true, named := ["lontar/viet.rows"], apart := false, laid := [("lontar/viet.rows", laid_lontar_viet_rows)], narrowed := true }
def VietAddUptoSaid : Prop := vietAddUptoRow.holds Tryd.pinned (OpenSpec.upto vietAddSpec)

/-- 'lontarlaw09.VietRound', WHERE WHAT IT READS IS OF BULK AT MOST 1048576: true; the input reads as it did. -/
def vietRoundUptoRow : OpenClaim := { program := "ytigpmnpfkgopnaadoor", sum := "d9cd0257f1015be17a26d4cbe0a761ebb996c1e998705fe91063c59481f2ef5d", func := "lontar/lontarlaw09.VietRound", spec := "vietRound", unfollowed := true, recurses := true, named := ["lontar/viet.rows"], apart := false, laid := [("lontar/viet.rows", laid_lontar_viet_rows)], narrowed := true }
def VietRoundUptoSaid : Prop := vietRoundUptoRow.holds Tryd.pinned (OpenSpec.upto vietRoundSpec)

/-- 'lontarlaw09.VietUpper', WHERE WHAT IT READS IS OF BULK AT MOST 1048576: true; the input reads as it did. -/
def vietUpperUptoRow : OpenClaim := { program := "ytigpmnpfkgopnaadoor", sum := "d9cd0257f1015be17a26d4cbe0a761ebb996c1e998705fe91063c59481f2ef5d", func := "lontar/lontarlaw09.VietUpper", spec := "vietUpper", unfollowed := true, recurses := true, named := ["lontar/viet.rows"], apart := false, laid := [("lontar/viet.rows", laid_lontar_viet_rows)], narrowed := true }
def VietUpperUptoSaid : Prop := vietUpperUptoRow.holds Tryd.pinned (OpenSpec.upto vietUpperSpec)

end Rows
end Go.Proofs.YtigpmnpfkgopnaaDoor
