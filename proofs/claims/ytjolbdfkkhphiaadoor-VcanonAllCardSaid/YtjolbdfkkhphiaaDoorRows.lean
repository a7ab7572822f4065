/-
  NARROWER THAN 'FOR EVERY INPUT', by the rows' own cells (each row's printed sentence says how): VcanonAll: laid · VcanonPut: laid · VcanonTwice: laid · VcanonApart: laid · VcanonBack: laid · VcanonOrder: laid · VcanonParts: laid.
  DERIVED. THE GIVEN ROWS OF THIS SEAT. 7 by the template 'for every input the law returns true; each argument reads behind the call as it read before'; 0 by the template 'total and deterministic' (their statements: YtjolbdfkkhphiaaDoorTotals.lean).
  GIVEN WITH THE SEED: the statements are not yours to turn. If you find one false, say at which input.
  Laid BY PROGRAM, IN A SANDBOX (cutbox-rows.mjs): the forced cells as the released guide's own fill.sh prints them over the translation 502d2a96740f28d5… (all of the seat's roots in one cut). By AI agents, Wed Nov 11 2026. No macro, syntax, notation, axiom, sorry.
-/
import Derived.Test.YtjolbdfkkhphiaaDoorChecked
import GoSem.Claim
import GoSem.ClaimJoined
import GoSem.ClaimMapViews
import Derived.JoinedTies
import Derived.KernelRfl
namespace Go.Proofs.YtjolbdfkkhphiaaDoor
/- THE CELL 'sum', in the pinned program and in every row, IS THE sha256 OF THE DUMP (.gsa) THAT YtjolbdfkkhphiaaDoorProg.lean LOADS. Nothing in Lean hashes anything: it is a label: what it is worth is what the hold of that sum in a sandbox is worth. -/
noncomputable def Tryd.pinned : Pinned := { name := "ytjolbdfkkhphiaadoor", sum := "502d2a96740f28d5a394b1048379e3bf945658baeef806ef4ccd7ec8d2890ffb", checked := Tryd.checked }
namespace Rows
def none {H : Type} : Left H := { results := [], args := [] }

/- WHAT THE LISTED PACKAGE-LEVEL VARIABLES READ AS WHEN THE CALL BEGINS. Each datum BY PROGRAM (the guide's laid-datum.mjs) off the statement by which the dump's own 'gosem.cut.vars' lays the variable. In a bare row this is a premise. The card (YtjolbdfkkhphiaaDoorCards.lean) ties it to the program's text. -/
def laid_lontar_viet_rows {H : Type} : DataW H := .agg [.agg [.lit (.int .i64 97), .lit (.int .i64 0), .agg [.lit (.int .i64 97), .lit (.int .i64 224), .lit (.int .i64 225), .lit (.int .i64 7843), .lit (.int .i64 227), .lit (.int .i64 7841)]], .agg [.lit (.int .i64 97), .lit (.int .i64 1), .agg [.lit (.int .i64 259), .lit (.int .i64 7857), .lit (.int .i64 7855), .lit (.int .i64 7859), .lit (.int .i64 7861), .lit (.int .i64 7863)]], .agg [.lit (.int .i64 97), .lit (.int .i64 2), .agg [.lit (.int .i64 226), .lit (.int .i64 7847), .lit (.int .i64 7845), .lit (.int .i64 7849), .lit (.int .i64 7851), .lit (.int .i64 7853)]], .agg [.lit (.int .i64 101), .lit (.int .i64 0), .agg [.lit (.int .i64 101), .lit (.int .i64 232), .lit (.int .i64 233), .lit (.int .i64 7867), .lit (.int .i64 7869), .lit (.int .i64 7865)]], .agg [.lit (.int .i64 101), .lit (.int .i64 2), .agg [.lit (.int .i64 234), .lit (.int .i64 7873), .lit (.int .i64 7871), .lit (.int .i64 7875), .lit (.int .i64 7877), .lit (.int .i64 7879)]], .agg [.lit (.int .i64 105), .lit (.int .i64 0), .agg [.lit (.int .i64 105), .lit (.int .i64 236), .lit (.int .i64 237), .lit (.int .i64 7881), .lit (.int .i64 297), .lit (.int .i64 7883)]], .agg [.lit (.int .i64 111), .lit (.int .i64 0), .agg [.lit (.int .i64 111), .lit (.int .i64 242), .lit (.int .i64 243), .lit (.int .i64 7887), .lit (.int .i64 245), .lit (.int .i64 7885)]], .agg [.lit (.int .i64 111), .lit (.int .i64 2), .agg [.lit (.int .i64 244), .lit (.int .i64 7891), .lit (.int .i64 7889), .lit (.int .i64 7893), .lit (.int .i64 7895), .lit (.int .i64 7897)]], .agg [.lit (.int .i64 111), .lit (.int .i64 3), .agg [.lit (.int .i64 417), .lit (.int .i64 7901), .lit (.int .i64 7899), .lit (.int .i64 7903), .lit (.int .i64 7905), .lit (.int .i64 7907)]], .agg [.lit (.int .i64 117), .lit (.int .i64 0), .agg [.lit (.int .i64 117), .lit (.int .i64 249), .lit (.int .i64 250), .lit (.int .i64 7911), .lit (.int .i64 361), .lit (.int .i64 7909)]], .agg [.lit (.int .i64 117), .lit (.int .i64 3), .agg [.lit (.int .i64 432), .lit (.int .i64 7915), .lit (.int .i64 7913), .lit (.int .i64 7917), .lit (.int .i64 7919), .lit (.int .i64 7921)]], .agg [.lit (.int .i64 121), .lit (.int .i64 0), .agg [.lit (.int .i64 121), .lit (.int .i64 7923), .lit (.int .i64 253), .lit (.int .i64 7927), .lit (.int .i64 7929), .lit (.int .i64 7925)]], .agg [.lit (.int .i64 100), .lit (.int .i64 0), .agg [.lit (.int .i64 100), .lit (.int .i64 0), .lit (.int .i64 0), .lit (.int .i64 0), .lit (.int .i64 0), .lit (.int .i64 0)]], .agg [.lit (.int .i64 100), .lit (.int .i64 4), .agg [.lit (.int .i64 273), .lit (.int .i64 0), .lit (.int .i64 0), .lit (.int .i64 0), .lit (.int .i64 0), .lit (.int .i64 0)]]]
def laid_lontar_vcanon_signs {H : Type} : DataW H := .agg [.lit (.int .i64 774), .lit (.int .i64 770), .lit (.int .i64 795), .lit (.int .i64 768), .lit (.int .i64 769), .lit (.int .i64 777), .lit (.int .i64 771), .lit (.int .i64 803)]

/-- 'lontarlaw10.VcanonAll': WHATEVER THE INPUT: true; the input reads as it did. -/
def vcanonAllSpec : ChangeSpec := { name := "vcanonAll", fn := fun _ => fun
  | [d1, d2] => { results := [.lit (.bool true)], args := [d1, d2] }
  | _ => none }
def vcanonAllRow : OpenClaim := { program := "ytjolbdfkkhphiaadoor", sum := "502d2a96740f28d5a394b1048379e3bf945658baeef806ef4ccd7ec8d2890ffb", func := "lontar/lontarlaw10.VcanonAll", spec := "vcanonAll", unfollowed := true, recurses := true, named := ["lontar/viet.rows", "lontar/vcanon.signs"], apart := false, laid := [("lontar/viet.rows", laid_lontar_viet_rows), ("lontar/vcanon.signs", laid_lontar_vcanon_signs)] }
def VcanonAllSaid : Prop := vcanonAllRow.holds Tryd.pinned (OpenSpec.ofChange vcanonAllSpec)

/-- ITS FALSE NEIGHBOUR: 'it returns false'. Refute it at one input. -/
def vcanonAllWrong : ChangeSpec := { name := "vcanonAll", fn := fun _ => fun
  | [d1, d2] => { results := [.lit (.bool false)], args := [d1, d2] }
  | _ => none }
def VcanonAllWrongFalsely : Prop := vcanonAllRow.holds Tryd.pinned (OpenSpec.ofChange vcanonAllWrong)

/-- 'lontarlaw10.VcanonPut': WHATEVER THE INPUT: true; the input reads as it did. -/
def vcanonPutSpec : ChangeSpec := { name := "vcanonPut", fn := fun _ => fun
  | [d] => { results := [.lit (.bool true)], args := [d] }
  | _ => none }
def vcanonPutRow : OpenClaim := { program := "ytjolbdfkkhphiaadoor", sum := "502d2a96740f28d5a394b1048379e3bf945658baeef806ef4ccd7ec8d2890ffb", func := "lontar/lontarlaw10.VcanonPut", spec := "vcanonPut", unfollowed := true, recurses := true, named := ["lontar/viet.rows", "lontar/vcanon.signs"], apart := false, laid := [("lontar/viet.rows", laid_lontar_viet_rows), ("lontar/vcanon.signs", laid_lontar_vcanon_signs)] }
def VcanonPutSaid : Prop := vcanonPutRow.holds Tryd.pinned (OpenSpec.ofChange vcanonPutSpec)

/-- ITS FALSE NEIGHBOUR: 'it returns false'. Refute it at one input. -/
def vcanonPutWrong : ChangeSpec := { name := "vcanonPut", fn := fun _ => fun
  | [d] => { results := [.lit (.bool false)], args := [d] }
  | _ => none }
def VcanonPutWrongFalsely : Prop := vcanonPutRow.holds Tryd.pinned (OpenSpec.ofChange vcanonPutWrong)

/-- 'lontarlaw10.VcanonTwice': WHATEVER THE INPUT: true; the input reads as it did. -/
def vcanonTwiceSpec : ChangeSpec := { name := "vcanonTwice", fn := fun _ => fun
  | [d1, d2] => { results := [.lit (.bool true)], args := [d1, d2] }
  | _ => none }
def vcanonTwiceRow : OpenClaim := { program := "ytjolbdfkkhphiaadoor", sum := "502d2a96740f28d5a394b1048379e3bf945658baeef806ef4ccd7ec8d2890ffb", func := "lontar/lontarlaw10.VcanonTwice", spec := "vcanonTwice", unfollowed := true, recurses := true, named := ["lontar/viet.rows", "lontar/vcanon.signs"], apart := false, laid := [("lontar/viet.rows", laid_lontar_viet_rows), ("lontar/vcanon.signs", laid_lontar_vcanon_signs)] }
def VcanonTwiceSaid : Prop := vcanonTwiceRow.holds Tryd.pinned (OpenSpec.ofChange vcanonTwiceSpec)

/-- ITS FALSE NEIGHBOUR: 'it returns false'. Refute it at one input. -/
def vcanonTwiceWrong : ChangeSpec := { name := "vcanonTwice", fn := fun _ => fun
  | [d1, d2] => { results := [.lit (.bool false)], args := [d1, d2] }
  | _ => none }
def VcanonTwiceWrongFalsely : Prop := vcanonTwiceRow.holds Tryd.pinned (OpenSpec.ofChange vcanonTwiceWrong)

/-- 'lontarlaw10.VcanonApart': WHATEVER THE INPUT: true; the input reads as it did. -/
def vcanonApartSpec : ChangeSpec := { name := "vcanonApart", fn := fun _ => fun
  | [d1, d2] => { results := [.lit (.bool true)], args := [d1, d2] }
  | _ => none }
def vcanonApartRow : OpenClaim := { program := "ytjolbdfkkhphiaadoor", sum := "502d2a96740f28d5a394b1048379e3bf945658baeef806ef4ccd7ec8d2890ffb", func := "lontar/lontarlaw10.VcanonApart", spec := "vcanonApart", unfollowed := true, recurses := true, named := ["lontar/viet.rows", "lontar/vcanon.signs"], apart := false, laid := [("lontar/viet.rows", laid_lontar_viet_rows), ("lontar/vcanon.signs", laid_lontar_vcanon_signs)] }
def VcanonApartSaid : Prop := vcanonApartRow.holds Tryd.pinned (OpenSpec.ofChange vcanonApartSpec)

/-- ITS FALSE NEIGHBOUR: 'it returns false'. Refute it at one input. -/
def vcanonApartWrong : ChangeSpec := { name := "vcanonApart", fn := fun _ => fun
  | [d1, d2] => { results := [.lit (.bool false)], args := [d1, d2] }
  | _ => none }
def VcanonApartWrongFalsely : Prop := vcanonApartRow.holds Tryd.pinned (OpenSpec.ofChange vcanonApartWrong)

/-- 'lontarlaw10.VcanonBack': WHATEVER THE INPUT: true; the input reads as it did. -/
def vcanonBackSpec : ChangeSpec := { name := "vcanonBack", fn := fun _ => fun
  | [d] => { results := [.lit (.bool true)], args := [d] }
  | _ => none }
def vcanonBackRow : OpenClaim := { program := "ytjolbdfkkhphiaadoor", sum := "502d2a96740f28d5a394b1048379e3bf945658baeef806ef4ccd7ec8d2890ffb", func := "lontar/lontarlaw10.VcanonBack", spec := "vcanonBack", unfollowed := true, recurses := true, named := ["lontar/viet.rows", "lontar/vcanon.signs"], apart := false, laid := [("lontar/viet.rows", laid_lontar_viet_rows), ("lontar/vcanon.signs", laid_lontar_vcanon_signs)] }
def VcanonBackSaid : Prop := vcanonBackRow.holds Tryd.pinned (OpenSpec.ofChange vcanonBackSpec)

/-- ITS FALSE NEIGHBOUR: 'it returns false'. Refute it at one input. -/
def vcanonBackWrong : ChangeSpec := { name := "vcanonBack", fn := fun _ => fun
  | [d] => { results := [.lit (.bool false)], args := [d] }
  | _ => none }
def VcanonBackWrongFalsely : Prop := vcanonBackRow.holds Tryd.pinned (OpenSpec.ofChange vcanonBackWrong)

/-- 'lontarlaw10.VcanonOrder': WHATEVER THE INPUT: true; the input reads as it did. -/
def vcanonOrderSpec : ChangeSpec := { name := "vcanonOrder", fn := fun _ => fun
  | [d1, d2, d3] => { results := [.lit (.bool true)], args := [d1, d2, d3] }
  | _ => none }
def vcanonOrderRow : OpenClaim := { program := "ytjolbdfkkhphiaadoor", sum := "502d2a96740f28d5a394b1048379e3bf945658baeef806ef4ccd7ec8d2890ffb", func := "lontar/lontarlaw10.VcanonOrder", spec := "vcanonOrder", unfollowed := true, recurses := true, named := ["lontar/viet.rows", "lontar/vcanon.signs"], apart := false, laid := [("lontar/viet.rows", laid_lontar_viet_rows), ("lontar/vcanon.signs", laid_lontar_vcanon_signs)] }
def VcanonOrderSaid : Prop := vcanonOrderRow.holds Tryd.pinned (OpenSpec.ofChange vcanonOrderSpec)

/-- ITS FALSE NEIGHBOUR: 'it returns false'. Refute it at one input. -/
def vcanonOrderWrong : ChangeSpec := { name := "vcanonOrder", fn := fun _ => fun
  | [d1, d2, d3] => { results := [.lit (.bool false)], args := [d1, d2, d3] }
  | _ => none }
def VcanonOrderWrongFalsely : Prop := vcanonOrderRow.holds Tryd.pinned (OpenSpec.ofChange vcanonOrderWrong)

/-- 'lontarlaw10.VcanonParts': WHATEVER THE INPUT: true; the input reads as it did. -/
def vcanonPartsSpec : ChangeSpec := { name := "vcanonParts", fn := fun _ => fun
  | [d1, d2] => { results := [.lit (.bool true)], args := [d1, d2] }
  | _ => none }
def vcanonPartsRow : OpenClaim := { program := "ytjolbdfkkhphiaadoor", sum := "502d2a96740f28d5a394b1048379e3bf945658baeef806ef4ccd7ec8d2890ffb", func := "lontar/lontarlaw10.VcanonParts", spec := "vcanonParts", unfollowed := true, recurses := true, named := ["lontar/viet.rows", "lontar/vcanon.signs"], apart := false, laid := [("lontar/viet.rows", laid_lontar_viet_rows), ("lontar/vcanon.signs", laid_lontar_vcanon_signs)] }
def VcanonPartsSaid : Prop := vcanonPartsRow.holds Tryd.pinned (OpenSpec.ofChange vcanonPartsSpec)

/-- ITS FALSE NEIGHBOUR: 'it returns false'. Refute it at one input. -/
def vcanonPartsWrong : ChangeSpec := { name := "vcanonParts", fn := fun _ => fun
  | [d1, d2] => { results := [.lit (.bool false)], args := [d1, d2] }
  | _ => none }
def VcanonPartsWrongFalsely : Prop := vcanonPartsRow.holds Tryd.pinned (OpenSpec.ofChange vcanonPartsWrong)

/- THE SECOND FORM. 'bulk': how many values and letters a reading holds, each counted each time it is reached (what is shared counts as often as it is met; a slice's spare places count too). A statement '..UptoSaid' is the law's where the arguments, and the package variables that the reading takes, are together of bulk at most 1048576: NARROWER than '..Said'. Prove '..Said' where nothing that the law and all that it calls make is longer than what came in: it says more and counts as full. Else prove '..UptoSaid'. A law counts once. -/
mutual
def uptoBulk {H : Type} : DataW H → Nat
  | .lit (.string bytes) => bytes.length + 1
  | .lit _ => 1
  | .nil => 1
  | .ptr d => uptoBulk d + 1
  | .slice elems spare => uptoBulkAll elems + uptoBulkAll spare + 1
  | .agg parts => uptoBulkAll parts + 1
  | .iface _ d => uptoBulk d + 1
  | .map entries => uptoBulkEntries entries + 1
  | .held _ => 1
def uptoBulkAll {H : Type} : List (DataW H) → Nat
  | [] => 0
  | d :: r => uptoBulk d + uptoBulkAll r
def uptoBulkEntries {H : Type} : List (Lit × DataW H) → Nat
  | [] => 0
  | x :: r => uptoBulkEntry x + uptoBulkEntries r
def uptoBulkEntry {H : Type} : Lit × DataW H → Nat
  | (.string bytes, d) => bytes.length + uptoBulk d + 1
  | (_, d) => uptoBulk d + 1
 end
def uptoSmall : (H : Type) → List (DataW H) → Bool := fun _ ds => decide (uptoBulkAll ds ≤ 1048576)
def OpenSpec.upto (s : _root_.Go.ChangeSpec) : _root_.Go.OpenSpec := { _root_.Go.OpenSpec.ofChange s with cond := some uptoSmall }

/-- 'lontarlaw10.VcanonAll', WHERE WHAT IT READS IS OF BULK AT MOST 1048576: true; the input reads as it did. -/
def vcanonAllUptoRow : OpenClaim := { program := "ytjolbdfkkhphiaadoor", sum := "502d2a96740f28d5a394b1048379e3bf945658baeef806ef4ccd7ec8d2890ffb", func := "lontar/lontarlaw10.VcanonAll", spec := "vcanonAll", unfollowed := true, recurses := true, named := ["lontar/viet.rows", "lontar/vcanon.signs"], apart := false, laid := [("lontar/viet.rows", laid_lontar_viet_rows), ("lontar/vcanon.signs", laid_lontar_vcanon_signs)], narrowed := true }
def VcanonAllUptoSaid : Prop := vcanonAllUptoRow.holds Tryd.pinned (OpenSpec.upto vcanonAllSpec)

/-- 'lontarlaw10.VcanonPut', WHERE WHAT IT READS IS OF BULK AT MOST 1048576: true; the input reads as it did. -/
def vcanonPutUptoRow : OpenClaim := { program := "ytjolbdfkkhphiaadoor", sum := "502d2a96740f28d5a394b1048379e3bf945658baeef806ef4ccd7ec8d2890ffb", func := "lontar/lontarlaw10.VcanonPut", spec := "vcanonPut", unfollowed := true, recurses := true, named := ["lontar/viet.rows", "lontar/vcanon.signs"], apart := false, laid := [("lontar/viet.rows", laid_lontar_viet_rows), ("lontar/vcanon.signs", laid_lontar_vcanon_signs)], narrowed := true }
def VcanonPutUptoSaid : Prop := vcanonPutUptoRow.holds Tryd.pinned (OpenSpec.upto vcanonPutSpec)

/-- 'lontarlaw10.VcanonTwice', WHERE WHAT IT READS IS OF BULK AT MOST 1048576: true; the input reads as it did. -/
def vcanonTwiceUptoRow : OpenClaim := { program := "ytjolbdfkkhphiaadoor", sum := "502d2a96740f28d5a394b1048379e3bf945658baeef806ef4ccd7ec8d2890ffb", func := "lontar/lontarlaw10.VcanonTwice", spec := "vcanonTwice", unfollowed := true, recurses := true, named := ["lontar/viet.rows", "lontar/vcanon.signs"], apart := false, laid := [("lontar/viet.rows", laid_lontar_viet_rows), ("lontar/vcanon.signs", laid_lontar_vcanon_signs)], narrowed := true }
def VcanonTwiceUptoSaid : Prop := vcanonTwiceUptoRow.holds Tryd.pinned (OpenSpec.upto vcanonTwiceSpec)

/-- 'lontarlaw10.VcanonApart', WHERE WHAT IT READS IS OF BULK AT MOST 1048576: true; the input reads as it did. -/
def vcanonApartUptoRow : OpenClaim := { program := "ytjolbdfkkhphiaadoor", sum := "502d2a96740f28d5a394b1048379e3bf945658baeef806ef4ccd7ec8d2890ffb", func := "lontar/lontarlaw10.VcanonApart", spec := "vcanonApart", unfollowed := true, recurses := true, named := ["lontar/viet.rows", "lontar/vcanon.signs"], apart := false, laid := [("lontar/viet.rows", laid_lontar_viet_rows), ("lontar/vcanon.signs", laid_lontar_vcanon_signs)], narrowed := true }
def VcanonApartUptoSaid : Prop := vcanonApartUptoRow.holds Tryd.pinned (OpenSpec.upto vcanonApartSpec)

/-- 'lontarlaw10.VcanonBack', WHERE WHAT IT READS IS OF BULK AT MOST 1048576: true; the input reads as it did. -/
def vcanonBackUptoRow : OpenClaim := { program := "ytjolbdfkkhphiaadoor", sum := "502d2a96740f28d5a394b1048379e3bf945658baeef806ef4ccd7ec8d2890ffb", func := "lontar/lontarlaw10.VcanonBack", spec := "vcanonBack", unfollowed := true, recurses := true, named := ["lontar/viet.rows", "lontar/vcanon.signs"], apart := false, laid := [("lontar/viet.rows", laid_lontar_viet_rows), ("lontar/vcanon.signs", laid_lontar_vcanon_signs)], narrowed := true }
def VcanonBackUptoSaid : Prop := vcanonBackUptoRow.holds Tryd.pinned (OpenSpec.upto vcanonBackSpec)

/-- 'lontarlaw10.VcanonOrder', WHERE WHAT IT READS IS OF BULK AT MOST 1048576: true; the input reads as it did. -/
def vcanonOrderUptoRow : OpenClaim := { program := "ytjolbdfkkhphiaadoor", sum := "502d2a96740f28d5a394b1048379e3bf945658baeef806ef4ccd7ec8d2890ffb", func := "lontar/lontarlaw10.VcanonOrder", spec := "vcanonOrder", unfollowed := true, recurses := true, named := ["lontar/viet.rows", "lontar/vcanon.signs"], apart := false, laid := [("lontar/viet.rows", laid_lontar_viet_rows), ("lontar/vcanon.signs", laid_lontar_vcanon_signs)], narrowed := true }
def VcanonOrderUptoSaid : Prop := vcanonOrderUptoRow.holds Tryd.pinned (OpenSpec.upto vcanonOrderSpec)

/-- 'lontarlaw10.VcanonParts', WHERE WHAT IT READS IS OF BULK AT MOST 1048576: true; the input reads as it did. -/
def vcanonPartsUptoRow : OpenClaim := { program := "ytjolbdfkkhphiaadoor", sum := "502d2a96740f28d5a394b1048379e3bf945658baeef806ef4ccd7ec8d2890ffb", func := "lontar/lontarlaw10.VcanonParts", spec := "vcanonParts", unfollowed := true, recurses := true, named := ["lontar/viet.rows", "lontar/vcanon.signs"], apart := false, laid := [("lontar/viet.rows", laid_lontar_viet_rows), ("lontar/vcanon.signs", laid_lontar_vcanon_signs)], narrowed := true }
def VcanonPartsUptoSaid : Prop := vcanonPartsUptoRow.holds Tryd.pinned (OpenSpec.upto vcanonPartsSpec)

end Rows
end Go.Proofs.YtjolbdfkkhphiaaDoor
