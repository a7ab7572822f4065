/-
  NARROWER THAN 'FOR EVERY INPUT', by the rows' own cells (each row's printed sentence says how): IndicPlace: laid · IndicOf: laid · IndicCode: laid · IndicRules: laid · IndicRight: laid · IndicScalar: laid · IndicNukta: laid.
  DERIVED. THE GIVEN ROWS OF THIS SEAT. 7 by the template 'for every input the law returns true; each argument reads behind the call as it read before'; 0 by the template 'total and deterministic' (their statements: YthgomhmalmmhlaaDoorTotals.lean).
  GIVEN WITH THE SEED: the statements are not yours to turn. If you find one false, say at which input.
  Laid BY PROGRAM, IN A SANDBOX (cutbox-rows.mjs): the forced cells as the released guide's own fill.sh prints them over the translation 890b24265a70786d… (all of the seat's roots in one cut). By AI agents, Wed Nov 11 2026. No macro, syntax, notation, axiom, sorry.
-/
import Derived.Test.YthgomhmalmmhlaaDoorChecked
import GoSem.Claim
import GoSem.ClaimJoined
import GoSem.ClaimMapViews
import Derived.JoinedTies
import Derived.KernelRfl
namespace Go.Proofs.YthgomhmalmmhlaaDoor
/- THE CELL 'sum', in the pinned program and in every row, IS THE sha256 OF THE DUMP (.gsa) THAT YthgomhmalmmhlaaDoorProg.lean LOADS. Nothing in Lean hashes anything: it is a label: what it is worth is what the hold of that sum in a sandbox is worth. -/
noncomputable def Tryd.pinned : Pinned := { name := "ythgomhmalmmhlaadoor", sum := "890b24265a70786d48ef56df8ec6cb16793c96d709c4893a683ba4886f20c6b9", checked := Tryd.checked }
namespace Rows
def none {H : Type} : Left H := { results := [], args := [] }

/- WHAT THE LISTED PACKAGE-LEVEL VARIABLES READ AS WHEN THE CALL BEGINS. Each datum BY PROGRAM (the guide's laid-datum.mjs) off the statement by which the dump's own 'gosem.cut.vars' lays the variable. In a bare row this is a premise. The card (YthgomhmalmmhlaaDoorCards.lean) ties it to the program's text. -/
def laid_lontar_indic_places {H : Type} : DataW H := .agg [.lit (.int .u8 1), .lit (.int .u8 2), .lit (.int .u8 3), .lit (.int .u8 5), .lit (.int .u8 6), .lit (.int .u8 7), .lit (.int .u8 8), .lit (.int .u8 9), .lit (.int .u8 10), .lit (.int .u8 11), .lit (.int .u8 14), .lit (.int .u8 15), .lit (.int .u8 16), .lit (.int .u8 13), .lit (.int .u8 18), .lit (.int .u8 19), .lit (.int .u8 20), .lit (.int .u8 17), .lit (.int .u8 21), .lit (.int .u8 22), .lit (.int .u8 23), .lit (.int .u8 24), .lit (.int .u8 25), .lit (.int .u8 26), .lit (.int .u8 27), .lit (.int .u8 28), .lit (.int .u8 29), .lit (.int .u8 30), .lit (.int .u8 31), .lit (.int .u8 32), .lit (.int .u8 33), .lit (.int .u8 34), .lit (.int .u8 35), .lit (.int .u8 36), .lit (.int .u8 37), .lit (.int .u8 38), .lit (.int .u8 39), .lit (.int .u8 40), .lit (.int .u8 41), .lit (.int .u8 42), .lit (.int .u8 43), .lit (.int .u8 44), .lit (.int .u8 45), .lit (.int .u8 46), .lit (.int .u8 47), .lit (.int .u8 95), .lit (.int .u8 48), .lit (.int .u8 49), .lit (.int .u8 50), .lit (.int .u8 51), .lit (.int .u8 52), .lit (.int .u8 53), .lit (.int .u8 54), .lit (.int .u8 55), .lit (.int .u8 56), .lit (.int .u8 57), .lit (.int .u8 0), .lit (.int .u8 62), .lit (.int .u8 63), .lit (.int .u8 64), .lit (.int .u8 65), .lit (.int .u8 66), .lit (.int .u8 67), .lit (.int .u8 70), .lit (.int .u8 71), .lit (.int .u8 72), .lit (.int .u8 69), .lit (.int .u8 74), .lit (.int .u8 75), .lit (.int .u8 76), .lit (.int .u8 73), .lit (.int .u8 77), .lit (.int .u8 60), .lit (.int .u8 0), .lit (.int .u8 0), .lit (.int .u8 0), .lit (.int .u8 0), .lit (.int .u8 0), .lit (.int .u8 0), .lit (.int .u8 0), .lit (.int .u8 102), .lit (.int .u8 103), .lit (.int .u8 104), .lit (.int .u8 105), .lit (.int .u8 106), .lit (.int .u8 107), .lit (.int .u8 108), .lit (.int .u8 109), .lit (.int .u8 110), .lit (.int .u8 111)]
def laid_lontar_indic_codes {H : Type} : DataW H := .agg [.lit (.int .u8 66), .lit (.int .u8 67), .lit (.int .u8 75), .lit (.int .u8 74), .lit (.int .u8 71), .lit (.int .u8 68), .lit (.int .u8 69), .lit (.int .u8 72), .lit (.int .u8 73)]

/-- 'lontarlaw14.IndicPlace': WHATEVER THE INPUT: true; the input reads as it did. -/
def indicPlaceSpec : ChangeSpec := { name := "indicPlace", fn := fun _ => fun
  | [d] => { results := [.lit (.bool true)], args := [d] }
  | _ => none }
def indicPlaceRow : OpenClaim := { program := "ythgomhmalmmhlaadoor", sum := "890b24265a70786d48ef56df8ec6cb16793c96d709c4893a683ba4886f20c6b9", func := "lontar/lontarlaw14.IndicPlace", spec := "indicPlace", named := ["lontar/indic.places", "lontar/indic.codes"], apart := false, laid := [("lontar/indic.places", laid_lontar_indic_places), ("lontar/indic.codes", laid_lontar_indic_codes)] }
def IndicPlaceSaid : Prop := indicPlaceRow.holds Tryd.pinned (OpenSpec.ofChange indicPlaceSpec)

/-- ITS FALSE NEIGHBOUR: 'it returns false'. Refute it at one input. -/
def indicPlaceWrong : ChangeSpec := { name := "indicPlace", fn := fun _ => fun
  | [d] => { results := [.lit (.bool false)], args := [d] }
  | _ => none }
def IndicPlaceWrongFalsely : Prop := indicPlaceRow.holds Tryd.pinned (OpenSpec.ofChange indicPlaceWrong)

/-- 'lontarlaw14.IndicOf': WHATEVER THE INPUT: true; the input reads as it did. -/
def indicOfSpec : ChangeSpec := { name := "indicOf", fn := fun _ => fun
  | [d1, d2] => { results := [.lit (.bool true)], args := [d1, d2] }
  | _ => none }
def indicOfRow : OpenClaim := { program := "ythgomhmalmmhlaadoor", sum := "890b24265a70786d48ef56df8ec6cb16793c96d709c4893a683ba4886f20c6b9", func := "lontar/lontarlaw14.IndicOf", spec := "indicOf", named := ["lontar/indic.places", "lontar/indic.codes"], apart := false, laid := [("lontar/indic.places", laid_lontar_indic_places), ("lontar/indic.codes", laid_lontar_indic_codes)] }
def IndicOfSaid : Prop := indicOfRow.holds Tryd.pinned (OpenSpec.ofChange indicOfSpec)

/-- ITS FALSE NEIGHBOUR: 'it returns false'. Refute it at one input. -/
def indicOfWrong : ChangeSpec := { name := "indicOf", fn := fun _ => fun
  | [d1, d2] => { results := [.lit (.bool false)], args := [d1, d2] }
  | _ => none }
def IndicOfWrongFalsely : Prop := indicOfRow.holds Tryd.pinned (OpenSpec.ofChange indicOfWrong)

/-- 'lontarlaw14.IndicCode': WHATEVER THE INPUT: true; the input reads as it did. -/
def indicCodeSpec : ChangeSpec := { name := "indicCode", fn := fun _ => fun
  | [d1, d2] => { results := [.lit (.bool true)], args := [d1, d2] }
  | _ => none }
def indicCodeRow : OpenClaim := { program := "ythgomhmalmmhlaadoor", sum := "890b24265a70786d48ef56df8ec6cb16793c96d709c4893a683ba4886f20c6b9", func := "lontar/lontarlaw14.IndicCode", spec := "indicCode", named := ["lontar/indic.places", "lontar/indic.codes"], apart := false, laid := [("lontar/indic.places", laid_lontar_indic_places), ("lontar/indic.codes", laid_lontar_indic_codes)] }
def IndicCodeSaid : Prop := indicCodeRow.holds Tryd.pinned (OpenSpec.ofChange indicCodeSpec)

/-- ITS FALSE NEIGHBOUR: 'it returns false'. Refute it at one input. -/
def indicCodeWrong : ChangeSpec := { name := "indicCode", fn := fun _ => fun
  | [d1, d2] => { results := [.lit (.bool false)], args := [d1, d2] }
  | _ => none }
def IndicCodeWrongFalsely : Prop := indicCodeRow.holds Tryd.pinned (OpenSpec.ofChange indicCodeWrong)

/-- 'lontarlaw14.IndicRules': WHATEVER THE INPUT: true; the input reads as it did. -/
def indicRulesSpec : ChangeSpec := { name := "indicRules", fn := fun _ => fun
  | [d] => { results := [.lit (.bool true)], args := [d] }
  | _ => none }
def indicRulesRow : OpenClaim := { program := "ythgomhmalmmhlaadoor", sum := "890b24265a70786d48ef56df8ec6cb16793c96d709c4893a683ba4886f20c6b9", func := "lontar/lontarlaw14.IndicRules", spec := "indicRules", unfollowed := true, recurses := true, named := ["lontar/indic.places", "lontar/indic.codes"], apart := false, laid := [("lontar/indic.places", laid_lontar_indic_places), ("lontar/indic.codes", laid_lontar_indic_codes)] }
def IndicRulesSaid : Prop := indicRulesRow.holds Tryd.pinned (OpenSpec.ofChange indicRulesSpec)

/-- ITS FALSE NEIGHBOUR: 'it returns false'. Refute it at one input. -/
def indicRulesWrong : ChangeSpec := { name := "indicRules", fn := fun _ => fun
  | [d] => { results := [.lit (.bool false)], args := [d] }
  | _ => none }
def IndicRulesWrongFalsely : Prop := indicRulesRow.holds Tryd.pinned (OpenSpec.ofChange indicRulesWrong)

/-- 'lontarlaw14.IndicRight': WHATEVER THE INPUT: true; the input reads as it did. -/
def indicRightSpec : ChangeSpec := { name := "indicRight", fn := fun _ => fun
  | [d1, d2] => { results := [.lit (.bool true)], args := [d1, d2] }
  | _ => none }
def indicRightRow : OpenClaim := { program := "ythgomhmalmmhlaadoor", sum := "890b24265a70786d48ef56df8ec6cb16793c96d709c4893a683ba4886f20c6b9", func := "lontar/lontarlaw14.IndicRight", spec := "indicRight", named := ["lontar/indic.places", "lontar/indic.codes"], apart := false, laid := [("lontar/indic.places", laid_lontar_indic_places), ("lontar/indic.codes", laid_lontar_indic_codes)] }
def IndicRightSaid : Prop := indicRightRow.holds Tryd.pinned (OpenSpec.ofChange indicRightSpec)

/-- ITS FALSE NEIGHBOUR: 'it returns false'. Refute it at one input. -/
def indicRightWrong : ChangeSpec := { name := "indicRight", fn := fun _ => fun
  | [d1, d2] => { results := [.lit (.bool false)], args := [d1, d2] }
  | _ => none }
def IndicRightWrongFalsely : Prop := indicRightRow.holds Tryd.pinned (OpenSpec.ofChange indicRightWrong)

/-- 'lontarlaw14.IndicScalar': WHATEVER THE INPUT: true; the input reads as it did. -/
def indicScalarSpec : ChangeSpec := { name := "indicScalar", fn := fun _ => fun
  | [d1, d2, d3] => { results := [.lit (.bool true)], args := [d1, d2, d3] }
  | _ => none }
def indicScalarRow : OpenClaim := { program := "ythgomhmalmmhlaadoor", sum := "890b24265a70786d48ef56df8ec6cb16793c96d709c4893a683ba4886f20c6b9", func := "lontar/lontarlaw14.IndicScalar", spec := "indicScalar", named := ["lontar/indic.places", "lontar/indic.codes"], apart := false, laid := [("lontar/indic.places", laid_lontar_indic_places), ("lontar/indic.codes", laid_lontar_indic_codes)] }
def IndicScalarSaid : Prop := indicScalarRow.holds Tryd.pinned (OpenSpec.ofChange indicScalarSpec)

/-- ITS FALSE NEIGHBOUR: 'it returns false'. Refute it at one input. -/
def indicScalarWrong : ChangeSpec := { name := "indicScalar", fn := fun _ => fun
  | [d1, d2, d3] => { results := [.lit (.bool false)], args := [d1, d2, d3] }
  | _ => none }
def IndicScalarWrongFalsely : Prop := indicScalarRow.holds Tryd.pinned (OpenSpec.ofChange indicScalarWrong)

/-- 'lontarlaw14.IndicNukta': WHATEVER THE INPUT: true; the input reads as it did. -/
def indicNuktaSpec : ChangeSpec := { name := "indicNukta", fn := fun _ => fun
  | [d] => { results := [.lit (.bool true)], args := [d] }
  | _ => none }
def indicNuktaRow : OpenClaim := { program := "ythgomhmalmmhlaadoor", sum := "890b24265a70786d48ef56df8ec6cb16793c96d709c4893a683ba4886f20c6b9", func := "lontar/lontarlaw14.IndicNukta", spec := "indicNukta", named := ["lontar/indic.places", "lontar/indic.codes"], apart := false, laid := [("lontar/indic.places", laid_lontar_indic_places), ("lontar/indic.codes", laid_lontar_indic_codes)] }
def IndicNuktaSaid : Prop := indicNuktaRow.holds Tryd.pinned (OpenSpec.ofChange indicNuktaSpec)

/-- ITS FALSE NEIGHBOUR: 'it returns false'. Refute it at one input. -/
def indicNuktaWrong : ChangeSpec := { name := "indicNukta", fn := fun _ => fun
  | [d] => { results := [.lit (.bool false)], args := [d] }
  | _ => none }
def IndicNuktaWrongFalsely : Prop := indicNuktaRow.holds Tryd.pinned (OpenSpec.ofChange indicNuktaWrong)

/- THE SECOND FORM. 'bulk': how many values and letters a reading holds, each counted each time it is reached (what is shared counts as often as it is met; a slice's spare places count too). A statement '..UptoSaid' is the law's where the arguments, and the package variables that the reading takes, are together of bulk at most 1048576: NARROWER than '..Said'. Prove '..Said' where nothing that the law and all that it calls make is longer than what came in: it says more and counts as full. Else prove '..UptoSaid'. A law counts once. -/
mutual
def uptoBulk {H : Type} : DataW H → Nat
  | .lit (.string bytes) => bytes.length + 1
  | .lit _ => 1
  | .nil => 1
  | .ptr d => uptoBulk d + 1
  | .slice elems spare => uptoBulkAll elems + uptoBulkAll spare + 1
  | .agg parts => uptoBulkAll parts + 1
  | .iface _ d => uptoBulk d + 1
  | .map entries => uptoBulkEntries entries + 1
  | .held _ => 1
def uptoBulkAll {H : Type} : List (DataW H) → Nat
  | [] => 0
  | d :: r => uptoBulk d + uptoBulkAll r
def uptoBulkEntries {H : Type} : List (Lit × DataW H) → Nat
  | [] => 0
  | x :: r => uptoBulkEntry x + uptoBulkEntries r
def uptoBulkEntry {H : Type} : Lit × DataW H → Nat
  | (.string bytes, d) => bytes.length + uptoBulk d + 1
  | (_, d) => uptoBulk d + 1
 end
def uptoSmall : (H : Type) → List (DataW H) → Bool := fun _ ds => decide (uptoBulkAll ds ≤ 1048576)
def OpenSpec.upto (s : _root_.Go.ChangeSpec) : _root_.Go.OpenSpec := { _root_.Go.OpenSpec.ofChange s with cond := some uptoSmall }

/-- 'lontarlaw14.IndicPlace', WHERE WHAT IT READS IS OF BULK AT MOST 1048576: true; the input reads as it did. -/
def indicPlaceUptoRow : OpenClaim := { program := "ythgomhmalmmhlaadoor", sum := "890b24265a70786d48ef56df8ec6cb16793c96d709c4893a683ba4886f20c6b9", func := "lontar/lontarlaw14.IndicPlace", spec := "indicPlace", named := ["lontar/indic.places", "lontar/indic.codes"], apart := false, laid := [("lontar/indic.places", laid_lontar_indic_places), ("lontar/indic.codes", laid_lontar_indic_codes)], narrowed := true }
def IndicPlaceUptoSaid : Prop := indicPlaceUptoRow.holds Tryd.pinned (OpenSpec.upto indicPlaceSpec)

/-- 'lontarlaw14.IndicOf', WHERE WHAT IT READS IS OF BULK AT MOST 1048576: true; the input reads as it did. -/
def indicOfUptoRow : OpenClaim := { program := "ythgomhmalmmhlaadoor", sum := "890b24265a70786d48ef56df8ec6cb16793c96d709c4893a683ba4886f20c6b9", func := "lontar/lontarlaw14.IndicOf", spec := "indicOf", named := ["lontar/indic.places", "lontar/indic.codes"], apart := false, laid := [("lontar/indic.places", laid_lontar_indic_places), ("lontar/indic.codes", laid_lontar_indic_codes)], narrowed := true }
def IndicOfUptoSaid : Prop := indicOfUptoRow.holds Tryd.pinned (OpenSpec.upto indicOfSpec)

/-- 'lontarlaw14.IndicCode', WHERE WHAT IT READS IS OF BULK AT MOST 1048576: true; the input reads as it did. -/
def indicCodeUptoRow : OpenClaim := { program := "ythgomhmalmmhlaadoor", sum := "890b24265a70786d48ef56df8ec6cb16793c96d709c4893a683ba4886f20c6b9", func := "lontar/lontarlaw14.IndicCode", spec := "indicCode", named := ["lontar/indic.places", "lontar/indic.codes"], apart := false, laid := [("lontar/indic.places", laid_lontar_indic_places), ("lontar/indic.codes", laid_lontar_indic_codes)], narrowed := true }
def IndicCodeUptoSaid : Prop := indicCodeUptoRow.holds Tryd.pinned (OpenSpec.upto indicCodeSpec)

/-- 'lontarlaw14.IndicRules', WHERE WHAT IT READS IS OF BULK AT MOST 1048576: true; the input reads as it did. -/
def indicRulesUptoRow : OpenClaim := { program := "ythgomhmalmmhlaadoor", sum := "890b24265a70786d48ef56df8ec6cb16793c96d709c4893a683ba4886f20c6b9", func := "lontar/lontarlaw14.IndicRules", spec := "indicRules", unfollowed := true, recurses := true, named := ["lontar/indic.places", "lontar/indic.codes"], apart := false, laid := [("lontar/indic.places", laid_lontar_indic_places), ("lontar/indic.codes", laid_lontar_indic_codes)], narrowed := true }
def IndicRulesUptoSaid : Prop := indicRulesUptoRow.holds Tryd.pinned (OpenSpec.upto indicRulesSpec)

/-- 'lontarlaw14.IndicRight', WHERE WHAT IT READS IS OF BULK AT MOST 1048576: true; the input reads as it did. -/
def indicRightUptoRow : OpenClaim := { program := "ythgomhmalmmhlaadoor", sum := "890b24265a70786d48ef56df8ec6cb16793c96d709c4893a683ba4886f20c6b9", func := "lontar/lontarlaw14.IndicRight", spec := "indicRight", named := ["lontar/indic.places", "lontar/indic.codes"], apart := false, laid := [("lontar/indic.places", laid_lontar_indic_places), ("lontar/indic.codes", laid_lontar_indic_codes)], narrowed := true }
def IndicRightUptoSaid : Prop := indicRightUptoRow.holds Tryd.pinned (OpenSpec.upto indicRightSpec)

/-- 'lontarlaw14.IndicScalar', WHERE WHAT IT READS IS OF BULK AT MOST 1048576: true; the input reads as it did. -/
def indicScalarUptoRow : OpenClaim := { program := "ythgomhmalmmhlaadoor", sum := "890b24265a70786d48ef56df8ec6cb16793c96d709c4893a683ba4886f20c6b9", func := "lontar/lontarlaw14.IndicScalar", spec := "indicScalar", named := ["lontar/indic.places", "lontar/indic.codes"], apart := false, laid := [("lontar/indic.places", laid_lontar_indic_places), ("lontar/indic.codes", laid_lontar_indic_codes)], narrowed := true }
def IndicScalarUptoSaid : Prop := indicScalarUptoRow.holds Tryd.pinned (OpenSpec.upto indicScalarSpec)

/-- 'lontarlaw14.IndicNukta', WHERE WHAT IT READS IS OF BULK AT MOST 1048576: true; the input reads as it did. -/
def indicNuktaUptoRow : OpenClaim := { program := "ythgomhmalmmhlaadoor", sum := "890b24265a70786d48ef56df8ec6cb16793c96d709c4893a683ba4886f20c6b9", func := "lontar/lontarlaw14.IndicNukta", spec := "indicNukta", named := ["lontar/indic.places", "lontar/indic.codes"], apart := false, laid := [("lontar/indic.places", laid_lontar_indic_places), ("lontar/indic.codes", laid_lontar_indic_codes)], narrowed := true }
def IndicNuktaUptoSaid : Prop := indicNuktaUptoRow.holds Tryd.pinned (OpenSpec.upto indicNuktaSpec)

end Rows
end Go.Proofs.YthgomhmalmmhlaaDoor
