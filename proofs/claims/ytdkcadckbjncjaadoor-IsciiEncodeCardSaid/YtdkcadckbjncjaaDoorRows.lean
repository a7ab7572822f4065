/-
  NARROWER THAN 'FOR EVERY INPUT', by the rows' own cells (each row's printed sentence says how): IsciiDecode: laid · IsciiEncode: laid · IsciiBack: laid · IsciiSwitch: laid · IsciiHeld: laid · IsciiScripts: laid.
  DERIVED. THE GIVEN ROWS OF THIS SEAT. 6 by the template 'for every input the law returns true; each argument reads behind the call as it read before'; 0 by the template 'total and deterministic' (their statements: YtdkcadckbjncjaaDoorTotals.lean).
  GIVEN WITH THE SEED: the statements are not yours to turn. If you find one false, say at which input.
  Laid BY PROGRAM, IN A SANDBOX (cutbox-rows.mjs): the forced cells as the released guide's own fill.sh prints them over the translation eaa5f3d77534f345… (all of the seat's roots in one cut). By AI agents, Wed Nov 11 2026. No macro, syntax, notation, axiom, sorry.
-/
import Derived.Test.YtdkcadckbjncjaaDoorChecked
import GoSem.Claim
import GoSem.ClaimJoined
import GoSem.ClaimMapViews
import Derived.JoinedTies
import Derived.KernelRfl
namespace Go.Proofs.YtdkcadckbjncjaaDoor
/- THE CELL 'sum', in the pinned program and in every row, IS THE sha256 OF THE DUMP (.gsa) THAT YtdkcadckbjncjaaDoorProg.lean LOADS. Nothing in Lean hashes anything: it is a label: what it is worth is what the hold of that sum in a sandbox is worth. -/
noncomputable def Tryd.pinned : Pinned := { name := "ytdkcadckbjncjaadoor", sum := "eaa5f3d77534f345273b83198b1d87276840a7c8b1548016461172b82d94b0cb", checked := Tryd.checked }
namespace Rows
def none {H : Type} : Left H := { results := [], args := [] }

/- WHAT THE LISTED PACKAGE-LEVEL VARIABLES READ AS WHEN THE CALL BEGINS. Each datum BY PROGRAM (the guide's laid-datum.mjs) off the statement by which the dump's own 'gosem.cut.vars' lays the variable. In a bare row this is a premise. The card (YtdkcadckbjncjaaDoorCards.lean) ties it to the program's text. -/
def laid_lontar_indic_places {H : Type} : DataW H := .agg [.lit (.int .u8 1), .lit (.int .u8 2), .lit (.int .u8 3), .lit (.int .u8 5), .lit (.int .u8 6), .lit (.int .u8 7), .lit (.int .u8 8), .lit (.int .u8 9), .lit (.int .u8 10), .lit (.int .u8 11), .lit (.int .u8 14), .lit (.int .u8 15), .lit (.int .u8 16), .lit (.int .u8 13), .lit (.int .u8 18), .lit (.int .u8 19), .lit (.int .u8 20), .lit (.int .u8 17), .lit (.int .u8 21), .lit (.int .u8 22), .lit (.int .u8 23), .lit (.int .u8 24), .lit (.int .u8 25), .lit (.int .u8 26), .lit (.int .u8 27), .lit (.int .u8 28), .lit (.int .u8 29), .lit (.int .u8 30), .lit (.int .u8 31), .lit (.int .u8 32), .lit (.int .u8 33), .lit (.int .u8 34), .lit (.int .u8 35), .lit (.int .u8 36), .lit (.int .u8 37), .lit (.int .u8 38), .lit (.int .u8 39), .lit (.int .u8 40), .lit (.int .u8 41), .lit (.int .u8 42), .lit (.int .u8 43), .lit (.int .u8 44), .lit (.int .u8 45), .lit (.int .u8 46), .lit (.int .u8 47), .lit (.int .u8 95), .lit (.int .u8 48), .lit (.int .u8 49), .lit (.int .u8 50), .lit (.int .u8 51), .lit (.int .u8 52), .lit (.int .u8 53), .lit (.int .u8 54), .lit (.int .u8 55), .lit (.int .u8 56), .lit (.int .u8 57), .lit (.int .u8 0), .lit (.int .u8 62), .lit (.int .u8 63), .lit (.int .u8 64), .lit (.int .u8 65), .lit (.int .u8 66), .lit (.int .u8 67), .lit (.int .u8 70), .lit (.int .u8 71), .lit (.int .u8 72), .lit (.int .u8 69), .lit (.int .u8 74), .lit (.int .u8 75), .lit (.int .u8 76), .lit (.int .u8 73), .lit (.int .u8 77), .lit (.int .u8 60), .lit (.int .u8 0), .lit (.int .u8 0), .lit (.int .u8 0), .lit (.int .u8 0), .lit (.int .u8 0), .lit (.int .u8 0), .lit (.int .u8 0), .lit (.int .u8 102), .lit (.int .u8 103), .lit (.int .u8 104), .lit (.int .u8 105), .lit (.int .u8 106), .lit (.int .u8 107), .lit (.int .u8 108), .lit (.int .u8 109), .lit (.int .u8 110), .lit (.int .u8 111)]
def laid_lontar_indic_codes {H : Type} : DataW H := .agg [.lit (.int .u8 66), .lit (.int .u8 67), .lit (.int .u8 75), .lit (.int .u8 74), .lit (.int .u8 71), .lit (.int .u8 68), .lit (.int .u8 69), .lit (.int .u8 72), .lit (.int .u8 73)]

/-- 'lontarlaw18.IsciiDecode': WHATEVER THE INPUT: true; the input reads as it did. -/
def isciiDecodeSpec : ChangeSpec := { name := "isciiDecode", fn := fun _ => fun
  | [d1, d2] => { results := [.lit (.bool true)], args := [d1, d2] }
  | _ => none }
def isciiDecodeRow : OpenClaim := { program := "ytdkcadckbjncjaadoor", sum := "eaa5f3d77534f345273b83198b1d87276840a7c8b1548016461172b82d94b0cb", func := "lontar/lontarlaw18.IsciiDecode", spec := "isciiDecode", inPlace := ["slices.overlaps[int]"], unfollowed := true, recurses := true, named := ["lontar/indic.places", "lontar/indic.codes"], apart := false, laid := [("lontar/indic.places", laid_lontar_indic_places), ("lontar/indic.codes", laid_lontar_indic_codes)] }
def IsciiDecodeSaid : Prop := isciiDecodeRow.holds Tryd.pinned (OpenSpec.ofChange isciiDecodeSpec)

/-- ITS FALSE NEIGHBOUR: 'it returns false'. Refute it at one input. -/
def isciiDecodeWrong : ChangeSpec := { name := "isciiDecode", fn := fun _ => fun
  | [d1, d2] => { results := [.lit (.bool false)], args := [d1, d2] }
  | _ => none }
def IsciiDecodeWrongFalsely : Prop := isciiDecodeRow.holds Tryd.pinned (OpenSpec.ofChange isciiDecodeWrong)

/-- 'lontarlaw18.IsciiEncode': WHATEVER THE INPUT: true; the input reads as it did. -/
def isciiEncodeSpec : ChangeSpec := { name := "isciiEncode", fn := fun _ => fun
  | [d1, d2] => { results := [.lit (.bool true)], args := [d1, d2] }
  | _ => none }
def isciiEncodeRow : OpenClaim := { program := "ytdkcadckbjncjaadoor", sum := "eaa5f3d77534f345273b83198b1d87276840a7c8b1548016461172b82d94b0cb", func := "lontar/lontarlaw18.IsciiEncode", spec := "isciiEncode", inPlace := ["slices.overlaps[int]"], unfollowed := true, recurses := true, named := ["lontar/indic.places", "lontar/indic.codes"], apart := false, laid := [("lontar/indic.places", laid_lontar_indic_places), ("lontar/indic.codes", laid_lontar_indic_codes)] }
def IsciiEncodeSaid : Prop := isciiEncodeRow.holds Tryd.pinned (OpenSpec.ofChange isciiEncodeSpec)

/-- ITS FALSE NEIGHBOUR: 'it returns false'. Refute it at one input. -/
def isciiEncodeWrong : ChangeSpec := { name := "isciiEncode", fn := fun _ => fun
  | [d1, d2] => { results := [.lit (.bool false)], args := [d1, d2] }
  | _ => none }
def IsciiEncodeWrongFalsely : Prop := isciiEncodeRow.holds Tryd.pinned (OpenSpec.ofChange isciiEncodeWrong)

/-- 'lontarlaw18.IsciiBack': WHATEVER THE INPUT: true; the input reads as it did. -/
def isciiBackSpec : ChangeSpec := { name := "isciiBack", fn := fun _ => fun
  | [d] => { results := [.lit (.bool true)], args := [d] }
  | _ => none }
def isciiBackRow : OpenClaim := { program := "ytdkcadckbjncjaadoor", sum := "eaa5f3d77534f345273b83198b1d87276840a7c8b1548016461172b82d94b0cb", func := "lontar/lontarlaw18.IsciiBack", spec := "isciiBack", inPlace := ["slices.overlaps[int]"], unfollowed := true, recurses := true, named := ["lontar/indic.places", "lontar/indic.codes"], apart := false, laid := [("lontar/indic.places", laid_lontar_indic_places), ("lontar/indic.codes", laid_lontar_indic_codes)] }
def IsciiBackSaid : Prop := isciiBackRow.holds Tryd.pinned (OpenSpec.ofChange isciiBackSpec)

/-- ITS FALSE NEIGHBOUR: 'it returns false'. Refute it at one input. -/
def isciiBackWrong : ChangeSpec := { name := "isciiBack", fn := fun _ => fun
  | [d] => { results := [.lit (.bool false)], args := [d] }
  | _ => none }
def IsciiBackWrongFalsely : Prop := isciiBackRow.holds Tryd.pinned (OpenSpec.ofChange isciiBackWrong)

/-- 'lontarlaw18.IsciiSwitch': WHATEVER THE INPUT: true; the input reads as it did. -/
def isciiSwitchSpec : ChangeSpec := { name := "isciiSwitch", fn := fun _ => fun
  | [d] => { results := [.lit (.bool true)], args := [d] }
  | _ => none }
def isciiSwitchRow : OpenClaim := { program := "ytdkcadckbjncjaadoor", sum := "eaa5f3d77534f345273b83198b1d87276840a7c8b1548016461172b82d94b0cb", func := "lontar/lontarlaw18.IsciiSwitch", spec := "isciiSwitch", inPlace := ["slices.overlaps[int]"], unfollowed := true, recurses := true, named := ["lontar/indic.places", "lontar/indic.codes"], apart := false, laid := [("lontar/indic.places", laid_lontar_indic_places), ("lontar/indic.codes", laid_lontar_indic_codes)] }
def IsciiSwitchSaid : Prop := isciiSwitchRow.holds Tryd.pinned (OpenSpec.ofChange isciiSwitchSpec)

/-- ITS FALSE NEIGHBOUR: 'it returns false'. Refute it at one input. -/
def isciiSwitchWrong : ChangeSpec := { name := "isciiSwitch", fn := fun _ => fun
  | [d] => { results := [.lit (.bool false)], args := [d] }
  | _ => none }
def IsciiSwitchWrongFalsely : Prop := isciiSwitchRow.holds Tryd.pinned (OpenSpec.ofChange isciiSwitchWrong)

/-- 'lontarlaw18.IsciiHeld': WHATEVER THE INPUT: true; the input reads as it did. -/
def isciiHeldSpec : ChangeSpec := { name := "isciiHeld", fn := fun _ => fun
  | [d] => { results := [.lit (.bool true)], args := [d] }
  | _ => none }
def isciiHeldRow : OpenClaim := { program := "ytdkcadckbjncjaadoor", sum := "eaa5f3d77534f345273b83198b1d87276840a7c8b1548016461172b82d94b0cb", func := "lontar/lontarlaw18.IsciiHeld", spec := "isciiHeld", inPlace := ["slices.overlaps[int]"], unfollowed := true, recurses := true, named := ["lontar/indic.places", "lontar/indic.codes"], apart := false, laid := [("lontar/indic.places", laid_lontar_indic_places), ("lontar/indic.codes", laid_lontar_indic_codes)] }
def IsciiHeldSaid : Prop := isciiHeldRow.holds Tryd.pinned (OpenSpec.ofChange isciiHeldSpec)

/-- ITS FALSE NEIGHBOUR: 'it returns false'. Refute it at one input. -/
def isciiHeldWrong : ChangeSpec := { name := "isciiHeld", fn := fun _ => fun
  | [d] => { results := [.lit (.bool false)], args := [d] }
  | _ => none }
def IsciiHeldWrongFalsely : Prop := isciiHeldRow.holds Tryd.pinned (OpenSpec.ofChange isciiHeldWrong)

/-- 'lontarlaw18.IsciiScripts': WHATEVER THE INPUT: true; the input reads as it did. -/
def isciiScriptsSpec : ChangeSpec := { name := "isciiScripts", fn := fun _ => fun
  | [d1, d2] => { results := [.lit (.bool true)], args := [d1, d2] }
  | _ => none }
def isciiScriptsRow : OpenClaim := { program := "ytdkcadckbjncjaadoor", sum := "eaa5f3d77534f345273b83198b1d87276840a7c8b1548016461172b82d94b0cb", func := "lontar/lontarlaw18.IsciiScripts", spec := "isciiScripts", inPlace := ["slices.overlaps[int]"], unfollowed := true, recurses := true, named := ["lontar/indic.places", "lontar/indic.codes"], apart := false, laid := [("lontar/indic.places", laid_lontar_indic_places), ("lontar/indic.codes", laid_lontar_indic_codes)] }
def IsciiScriptsSaid : Prop := isciiScriptsRow.holds Tryd.pinned (OpenSpec.ofChange isciiScriptsSpec)

/-- ITS FALSE NEIGHBOUR: 'it returns false'. Refute it at one input. -/
def isciiScriptsWrong : ChangeSpec := { name := "isciiScripts", fn := fun _ => fun
  | [d1, d2] => { results := [.lit (.bool false)], args := [d1, d2] }
  | _ => none }
def IsciiScriptsWrongFalsely : Prop := isciiScriptsRow.holds Tryd.pinned (OpenSpec.ofChange isciiScriptsWrong)

/- THE SECOND FORM. 'bulk': how many values and letters a reading holds, each counted each time it is reached (what is shared counts as often as it is met; a slice's spare places count too). A statement '..UptoSaid' is the law's where the arguments, and the package variables that the reading takes, are together of bulk at most 1048576: NARROWER than '..Said'. Prove '..Said' where nothing that the law and all that it calls make is longer than what came in: it says more and counts as full. Else prove '..UptoSaid'. A law counts once. -/
mutual
def uptoBulk {H : Type} : DataW H → Nat
  | .lit (.string bytes) => bytes.length + 1
  | .lit _ => 1
  | .nil => 1
  | .ptr d => uptoBulk d + 1
  | .slice elems spare => uptoBulkAll elems + uptoBulkAll spare + 1
  | .agg parts => uptoBulkAll parts + 1
  | .iface _ d => uptoBulk d + 1
  | .map entries => uptoBulkEntries entries + 1
  | .held _ => 1
def uptoBulkAll {H : Type} : List (DataW H) → Nat
  | [] => 0
  | d :: r => uptoBulk d + uptoBulkAll r
def uptoBulkEntries {H : Type} : List (Lit × DataW H) → Nat
  | [] => 0
  | x :: r => uptoBulkEntry x + uptoBulkEntries r
def uptoBulkEntry {H : Type} : Lit × DataW H → Nat
  | (.string bytes, d) => bytes.length + uptoBulk d + 1
  | (_, d) => uptoBulk d + 1
 end
def uptoSmall : (H : Type) → List (DataW H) → Bool := fun _ ds => decide (uptoBulkAll ds ≤ 1048576)
def OpenSpec.upto (s : _root_.Go.ChangeSpec) : _root_.Go.OpenSpec := { _root_.Go.OpenSpec.ofChange s with cond := some uptoSmall }

/-- 'lontarlaw18.IsciiDecode', WHERE WHAT IT READS IS OF BULK AT MOST 1048576: true; the input reads as it did. -/
def isciiDecodeUptoRow : OpenClaim := { program := "ytdkcadckbjncjaadoor", sum := "eaa5f3d77534f345273b83198b1d87276840a7c8b1548016461172b82d94b0cb", func := "lontar/lontarlaw18.IsciiDecode", spec := "isciiDecode", inPlace := ["slices.overlaps[int]"], unfollowed := true, recurses := true, named := ["lontar/indic.places", "lontar/indic.codes"], apart := false, laid := [("lontar/indic.places", laid_lontar_indic_places), ("lontar/indic.codes", laid_lontar_indic_codes)], narrowed := true }
def IsciiDecodeUptoSaid : Prop := isciiDecodeUptoRow.holds Tryd.pinned (OpenSpec.upto isciiDecodeSpec)

/-- 'lontarlaw18.IsciiEncode', WHERE WHAT IT READS IS OF BULK AT MOST 1048576: true; the input reads as it did. -/
def isciiEncodeUptoRow : OpenClaim := { program := "ytdkcadckbjncjaadoor", sum := "eaa5f3d77534f345273b83198b1d87276840a7c8b1548016461172b82d94b0cb", func := "lontar/lontarlaw18.IsciiEncode", spec := "isciiEncode", inPlace := ["slices.overlaps[int]"], unfollowed := true, recurses := true, named := ["lontar/indic.places", "lontar/indic.codes"], apart := false, laid := [("lontar/indic.places", laid_lontar_indic_places), ("lontar/indic.codes", laid_lontar_indic_codes)], narrowed := true }
def IsciiEncodeUptoSaid : Prop := isciiEncodeUptoRow.holds Tryd.pinned (OpenSpec.upto isciiEncodeSpec)

/-- 'lontarlaw18.IsciiBack', WHERE WHAT IT READS IS OF BULK AT MOST 1048576: true; the input reads as it did. -/
def isciiBackUptoRow : OpenClaim := { program := "ytdkcadckbjncjaadoor", sum := "eaa5f3d77534f345273b83198b1d87276840a7c8b1548016461172b82d94b0cb", func := "lontar/lontarlaw18.IsciiBack", spec := "isciiBack", inPlace := ["slices.overlaps[int]"], unfollowed := true, recurses := true, named := ["lontar/indic.places", "lontar/indic.codes"], apart := false, laid := [("lontar/indic.places", laid_lontar_indic_places), ("lontar/indic.codes", laid_lontar_indic_codes)], narrowed := true }
def IsciiBackUptoSaid : Prop := isciiBackUptoRow.holds Tryd.pinned (OpenSpec.upto isciiBackSpec)

/-- 'lontarlaw18.IsciiSwitch', WHERE WHAT IT READS IS OF BULK AT MOST 1048576: true; the input reads as it did. -/
def isciiSwitchUptoRow : OpenClaim := { program := "ytdkcadckbjncjaadoor", sum := "eaa5f3d77534f345273b83198b1d87276840a7c8b1548016461172b82d94b0cb", func := "lontar/lontarlaw18.IsciiSwitch", spec := "isciiSwitch", inPlace := ["slices.overlaps[int]"], unfollowed := true, recurses := true, named := ["lontar/indic.places", "lontar/indic.codes"], apart := false, laid := [("lontar/indic.places", laid_lontar_indic_places), ("lontar/indic.codes", laid_lontar_indic_codes)], narrowed := true }
def IsciiSwitchUptoSaid : Prop := isciiSwitchUptoRow.holds Tryd.pinned (OpenSpec.upto isciiSwitchSpec)

/-- 'lontarlaw18.IsciiHeld', WHERE WHAT IT READS IS OF BULK AT MOST 1048576: true; the input reads as it did. -/
def isciiHeldUptoRow : OpenClaim := { program := "ytdkcadckbjncjaadoor", sum := "eaa5f3d77534f345273b83198b1d87276840a7c8b1548016461172b82d94b0cb", func := "lontar/lontarlaw18.IsciiHeld", spec := "isciiHeld", inPlace := ["slices.overlaps[int]"], unfollowed := true, recurses := true, named := ["lontar/indic.places", "lontar/indic.codes"], apart := false, laid := [("lontar/indic.places", laid_lontar_indic_places), ("lontar/indic.codes", laid_lontar_indic_codes)], narrowed := true }
def IsciiHeldUptoSaid : Prop := isciiHeldUptoRow.holds Tryd.pinned (OpenSpec.upto isciiHeldSpec)

/-- 'lontarlaw18.IsciiScripts', WHERE WHAT IT READS IS OF BULK AT MOST 1048576: true; the input reads as it did. -/
def isciiScriptsUptoRow : OpenClaim := { program := "ytdkcadckbjncjaadoor", sum := "eaa5f3d77534f345273b83198b1d87276840a7c8b1548016461172b82d94b0cb", func := "lontar/lontarlaw18.IsciiScripts", spec := "isciiScripts", inPlace := ["slices.overlaps[int]"], unfollowed := true, recurses := true, named := ["lontar/indic.places", "lontar/indic.codes"], apart := false, laid := [("lontar/indic.places", laid_lontar_indic_places), ("lontar/indic.codes", laid_lontar_indic_codes)], narrowed := true }
def IsciiScriptsUptoSaid : Prop := isciiScriptsUptoRow.holds Tryd.pinned (OpenSpec.upto isciiScriptsSpec)

end Rows
end Go.Proofs.YtdkcadckbjncjaaDoor
