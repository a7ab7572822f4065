/-
  NARROWER THAN 'FOR EVERY INPUT', by the rows' own cells (each row's printed sentence says how): VisciiDecode: laid · VisciiEncode: laid · VisciiRules: laid · VisciiAll: laid · VisciiRound: laid · VisciiAscii: laid.
  DERIVED. THE GIVEN ROWS OF THIS SEAT. 6 by the template 'for every input the law returns true; each argument reads behind the call as it read before'; 0 by the template 'total and deterministic' (their statements: YtlcplpjfkfnffaaDoorTotals.lean).
  GIVEN WITH THE SEED: the statements are not yours to turn. If you find one false, say at which input.
  Laid BY PROGRAM, IN A SANDBOX (cutbox-rows.mjs): the forced cells as the released guide's own fill.sh prints them over the translation 10d07149830d8b2a… (all of the seat's roots in one cut). By AI agents, Wed Nov 11 2026. No macro, syntax, notation, axiom, sorry.
-/
import Derived.Test.YtlcplpjfkfnffaaDoorChecked
import GoSem.Claim
import GoSem.ClaimJoined
import GoSem.ClaimMapViews
import Derived.JoinedTies
import Derived.KernelRfl
namespace Go.Proofs.YtlcplpjfkfnffaaDoor
/- THE CELL 'sum', in the pinned program and in every row, IS THE sha256 OF THE DUMP (.gsa) THAT YtlcplpjfkfnffaaDoorProg.lean LOADS. Nothing in Lean hashes anything: it is a label: what it is worth is what the hold of that sum in a sandbox is worth. -/
noncomputable def Tryd.pinned : Pinned := { name := "ytlcplpjfkfnffaadoor", sum := "10d07149830d8b2abbb6d1c3db948799a37fcf1dfe7ef6c9ba90d0a654343b72", checked := Tryd.checked }
namespace Rows
def none {H : Type} : Left H := { results := [], args := [] }

/- WHAT THE LISTED PACKAGE-LEVEL VARIABLES READ AS WHEN THE CALL BEGINS. Each datum BY PROGRAM (the guide's laid-datum.mjs) off the statement by which the dump's own 'gosem.cut.vars' lays the variable. In a bare row this is a premise. The card (YtlcplpjfkfnffaaDoorCards.lean) ties it to the program's text. -/
def laid_lontar_viscii_high {H : Type} : DataW H := .agg [.lit (.int .u16 7840), .lit (.int .u16 7854), .lit (.int .u16 7856), .lit (.int .u16 7862), .lit (.int .u16 7844), .lit (.int .u16 7846), .lit (.int .u16 7848), .lit (.int .u16 7852), .lit (.int .u16 7868), .lit (.int .u16 7864), .lit (.int .u16 7870), .lit (.int .u16 7872), .lit (.int .u16 7874), .lit (.int .u16 7876), .lit (.int .u16 7878), .lit (.int .u16 7888), .lit (.int .u16 7890), .lit (.int .u16 7892), .lit (.int .u16 7894), .lit (.int .u16 7896), .lit (.int .u16 7906), .lit (.int .u16 7898), .lit (.int .u16 7900), .lit (.int .u16 7902), .lit (.int .u16 7882), .lit (.int .u16 7886), .lit (.int .u16 7884), .lit (.int .u16 7880), .lit (.int .u16 7910), .lit (.int .u16 360), .lit (.int .u16 7908), .lit (.int .u16 7922), .lit (.int .u16 213), .lit (.int .u16 7855), .lit (.int .u16 7857), .lit (.int .u16 7863), .lit (.int .u16 7845), .lit (.int .u16 7847), .lit (.int .u16 7849), .lit (.int .u16 7853), .lit (.int .u16 7869), .lit (.int .u16 7865), .lit (.int .u16 7871), .lit (.int .u16 7873), .lit (.int .u16 7875), .lit (.int .u16 7877), .lit (.int .u16 7879), .lit (.int .u16 7889), .lit (.int .u16 7891), .lit (.int .u16 7893), .lit (.int .u16 7895), .lit (.int .u16 7904), .lit (.int .u16 416), .lit (.int .u16 7897), .lit (.int .u16 7901), .lit (.int .u16 7903), .lit (.int .u16 7883), .lit (.int .u16 7920), .lit (.int .u16 7912), .lit (.int .u16 7914), .lit (.int .u16 7916), .lit (.int .u16 417), .lit (.int .u16 7899), .lit (.int .u16 431), .lit (.int .u16 192), .lit (.int .u16 193), .lit (.int .u16 194), .lit (.int .u16 195), .lit (.int .u16 7842), .lit (.int .u16 258), .lit (.int .u16 7859), .lit (.int .u16 7861), .lit (.int .u16 200), .lit (.int .u16 201), .lit (.int .u16 202), .lit (.int .u16 7866), .lit (.int .u16 204), .lit (.int .u16 205), .lit (.int .u16 296), .lit (.int .u16 7923), .lit (.int .u16 272), .lit (.int .u16 7913), .lit (.int .u16 210), .lit (.int .u16 211), .lit (.int .u16 212), .lit (.int .u16 7841), .lit (.int .u16 7927), .lit (.int .u16 7915), .lit (.int .u16 7917), .lit (.int .u16 217), .lit (.int .u16 218), .lit (.int .u16 7929), .lit (.int .u16 7925), .lit (.int .u16 221), .lit (.int .u16 7905), .lit (.int .u16 432), .lit (.int .u16 224), .lit (.int .u16 225), .lit (.int .u16 226), .lit (.int .u16 227), .lit (.int .u16 7843), .lit (.int .u16 259), .lit (.int .u16 7919), .lit (.int .u16 7851), .lit (.int .u16 232), .lit (.int .u16 233), .lit (.int .u16 234), .lit (.int .u16 7867), .lit (.int .u16 236), .lit (.int .u16 237), .lit (.int .u16 297), .lit (.int .u16 7881), .lit (.int .u16 273), .lit (.int .u16 7921), .lit (.int .u16 242), .lit (.int .u16 243), .lit (.int .u16 244), .lit (.int .u16 245), .lit (.int .u16 7887), .lit (.int .u16 7885), .lit (.int .u16 7909), .lit (.int .u16 249), .lit (.int .u16 250), .lit (.int .u16 361), .lit (.int .u16 7911), .lit (.int .u16 253), .lit (.int .u16 7907), .lit (.int .u16 7918)]

/-- 'lontarlaw11.VisciiDecode': WHATEVER THE INPUT: true; the input reads as it did. -/
def visciiDecodeSpec : ChangeSpec := { name := "visciiDecode", fn := fun _ => fun
  | [d] => { results := [.lit (.bool true)], args := [d] }
  | _ => none }
def visciiDecodeRow : OpenClaim := { program := "ytlcplpjfkfnffaadoor", sum := "10d07149830d8b2abbb6d1c3db948799a37fcf1dfe7ef6c9ba90d0a654343b72", func := "lontar/lontarlaw11.VisciiDecode", spec := "visciiDecode", named := ["lontar/viscii.high"], apart := false, laid := [("lontar/viscii.high", laid_lontar_viscii_high)] }
def VisciiDecodeSaid : Prop := visciiDecodeRow.holds Tryd.pinned (OpenSpec.ofChange visciiDecodeSpec)

/-- ITS FALSE NEIGHBOUR: 'it returns false'. Refute it at one input. -/
def visciiDecodeWrong : ChangeSpec := { name := "visciiDecode", fn := fun _ => fun
  | [d] => { results := [.lit (.bool false)], args := [d] }
  | _ => none }
def VisciiDecodeWrongFalsely : Prop := visciiDecodeRow.holds Tryd.pinned (OpenSpec.ofChange visciiDecodeWrong)

/-- 'lontarlaw11.VisciiEncode': WHATEVER THE INPUT: true; the input reads as it did. -/
def visciiEncodeSpec : ChangeSpec := { name := "visciiEncode", fn := fun _ => fun
  | [d1, d2] => { results := [.lit (.bool true)], args := [d1, d2] }
  | _ => none }
def visciiEncodeRow : OpenClaim := { program := "ytlcplpjfkfnffaadoor", sum := "10d07149830d8b2abbb6d1c3db948799a37fcf1dfe7ef6c9ba90d0a654343b72", func := "lontar/lontarlaw11.VisciiEncode", spec := "visciiEncode", named := ["lontar/viscii.high"], apart := false, laid := [("lontar/viscii.high", laid_lontar_viscii_high)] }
def VisciiEncodeSaid : Prop := visciiEncodeRow.holds Tryd.pinned (OpenSpec.ofChange visciiEncodeSpec)

/-- ITS FALSE NEIGHBOUR: 'it returns false'. Refute it at one input. -/
def visciiEncodeWrong : ChangeSpec := { name := "visciiEncode", fn := fun _ => fun
  | [d1, d2] => { results := [.lit (.bool false)], args := [d1, d2] }
  | _ => none }
def VisciiEncodeWrongFalsely : Prop := visciiEncodeRow.holds Tryd.pinned (OpenSpec.ofChange visciiEncodeWrong)

/-- 'lontarlaw11.VisciiRules': WHATEVER THE INPUT: true; the input reads as it did. -/
def visciiRulesSpec : ChangeSpec := { name := "visciiRules", fn := fun _ => fun
  | [d] => { results := [.lit (.bool true)], args := [d] }
  | _ => none }
def visciiRulesRow : OpenClaim := { program := "ytlcplpjfkfnffaadoor", sum := "10d07149830d8b2abbb6d1c3db948799a37fcf1dfe7ef6c9ba90d0a654343b72", func := "lontar/lontarlaw11.VisciiRules", spec := "visciiRules", named := ["lontar/viscii.high"], apart := false, laid := [("lontar/viscii.high", laid_lontar_viscii_high)] }
def VisciiRulesSaid : Prop := visciiRulesRow.holds Tryd.pinned (OpenSpec.ofChange visciiRulesSpec)

/-- ITS FALSE NEIGHBOUR: 'it returns false'. Refute it at one input. -/
def visciiRulesWrong : ChangeSpec := { name := "visciiRules", fn := fun _ => fun
  | [d] => { results := [.lit (.bool false)], args := [d] }
  | _ => none }
def VisciiRulesWrongFalsely : Prop := visciiRulesRow.holds Tryd.pinned (OpenSpec.ofChange visciiRulesWrong)

/-- 'lontarlaw11.VisciiAll': WHATEVER THE INPUT: true; the input reads as it did. -/
def visciiAllSpec : ChangeSpec := { name := "visciiAll", fn := fun _ => fun
  | [d] => { results := [.lit (.bool true)], args := [d] }
  | _ => none }
def visciiAllRow : OpenClaim := { program := "ytlcplpjfkfnffaadoor", sum := "10d07149830d8b2abbb6d1c3db948799a37fcf1dfe7ef6c9ba90d0a654343b72", func := "lontar/lontarlaw11.VisciiAll", spec := "visciiAll", named := ["lontar/viscii.high"], apart := false, laid := [("lontar/viscii.high", laid_lontar_viscii_high)] }
def VisciiAllSaid : Prop := visciiAllRow.holds Tryd.pinned (OpenSpec.ofChange visciiAllSpec)

/-- ITS FALSE NEIGHBOUR: 'it returns false'. Refute it at one input. -/
def visciiAllWrong : ChangeSpec := { name := "visciiAll", fn := fun _ => fun
  | [d] => { results := [.lit (.bool false)], args := [d] }
  | _ => none }
def VisciiAllWrongFalsely : Prop := visciiAllRow.holds Tryd.pinned (OpenSpec.ofChange visciiAllWrong)

/-- 'lontarlaw11.VisciiRound': WHATEVER THE INPUT: true; the input reads as it did. -/
def visciiRoundSpec : ChangeSpec := { name := "visciiRound", fn := fun _ => fun
  | [d1, d2] => { results := [.lit (.bool true)], args := [d1, d2] }
  | _ => none }
def visciiRoundRow : OpenClaim := { program := "ytlcplpjfkfnffaadoor", sum := "10d07149830d8b2abbb6d1c3db948799a37fcf1dfe7ef6c9ba90d0a654343b72", func := "lontar/lontarlaw11.VisciiRound", spec := "visciiRound", named := ["lontar/viscii.high"], apart := false, laid := [("lontar/viscii.high", laid_lontar_viscii_high)] }
def VisciiRoundSaid : Prop := visciiRoundRow.holds Tryd.pinned (OpenSpec.ofChange visciiRoundSpec)

/-- ITS FALSE NEIGHBOUR: 'it returns false'. Refute it at one input. -/
def visciiRoundWrong : ChangeSpec := { name := "visciiRound", fn := fun _ => fun
  | [d1, d2] => { results := [.lit (.bool false)], args := [d1, d2] }
  | _ => none }
def VisciiRoundWrongFalsely : Prop := visciiRoundRow.holds Tryd.pinned (OpenSpec.ofChange visciiRoundWrong)

/-- 'lontarlaw11.VisciiAscii': WHATEVER THE INPUT: true; the input reads as it did. -/
def visciiAsciiSpec : ChangeSpec := { name := "visciiAscii", fn := fun _ => fun
  | [d] => { results := [.lit (.bool true)], args := [d] }
  | _ => none }
def visciiAsciiRow : OpenClaim := { program := "ytlcplpjfkfnffaadoor", sum := "10d07149830d8b2abbb6d1c3db948799a37fcf1dfe7ef6c9ba90d0a654343b72", func := "lontar/lontarlaw11.VisciiAscii", spec := "visciiAscii", named := ["lontar/viscii.high"], apart := false, laid := [("lontar/viscii.high", laid_lontar_viscii_high)] }
def VisciiAsciiSaid : Prop := visciiAsciiRow.holds Tryd.pinned (OpenSpec.ofChange visciiAsciiSpec)

/-- ITS FALSE NEIGHBOUR: 'it returns false'. Refute it at one input. -/
def visciiAsciiWrong : ChangeSpec := { name := "visciiAscii", fn := fun _ => fun
  | [d] => { results := [.lit (.bool false)], args := [d] }
  | _ => none }
def VisciiAsciiWrongFalsely : Prop := visciiAsciiRow.holds Tryd.pinned (OpenSpec.ofChange visciiAsciiWrong)

/- THE SECOND FORM. 'bulk': how many values and letters a reading holds, each counted each time it is reached (what is shared counts as often as it is met; a slice's spare places count too). A statement '..UptoSaid' is the law's where the arguments, and the package variables that the reading takes, are together of bulk at most 1048576: NARROWER than '..Said'. Prove '..Said' where nothing that the law and all that it calls make is longer than what came in: it says more and counts as full. Else prove '..UptoSaid'. A law counts once. -/
mutual
def uptoBulk {H : Type} : DataW H → Nat
  | .lit (.string bytes) => bytes.length + 1
  | .lit _ => 1
  | .nil => 1
  | .ptr d => uptoBulk d + 1
  | .slice elems spare => uptoBulkAll elems + uptoBulkAll spare + 1
  | .agg parts => uptoBulkAll parts + 1
  | .iface _ d => uptoBulk d + 1
  | .map entries => uptoBulkEntries entries + 1
  | .held _ => 1
def uptoBulkAll {H : Type} : List (DataW H) → Nat
  | [] => 0
  | d :: r => uptoBulk d + uptoBulkAll r
def uptoBulkEntries {H : Type} : List (Lit × DataW H) → Nat
  | [] => 0
  | x :: r => uptoBulkEntry x + uptoBulkEntries r
def uptoBulkEntry {H : Type} : Lit × DataW H → Nat
  | (.string bytes, d) => bytes.length + uptoBulk d + 1
  | (_, d) => uptoBulk d + 1
 end
def uptoSmall : (H : Type) → List (DataW H) → Bool := fun _ ds => decide (uptoBulkAll ds ≤ 1048576)
def OpenSpec.upto (s : _root_.Go.ChangeSpec) : _root_.Go.OpenSpec := { _root_.Go.OpenSpec.ofChange s with cond := some uptoSmall }

/-- 'lontarlaw11.VisciiDecode', WHERE WHAT IT READS IS OF BULK AT MOST 1048576: true; the input reads as it did. -/
def visciiDecodeUptoRow : OpenClaim := { program := "ytlcplpjfkfnffaadoor", sum := "10d07149830d8b2abbb6d1c3db948799a37fcf1dfe7ef6c9ba90d0a654343b72", func := "lontar/lontarlaw11.VisciiDecode", spec := "visciiDecode", named := ["lontar/viscii.high"], apart := false, laid := [("lontar/viscii.high", laid_lontar_viscii_high)], narrowed := true }
def VisciiDecodeUptoSaid : Prop := visciiDecodeUptoRow.holds Tryd.pinned (OpenSpec.upto visciiDecodeSpec)

/-- 'lontarlaw11.VisciiEncode', WHERE WHAT IT READS IS OF BULK AT MOST 1048576: true; the input reads as it did. -/
def visciiEncodeUptoRow : OpenClaim := { program := "ytlcplpjfkfnffaadoor", sum := "10d07149830d8b2abbb6d1c3db948799a37fcf1dfe7ef6c9ba90d0a654343b72", func := "lontar/lontarlaw11.VisciiEncode", spec := "visciiEncode", named := ["lontar/viscii.high"], apart := false, laid := [("lontar/viscii.high", laid_lontar_viscii_high)], narrowed := true }
def VisciiEncodeUptoSaid : Prop := visciiEncodeUptoRow.holds Tryd.pinned (OpenSpec.upto visciiEncodeSpec)

/-- 'lontarlaw11.VisciiRules', WHERE WHAT IT READS IS OF BULK AT MOST 1048576: true; the input reads as it did. -/
def visciiRulesUptoRow : OpenClaim := { program := "ytlcplpjfkfnffaadoor", sum := "10d07149830d8b2abbb6d1c3db948799a37fcf1dfe7ef6c9ba90d0a654343b72", func := "lontar/lontarlaw11.VisciiRules", spec := "visciiRules", named := ["lontar/viscii.high"], apart := false, laid := [("lontar/viscii.high", laid_lontar_viscii_high)], narrowed := true }
def VisciiRulesUptoSaid : Prop := visciiRulesUptoRow.holds Tryd.pinned (OpenSpec.upto visciiRulesSpec)

/-- 'lontarlaw11.VisciiAll', WHERE WHAT IT READS IS OF BULK AT MOST 1048576: true; the input reads as it did. -/
def visciiAllUptoRow : OpenClaim := { program := "ytlcplpjfkfnffaadoor", sum := "10d07149830d8b2abbb6d1c3db948799a37fcf1dfe7ef6c9ba90d0a654343b72", func := "lontar/lontarlaw11.VisciiAll", spec := "visciiAll", named := ["lontar/viscii.high"], apart := false, laid := [("lontar/viscii.high", laid_lontar_viscii_high)], narrowed := true }
def VisciiAllUptoSaid : Prop := visciiAllUptoRow.holds Tryd.pinned (OpenSpec.upto visciiAllSpec)

/-- 'lontarlaw11.VisciiRound', WHERE WHAT IT READS IS OF BULK AT MOST 1048576: true; the input reads as it did. -/
def visciiRoundUptoRow : OpenClaim := { program := "ytlcplpjfkfnffaadoor", sum := "10d07149830d8b2abbb6d1c3db948799a37fcf1dfe7ef6c9ba90d0a654343b72", func := "lontar/lontarlaw11.VisciiRound", spec := "visciiRound", named := ["lontar/viscii.high"], apart := false, laid := [("lontar/viscii.high", laid_lontar_viscii_high)], narrowed := true }
def VisciiRoundUptoSaid : Prop := visciiRoundUptoRow.holds Tryd.pinned (OpenSpec.upto visciiRoundSpec)

/-- 'lontarlaw11.VisciiAscii', WHERE WHAT IT READS IS OF BULK AT MOST 1048576: true; the input reads as it did. -/
def visciiAsciiUptoRow : OpenClaim := { program := "ytlcplpjfkfnffaadoor", sum := "10d07149830d8b2abbb6d1c3db948799a37fcf1dfe7ef6c9ba90d0a654343b72", func := "lontar/lontarlaw11.VisciiAscii", spec := "visciiAscii", named := ["lontar/viscii.high"], apart := false, laid := [("lontar/viscii.high", laid_lontar_viscii_high)], narrowed := true }
def VisciiAsciiUptoSaid : Prop := visciiAsciiUptoRow.holds Tryd.pinned (OpenSpec.upto visciiAsciiSpec)

end Rows
end Go.Proofs.YtlcplpjfkfnffaaDoor
