/-
  No cell of these rows narrows 'for every input' (looked for: loops, veiled, ifaces, maps, wideKeys, modest, calm, conditions, laid).
  DERIVED. THE GIVEN ROWS OF THIS SEAT. 6 by the template 'for every input the law returns true; each argument reads behind the call as it read before'; 0 by the template 'total and deterministic' (their statements: YtikbmagolgcbfaaTotals.lean).
  GIVEN WITH THE SEED: the statements are not yours to turn. If you find one false, say at which input.
  Laid BY PROGRAM, IN A SANDBOX (cutbox-rows.mjs): the forced cells as the released guide's own fill.sh prints them over the translation 96ee3dfd94419c75… (all of the seat's roots in one cut). By AI agents, Wed Nov 11 2026. No macro, syntax, notation, axiom, sorry.
-/
import Derived.Test.YtikbmagolgcbfaaChecked
import GoSem.Claim
import GoSem.ClaimJoined
import GoSem.ClaimMapViews
import Derived.JoinedTies
import Derived.KernelRfl
namespace Go.Proofs.Ytikbmagolgcbfaa
/- THE CELL 'sum', in the pinned program and in every row, IS THE sha256 OF THE DUMP (.gsa) THAT YtikbmagolgcbfaaProg.lean LOADS. Nothing in Lean hashes anything: it is a label: what it is worth is what the hold of that sum in a sandbox is worth. -/
noncomputable def Try.pinned : Pinned := { name := "ytikbmagolgcbfaa", sum := "96ee3dfd94419c7538bbcc2a15a1b54ff13a2664301780533ac3e21569df2627", checked := Try.checked }
namespace Rows
def none {H : Type} : Left H := { results := [], args := [] }

/-- 'lontarlaw16.MachineDecode': WHATEVER THE INPUT: true; the input reads as it did. -/
def machineDecodeSpec : ChangeSpec := { name := "machineDecode", fn := fun _ => fun
  | [d1, d2] => { results := [.lit (.bool true)], args := [d1, d2] }
  | _ => none }
def machineDecodeRow : OpenClaim := { program := "ytikbmagolgcbfaa", sum := "96ee3dfd94419c7538bbcc2a15a1b54ff13a2664301780533ac3e21569df2627", func := "lontar/lontarlaw16.MachineDecode", spec := "machineDecode", inPlace := ["slices.overlaps[int]"], unfollowed := true, recurses := true, apart := false }
def MachineDecodeSaid : Prop := machineDecodeRow.holds Try.pinned (OpenSpec.ofChange machineDecodeSpec)

/-- ITS FALSE NEIGHBOUR: 'it returns false'. Refute it at one input. -/
def machineDecodeWrong : ChangeSpec := { name := "machineDecode", fn := fun _ => fun
  | [d1, d2] => { results := [.lit (.bool false)], args := [d1, d2] }
  | _ => none }
def MachineDecodeWrongFalsely : Prop := machineDecodeRow.holds Try.pinned (OpenSpec.ofChange machineDecodeWrong)

/-- 'lontarlaw16.MachineEncode': WHATEVER THE INPUT: true; the input reads as it did. -/
def machineEncodeSpec : ChangeSpec := { name := "machineEncode", fn := fun _ => fun
  | [d1, d2] => { results := [.lit (.bool true)], args := [d1, d2] }
  | _ => none }
def machineEncodeRow : OpenClaim := { program := "ytikbmagolgcbfaa", sum := "96ee3dfd94419c7538bbcc2a15a1b54ff13a2664301780533ac3e21569df2627", func := "lontar/lontarlaw16.MachineEncode", spec := "machineEncode", inPlace := ["slices.overlaps[int]"], unfollowed := true, recurses := true, apart := false }
def MachineEncodeSaid : Prop := machineEncodeRow.holds Try.pinned (OpenSpec.ofChange machineEncodeSpec)

/-- ITS FALSE NEIGHBOUR: 'it returns false'. Refute it at one input. -/
def machineEncodeWrong : ChangeSpec := { name := "machineEncode", fn := fun _ => fun
  | [d1, d2] => { results := [.lit (.bool false)], args := [d1, d2] }
  | _ => none }
def MachineEncodeWrongFalsely : Prop := machineEncodeRow.holds Try.pinned (OpenSpec.ofChange machineEncodeWrong)

/-- 'lontarlaw16.MachineApart': WHATEVER THE INPUT: true; the input reads as it did. -/
def machineApartSpec : ChangeSpec := { name := "machineApart", fn := fun _ => fun
  | [d1, d2, d3] => { results := [.lit (.bool true)], args := [d1, d2, d3] }
  | _ => none }
def machineApartRow : OpenClaim := { program := "ytikbmagolgcbfaa", sum := "96ee3dfd94419c7538bbcc2a15a1b54ff13a2664301780533ac3e21569df2627", func := "lontar/lontarlaw16.MachineApart", spec := "machineApart", inPlace := ["slices.overlaps[int]"], unfollowed := true, recurses := true, apart := false }
def MachineApartSaid : Prop := machineApartRow.holds Try.pinned (OpenSpec.ofChange machineApartSpec)

/-- ITS FALSE NEIGHBOUR: 'it returns false'. Refute it at one input. -/
def machineApartWrong : ChangeSpec := { name := "machineApart", fn := fun _ => fun
  | [d1, d2, d3] => { results := [.lit (.bool false)], args := [d1, d2, d3] }
  | _ => none }
def MachineApartWrongFalsely : Prop := machineApartRow.holds Try.pinned (OpenSpec.ofChange machineApartWrong)

/-- 'lontarlaw16.MachineHeld': WHATEVER THE INPUT: true; the input reads as it did. -/
def machineHeldSpec : ChangeSpec := { name := "machineHeld", fn := fun _ => fun
  | [d1, d2] => { results := [.lit (.bool true)], args := [d1, d2] }
  | _ => none }
def machineHeldRow : OpenClaim := { program := "ytikbmagolgcbfaa", sum := "96ee3dfd94419c7538bbcc2a15a1b54ff13a2664301780533ac3e21569df2627", func := "lontar/lontarlaw16.MachineHeld", spec := "machineHeld", inPlace := ["slices.overlaps[int]"], unfollowed := true, recurses := true, apart := false }
def MachineHeldSaid : Prop := machineHeldRow.holds Try.pinned (OpenSpec.ofChange machineHeldSpec)

/-- ITS FALSE NEIGHBOUR: 'it returns false'. Refute it at one input. -/
def machineHeldWrong : ChangeSpec := { name := "machineHeld", fn := fun _ => fun
  | [d1, d2] => { results := [.lit (.bool false)], args := [d1, d2] }
  | _ => none }
def MachineHeldWrongFalsely : Prop := machineHeldRow.holds Try.pinned (OpenSpec.ofChange machineHeldWrong)

/-- 'lontarlaw16.MachineBoth': WHATEVER THE INPUT: true; the input reads as it did. -/
def machineBothSpec : ChangeSpec := { name := "machineBoth", fn := fun _ => fun
  | [d1, d2] => { results := [.lit (.bool true)], args := [d1, d2] }
  | _ => none }
def machineBothRow : OpenClaim := { program := "ytikbmagolgcbfaa", sum := "96ee3dfd94419c7538bbcc2a15a1b54ff13a2664301780533ac3e21569df2627", func := "lontar/lontarlaw16.MachineBoth", spec := "machineBoth", inPlace := ["slices.overlaps[int]"], unfollowed := true, recurses := true, apart := false }
def MachineBothSaid : Prop := machineBothRow.holds Try.pinned (OpenSpec.ofChange machineBothSpec)

/-- ITS FALSE NEIGHBOUR: 'it returns false'. Refute it at one input. -/
def machineBothWrong : ChangeSpec := { name := "machineBoth", fn := fun _ => fun
  | [d1, d2] => { results := [.lit (.bool false)], args := [d1, d2] }
  | _ => none }
def MachineBothWrongFalsely : Prop := machineBothRow.holds Try.pinned (OpenSpec.ofChange machineBothWrong)

/-- 'lontarlaw16.MachineSoon': WHATEVER THE INPUT: true; the input reads as it did. -/
def machineSoonSpec : ChangeSpec := { name := "machineSoon", fn := fun _ => fun
  | [d1, d2] => { results := [.lit (.bool true)], args := [d1, d2] }
  | _ => none }
def machineSoonRow : OpenClaim := { program := "ytikbmagolgcbfaa", sum := "96ee3dfd94419c7538bbcc2a15a1b54ff13a2664301780533ac3e21569df2627", func := "lontar/lontarlaw16.MachineSoon", spec := "machineSoon", inPlace := ["slices.overlaps[int]"], unfollowed := true, recurses := true, apart := false }
def MachineSoonSaid : Prop := machineSoonRow.holds Try.pinned (OpenSpec.ofChange machineSoonSpec)

/-- ITS FALSE NEIGHBOUR: 'it returns false'. Refute it at one input. -/
def machineSoonWrong : ChangeSpec := { name := "machineSoon", fn := fun _ => fun
  | [d1, d2] => { results := [.lit (.bool false)], args := [d1, d2] }
  | _ => none }
def MachineSoonWrongFalsely : Prop := machineSoonRow.holds Try.pinned (OpenSpec.ofChange machineSoonWrong)

/- THE SECOND FORM. 'bulk': how many values and letters a reading holds, each counted each time it is reached (what is shared counts as often as it is met; a slice's spare places count too). A statement '..UptoSaid' is the law's where the arguments, and the package variables that the reading takes, are together of bulk at most 1048576: NARROWER than '..Said'. Prove '..Said' where nothing that the law and all that it calls make is longer than what came in: it says more and counts as full. Else prove '..UptoSaid'. A law counts once. -/
mutual
def uptoBulk {H : Type} : DataW H → Nat
  | .lit (.string bytes) => bytes.length + 1
  | .lit _ => 1
  | .nil => 1
  | .ptr d => uptoBulk d + 1
  | .slice elems spare => uptoBulkAll elems + uptoBulkAll spare + 1
  | .agg parts => uptoBulkAll parts + 1
  | .iface _ d => uptoBulk d + 1
  | .map entries => uptoBulkEntries entries + 1
  | .held _ => 1
def uptoBulkAll {H : Type} : List (DataW H) → Nat
  | [] => 0
  | d :: r => uptoBulk d + uptoBulkAll r
def uptoBulkEntries {H : Type} : List (Lit × DataW H) → Nat
  | [] => 0
  | x :: r => uptoBulkEntry x + uptoBulkEntries r
def uptoBulkEntry {H : Type} : Lit × DataW H → Nat
  | (.string bytes, d) => bytes.length + uptoBulk d + 1
  | (_, d) => uptoBulk d + 1
 end
def uptoSmall : (H : Type) → List (DataW H) → Bool := fun _ ds => decide (uptoBulkAll ds ≤ 1048576)
def OpenSpec.upto (s : _root_.Go.ChangeSpec) : _root_.Go.OpenSpec := { _root_.Go.OpenSpec.ofChange s with cond := some uptoSmall }

/-- 'lontarlaw16.MachineDecode', WHERE WHAT IT READS IS OF BULK AT MOST 1048576: true; the input reads as it did. -/
def machineDecodeUptoRow : OpenClaim := { program := "ytikbmagolgcbfaa", sum := "96ee3dfd94419c7538bbcc2a15a1b54ff13a2664301780533ac3e21569df2627", func := "lontar/lontarlaw16.MachineDecode", spec := "machineDecode", inPlace := ["slices.overlaps[int]"], unfollowed := true, recurses := true, apart := false, narrowed := true }
def MachineDecodeUptoSaid : Prop := machineDecodeUptoRow.holds Try.pinned (OpenSpec.upto machineDecodeSpec)

/-- 'lontarlaw16.MachineEncode', WHERE WHAT IT READS IS OF BULK AT MOST 1048576: true; the input reads as it did. -/
def machineEncodeUptoRow : OpenClaim := { program := "ytikbmagolgcbfaa", sum := "96ee3dfd94419c7538bbcc2a15a1b54ff13a2664301780533ac3e21569df2627", func := "lontar/lontarlaw16.MachineEncode", spec := "machineEncode", inPlace := ["slices.overlaps[int]"], unfollowed := true, recurses := true, apart := false, narrowed := true }
def MachineEncodeUptoSaid : Prop := machineEncodeUptoRow.holds Try.pinned (OpenSpec.upto machineEncodeSpec)

/-- 'lontarlaw16.MachineApart', WHERE WHAT IT READS IS OF BULK AT MOST 1048576: true; the input reads as it did. -/
def machineApartUptoRow : OpenClaim := { program := "ytikbmagolgcbfaa", sum := "96ee3dfd94419c7538bbcc2a15a1b54ff13a2664301780533ac3e21569df2627", func := "lontar/lontarlaw16.MachineApart", spec := "machineApart", inPlace := ["slices.overlaps[int]"], unfollowed := true, recurses := true, apart := false, narrowed := true }
def MachineApartUptoSaid : Prop := machineApartUptoRow.holds Try.pinned (OpenSpec.upto machineApartSpec)

/-- 'lontarlaw16.MachineHeld', WHERE WHAT IT READS IS OF BULK AT MOST 1048576: true; the input reads as it did. -/
def machineHeldUptoRow : OpenClaim := { program := "ytikbmagolgcbfaa", sum := "96ee3dfd94419c7538bbcc2a15a1b54ff13a2664301780533ac3e21569df2627", func := "lontar/lontarlaw16.MachineHeld", spec := "machineHeld", inPlace := ["slices.overlaps[int]"], unfollowed := true, recurses := true, apart := false, narrowed := true }
def MachineHeldUptoSaid : Prop := machineHeldUptoRow.holds Try.pinned (OpenSpec.upto machineHeldSpec)

/-- 'lontarlaw16.MachineBoth', WHERE WHAT IT READS IS OF BULK AT MOST 1048576: true; the input reads as it did. -/
def machineBothUptoRow : OpenClaim := { program := "ytikbmagolgcbfaa", sum := "96ee3dfd94419c7538bbcc2a15a1b54ff13a2664301780533ac3e21569df2627", func := "lontar/lontarlaw16.MachineBoth", spec := "machineBoth", inPlace := ["slices.overlaps[int]"], unfollowed := true, recurses := true, apart := false, narrowed := true }
def MachineBothUptoSaid : Prop := machineBothUptoRow.holds Try.pinned (OpenSpec.upto machineBothSpec)

/-- 'lontarlaw16.MachineSoon', WHERE WHAT IT READS IS OF BULK AT MOST 1048576: true; the input reads as it did. -/
def machineSoonUptoRow : OpenClaim := { program := "ytikbmagolgcbfaa", sum := "96ee3dfd94419c7538bbcc2a15a1b54ff13a2664301780533ac3e21569df2627", func := "lontar/lontarlaw16.MachineSoon", spec := "machineSoon", inPlace := ["slices.overlaps[int]"], unfollowed := true, recurses := true, apart := false, narrowed := true }
def MachineSoonUptoSaid : Prop := machineSoonUptoRow.holds Try.pinned (OpenSpec.upto machineSoonSpec)

end Rows
end Go.Proofs.Ytikbmagolgcbfaa
