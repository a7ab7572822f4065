/-
  DERIVED. GIVEN WITH THE SEED: THE CARDS: each row of YtgjmclbcmfkhdaaDoorRows.lean that lists a variable, with what it lists TIED to the program's text (the seventh form; the later family's looks); each row that meets fmt, with fmt's text TOLD by the authors' own Lean function (tested against real Go, not proved from fmt's source: count such statements apart). THE CARD IS WHAT COUNTS. Prove the row's statement (the work); the ties are given (YtgjmclbcmfkhdaaDoorTie.lean); close each card by the builder's one call (the guide's Derived/Test/ToyasCard.lean, 'card_holds'). Laid BY PROGRAM, IN A SANDBOX (cutbox-door.mjs). By AI agents, Wed Nov 11 2026. No macro, syntax, notation, axiom, sorry.
-/
import Derived.Test.YtgjmclbcmfkhdaaDoorRows
import GoSem.ClaimSeven
namespace Go.Proofs.YtgjmclbcmfkhdaaDoor
namespace Rows

/-- THE TIED CARD OF 'lontarlaw13.VniSmall'. -/
def vniSmallCard : Claim7 := { stood := { row := vniSmallRow, standIns := [], harness := (true, "20ba0e7dad62f9d22e265e534c78b03d1c70c90c1c6d4ed4528d4f258c1408ae"), looks := false }, kinds := [], alts := [], laidByText := true, laidKinds := [.data, .data], laidTests := true, laidLooks := .later }
def VniSmallCardSaid : Prop := Claim7.holds Tryd.pinned (.plain (OpenSpec.ofChange vniSmallSpec)) vniSmallCard

/-- THE TIED CARD OF 'lontarlaw13.VniRules'. -/
def vniRulesCard : Claim7 := { stood := { row := vniRulesRow, standIns := [], harness := (true, "20ba0e7dad62f9d22e265e534c78b03d1c70c90c1c6d4ed4528d4f258c1408ae"), looks := false }, kinds := [], alts := [], laidByText := true, laidKinds := [.data, .data], laidTests := true, laidLooks := .later }
def VniRulesCardSaid : Prop := Claim7.holds Tryd.pinned (.plain (OpenSpec.ofChange vniRulesSpec)) vniRulesCard

/-- THE TIED CARD OF 'lontarlaw13.VniRight'. -/
def vniRightCard : Claim7 := { stood := { row := vniRightRow, standIns := [], harness := (true, "20ba0e7dad62f9d22e265e534c78b03d1c70c90c1c6d4ed4528d4f258c1408ae"), looks := false }, kinds := [], alts := [], laidByText := true, laidKinds := [.data, .data], laidTests := true, laidLooks := .later }
def VniRightCardSaid : Prop := Claim7.holds Tryd.pinned (.plain (OpenSpec.ofChange vniRightSpec)) vniRightCard

/-- THE TIED CARD OF 'lontarlaw13.VniReads'. -/
def vniReadsCard : Claim7 := { stood := { row := vniReadsRow, standIns := [], harness := (true, "20ba0e7dad62f9d22e265e534c78b03d1c70c90c1c6d4ed4528d4f258c1408ae"), looks := false }, kinds := [], alts := [], laidByText := true, laidKinds := [.data, .data], laidTests := true, laidLooks := .later }
def VniReadsCardSaid : Prop := Claim7.holds Tryd.pinned (.plain (OpenSpec.ofChange vniReadsSpec)) vniReadsCard

/-- THE TIED CARD OF 'lontarlaw13.VniAscii'. -/
def vniAsciiCard : Claim7 := { stood := { row := vniAsciiRow, standIns := [], harness := (true, "20ba0e7dad62f9d22e265e534c78b03d1c70c90c1c6d4ed4528d4f258c1408ae"), looks := false }, kinds := [], alts := [], laidByText := true, laidKinds := [.data, .data], laidTests := true, laidLooks := .later }
def VniAsciiCardSaid : Prop := Claim7.holds Tryd.pinned (.plain (OpenSpec.ofChange vniAsciiSpec)) vniAsciiCard

/-- THE TIED CARD OF 'lontarlaw13.VniSize'. -/
def vniSizeCard : Claim7 := { stood := { row := vniSizeRow, standIns := [], harness := (true, "20ba0e7dad62f9d22e265e534c78b03d1c70c90c1c6d4ed4528d4f258c1408ae"), looks := false }, kinds := [], alts := [], laidByText := true, laidKinds := [.data, .data], laidTests := true, laidLooks := .later }
def VniSizeCardSaid : Prop := Claim7.holds Tryd.pinned (.plain (OpenSpec.ofChange vniSizeSpec)) vniSizeCard

/-- THE SECOND FORM's CARD OF 'lontarlaw13.VniSmall'. -/
def vniSmallUptoCard : Claim7 := { stood := { row := vniSmallUptoRow, standIns := [], harness := (true, "20ba0e7dad62f9d22e265e534c78b03d1c70c90c1c6d4ed4528d4f258c1408ae"), looks := false }, kinds := [], alts := [], laidByText := true, laidKinds := [.data, .data], laidTests := true, laidLooks := .later }
def VniSmallUptoCardSaid : Prop := Claim7.holds Tryd.pinned (.plain (OpenSpec.upto vniSmallSpec)) vniSmallUptoCard

/-- THE SECOND FORM's CARD OF 'lontarlaw13.VniRules'. -/
def vniRulesUptoCard : Claim7 := { stood := { row := vniRulesUptoRow, standIns := [], harness := (true, "20ba0e7dad62f9d22e265e534c78b03d1c70c90c1c6d4ed4528d4f258c1408ae"), looks := false }, kinds := [], alts := [], laidByText := true, laidKinds := [.data, .data], laidTests := true, laidLooks := .later }
def VniRulesUptoCardSaid : Prop := Claim7.holds Tryd.pinned (.plain (OpenSpec.upto vniRulesSpec)) vniRulesUptoCard

/-- THE SECOND FORM's CARD OF 'lontarlaw13.VniRight'. -/
def vniRightUptoCard : Claim7 := { stood := { row := vniRightUptoRow, standIns := [], harness := (true, "20ba0e7dad62f9d22e265e534c78b03d1c70c90c1c6d4ed4528d4f258c1408ae"), looks := false }, kinds := [], alts := [], laidByText := true, laidKinds := [.data, .data], laidTests := true, laidLooks := .later }
def VniRightUptoCardSaid : Prop := Claim7.holds Tryd.pinned (.plain (OpenSpec.upto vniRightSpec)) vniRightUptoCard

/-- THE SECOND FORM's CARD OF 'lontarlaw13.VniReads'. -/
def vniReadsUptoCard : Claim7 := { stood := { row := vniReadsUptoRow, standIns := [], harness := (true, "20ba0e7dad62f9d22e265e534c78b03d1c70c90c1c6d4ed4528d4f258c1408ae"), looks := false }, kinds := [], alts := [], laidByText := true, laidKinds := [.data, .data], laidTests := true, laidLooks := .later }
def VniReadsUptoCardSaid : Prop := Claim7.holds Tryd.pinned (.plain (OpenSpec.upto vniReadsSpec)) vniReadsUptoCard

/-- THE SECOND FORM's CARD OF 'lontarlaw13.VniAscii'. -/
def vniAsciiUptoCard : Claim7 := { stood := { row := vniAsciiUptoRow, standIns := [], harness := (true, "20ba0e7dad62f9d22e265e534c78b03d1c70c90c1c6d4ed4528d4f258c1408ae"), looks := false }, kinds := [], alts := [], laidByText := true, laidKinds := [.data, .data], laidTests := true, laidLooks := .later }
def VniAsciiUptoCardSaid : Prop := Claim7.holds Tryd.pinned (.plain (OpenSpec.upto vniAsciiSpec)) vniAsciiUptoCard

/-- THE SECOND FORM's CARD OF 'lontarlaw13.VniSize'. -/
def vniSizeUptoCard : Claim7 := { stood := { row := vniSizeUptoRow, standIns := [], harness := (true, "20ba0e7dad62f9d22e265e534c78b03d1c70c90c1c6d4ed4528d4f258c1408ae"), looks := false }, kinds := [], alts := [], laidByText := true, laidKinds := [.data, .data], laidTests := true, laidLooks := .later }
def VniSizeUptoCardSaid : Prop := Claim7.holds Tryd.pinned (.plain (OpenSpec.upto vniSizeSpec)) vniSizeUptoCard
end Rows
end Go.Proofs.YtgjmclbcmfkhdaaDoor
