/-
  DERIVED. GIVEN WITH THE SEED: THE CARDS: each row of YtlcplpjfkfnffaaDoorRows.lean that lists a variable, with what it lists TIED to the program's text (the seventh form; the later family's looks); each row that meets fmt, with fmt's text TOLD by the authors' own Lean function (tested against real Go, not proved from fmt's source: count such statements apart). THE CARD IS WHAT COUNTS. Prove the row's statement (the work); the ties are given (YtlcplpjfkfnffaaDoorTie.lean); close each card by the builder's one call (the guide's Derived/Test/ToyasCard.lean, 'card_holds'). Laid BY PROGRAM, IN A SANDBOX (cutbox-door.mjs). By AI agents, Wed Nov 11 2026. No macro, syntax, notation, axiom, sorry.
-/
import Derived.Test.YtlcplpjfkfnffaaDoorRows
import GoSem.ClaimSeven
namespace Go.Proofs.YtlcplpjfkfnffaaDoor
namespace Rows

/-- THE TIED CARD OF 'lontarlaw11.VisciiDecode'. -/
def visciiDecodeCard : Claim7 := { stood := { row := visciiDecodeRow, standIns := [], harness := (true, "42dbef15133745c14b9810998bbd5529503f252d70bedc0fde63ae6703273960"), looks := false }, kinds := [], alts := [], laidByText := true, laidKinds := [.data], laidTests := true, laidLooks := .later }
def VisciiDecodeCardSaid : Prop := Claim7.holds Tryd.pinned (.plain (OpenSpec.ofChange visciiDecodeSpec)) visciiDecodeCard

/-- THE TIED CARD OF 'lontarlaw11.VisciiEncode'. -/
def visciiEncodeCard : Claim7 := { stood := { row := visciiEncodeRow, standIns := [], harness := (true, "42dbef15133745c14b9810998bbd5529503f252d70bedc0fde63ae6703273960"), looks := false }, kinds := [], alts := [], laidByText := true, laidKinds := [.data], laidTests := true, laidLooks := .later }
def VisciiEncodeCardSaid : Prop := Claim7.holds Tryd.pinned (.plain (OpenSpec.ofChange visciiEncodeSpec)) visciiEncodeCard

/-- THE TIED CARD OF 'lontarlaw11.VisciiRules'. -/
def visciiRulesCard : Claim7 := { stood := { row := visciiRulesRow, standIns := [], harness := (true, "42dbef15133745c14b9810998bbd5529503f252d70bedc0fde63ae6703273960"), looks := false }, kinds := [], alts := [], laidByText := true, laidKinds := [.data], laidTests := true, laidLooks := .later }
def VisciiRulesCardSaid : Prop := Claim7.holds Tryd.pinned (.plain (OpenSpec.ofChange visciiRulesSpec)) visciiRulesCard

/-- THE TIED CARD OF 'lontarlaw11.VisciiAll'. -/
def visciiAllCard : Claim7 := { stood := { row := visciiAllRow, standIns := [], harness := (true, "42dbef15133745c14b9810998bbd5529503f252d70bedc0fde63ae6703273960"), looks := false }, kinds := [], alts := [], laidByText := true, laidKinds := [.data], laidTests := true, laidLooks := .later }
def VisciiAllCardSaid : Prop := Claim7.holds Tryd.pinned (.plain (OpenSpec.ofChange visciiAllSpec)) visciiAllCard

/-- THE TIED CARD OF 'lontarlaw11.VisciiRound'. -/
def visciiRoundCard : Claim7 := { stood := { row := visciiRoundRow, standIns := [], harness := (true, "42dbef15133745c14b9810998bbd5529503f252d70bedc0fde63ae6703273960"), looks := false }, kinds := [], alts := [], laidByText := true, laidKinds := [.data], laidTests := true, laidLooks := .later }
def VisciiRoundCardSaid : Prop := Claim7.holds Tryd.pinned (.plain (OpenSpec.ofChange visciiRoundSpec)) visciiRoundCard

/-- THE TIED CARD OF 'lontarlaw11.VisciiAscii'. -/
def visciiAsciiCard : Claim7 := { stood := { row := visciiAsciiRow, standIns := [], harness := (true, "42dbef15133745c14b9810998bbd5529503f252d70bedc0fde63ae6703273960"), looks := false }, kinds := [], alts := [], laidByText := true, laidKinds := [.data], laidTests := true, laidLooks := .later }
def VisciiAsciiCardSaid : Prop := Claim7.holds Tryd.pinned (.plain (OpenSpec.ofChange visciiAsciiSpec)) visciiAsciiCard

/-- THE SECOND FORM's CARD OF 'lontarlaw11.VisciiDecode'. -/
def visciiDecodeUptoCard : Claim7 := { stood := { row := visciiDecodeUptoRow, standIns := [], harness := (true, "42dbef15133745c14b9810998bbd5529503f252d70bedc0fde63ae6703273960"), looks := false }, kinds := [], alts := [], laidByText := true, laidKinds := [.data], laidTests := true, laidLooks := .later }
def VisciiDecodeUptoCardSaid : Prop := Claim7.holds Tryd.pinned (.plain (OpenSpec.upto visciiDecodeSpec)) visciiDecodeUptoCard

/-- THE SECOND FORM's CARD OF 'lontarlaw11.VisciiEncode'. -/
def visciiEncodeUptoCard : Claim7 := { stood := { row := visciiEncodeUptoRow, standIns := [], harness := (true, "42dbef15133745c14b9810998bbd5529503f252d70bedc0fde63ae6703273960"), looks := false }, kinds := [], alts := [], laidByText := true, laidKinds := [.data], laidTests := true, laidLooks := .later }
def VisciiEncodeUptoCardSaid : Prop := Claim7.holds Tryd.pinned (.plain (OpenSpec.upto visciiEncodeSpec)) visciiEncodeUptoCard

/-- THE SECOND FORM's CARD OF 'lontarlaw11.VisciiRules'. -/
def visciiRulesUptoCard : Claim7 := { stood := { row := visciiRulesUptoRow, standIns := [], harness := (true, "42dbef15133745c14b9810998bbd5529503f252d70bedc0fde63ae6703273960"), looks := false }, kinds := [], alts := [], laidByText := true, laidKinds := [.data], laidTests := true, laidLooks := .later }
def VisciiRulesUptoCardSaid : Prop := Claim7.holds Tryd.pinned (.plain (OpenSpec.upto visciiRulesSpec)) visciiRulesUptoCard

/-- THE SECOND FORM's CARD OF 'lontarlaw11.VisciiAll'. -/
def visciiAllUptoCard : Claim7 := { stood := { row := visciiAllUptoRow, standIns := [], harness := (true, "42dbef15133745c14b9810998bbd5529503f252d70bedc0fde63ae6703273960"), looks := false }, kinds := [], alts := [], laidByText := true, laidKinds := [.data], laidTests := true, laidLooks := .later }
def VisciiAllUptoCardSaid : Prop := Claim7.holds Tryd.pinned (.plain (OpenSpec.upto visciiAllSpec)) visciiAllUptoCard

/-- THE SECOND FORM's CARD OF 'lontarlaw11.VisciiRound'. -/
def visciiRoundUptoCard : Claim7 := { stood := { row := visciiRoundUptoRow, standIns := [], harness := (true, "42dbef15133745c14b9810998bbd5529503f252d70bedc0fde63ae6703273960"), looks := false }, kinds := [], alts := [], laidByText := true, laidKinds := [.data], laidTests := true, laidLooks := .later }
def VisciiRoundUptoCardSaid : Prop := Claim7.holds Tryd.pinned (.plain (OpenSpec.upto visciiRoundSpec)) visciiRoundUptoCard

/-- THE SECOND FORM's CARD OF 'lontarlaw11.VisciiAscii'. -/
def visciiAsciiUptoCard : Claim7 := { stood := { row := visciiAsciiUptoRow, standIns := [], harness := (true, "42dbef15133745c14b9810998bbd5529503f252d70bedc0fde63ae6703273960"), looks := false }, kinds := [], alts := [], laidByText := true, laidKinds := [.data], laidTests := true, laidLooks := .later }
def VisciiAsciiUptoCardSaid : Prop := Claim7.holds Tryd.pinned (.plain (OpenSpec.upto visciiAsciiSpec)) visciiAsciiUptoCard
end Rows
end Go.Proofs.YtlcplpjfkfnffaaDoor
