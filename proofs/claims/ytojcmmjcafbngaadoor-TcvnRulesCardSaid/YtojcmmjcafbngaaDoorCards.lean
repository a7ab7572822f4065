/-
  DERIVED. GIVEN WITH THE SEED: THE CARDS: each row of YtojcmmjcafbngaaDoorRows.lean that lists a variable, with what it lists TIED to the program's text (the seventh form; the later family's looks); each row that meets fmt, with fmt's text TOLD by the authors' own Lean function (tested against real Go, not proved from fmt's source: count such statements apart). THE CARD IS WHAT COUNTS. Prove the row's statement (the work); the ties are given (YtojcmmjcafbngaaDoorTie.lean); close each card by the builder's one call (the guide's Derived/Test/ToyasCard.lean, 'card_holds'). Laid BY PROGRAM, IN A SANDBOX (cutbox-door.mjs). By AI agents, Wed Nov 11 2026. No macro, syntax, notation, axiom, sorry.
-/
import Derived.Test.YtojcmmjcafbngaaDoorRows
import GoSem.ClaimSeven
namespace Go.Proofs.YtojcmmjcafbngaaDoor
namespace Rows

/-- THE TIED CARD OF 'lontarlaw12.TcvnDecode'. -/
def tcvnDecodeCard : Claim7 := { stood := { row := tcvnDecodeRow, standIns := [], harness := (true, "a8b1c8322a05a08e96d126c932318e4b60e7d02e8877c4ee81964111690b4860"), looks := false }, kinds := [], alts := [], laidByText := true, laidKinds := [.data], laidTests := true, laidLooks := .later }
def TcvnDecodeCardSaid : Prop := Claim7.holds Tryd.pinned (.plain (OpenSpec.ofChange tcvnDecodeSpec)) tcvnDecodeCard

/-- THE TIED CARD OF 'lontarlaw12.TcvnEncode'. -/
def tcvnEncodeCard : Claim7 := { stood := { row := tcvnEncodeRow, standIns := [], harness := (true, "a8b1c8322a05a08e96d126c932318e4b60e7d02e8877c4ee81964111690b4860"), looks := false }, kinds := [], alts := [], laidByText := true, laidKinds := [.data], laidTests := true, laidLooks := .later }
def TcvnEncodeCardSaid : Prop := Claim7.holds Tryd.pinned (.plain (OpenSpec.ofChange tcvnEncodeSpec)) tcvnEncodeCard

/-- THE TIED CARD OF 'lontarlaw12.TcvnRules'. -/
def tcvnRulesCard : Claim7 := { stood := { row := tcvnRulesRow, standIns := [], harness := (true, "a8b1c8322a05a08e96d126c932318e4b60e7d02e8877c4ee81964111690b4860"), looks := false }, kinds := [], alts := [], laidByText := true, laidKinds := [.data], laidTests := true, laidLooks := .later }
def TcvnRulesCardSaid : Prop := Claim7.holds Tryd.pinned (.plain (OpenSpec.ofChange tcvnRulesSpec)) tcvnRulesCard

/-- THE TIED CARD OF 'lontarlaw12.TcvnSmall'. -/
def tcvnSmallCard : Claim7 := { stood := { row := tcvnSmallRow, standIns := [], harness := (true, "a8b1c8322a05a08e96d126c932318e4b60e7d02e8877c4ee81964111690b4860"), looks := false }, kinds := [], alts := [], laidByText := true, laidKinds := [.data], laidTests := true, laidLooks := .later }
def TcvnSmallCardSaid : Prop := Claim7.holds Tryd.pinned (.plain (OpenSpec.ofChange tcvnSmallSpec)) tcvnSmallCard

/-- THE TIED CARD OF 'lontarlaw12.TcvnRound'. -/
def tcvnRoundCard : Claim7 := { stood := { row := tcvnRoundRow, standIns := [], harness := (true, "a8b1c8322a05a08e96d126c932318e4b60e7d02e8877c4ee81964111690b4860"), looks := false }, kinds := [], alts := [], laidByText := true, laidKinds := [.data], laidTests := true, laidLooks := .later }
def TcvnRoundCardSaid : Prop := Claim7.holds Tryd.pinned (.plain (OpenSpec.ofChange tcvnRoundSpec)) tcvnRoundCard

/-- THE TIED CARD OF 'lontarlaw12.TcvnAscii'. -/
def tcvnAsciiCard : Claim7 := { stood := { row := tcvnAsciiRow, standIns := [], harness := (true, "a8b1c8322a05a08e96d126c932318e4b60e7d02e8877c4ee81964111690b4860"), looks := false }, kinds := [], alts := [], laidByText := true, laidKinds := [.data], laidTests := true, laidLooks := .later }
def TcvnAsciiCardSaid : Prop := Claim7.holds Tryd.pinned (.plain (OpenSpec.ofChange tcvnAsciiSpec)) tcvnAsciiCard

/-- THE SECOND FORM's CARD OF 'lontarlaw12.TcvnDecode'. -/
def tcvnDecodeUptoCard : Claim7 := { stood := { row := tcvnDecodeUptoRow, standIns := [], harness := (true, "a8b1c8322a05a08e96d126c932318e4b60e7d02e8877c4ee81964111690b4860"), looks := false }, kinds := [], alts := [], laidByText := true, laidKinds := [.data], laidTests := true, laidLooks := .later }
def TcvnDecodeUptoCardSaid : Prop := Claim7.holds Tryd.pinned (.plain (OpenSpec.upto tcvnDecodeSpec)) tcvnDecodeUptoCard

/-- THE SECOND FORM's CARD OF 'lontarlaw12.TcvnEncode'. -/
def tcvnEncodeUptoCard : Claim7 := { stood := { row := tcvnEncodeUptoRow, standIns := [], harness := (true, "a8b1c8322a05a08e96d126c932318e4b60e7d02e8877c4ee81964111690b4860"), looks := false }, kinds := [], alts := [], laidByText := true, laidKinds := [.data], laidTests := true, laidLooks := .later }
def TcvnEncodeUptoCardSaid : Prop := Claim7.holds Tryd.pinned (.plain (OpenSpec.upto tcvnEncodeSpec)) tcvnEncodeUptoCard

/-- THE SECOND FORM's CARD OF 'lontarlaw12.TcvnRules'. -/
def tcvnRulesUptoCard : Claim7 := { stood := { row := tcvnRulesUptoRow, standIns := [], harness := (true, "a8b1c8322a05a08e96d126c932318e4b60e7d02e8877c4ee81964111690b4860"), looks := false }, kinds := [], alts := [], laidByText := true, laidKinds := [.data], laidTests := true, laidLooks := .later }
def TcvnRulesUptoCardSaid : Prop := Claim7.holds Tryd.pinned (.plain (OpenSpec.upto tcvnRulesSpec)) tcvnRulesUptoCard

/-- THE SECOND FORM's CARD OF 'lontarlaw12.TcvnSmall'. -/
def tcvnSmallUptoCard : Claim7 := { stood := { row := tcvnSmallUptoRow, standIns := [], harness := (true, "a8b1c8322a05a08e96d126c932318e4b60e7d02e8877c4ee81964111690b4860"), looks := false }, kinds := [], alts := [], laidByText := true, laidKinds := [.data], laidTests := true, laidLooks := .later }
def TcvnSmallUptoCardSaid : Prop := Claim7.holds Tryd.pinned (.plain (OpenSpec.upto tcvnSmallSpec)) tcvnSmallUptoCard

/-- THE SECOND FORM's CARD OF 'lontarlaw12.TcvnRound'. -/
def tcvnRoundUptoCard : Claim7 := { stood := { row := tcvnRoundUptoRow, standIns := [], harness := (true, "a8b1c8322a05a08e96d126c932318e4b60e7d02e8877c4ee81964111690b4860"), looks := false }, kinds := [], alts := [], laidByText := true, laidKinds := [.data], laidTests := true, laidLooks := .later }
def TcvnRoundUptoCardSaid : Prop := Claim7.holds Tryd.pinned (.plain (OpenSpec.upto tcvnRoundSpec)) tcvnRoundUptoCard

/-- THE SECOND FORM's CARD OF 'lontarlaw12.TcvnAscii'. -/
def tcvnAsciiUptoCard : Claim7 := { stood := { row := tcvnAsciiUptoRow, standIns := [], harness := (true, "a8b1c8322a05a08e96d126c932318e4b60e7d02e8877c4ee81964111690b4860"), looks := false }, kinds := [], alts := [], laidByText := true, laidKinds := [.data], laidTests := true, laidLooks := .later }
def TcvnAsciiUptoCardSaid : Prop := Claim7.holds Tryd.pinned (.plain (OpenSpec.upto tcvnAsciiSpec)) tcvnAsciiUptoCard
end Rows
end Go.Proofs.YtojcmmjcafbngaaDoor
