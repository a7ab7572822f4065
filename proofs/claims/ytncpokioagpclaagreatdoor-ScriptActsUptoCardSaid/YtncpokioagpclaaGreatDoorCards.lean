/-
  DERIVED. GIVEN WITH THE SEED: THE CARDS: each row of YtncpokioagpclaaGreatDoorRows.lean that lists a variable, with what it lists TIED to the program's text (the seventh form; the later family's looks); each row that meets fmt, with fmt's text TOLD by the authors' own Lean function (tested against real Go, not proved from fmt's source: count such statements apart). THE CARD IS WHAT COUNTS. Prove the row's statement (the work); the ties are given (YtncpokioagpclaaGreatDoorTie.lean); close each card by the builder's one call (the guide's Derived/Test/ToyasCard.lean, 'card_holds'). Laid BY PROGRAM, IN A SANDBOX (cutbox-door.mjs). By AI agents, Wed Nov 11 2026. No macro, syntax, notation, axiom, sorry.
-/
import Derived.Test.YtncpokioagpclaaGreatDoorRows
import GoSem.ClaimSeven
namespace Go.Proofs.YtncpokioagpclaaGreatDoor
namespace Rows

/-- THE TIED CARD OF 'lontarlaw19.CodecDecode'. -/
def codecDecodeCard : Claim7 := { stood := { row := codecDecodeRow, standIns := [], harness := (true, "604f2485d28dd463bed144070c17c049f6d1394d93ff3ee52b55bbbf2acf64bc"), looks := false }, kinds := [], alts := [], laidByText := true, laidKinds := [.data, .data, .data, .data, .data, .data, .pinned, .pinned], laidTests := true, laidLooks := .later }
def CodecDecodeCardSaid : Prop := Claim7.holds Tryz.pinned (.plain (OpenSpec.ofChange codecDecodeSpec)) codecDecodeCard

/-- THE TIED CARD OF 'lontarlaw19.CodecTable'. -/
def codecTableCard : Claim7 := { stood := { row := codecTableRow, standIns := [], harness := (true, "604f2485d28dd463bed144070c17c049f6d1394d93ff3ee52b55bbbf2acf64bc"), looks := false }, kinds := [], alts := [], laidByText := true, laidKinds := [.data, .data, .data, .data, .data, .data, .pinned, .pinned], laidTests := true, laidLooks := .later }
def CodecTableCardSaid : Prop := Claim7.holds Tryz.pinned (.plain (OpenSpec.ofChange codecTableSpec)) codecTableCard

/-- THE TIED CARD OF 'lontarlaw19.CodecAscii'. -/
def codecAsciiCard : Claim7 := { stood := { row := codecAsciiRow, standIns := [], harness := (true, "604f2485d28dd463bed144070c17c049f6d1394d93ff3ee52b55bbbf2acf64bc"), looks := false }, kinds := [], alts := [], laidByText := true, laidKinds := [.data, .data, .data, .data, .data, .data, .pinned, .pinned], laidTests := true, laidLooks := .later }
def CodecAsciiCardSaid : Prop := Claim7.holds Tryz.pinned (.plain (OpenSpec.ofChange codecAsciiSpec)) codecAsciiCard

/-- THE TIED CARD OF 'lontarlaw20.StreamOpen'. -/
def streamOpenCard : Claim7 := { stood := { row := streamOpenRow, standIns := [], harness := (true, "604f2485d28dd463bed144070c17c049f6d1394d93ff3ee52b55bbbf2acf64bc"), looks := false }, kinds := [], alts := [], laidByText := true, laidKinds := [.data, .data, .data, .data, .data, .data, .pinned, .pinned], laidTests := true, laidLooks := .later }
def StreamOpenCardSaid : Prop := Claim7.holds Tryz.pinned (.plain (OpenSpec.ofChange streamOpenSpec)) streamOpenCard

/-- THE TIED CARD OF 'lontarlaw20.StreamCanon'. -/
def streamCanonCard : Claim7 := { stood := { row := streamCanonRow, standIns := [], harness := (true, "604f2485d28dd463bed144070c17c049f6d1394d93ff3ee52b55bbbf2acf64bc"), looks := false }, kinds := [], alts := [], laidByText := true, laidKinds := [.data, .data, .data, .data, .data, .data, .pinned, .pinned], laidTests := true, laidLooks := .later }
def StreamCanonCardSaid : Prop := Claim7.holds Tryz.pinned (.plain (OpenSpec.ofChange streamCanonSpec)) streamCanonCard

/-- THE TIED CARD OF 'lontarlaw22.ScriptActs'. -/
def scriptActsCard : Claim7 := { stood := { row := scriptActsRow, standIns := [], harness := (true, "604f2485d28dd463bed144070c17c049f6d1394d93ff3ee52b55bbbf2acf64bc"), looks := false }, kinds := [], alts := [], laidByText := true, laidKinds := [.data, .data, .data, .data, .data, .data, .pinned, .pinned], laidTests := true, laidLooks := .later }
def ScriptActsCardSaid : Prop := Claim7.holds Tryz.pinned (.plain (OpenSpec.ofChange scriptActsSpec)) scriptActsCard

/-- THE TIED CARD OF 'lontarlaw22.ScriptPair'. -/
def scriptPairCard : Claim7 := { stood := { row := scriptPairRow, standIns := [], harness := (true, "604f2485d28dd463bed144070c17c049f6d1394d93ff3ee52b55bbbf2acf64bc"), looks := false }, kinds := [], alts := [], laidByText := true, laidKinds := [.data, .data, .data, .data, .data, .data, .pinned, .pinned], laidTests := true, laidLooks := .later }
def ScriptPairCardSaid : Prop := Claim7.holds Tryz.pinned (.plain (OpenSpec.ofChange scriptPairSpec)) scriptPairCard

/-- THE TIED CARD OF 'lontarlaw22.ScriptRooms'. -/
def scriptRoomsCard : Claim7 := { stood := { row := scriptRoomsRow, standIns := [], harness := (true, "604f2485d28dd463bed144070c17c049f6d1394d93ff3ee52b55bbbf2acf64bc"), looks := false }, kinds := [], alts := [], laidByText := true, laidKinds := [.data, .data, .data, .data, .data, .data, .pinned, .pinned], laidTests := true, laidLooks := .later }
def ScriptRoomsCardSaid : Prop := Claim7.holds Tryz.pinned (.plain (OpenSpec.ofChange scriptRoomsSpec)) scriptRoomsCard

/-- THE SECOND FORM's CARD OF 'lontarlaw19.CodecDecode'. -/
def codecDecodeUptoCard : Claim7 := { stood := { row := codecDecodeUptoRow, standIns := [], harness := (true, "604f2485d28dd463bed144070c17c049f6d1394d93ff3ee52b55bbbf2acf64bc"), looks := false }, kinds := [], alts := [], laidByText := true, laidKinds := [.data, .data, .data, .data, .data, .data, .pinned, .pinned], laidTests := true, laidLooks := .later }
def CodecDecodeUptoCardSaid : Prop := Claim7.holds Tryz.pinned (.plain (OpenSpec.upto codecDecodeSpec)) codecDecodeUptoCard

/-- THE SECOND FORM's CARD OF 'lontarlaw19.CodecTable'. -/
def codecTableUptoCard : Claim7 := { stood := { row := codecTableUptoRow, standIns := [], harness := (true, "604f2485d28dd463bed144070c17c049f6d1394d93ff3ee52b55bbbf2acf64bc"), looks := false }, kinds := [], alts := [], laidByText := true, laidKinds := [.data, .data, .data, .data, .data, .data, .pinned, .pinned], laidTests := true, laidLooks := .later }
def CodecTableUptoCardSaid : Prop := Claim7.holds Tryz.pinned (.plain (OpenSpec.upto codecTableSpec)) codecTableUptoCard

/-- THE SECOND FORM's CARD OF 'lontarlaw19.CodecAscii'. -/
def codecAsciiUptoCard : Claim7 := { stood := { row := codecAsciiUptoRow, standIns := [], harness := (true, "604f2485d28dd463bed144070c17c049f6d1394d93ff3ee52b55bbbf2acf64bc"), looks := false }, kinds := [], alts := [], laidByText := true, laidKinds := [.data, .data, .data, .data, .data, .data, .pinned, .pinned], laidTests := true, laidLooks := .later }
def CodecAsciiUptoCardSaid : Prop := Claim7.holds Tryz.pinned (.plain (OpenSpec.upto codecAsciiSpec)) codecAsciiUptoCard

/-- THE SECOND FORM's CARD OF 'lontarlaw20.StreamOpen'. -/
def streamOpenUptoCard : Claim7 := { stood := { row := streamOpenUptoRow, standIns := [], harness := (true, "604f2485d28dd463bed144070c17c049f6d1394d93ff3ee52b55bbbf2acf64bc"), looks := false }, kinds := [], alts := [], laidByText := true, laidKinds := [.data, .data, .data, .data, .data, .data, .pinned, .pinned], laidTests := true, laidLooks := .later }
def StreamOpenUptoCardSaid : Prop := Claim7.holds Tryz.pinned (.plain (OpenSpec.upto streamOpenSpec)) streamOpenUptoCard

/-- THE SECOND FORM's CARD OF 'lontarlaw20.StreamCanon'. -/
def streamCanonUptoCard : Claim7 := { stood := { row := streamCanonUptoRow, standIns := [], harness := (true, "604f2485d28dd463bed144070c17c049f6d1394d93ff3ee52b55bbbf2acf64bc"), looks := false }, kinds := [], alts := [], laidByText := true, laidKinds := [.data, .data, .data, .data, .data, .data, .pinned, .pinned], laidTests := true, laidLooks := .later }
def StreamCanonUptoCardSaid : Prop := Claim7.holds Tryz.pinned (.plain (OpenSpec.upto streamCanonSpec)) streamCanonUptoCard

/-- THE SECOND FORM's CARD OF 'lontarlaw22.ScriptActs'. -/
def scriptActsUptoCard : Claim7 := { stood := { row := scriptActsUptoRow, standIns := [], harness := (true, "604f2485d28dd463bed144070c17c049f6d1394d93ff3ee52b55bbbf2acf64bc"), looks := false }, kinds := [], alts := [], laidByText := true, laidKinds := [.data, .data, .data, .data, .data, .data, .pinned, .pinned], laidTests := true, laidLooks := .later }
def ScriptActsUptoCardSaid : Prop := Claim7.holds Tryz.pinned (.plain (OpenSpec.upto scriptActsSpec)) scriptActsUptoCard

/-- THE SECOND FORM's CARD OF 'lontarlaw22.ScriptPair'. -/
def scriptPairUptoCard : Claim7 := { stood := { row := scriptPairUptoRow, standIns := [], harness := (true, "604f2485d28dd463bed144070c17c049f6d1394d93ff3ee52b55bbbf2acf64bc"), looks := false }, kinds := [], alts := [], laidByText := true, laidKinds := [.data, .data, .data, .data, .data, .data, .pinned, .pinned], laidTests := true, laidLooks := .later }
def ScriptPairUptoCardSaid : Prop := Claim7.holds Tryz.pinned (.plain (OpenSpec.upto scriptPairSpec)) scriptPairUptoCard

/-- THE SECOND FORM's CARD OF 'lontarlaw22.ScriptRooms'. -/
def scriptRoomsUptoCard : Claim7 := { stood := { row := scriptRoomsUptoRow, standIns := [], harness := (true, "604f2485d28dd463bed144070c17c049f6d1394d93ff3ee52b55bbbf2acf64bc"), looks := false }, kinds := [], alts := [], laidByText := true, laidKinds := [.data, .data, .data, .data, .data, .data, .pinned, .pinned], laidTests := true, laidLooks := .later }
def ScriptRoomsUptoCardSaid : Prop := Claim7.holds Tryz.pinned (.plain (OpenSpec.upto scriptRoomsSpec)) scriptRoomsUptoCard
end Rows
end Go.Proofs.YtncpokioagpclaaGreatDoor
