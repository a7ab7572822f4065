/-
  DERIVED. GIVEN WITH THE SEED: THE CARDS: each row of YtapnefjiecabpaaGreatDoorRows.lean that lists a variable, with what it lists TIED to the program's text (the seventh form; the later family's looks); each row that meets fmt, with fmt's text TOLD by the authors' own Lean function (tested against real Go, not proved from fmt's source: count such statements apart). THE CARD IS WHAT COUNTS. Prove the row's statement (the work); the ties are given (YtapnefjiecabpaaGreatDoorTie.lean); close each card by the builder's one call (the guide's Derived/Test/ToyasCard.lean, 'card_holds'). Laid BY PROGRAM, IN A SANDBOX (cutbox-door.mjs). By AI agents, Wed Nov 11 2026. No macro, syntax, notation, axiom, sorry.
-/
import Derived.Test.YtapnefjiecabpaaGreatDoorRows
import GoSem.ClaimSeven
namespace Go.Proofs.YtapnefjiecabpaaGreatDoor
namespace Rows

/-- THE TIED CARD OF 'lontarlaw19.CodecDecode'. -/
def codecDecodeCard : Claim7 := { stood := { row := codecDecodeRow, standIns := [], harness := (true, "783797e116aca788226be19308cde487e55a56ab6e0261d74117b3b18d86adbd"), looks := false }, kinds := [], alts := [], laidByText := true, laidKinds := [.data, .data, .data, .data, .data, .data, .pinned, .pinned], laidTests := true, laidLooks := .later }
def CodecDecodeCardSaid : Prop := Claim7.holds Tryz.pinned (.plain (OpenSpec.ofChange codecDecodeSpec)) codecDecodeCard

/-- THE TIED CARD OF 'lontarlaw19.CodecTable'. -/
def codecTableCard : Claim7 := { stood := { row := codecTableRow, standIns := [], harness := (true, "783797e116aca788226be19308cde487e55a56ab6e0261d74117b3b18d86adbd"), looks := false }, kinds := [], alts := [], laidByText := true, laidKinds := [.data, .data, .data, .data, .data, .data, .pinned, .pinned], laidTests := true, laidLooks := .later }
def CodecTableCardSaid : Prop := Claim7.holds Tryz.pinned (.plain (OpenSpec.ofChange codecTableSpec)) codecTableCard

/-- THE TIED CARD OF 'lontarlaw19.CodecAscii'. -/
def codecAsciiCard : Claim7 := { stood := { row := codecAsciiRow, standIns := [], harness := (true, "783797e116aca788226be19308cde487e55a56ab6e0261d74117b3b18d86adbd"), looks := false }, kinds := [], alts := [], laidByText := true, laidKinds := [.data, .data, .data, .data, .data, .data, .pinned, .pinned], laidTests := true, laidLooks := .later }
def CodecAsciiCardSaid : Prop := Claim7.holds Tryz.pinned (.plain (OpenSpec.ofChange codecAsciiSpec)) codecAsciiCard

/-- THE TIED CARD OF 'lontarlaw20.StreamAll'. -/
def streamAllCard : Claim7 := { stood := { row := streamAllRow, standIns := [], harness := (true, "783797e116aca788226be19308cde487e55a56ab6e0261d74117b3b18d86adbd"), looks := false }, kinds := [], alts := [], laidByText := true, laidKinds := [.data, .data, .data, .data, .data, .data, .pinned, .pinned], laidTests := true, laidLooks := .later }
def StreamAllCardSaid : Prop := Claim7.holds Tryz.pinned (.plain (OpenSpec.ofChange streamAllSpec)) streamAllCard

/-- THE TIED CARD OF 'lontarlaw20.StreamOpen'. -/
def streamOpenCard : Claim7 := { stood := { row := streamOpenRow, standIns := [], harness := (true, "783797e116aca788226be19308cde487e55a56ab6e0261d74117b3b18d86adbd"), looks := false }, kinds := [], alts := [], laidByText := true, laidKinds := [.data, .data, .data, .data, .data, .data, .pinned, .pinned], laidTests := true, laidLooks := .later }
def StreamOpenCardSaid : Prop := Claim7.holds Tryz.pinned (.plain (OpenSpec.ofChange streamOpenSpec)) streamOpenCard

/-- THE TIED CARD OF 'lontarlaw20.StreamRoom'. -/
def streamRoomCard : Claim7 := { stood := { row := streamRoomRow, standIns := [], harness := (true, "783797e116aca788226be19308cde487e55a56ab6e0261d74117b3b18d86adbd"), looks := false }, kinds := [], alts := [], laidByText := true, laidKinds := [.data, .data, .data, .data, .data, .data, .pinned, .pinned], laidTests := true, laidLooks := .later }
def StreamRoomCardSaid : Prop := Claim7.holds Tryz.pinned (.plain (OpenSpec.ofChange streamRoomSpec)) streamRoomCard

/-- THE TIED CARD OF 'lontarlaw20.StreamHeld'. -/
def streamHeldCard : Claim7 := { stood := { row := streamHeldRow, standIns := [], harness := (true, "783797e116aca788226be19308cde487e55a56ab6e0261d74117b3b18d86adbd"), looks := false }, kinds := [], alts := [], laidByText := true, laidKinds := [.data, .data, .data, .data, .data, .data, .pinned, .pinned], laidTests := true, laidLooks := .later }
def StreamHeldCardSaid : Prop := Claim7.holds Tryz.pinned (.plain (OpenSpec.ofChange streamHeldSpec)) streamHeldCard

/-- THE TIED CARD OF 'lontarlaw20.StreamCanon'. -/
def streamCanonCard : Claim7 := { stood := { row := streamCanonRow, standIns := [], harness := (true, "783797e116aca788226be19308cde487e55a56ab6e0261d74117b3b18d86adbd"), looks := false }, kinds := [], alts := [], laidByText := true, laidKinds := [.data, .data, .data, .data, .data, .data, .pinned, .pinned], laidTests := true, laidLooks := .later }
def StreamCanonCardSaid : Prop := Claim7.holds Tryz.pinned (.plain (OpenSpec.ofChange streamCanonSpec)) streamCanonCard

/-- THE TIED CARD OF 'lontarlaw20.StreamSame'. -/
def streamSameCard : Claim7 := { stood := { row := streamSameRow, standIns := [], harness := (true, "783797e116aca788226be19308cde487e55a56ab6e0261d74117b3b18d86adbd"), looks := false }, kinds := [], alts := [], laidByText := true, laidKinds := [.data, .data, .data, .data, .data, .data, .pinned, .pinned], laidTests := true, laidLooks := .later }
def StreamSameCardSaid : Prop := Claim7.holds Tryz.pinned (.plain (OpenSpec.ofChange streamSameSpec)) streamSameCard

/-- THE SECOND FORM's CARD OF 'lontarlaw19.CodecDecode'. -/
def codecDecodeUptoCard : Claim7 := { stood := { row := codecDecodeUptoRow, standIns := [], harness := (true, "783797e116aca788226be19308cde487e55a56ab6e0261d74117b3b18d86adbd"), looks := false }, kinds := [], alts := [], laidByText := true, laidKinds := [.data, .data, .data, .data, .data, .data, .pinned, .pinned], laidTests := true, laidLooks := .later }
def CodecDecodeUptoCardSaid : Prop := Claim7.holds Tryz.pinned (.plain (OpenSpec.upto codecDecodeSpec)) codecDecodeUptoCard

/-- THE SECOND FORM's CARD OF 'lontarlaw19.CodecTable'. -/
def codecTableUptoCard : Claim7 := { stood := { row := codecTableUptoRow, standIns := [], harness := (true, "783797e116aca788226be19308cde487e55a56ab6e0261d74117b3b18d86adbd"), looks := false }, kinds := [], alts := [], laidByText := true, laidKinds := [.data, .data, .data, .data, .data, .data, .pinned, .pinned], laidTests := true, laidLooks := .later }
def CodecTableUptoCardSaid : Prop := Claim7.holds Tryz.pinned (.plain (OpenSpec.upto codecTableSpec)) codecTableUptoCard

/-- THE SECOND FORM's CARD OF 'lontarlaw19.CodecAscii'. -/
def codecAsciiUptoCard : Claim7 := { stood := { row := codecAsciiUptoRow, standIns := [], harness := (true, "783797e116aca788226be19308cde487e55a56ab6e0261d74117b3b18d86adbd"), looks := false }, kinds := [], alts := [], laidByText := true, laidKinds := [.data, .data, .data, .data, .data, .data, .pinned, .pinned], laidTests := true, laidLooks := .later }
def CodecAsciiUptoCardSaid : Prop := Claim7.holds Tryz.pinned (.plain (OpenSpec.upto codecAsciiSpec)) codecAsciiUptoCard

/-- THE SECOND FORM's CARD OF 'lontarlaw20.StreamAll'. -/
def streamAllUptoCard : Claim7 := { stood := { row := streamAllUptoRow, standIns := [], harness := (true, "783797e116aca788226be19308cde487e55a56ab6e0261d74117b3b18d86adbd"), looks := false }, kinds := [], alts := [], laidByText := true, laidKinds := [.data, .data, .data, .data, .data, .data, .pinned, .pinned], laidTests := true, laidLooks := .later }
def StreamAllUptoCardSaid : Prop := Claim7.holds Tryz.pinned (.plain (OpenSpec.upto streamAllSpec)) streamAllUptoCard

/-- THE SECOND FORM's CARD OF 'lontarlaw20.StreamOpen'. -/
def streamOpenUptoCard : Claim7 := { stood := { row := streamOpenUptoRow, standIns := [], harness := (true, "783797e116aca788226be19308cde487e55a56ab6e0261d74117b3b18d86adbd"), looks := false }, kinds := [], alts := [], laidByText := true, laidKinds := [.data, .data, .data, .data, .data, .data, .pinned, .pinned], laidTests := true, laidLooks := .later }
def StreamOpenUptoCardSaid : Prop := Claim7.holds Tryz.pinned (.plain (OpenSpec.upto streamOpenSpec)) streamOpenUptoCard

/-- THE SECOND FORM's CARD OF 'lontarlaw20.StreamRoom'. -/
def streamRoomUptoCard : Claim7 := { stood := { row := streamRoomUptoRow, standIns := [], harness := (true, "783797e116aca788226be19308cde487e55a56ab6e0261d74117b3b18d86adbd"), looks := false }, kinds := [], alts := [], laidByText := true, laidKinds := [.data, .data, .data, .data, .data, .data, .pinned, .pinned], laidTests := true, laidLooks := .later }
def StreamRoomUptoCardSaid : Prop := Claim7.holds Tryz.pinned (.plain (OpenSpec.upto streamRoomSpec)) streamRoomUptoCard

/-- THE SECOND FORM's CARD OF 'lontarlaw20.StreamHeld'. -/
def streamHeldUptoCard : Claim7 := { stood := { row := streamHeldUptoRow, standIns := [], harness := (true, "783797e116aca788226be19308cde487e55a56ab6e0261d74117b3b18d86adbd"), looks := false }, kinds := [], alts := [], laidByText := true, laidKinds := [.data, .data, .data, .data, .data, .data, .pinned, .pinned], laidTests := true, laidLooks := .later }
def StreamHeldUptoCardSaid : Prop := Claim7.holds Tryz.pinned (.plain (OpenSpec.upto streamHeldSpec)) streamHeldUptoCard

/-- THE SECOND FORM's CARD OF 'lontarlaw20.StreamCanon'. -/
def streamCanonUptoCard : Claim7 := { stood := { row := streamCanonUptoRow, standIns := [], harness := (true, "783797e116aca788226be19308cde487e55a56ab6e0261d74117b3b18d86adbd"), looks := false }, kinds := [], alts := [], laidByText := true, laidKinds := [.data, .data, .data, .data, .data, .data, .pinned, .pinned], laidTests := true, laidLooks := .later }
def StreamCanonUptoCardSaid : Prop := Claim7.holds Tryz.pinned (.plain (OpenSpec.upto streamCanonSpec)) streamCanonUptoCard

/-- THE SECOND FORM's CARD OF 'lontarlaw20.StreamSame'. -/
def streamSameUptoCard : Claim7 := { stood := { row := streamSameUptoRow, standIns := [], harness := (true, "783797e116aca788226be19308cde487e55a56ab6e0261d74117b3b18d86adbd"), looks := false }, kinds := [], alts := [], laidByText := true, laidKinds := [.data, .data, .data, .data, .data, .data, .pinned, .pinned], laidTests := true, laidLooks := .later }
def StreamSameUptoCardSaid : Prop := Claim7.holds Tryz.pinned (.plain (OpenSpec.upto streamSameSpec)) streamSameUptoCard
end Rows
end Go.Proofs.YtapnefjiecabpaaGreatDoor
