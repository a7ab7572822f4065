/-
  DERIVED. GIVEN WITH THE SEED: THE CARDS: each row of YtmenjcdmdmngcaaGreatDoorRows.lean that lists a variable, with what it lists TIED to the program's text (the seventh form; the later family's looks); each row that meets fmt, with fmt's text TOLD by the authors' own Lean function (tested against real Go, not proved from fmt's source: count such statements apart). THE CARD IS WHAT COUNTS. Prove the row's statement (the work); the ties are given (YtmenjcdmdmngcaaGreatDoorTie.lean); close each card by the builder's one call (the guide's Derived/Test/ToyasCard.lean, 'card_holds'). Laid BY PROGRAM, IN A SANDBOX (cutbox-door.mjs). By AI agents, Wed Nov 11 2026. No macro, syntax, notation, axiom, sorry.
-/
import Derived.Test.YtmenjcdmdmngcaaGreatDoorRows
import GoSem.ClaimSeven
namespace Go.Proofs.YtmenjcdmdmngcaaGreatDoor
namespace Rows

/-- THE TIED CARD OF 'lontarlaw19.CodecName'. -/
def codecNameCard : Claim7 := { stood := { row := codecNameRow, standIns := [], harness := (true, "1b00222e2e36f5695dc412933bea380c6204b2dd38bba80b3f6f6f3716ab48fe"), looks := false }, kinds := [], alts := [], laidByText := true, laidKinds := [.data, .data, .data, .data, .data, .data, .pinned, .pinned], laidTests := true, laidLooks := .later }
def CodecNameCardSaid : Prop := Claim7.holds Tryz.pinned (.plain (OpenSpec.ofChange codecNameSpec)) codecNameCard

/-- THE TIED CARD OF 'lontarlaw19.CodecDecode'. -/
def codecDecodeCard : Claim7 := { stood := { row := codecDecodeRow, standIns := [], harness := (true, "1b00222e2e36f5695dc412933bea380c6204b2dd38bba80b3f6f6f3716ab48fe"), looks := false }, kinds := [], alts := [], laidByText := true, laidKinds := [.data, .data, .data, .data, .data, .data, .pinned, .pinned], laidTests := true, laidLooks := .later }
def CodecDecodeCardSaid : Prop := Claim7.holds Tryz.pinned (.plain (OpenSpec.ofChange codecDecodeSpec)) codecDecodeCard

/-- THE TIED CARD OF 'lontarlaw19.CodecBack'. -/
def codecBackCard : Claim7 := { stood := { row := codecBackRow, standIns := [], harness := (true, "1b00222e2e36f5695dc412933bea380c6204b2dd38bba80b3f6f6f3716ab48fe"), looks := false }, kinds := [], alts := [], laidByText := true, laidKinds := [.data, .data, .data, .data, .data, .data, .pinned, .pinned], laidTests := true, laidLooks := .later }
def CodecBackCardSaid : Prop := Claim7.holds Tryz.pinned (.plain (OpenSpec.ofChange codecBackSpec)) codecBackCard

/-- THE TIED CARD OF 'lontarlaw19.CodecTable'. -/
def codecTableCard : Claim7 := { stood := { row := codecTableRow, standIns := [], harness := (true, "1b00222e2e36f5695dc412933bea380c6204b2dd38bba80b3f6f6f3716ab48fe"), looks := false }, kinds := [], alts := [], laidByText := true, laidKinds := [.data, .data, .data, .data, .data, .data, .pinned, .pinned], laidTests := true, laidLooks := .later }
def CodecTableCardSaid : Prop := Claim7.holds Tryz.pinned (.plain (OpenSpec.ofChange codecTableSpec)) codecTableCard

/-- THE TIED CARD OF 'lontarlaw19.CodecEncode'. -/
def codecEncodeCard : Claim7 := { stood := { row := codecEncodeRow, standIns := [], harness := (true, "1b00222e2e36f5695dc412933bea380c6204b2dd38bba80b3f6f6f3716ab48fe"), looks := false }, kinds := [], alts := [], laidByText := true, laidKinds := [.data, .data, .data, .data, .data, .data, .pinned, .pinned], laidTests := true, laidLooks := .later }
def CodecEncodeCardSaid : Prop := Claim7.holds Tryz.pinned (.plain (OpenSpec.ofChange codecEncodeSpec)) codecEncodeCard

/-- THE TIED CARD OF 'lontarlaw19.CodecNormal'. -/
def codecNormalCard : Claim7 := { stood := { row := codecNormalRow, standIns := [], harness := (true, "1b00222e2e36f5695dc412933bea380c6204b2dd38bba80b3f6f6f3716ab48fe"), looks := false }, kinds := [], alts := [], laidByText := true, laidKinds := [.data, .data, .data, .data, .data, .data, .pinned, .pinned], laidTests := true, laidLooks := .later }
def CodecNormalCardSaid : Prop := Claim7.holds Tryz.pinned (.plain (OpenSpec.ofChange codecNormalSpec)) codecNormalCard

/-- THE TIED CARD OF 'lontarlaw19.CodecAscii'. -/
def codecAsciiCard : Claim7 := { stood := { row := codecAsciiRow, standIns := [], harness := (true, "1b00222e2e36f5695dc412933bea380c6204b2dd38bba80b3f6f6f3716ab48fe"), looks := false }, kinds := [], alts := [], laidByText := true, laidKinds := [.data, .data, .data, .data, .data, .data, .pinned, .pinned], laidTests := true, laidLooks := .later }
def CodecAsciiCardSaid : Prop := Claim7.holds Tryz.pinned (.plain (OpenSpec.ofChange codecAsciiSpec)) codecAsciiCard

/-- THE SECOND FORM's CARD OF 'lontarlaw19.CodecName'. -/
def codecNameUptoCard : Claim7 := { stood := { row := codecNameUptoRow, standIns := [], harness := (true, "1b00222e2e36f5695dc412933bea380c6204b2dd38bba80b3f6f6f3716ab48fe"), looks := false }, kinds := [], alts := [], laidByText := true, laidKinds := [.data, .data, .data, .data, .data, .data, .pinned, .pinned], laidTests := true, laidLooks := .later }
def CodecNameUptoCardSaid : Prop := Claim7.holds Tryz.pinned (.plain (OpenSpec.upto codecNameSpec)) codecNameUptoCard

/-- THE SECOND FORM's CARD OF 'lontarlaw19.CodecDecode'. -/
def codecDecodeUptoCard : Claim7 := { stood := { row := codecDecodeUptoRow, standIns := [], harness := (true, "1b00222e2e36f5695dc412933bea380c6204b2dd38bba80b3f6f6f3716ab48fe"), looks := false }, kinds := [], alts := [], laidByText := true, laidKinds := [.data, .data, .data, .data, .data, .data, .pinned, .pinned], laidTests := true, laidLooks := .later }
def CodecDecodeUptoCardSaid : Prop := Claim7.holds Tryz.pinned (.plain (OpenSpec.upto codecDecodeSpec)) codecDecodeUptoCard

/-- THE SECOND FORM's CARD OF 'lontarlaw19.CodecBack'. -/
def codecBackUptoCard : Claim7 := { stood := { row := codecBackUptoRow, standIns := [], harness := (true, "1b00222e2e36f5695dc412933bea380c6204b2dd38bba80b3f6f6f3716ab48fe"), looks := false }, kinds := [], alts := [], laidByText := true, laidKinds := [.data, .data, .data, .data, .data, .data, .pinned, .pinned], laidTests := true, laidLooks := .later }
def CodecBackUptoCardSaid : Prop := Claim7.holds Tryz.pinned (.plain (OpenSpec.upto codecBackSpec)) codecBackUptoCard

/-- THE SECOND FORM's CARD OF 'lontarlaw19.CodecTable'. -/
def codecTableUptoCard : Claim7 := { stood := { row := codecTableUptoRow, standIns := [], harness := (true, "1b00222e2e36f5695dc412933bea380c6204b2dd38bba80b3f6f6f3716ab48fe"), looks := false }, kinds := [], alts := [], laidByText := true, laidKinds := [.data, .data, .data, .data, .data, .data, .pinned, .pinned], laidTests := true, laidLooks := .later }
def CodecTableUptoCardSaid : Prop := Claim7.holds Tryz.pinned (.plain (OpenSpec.upto codecTableSpec)) codecTableUptoCard

/-- THE SECOND FORM's CARD OF 'lontarlaw19.CodecEncode'. -/
def codecEncodeUptoCard : Claim7 := { stood := { row := codecEncodeUptoRow, standIns := [], harness := (true, "1b00222e2e36f5695dc412933bea380c6204b2dd38bba80b3f6f6f3716ab48fe"), looks := false }, kinds := [], alts := [], laidByText := true, laidKinds := [.data, .data, .data, .data, .data, .data, .pinned, .pinned], laidTests := true, laidLooks := .later }
def CodecEncodeUptoCardSaid : Prop := Claim7.holds Tryz.pinned (.plain (OpenSpec.upto codecEncodeSpec)) codecEncodeUptoCard

/-- THE SECOND FORM's CARD OF 'lontarlaw19.CodecNormal'. -/
def codecNormalUptoCard : Claim7 := { stood := { row := codecNormalUptoRow, standIns := [], harness := (true, "1b00222e2e36f5695dc412933bea380c6204b2dd38bba80b3f6f6f3716ab48fe"), looks := false }, kinds := [], alts := [], laidByText := true, laidKinds := [.data, .data, .data, .data, .data, .data, .pinned, .pinned], laidTests := true, laidLooks := .later }
def CodecNormalUptoCardSaid : Prop := Claim7.holds Tryz.pinned (.plain (OpenSpec.upto codecNormalSpec)) codecNormalUptoCard

/-- THE SECOND FORM's CARD OF 'lontarlaw19.CodecAscii'. -/
def codecAsciiUptoCard : Claim7 := { stood := { row := codecAsciiUptoRow, standIns := [], harness := (true, "1b00222e2e36f5695dc412933bea380c6204b2dd38bba80b3f6f6f3716ab48fe"), looks := false }, kinds := [], alts := [], laidByText := true, laidKinds := [.data, .data, .data, .data, .data, .data, .pinned, .pinned], laidTests := true, laidLooks := .later }
def CodecAsciiUptoCardSaid : Prop := Claim7.holds Tryz.pinned (.plain (OpenSpec.upto codecAsciiSpec)) codecAsciiUptoCard
end Rows
end Go.Proofs.YtmenjcdmdmngcaaGreatDoor
