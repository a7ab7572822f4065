/-
  DERIVED. GIVEN WITH THE SEED: THE CARDS: each row of YtbegfdlkhmiilaaDoorRows.lean that lists a variable, with what it lists TIED to the program's text (the seventh form; the later family's looks); each row that meets fmt, with fmt's text TOLD by the authors' own Lean function (tested against real Go, not proved from fmt's source: count such statements apart). THE CARD IS WHAT COUNTS. Prove the row's statement (the work); the ties are given (YtbegfdlkhmiilaaDoorTie.lean); close each card by the builder's one call (the guide's Derived/Test/ToyasCard.lean, 'card_holds'). Laid BY PROGRAM, IN A SANDBOX (cutbox-door.mjs). By AI agents, Wed Nov 11 2026. No macro, syntax, notation, axiom, sorry.
-/
import Derived.Test.YtbegfdlkhmiilaaDoorRows
import GoSem.ClaimSeven
namespace Go.Proofs.YtbegfdlkhmiilaaDoor
namespace Rows

/-- THE TIED CARD OF 'lontarlaw07.ThaiDecode'. -/
def thaiDecodeCard : Claim7 := { stood := { row := thaiDecodeRow, standIns := [], harness := (true, "c4e8c975580e70699e935f5829c55198a008450f38fbf12ed40905db699d4337"), looks := false }, kinds := [], alts := [], laidByText := true, laidKinds := [.data], laidTests := true, laidLooks := .later }
def ThaiDecodeCardSaid : Prop := Claim7.holds Tryd.pinned (.plain (OpenSpec.ofChange thaiDecodeSpec)) thaiDecodeCard

/-- THE TIED CARD OF 'lontarlaw07.ThaiEncode'. -/
def thaiEncodeCard : Claim7 := { stood := { row := thaiEncodeRow, standIns := [], harness := (true, "c4e8c975580e70699e935f5829c55198a008450f38fbf12ed40905db699d4337"), looks := false }, kinds := [], alts := [], laidByText := true, laidKinds := [.data], laidTests := true, laidLooks := .later }
def ThaiEncodeCardSaid : Prop := Claim7.holds Tryd.pinned (.plain (OpenSpec.ofChange thaiEncodeSpec)) thaiEncodeCard

/-- THE TIED CARD OF 'lontarlaw07.ThaiClass'. -/
def thaiClassCard : Claim7 := { stood := { row := thaiClassRow, standIns := [], harness := (true, "c4e8c975580e70699e935f5829c55198a008450f38fbf12ed40905db699d4337"), looks := false }, kinds := [], alts := [], laidByText := true, laidKinds := [.data], laidTests := true, laidLooks := .later }
def ThaiClassCardSaid : Prop := Claim7.holds Tryd.pinned (.plain (OpenSpec.ofChange thaiClassSpec)) thaiClassCard

/-- THE TIED CARD OF 'lontarlaw07.ThaiRound'. -/
def thaiRoundCard : Claim7 := { stood := { row := thaiRoundRow, standIns := [], harness := (true, "c4e8c975580e70699e935f5829c55198a008450f38fbf12ed40905db699d4337"), looks := false }, kinds := [], alts := [], laidByText := true, laidKinds := [.data], laidTests := true, laidLooks := .later }
def ThaiRoundCardSaid : Prop := Claim7.holds Tryd.pinned (.plain (OpenSpec.ofChange thaiRoundSpec)) thaiRoundCard

/-- THE TIED CARD OF 'lontarlaw07.ThaiMany'. -/
def thaiManyCard : Claim7 := { stood := { row := thaiManyRow, standIns := [], harness := (true, "c4e8c975580e70699e935f5829c55198a008450f38fbf12ed40905db699d4337"), looks := false }, kinds := [], alts := [], laidByText := true, laidKinds := [.data], laidTests := true, laidLooks := .later }
def ThaiManyCardSaid : Prop := Claim7.holds Tryd.pinned (.plain (OpenSpec.ofChange thaiManySpec)) thaiManyCard

/-- THE SECOND FORM's CARD OF 'lontarlaw07.ThaiDecode'. -/
def thaiDecodeUptoCard : Claim7 := { stood := { row := thaiDecodeUptoRow, standIns := [], harness := (true, "c4e8c975580e70699e935f5829c55198a008450f38fbf12ed40905db699d4337"), looks := false }, kinds := [], alts := [], laidByText := true, laidKinds := [.data], laidTests := true, laidLooks := .later }
def ThaiDecodeUptoCardSaid : Prop := Claim7.holds Tryd.pinned (.plain (OpenSpec.upto thaiDecodeSpec)) thaiDecodeUptoCard

/-- THE SECOND FORM's CARD OF 'lontarlaw07.ThaiEncode'. -/
def thaiEncodeUptoCard : Claim7 := { stood := { row := thaiEncodeUptoRow, standIns := [], harness := (true, "c4e8c975580e70699e935f5829c55198a008450f38fbf12ed40905db699d4337"), looks := false }, kinds := [], alts := [], laidByText := true, laidKinds := [.data], laidTests := true, laidLooks := .later }
def ThaiEncodeUptoCardSaid : Prop := Claim7.holds Tryd.pinned (.plain (OpenSpec.upto thaiEncodeSpec)) thaiEncodeUptoCard

/-- THE SECOND FORM's CARD OF 'lontarlaw07.ThaiClass'. -/
def thaiClassUptoCard : Claim7 := { stood := { row := thaiClassUptoRow, standIns := [], harness := (true, "c4e8c975580e70699e935f5829c55198a008450f38fbf12ed40905db699d4337"), looks := false }, kinds := [], alts := [], laidByText := true, laidKinds := [.data], laidTests := true, laidLooks := .later }
def ThaiClassUptoCardSaid : Prop := Claim7.holds Tryd.pinned (.plain (OpenSpec.upto thaiClassSpec)) thaiClassUptoCard

/-- THE SECOND FORM's CARD OF 'lontarlaw07.ThaiRound'. -/
def thaiRoundUptoCard : Claim7 := { stood := { row := thaiRoundUptoRow, standIns := [], harness := (true, "c4e8c975580e70699e935f5829c55198a008450f38fbf12ed40905db699d4337"), looks := false }, kinds := [], alts := [], laidByText := true, laidKinds := [.data], laidTests := true, laidLooks := .later }
def ThaiRoundUptoCardSaid : Prop := Claim7.holds Tryd.pinned (.plain (OpenSpec.upto thaiRoundSpec)) thaiRoundUptoCard

/-- THE SECOND FORM's CARD OF 'lontarlaw07.ThaiMany'. -/
def thaiManyUptoCard : Claim7 := { stood := { row := thaiManyUptoRow, standIns := [], harness := (true, "c4e8c975580e70699e935f5829c55198a008450f38fbf12ed40905db699d4337"), looks := false }, kinds := [], alts := [], laidByText := true, laidKinds := [.data], laidTests := true, laidLooks := .later }
def ThaiManyUptoCardSaid : Prop := Claim7.holds Tryd.pinned (.plain (OpenSpec.upto thaiManySpec)) thaiManyUptoCard
end Rows
end Go.Proofs.YtbegfdlkhmiilaaDoor
