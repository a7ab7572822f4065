/-
  DERIVED. GIVEN WITH THE SEED: THE CARDS: each row of YtgeecngpmcjdpaaDoorRows.lean that lists a variable, with what it lists TIED to the program's text (the seventh form; the later family's looks); each row that meets fmt, with fmt's text TOLD by the authors' own Lean function (tested against real Go, not proved from fmt's source: count such statements apart). THE CARD IS WHAT COUNTS. Prove the row's statement (the work); the ties are given (YtgeecngpmcjdpaaDoorTie.lean); close each card by the builder's one call (the guide's Derived/Test/ToyasCard.lean, 'card_holds'). Laid BY PROGRAM, IN A SANDBOX (cutbox-door.mjs). By AI agents, Wed Nov 11 2026. No macro, syntax, notation, axiom, sorry.
-/
import Derived.Test.YtgeecngpmcjdpaaDoorRows
import GoSem.ClaimSeven
namespace Go.Proofs.YtgeecngpmcjdpaaDoor
namespace Rows

/-- THE TIED CARD OF 'lontarlaw08.WttKind'. -/
def wttKindCard : Claim7 := { stood := { row := wttKindRow, standIns := [], harness := (true, "68f9a1f322ae838a1e39a0ccb0e2e400ff0bd41f0690aab504ed802bf97d0e74"), looks := false }, kinds := [], alts := [], laidByText := true, laidKinds := [.data, .data], laidTests := true, laidLooks := .later }
def WttKindCardSaid : Prop := Claim7.holds Tryd.pinned (.plain (OpenSpec.ofChange wttKindSpec)) wttKindCard

/-- THE TIED CARD OF 'lontarlaw08.WttMay'. -/
def wttMayCard : Claim7 := { stood := { row := wttMayRow, standIns := [], harness := (true, "68f9a1f322ae838a1e39a0ccb0e2e400ff0bd41f0690aab504ed802bf97d0e74"), looks := false }, kinds := [], alts := [], laidByText := true, laidKinds := [.data, .data], laidTests := true, laidLooks := .later }
def WttMayCardSaid : Prop := Claim7.holds Tryd.pinned (.plain (OpenSpec.ofChange wttMaySpec)) wttMayCard

/-- THE TIED CARD OF 'lontarlaw08.WttCheck'. -/
def wttCheckCard : Claim7 := { stood := { row := wttCheckRow, standIns := [], harness := (true, "68f9a1f322ae838a1e39a0ccb0e2e400ff0bd41f0690aab504ed802bf97d0e74"), looks := false }, kinds := [], alts := [], laidByText := true, laidKinds := [.data, .data], laidTests := true, laidLooks := .later }
def WttCheckCardSaid : Prop := Claim7.holds Tryd.pinned (.plain (OpenSpec.ofChange wttCheckSpec)) wttCheckCard

/-- THE TIED CARD OF 'lontarlaw08.WttChecker'. -/
def wttCheckerCard : Claim7 := { stood := { row := wttCheckerRow, standIns := [], harness := (true, "68f9a1f322ae838a1e39a0ccb0e2e400ff0bd41f0690aab504ed802bf97d0e74"), looks := false }, kinds := [], alts := [], laidByText := true, laidKinds := [.data, .data], laidTests := true, laidLooks := .later }
def WttCheckerCardSaid : Prop := Claim7.holds Tryd.pinned (.plain (OpenSpec.ofChange wttCheckerSpec)) wttCheckerCard

/-- THE TIED CARD OF 'lontarlaw08.WttParts'. -/
def wttPartsCard : Claim7 := { stood := { row := wttPartsRow, standIns := [], harness := (true, "68f9a1f322ae838a1e39a0ccb0e2e400ff0bd41f0690aab504ed802bf97d0e74"), looks := false }, kinds := [], alts := [], laidByText := true, laidKinds := [.data, .data], laidTests := true, laidLooks := .later }
def WttPartsCardSaid : Prop := Claim7.holds Tryd.pinned (.plain (OpenSpec.ofChange wttPartsSpec)) wttPartsCard

/-- THE TIED CARD OF 'lontarlaw08.WttLevels'. -/
def wttLevelsCard : Claim7 := { stood := { row := wttLevelsRow, standIns := [], harness := (true, "68f9a1f322ae838a1e39a0ccb0e2e400ff0bd41f0690aab504ed802bf97d0e74"), looks := false }, kinds := [], alts := [], laidByText := true, laidKinds := [.data, .data], laidTests := true, laidLooks := .later }
def WttLevelsCardSaid : Prop := Claim7.holds Tryd.pinned (.plain (OpenSpec.ofChange wttLevelsSpec)) wttLevelsCard

/-- THE TIED CARD OF 'lontarlaw08.WttGrows'. -/
def wttGrowsCard : Claim7 := { stood := { row := wttGrowsRow, standIns := [], harness := (true, "68f9a1f322ae838a1e39a0ccb0e2e400ff0bd41f0690aab504ed802bf97d0e74"), looks := false }, kinds := [], alts := [], laidByText := true, laidKinds := [.data, .data], laidTests := true, laidLooks := .later }
def WttGrowsCardSaid : Prop := Claim7.holds Tryd.pinned (.plain (OpenSpec.ofChange wttGrowsSpec)) wttGrowsCard

/-- THE SECOND FORM's CARD OF 'lontarlaw08.WttKind'. -/
def wttKindUptoCard : Claim7 := { stood := { row := wttKindUptoRow, standIns := [], harness := (true, "68f9a1f322ae838a1e39a0ccb0e2e400ff0bd41f0690aab504ed802bf97d0e74"), looks := false }, kinds := [], alts := [], laidByText := true, laidKinds := [.data, .data], laidTests := true, laidLooks := .later }
def WttKindUptoCardSaid : Prop := Claim7.holds Tryd.pinned (.plain (OpenSpec.upto wttKindSpec)) wttKindUptoCard

/-- THE SECOND FORM's CARD OF 'lontarlaw08.WttMay'. -/
def wttMayUptoCard : Claim7 := { stood := { row := wttMayUptoRow, standIns := [], harness := (true, "68f9a1f322ae838a1e39a0ccb0e2e400ff0bd41f0690aab504ed802bf97d0e74"), looks := false }, kinds := [], alts := [], laidByText := true, laidKinds := [.data, .data], laidTests := true, laidLooks := .later }
def WttMayUptoCardSaid : Prop := Claim7.holds Tryd.pinned (.plain (OpenSpec.upto wttMaySpec)) wttMayUptoCard

/-- THE SECOND FORM's CARD OF 'lontarlaw08.WttCheck'. -/
def wttCheckUptoCard : Claim7 := { stood := { row := wttCheckUptoRow, standIns := [], harness := (true, "68f9a1f322ae838a1e39a0ccb0e2e400ff0bd41f0690aab504ed802bf97d0e74"), looks := false }, kinds := [], alts := [], laidByText := true, laidKinds := [.data, .data], laidTests := true, laidLooks := .later }
def WttCheckUptoCardSaid : Prop := Claim7.holds Tryd.pinned (.plain (OpenSpec.upto wttCheckSpec)) wttCheckUptoCard

/-- THE SECOND FORM's CARD OF 'lontarlaw08.WttChecker'. -/
def wttCheckerUptoCard : Claim7 := { stood := { row := wttCheckerUptoRow, standIns := [], harness := (true, "68f9a1f322ae838a1e39a0ccb0e2e400ff0bd41f0690aab504ed802bf97d0e74"), looks := false }, kinds := [], alts := [], laidByText := true, laidKinds := [.data, .data], laidTests := true, laidLooks := .later }
def WttCheckerUptoCardSaid : Prop := Claim7.holds Tryd.pinned (.plain (OpenSpec.upto wttCheckerSpec)) wttCheckerUptoCard

/-- THE SECOND FORM's CARD OF 'lontarlaw08.WttParts'. -/
def wttPartsUptoCard : Claim7 := { stood := { row := wttPartsUptoRow, standIns := [], harness := (true, "68f9a1f322ae838a1e39a0ccb0e2e400ff0bd41f0690aab504ed802bf97d0e74"), looks := false }, kinds := [], alts := [], laidByText := true, laidKinds := [.data, .data], laidTests := true, laidLooks := .later }
def WttPartsUptoCardSaid : Prop := Claim7.holds Tryd.pinned (.plain (OpenSpec.upto wttPartsSpec)) wttPartsUptoCard

/-- THE SECOND FORM's CARD OF 'lontarlaw08.WttLevels'. -/
def wttLevelsUptoCard : Claim7 := { stood := { row := wttLevelsUptoRow, standIns := [], harness := (true, "68f9a1f322ae838a1e39a0ccb0e2e400ff0bd41f0690aab504ed802bf97d0e74"), looks := false }, kinds := [], alts := [], laidByText := true, laidKinds := [.data, .data], laidTests := true, laidLooks := .later }
def WttLevelsUptoCardSaid : Prop := Claim7.holds Tryd.pinned (.plain (OpenSpec.upto wttLevelsSpec)) wttLevelsUptoCard

/-- THE SECOND FORM's CARD OF 'lontarlaw08.WttGrows'. -/
def wttGrowsUptoCard : Claim7 := { stood := { row := wttGrowsUptoRow, standIns := [], harness := (true, "68f9a1f322ae838a1e39a0ccb0e2e400ff0bd41f0690aab504ed802bf97d0e74"), looks := false }, kinds := [], alts := [], laidByText := true, laidKinds := [.data, .data], laidTests := true, laidLooks := .later }
def WttGrowsUptoCardSaid : Prop := Claim7.holds Tryd.pinned (.plain (OpenSpec.upto wttGrowsSpec)) wttGrowsUptoCard
end Rows
end Go.Proofs.YtgeecngpmcjdpaaDoor
