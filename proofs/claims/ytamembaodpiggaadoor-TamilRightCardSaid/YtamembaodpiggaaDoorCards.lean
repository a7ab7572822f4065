/-
  DERIVED. GIVEN WITH THE SEED: THE CARDS: each row of YtamembaodpiggaaDoorRows.lean that lists a variable, with what it lists TIED to the program's text (the seventh form; the later family's looks); each row that meets fmt, with fmt's text TOLD by the authors' own Lean function (tested against real Go, not proved from fmt's source: count such statements apart). THE CARD IS WHAT COUNTS. Prove the row's statement (the work); the ties are given (YtamembaodpiggaaDoorTie.lean); close each card by the builder's one call (the guide's Derived/Test/ToyasCard.lean, 'card_holds'). Laid BY PROGRAM, IN A SANDBOX (cutbox-door.mjs). By AI agents, Wed Nov 11 2026. No macro, syntax, notation, axiom, sorry.
-/
import Derived.Test.YtamembaodpiggaaDoorRows
import GoSem.ClaimSeven
namespace Go.Proofs.YtamembaodpiggaaDoor
namespace Rows

/-- THE TIED CARD OF 'lontarlaw17.TamilRules'. -/
def tamilRulesCard : Claim7 := { stood := { row := tamilRulesRow, standIns := [], harness := (true, "031a77ad5c8bebbe796d92ae7eb5d205b5b1f3ee70a3fa8ed40e550016c6a406"), looks := false }, kinds := [], alts := [], laidByText := true, laidKinds := [.data], laidTests := true, laidLooks := .later }
def TamilRulesCardSaid : Prop := Claim7.holds Tryd.pinned (.plain (OpenSpec.ofChange tamilRulesSpec)) tamilRulesCard

/-- THE TIED CARD OF 'lontarlaw17.TamilConsonant'. -/
def tamilConsonantCard : Claim7 := { stood := { row := tamilConsonantRow, standIns := [], harness := (true, "031a77ad5c8bebbe796d92ae7eb5d205b5b1f3ee70a3fa8ed40e550016c6a406"), looks := false }, kinds := [], alts := [], laidByText := true, laidKinds := [.data], laidTests := true, laidLooks := .later }
def TamilConsonantCardSaid : Prop := Claim7.holds Tryd.pinned (.plain (OpenSpec.ofChange tamilConsonantSpec)) tamilConsonantCard

/-- THE TIED CARD OF 'lontarlaw17.TamilRight'. -/
def tamilRightCard : Claim7 := { stood := { row := tamilRightRow, standIns := [], harness := (true, "031a77ad5c8bebbe796d92ae7eb5d205b5b1f3ee70a3fa8ed40e550016c6a406"), looks := false }, kinds := [], alts := [], laidByText := true, laidKinds := [.data], laidTests := true, laidLooks := .later }
def TamilRightCardSaid : Prop := Claim7.holds Tryd.pinned (.plain (OpenSpec.ofChange tamilRightSpec)) tamilRightCard

/-- THE TIED CARD OF 'lontarlaw17.TamilMoves'. -/
def tamilMovesCard : Claim7 := { stood := { row := tamilMovesRow, standIns := [], harness := (true, "031a77ad5c8bebbe796d92ae7eb5d205b5b1f3ee70a3fa8ed40e550016c6a406"), looks := false }, kinds := [], alts := [], laidByText := true, laidKinds := [.data], laidTests := true, laidLooks := .later }
def TamilMovesCardSaid : Prop := Claim7.holds Tryd.pinned (.plain (OpenSpec.ofChange tamilMovesSpec)) tamilMovesCard

/-- THE TIED CARD OF 'lontarlaw17.TamilBack'. -/
def tamilBackCard : Claim7 := { stood := { row := tamilBackRow, standIns := [], harness := (true, "031a77ad5c8bebbe796d92ae7eb5d205b5b1f3ee70a3fa8ed40e550016c6a406"), looks := false }, kinds := [], alts := [], laidByText := true, laidKinds := [.data], laidTests := true, laidLooks := .later }
def TamilBackCardSaid : Prop := Claim7.holds Tryd.pinned (.plain (OpenSpec.ofChange tamilBackSpec)) tamilBackCard

/-- THE TIED CARD OF 'lontarlaw17.TamilVowels'. -/
def tamilVowelsCard : Claim7 := { stood := { row := tamilVowelsRow, standIns := [], harness := (true, "031a77ad5c8bebbe796d92ae7eb5d205b5b1f3ee70a3fa8ed40e550016c6a406"), looks := false }, kinds := [], alts := [], laidByText := true, laidKinds := [.data], laidTests := true, laidLooks := .later }
def TamilVowelsCardSaid : Prop := Claim7.holds Tryd.pinned (.plain (OpenSpec.ofChange tamilVowelsSpec)) tamilVowelsCard

/-- THE SECOND FORM's CARD OF 'lontarlaw17.TamilRules'. -/
def tamilRulesUptoCard : Claim7 := { stood := { row := tamilRulesUptoRow, standIns := [], harness := (true, "031a77ad5c8bebbe796d92ae7eb5d205b5b1f3ee70a3fa8ed40e550016c6a406"), looks := false }, kinds := [], alts := [], laidByText := true, laidKinds := [.data], laidTests := true, laidLooks := .later }
def TamilRulesUptoCardSaid : Prop := Claim7.holds Tryd.pinned (.plain (OpenSpec.upto tamilRulesSpec)) tamilRulesUptoCard

/-- THE SECOND FORM's CARD OF 'lontarlaw17.TamilConsonant'. -/
def tamilConsonantUptoCard : Claim7 := { stood := { row := tamilConsonantUptoRow, standIns := [], harness := (true, "031a77ad5c8bebbe796d92ae7eb5d205b5b1f3ee70a3fa8ed40e550016c6a406"), looks := false }, kinds := [], alts := [], laidByText := true, laidKinds := [.data], laidTests := true, laidLooks := .later }
def TamilConsonantUptoCardSaid : Prop := Claim7.holds Tryd.pinned (.plain (OpenSpec.upto tamilConsonantSpec)) tamilConsonantUptoCard

/-- THE SECOND FORM's CARD OF 'lontarlaw17.TamilRight'. -/
def tamilRightUptoCard : Claim7 := { stood := { row := tamilRightUptoRow, standIns := [], harness := (true, "031a77ad5c8bebbe796d92ae7eb5d205b5b1f3ee70a3fa8ed40e550016c6a406"), looks := false }, kinds := [], alts := [], laidByText := true, laidKinds := [.data], laidTests := true, laidLooks := .later }
def TamilRightUptoCardSaid : Prop := Claim7.holds Tryd.pinned (.plain (OpenSpec.upto tamilRightSpec)) tamilRightUptoCard

/-- THE SECOND FORM's CARD OF 'lontarlaw17.TamilMoves'. -/
def tamilMovesUptoCard : Claim7 := { stood := { row := tamilMovesUptoRow, standIns := [], harness := (true, "031a77ad5c8bebbe796d92ae7eb5d205b5b1f3ee70a3fa8ed40e550016c6a406"), looks := false }, kinds := [], alts := [], laidByText := true, laidKinds := [.data], laidTests := true, laidLooks := .later }
def TamilMovesUptoCardSaid : Prop := Claim7.holds Tryd.pinned (.plain (OpenSpec.upto tamilMovesSpec)) tamilMovesUptoCard

/-- THE SECOND FORM's CARD OF 'lontarlaw17.TamilBack'. -/
def tamilBackUptoCard : Claim7 := { stood := { row := tamilBackUptoRow, standIns := [], harness := (true, "031a77ad5c8bebbe796d92ae7eb5d205b5b1f3ee70a3fa8ed40e550016c6a406"), looks := false }, kinds := [], alts := [], laidByText := true, laidKinds := [.data], laidTests := true, laidLooks := .later }
def TamilBackUptoCardSaid : Prop := Claim7.holds Tryd.pinned (.plain (OpenSpec.upto tamilBackSpec)) tamilBackUptoCard

/-- THE SECOND FORM's CARD OF 'lontarlaw17.TamilVowels'. -/
def tamilVowelsUptoCard : Claim7 := { stood := { row := tamilVowelsUptoRow, standIns := [], harness := (true, "031a77ad5c8bebbe796d92ae7eb5d205b5b1f3ee70a3fa8ed40e550016c6a406"), looks := false }, kinds := [], alts := [], laidByText := true, laidKinds := [.data], laidTests := true, laidLooks := .later }
def TamilVowelsUptoCardSaid : Prop := Claim7.holds Tryd.pinned (.plain (OpenSpec.upto tamilVowelsSpec)) tamilVowelsUptoCard
end Rows
end Go.Proofs.YtamembaodpiggaaDoor
