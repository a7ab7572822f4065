/-
  DERIVED. GIVEN WITH THE SEED: THE CARDS: each row of YthgomhmalmmhlaaDoorRows.lean that lists a variable, with what it lists TIED to the program's text (the seventh form; the later family's looks); each row that meets fmt, with fmt's text TOLD by the authors' own Lean function (tested against real Go, not proved from fmt's source: count such statements apart). THE CARD IS WHAT COUNTS. Prove the row's statement (the work); the ties are given (YthgomhmalmmhlaaDoorTie.lean); close each card by the builder's one call (the guide's Derived/Test/ToyasCard.lean, 'card_holds'). Laid BY PROGRAM, IN A SANDBOX (cutbox-door.mjs). By AI agents, Wed Nov 11 2026. No macro, syntax, notation, axiom, sorry.
-/
import Derived.Test.YthgomhmalmmhlaaDoorRows
import GoSem.ClaimSeven
namespace Go.Proofs.YthgomhmalmmhlaaDoor
namespace Rows

/-- THE TIED CARD OF 'lontarlaw14.IndicPlace'. -/
def indicPlaceCard : Claim7 := { stood := { row := indicPlaceRow, standIns := [], harness := (true, "1443a09017d45bbd7d7c0f7f3a074903439a89e8920e182be2a0d9700684fd6e"), looks := false }, kinds := [], alts := [], laidByText := true, laidKinds := [.data, .data], laidTests := true, laidLooks := .later }
def IndicPlaceCardSaid : Prop := Claim7.holds Tryd.pinned (.plain (OpenSpec.ofChange indicPlaceSpec)) indicPlaceCard

/-- THE TIED CARD OF 'lontarlaw14.IndicOf'. -/
def indicOfCard : Claim7 := { stood := { row := indicOfRow, standIns := [], harness := (true, "1443a09017d45bbd7d7c0f7f3a074903439a89e8920e182be2a0d9700684fd6e"), looks := false }, kinds := [], alts := [], laidByText := true, laidKinds := [.data, .data], laidTests := true, laidLooks := .later }
def IndicOfCardSaid : Prop := Claim7.holds Tryd.pinned (.plain (OpenSpec.ofChange indicOfSpec)) indicOfCard

/-- THE TIED CARD OF 'lontarlaw14.IndicCode'. -/
def indicCodeCard : Claim7 := { stood := { row := indicCodeRow, standIns := [], harness := (true, "1443a09017d45bbd7d7c0f7f3a074903439a89e8920e182be2a0d9700684fd6e"), looks := false }, kinds := [], alts := [], laidByText := true, laidKinds := [.data, .data], laidTests := true, laidLooks := .later }
def IndicCodeCardSaid : Prop := Claim7.holds Tryd.pinned (.plain (OpenSpec.ofChange indicCodeSpec)) indicCodeCard

/-- THE TIED CARD OF 'lontarlaw14.IndicRules'. -/
def indicRulesCard : Claim7 := { stood := { row := indicRulesRow, standIns := [], harness := (true, "1443a09017d45bbd7d7c0f7f3a074903439a89e8920e182be2a0d9700684fd6e"), looks := false }, kinds := [], alts := [], laidByText := true, laidKinds := [.data, .data], laidTests := true, laidLooks := .later }
def IndicRulesCardSaid : Prop := Claim7.holds Tryd.pinned (.plain (OpenSpec.ofChange indicRulesSpec)) indicRulesCard

/-- THE TIED CARD OF 'lontarlaw14.IndicRight'. -/
def indicRightCard : Claim7 := { stood := { row := indicRightRow, standIns := [], harness := (true, "1443a09017d45bbd7d7c0f7f3a074903439a89e8920e182be2a0d9700684fd6e"), looks := false }, kinds := [], alts := [], laidByText := true, laidKinds := [.data, .data], laidTests := true, laidLooks := .later }
def IndicRightCardSaid : Prop := Claim7.holds Tryd.pinned (.plain (OpenSpec.ofChange indicRightSpec)) indicRightCard

/-- THE TIED CARD OF 'lontarlaw14.IndicScalar'. -/
def indicScalarCard : Claim7 := { stood := { row := indicScalarRow, standIns := [], harness := (true, "1443a09017d45bbd7d7c0f7f3a074903439a89e8920e182be2a0d9700684fd6e"), looks := false }, kinds := [], alts := [], laidByText := true, laidKinds := [.data, .data], laidTests := true, laidLooks := .later }
def IndicScalarCardSaid : Prop := Claim7.holds Tryd.pinned (.plain (OpenSpec.ofChange indicScalarSpec)) indicScalarCard

/-- THE TIED CARD OF 'lontarlaw14.IndicNukta'. -/
def indicNuktaCard : Claim7 := { stood := { row := indicNuktaRow, standIns := [], harness := (true, "1443a09017d45bbd7d7c0f7f3a074903439a89e8920e182be2a0d9700684fd6e"), looks := false }, kinds := [], alts := [], laidByText := true, laidKinds := [.data, .data], laidTests := true, laidLooks := .later }
def IndicNuktaCardSaid : Prop := Claim7.holds Tryd.pinned (.plain (OpenSpec.ofChange indicNuktaSpec)) indicNuktaCard

/-- THE SECOND FORM's CARD OF 'lontarlaw14.IndicPlace'. -/
def indicPlaceUptoCard : Claim7 := { stood := { row := indicPlaceUptoRow, standIns := [], harness := (true, "1443a09017d45bbd7d7c0f7f3a074903439a89e8920e182be2a0d9700684fd6e"), looks := false }, kinds := [], alts := [], laidByText := true, laidKinds := [.data, .data], laidTests := true, laidLooks := .later }
def IndicPlaceUptoCardSaid : Prop := Claim7.holds Tryd.pinned (.plain (OpenSpec.upto indicPlaceSpec)) indicPlaceUptoCard

/-- THE SECOND FORM's CARD OF 'lontarlaw14.IndicOf'. -/
def indicOfUptoCard : Claim7 := { stood := { row := indicOfUptoRow, standIns := [], harness := (true, "1443a09017d45bbd7d7c0f7f3a074903439a89e8920e182be2a0d9700684fd6e"), looks := false }, kinds := [], alts := [], laidByText := true, laidKinds := [.data, .data], laidTests := true, laidLooks := .later }
def IndicOfUptoCardSaid : Prop := Claim7.holds Tryd.pinned (.plain (OpenSpec.upto indicOfSpec)) indicOfUptoCard

/-- THE SECOND FORM's CARD OF 'lontarlaw14.IndicCode'. -/
def indicCodeUptoCard : Claim7 := { stood := { row := indicCodeUptoRow, standIns := [], harness := (true, "1443a09017d45bbd7d7c0f7f3a074903439a89e8920e182be2a0d9700684fd6e"), looks := false }, kinds := [], alts := [], laidByText := true, laidKinds := [.data, .data], laidTests := true, laidLooks := .later }
def IndicCodeUptoCardSaid : Prop := Claim7.holds Tryd.pinned (.plain (OpenSpec.upto indicCodeSpec)) indicCodeUptoCard

/-- THE SECOND FORM's CARD OF 'lontarlaw14.IndicRules'. -/
def indicRulesUptoCard : Claim7 := { stood := { row := indicRulesUptoRow, standIns := [], harness := (true, "1443a09017d45bbd7d7c0f7f3a074903439a89e8920e182be2a0d9700684fd6e"), looks := false }, kinds := [], alts := [], laidByText := true, laidKinds := [.data, .data], laidTests := true, laidLooks := .later }
def IndicRulesUptoCardSaid : Prop := Claim7.holds Tryd.pinned (.plain (OpenSpec.upto indicRulesSpec)) indicRulesUptoCard

/-- THE SECOND FORM's CARD OF 'lontarlaw14.IndicRight'. -/
def indicRightUptoCard : Claim7 := { stood := { row := indicRightUptoRow, standIns := [], harness := (true, "1443a09017d45bbd7d7c0f7f3a074903439a89e8920e182be2a0d9700684fd6e"), looks := false }, kinds := [], alts := [], laidByText := true, laidKinds := [.data, .data], laidTests := true, laidLooks := .later }
def IndicRightUptoCardSaid : Prop := Claim7.holds Tryd.pinned (.plain (OpenSpec.upto indicRightSpec)) indicRightUptoCard

/-- THE SECOND FORM's CARD OF 'lontarlaw14.IndicScalar'. -/
def indicScalarUptoCard : Claim7 := { stood := { row := indicScalarUptoRow, standIns := [], harness := (true, "1443a09017d45bbd7d7c0f7f3a074903439a89e8920e182be2a0d9700684fd6e"), looks := false }, kinds := [], alts := [], laidByText := true, laidKinds := [.data, .data], laidTests := true, laidLooks := .later }
def IndicScalarUptoCardSaid : Prop := Claim7.holds Tryd.pinned (.plain (OpenSpec.upto indicScalarSpec)) indicScalarUptoCard

/-- THE SECOND FORM's CARD OF 'lontarlaw14.IndicNukta'. -/
def indicNuktaUptoCard : Claim7 := { stood := { row := indicNuktaUptoRow, standIns := [], harness := (true, "1443a09017d45bbd7d7c0f7f3a074903439a89e8920e182be2a0d9700684fd6e"), looks := false }, kinds := [], alts := [], laidByText := true, laidKinds := [.data, .data], laidTests := true, laidLooks := .later }
def IndicNuktaUptoCardSaid : Prop := Claim7.holds Tryd.pinned (.plain (OpenSpec.upto indicNuktaSpec)) indicNuktaUptoCard
end Rows
end Go.Proofs.YthgomhmalmmhlaaDoor
