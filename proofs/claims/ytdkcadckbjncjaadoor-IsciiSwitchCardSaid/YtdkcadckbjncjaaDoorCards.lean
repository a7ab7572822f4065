/-
  DERIVED. GIVEN WITH THE SEED: THE CARDS: each row of YtdkcadckbjncjaaDoorRows.lean that lists a variable, with what it lists TIED to the program's text (the seventh form; the later family's looks); each row that meets fmt, with fmt's text TOLD by the authors' own Lean function (tested against real Go, not proved from fmt's source: count such statements apart). THE CARD IS WHAT COUNTS. Prove the row's statement (the work); the ties are given (YtdkcadckbjncjaaDoorTie.lean); close each card by the builder's one call (the guide's Derived/Test/ToyasCard.lean, 'card_holds'). Laid BY PROGRAM, IN A SANDBOX (cutbox-door.mjs). By AI agents, Wed Nov 11 2026. No macro, syntax, notation, axiom, sorry.
-/
import Derived.Test.YtdkcadckbjncjaaDoorRows
import GoSem.ClaimSeven
namespace Go.Proofs.YtdkcadckbjncjaaDoor
namespace Rows

/-- THE TIED CARD OF 'lontarlaw18.IsciiDecode'. -/
def isciiDecodeCard : Claim7 := { stood := { row := isciiDecodeRow, standIns := [], harness := (true, "8bf3a8c3af913f67ccadcd7414b85af82996e22ce0282d5e1431308a591d8a6c"), looks := false }, kinds := [], alts := [], laidByText := true, laidKinds := [.data, .data], laidTests := true, laidLooks := .later }
def IsciiDecodeCardSaid : Prop := Claim7.holds Tryd.pinned (.plain (OpenSpec.ofChange isciiDecodeSpec)) isciiDecodeCard

/-- THE TIED CARD OF 'lontarlaw18.IsciiEncode'. -/
def isciiEncodeCard : Claim7 := { stood := { row := isciiEncodeRow, standIns := [], harness := (true, "8bf3a8c3af913f67ccadcd7414b85af82996e22ce0282d5e1431308a591d8a6c"), looks := false }, kinds := [], alts := [], laidByText := true, laidKinds := [.data, .data], laidTests := true, laidLooks := .later }
def IsciiEncodeCardSaid : Prop := Claim7.holds Tryd.pinned (.plain (OpenSpec.ofChange isciiEncodeSpec)) isciiEncodeCard

/-- THE TIED CARD OF 'lontarlaw18.IsciiBack'. -/
def isciiBackCard : Claim7 := { stood := { row := isciiBackRow, standIns := [], harness := (true, "8bf3a8c3af913f67ccadcd7414b85af82996e22ce0282d5e1431308a591d8a6c"), looks := false }, kinds := [], alts := [], laidByText := true, laidKinds := [.data, .data], laidTests := true, laidLooks := .later }
def IsciiBackCardSaid : Prop := Claim7.holds Tryd.pinned (.plain (OpenSpec.ofChange isciiBackSpec)) isciiBackCard

/-- THE TIED CARD OF 'lontarlaw18.IsciiSwitch'. -/
def isciiSwitchCard : Claim7 := { stood := { row := isciiSwitchRow, standIns := [], harness := (true, "8bf3a8c3af913f67ccadcd7414b85af82996e22ce0282d5e1431308a591d8a6c"), looks := false }, kinds := [], alts := [], laidByText := true, laidKinds := [.data, .data], laidTests := true, laidLooks := .later }
def IsciiSwitchCardSaid : Prop := Claim7.holds Tryd.pinned (.plain (OpenSpec.ofChange isciiSwitchSpec)) isciiSwitchCard

/-- THE TIED CARD OF 'lontarlaw18.IsciiHeld'. -/
def isciiHeldCard : Claim7 := { stood := { row := isciiHeldRow, standIns := [], harness := (true, "8bf3a8c3af913f67ccadcd7414b85af82996e22ce0282d5e1431308a591d8a6c"), looks := false }, kinds := [], alts := [], laidByText := true, laidKinds := [.data, .data], laidTests := true, laidLooks := .later }
def IsciiHeldCardSaid : Prop := Claim7.holds Tryd.pinned (.plain (OpenSpec.ofChange isciiHeldSpec)) isciiHeldCard

/-- THE TIED CARD OF 'lontarlaw18.IsciiScripts'. -/
def isciiScriptsCard : Claim7 := { stood := { row := isciiScriptsRow, standIns := [], harness := (true, "8bf3a8c3af913f67ccadcd7414b85af82996e22ce0282d5e1431308a591d8a6c"), looks := false }, kinds := [], alts := [], laidByText := true, laidKinds := [.data, .data], laidTests := true, laidLooks := .later }
def IsciiScriptsCardSaid : Prop := Claim7.holds Tryd.pinned (.plain (OpenSpec.ofChange isciiScriptsSpec)) isciiScriptsCard

/-- THE SECOND FORM's CARD OF 'lontarlaw18.IsciiDecode'. -/
def isciiDecodeUptoCard : Claim7 := { stood := { row := isciiDecodeUptoRow, standIns := [], harness := (true, "8bf3a8c3af913f67ccadcd7414b85af82996e22ce0282d5e1431308a591d8a6c"), looks := false }, kinds := [], alts := [], laidByText := true, laidKinds := [.data, .data], laidTests := true, laidLooks := .later }
def IsciiDecodeUptoCardSaid : Prop := Claim7.holds Tryd.pinned (.plain (OpenSpec.upto isciiDecodeSpec)) isciiDecodeUptoCard

/-- THE SECOND FORM's CARD OF 'lontarlaw18.IsciiEncode'. -/
def isciiEncodeUptoCard : Claim7 := { stood := { row := isciiEncodeUptoRow, standIns := [], harness := (true, "8bf3a8c3af913f67ccadcd7414b85af82996e22ce0282d5e1431308a591d8a6c"), looks := false }, kinds := [], alts := [], laidByText := true, laidKinds := [.data, .data], laidTests := true, laidLooks := .later }
def IsciiEncodeUptoCardSaid : Prop := Claim7.holds Tryd.pinned (.plain (OpenSpec.upto isciiEncodeSpec)) isciiEncodeUptoCard

/-- THE SECOND FORM's CARD OF 'lontarlaw18.IsciiBack'. -/
def isciiBackUptoCard : Claim7 := { stood := { row := isciiBackUptoRow, standIns := [], harness := (true, "8bf3a8c3af913f67ccadcd7414b85af82996e22ce0282d5e1431308a591d8a6c"), looks := false }, kinds := [], alts := [], laidByText := true, laidKinds := [.data, .data], laidTests := true, laidLooks := .later }
def IsciiBackUptoCardSaid : Prop := Claim7.holds Tryd.pinned (.plain (OpenSpec.upto isciiBackSpec)) isciiBackUptoCard

/-- THE SECOND FORM's CARD OF 'lontarlaw18.IsciiSwitch'. -/
def isciiSwitchUptoCard : Claim7 := { stood := { row := isciiSwitchUptoRow, standIns := [], harness := (true, "8bf3a8c3af913f67ccadcd7414b85af82996e22ce0282d5e1431308a591d8a6c"), looks := false }, kinds := [], alts := [], laidByText := true, laidKinds := [.data, .data], laidTests := true, laidLooks := .later }
def IsciiSwitchUptoCardSaid : Prop := Claim7.holds Tryd.pinned (.plain (OpenSpec.upto isciiSwitchSpec)) isciiSwitchUptoCard

/-- THE SECOND FORM's CARD OF 'lontarlaw18.IsciiHeld'. -/
def isciiHeldUptoCard : Claim7 := { stood := { row := isciiHeldUptoRow, standIns := [], harness := (true, "8bf3a8c3af913f67ccadcd7414b85af82996e22ce0282d5e1431308a591d8a6c"), looks := false }, kinds := [], alts := [], laidByText := true, laidKinds := [.data, .data], laidTests := true, laidLooks := .later }
def IsciiHeldUptoCardSaid : Prop := Claim7.holds Tryd.pinned (.plain (OpenSpec.upto isciiHeldSpec)) isciiHeldUptoCard

/-- THE SECOND FORM's CARD OF 'lontarlaw18.IsciiScripts'. -/
def isciiScriptsUptoCard : Claim7 := { stood := { row := isciiScriptsUptoRow, standIns := [], harness := (true, "8bf3a8c3af913f67ccadcd7414b85af82996e22ce0282d5e1431308a591d8a6c"), looks := false }, kinds := [], alts := [], laidByText := true, laidKinds := [.data, .data], laidTests := true, laidLooks := .later }
def IsciiScriptsUptoCardSaid : Prop := Claim7.holds Tryd.pinned (.plain (OpenSpec.upto isciiScriptsSpec)) isciiScriptsUptoCard
end Rows
end Go.Proofs.YtdkcadckbjncjaaDoor
