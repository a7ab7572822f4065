/-
  DERIVED. GIVEN WITH THE SEED: THE CARDS: each row of YtjolbdfkkhphiaaDoorRows.lean that lists a variable, with what it lists TIED to the program's text (the seventh form; the later family's looks); each row that meets fmt, with fmt's text TOLD by the authors' own Lean function (tested against real Go, not proved from fmt's source: count such statements apart). THE CARD IS WHAT COUNTS. Prove the row's statement (the work); the ties are given (YtjolbdfkkhphiaaDoorTie.lean); close each card by the builder's one call (the guide's Derived/Test/ToyasCard.lean, 'card_holds'). Laid BY PROGRAM, IN A SANDBOX (cutbox-door.mjs). By AI agents, Wed Nov 11 2026. No macro, syntax, notation, axiom, sorry.
-/
import Derived.Test.YtjolbdfkkhphiaaDoorRows
import GoSem.ClaimSeven
namespace Go.Proofs.YtjolbdfkkhphiaaDoor
namespace Rows

/-- THE TIED CARD OF 'lontarlaw10.VcanonAll'. -/
def vcanonAllCard : Claim7 := { stood := { row := vcanonAllRow, standIns := [], harness := (true, "7b5054a5de381c388aea7cd89fac9ae6c1a10f0294117f36ad6329ebc0844b15"), looks := false }, kinds := [], alts := [], laidByText := true, laidKinds := [.data, .data], laidTests := true, laidLooks := .later }
def VcanonAllCardSaid : Prop := Claim7.holds Tryd.pinned (.plain (OpenSpec.ofChange vcanonAllSpec)) vcanonAllCard

/-- THE TIED CARD OF 'lontarlaw10.VcanonPut'. -/
def vcanonPutCard : Claim7 := { stood := { row := vcanonPutRow, standIns := [], harness := (true, "7b5054a5de381c388aea7cd89fac9ae6c1a10f0294117f36ad6329ebc0844b15"), looks := false }, kinds := [], alts := [], laidByText := true, laidKinds := [.data, .data], laidTests := true, laidLooks := .later }
def VcanonPutCardSaid : Prop := Claim7.holds Tryd.pinned (.plain (OpenSpec.ofChange vcanonPutSpec)) vcanonPutCard

/-- THE TIED CARD OF 'lontarlaw10.VcanonTwice'. -/
def vcanonTwiceCard : Claim7 := { stood := { row := vcanonTwiceRow, standIns := [], harness := (true, "7b5054a5de381c388aea7cd89fac9ae6c1a10f0294117f36ad6329ebc0844b15"), looks := false }, kinds := [], alts := [], laidByText := true, laidKinds := [.data, .data], laidTests := true, laidLooks := .later }
def VcanonTwiceCardSaid : Prop := Claim7.holds Tryd.pinned (.plain (OpenSpec.ofChange vcanonTwiceSpec)) vcanonTwiceCard

/-- THE TIED CARD OF 'lontarlaw10.VcanonApart'. -/
def vcanonApartCard : Claim7 := { stood := { row := vcanonApartRow, standIns := [], harness := (true, "7b5054a5de381c388aea7cd89fac9ae6c1a10f0294117f36ad6329ebc0844b15"), looks := false }, kinds := [], alts := [], laidByText := true, laidKinds := [.data, .data], laidTests := true, laidLooks := .later }
def VcanonApartCardSaid : Prop := Claim7.holds Tryd.pinned (.plain (OpenSpec.ofChange vcanonApartSpec)) vcanonApartCard

/-- THE TIED CARD OF 'lontarlaw10.VcanonBack'. -/
def vcanonBackCard : Claim7 := { stood := { row := vcanonBackRow, standIns := [], harness := (true, "7b5054a5de381c388aea7cd89fac9ae6c1a10f0294117f36ad6329ebc0844b15"), looks := false }, kinds := [], alts := [], laidByText := true, laidKinds := [.data, .data], laidTests := true, laidLooks := .later }
def VcanonBackCardSaid : Prop := Claim7.holds Tryd.pinned (.plain (OpenSpec.ofChange vcanonBackSpec)) vcanonBackCard

/-- THE TIED CARD OF 'lontarlaw10.VcanonOrder'. -/
def vcanonOrderCard : Claim7 := { stood := { row := vcanonOrderRow, standIns := [], harness := (true, "7b5054a5de381c388aea7cd89fac9ae6c1a10f0294117f36ad6329ebc0844b15"), looks := false }, kinds := [], alts := [], laidByText := true, laidKinds := [.data, .data], laidTests := true, laidLooks := .later }
def VcanonOrderCardSaid : Prop := Claim7.holds Tryd.pinned (.plain (OpenSpec.ofChange vcanonOrderSpec)) vcanonOrderCard

/-- THE TIED CARD OF 'lontarlaw10.VcanonParts'. -/
def vcanonPartsCard : Claim7 := { stood := { row := vcanonPartsRow, standIns := [], harness := (true, "7b5054a5de381c388aea7cd89fac9ae6c1a10f0294117f36ad6329ebc0844b15"), looks := false }, kinds := [], alts := [], laidByText := true, laidKinds := [.data, .data], laidTests := true, laidLooks := .later }
def VcanonPartsCardSaid : Prop := Claim7.holds Tryd.pinned (.plain (OpenSpec.ofChange vcanonPartsSpec)) vcanonPartsCard

/-- THE SECOND FORM's CARD OF 'lontarlaw10.VcanonAll'. -/
def vcanonAllUptoCard : Claim7 := { stood := { row := vcanonAllUptoRow, standIns := [], harness := (true, "7b5054a5de381c388aea7cd89fac9ae6c1a10f0294117f36ad6329ebc0844b15"), looks := false }, kinds := [], alts := [], laidByText := true, laidKinds := [.data, .data], laidTests := true, laidLooks := .later }
def VcanonAllUptoCardSaid : Prop := Claim7.holds Tryd.pinned (.plain (OpenSpec.upto vcanonAllSpec)) vcanonAllUptoCard

/-- THE SECOND FORM's CARD OF 'lontarlaw10.VcanonPut'. -/
def vcanonPutUptoCard : Claim7 := { stood := { row := vcanonPutUptoRow, standIns := [], harness := (true, "7b5054a5de381c388aea7cd89fac9ae6c1a10f0294117f36ad6329ebc0844b15"), looks := false }, kinds := [], alts := [], laidByText := true, laidKinds := [.data, .data], laidTests := true, laidLooks := .later }
def VcanonPutUptoCardSaid : Prop := Claim7.holds Tryd.pinned (.plain (OpenSpec.upto vcanonPutSpec)) vcanonPutUptoCard

/-- THE SECOND FORM's CARD OF 'lontarlaw10.VcanonTwice'. -/
def vcanonTwiceUptoCard : Claim7 := { stood := { row := vcanonTwiceUptoRow, standIns := [], harness := (true, "7b5054a5de381c388aea7cd89fac9ae6c1a10f0294117f36ad6329ebc0844b15"), looks := false }, kinds := [], alts := [], laidByText := true, laidKinds := [.data, .data], laidTests := true, laidLooks := .later }
def VcanonTwiceUptoCardSaid : Prop := Claim7.holds Tryd.pinned (.plain (OpenSpec.upto vcanonTwiceSpec)) vcanonTwiceUptoCard

/-- THE SECOND FORM's CARD OF 'lontarlaw10.VcanonApart'. -/
def vcanonApartUptoCard : Claim7 := { stood := { row := vcanonApartUptoRow, standIns := [], harness := (true, "7b5054a5de381c388aea7cd89fac9ae6c1a10f0294117f36ad6329ebc0844b15"), looks := false }, kinds := [], alts := [], laidByText := true, laidKinds := [.data, .data], laidTests := true, laidLooks := .later }
def VcanonApartUptoCardSaid : Prop := Claim7.holds Tryd.pinned (.plain (OpenSpec.upto vcanonApartSpec)) vcanonApartUptoCard

/-- THE SECOND FORM's CARD OF 'lontarlaw10.VcanonBack'. -/
def vcanonBackUptoCard : Claim7 := { stood := { row := vcanonBackUptoRow, standIns := [], harness := (true, "7b5054a5de381c388aea7cd89fac9ae6c1a10f0294117f36ad6329ebc0844b15"), looks := false }, kinds := [], alts := [], laidByText := true, laidKinds := [.data, .data], laidTests := true, laidLooks := .later }
def VcanonBackUptoCardSaid : Prop := Claim7.holds Tryd.pinned (.plain (OpenSpec.upto vcanonBackSpec)) vcanonBackUptoCard

/-- THE SECOND FORM's CARD OF 'lontarlaw10.VcanonOrder'. -/
def vcanonOrderUptoCard : Claim7 := { stood := { row := vcanonOrderUptoRow, standIns := [], harness := (true, "7b5054a5de381c388aea7cd89fac9ae6c1a10f0294117f36ad6329ebc0844b15"), looks := false }, kinds := [], alts := [], laidByText := true, laidKinds := [.data, .data], laidTests := true, laidLooks := .later }
def VcanonOrderUptoCardSaid : Prop := Claim7.holds Tryd.pinned (.plain (OpenSpec.upto vcanonOrderSpec)) vcanonOrderUptoCard

/-- THE SECOND FORM's CARD OF 'lontarlaw10.VcanonParts'. -/
def vcanonPartsUptoCard : Claim7 := { stood := { row := vcanonPartsUptoRow, standIns := [], harness := (true, "7b5054a5de381c388aea7cd89fac9ae6c1a10f0294117f36ad6329ebc0844b15"), looks := false }, kinds := [], alts := [], laidByText := true, laidKinds := [.data, .data], laidTests := true, laidLooks := .later }
def VcanonPartsUptoCardSaid : Prop := Claim7.holds Tryd.pinned (.plain (OpenSpec.upto vcanonPartsSpec)) vcanonPartsUptoCard
end Rows
end Go.Proofs.YtjolbdfkkhphiaaDoor
