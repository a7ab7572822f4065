/-
  DERIVED. GIVEN WITH THE SEED: THE CARDS: each row of YtigpmnpfkgopnaaDoorRows.lean that lists a variable, with what it lists TIED to the program's text (the seventh form; the later family's looks); each row that meets fmt, with fmt's text TOLD by the authors' own Lean function (tested against real Go, not proved from fmt's source: count such statements apart). THE CARD IS WHAT COUNTS. Prove the row's statement (the work); the ties are given (YtigpmnpfkgopnaaDoorTie.lean); close each card by the builder's one call (the guide's Derived/Test/ToyasCard.lean, 'card_holds'). Laid BY PROGRAM, IN A SANDBOX (cutbox-door.mjs). By AI agents, Wed Nov 11 2026. No macro, syntax, notation, axiom, sorry.
-/
import Derived.Test.YtigpmnpfkgopnaaDoorRows
import GoSem.ClaimSeven
namespace Go.Proofs.YtigpmnpfkgopnaaDoor
namespace Rows

/-- THE TIED CARD OF 'lontarlaw09.VietAll'. -/
def vietAllCard : Claim7 := { stood := { row := vietAllRow, standIns := [], harness := (true, "c371e7ffcf56e891d2c6f8293100856cca34afb6a53198652ed976988575cb82"), looks := false }, kinds := [], alts := [], laidByText := true, laidKinds := [.data], laidTests := true, laidLooks := .later }
def VietAllCardSaid : Prop := Claim7.holds Tryd.pinned (.plain (OpenSpec.ofChange vietAllSpec)) vietAllCard

/-- THE TIED CARD OF 'lontarlaw09.VietSplit'. -/
def vietSplitCard : Claim7 := { stood := { row := vietSplitRow, standIns := [], harness := (true, "c371e7ffcf56e891d2c6f8293100856cca34afb6a53198652ed976988575cb82"), looks := false }, kinds := [], alts := [], laidByText := true, laidKinds := [.data], laidTests := true, laidLooks := .later }
def VietSplitCardSaid : Prop := Claim7.holds Tryd.pinned (.plain (OpenSpec.ofChange vietSplitSpec)) vietSplitCard

/-- THE TIED CARD OF 'lontarlaw09.VietJoin'. -/
def vietJoinCard : Claim7 := { stood := { row := vietJoinRow, standIns := [], harness := (true, "c371e7ffcf56e891d2c6f8293100856cca34afb6a53198652ed976988575cb82"), looks := false }, kinds := [], alts := [], laidByText := true, laidKinds := [.data], laidTests := true, laidLooks := .later }
def VietJoinCardSaid : Prop := Claim7.holds Tryd.pinned (.plain (OpenSpec.ofChange vietJoinSpec)) vietJoinCard

/-- THE TIED CARD OF 'lontarlaw09.VietSign'. -/
def vietSignCard : Claim7 := { stood := { row := vietSignRow, standIns := [], harness := (true, "c371e7ffcf56e891d2c6f8293100856cca34afb6a53198652ed976988575cb82"), looks := false }, kinds := [], alts := [], laidByText := true, laidKinds := [.data], laidTests := true, laidLooks := .later }
def VietSignCardSaid : Prop := Claim7.holds Tryd.pinned (.plain (OpenSpec.ofChange vietSignSpec)) vietSignCard

/-- THE TIED CARD OF 'lontarlaw09.VietAdd'. -/
def vietAddCard : Claim7 := { stood := { row := vietAddRow, standIns := [], harness := (true, "c371e7ffcf56e891d2c6f8293100856cca34afb6a53198652ed976988575cb82"), looks := false }, kinds := [], alts := [], laidByText := true, laidKinds := [.data], laidTests := true, laidLooks := .later }
def VietAddCardSaid : Prop := Claim7.holds Tryd.pinned (.plain (OpenSpec.ofChange vietAddSpec)) vietAddCard

/-- THE TIED CARD OF 'lontarlaw09.VietRound'. -/
def vietRoundCard : Claim7 := { stood := { row := vietRoundRow, standIns := [], harness := (true, "c371e7ffcf56e891d2c6f8293100856cca34afb6a53198652ed976988575cb82"), looks := false }, kinds := [], alts := [], laidByText := true, laidKinds := [.data], laidTests := true, laidLooks := .later }
def VietRoundCardSaid : Prop := Claim7.holds Tryd.pinned (.plain (OpenSpec.ofChange vietRoundSpec)) vietRoundCard

/-- THE TIED CARD OF 'lontarlaw09.VietUpper'. -/
def vietUpperCard : Claim7 := { stood := { row := vietUpperRow, standIns := [], harness := (true, "c371e7ffcf56e891d2c6f8293100856cca34afb6a53198652ed976988575cb82"), looks := false }, kinds := [], alts := [], laidByText := true, laidKinds := [.data], laidTests := true, laidLooks := .later }
def VietUpperCardSaid : Prop := Claim7.holds Tryd.pinned (.plain (OpenSpec.ofChange vietUpperSpec)) vietUpperCard

/-- THE SECOND FORM's CARD OF 'lontarlaw09.VietAll'. -/
def vietAllUptoCard : Claim7 := { stood := { row := vietAllUptoRow, standIns := [], harness := (true, "c371e7ffcf56e891d2c6f8293100856cca34afb6a53198652ed976988575cb82"), looks := false }, kinds := [], alts := [], laidByText := true, laidKinds := [.data], laidTests := true, laidLooks := .later }
def VietAllUptoCardSaid : Prop := Claim7.holds Tryd.pinned (.plain (OpenSpec.upto vietAllSpec)) vietAllUptoCard

/-- THE SECOND FORM's CARD OF 'lontarlaw09.VietSplit'. -/
def vietSplitUptoCard : Claim7 := { stood := { row := vietSplitUptoRow, standIns := [], harness := (true, "c371e7ffcf56e891d2c6f8293100856cca34afb6a53198652ed976988575cb82"), looks := false }, kinds := [], alts := [], laidByText := true, laidKinds := [.data], laidTests := true, laidLooks := .later }
def VietSplitUptoCardSaid : Prop := Claim7.holds Tryd.pinned (.plain (OpenSpec.upto vietSplitSpec)) vietSplitUptoCard

/-- THE SECOND FORM's CARD OF 'lontarlaw09.VietJoin'. -/
def vietJoinUptoCard : Claim7 := { stood := { row := vietJoinUptoRow, standIns := [], harness := (true, "c371e7ffcf56e891d2c6f8293100856cca34afb6a53198652ed976988575cb82"), looks := false }, kinds := [], alts := [], laidByText := true, laidKinds := [.data], laidTests := true, laidLooks := .later }
def VietJoinUptoCardSaid : Prop := Claim7.holds Tryd.pinned (.plain (OpenSpec.upto vietJoinSpec)) vietJoinUptoCard

/-- THE SECOND FORM's CARD OF 'lontarlaw09.VietSign'. -/
def vietSignUptoCard : Claim7 := { stood := { row := vietSignUptoRow, standIns := [], harness := (true, "c371e7ffcf56e891d2c6f8293100856cca34afb6a53198652ed976988575cb82"), looks := false }, kinds := [], alts := [], laidByText := true, laidKinds := [.data], laidTests := true, laidLooks := .later }
def VietSignUptoCardSaid : Prop := Claim7.holds Tryd.pinned (.plain (OpenSpec.upto vietSignSpec)) vietSignUptoCard

/-- THE SECOND FORM's CARD OF 'lontarlaw09.VietAdd'. -/
def vietAddUptoCard : Claim7 := { stood := { row := vietAddUptoRow, standIns := [], harness := (true, "c371e7ffcf56e891d2c6f8293100856cca34afb6a53198652ed976988575cb82"), looks := false }, kinds := [], alts := [], laidByText := true, laidKinds := [.data], laidTests := true, laidLooks := .later }
def VietAddUptoCardSaid : Prop := Claim7.holds Tryd.pinned (.plain (OpenSpec.upto vietAddSpec)) vietAddUptoCard

/-- THE SECOND FORM's CARD OF 'lontarlaw09.VietRound'. -/
def vietRoundUptoCard : Claim7 := { stood := { row := vietRoundUptoRow, standIns := [], harness := (true, "c371e7ffcf56e891d2c6f8293100856cca34afb6a53198652ed976988575cb82"), looks := false }, kinds := [], alts := [], laidByText := true, laidKinds := [.data], laidTests := true, laidLooks := .later }
def VietRoundUptoCardSaid : Prop := Claim7.holds Tryd.pinned (.plain (OpenSpec.upto vietRoundSpec)) vietRoundUptoCard

/-- THE SECOND FORM's CARD OF 'lontarlaw09.VietUpper'. -/
def vietUpperUptoCard : Claim7 := { stood := { row := vietUpperUptoRow, standIns := [], harness := (true, "c371e7ffcf56e891d2c6f8293100856cca34afb6a53198652ed976988575cb82"), looks := false }, kinds := [], alts := [], laidByText := true, laidKinds := [.data], laidTests := true, laidLooks := .later }
def VietUpperUptoCardSaid : Prop := Claim7.holds Tryd.pinned (.plain (OpenSpec.upto vietUpperSpec)) vietUpperUptoCard
end Rows
end Go.Proofs.YtigpmnpfkgopnaaDoor
