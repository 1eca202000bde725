/-
  DERIVED. GIVEN WITH THE SEED: THE CARDS: each row of YtbiipefppangmaaDoorRows.lean that lists a variable, with what it lists TIED to the program's text (the seventh form; the later family's looks); each row that meets fmt, with fmt's text TOLD by the authors' own Lean function (tested against real Go, not proved from fmt's source: count such statements apart). THE CARD IS WHAT COUNTS. Prove the row's statement (the work); the ties are given (YtbiipefppangmaaDoorTie.lean); close each card by the builder's one call (the guide's Derived/Test/ToyasCard.lean, 'card_holds'). Laid BY PROGRAM, IN A SANDBOX (cutbox-door.mjs). By AI agents, Wed Nov 11 2026. No macro, syntax, notation, axiom, sorry.
-/
import Derived.Test.YtbiipefppangmaaDoorRows
import GoSem.ClaimSeven
namespace Go.Proofs.YtbiipefppangmaaDoor
namespace Rows

/-- THE TIED CARD OF 'caesuralaw06.TableCodes'. -/
def tableCodesCard : Claim7 := { stood := { row := tableCodesRow, standIns := [], harness := (true, "3949b87082d859454081b69b68901a9465a89f98959f4e747dbdc06963f94088"), looks := false }, kinds := [], alts := [], laidByText := true, laidKinds := [.data], laidTests := true, laidLooks := .later }
def TableCodesCardSaid : Prop := Claim7.holds Tryd.pinned (.plain (OpenSpec.ofChange tableCodesSpec)) tableCodesCard

/-- THE TIED CARD OF 'caesuralaw07.ValidTells'. -/
def validTellsCard : Claim7 := { stood := { row := validTellsRow, standIns := [], harness := (true, "3949b87082d859454081b69b68901a9465a89f98959f4e747dbdc06963f94088"), looks := false }, kinds := [], alts := [], laidByText := true, laidKinds := [.data], laidTests := true, laidLooks := .later }
def ValidTellsCardSaid : Prop := Claim7.holds Tryd.pinned (.plain (OpenSpec.ofChange validTellsSpec)) validTellsCard

/-- THE TIED CARD OF 'caesuralaw07.ValidOne'. -/
def validOneCard : Claim7 := { stood := { row := validOneRow, standIns := [], harness := (true, "3949b87082d859454081b69b68901a9465a89f98959f4e747dbdc06963f94088"), looks := false }, kinds := [], alts := [], laidByText := true, laidKinds := [.data], laidTests := true, laidLooks := .later }
def ValidOneCardSaid : Prop := Claim7.holds Tryd.pinned (.plain (OpenSpec.ofChange validOneSpec)) validOneCard

/-- THE TIED CARD OF 'caesuralaw07.ValidAlike'. -/
def validAlikeCard : Claim7 := { stood := { row := validAlikeRow, standIns := [], harness := (true, "3949b87082d859454081b69b68901a9465a89f98959f4e747dbdc06963f94088"), looks := false }, kinds := [], alts := [], laidByText := true, laidKinds := [.data], laidTests := true, laidLooks := .later }
def ValidAlikeCardSaid : Prop := Claim7.holds Tryd.pinned (.plain (OpenSpec.ofChange validAlikeSpec)) validAlikeCard

/-- THE TIED CARD OF 'caesuralaw07.ValidStates'. -/
def validStatesCard : Claim7 := { stood := { row := validStatesRow, standIns := [], harness := (true, "3949b87082d859454081b69b68901a9465a89f98959f4e747dbdc06963f94088"), looks := false }, kinds := [], alts := [], laidByText := true, laidKinds := [.data], laidTests := true, laidLooks := .later }
def ValidStatesCardSaid : Prop := Claim7.holds Tryd.pinned (.plain (OpenSpec.ofChange validStatesSpec)) validStatesCard

/-- THE TIED CARD OF 'caesuralaw07.ValidClasses'. -/
def validClassesCard : Claim7 := { stood := { row := validClassesRow, standIns := [], harness := (true, "3949b87082d859454081b69b68901a9465a89f98959f4e747dbdc06963f94088"), looks := false }, kinds := [], alts := [], laidByText := true, laidKinds := [.data], laidTests := true, laidLooks := .later }
def ValidClassesCardSaid : Prop := Claim7.holds Tryd.pinned (.plain (OpenSpec.ofChange validClassesSpec)) validClassesCard

/-- THE TIED CARD OF 'caesuralaw07.ValidBreaks'. -/
def validBreaksCard : Claim7 := { stood := { row := validBreaksRow, standIns := [], harness := (true, "3949b87082d859454081b69b68901a9465a89f98959f4e747dbdc06963f94088"), looks := false }, kinds := [], alts := [], laidByText := true, laidKinds := [.data], laidTests := true, laidLooks := .later }
def ValidBreaksCardSaid : Prop := Claim7.holds Tryd.pinned (.plain (OpenSpec.ofChange validBreaksSpec)) validBreaksCard

/-- THE SECOND FORM's CARD OF 'caesuralaw06.TableCodes'. -/
def tableCodesUptoCard : Claim7 := { stood := { row := tableCodesUptoRow, standIns := [], harness := (true, "3949b87082d859454081b69b68901a9465a89f98959f4e747dbdc06963f94088"), looks := false }, kinds := [], alts := [], laidByText := true, laidKinds := [.data], laidTests := true, laidLooks := .later }
def TableCodesUptoCardSaid : Prop := Claim7.holds Tryd.pinned (.plain (OpenSpec.upto tableCodesSpec)) tableCodesUptoCard

/-- THE SECOND FORM's CARD OF 'caesuralaw07.ValidTells'. -/
def validTellsUptoCard : Claim7 := { stood := { row := validTellsUptoRow, standIns := [], harness := (true, "3949b87082d859454081b69b68901a9465a89f98959f4e747dbdc06963f94088"), looks := false }, kinds := [], alts := [], laidByText := true, laidKinds := [.data], laidTests := true, laidLooks := .later }
def ValidTellsUptoCardSaid : Prop := Claim7.holds Tryd.pinned (.plain (OpenSpec.upto validTellsSpec)) validTellsUptoCard

/-- THE SECOND FORM's CARD OF 'caesuralaw07.ValidOne'. -/
def validOneUptoCard : Claim7 := { stood := { row := validOneUptoRow, standIns := [], harness := (true, "3949b87082d859454081b69b68901a9465a89f98959f4e747dbdc06963f94088"), looks := false }, kinds := [], alts := [], laidByText := true, laidKinds := [.data], laidTests := true, laidLooks := .later }
def ValidOneUptoCardSaid : Prop := Claim7.holds Tryd.pinned (.plain (OpenSpec.upto validOneSpec)) validOneUptoCard

/-- THE SECOND FORM's CARD OF 'caesuralaw07.ValidAlike'. -/
def validAlikeUptoCard : Claim7 := { stood := { row := validAlikeUptoRow, standIns := [], harness := (true, "3949b87082d859454081b69b68901a9465a89f98959f4e747dbdc06963f94088"), looks := false }, kinds := [], alts := [], laidByText := true, laidKinds := [.data], laidTests := true, laidLooks := .later }
def ValidAlikeUptoCardSaid : Prop := Claim7.holds Tryd.pinned (.plain (OpenSpec.upto validAlikeSpec)) validAlikeUptoCard

/-- THE SECOND FORM's CARD OF 'caesuralaw07.ValidStates'. -/
def validStatesUptoCard : Claim7 := { stood := { row := validStatesUptoRow, standIns := [], harness := (true, "3949b87082d859454081b69b68901a9465a89f98959f4e747dbdc06963f94088"), looks := false }, kinds := [], alts := [], laidByText := true, laidKinds := [.data], laidTests := true, laidLooks := .later }
def ValidStatesUptoCardSaid : Prop := Claim7.holds Tryd.pinned (.plain (OpenSpec.upto validStatesSpec)) validStatesUptoCard

/-- THE SECOND FORM's CARD OF 'caesuralaw07.ValidClasses'. -/
def validClassesUptoCard : Claim7 := { stood := { row := validClassesUptoRow, standIns := [], harness := (true, "3949b87082d859454081b69b68901a9465a89f98959f4e747dbdc06963f94088"), looks := false }, kinds := [], alts := [], laidByText := true, laidKinds := [.data], laidTests := true, laidLooks := .later }
def ValidClassesUptoCardSaid : Prop := Claim7.holds Tryd.pinned (.plain (OpenSpec.upto validClassesSpec)) validClassesUptoCard

/-- THE SECOND FORM's CARD OF 'caesuralaw07.ValidBreaks'. -/
def validBreaksUptoCard : Claim7 := { stood := { row := validBreaksUptoRow, standIns := [], harness := (true, "3949b87082d859454081b69b68901a9465a89f98959f4e747dbdc06963f94088"), looks := false }, kinds := [], alts := [], laidByText := true, laidKinds := [.data], laidTests := true, laidLooks := .later }
def ValidBreaksUptoCardSaid : Prop := Claim7.holds Tryd.pinned (.plain (OpenSpec.upto validBreaksSpec)) validBreaksUptoCard
end Rows
end Go.Proofs.YtbiipefppangmaaDoor
