/-
  DERIVED. GIVEN WITH THE SEED: THE CARDS: each row of YtmhfgncffkfelaaDoorRows.lean that lists a variable, with what it lists TIED to the program's text (the seventh form; the later family's looks); each row that meets fmt, with fmt's text TOLD by the authors' own Lean function (tested against real Go, not proved from fmt's source: count such statements apart). THE CARD IS WHAT COUNTS. Prove the row's statement (the work); the ties are given (YtmhfgncffkfelaaDoorTie.lean); close each card by the builder's one call (the guide's Derived/Test/ToyasCard.lean, 'card_holds'). Laid BY PROGRAM, IN A SANDBOX (cutbox-door.mjs). By AI agents, Wed Nov 11 2026. No macro, syntax, notation, axiom, sorry.
-/
import Derived.Test.YtmhfgncffkfelaaDoorRows
import GoSem.ClaimSeven
namespace Go.Proofs.YtmhfgncffkfelaaDoor
namespace Rows

/-- THE TIED CARD OF 'caesuralaw06.TableCodes'. -/
def tableCodesCard : Claim7 := { stood := { row := tableCodesRow, standIns := [], harness := (true, "6500f9f9c1c070395e593e41a4d96ca1e2ab764ed785a0f684e8d58752cd2442"), looks := false }, kinds := [], alts := [], laidByText := true, laidKinds := [.data], laidTests := true, laidLooks := .later }
def TableCodesCardSaid : Prop := Claim7.holds Tryd.pinned (.plain (OpenSpec.ofChange tableCodesSpec)) tableCodesCard

/-- THE TIED CARD OF 'caesuralaw07.ValidTells'. -/
def validTellsCard : Claim7 := { stood := { row := validTellsRow, standIns := [], harness := (true, "6500f9f9c1c070395e593e41a4d96ca1e2ab764ed785a0f684e8d58752cd2442"), looks := false }, kinds := [], alts := [], laidByText := true, laidKinds := [.data], laidTests := true, laidLooks := .later }
def ValidTellsCardSaid : Prop := Claim7.holds Tryd.pinned (.plain (OpenSpec.ofChange validTellsSpec)) validTellsCard

/-- THE TIED CARD OF 'caesuralaw07.ValidClasses'. -/
def validClassesCard : Claim7 := { stood := { row := validClassesRow, standIns := [], harness := (true, "6500f9f9c1c070395e593e41a4d96ca1e2ab764ed785a0f684e8d58752cd2442"), looks := false }, kinds := [], alts := [], laidByText := true, laidKinds := [.data], laidTests := true, laidLooks := .later }
def ValidClassesCardSaid : Prop := Claim7.holds Tryd.pinned (.plain (OpenSpec.ofChange validClassesSpec)) validClassesCard

/-- THE TIED CARD OF 'caesuralaw07.ValidBreaks'. -/
def validBreaksCard : Claim7 := { stood := { row := validBreaksRow, standIns := [], harness := (true, "6500f9f9c1c070395e593e41a4d96ca1e2ab764ed785a0f684e8d58752cd2442"), looks := false }, kinds := [], alts := [], laidByText := true, laidKinds := [.data], laidTests := true, laidLooks := .later }
def ValidBreaksCardSaid : Prop := Claim7.holds Tryd.pinned (.plain (OpenSpec.ofChange validBreaksSpec)) validBreaksCard

/-- THE TIED CARD OF 'caesuralaw10.SeekTells'. -/
def seekTellsCard : Claim7 := { stood := { row := seekTellsRow, standIns := [], harness := (true, "6500f9f9c1c070395e593e41a4d96ca1e2ab764ed785a0f684e8d58752cd2442"), looks := false }, kinds := [], alts := [], laidByText := true, laidKinds := [.data], laidTests := true, laidLooks := .later }
def SeekTellsCardSaid : Prop := Claim7.holds Tryd.pinned (.plain (OpenSpec.ofChange seekTellsSpec)) seekTellsCard

/-- THE TIED CARD OF 'caesuralaw10.SeekGoes'. -/
def seekGoesCard : Claim7 := { stood := { row := seekGoesRow, standIns := [], harness := (true, "6500f9f9c1c070395e593e41a4d96ca1e2ab764ed785a0f684e8d58752cd2442"), looks := false }, kinds := [], alts := [], laidByText := true, laidKinds := [.data], laidTests := true, laidLooks := .later }
def SeekGoesCardSaid : Prop := Claim7.holds Tryd.pinned (.plain (OpenSpec.ofChange seekGoesSpec)) seekGoesCard

/-- THE TIED CARD OF 'caesuralaw10.SeekWithin'. -/
def seekWithinCard : Claim7 := { stood := { row := seekWithinRow, standIns := [], harness := (true, "6500f9f9c1c070395e593e41a4d96ca1e2ab764ed785a0f684e8d58752cd2442"), looks := false }, kinds := [], alts := [], laidByText := true, laidKinds := [.data], laidTests := true, laidLooks := .later }
def SeekWithinCardSaid : Prop := Claim7.holds Tryd.pinned (.plain (OpenSpec.ofChange seekWithinSpec)) seekWithinCard

/-- THE TIED CARD OF 'caesuralaw10.SeekAround'. -/
def seekAroundCard : Claim7 := { stood := { row := seekAroundRow, standIns := [], harness := (true, "6500f9f9c1c070395e593e41a4d96ca1e2ab764ed785a0f684e8d58752cd2442"), looks := false }, kinds := [], alts := [], laidByText := true, laidKinds := [.data], laidTests := true, laidLooks := .later }
def SeekAroundCardSaid : Prop := Claim7.holds Tryd.pinned (.plain (OpenSpec.ofChange seekAroundSpec)) seekAroundCard

/-- THE TIED CARD OF 'caesuralaw10.SeekErrors'. -/
def seekErrorsCard : Claim7 := { stood := { row := seekErrorsRow, standIns := [], harness := (true, "6500f9f9c1c070395e593e41a4d96ca1e2ab764ed785a0f684e8d58752cd2442"), looks := false }, kinds := [], alts := [], laidByText := true, laidKinds := [.data], laidTests := true, laidLooks := .later }
def SeekErrorsCardSaid : Prop := Claim7.holds Tryd.pinned (.plain (OpenSpec.ofChange seekErrorsSpec)) seekErrorsCard

/-- THE SECOND FORM's CARD OF 'caesuralaw06.TableCodes'. -/
def tableCodesUptoCard : Claim7 := { stood := { row := tableCodesUptoRow, standIns := [], harness := (true, "6500f9f9c1c070395e593e41a4d96ca1e2ab764ed785a0f684e8d58752cd2442"), looks := false }, kinds := [], alts := [], laidByText := true, laidKinds := [.data], laidTests := true, laidLooks := .later }
def TableCodesUptoCardSaid : Prop := Claim7.holds Tryd.pinned (.plain (OpenSpec.upto tableCodesSpec)) tableCodesUptoCard

/-- THE SECOND FORM's CARD OF 'caesuralaw07.ValidTells'. -/
def validTellsUptoCard : Claim7 := { stood := { row := validTellsUptoRow, standIns := [], harness := (true, "6500f9f9c1c070395e593e41a4d96ca1e2ab764ed785a0f684e8d58752cd2442"), looks := false }, kinds := [], alts := [], laidByText := true, laidKinds := [.data], laidTests := true, laidLooks := .later }
def ValidTellsUptoCardSaid : Prop := Claim7.holds Tryd.pinned (.plain (OpenSpec.upto validTellsSpec)) validTellsUptoCard

/-- THE SECOND FORM's CARD OF 'caesuralaw07.ValidClasses'. -/
def validClassesUptoCard : Claim7 := { stood := { row := validClassesUptoRow, standIns := [], harness := (true, "6500f9f9c1c070395e593e41a4d96ca1e2ab764ed785a0f684e8d58752cd2442"), looks := false }, kinds := [], alts := [], laidByText := true, laidKinds := [.data], laidTests := true, laidLooks := .later }
def ValidClassesUptoCardSaid : Prop := Claim7.holds Tryd.pinned (.plain (OpenSpec.upto validClassesSpec)) validClassesUptoCard

/-- THE SECOND FORM's CARD OF 'caesuralaw07.ValidBreaks'. -/
def validBreaksUptoCard : Claim7 := { stood := { row := validBreaksUptoRow, standIns := [], harness := (true, "6500f9f9c1c070395e593e41a4d96ca1e2ab764ed785a0f684e8d58752cd2442"), looks := false }, kinds := [], alts := [], laidByText := true, laidKinds := [.data], laidTests := true, laidLooks := .later }
def ValidBreaksUptoCardSaid : Prop := Claim7.holds Tryd.pinned (.plain (OpenSpec.upto validBreaksSpec)) validBreaksUptoCard

/-- THE SECOND FORM's CARD OF 'caesuralaw10.SeekTells'. -/
def seekTellsUptoCard : Claim7 := { stood := { row := seekTellsUptoRow, standIns := [], harness := (true, "6500f9f9c1c070395e593e41a4d96ca1e2ab764ed785a0f684e8d58752cd2442"), looks := false }, kinds := [], alts := [], laidByText := true, laidKinds := [.data], laidTests := true, laidLooks := .later }
def SeekTellsUptoCardSaid : Prop := Claim7.holds Tryd.pinned (.plain (OpenSpec.upto seekTellsSpec)) seekTellsUptoCard

/-- THE SECOND FORM's CARD OF 'caesuralaw10.SeekGoes'. -/
def seekGoesUptoCard : Claim7 := { stood := { row := seekGoesUptoRow, standIns := [], harness := (true, "6500f9f9c1c070395e593e41a4d96ca1e2ab764ed785a0f684e8d58752cd2442"), looks := false }, kinds := [], alts := [], laidByText := true, laidKinds := [.data], laidTests := true, laidLooks := .later }
def SeekGoesUptoCardSaid : Prop := Claim7.holds Tryd.pinned (.plain (OpenSpec.upto seekGoesSpec)) seekGoesUptoCard

/-- THE SECOND FORM's CARD OF 'caesuralaw10.SeekWithin'. -/
def seekWithinUptoCard : Claim7 := { stood := { row := seekWithinUptoRow, standIns := [], harness := (true, "6500f9f9c1c070395e593e41a4d96ca1e2ab764ed785a0f684e8d58752cd2442"), looks := false }, kinds := [], alts := [], laidByText := true, laidKinds := [.data], laidTests := true, laidLooks := .later }
def SeekWithinUptoCardSaid : Prop := Claim7.holds Tryd.pinned (.plain (OpenSpec.upto seekWithinSpec)) seekWithinUptoCard

/-- THE SECOND FORM's CARD OF 'caesuralaw10.SeekAround'. -/
def seekAroundUptoCard : Claim7 := { stood := { row := seekAroundUptoRow, standIns := [], harness := (true, "6500f9f9c1c070395e593e41a4d96ca1e2ab764ed785a0f684e8d58752cd2442"), looks := false }, kinds := [], alts := [], laidByText := true, laidKinds := [.data], laidTests := true, laidLooks := .later }
def SeekAroundUptoCardSaid : Prop := Claim7.holds Tryd.pinned (.plain (OpenSpec.upto seekAroundSpec)) seekAroundUptoCard

/-- THE SECOND FORM's CARD OF 'caesuralaw10.SeekErrors'. -/
def seekErrorsUptoCard : Claim7 := { stood := { row := seekErrorsUptoRow, standIns := [], harness := (true, "6500f9f9c1c070395e593e41a4d96ca1e2ab764ed785a0f684e8d58752cd2442"), looks := false }, kinds := [], alts := [], laidByText := true, laidKinds := [.data], laidTests := true, laidLooks := .later }
def SeekErrorsUptoCardSaid : Prop := Claim7.holds Tryd.pinned (.plain (OpenSpec.upto seekErrorsSpec)) seekErrorsUptoCard
end Rows
end Go.Proofs.YtmhfgncffkfelaaDoor
