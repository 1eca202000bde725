/-
  DERIVED. GIVEN WITH THE SEED: THE CARDS: each row of YtbnconieedgcmaaDoorRows.lean that lists a variable, with what it lists TIED to the program's text (the seventh form; the later family's looks); each row that meets fmt, with fmt's text TOLD by the authors' own Lean function (tested against real Go, not proved from fmt's source: count such statements apart). THE CARD IS WHAT COUNTS. Prove the row's statement (the work); the ties are given (YtbnconieedgcmaaDoorTie.lean); close each card by the builder's one call (the guide's Derived/Test/ToyasCard.lean, 'card_holds'). Laid BY PROGRAM, IN A SANDBOX (cutbox-door.mjs). By AI agents, Wed Nov 11 2026. No macro, syntax, notation, axiom, sorry.
-/
import Derived.Test.YtbnconieedgcmaaDoorRows
import GoSem.ClaimSeven
namespace Go.Proofs.YtbnconieedgcmaaDoor
namespace Rows

/-- THE TIED CARD OF 'caesuralaw06.TableCodes'. -/
def tableCodesCard : Claim7 := { stood := { row := tableCodesRow, standIns := [], harness := (true, "25896233ac024238b3e73b840a6ea60086903f05186ba9ea41bf25c8aaba1da3"), looks := false }, kinds := [], alts := [], laidByText := true, laidKinds := [.data], laidTests := true, laidLooks := .later }
def TableCodesCardSaid : Prop := Claim7.holds Tryd.pinned (.plain (OpenSpec.ofChange tableCodesSpec)) tableCodesCard

/-- THE TIED CARD OF 'caesuralaw07.ValidTells'. -/
def validTellsCard : Claim7 := { stood := { row := validTellsRow, standIns := [], harness := (true, "25896233ac024238b3e73b840a6ea60086903f05186ba9ea41bf25c8aaba1da3"), looks := false }, kinds := [], alts := [], laidByText := true, laidKinds := [.data], laidTests := true, laidLooks := .later }
def ValidTellsCardSaid : Prop := Claim7.holds Tryd.pinned (.plain (OpenSpec.ofChange validTellsSpec)) validTellsCard

/-- THE TIED CARD OF 'caesuralaw07.ValidStates'. -/
def validStatesCard : Claim7 := { stood := { row := validStatesRow, standIns := [], harness := (true, "25896233ac024238b3e73b840a6ea60086903f05186ba9ea41bf25c8aaba1da3"), looks := false }, kinds := [], alts := [], laidByText := true, laidKinds := [.data], laidTests := true, laidLooks := .later }
def ValidStatesCardSaid : Prop := Claim7.holds Tryd.pinned (.plain (OpenSpec.ofChange validStatesSpec)) validStatesCard

/-- THE TIED CARD OF 'caesuralaw07.ValidClasses'. -/
def validClassesCard : Claim7 := { stood := { row := validClassesRow, standIns := [], harness := (true, "25896233ac024238b3e73b840a6ea60086903f05186ba9ea41bf25c8aaba1da3"), looks := false }, kinds := [], alts := [], laidByText := true, laidKinds := [.data], laidTests := true, laidLooks := .later }
def ValidClassesCardSaid : Prop := Claim7.holds Tryd.pinned (.plain (OpenSpec.ofChange validClassesSpec)) validClassesCard

/-- THE TIED CARD OF 'caesuralaw07.ValidBreaks'. -/
def validBreaksCard : Claim7 := { stood := { row := validBreaksRow, standIns := [], harness := (true, "25896233ac024238b3e73b840a6ea60086903f05186ba9ea41bf25c8aaba1da3"), looks := false }, kinds := [], alts := [], laidByText := true, laidKinds := [.data], laidTests := true, laidLooks := .later }
def ValidBreaksCardSaid : Prop := Claim7.holds Tryd.pinned (.plain (OpenSpec.ofChange validBreaksSpec)) validBreaksCard

/-- THE TIED CARD OF 'caesuralaw09.SegmentTells'. -/
def segmentTellsCard : Claim7 := { stood := { row := segmentTellsRow, standIns := [], harness := (true, "25896233ac024238b3e73b840a6ea60086903f05186ba9ea41bf25c8aaba1da3"), looks := false }, kinds := [], alts := [], laidByText := true, laidKinds := [.data], laidTests := true, laidLooks := .later }
def SegmentTellsCardSaid : Prop := Claim7.holds Tryd.pinned (.plain (OpenSpec.ofChange segmentTellsSpec)) segmentTellsCard

/-- THE TIED CARD OF 'caesuralaw09.SegmentWhole'. -/
def segmentWholeCard : Claim7 := { stood := { row := segmentWholeRow, standIns := [], harness := (true, "25896233ac024238b3e73b840a6ea60086903f05186ba9ea41bf25c8aaba1da3"), looks := false }, kinds := [], alts := [], laidByText := true, laidKinds := [.data], laidTests := true, laidLooks := .later }
def SegmentWholeCardSaid : Prop := Claim7.holds Tryd.pinned (.plain (OpenSpec.ofChange segmentWholeSpec)) segmentWholeCard

/-- THE TIED CARD OF 'caesuralaw09.SegmentIll'. -/
def segmentIllCard : Claim7 := { stood := { row := segmentIllRow, standIns := [], harness := (true, "25896233ac024238b3e73b840a6ea60086903f05186ba9ea41bf25c8aaba1da3"), looks := false }, kinds := [], alts := [], laidByText := true, laidKinds := [.data], laidTests := true, laidLooks := .later }
def SegmentIllCardSaid : Prop := Claim7.holds Tryd.pinned (.plain (OpenSpec.ofChange segmentIllSpec)) segmentIllCard

/-- THE TIED CARD OF 'caesuralaw09.SegmentAhead'. -/
def segmentAheadCard : Claim7 := { stood := { row := segmentAheadRow, standIns := [], harness := (true, "25896233ac024238b3e73b840a6ea60086903f05186ba9ea41bf25c8aaba1da3"), looks := false }, kinds := [], alts := [], laidByText := true, laidKinds := [.data], laidTests := true, laidLooks := .later }
def SegmentAheadCardSaid : Prop := Claim7.holds Tryd.pinned (.plain (OpenSpec.ofChange segmentAheadSpec)) segmentAheadCard

/-- THE SECOND FORM's CARD OF 'caesuralaw06.TableCodes'. -/
def tableCodesUptoCard : Claim7 := { stood := { row := tableCodesUptoRow, standIns := [], harness := (true, "25896233ac024238b3e73b840a6ea60086903f05186ba9ea41bf25c8aaba1da3"), looks := false }, kinds := [], alts := [], laidByText := true, laidKinds := [.data], laidTests := true, laidLooks := .later }
def TableCodesUptoCardSaid : Prop := Claim7.holds Tryd.pinned (.plain (OpenSpec.upto tableCodesSpec)) tableCodesUptoCard

/-- THE SECOND FORM's CARD OF 'caesuralaw07.ValidTells'. -/
def validTellsUptoCard : Claim7 := { stood := { row := validTellsUptoRow, standIns := [], harness := (true, "25896233ac024238b3e73b840a6ea60086903f05186ba9ea41bf25c8aaba1da3"), looks := false }, kinds := [], alts := [], laidByText := true, laidKinds := [.data], laidTests := true, laidLooks := .later }
def ValidTellsUptoCardSaid : Prop := Claim7.holds Tryd.pinned (.plain (OpenSpec.upto validTellsSpec)) validTellsUptoCard

/-- THE SECOND FORM's CARD OF 'caesuralaw07.ValidStates'. -/
def validStatesUptoCard : Claim7 := { stood := { row := validStatesUptoRow, standIns := [], harness := (true, "25896233ac024238b3e73b840a6ea60086903f05186ba9ea41bf25c8aaba1da3"), looks := false }, kinds := [], alts := [], laidByText := true, laidKinds := [.data], laidTests := true, laidLooks := .later }
def ValidStatesUptoCardSaid : Prop := Claim7.holds Tryd.pinned (.plain (OpenSpec.upto validStatesSpec)) validStatesUptoCard

/-- THE SECOND FORM's CARD OF 'caesuralaw07.ValidClasses'. -/
def validClassesUptoCard : Claim7 := { stood := { row := validClassesUptoRow, standIns := [], harness := (true, "25896233ac024238b3e73b840a6ea60086903f05186ba9ea41bf25c8aaba1da3"), looks := false }, kinds := [], alts := [], laidByText := true, laidKinds := [.data], laidTests := true, laidLooks := .later }
def ValidClassesUptoCardSaid : Prop := Claim7.holds Tryd.pinned (.plain (OpenSpec.upto validClassesSpec)) validClassesUptoCard

/-- THE SECOND FORM's CARD OF 'caesuralaw07.ValidBreaks'. -/
def validBreaksUptoCard : Claim7 := { stood := { row := validBreaksUptoRow, standIns := [], harness := (true, "25896233ac024238b3e73b840a6ea60086903f05186ba9ea41bf25c8aaba1da3"), looks := false }, kinds := [], alts := [], laidByText := true, laidKinds := [.data], laidTests := true, laidLooks := .later }
def ValidBreaksUptoCardSaid : Prop := Claim7.holds Tryd.pinned (.plain (OpenSpec.upto validBreaksSpec)) validBreaksUptoCard

/-- THE SECOND FORM's CARD OF 'caesuralaw09.SegmentTells'. -/
def segmentTellsUptoCard : Claim7 := { stood := { row := segmentTellsUptoRow, standIns := [], harness := (true, "25896233ac024238b3e73b840a6ea60086903f05186ba9ea41bf25c8aaba1da3"), looks := false }, kinds := [], alts := [], laidByText := true, laidKinds := [.data], laidTests := true, laidLooks := .later }
def SegmentTellsUptoCardSaid : Prop := Claim7.holds Tryd.pinned (.plain (OpenSpec.upto segmentTellsSpec)) segmentTellsUptoCard

/-- THE SECOND FORM's CARD OF 'caesuralaw09.SegmentWhole'. -/
def segmentWholeUptoCard : Claim7 := { stood := { row := segmentWholeUptoRow, standIns := [], harness := (true, "25896233ac024238b3e73b840a6ea60086903f05186ba9ea41bf25c8aaba1da3"), looks := false }, kinds := [], alts := [], laidByText := true, laidKinds := [.data], laidTests := true, laidLooks := .later }
def SegmentWholeUptoCardSaid : Prop := Claim7.holds Tryd.pinned (.plain (OpenSpec.upto segmentWholeSpec)) segmentWholeUptoCard

/-- THE SECOND FORM's CARD OF 'caesuralaw09.SegmentIll'. -/
def segmentIllUptoCard : Claim7 := { stood := { row := segmentIllUptoRow, standIns := [], harness := (true, "25896233ac024238b3e73b840a6ea60086903f05186ba9ea41bf25c8aaba1da3"), looks := false }, kinds := [], alts := [], laidByText := true, laidKinds := [.data], laidTests := true, laidLooks := .later }
def SegmentIllUptoCardSaid : Prop := Claim7.holds Tryd.pinned (.plain (OpenSpec.upto segmentIllSpec)) segmentIllUptoCard

/-- THE SECOND FORM's CARD OF 'caesuralaw09.SegmentAhead'. -/
def segmentAheadUptoCard : Claim7 := { stood := { row := segmentAheadUptoRow, standIns := [], harness := (true, "25896233ac024238b3e73b840a6ea60086903f05186ba9ea41bf25c8aaba1da3"), looks := false }, kinds := [], alts := [], laidByText := true, laidKinds := [.data], laidTests := true, laidLooks := .later }
def SegmentAheadUptoCardSaid : Prop := Claim7.holds Tryd.pinned (.plain (OpenSpec.upto segmentAheadSpec)) segmentAheadUptoCard
end Rows
end Go.Proofs.YtbnconieedgcmaaDoor
