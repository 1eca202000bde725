/-
  DERIVED. GIVEN WITH THE SEED: THE CARDS: each row of YtkmkkbilnflpjaaDoorRows.lean that lists a variable, with what it lists TIED to the program's text (the seventh form; the later family's looks); each row that meets fmt, with fmt's text TOLD by the authors' own Lean function (tested against real Go, not proved from fmt's source: count such statements apart). THE CARD IS WHAT COUNTS. Prove the row's statement (the work); the ties are given (YtkmkkbilnflpjaaDoorTie.lean); close each card by the builder's one call (the guide's Derived/Test/ToyasCard.lean, 'card_holds'). Laid BY PROGRAM, IN A SANDBOX (cutbox-door.mjs). By AI agents, Wed Nov 11 2026. No macro, syntax, notation, axiom, sorry.
-/
import Derived.Test.YtkmkkbilnflpjaaDoorRows
import GoSem.ClaimSeven
namespace Go.Proofs.YtkmkkbilnflpjaaDoor
namespace Rows

/-- THE TIED CARD OF 'caesuralaw06.TableCodes'. -/
def tableCodesCard : Claim7 := { stood := { row := tableCodesRow, standIns := [], harness := (true, "b01a34cd85581a34da32423dd515c20e7f819c86ef8abaaa1999118b6ea55c70"), looks := false }, kinds := [], alts := [], laidByText := true, laidKinds := [.data], laidTests := true, laidLooks := .later }
def TableCodesCardSaid : Prop := Claim7.holds Tryd.pinned (.plain (OpenSpec.ofChange tableCodesSpec)) tableCodesCard

/-- THE TIED CARD OF 'caesuralaw06.TableBack'. -/
def tableBackCard : Claim7 := { stood := { row := tableBackRow, standIns := [], harness := (true, "b01a34cd85581a34da32423dd515c20e7f819c86ef8abaaa1999118b6ea55c70"), looks := false }, kinds := [], alts := [], laidByText := true, laidKinds := [.data], laidTests := true, laidLooks := .later }
def TableBackCardSaid : Prop := Claim7.holds Tryd.pinned (.plain (OpenSpec.ofChange tableBackSpec)) tableBackCard

/-- THE TIED CARD OF 'caesuralaw06.TableCut'. -/
def tableCutCard : Claim7 := { stood := { row := tableCutRow, standIns := [], harness := (true, "b01a34cd85581a34da32423dd515c20e7f819c86ef8abaaa1999118b6ea55c70"), looks := false }, kinds := [], alts := [], laidByText := true, laidKinds := [.data], laidTests := true, laidLooks := .later }
def TableCutCardSaid : Prop := Claim7.holds Tryd.pinned (.plain (OpenSpec.ofChange tableCutSpec)) tableCutCard

/-- THE TIED CARD OF 'caesuralaw06.TablePlaces'. -/
def tablePlacesCard : Claim7 := { stood := { row := tablePlacesRow, standIns := [], harness := (true, "b01a34cd85581a34da32423dd515c20e7f819c86ef8abaaa1999118b6ea55c70"), looks := false }, kinds := [], alts := [], laidByText := true, laidKinds := [.data], laidTests := true, laidLooks := .later }
def TablePlacesCardSaid : Prop := Claim7.holds Tryd.pinned (.plain (OpenSpec.ofChange tablePlacesSpec)) tablePlacesCard

/-- THE TIED CARD OF 'caesuralaw06.TableFirst'. -/
def tableFirstCard : Claim7 := { stood := { row := tableFirstRow, standIns := [], harness := (true, "b01a34cd85581a34da32423dd515c20e7f819c86ef8abaaa1999118b6ea55c70"), looks := false }, kinds := [], alts := [], laidByText := true, laidKinds := [.data], laidTests := true, laidLooks := .later }
def TableFirstCardSaid : Prop := Claim7.holds Tryd.pinned (.plain (OpenSpec.ofChange tableFirstSpec)) tableFirstCard

/-- THE TIED CARD OF 'caesuralaw06.TableLengths'. -/
def tableLengthsCard : Claim7 := { stood := { row := tableLengthsRow, standIns := [], harness := (true, "b01a34cd85581a34da32423dd515c20e7f819c86ef8abaaa1999118b6ea55c70"), looks := false }, kinds := [], alts := [], laidByText := true, laidKinds := [.data], laidTests := true, laidLooks := .later }
def TableLengthsCardSaid : Prop := Claim7.holds Tryd.pinned (.plain (OpenSpec.ofChange tableLengthsSpec)) tableLengthsCard

/-- THE SECOND FORM's CARD OF 'caesuralaw06.TableCodes'. -/
def tableCodesUptoCard : Claim7 := { stood := { row := tableCodesUptoRow, standIns := [], harness := (true, "b01a34cd85581a34da32423dd515c20e7f819c86ef8abaaa1999118b6ea55c70"), looks := false }, kinds := [], alts := [], laidByText := true, laidKinds := [.data], laidTests := true, laidLooks := .later }
def TableCodesUptoCardSaid : Prop := Claim7.holds Tryd.pinned (.plain (OpenSpec.upto tableCodesSpec)) tableCodesUptoCard

/-- THE SECOND FORM's CARD OF 'caesuralaw06.TableBack'. -/
def tableBackUptoCard : Claim7 := { stood := { row := tableBackUptoRow, standIns := [], harness := (true, "b01a34cd85581a34da32423dd515c20e7f819c86ef8abaaa1999118b6ea55c70"), looks := false }, kinds := [], alts := [], laidByText := true, laidKinds := [.data], laidTests := true, laidLooks := .later }
def TableBackUptoCardSaid : Prop := Claim7.holds Tryd.pinned (.plain (OpenSpec.upto tableBackSpec)) tableBackUptoCard

/-- THE SECOND FORM's CARD OF 'caesuralaw06.TableCut'. -/
def tableCutUptoCard : Claim7 := { stood := { row := tableCutUptoRow, standIns := [], harness := (true, "b01a34cd85581a34da32423dd515c20e7f819c86ef8abaaa1999118b6ea55c70"), looks := false }, kinds := [], alts := [], laidByText := true, laidKinds := [.data], laidTests := true, laidLooks := .later }
def TableCutUptoCardSaid : Prop := Claim7.holds Tryd.pinned (.plain (OpenSpec.upto tableCutSpec)) tableCutUptoCard

/-- THE SECOND FORM's CARD OF 'caesuralaw06.TablePlaces'. -/
def tablePlacesUptoCard : Claim7 := { stood := { row := tablePlacesUptoRow, standIns := [], harness := (true, "b01a34cd85581a34da32423dd515c20e7f819c86ef8abaaa1999118b6ea55c70"), looks := false }, kinds := [], alts := [], laidByText := true, laidKinds := [.data], laidTests := true, laidLooks := .later }
def TablePlacesUptoCardSaid : Prop := Claim7.holds Tryd.pinned (.plain (OpenSpec.upto tablePlacesSpec)) tablePlacesUptoCard

/-- THE SECOND FORM's CARD OF 'caesuralaw06.TableFirst'. -/
def tableFirstUptoCard : Claim7 := { stood := { row := tableFirstUptoRow, standIns := [], harness := (true, "b01a34cd85581a34da32423dd515c20e7f819c86ef8abaaa1999118b6ea55c70"), looks := false }, kinds := [], alts := [], laidByText := true, laidKinds := [.data], laidTests := true, laidLooks := .later }
def TableFirstUptoCardSaid : Prop := Claim7.holds Tryd.pinned (.plain (OpenSpec.upto tableFirstSpec)) tableFirstUptoCard

/-- THE SECOND FORM's CARD OF 'caesuralaw06.TableLengths'. -/
def tableLengthsUptoCard : Claim7 := { stood := { row := tableLengthsUptoRow, standIns := [], harness := (true, "b01a34cd85581a34da32423dd515c20e7f819c86ef8abaaa1999118b6ea55c70"), looks := false }, kinds := [], alts := [], laidByText := true, laidKinds := [.data], laidTests := true, laidLooks := .later }
def TableLengthsUptoCardSaid : Prop := Claim7.holds Tryd.pinned (.plain (OpenSpec.upto tableLengthsSpec)) tableLengthsUptoCard
end Rows
end Go.Proofs.YtkmkkbilnflpjaaDoor
