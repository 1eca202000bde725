/-
  DERIVED. GIVEN WITH THE SEED: THE CARDS: each row of YtmpehgdmdejmlaaDoorRows.lean that lists a variable, with what it lists TIED to the program's text (the seventh form; the later family's looks); each row that meets fmt, with fmt's text TOLD by the authors' own Lean function (tested against real Go, not proved from fmt's source: count such statements apart). THE CARD IS WHAT COUNTS. Prove the row's statement (the work); the ties are given (YtmpehgdmdejmlaaDoorTie.lean); close each card by the builder's one call (the guide's Derived/Test/ToyasCard.lean, 'card_holds'). Laid BY PROGRAM, IN A SANDBOX (cutbox-door.mjs). By AI agents, Wed Nov 11 2026. No macro, syntax, notation, axiom, sorry.
-/
import Derived.Test.YtmpehgdmdejmlaaDoorRows
import GoSem.ClaimSeven
namespace Go.Proofs.YtmpehgdmdejmlaaDoor
namespace Rows

/-- THE TIED CARD OF 'caesuralaw02.UtfTells'. -/
def utfTellsCard : Claim7 := { stood := { row := utfTellsRow, standIns := [], harness := (true, "6f0b92985ed00c69acf49782a6607d47cbcee84c798c8d81f4c1a959dfdf52a2"), looks := false }, kinds := [], alts := [], laidByText := true, laidKinds := [.data], laidTests := true, laidLooks := .later }
def UtfTellsCardSaid : Prop := Claim7.holds Tryd.pinned (.plain (OpenSpec.ofChange utfTellsSpec)) utfTellsCard

/-- THE TIED CARD OF 'caesuralaw02.UtfBack'. -/
def utfBackCard : Claim7 := { stood := { row := utfBackRow, standIns := [], harness := (true, "6f0b92985ed00c69acf49782a6607d47cbcee84c798c8d81f4c1a959dfdf52a2"), looks := false }, kinds := [], alts := [], laidByText := true, laidKinds := [.data], laidTests := true, laidLooks := .later }
def UtfBackCardSaid : Prop := Claim7.holds Tryd.pinned (.plain (OpenSpec.ofChange utfBackSpec)) utfBackCard

/-- THE TIED CARD OF 'caesuralaw02.UtfRows'. -/
def utfRowsCard : Claim7 := { stood := { row := utfRowsRow, standIns := [], harness := (true, "6f0b92985ed00c69acf49782a6607d47cbcee84c798c8d81f4c1a959dfdf52a2"), looks := false }, kinds := [], alts := [], laidByText := true, laidKinds := [.data], laidTests := true, laidLooks := .later }
def UtfRowsCardSaid : Prop := Claim7.holds Tryd.pinned (.plain (OpenSpec.ofChange utfRowsSpec)) utfRowsCard

/-- THE TIED CARD OF 'caesuralaw02.UtfForms'. -/
def utfFormsCard : Claim7 := { stood := { row := utfFormsRow, standIns := [], harness := (true, "6f0b92985ed00c69acf49782a6607d47cbcee84c798c8d81f4c1a959dfdf52a2"), looks := false }, kinds := [], alts := [], laidByText := true, laidKinds := [.data], laidTests := true, laidLooks := .later }
def UtfFormsCardSaid : Prop := Claim7.holds Tryd.pinned (.plain (OpenSpec.ofChange utfFormsSpec)) utfFormsCard

/-- THE TIED CARD OF 'caesuralaw02.UtfOdd'. -/
def utfOddCard : Claim7 := { stood := { row := utfOddRow, standIns := [], harness := (true, "6f0b92985ed00c69acf49782a6607d47cbcee84c798c8d81f4c1a959dfdf52a2"), looks := false }, kinds := [], alts := [], laidByText := true, laidKinds := [.data], laidTests := true, laidLooks := .later }
def UtfOddCardSaid : Prop := Claim7.holds Tryd.pinned (.plain (OpenSpec.ofChange utfOddSpec)) utfOddCard

/-- THE SECOND FORM's CARD OF 'caesuralaw02.UtfTells'. -/
def utfTellsUptoCard : Claim7 := { stood := { row := utfTellsUptoRow, standIns := [], harness := (true, "6f0b92985ed00c69acf49782a6607d47cbcee84c798c8d81f4c1a959dfdf52a2"), looks := false }, kinds := [], alts := [], laidByText := true, laidKinds := [.data], laidTests := true, laidLooks := .later }
def UtfTellsUptoCardSaid : Prop := Claim7.holds Tryd.pinned (.plain (OpenSpec.upto utfTellsSpec)) utfTellsUptoCard

/-- THE SECOND FORM's CARD OF 'caesuralaw02.UtfBack'. -/
def utfBackUptoCard : Claim7 := { stood := { row := utfBackUptoRow, standIns := [], harness := (true, "6f0b92985ed00c69acf49782a6607d47cbcee84c798c8d81f4c1a959dfdf52a2"), looks := false }, kinds := [], alts := [], laidByText := true, laidKinds := [.data], laidTests := true, laidLooks := .later }
def UtfBackUptoCardSaid : Prop := Claim7.holds Tryd.pinned (.plain (OpenSpec.upto utfBackSpec)) utfBackUptoCard

/-- THE SECOND FORM's CARD OF 'caesuralaw02.UtfRows'. -/
def utfRowsUptoCard : Claim7 := { stood := { row := utfRowsUptoRow, standIns := [], harness := (true, "6f0b92985ed00c69acf49782a6607d47cbcee84c798c8d81f4c1a959dfdf52a2"), looks := false }, kinds := [], alts := [], laidByText := true, laidKinds := [.data], laidTests := true, laidLooks := .later }
def UtfRowsUptoCardSaid : Prop := Claim7.holds Tryd.pinned (.plain (OpenSpec.upto utfRowsSpec)) utfRowsUptoCard

/-- THE SECOND FORM's CARD OF 'caesuralaw02.UtfForms'. -/
def utfFormsUptoCard : Claim7 := { stood := { row := utfFormsUptoRow, standIns := [], harness := (true, "6f0b92985ed00c69acf49782a6607d47cbcee84c798c8d81f4c1a959dfdf52a2"), looks := false }, kinds := [], alts := [], laidByText := true, laidKinds := [.data], laidTests := true, laidLooks := .later }
def UtfFormsUptoCardSaid : Prop := Claim7.holds Tryd.pinned (.plain (OpenSpec.upto utfFormsSpec)) utfFormsUptoCard

/-- THE SECOND FORM's CARD OF 'caesuralaw02.UtfOdd'. -/
def utfOddUptoCard : Claim7 := { stood := { row := utfOddUptoRow, standIns := [], harness := (true, "6f0b92985ed00c69acf49782a6607d47cbcee84c798c8d81f4c1a959dfdf52a2"), looks := false }, kinds := [], alts := [], laidByText := true, laidKinds := [.data], laidTests := true, laidLooks := .later }
def UtfOddUptoCardSaid : Prop := Claim7.holds Tryd.pinned (.plain (OpenSpec.upto utfOddSpec)) utfOddUptoCard
end Rows
end Go.Proofs.YtmpehgdmdejmlaaDoor
