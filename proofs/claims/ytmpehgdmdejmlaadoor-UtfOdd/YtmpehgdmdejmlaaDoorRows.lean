/-
  NARROWER THAN 'FOR EVERY INPUT', by the rows' own cells (each row's printed sentence says how): UtfTells: laid · UtfBack: laid · UtfRows: laid · UtfForms: laid · UtfOdd: laid.
  DERIVED. THE GIVEN ROWS OF THIS SEAT. 5 by the template 'for every input the law returns true; each argument reads behind the call as it read before'; 0 by the template 'total and deterministic' (their statements: YtmpehgdmdejmlaaDoorTotals.lean).
  GIVEN WITH THE SEED: the statements are not yours to turn. If you find one false, say at which input.
  Laid BY PROGRAM, IN A SANDBOX (cutbox-rows.mjs): the forced cells as the released guide's own fill.sh prints them over the translation 38696acea5dd3415… (all of the seat's roots in one cut). By AI agents, Wed Nov 11 2026. No macro, syntax, notation, axiom, sorry.
-/
import Derived.Test.YtmpehgdmdejmlaaDoorChecked
import GoSem.Claim
import GoSem.ClaimJoined
import GoSem.ClaimMapViews
import Derived.JoinedTies
import Derived.KernelRfl
namespace Go.Proofs.YtmpehgdmdejmlaaDoor
/- THE CELL 'sum', in the pinned program and in every row, IS THE sha256 OF THE DUMP (.gsa) THAT YtmpehgdmdejmlaaDoorProg.lean LOADS. Nothing in Lean hashes anything: it is a label: what it is worth is what the hold of that sum in a sandbox is worth. -/
noncomputable def Tryd.pinned : Pinned := { name := "ytmpehgdmdejmlaadoor", sum := "38696acea5dd341500edd5cd37e54b0fe8238da9b89d658fd6aeac906cc3405c", checked := Tryd.checked }
namespace Rows
def none {H : Type} : Left H := { results := [], args := [] }

/- WHAT THE LISTED PACKAGE-LEVEL VARIABLES READ AS WHEN THE CALL BEGINS. Each datum BY PROGRAM (the guide's laid-datum.mjs) off the statement by which the dump's own 'gosem.cut.vars' lays the variable. In a bare row this is a premise. The card (YtmpehgdmdejmlaaDoorCards.lean) ties it to the program's text. -/
def laid_caesura_utf_leads {H : Type} : DataW H := .agg [.agg [.lit (.int .u8 0), .lit (.int .u8 7), .lit (.int .i64 1), .lit (.int .i64 0)], .agg [.lit (.int .u8 6), .lit (.int .u8 5), .lit (.int .i64 2), .lit (.int .i64 128)], .agg [.lit (.int .u8 14), .lit (.int .u8 4), .lit (.int .i64 3), .lit (.int .i64 2048)], .agg [.lit (.int .u8 30), .lit (.int .u8 3), .lit (.int .i64 4), .lit (.int .i64 65536)]]

/-- 'caesuralaw02.UtfTells': WHATEVER THE INPUT: true; the input reads as it did. -/
def utfTellsSpec : ChangeSpec := { name := "utfTells", fn := fun _ => fun
  | [d1, d2, d3] => { results := [.lit (.bool true)], args := [d1, d2, d3] }
  | _ => none }
def utfTellsRow : OpenClaim := { program := "ytmpehgdmdejmlaadoor", sum := "38696acea5dd341500edd5cd37e54b0fe8238da9b89d658fd6aeac906cc3405c", func := "caesura/caesuralaw02.UtfTells", spec := "utfTells", named := ["caesura/utf.leads"], apart := false, laid := [("caesura/utf.leads", laid_caesura_utf_leads)] }
def UtfTellsSaid : Prop := utfTellsRow.holds Tryd.pinned (OpenSpec.ofChange utfTellsSpec)

/-- ITS FALSE NEIGHBOUR: 'it returns false'. Refute it at one input. -/
def utfTellsWrong : ChangeSpec := { name := "utfTells", fn := fun _ => fun
  | [d1, d2, d3] => { results := [.lit (.bool false)], args := [d1, d2, d3] }
  | _ => none }
def UtfTellsWrongFalsely : Prop := utfTellsRow.holds Tryd.pinned (OpenSpec.ofChange utfTellsWrong)

/-- 'caesuralaw02.UtfBack': WHATEVER THE INPUT: true; the input reads as it did. -/
def utfBackSpec : ChangeSpec := { name := "utfBack", fn := fun _ => fun
  | [d1, d2] => { results := [.lit (.bool true)], args := [d1, d2] }
  | _ => none }
def utfBackRow : OpenClaim := { program := "ytmpehgdmdejmlaadoor", sum := "38696acea5dd341500edd5cd37e54b0fe8238da9b89d658fd6aeac906cc3405c", func := "caesura/caesuralaw02.UtfBack", spec := "utfBack", named := ["caesura/utf.leads"], apart := false, laid := [("caesura/utf.leads", laid_caesura_utf_leads)] }
def UtfBackSaid : Prop := utfBackRow.holds Tryd.pinned (OpenSpec.ofChange utfBackSpec)

/-- ITS FALSE NEIGHBOUR: 'it returns false'. Refute it at one input. -/
def utfBackWrong : ChangeSpec := { name := "utfBack", fn := fun _ => fun
  | [d1, d2] => { results := [.lit (.bool false)], args := [d1, d2] }
  | _ => none }
def UtfBackWrongFalsely : Prop := utfBackRow.holds Tryd.pinned (OpenSpec.ofChange utfBackWrong)

/-- 'caesuralaw02.UtfRows': WHATEVER THE INPUT: true; the input reads as it did. -/
def utfRowsSpec : ChangeSpec := { name := "utfRows", fn := fun _ => fun
  | [d1, d2] => { results := [.lit (.bool true)], args := [d1, d2] }
  | _ => none }
def utfRowsRow : OpenClaim := { program := "ytmpehgdmdejmlaadoor", sum := "38696acea5dd341500edd5cd37e54b0fe8238da9b89d658fd6aeac906cc3405c", func := "caesura/caesuralaw02.UtfRows", spec := "utfRows", named := ["caesura/utf.leads"], apart := false, laid := [("caesura/utf.leads", laid_caesura_utf_leads)] }
def UtfRowsSaid : Prop := utfRowsRow.holds Tryd.pinned (OpenSpec.ofChange utfRowsSpec)

/-- ITS FALSE NEIGHBOUR: 'it returns false'. Refute it at one input. -/
def utfRowsWrong : ChangeSpec := { name := "utfRows", fn := fun _ => fun
  | [d1, d2] => { results := [.lit (.bool false)], args := [d1, d2] }
  | _ => none }
def UtfRowsWrongFalsely : Prop := utfRowsRow.holds Tryd.pinned (OpenSpec.ofChange utfRowsWrong)

/-- 'caesuralaw02.UtfForms': WHATEVER THE INPUT: true; the input reads as it did. -/
def utfFormsSpec : ChangeSpec := { name := "utfForms", fn := fun _ => fun
  | [d] => { results := [.lit (.bool true)], args := [d] }
  | _ => none }
def utfFormsRow : OpenClaim := { program := "ytmpehgdmdejmlaadoor", sum := "38696acea5dd341500edd5cd37e54b0fe8238da9b89d658fd6aeac906cc3405c", func := "caesura/caesuralaw02.UtfForms", spec := "utfForms", named := ["caesura/utf.leads"], apart := false, laid := [("caesura/utf.leads", laid_caesura_utf_leads)] }
def UtfFormsSaid : Prop := utfFormsRow.holds Tryd.pinned (OpenSpec.ofChange utfFormsSpec)

/-- ITS FALSE NEIGHBOUR: 'it returns false'. Refute it at one input. -/
def utfFormsWrong : ChangeSpec := { name := "utfForms", fn := fun _ => fun
  | [d] => { results := [.lit (.bool false)], args := [d] }
  | _ => none }
def UtfFormsWrongFalsely : Prop := utfFormsRow.holds Tryd.pinned (OpenSpec.ofChange utfFormsWrong)

/-- 'caesuralaw02.UtfOdd': WHATEVER THE INPUT: true; the input reads as it did. -/
def utfOddSpec : ChangeSpec := { name := "utfOdd", fn := fun _ => fun
  | [d1, d2] => { results := [.lit (.bool true)], args := [d1, d2] }
  | _ => none }
def utfOddRow : OpenClaim := { program := "ytmpehgdmdejmlaadoor", sum := "38696acea5dd341500edd5cd37e54b0fe8238da9b89d658fd6aeac906cc3405c", func := "caesura/caesuralaw02.UtfOdd", spec := "utfOdd", named := ["caesura/utf.leads"], apart := false, laid := [("caesura/utf.leads", laid_caesura_utf_leads)] }
def UtfOddSaid : Prop := utfOddRow.holds Tryd.pinned (OpenSpec.ofChange utfOddSpec)

/-- ITS FALSE NEIGHBOUR: 'it returns false'. Refute it at one input. -/
def utfOddWrong : ChangeSpec := { name := "utfOdd", fn := fun _ => fun
  | [d1, d2] => { results := [.lit (.bool false)], args := [d1, d2] }
  | _ => none }
def UtfOddWrongFalsely : Prop := utfOddRow.holds Tryd.pinned (OpenSpec.ofChange utfOddWrong)

/- THE SECOND FORM. 'bulk': how many values and letters a reading holds, each counted each time it is reached (what is shared counts as often as it is met; a slice's spare places count too). A statement '..UptoSaid' is the law's where the arguments, and the package variables that the reading takes, are together of bulk at most 1048576: NARROWER than '..Said'. Prove '..Said' where nothing that the law and all that it calls make is longer than what came in: it says more and counts as full. Else prove '..UptoSaid'. A law counts once. -/
mutual
def uptoBulk {H : Type} : DataW H → Nat
  | .lit (.string bytes) => bytes.length + 1
  | .lit _ => 1
  | .nil => 1
  | .ptr d => uptoBulk d + 1
  | .slice elems spare => uptoBulkAll elems + uptoBulkAll spare + 1
  | .agg parts => uptoBulkAll parts + 1
  | .iface _ d => uptoBulk d + 1
  | .map entries => uptoBulkEntries entries + 1
  | .held _ => 1
def uptoBulkAll {H : Type} : List (DataW H) → Nat
  | [] => 0
  | d :: r => uptoBulk d + uptoBulkAll r
def uptoBulkEntries {H : Type} : List (Lit × DataW H) → Nat
  | [] => 0
  | x :: r => uptoBulkEntry x + uptoBulkEntries r
def uptoBulkEntry {H : Type} : Lit × DataW H → Nat
  | (.string bytes, d) => bytes.length + uptoBulk d + 1
  | (_, d) => uptoBulk d + 1
 end
def uptoSmall : (H : Type) → List (DataW H) → Bool := fun _ ds => decide (uptoBulkAll ds ≤ 1048576)
def OpenSpec.upto (s : _root_.Go.ChangeSpec) : _root_.Go.OpenSpec := { _root_.Go.OpenSpec.ofChange s with cond := some uptoSmall }

/-- 'caesuralaw02.UtfTells', WHERE WHAT IT READS IS OF BULK AT MOST 1048576: true; the input reads as it did. -/
def utfTellsUptoRow : OpenClaim := { program := "ytmpehgdmdejmlaadoor", sum := "38696acea5dd341500edd5cd37e54b0fe8238da9b89d658fd6aeac906cc3405c", func := "caesura/caesuralaw02.UtfTells", spec := "utfTells", named := ["caesura/utf.leads"], apart := false, laid := [("caesura/utf.leads", laid_caesura_utf_leads)], narrowed := true }
def UtfTellsUptoSaid : Prop := utfTellsUptoRow.holds Tryd.pinned (OpenSpec.upto utfTellsSpec)

/-- 'caesuralaw02.UtfBack', WHERE WHAT IT READS IS OF BULK AT MOST 1048576: true; the input reads as it did. -/
def utfBackUptoRow : OpenClaim := { program := "ytmpehgdmdejmlaadoor", sum := "38696acea5dd341500edd5cd37e54b0fe8238da9b89d658fd6aeac906cc3405c", func := "caesura/caesuralaw02.UtfBack", spec := "utfBack", named := ["caesura/utf.leads"], apart := false, laid := [("caesura/utf.leads", laid_caesura_utf_leads)], narrowed := true }
def UtfBackUptoSaid : Prop := utfBackUptoRow.holds Tryd.pinned (OpenSpec.upto utfBackSpec)

/-- 'caesuralaw02.UtfRows', WHERE WHAT IT READS IS OF BULK AT MOST 1048576: true; the input reads as it did. -/
def utfRowsUptoRow : OpenClaim := { program := "ytmpehgdmdejmlaadoor", sum := "38696acea5dd341500edd5cd37e54b0fe8238da9b89d658fd6aeac906cc3405c", func := "caesura/caesuralaw02.UtfRows", spec := "utfRows", named := ["caesura/utf.leads"], apart := false, laid := [("caesura/utf.leads", laid_caesura_utf_leads)], narrowed := true }
def UtfRowsUptoSaid : Prop := utfRowsUptoRow.holds Tryd.pinned (OpenSpec.upto utfRowsSpec)

/-- 'caesuralaw02.UtfForms', WHERE WHAT IT READS IS OF BULK AT MOST 1048576: true; the input reads as it did. -/
def utfFormsUptoRow : OpenClaim := { program := "ytmpehgdmdejmlaadoor", sum := "38696acea5dd341500edd5cd37e54b0fe8238da9b89d658fd6aeac906cc3405c", func := "caesura/caesuralaw02.UtfForms", spec := "utfForms", named := ["caesura/utf.leads"], apart := false, laid := [("caesura/utf.leads", laid_caesura_utf_leads)], narrowed := true }
def UtfFormsUptoSaid : Prop := utfFormsUptoRow.holds Tryd.pinned (OpenSpec.upto utfFormsSpec)

/-- 'caesuralaw02.UtfOdd', WHERE WHAT IT READS IS OF BULK AT MOST 1048576: true; the input reads as it did. -/
def utfOddUptoRow : OpenClaim := { program := "ytmpehgdmdejmlaadoor", sum := "38696acea5dd341500edd5cd37e54b0fe8238da9b89d658fd6aeac906cc3405c", func := "caesura/caesuralaw02.UtfOdd", spec := "utfOdd", named := ["caesura/utf.leads"], apart := false, laid := [("caesura/utf.leads", laid_caesura_utf_leads)], narrowed := true }
def UtfOddUptoSaid : Prop := utfOddUptoRow.holds Tryd.pinned (OpenSpec.upto utfOddSpec)

end Rows
end Go.Proofs.YtmpehgdmdejmlaaDoor
