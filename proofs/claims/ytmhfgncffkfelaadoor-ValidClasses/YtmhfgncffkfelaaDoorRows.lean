/-
  NARROWER THAN 'FOR EVERY INPUT', by the rows' own cells (each row's printed sentence says how): TableCodes: laid · ValidTells: laid · ValidClasses: laid · ValidBreaks: laid · SeekTells: laid · SeekGoes: laid · SeekWithin: laid · SeekAround: laid · SeekErrors: laid.
  DERIVED. THE GIVEN ROWS OF THIS SEAT. 9 by the template 'for every input the law returns true; each argument reads behind the call as it read before'; 0 by the template 'total and deterministic' (their statements: YtmhfgncffkfelaaDoorTotals.lean).
  GIVEN WITH THE SEED: the statements are not yours to turn. If you find one false, say at which input.
  Laid BY PROGRAM, IN A SANDBOX (cutbox-rows.mjs): the forced cells as the released guide's own fill.sh prints them over the translation e192c4a14d96c3a0… (all of the seat's roots in one cut). By AI agents, Wed Nov 11 2026. No macro, syntax, notation, axiom, sorry.
-/
import Derived.Test.YtmhfgncffkfelaaDoorChecked
import GoSem.Claim
import GoSem.ClaimJoined
import GoSem.ClaimMapViews
import Derived.JoinedTies
import Derived.KernelRfl
namespace Go.Proofs.YtmhfgncffkfelaaDoor
/- THE CELL 'sum', in the pinned program and in every row, IS THE sha256 OF THE DUMP (.gsa) THAT YtmhfgncffkfelaaDoorProg.lean LOADS. Nothing in Lean hashes anything: it is a label: what it is worth is what the hold of that sum in a sandbox is worth. -/
noncomputable def Tryd.pinned : Pinned := { name := "ytmhfgncffkfelaadoor", sum := "e192c4a14d96c3a0a93198aeda5978267ad14a55eeb1a07cb0037c49b6d8aec4", checked := Tryd.checked }
namespace Rows
def none {H : Type} : Left H := { results := [], args := [] }

/- WHAT THE LISTED PACKAGE-LEVEL VARIABLES READ AS WHEN THE CALL BEGINS. Each datum BY PROGRAM (the guide's laid-datum.mjs) off the statement by which the dump's own 'gosem.cut.vars' lays the variable. In a bare row this is a premise. The card (YtmhfgncffkfelaaDoorCards.lean) ties it to the program's text. -/
def laid_caesura_table_ours {H : Type} : DataW H := .agg [.lit (.int .u8 66), .lit (.int .u8 82), .lit (.int .u8 75), .lit (.int .u8 49)]
def laid_caesura_utf_leads {H : Type} : DataW H := .agg [.agg [.lit (.int .u8 0), .lit (.int .u8 7), .lit (.int .i64 1), .lit (.int .i64 0)], .agg [.lit (.int .u8 6), .lit (.int .u8 5), .lit (.int .i64 2), .lit (.int .i64 128)], .agg [.lit (.int .u8 14), .lit (.int .u8 4), .lit (.int .i64 3), .lit (.int .i64 2048)], .agg [.lit (.int .u8 30), .lit (.int .u8 3), .lit (.int .i64 4), .lit (.int .i64 65536)]]

/-- 'caesuralaw06.TableCodes': WHATEVER THE INPUT: true; the input reads as it did. -/
def tableCodesSpec : ChangeSpec := { name := "tableCodes", fn := fun _ => fun
  | [d1, d2, d3] => { results := [.lit (.bool true)], args := [d1, d2, d3] }
  | _ => none }
def tableCodesRow : OpenClaim := { program := "ytmhfgncffkfelaadoor", sum := "e192c4a14d96c3a0a93198aeda5978267ad14a55eeb1a07cb0037c49b6d8aec4", func := "caesura/caesuralaw06.TableCodes", spec := "tableCodes", unfollowed := true, recurses := true, named := ["caesura/table.ours"], plainKeys := false, apart := false, laid := [("caesura/table.ours", laid_caesura_table_ours)] }
def TableCodesSaid : Prop := tableCodesRow.holds Tryd.pinned (OpenSpec.ofChange tableCodesSpec)

/-- ITS FALSE NEIGHBOUR: 'it returns false'. Refute it at one input. -/
def tableCodesWrong : ChangeSpec := { name := "tableCodes", fn := fun _ => fun
  | [d1, d2, d3] => { results := [.lit (.bool false)], args := [d1, d2, d3] }
  | _ => none }
def TableCodesWrongFalsely : Prop := tableCodesRow.holds Tryd.pinned (OpenSpec.ofChange tableCodesWrong)

/-- 'caesuralaw07.ValidTells': WHATEVER THE INPUT: true; the input reads as it did. -/
def validTellsSpec : ChangeSpec := { name := "validTells", fn := fun _ => fun
  | [d1, d2, d3] => { results := [.lit (.bool true)], args := [d1, d2, d3] }
  | _ => none }
def validTellsRow : OpenClaim := { program := "ytmhfgncffkfelaadoor", sum := "e192c4a14d96c3a0a93198aeda5978267ad14a55eeb1a07cb0037c49b6d8aec4", func := "caesura/caesuralaw07.ValidTells", spec := "validTells", unfollowed := true, recurses := true, named := ["caesura/table.ours"], plainKeys := false, apart := false, laid := [("caesura/table.ours", laid_caesura_table_ours)] }
def ValidTellsSaid : Prop := validTellsRow.holds Tryd.pinned (OpenSpec.ofChange validTellsSpec)

/-- ITS FALSE NEIGHBOUR: 'it returns false'. Refute it at one input. -/
def validTellsWrong : ChangeSpec := { name := "validTells", fn := fun _ => fun
  | [d1, d2, d3] => { results := [.lit (.bool false)], args := [d1, d2, d3] }
  | _ => none }
def ValidTellsWrongFalsely : Prop := validTellsRow.holds Tryd.pinned (OpenSpec.ofChange validTellsWrong)

/-- 'caesuralaw07.ValidClasses': WHATEVER THE INPUT: true; the input reads as it did. -/
def validClassesSpec : ChangeSpec := { name := "validClasses", fn := fun _ => fun
  | [d1, d2] => { results := [.lit (.bool true)], args := [d1, d2] }
  | _ => none }
def validClassesRow : OpenClaim := { program := "ytmhfgncffkfelaadoor", sum := "e192c4a14d96c3a0a93198aeda5978267ad14a55eeb1a07cb0037c49b6d8aec4", func := "caesura/caesuralaw07.ValidClasses", spec := "validClasses", unfollowed := true, recurses := true, named := ["caesura/table.ours"], plainKeys := false, apart := false, laid := [("caesura/table.ours", laid_caesura_table_ours)] }
def ValidClassesSaid : Prop := validClassesRow.holds Tryd.pinned (OpenSpec.ofChange validClassesSpec)

/-- ITS FALSE NEIGHBOUR: 'it returns false'. Refute it at one input. -/
def validClassesWrong : ChangeSpec := { name := "validClasses", fn := fun _ => fun
  | [d1, d2] => { results := [.lit (.bool false)], args := [d1, d2] }
  | _ => none }
def ValidClassesWrongFalsely : Prop := validClassesRow.holds Tryd.pinned (OpenSpec.ofChange validClassesWrong)

/-- 'caesuralaw07.ValidBreaks': WHATEVER THE INPUT: true; the input reads as it did. -/
def validBreaksSpec : ChangeSpec := { name := "validBreaks", fn := fun _ => fun
  | [d1, d2] => { results := [.lit (.bool true)], args := [d1, d2] }
  | _ => none }
def validBreaksRow : OpenClaim := { program := "ytmhfgncffkfelaadoor", sum := "e192c4a14d96c3a0a93198aeda5978267ad14a55eeb1a07cb0037c49b6d8aec4", func := "caesura/caesuralaw07.ValidBreaks", spec := "validBreaks", unfollowed := true, recurses := true, named := ["caesura/table.ours"], plainKeys := false, apart := false, laid := [("caesura/table.ours", laid_caesura_table_ours)] }
def ValidBreaksSaid : Prop := validBreaksRow.holds Tryd.pinned (OpenSpec.ofChange validBreaksSpec)

/-- ITS FALSE NEIGHBOUR: 'it returns false'. Refute it at one input. -/
def validBreaksWrong : ChangeSpec := { name := "validBreaks", fn := fun _ => fun
  | [d1, d2] => { results := [.lit (.bool false)], args := [d1, d2] }
  | _ => none }
def ValidBreaksWrongFalsely : Prop := validBreaksRow.holds Tryd.pinned (OpenSpec.ofChange validBreaksWrong)

/-- 'caesuralaw10.SeekTells': WHATEVER THE INPUT: true; the input reads as it did. -/
def seekTellsSpec : ChangeSpec := { name := "seekTells", fn := fun _ => fun
  | [d1, d2, d3] => { results := [.lit (.bool true)], args := [d1, d2, d3] }
  | _ => none }
def seekTellsRow : OpenClaim := { program := "ytmhfgncffkfelaadoor", sum := "e192c4a14d96c3a0a93198aeda5978267ad14a55eeb1a07cb0037c49b6d8aec4", func := "caesura/caesuralaw10.SeekTells", spec := "seekTells", unfollowed := true, recurses := true, named := ["caesura/utf.leads"], plainKeys := false, apart := false, laid := [("caesura/utf.leads", laid_caesura_utf_leads)] }
def SeekTellsSaid : Prop := seekTellsRow.holds Tryd.pinned (OpenSpec.ofChange seekTellsSpec)

/-- ITS FALSE NEIGHBOUR: 'it returns false'. Refute it at one input. -/
def seekTellsWrong : ChangeSpec := { name := "seekTells", fn := fun _ => fun
  | [d1, d2, d3] => { results := [.lit (.bool false)], args := [d1, d2, d3] }
  | _ => none }
def SeekTellsWrongFalsely : Prop := seekTellsRow.holds Tryd.pinned (OpenSpec.ofChange seekTellsWrong)

/-- 'caesuralaw10.SeekGoes': WHATEVER THE INPUT: true; the input reads as it did. -/
def seekGoesSpec : ChangeSpec := { name := "seekGoes", fn := fun _ => fun
  | [d1, d2] => { results := [.lit (.bool true)], args := [d1, d2] }
  | _ => none }
def seekGoesRow : OpenClaim := { program := "ytmhfgncffkfelaadoor", sum := "e192c4a14d96c3a0a93198aeda5978267ad14a55eeb1a07cb0037c49b6d8aec4", func := "caesura/caesuralaw10.SeekGoes", spec := "seekGoes", unfollowed := true, recurses := true, named := ["caesura/utf.leads"], plainKeys := false, apart := false, laid := [("caesura/utf.leads", laid_caesura_utf_leads)] }
def SeekGoesSaid : Prop := seekGoesRow.holds Tryd.pinned (OpenSpec.ofChange seekGoesSpec)

/-- ITS FALSE NEIGHBOUR: 'it returns false'. Refute it at one input. -/
def seekGoesWrong : ChangeSpec := { name := "seekGoes", fn := fun _ => fun
  | [d1, d2] => { results := [.lit (.bool false)], args := [d1, d2] }
  | _ => none }
def SeekGoesWrongFalsely : Prop := seekGoesRow.holds Tryd.pinned (OpenSpec.ofChange seekGoesWrong)

/-- 'caesuralaw10.SeekWithin': WHATEVER THE INPUT: true; the input reads as it did. -/
def seekWithinSpec : ChangeSpec := { name := "seekWithin", fn := fun _ => fun
  | [d1, d2, d3] => { results := [.lit (.bool true)], args := [d1, d2, d3] }
  | _ => none }
def seekWithinRow : OpenClaim := { program := "ytmhfgncffkfelaadoor", sum := "e192c4a14d96c3a0a93198aeda5978267ad14a55eeb1a07cb0037c49b6d8aec4", func := "caesura/caesuralaw10.SeekWithin", spec := "seekWithin", unfollowed := true, recurses := true, named := ["caesura/utf.leads"], plainKeys := false, apart := false, laid := [("caesura/utf.leads", laid_caesura_utf_leads)] }
def SeekWithinSaid : Prop := seekWithinRow.holds Tryd.pinned (OpenSpec.ofChange seekWithinSpec)

/-- ITS FALSE NEIGHBOUR: 'it returns false'. Refute it at one input. -/
def seekWithinWrong : ChangeSpec := { name := "seekWithin", fn := fun _ => fun
  | [d1, d2, d3] => { results := [.lit (.bool false)], args := [d1, d2, d3] }
  | _ => none }
def SeekWithinWrongFalsely : Prop := seekWithinRow.holds Tryd.pinned (OpenSpec.ofChange seekWithinWrong)

/-- 'caesuralaw10.SeekAround': WHATEVER THE INPUT: true; the input reads as it did. -/
def seekAroundSpec : ChangeSpec := { name := "seekAround", fn := fun _ => fun
  | [d1, d2, d3] => { results := [.lit (.bool true)], args := [d1, d2, d3] }
  | _ => none }
def seekAroundRow : OpenClaim := { program := "ytmhfgncffkfelaadoor", sum := "e192c4a14d96c3a0a93198aeda5978267ad14a55eeb1a07cb0037c49b6d8aec4", func := "caesura/caesuralaw10.SeekAround", spec := "seekAround", unfollowed := true, recurses := true, named := ["caesura/utf.leads"], plainKeys := false, apart := false, laid := [("caesura/utf.leads", laid_caesura_utf_leads)] }
def SeekAroundSaid : Prop := seekAroundRow.holds Tryd.pinned (OpenSpec.ofChange seekAroundSpec)

/-- ITS FALSE NEIGHBOUR: 'it returns false'. Refute it at one input. -/
def seekAroundWrong : ChangeSpec := { name := "seekAround", fn := fun _ => fun
  | [d1, d2, d3] => { results := [.lit (.bool false)], args := [d1, d2, d3] }
  | _ => none }
def SeekAroundWrongFalsely : Prop := seekAroundRow.holds Tryd.pinned (OpenSpec.ofChange seekAroundWrong)

/-- 'caesuralaw10.SeekErrors': WHATEVER THE INPUT: true; the input reads as it did. -/
def seekErrorsSpec : ChangeSpec := { name := "seekErrors", fn := fun _ => fun
  | [d1, d2, d3] => { results := [.lit (.bool true)], args := [d1, d2, d3] }
  | _ => none }
def seekErrorsRow : OpenClaim := { program := "ytmhfgncffkfelaadoor", sum := "e192c4a14d96c3a0a93198aeda5978267ad14a55eeb1a07cb0037c49b6d8aec4", func := "caesura/caesuralaw10.SeekErrors", spec := "seekErrors", unfollowed := true, recurses := true, named := ["caesura/utf.leads"], plainKeys := false, apart := false, laid := [("caesura/utf.leads", laid_caesura_utf_leads)] }
def SeekErrorsSaid : Prop := seekErrorsRow.holds Tryd.pinned (OpenSpec.ofChange seekErrorsSpec)

/-- ITS FALSE NEIGHBOUR: 'it returns false'. Refute it at one input. -/
def seekErrorsWrong : ChangeSpec := { name := "seekErrors", fn := fun _ => fun
  | [d1, d2, d3] => { results := [.lit (.bool false)], args := [d1, d2, d3] }
  | _ => none }
def SeekErrorsWrongFalsely : Prop := seekErrorsRow.holds Tryd.pinned (OpenSpec.ofChange seekErrorsWrong)

/- THE SECOND FORM. 'bulk': how many values and letters a reading holds, each counted each time it is reached (what is shared counts as often as it is met; a slice's spare places count too). A statement '..UptoSaid' is the law's where the arguments, and the package variables that the reading takes, are together of bulk at most 1048576: NARROWER than '..Said'. Prove '..Said' where nothing that the law and all that it calls make is longer than what came in: it says more and counts as full. Else prove '..UptoSaid'. A law counts once. -/
mutual
def uptoBulk {H : Type} : DataW H → Nat
  | .lit (.string bytes) => bytes.length + 1
  | .lit _ => 1
  | .nil => 1
  | .ptr d => uptoBulk d + 1
  | .slice elems spare => uptoBulkAll elems + uptoBulkAll spare + 1
  | .agg parts => uptoBulkAll parts + 1
  | .iface _ d => uptoBulk d + 1
  | .map entries => uptoBulkEntries entries + 1
  | .held _ => 1
def uptoBulkAll {H : Type} : List (DataW H) → Nat
  | [] => 0
  | d :: r => uptoBulk d + uptoBulkAll r
def uptoBulkEntries {H : Type} : List (Lit × DataW H) → Nat
  | [] => 0
  | x :: r => uptoBulkEntry x + uptoBulkEntries r
def uptoBulkEntry {H : Type} : Lit × DataW H → Nat
  | (.string bytes, d) => bytes.length + uptoBulk d + 1
  | (_, d) => uptoBulk d + 1
 end
def uptoSmall : (H : Type) → List (DataW H) → Bool := fun _ ds => decide (uptoBulkAll ds ≤ 1048576)
def OpenSpec.upto (s : _root_.Go.ChangeSpec) : _root_.Go.OpenSpec := { _root_.Go.OpenSpec.ofChange s with cond := some uptoSmall }

/-- 'caesuralaw06.TableCodes', WHERE WHAT IT READS IS OF BULK AT MOST 1048576: true; the input reads as it did. -/
def tableCodesUptoRow : OpenClaim := { program := "ytmhfgncffkfelaadoor", sum := "e192c4a14d96c3a0a93198aeda5978267ad14a55eeb1a07cb0037c49b6d8aec4", func := "caesura/caesuralaw06.TableCodes", spec := "tableCodes", unfollowed := true, recurses := true, named := ["caesura/table.ours"], plainKeys := false, apart := false, laid := [("caesura/table.ours", laid_caesura_table_ours)], narrowed := true }
def TableCodesUptoSaid : Prop := tableCodesUptoRow.holds Tryd.pinned (OpenSpec.upto tableCodesSpec)

/-- 'caesuralaw07.ValidTells', WHERE WHAT IT READS IS OF BULK AT MOST 1048576: true; the input reads as it did. -/
def validTellsUptoRow : OpenClaim := { program := "ytmhfgncffkfelaadoor", sum := "e192c4a14d96c3a0a93198aeda5978267ad14a55eeb1a07cb0037c49b6d8aec4", func := "caesura/caesuralaw07.ValidTells", spec := "validTells", unfollowed := true, recurses := true, named := ["caesura/table.ours"], plainKeys := false, apart := false, laid := [("caesura/table.ours", laid_caesura_table_ours)], narrowed := true }
def ValidTellsUptoSaid : Prop := validTellsUptoRow.holds Tryd.pinned (OpenSpec.upto validTellsSpec)

/-- 'caesuralaw07.ValidClasses', WHERE WHAT IT READS IS OF BULK AT MOST 1048576: true; the input reads as it did. -/
def validClassesUptoRow : OpenClaim := { program := "ytmhfgncffkfelaadoor", sum := "e192c4a14d96c3a0a93198aeda5978267ad14a55eeb1a07cb0037c49b6d8aec4", func := "caesura/caesuralaw07.ValidClasses", spec := "validClasses", unfollowed := true, recurses := true, named := ["caesura/table.ours"], plainKeys := false, apart := false, laid := [("caesura/table.ours", laid_caesura_table_ours)], narrowed := true }
def ValidClassesUptoSaid : Prop := validClassesUptoRow.holds Tryd.pinned (OpenSpec.upto validClassesSpec)

/-- 'caesuralaw07.ValidBreaks', WHERE WHAT IT READS IS OF BULK AT MOST 1048576: true; the input reads as it did. -/
def validBreaksUptoRow : OpenClaim := { program := "ytmhfgncffkfelaadoor", sum := "e192c4a14d96c3a0a93198aeda5978267ad14a55eeb1a07cb0037c49b6d8aec4", func := "caesura/caesuralaw07.ValidBreaks", spec := "validBreaks", unfollowed := true, recurses := true, named := ["caesura/table.ours"], plainKeys := false, apart := false, laid := [("caesura/table.ours", laid_caesura_table_ours)], narrowed := true }
def ValidBreaksUptoSaid : Prop := validBreaksUptoRow.holds Tryd.pinned (OpenSpec.upto validBreaksSpec)

/-- 'caesuralaw10.SeekTells', WHERE WHAT IT READS IS OF BULK AT MOST 1048576: true; the input reads as it did. -/
def seekTellsUptoRow : OpenClaim := { program := "ytmhfgncffkfelaadoor", sum := "e192c4a14d96c3a0a93198aeda5978267ad14a55eeb1a07cb0037c49b6d8aec4", func := "caesura/caesuralaw10.SeekTells", spec := "seekTells", unfollowed := true, recurses := true, named := ["caesura/utf.leads"], plainKeys := false, apart := false, laid := [("caesura/utf.leads", laid_caesura_utf_leads)], narrowed := true }
def SeekTellsUptoSaid : Prop := seekTellsUptoRow.holds Tryd.pinned (OpenSpec.upto seekTellsSpec)

/-- 'caesuralaw10.SeekGoes', WHERE WHAT IT READS IS OF BULK AT MOST 1048576: true; the input reads as it did. -/
def seekGoesUptoRow : OpenClaim := { program := "ytmhfgncffkfelaadoor", sum := "e192c4a14d96c3a0a93198aeda5978267ad14a55eeb1a07cb0037c49b6d8aec4", func := "caesura/caesuralaw10.SeekGoes", spec := "seekGoes", unfollowed := true, recurses := true, named := ["caesura/utf.leads"], plainKeys := false, apart := false, laid := [("caesura/utf.leads", laid_caesura_utf_leads)], narrowed := true }
def SeekGoesUptoSaid : Prop := seekGoesUptoRow.holds Tryd.pinned (OpenSpec.upto seekGoesSpec)

/-- 'caesuralaw10.SeekWithin', WHERE WHAT IT READS IS OF BULK AT MOST 1048576: true; the input reads as it did. -/
def seekWithinUptoRow : OpenClaim := { program := "ytmhfgncffkfelaadoor", sum := "e192c4a14d96c3a0a93198aeda5978267ad14a55eeb1a07cb0037c49b6d8aec4", func := "caesura/caesuralaw10.SeekWithin", spec := "seekWithin", unfollowed := true, recurses := true, named := ["caesura/utf.leads"], plainKeys := false, apart := false, laid := [("caesura/utf.leads", laid_caesura_utf_leads)], narrowed := true }
def SeekWithinUptoSaid : Prop := seekWithinUptoRow.holds Tryd.pinned (OpenSpec.upto seekWithinSpec)

/-- 'caesuralaw10.SeekAround', WHERE WHAT IT READS IS OF BULK AT MOST 1048576: true; the input reads as it did. -/
def seekAroundUptoRow : OpenClaim := { program := "ytmhfgncffkfelaadoor", sum := "e192c4a14d96c3a0a93198aeda5978267ad14a55eeb1a07cb0037c49b6d8aec4", func := "caesura/caesuralaw10.SeekAround", spec := "seekAround", unfollowed := true, recurses := true, named := ["caesura/utf.leads"], plainKeys := false, apart := false, laid := [("caesura/utf.leads", laid_caesura_utf_leads)], narrowed := true }
def SeekAroundUptoSaid : Prop := seekAroundUptoRow.holds Tryd.pinned (OpenSpec.upto seekAroundSpec)

/-- 'caesuralaw10.SeekErrors', WHERE WHAT IT READS IS OF BULK AT MOST 1048576: true; the input reads as it did. -/
def seekErrorsUptoRow : OpenClaim := { program := "ytmhfgncffkfelaadoor", sum := "e192c4a14d96c3a0a93198aeda5978267ad14a55eeb1a07cb0037c49b6d8aec4", func := "caesura/caesuralaw10.SeekErrors", spec := "seekErrors", unfollowed := true, recurses := true, named := ["caesura/utf.leads"], plainKeys := false, apart := false, laid := [("caesura/utf.leads", laid_caesura_utf_leads)], narrowed := true }
def SeekErrorsUptoSaid : Prop := seekErrorsUptoRow.holds Tryd.pinned (OpenSpec.upto seekErrorsSpec)

end Rows
end Go.Proofs.YtmhfgncffkfelaaDoor
