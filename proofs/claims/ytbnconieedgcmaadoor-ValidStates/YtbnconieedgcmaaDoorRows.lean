/-
  NARROWER THAN 'FOR EVERY INPUT', by the rows' own cells (each row's printed sentence says how): TableCodes: laid · ValidTells: laid · ValidStates: laid · ValidClasses: laid · ValidBreaks: laid · SegmentTells: laid · SegmentWhole: laid · SegmentIll: laid · SegmentAhead: laid.
  DERIVED. THE GIVEN ROWS OF THIS SEAT. 9 by the template 'for every input the law returns true; each argument reads behind the call as it read before'; 0 by the template 'total and deterministic' (their statements: YtbnconieedgcmaaDoorTotals.lean).
  GIVEN WITH THE SEED: the statements are not yours to turn. If you find one false, say at which input.
  Laid BY PROGRAM, IN A SANDBOX (cutbox-rows.mjs): the forced cells as the released guide's own fill.sh prints them over the translation f76649e03eb50f3f… (all of the seat's roots in one cut). By AI agents, Wed Nov 11 2026. No macro, syntax, notation, axiom, sorry.
-/
import Derived.Test.YtbnconieedgcmaaDoorChecked
import GoSem.Claim
import GoSem.ClaimJoined
import GoSem.ClaimMapViews
import Derived.JoinedTies
import Derived.KernelRfl
namespace Go.Proofs.YtbnconieedgcmaaDoor
/- THE CELL 'sum', in the pinned program and in every row, IS THE sha256 OF THE DUMP (.gsa) THAT YtbnconieedgcmaaDoorProg.lean LOADS. Nothing in Lean hashes anything: it is a label: what it is worth is what the hold of that sum in a sandbox is worth. -/
noncomputable def Tryd.pinned : Pinned := { name := "ytbnconieedgcmaadoor", sum := "f76649e03eb50f3fc52115ff4ebfc79357b44da95ef2d5b0cc371caba980591a", checked := Tryd.checked }
namespace Rows
def none {H : Type} : Left H := { results := [], args := [] }

/- WHAT THE LISTED PACKAGE-LEVEL VARIABLES READ AS WHEN THE CALL BEGINS. Each datum BY PROGRAM (the guide's laid-datum.mjs) off the statement by which the dump's own 'gosem.cut.vars' lays the variable. In a bare row this is a premise. The card (YtbnconieedgcmaaDoorCards.lean) ties it to the program's text. -/
def laid_caesura_table_ours {H : Type} : DataW H := .agg [.lit (.int .u8 66), .lit (.int .u8 82), .lit (.int .u8 75), .lit (.int .u8 49)]
def laid_caesura_utf_leads {H : Type} : DataW H := .agg [.agg [.lit (.int .u8 0), .lit (.int .u8 7), .lit (.int .i64 1), .lit (.int .i64 0)], .agg [.lit (.int .u8 6), .lit (.int .u8 5), .lit (.int .i64 2), .lit (.int .i64 128)], .agg [.lit (.int .u8 14), .lit (.int .u8 4), .lit (.int .i64 3), .lit (.int .i64 2048)], .agg [.lit (.int .u8 30), .lit (.int .u8 3), .lit (.int .i64 4), .lit (.int .i64 65536)]]

/-- 'caesuralaw06.TableCodes': WHATEVER THE INPUT: true; the input reads as it did. -/
def tableCodesSpec : ChangeSpec := { name := "tableCodes", fn := fun _ => fun
  | [d1, d2, d3] => { results := [.lit (.bool true)], args := [d1, d2, d3] }
  | _ => none }
def tableCodesRow : OpenClaim := { program := "ytbnconieedgcmaadoor", sum := "f76649e03eb50f3fc52115ff4ebfc79357b44da95ef2d5b0cc371caba980591a", func := "caesura/caesuralaw06.TableCodes", spec := "tableCodes", unfollowed := true, recurses := true, named := ["caesura/table.ours"], plainKeys := false, apart := false, laid := [("caesura/table.ours", laid_caesura_table_ours)] }
def TableCodesSaid : Prop := tableCodesRow.holds Tryd.pinned (OpenSpec.ofChange tableCodesSpec)

/-- ITS FALSE NEIGHBOUR: 'it returns false'. Refute it at one input. -/
def tableCodesWrong : ChangeSpec := { name := "tableCodes", fn := fun _ => fun
  | [d1, d2, d3] => { results := [.lit (.bool false)], args := [d1, d2, d3] }
  | _ => none }
def TableCodesWrongFalsely : Prop := tableCodesRow.holds Tryd.pinned (OpenSpec.ofChange tableCodesWrong)

/-- 'caesuralaw07.ValidTells': WHATEVER THE INPUT: true; the input reads as it did. -/
def validTellsSpec : ChangeSpec := { name := "validTells", fn := fun _ => fun
  | [d1, d2, d3] => { results := [.lit (.bool true)], args := [d1, d2, d3] }
  | _ => none }
def validTellsRow : OpenClaim := { program := "ytbnconieedgcmaadoor", sum := "f76649e03eb50f3fc52115ff4ebfc79357b44da95ef2d5b0cc371caba980591a", func := "caesura/caesuralaw07.ValidTells", spec := "validTells", unfollowed := true, recurses := true, named := ["caesura/table.ours"], plainKeys := false, apart := false, laid := [("caesura/table.ours", laid_caesura_table_ours)] }
def ValidTellsSaid : Prop := validTellsRow.holds Tryd.pinned (OpenSpec.ofChange validTellsSpec)

/-- ITS FALSE NEIGHBOUR: 'it returns false'. Refute it at one input. -/
def validTellsWrong : ChangeSpec := { name := "validTells", fn := fun _ => fun
  | [d1, d2, d3] => { results := [.lit (.bool false)], args := [d1, d2, d3] }
  | _ => none }
def ValidTellsWrongFalsely : Prop := validTellsRow.holds Tryd.pinned (OpenSpec.ofChange validTellsWrong)

/-- 'caesuralaw07.ValidStates': WHATEVER THE INPUT: true; the input reads as it did. -/
def validStatesSpec : ChangeSpec := { name := "validStates", fn := fun _ => fun
  | [d1, d2] => { results := [.lit (.bool true)], args := [d1, d2] }
  | _ => none }
def validStatesRow : OpenClaim := { program := "ytbnconieedgcmaadoor", sum := "f76649e03eb50f3fc52115ff4ebfc79357b44da95ef2d5b0cc371caba980591a", func := "caesura/caesuralaw07.ValidStates", spec := "validStates", unfollowed := true, recurses := true, named := ["caesura/table.ours"], plainKeys := false, apart := false, laid := [("caesura/table.ours", laid_caesura_table_ours)] }
def ValidStatesSaid : Prop := validStatesRow.holds Tryd.pinned (OpenSpec.ofChange validStatesSpec)

/-- ITS FALSE NEIGHBOUR: 'it returns false'. Refute it at one input. -/
def validStatesWrong : ChangeSpec := { name := "validStates", fn := fun _ => fun
  | [d1, d2] => { results := [.lit (.bool false)], args := [d1, d2] }
  | _ => none }
def ValidStatesWrongFalsely : Prop := validStatesRow.holds Tryd.pinned (OpenSpec.ofChange validStatesWrong)

/-- 'caesuralaw07.ValidClasses': WHATEVER THE INPUT: true; the input reads as it did. -/
def validClassesSpec : ChangeSpec := { name := "validClasses", fn := fun _ => fun
  | [d1, d2] => { results := [.lit (.bool true)], args := [d1, d2] }
  | _ => none }
def validClassesRow : OpenClaim := { program := "ytbnconieedgcmaadoor", sum := "f76649e03eb50f3fc52115ff4ebfc79357b44da95ef2d5b0cc371caba980591a", func := "caesura/caesuralaw07.ValidClasses", spec := "validClasses", unfollowed := true, recurses := true, named := ["caesura/table.ours"], plainKeys := false, apart := false, laid := [("caesura/table.ours", laid_caesura_table_ours)] }
def ValidClassesSaid : Prop := validClassesRow.holds Tryd.pinned (OpenSpec.ofChange validClassesSpec)

/-- ITS FALSE NEIGHBOUR: 'it returns false'. Refute it at one input. -/
def validClassesWrong : ChangeSpec := { name := "validClasses", fn := fun _ => fun
  | [d1, d2] => { results := [.lit (.bool false)], args := [d1, d2] }
  | _ => none }
def ValidClassesWrongFalsely : Prop := validClassesRow.holds Tryd.pinned (OpenSpec.ofChange validClassesWrong)

/-- 'caesuralaw07.ValidBreaks': WHATEVER THE INPUT: true; the input reads as it did. -/
def validBreaksSpec : ChangeSpec := { name := "validBreaks", fn := fun _ => fun
  | [d1, d2] => { results := [.lit (.bool true)], args := [d1, d2] }
  | _ => none }
def validBreaksRow : OpenClaim := { program := "ytbnconieedgcmaadoor", sum := "f76649e03eb50f3fc52115ff4ebfc79357b44da95ef2d5b0cc371caba980591a", func := "caesura/caesuralaw07.ValidBreaks", spec := "validBreaks", unfollowed := true, recurses := true, named := ["caesura/table.ours"], plainKeys := false, apart := false, laid := [("caesura/table.ours", laid_caesura_table_ours)] }
def ValidBreaksSaid : Prop := validBreaksRow.holds Tryd.pinned (OpenSpec.ofChange validBreaksSpec)

/-- ITS FALSE NEIGHBOUR: 'it returns false'. Refute it at one input. -/
def validBreaksWrong : ChangeSpec := { name := "validBreaks", fn := fun _ => fun
  | [d1, d2] => { results := [.lit (.bool false)], args := [d1, d2] }
  | _ => none }
def ValidBreaksWrongFalsely : Prop := validBreaksRow.holds Tryd.pinned (OpenSpec.ofChange validBreaksWrong)

/-- 'caesuralaw09.SegmentTells': WHATEVER THE INPUT: true; the input reads as it did. -/
def segmentTellsSpec : ChangeSpec := { name := "segmentTells", fn := fun _ => fun
  | [d1, d2] => { results := [.lit (.bool true)], args := [d1, d2] }
  | _ => none }
def segmentTellsRow : OpenClaim := { program := "ytbnconieedgcmaadoor", sum := "f76649e03eb50f3fc52115ff4ebfc79357b44da95ef2d5b0cc371caba980591a", func := "caesura/caesuralaw09.SegmentTells", spec := "segmentTells", unfollowed := true, recurses := true, named := ["caesura/utf.leads"], plainKeys := false, apart := false, laid := [("caesura/utf.leads", laid_caesura_utf_leads)] }
def SegmentTellsSaid : Prop := segmentTellsRow.holds Tryd.pinned (OpenSpec.ofChange segmentTellsSpec)

/-- ITS FALSE NEIGHBOUR: 'it returns false'. Refute it at one input. -/
def segmentTellsWrong : ChangeSpec := { name := "segmentTells", fn := fun _ => fun
  | [d1, d2] => { results := [.lit (.bool false)], args := [d1, d2] }
  | _ => none }
def SegmentTellsWrongFalsely : Prop := segmentTellsRow.holds Tryd.pinned (OpenSpec.ofChange segmentTellsWrong)

/-- 'caesuralaw09.SegmentWhole': WHATEVER THE INPUT: true; the input reads as it did. -/
def segmentWholeSpec : ChangeSpec := { name := "segmentWhole", fn := fun _ => fun
  | [d1, d2] => { results := [.lit (.bool true)], args := [d1, d2] }
  | _ => none }
def segmentWholeRow : OpenClaim := { program := "ytbnconieedgcmaadoor", sum := "f76649e03eb50f3fc52115ff4ebfc79357b44da95ef2d5b0cc371caba980591a", func := "caesura/caesuralaw09.SegmentWhole", spec := "segmentWhole", unfollowed := true, recurses := true, named := ["caesura/utf.leads"], plainKeys := false, apart := false, laid := [("caesura/utf.leads", laid_caesura_utf_leads)] }
def SegmentWholeSaid : Prop := segmentWholeRow.holds Tryd.pinned (OpenSpec.ofChange segmentWholeSpec)

/-- ITS FALSE NEIGHBOUR: 'it returns false'. Refute it at one input. -/
def segmentWholeWrong : ChangeSpec := { name := "segmentWhole", fn := fun _ => fun
  | [d1, d2] => { results := [.lit (.bool false)], args := [d1, d2] }
  | _ => none }
def SegmentWholeWrongFalsely : Prop := segmentWholeRow.holds Tryd.pinned (OpenSpec.ofChange segmentWholeWrong)

/-- 'caesuralaw09.SegmentIll': WHATEVER THE INPUT: true; the input reads as it did. -/
def segmentIllSpec : ChangeSpec := { name := "segmentIll", fn := fun _ => fun
  | [d1, d2] => { results := [.lit (.bool true)], args := [d1, d2] }
  | _ => none }
def segmentIllRow : OpenClaim := { program := "ytbnconieedgcmaadoor", sum := "f76649e03eb50f3fc52115ff4ebfc79357b44da95ef2d5b0cc371caba980591a", func := "caesura/caesuralaw09.SegmentIll", spec := "segmentIll", unfollowed := true, recurses := true, named := ["caesura/utf.leads"], plainKeys := false, apart := false, laid := [("caesura/utf.leads", laid_caesura_utf_leads)] }
def SegmentIllSaid : Prop := segmentIllRow.holds Tryd.pinned (OpenSpec.ofChange segmentIllSpec)

/-- ITS FALSE NEIGHBOUR: 'it returns false'. Refute it at one input. -/
def segmentIllWrong : ChangeSpec := { name := "segmentIll", fn := fun _ => fun
  | [d1, d2] => { results := [.lit (.bool false)], args := [d1, d2] }
  | _ => none }
def SegmentIllWrongFalsely : Prop := segmentIllRow.holds Tryd.pinned (OpenSpec.ofChange segmentIllWrong)

/-- 'caesuralaw09.SegmentAhead': WHATEVER THE INPUT: true; the input reads as it did. -/
def segmentAheadSpec : ChangeSpec := { name := "segmentAhead", fn := fun _ => fun
  | [d1, d2, d3] => { results := [.lit (.bool true)], args := [d1, d2, d3] }
  | _ => none }
def segmentAheadRow : OpenClaim := { program := "ytbnconieedgcmaadoor", sum := "f76649e03eb50f3fc52115ff4ebfc79357b44da95ef2d5b0cc371caba980591a", func := "caesura/caesuralaw09.SegmentAhead", spec := "segmentAhead", unfollowed := true, recurses := true, named := ["caesura/utf.leads"], plainKeys := false, apart := false, laid := [("caesura/utf.leads", laid_caesura_utf_leads)] }
def SegmentAheadSaid : Prop := segmentAheadRow.holds Tryd.pinned (OpenSpec.ofChange segmentAheadSpec)

/-- ITS FALSE NEIGHBOUR: 'it returns false'. Refute it at one input. -/
def segmentAheadWrong : ChangeSpec := { name := "segmentAhead", fn := fun _ => fun
  | [d1, d2, d3] => { results := [.lit (.bool false)], args := [d1, d2, d3] }
  | _ => none }
def SegmentAheadWrongFalsely : Prop := segmentAheadRow.holds Tryd.pinned (OpenSpec.ofChange segmentAheadWrong)

/- THE SECOND FORM. 'bulk': how many values and letters a reading holds, each counted each time it is reached (what is shared counts as often as it is met; a slice's spare places count too). A statement '..UptoSaid' is the law's where the arguments, and the package variables that the reading takes, are together of bulk at most 1048576: NARROWER than '..Said'. Prove '..Said' where nothing that the law and all that it calls make is longer than what came in: it says more and counts as full. Else prove '..UptoSaid'. A law counts once. -/
mutual
def uptoBulk {H : Type} : DataW H → Nat
  | .lit (.string bytes) => bytes.length + 1
  | .lit _ => 1
  | .nil => 1
  | .ptr d => uptoBulk d + 1
  | .slice elems spare => uptoBulkAll elems + uptoBulkAll spare + 1
  | .agg parts => uptoBulkAll parts + 1
  | .iface _ d => uptoBulk d + 1
  | .map entries => uptoBulkEntries entries + 1
  | .held _ => 1
def uptoBulkAll {H : Type} : List (DataW H) → Nat
  | [] => 0
  | d :: r => uptoBulk d + uptoBulkAll r
def uptoBulkEntries {H : Type} : List (Lit × DataW H) → Nat
  | [] => 0
  | x :: r => uptoBulkEntry x + uptoBulkEntries r
def uptoBulkEntry {H : Type} : Lit × DataW H → Nat
  | (.string bytes, d) => bytes.length + uptoBulk d + 1
  | (_, d) => uptoBulk d + 1
 end
def uptoSmall : (H : Type) → List (DataW H) → Bool := fun _ ds => decide (uptoBulkAll ds ≤ 1048576)
def OpenSpec.upto (s : _root_.Go.ChangeSpec) : _root_.Go.OpenSpec := { _root_.Go.OpenSpec.ofChange s with cond := some uptoSmall }

/-- 'caesuralaw06.TableCodes', WHERE WHAT IT READS IS OF BULK AT MOST 1048576: true; the input reads as it did. -/
def tableCodesUptoRow : OpenClaim := { program := "ytbnconieedgcmaadoor", sum := "f76649e03eb50f3fc52115ff4ebfc79357b44da95ef2d5b0cc371caba980591a", func := "caesura/caesuralaw06.TableCodes", spec := "tableCodes", unfollowed := true, recurses := true, named := ["caesura/table.ours"], plainKeys := false, apart := false, laid := [("caesura/table.ours", laid_caesura_table_ours)], narrowed := true }
def TableCodesUptoSaid : Prop := tableCodesUptoRow.holds Tryd.pinned (OpenSpec.upto tableCodesSpec)

/-- 'caesuralaw07.ValidTells', WHERE WHAT IT READS IS OF BULK AT MOST 1048576: true; the input reads as it did. -/
def validTellsUptoRow : OpenClaim := { program := "ytbnconieedgcmaadoor", sum := "f76649e03eb50f3fc52115ff4ebfc79357b44da95ef2d5b0cc371caba980591a", func := "caesura/caesuralaw07.ValidTells", spec := "validTells", unfollowed := true, recurses := true, named := ["caesura/table.ours"], plainKeys := false, apart := false, laid := [("caesura/table.ours", laid_caesura_table_ours)], narrowed := true }
def ValidTellsUptoSaid : Prop := validTellsUptoRow.holds Tryd.pinned (OpenSpec.upto validTellsSpec)

/-- 'caesuralaw07.ValidStates', WHERE WHAT IT READS IS OF BULK AT MOST 1048576: true; the input reads as it did. -/
def validStatesUptoRow : OpenClaim := { program := "ytbnconieedgcmaadoor", sum := "f76649e03eb50f3fc52115ff4ebfc79357b44da95ef2d5b0cc371caba980591a", func := "caesura/caesuralaw07.ValidStates", spec := "validStates", unfollowed := true, recurses := true, named := ["caesura/table.ours"], plainKeys := false, apart := false, laid := [("caesura/table.ours", laid_caesura_table_ours)], narrowed := true }
def ValidStatesUptoSaid : Prop := validStatesUptoRow.holds Tryd.pinned (OpenSpec.upto validStatesSpec)

/-- 'caesuralaw07.ValidClasses', WHERE WHAT IT READS IS OF BULK AT MOST 1048576: true; the input reads as it did. -/
def validClassesUptoRow : OpenClaim := { program := "ytbnconieedgcmaadoor", sum := "f76649e03eb50f3fc52115ff4ebfc79357b44da95ef2d5b0cc371caba980591a", func := "caesura/caesuralaw07.ValidClasses", spec := "validClasses", unfollowed := true, recurses := true, named := ["caesura/table.ours"], plainKeys := false, apart := false, laid := [("caesura/table.ours", laid_caesura_table_ours)], narrowed := true }
def ValidClassesUptoSaid : Prop := validClassesUptoRow.holds Tryd.pinned (OpenSpec.upto validClassesSpec)

/-- 'caesuralaw07.ValidBreaks', WHERE WHAT IT READS IS OF BULK AT MOST 1048576: true; the input reads as it did. -/
def validBreaksUptoRow : OpenClaim := { program := "ytbnconieedgcmaadoor", sum := "f76649e03eb50f3fc52115ff4ebfc79357b44da95ef2d5b0cc371caba980591a", func := "caesura/caesuralaw07.ValidBreaks", spec := "validBreaks", unfollowed := true, recurses := true, named := ["caesura/table.ours"], plainKeys := false, apart := false, laid := [("caesura/table.ours", laid_caesura_table_ours)], narrowed := true }
def ValidBreaksUptoSaid : Prop := validBreaksUptoRow.holds Tryd.pinned (OpenSpec.upto validBreaksSpec)

/-- 'caesuralaw09.SegmentTells', WHERE WHAT IT READS IS OF BULK AT MOST 1048576: true; the input reads as it did. -/
def segmentTellsUptoRow : OpenClaim := { program := "ytbnconieedgcmaadoor", sum := "f76649e03eb50f3fc52115ff4ebfc79357b44da95ef2d5b0cc371caba980591a", func := "caesura/caesuralaw09.SegmentTells", spec := "segmentTells", unfollowed := true, recurses := true, named := ["caesura/utf.leads"], plainKeys := false, apart := false, laid := [("caesura/utf.leads", laid_caesura_utf_leads)], narrowed := true }
def SegmentTellsUptoSaid : Prop := segmentTellsUptoRow.holds Tryd.pinned (OpenSpec.upto segmentTellsSpec)

/-- 'caesuralaw09.SegmentWhole', WHERE WHAT IT READS IS OF BULK AT MOST 1048576: true; the input reads as it did. -/
def segmentWholeUptoRow : OpenClaim := { program := "ytbnconieedgcmaadoor", sum := "f76649e03eb50f3fc52115ff4ebfc79357b44da95ef2d5b0cc371caba980591a", func := "caesura/caesuralaw09.SegmentWhole", spec := "segmentWhole", unfollowed := true, recurses := true, named := ["caesura/utf.leads"], plainKeys := false, apart := false, laid := [("caesura/utf.leads", laid_caesura_utf_leads)], narrowed := true }
def SegmentWholeUptoSaid : Prop := segmentWholeUptoRow.holds Tryd.pinned (OpenSpec.upto segmentWholeSpec)

/-- 'caesuralaw09.SegmentIll', WHERE WHAT IT READS IS OF BULK AT MOST 1048576: true; the input reads as it did. -/
def segmentIllUptoRow : OpenClaim := { program := "ytbnconieedgcmaadoor", sum := "f76649e03eb50f3fc52115ff4ebfc79357b44da95ef2d5b0cc371caba980591a", func := "caesura/caesuralaw09.SegmentIll", spec := "segmentIll", unfollowed := true, recurses := true, named := ["caesura/utf.leads"], plainKeys := false, apart := false, laid := [("caesura/utf.leads", laid_caesura_utf_leads)], narrowed := true }
def SegmentIllUptoSaid : Prop := segmentIllUptoRow.holds Tryd.pinned (OpenSpec.upto segmentIllSpec)

/-- 'caesuralaw09.SegmentAhead', WHERE WHAT IT READS IS OF BULK AT MOST 1048576: true; the input reads as it did. -/
def segmentAheadUptoRow : OpenClaim := { program := "ytbnconieedgcmaadoor", sum := "f76649e03eb50f3fc52115ff4ebfc79357b44da95ef2d5b0cc371caba980591a", func := "caesura/caesuralaw09.SegmentAhead", spec := "segmentAhead", unfollowed := true, recurses := true, named := ["caesura/utf.leads"], plainKeys := false, apart := false, laid := [("caesura/utf.leads", laid_caesura_utf_leads)], narrowed := true }
def SegmentAheadUptoSaid : Prop := segmentAheadUptoRow.holds Tryd.pinned (OpenSpec.upto segmentAheadSpec)

end Rows
end Go.Proofs.YtbnconieedgcmaaDoor
