/-
  No cell of these rows narrows 'for every input' (looked for: loops, veiled, ifaces, maps, wideKeys, modest, calm, conditions, laid).
  DERIVED. THE GIVEN ROWS OF THIS SEAT. 4 by the template 'for every input the law returns true; each argument reads behind the call as it read before'; 0 by the template 'total and deterministic' (their statements: YtaejfebpalmfmaaTotals.lean).
  GIVEN WITH THE SEED: the statements are not yours to turn. If you find one false, say at which input.
  Laid BY PROGRAM, IN A SANDBOX (cutbox-rows.mjs): the forced cells as the released guide's own fill.sh prints them over the translation 1a8e9047a53f744a… (all of the seat's roots in one cut). By AI agents, Wed Nov 11 2026. No macro, syntax, notation, axiom, sorry.
-/
import Derived.Test.YtaejfebpalmfmaaChecked
import GoSem.Claim
import GoSem.ClaimJoined
import GoSem.ClaimMapViews
import Derived.JoinedTies
import Derived.KernelRfl
namespace Go.Proofs.Ytaejfebpalmfmaa
/- THE CELL 'sum', in the pinned program and in every row, IS THE sha256 OF THE DUMP (.gsa) THAT YtaejfebpalmfmaaProg.lean LOADS. Nothing in Lean hashes anything: it is a label: what it is worth is what the hold of that sum in a sandbox is worth. -/
noncomputable def Try.pinned : Pinned := { name := "ytaejfebpalmfmaa", sum := "1a8e9047a53f744a1cc6b256fabeed6535bff932f3e1fd8ee206e898c16761cd", checked := Try.checked }
namespace Rows
def none {H : Type} : Left H := { results := [], args := [] }

/-- 'caesuralaw08.WalkTells': WHATEVER THE INPUT: true; the input reads as it did. -/
def walkTellsSpec : ChangeSpec := { name := "walkTells", fn := fun _ => fun
  | [d1, d2, d3] => { results := [.lit (.bool true)], args := [d1, d2, d3] }
  | _ => none }
def walkTellsRow : OpenClaim := { program := "ytaejfebpalmfmaa", sum := "1a8e9047a53f744a1cc6b256fabeed6535bff932f3e1fd8ee206e898c16761cd", func := "caesura/caesuralaw08.WalkTells", spec := "walkTells", unfollowed := true, recurses := true, plainKeys := false, apart := false }
def WalkTellsSaid : Prop := walkTellsRow.holds Try.pinned (OpenSpec.ofChange walkTellsSpec)

/-- ITS FALSE NEIGHBOUR: 'it returns false'. Refute it at one input. -/
def walkTellsWrong : ChangeSpec := { name := "walkTells", fn := fun _ => fun
  | [d1, d2, d3] => { results := [.lit (.bool false)], args := [d1, d2, d3] }
  | _ => none }
def WalkTellsWrongFalsely : Prop := walkTellsRow.holds Try.pinned (OpenSpec.ofChange walkTellsWrong)

/-- 'caesuralaw08.WalkAhead': WHATEVER THE INPUT: true; the input reads as it did. -/
def walkAheadSpec : ChangeSpec := { name := "walkAhead", fn := fun _ => fun
  | [d1, d2, d3] => { results := [.lit (.bool true)], args := [d1, d2, d3] }
  | _ => none }
def walkAheadRow : OpenClaim := { program := "ytaejfebpalmfmaa", sum := "1a8e9047a53f744a1cc6b256fabeed6535bff932f3e1fd8ee206e898c16761cd", func := "caesura/caesuralaw08.WalkAhead", spec := "walkAhead", unfollowed := true, recurses := true, plainKeys := false, apart := false }
def WalkAheadSaid : Prop := walkAheadRow.holds Try.pinned (OpenSpec.ofChange walkAheadSpec)

/-- ITS FALSE NEIGHBOUR: 'it returns false'. Refute it at one input. -/
def walkAheadWrong : ChangeSpec := { name := "walkAhead", fn := fun _ => fun
  | [d1, d2, d3] => { results := [.lit (.bool false)], args := [d1, d2, d3] }
  | _ => none }
def WalkAheadWrongFalsely : Prop := walkAheadRow.holds Try.pinned (OpenSpec.ofChange walkAheadWrong)

/-- 'caesuralaw08.WalkSteps': WHATEVER THE INPUT: true; the input reads as it did. -/
def walkStepsSpec : ChangeSpec := { name := "walkSteps", fn := fun _ => fun
  | [d1, d2] => { results := [.lit (.bool true)], args := [d1, d2] }
  | _ => none }
def walkStepsRow : OpenClaim := { program := "ytaejfebpalmfmaa", sum := "1a8e9047a53f744a1cc6b256fabeed6535bff932f3e1fd8ee206e898c16761cd", func := "caesura/caesuralaw08.WalkSteps", spec := "walkSteps", unfollowed := true, recurses := true, plainKeys := false, apart := false }
def WalkStepsSaid : Prop := walkStepsRow.holds Try.pinned (OpenSpec.ofChange walkStepsSpec)

/-- ITS FALSE NEIGHBOUR: 'it returns false'. Refute it at one input. -/
def walkStepsWrong : ChangeSpec := { name := "walkSteps", fn := fun _ => fun
  | [d1, d2] => { results := [.lit (.bool false)], args := [d1, d2] }
  | _ => none }
def WalkStepsWrongFalsely : Prop := walkStepsRow.holds Try.pinned (OpenSpec.ofChange walkStepsWrong)

/-- 'caesuralaw08.WalkBands': WHATEVER THE INPUT: true; the input reads as it did. -/
def walkBandsSpec : ChangeSpec := { name := "walkBands", fn := fun _ => fun
  | [d1, d2] => { results := [.lit (.bool true)], args := [d1, d2] }
  | _ => none }
def walkBandsRow : OpenClaim := { program := "ytaejfebpalmfmaa", sum := "1a8e9047a53f744a1cc6b256fabeed6535bff932f3e1fd8ee206e898c16761cd", func := "caesura/caesuralaw08.WalkBands", spec := "walkBands", unfollowed := true, recurses := true, plainKeys := false, apart := false }
def WalkBandsSaid : Prop := walkBandsRow.holds Try.pinned (OpenSpec.ofChange walkBandsSpec)

/-- ITS FALSE NEIGHBOUR: 'it returns false'. Refute it at one input. -/
def walkBandsWrong : ChangeSpec := { name := "walkBands", fn := fun _ => fun
  | [d1, d2] => { results := [.lit (.bool false)], args := [d1, d2] }
  | _ => none }
def WalkBandsWrongFalsely : Prop := walkBandsRow.holds Try.pinned (OpenSpec.ofChange walkBandsWrong)

/- THE SECOND FORM. 'bulk': how many values and letters a reading holds, each counted each time it is reached (what is shared counts as often as it is met; a slice's spare places count too). A statement '..UptoSaid' is the law's where the arguments, and the package variables that the reading takes, are together of bulk at most 1048576: NARROWER than '..Said'. Prove '..Said' where nothing that the law and all that it calls make is longer than what came in: it says more and counts as full. Else prove '..UptoSaid'. A law counts once. -/
mutual
def uptoBulk {H : Type} : DataW H → Nat
  | .lit (.string bytes) => bytes.length + 1
  | .lit _ => 1
  | .nil => 1
  | .ptr d => uptoBulk d + 1
  | .slice elems spare => uptoBulkAll elems + uptoBulkAll spare + 1
  | .agg parts => uptoBulkAll parts + 1
  | .iface _ d => uptoBulk d + 1
  | .map entries => uptoBulkEntries entries + 1
  | .held _ => 1
def uptoBulkAll {H : Type} : List (DataW H) → Nat
  | [] => 0
  | d :: r => uptoBulk d + uptoBulkAll r
def uptoBulkEntries {H : Type} : List (Lit × DataW H) → Nat
  | [] => 0
  | x :: r => uptoBulkEntry x + uptoBulkEntries r
def uptoBulkEntry {H : Type} : Lit × DataW H → Nat
  | (.string bytes, d) => bytes.length + uptoBulk d + 1
  | (_, d) => uptoBulk d + 1
 end
def uptoSmall : (H : Type) → List (DataW H) → Bool := fun _ ds => decide (uptoBulkAll ds ≤ 1048576)
def OpenSpec.upto (s : _root_.Go.ChangeSpec) : _root_.Go.OpenSpec := { _root_.Go.OpenSpec.ofChange s with cond := some uptoSmall }

/-- 'caesuralaw08.WalkTells', WHERE WHAT IT READS IS OF BULK AT MOST 1048576: true; the input reads as it did. -/
def walkTellsUptoRow : OpenClaim := { program := "ytaejfebpalmfmaa", sum := "1a8e9047a53f744a1cc6b256fabeed6535bff932f3e1fd8ee206e898c16761cd", func := "caesura/caesuralaw08.WalkTells", spec := "walkTells", unfollowed := true, recurses := true, plainKeys := false, apart := false, narrowed := true }
def WalkTellsUptoSaid : Prop := walkTellsUptoRow.holds Try.pinned (OpenSpec.upto walkTellsSpec)

/-- 'caesuralaw08.WalkAhead', WHERE WHAT IT READS IS OF BULK AT MOST 1048576: true; the input reads as it did. -/
def walkAheadUptoRow : OpenClaim := { program := "ytaejfebpalmfmaa", sum := "1a8e9047a53f744a1cc6b256fabeed6535bff932f3e1fd8ee206e898c16761cd", func := "caesura/caesuralaw08.WalkAhead", spec := "walkAhead", unfollowed := true, recurses := true, plainKeys := false, apart := false, narrowed := true }
def WalkAheadUptoSaid : Prop := walkAheadUptoRow.holds Try.pinned (OpenSpec.upto walkAheadSpec)

/-- 'caesuralaw08.WalkSteps', WHERE WHAT IT READS IS OF BULK AT MOST 1048576: true; the input reads as it did. -/
def walkStepsUptoRow : OpenClaim := { program := "ytaejfebpalmfmaa", sum := "1a8e9047a53f744a1cc6b256fabeed6535bff932f3e1fd8ee206e898c16761cd", func := "caesura/caesuralaw08.WalkSteps", spec := "walkSteps", unfollowed := true, recurses := true, plainKeys := false, apart := false, narrowed := true }
def WalkStepsUptoSaid : Prop := walkStepsUptoRow.holds Try.pinned (OpenSpec.upto walkStepsSpec)

/-- 'caesuralaw08.WalkBands', WHERE WHAT IT READS IS OF BULK AT MOST 1048576: true; the input reads as it did. -/
def walkBandsUptoRow : OpenClaim := { program := "ytaejfebpalmfmaa", sum := "1a8e9047a53f744a1cc6b256fabeed6535bff932f3e1fd8ee206e898c16761cd", func := "caesura/caesuralaw08.WalkBands", spec := "walkBands", unfollowed := true, recurses := true, plainKeys := false, apart := false, narrowed := true }
def WalkBandsUptoSaid : Prop := walkBandsUptoRow.holds Try.pinned (OpenSpec.upto walkBandsSpec)

end Rows
end Go.Proofs.Ytaejfebpalmfmaa
