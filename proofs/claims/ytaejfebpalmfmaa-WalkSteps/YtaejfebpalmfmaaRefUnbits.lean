/- What the document's Unbits returns. -/
import Derived.Test.YtaejfebpalmfmaaUnbits
namespace Go.Proofs.Ytaejfebpalmfmaa
open Go.RowKit Go.BigFrame
set_option linter.unusedVariables false
set_option maxRecDepth 4000
set_option linter.unusedSimpArgs false


theorem range_snoc (b : List Nat) (o : Nat) : bcells ((List.range (o + 1)).map (bitY b)) = bcells ((List.range o).map (bitY b)) ++ [.bool (bitY b o)] := by
  rw [List.range_succ, List.map_append, bcells_app]; rfl
end Go.Proofs.Ytaejfebpalmfmaa
