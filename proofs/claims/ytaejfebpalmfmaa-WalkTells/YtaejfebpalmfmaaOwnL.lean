/- A row of rows copied, each row in memory of its own. -/
import Derived.Test.YtaejfebpalmfmaaNextOf
namespace Go.Proofs.Ytaejfebpalmfmaa
open Go.RowKit Go.BigFrame
set_option linter.unusedVariables false
set_option maxRecDepth 4000
set_option linter.unusedSimpArgs false

/-- No two rows share a block. -/
def Apt (H : List Hi) : Prop := H.Pairwise fun x y => ∀ g, x.v.ownBlock = some g → y.v.ownBlock ≠ some g
theorem Apt.nil : Apt [] := List.Pairwise.nil
theorem Apt.snoc {H : List Hi} {x : Hi} (h : Apt H) {B : Nat} (h1 : ∀ y ∈ H, ∀ g, y.v.ownBlock = some g → g < B) (h2 : ∀ g, x.v.ownBlock = some g → B ≤ g) : Apt (H ++ [x]) := by
  refine List.pairwise_append.2 ⟨h, List.pairwise_singleton _ _, fun y hy z hz g hg hg' => ?_⟩
  rw [List.mem_singleton] at hz
  subst hz
  have a := h1 y hy g hg
  have b := h2 g hg'
  omega
def OutRA (L : List (List Int)) (n : Nat) (w : World) (e : Ending) (w' : World) : Prop := ∃ (A : Option Addr) (c : Nat) (H : List Hi), e = .returned (.slice A n c) ∧ listsOf H = L ∧ OwnI w' w.heap.size A n c H ∧ Below w.heap.size w w' ∧ Apt H
end Go.Proofs.Ytaejfebpalmfmaa
