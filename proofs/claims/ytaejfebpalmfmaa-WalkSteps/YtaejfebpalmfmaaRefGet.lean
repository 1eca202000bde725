/- What the document's Get returns. -/
import Derived.Test.YtaejfebpalmfmaaGet2
namespace Go.Proofs.Ytaejfebpalmfmaa
open Go.RowKit Go.BigFrame
set_option linter.unusedVariables false
set_option maxRecDepth 4000
set_option linter.unusedSimpArgs false


def OutG (r : Option Nat) (w : World) (e : Ending) (w' : World) : Prop := e = .returned (.agg #[.int .i64 ((r.getD 0 : Nat) : Int), .bool r.isSome]) ∧ Below w.heap.size w w'
theorem numL_lt (l : List Nat) (h : ∀ x ∈ l, x < 256) (k : Nat) (hk : l.length ≤ k) : numL l < 256 ^ k := by
  induction k generalizing l with
  | zero => obtain rfl := List.eq_nil_of_length_eq_zero (Nat.le_zero.1 hk); simp [numL]
  | succ k ih =>
    rcases List.eq_nil_or_concat l with rfl | ⟨l', x, rfl⟩
    · simp [numL]; exact Nat.pow_pos (by decide)
    · rw [List.concat_eq_append] at h hk ⊢
      rw [numL_snoc, Nat.pow_succ]
      have h1 := ih l' (fun y hy => h y (by simp [hy])) (by simp at hk; omega)
      have h2 := h x (by simp)
      omega
end Go.Proofs.Ytaejfebpalmfmaa
