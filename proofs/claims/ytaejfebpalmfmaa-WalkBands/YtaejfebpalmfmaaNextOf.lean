/- What rowsOf returns. -/
import Derived.Test.YtaejfebpalmfmaaEnc
import Derived.Deep.AppendLies
import Derived.Laws.MakeOwn
namespace Go.Proofs.Ytaejfebpalmfmaa
open Go.RowKit Go.BigFrame
set_option linter.unusedVariables false
set_option maxRecDepth 4000
set_option linter.unusedSimpArgs false

/-- A new row of rows. -/
def OutRN (L : List (List Int)) (n : Nat) (w : World) (e : Ending) (w' : World) : Prop := ∃ (A : Option Addr) (c : Nat) (H : List Hi), e = .returned (.slice A n c) ∧ listsOf H = L ∧ OwnI w' w.heap.size A n c H ∧ Below w.heap.size w w'
theorem lit1 {w : World} {b : Nat} {u : Value} (h0 : w.cell? ⟨b, 0, none⟩ = some u) : ∀ j y, [u][j]? = some y → w.cell? ((⟨b, 0, none⟩ : Addr).add j) = some y := by
  intro j y hj
  match j, hj with
  | 0, hj => simp at hj; subst hj; simpa [Addr.add] using h0
theorem icells_set (l : List Int) (k : Nat) (y : Int) : (icells l).set k (.int .i64 y) = icells (l.set k y) := by
  unfold icells; rw [List.map_set]
theorem icells_rep (m : Nat) : (madeCells #[Value.int .i64 0] m).toList = icells (List.replicate m 0) := by rw [toList_madeCells_one]; simp [icells]
/-- The first q are laid. -/
def RInv (ch : List Nat) (q c : Nat) (xs : List Int) : Prop := xs.length = c ∧ ∀ j, j < q → xs[j]? = some ((ch[j]?.getD 0 : Nat) : Int)
theorem rinv_set {ch : List Nat} {q c : Nat} {xs : List Int} (h : RInv ch q c xs) (hq : q < c) : RInv ch (q + 1) c (xs.set q ((ch[q]?.getD 0 : Nat) : Int)) := by
  refine ⟨by rw [List.length_set]; exact h.1, fun j hj => ?_⟩
  rw [List.getElem?_set]
  by_cases e : q = j
  · subst e; rw [if_pos rfl, if_pos (by rw [h.1]; exact hq)]
  · rw [if_neg e]; exact h.2 j (by omega)
theorem rinv_all {ch : List Nat} {c : Nat} {xs : List Int} (h : RInv ch c c xs) (hl : ch.length = c) : xs = ch.map Int.ofNat := by
  apply List.ext_getElem?
  intro j
  by_cases hj : j < c
  · rw [h.2 j hj, List.getElem?_map, List.getElem?_eq_getElem (by omega)]; rfl
  · rw [List.getElem?_eq_none (by rw [h.1]; omega), List.getElem?_eq_none (by rw [List.length_map]; omega)]
theorem chunk_get (l : List Nat) (c j q : Nat) (hq : q < c) : (chunk c l j)[q]?.getD 0 = l[c * j + q]?.getD 0 := by
  unfold chunk
  rw [List.getElem?_take_of_lt hq, List.getElem?_drop]
end Go.Proofs.Ytaejfebpalmfmaa
