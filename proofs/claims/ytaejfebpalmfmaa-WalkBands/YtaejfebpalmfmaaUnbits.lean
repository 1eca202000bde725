/- What Unbits returns. -/
import Derived.Test.YtaejfebpalmfmaaBits
import Derived.Deep.RegionHeld3
namespace Go.Proofs.Ytaejfebpalmfmaa
open Go.RowKit Go.BigFrame
set_option linter.unusedVariables false
set_option linter.unusedSimpArgs false


def OutU (r : Option (List Bool)) (w : World) (e : Ending) (w' : World) : Prop :=
  ∃ (A : Option Addr) (c : Nat), e = .returned (.tuple #[.slice A (r.getD []).length c, .bool r.isSome]) ∧ w'.ownsRow w.heap.size 4 1 (.slice A (r.getD []).length c) (r.getD []).length (bcells (r.getD [])) ∧ Below w.heap.size w w'
theorem outU_no (w w' : World) (g : Below w.heap.size w w') : OutU none w (.returned (.tuple #[.slice none 0 0, .bool false])) w' :=
  ⟨none, 0, rfl, World.ownsRow_nil _ _ _ _, g⟩
theorem unbR_no {b : List Nat} {n : Int} (h : ¬ (0 ≤ n ∧ n ≤ 8 * b.length ∧ (b.length : Int) ≤ (n + 7) / 8 ∧ (∀ i, n.toNat ≤ i → i < 8 * b.length → bitY b i = false))) : unbR b n = none := by unfold unbR; rw [if_neg h]
theorem unbR_yes {b : List Nat} {n : Nat} (h1 : n ≤ 8 * b.length) (h2 : b.length ≤ (n + 7) / 8) (h : ∀ i, n ≤ i → i < 8 * b.length → bitY b i = false) : unbR b n = some ((List.range n).map (bitY b)) := by
  unfold unbR; rw [if_pos ⟨by omega, by omega, by omega, by rw [Int.toNat_natCast]; exact h⟩, Int.toNat_natCast]
theorem bcells_set (l : List Bool) (k : Nat) (y : Bool) : (bcells l).set k (.bool y) = bcells (l.set k y) := by
  unfold bcells; rw [List.map_set]
theorem bcells_rep (m : Nat) : (madeCells #[Value.bool false] m).toList = bcells (List.replicate m false) := by rw [toList_madeCells_one]; simp [bcells]
theorem own_RL {w : World} {base n c : Nat} {A : Option Addr} {l : List Bool} (h : w.ownsRow base 4 1 (.slice A n c) n (bcells l)) : RL w w.heap.size A n l := ⟨by have := h.1; rw [bcells_len] at this; omega, Reads.of_own h⟩
theorem own_RB {w : World} {base n c : Nat} {A : Option Addr} {l : List Nat} (h : w.ownsRow base 5 1 (.slice A n c) n (ycells l)) (hl : ∀ x ∈ l, x < 256) : RB w w.heap.size A n l := ⟨by have := h.1; rw [ycells_len] at this; omega, Reads.of_own h, hl⟩
/-- The first k bits are laid. -/
def UInv (b : List Nat) (k n : Nat) (bs : List Bool) : Prop := bs.length = n ∧ ∀ j, j < k → bs[j]? = some (bitY b j)
theorem uinv_set {b : List Nat} {k n : Nat} {bs : List Bool} (h : UInv b k n bs) (hk : k < n) : UInv b (k + 1) n (bs.set k (bitY b k)) := by
  refine ⟨by rw [List.length_set]; exact h.1, fun j hj => ?_⟩
  rw [List.getElem?_set]
  by_cases e : k = j
  · subst e; rw [if_pos rfl, if_pos (by rw [h.1]; exact hk)]
  · rw [if_neg e]; exact h.2 j (by omega)
theorem uinv_all {b : List Nat} {n : Nat} {bs : List Bool} (h : UInv b n n bs) : bs = (List.range n).map (bitY b) := by
  apply List.ext_getElem?
  intro j
  by_cases hj : j < n
  · rw [h.2 j hj, List.getElem?_map, List.getElem?_range hj]; rfl
  · rw [List.getElem?_eq_none (by rw [h.1]; omega), List.getElem?_eq_none (by simp; omega)]

end Go.Proofs.Ytaejfebpalmfmaa
