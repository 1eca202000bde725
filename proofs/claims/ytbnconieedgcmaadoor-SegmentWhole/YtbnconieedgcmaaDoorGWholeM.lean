/- Plain mathematics: a text is what is cut of it. No program. -/
import Derived.Test.YtbnconieedgcmaaDoorKS
namespace Go.Proofs.YtbnconieedgcmaaDoor
set_option linter.unusedVariables false
set_option linter.unusedSimpArgs false
open U (Pp Tr piecesAt tris tri)

theorem cutA_ne (t : Tb) (L : List UInt8) : ∀ b ∈ cutA t L, b ≠ [] := by
  unfold cutA
  refine cutsF_ne L _ 0 (fun x hx => ?_)
  rcases List.mem_append.1 hx with h | h
  · exact ofA_le h
  · simp at h; omega
theorem cutA_len (t : Tb) (L : List UInt8) : (cutA t L).length ≤ nP L + 2 := by
  have h1 := cutsF_len L (ofA t L ++ [L.length]) 0
  have h2 := brN_len t L
  rw [List.length_append, ofA_len, List.length_singleton] at h1
  unfold cutA
  omega
theorem flat_take (l : List (List UInt8)) {i : Nat} (h : i < l.length) : (l.take (i + 1)).flatten = (l.take i).flatten ++ l[i] := by
  rw [take_one h, List.flatten_append]
  simp
theorem flat_le (l : List (List UInt8)) (i : Nat) : ((l.take i).flatten).length ≤ l.flatten.length := by
  have h := congrArg (fun x => (List.flatten x).length) (List.take_append_drop i l)
  simp only [List.flatten_append, List.length_append] at h
  omega
theorem at_le (l : List (List UInt8)) {i : Nat} (h : i < l.length) : l[i].length ≤ l.flatten.length := by
  have h1 := flat_le l (i + 1)
  rw [flat_take l h, List.length_append] at h1
  omega
/-- How many of the first i breaks are within. -/
def inN (n : Nat) (l : List Nat) (i : Nat) : Nat := ((l.take i).filter (inL n)).length
theorem inN_zero (n : Nat) (l : List Nat) : inN n l 0 = 0 := rfl
theorem inN_succ (n : Nat) (l : List Nat) {i : Nat} (h : i < l.length) : inN n l (i + 1) = inN n l i + (if inL n l[i] then 1 else 0) := by
  unfold inN
  rw [take_one h, List.filter_append, List.length_append, List.filter_cons]
  cases inL n l[i] <;> simp
theorem inN_all (n : Nat) (l : List Nat) {i : Nat} (h : l.length ≤ i) : inN n l i = (l.filter (inL n)).length := by
  unfold inN
  rw [List.take_of_length_le h]
theorem inN_le (n : Nat) (l : List Nat) (i : Nat) : inN n l i ≤ i := by
  unfold inN
  have h1 := List.length_filter_le (inL n) (l.take i)
  have h2 : (l.take i).length ≤ i := List.length_take_le _ _
  omega
end Go.Proofs.YtbnconieedgcmaaDoor
