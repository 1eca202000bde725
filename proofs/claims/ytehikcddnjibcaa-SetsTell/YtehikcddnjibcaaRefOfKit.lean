/- The marks that the document's Of writes. -/
import Derived.Test.YtehikcddnjibcaaRefUB
import Derived.Test.YtehikcddnjibcaaOf
namespace Go.Proofs.Ytehikcddnjibcaa
open Go.RowKit Go.BigFrame
set_option linter.unusedVariables false
set_option linter.unusedSimpArgs false

/-- The marks while the j-th stretch is being looked at: x for it, none behind it. -/
def mrow (f : Int → Bool) (ats : List Int) (z j : Nat) (x : Bool) : List Bool := (ats.take j).map f ++ x :: List.replicate (z - j - 1) false
theorem mrow_len {f : Int → Bool} {ats : List Int} {z j : Nat} (h : ats.length = z) (hj : j < z) (x : Bool) : (mrow f ats z j x).length = z := by
  simp [mrow]; omega
theorem mrow_set {f : Int → Bool} {ats : List Int} {z j : Nat} (h : ats.length = z) (hj : j < z) (x y : Bool) : (mrow f ats z j x).set j y = mrow f ats z j y := by
  unfold mrow
  have e : ((ats.take j).map f).length = j := by simp; omega
  rw [List.set_append_right _ _ (by rw [e]; exact Nat.le_refl _), e, Nat.sub_self, List.set_cons_zero]
theorem mrow_at {f : Int → Bool} {ats : List Int} {z j : Nat} (h : ats.length = z) (hj : j < z) (x : Bool) : (mrow f ats z j x)[j]? = some x := by
  unfold mrow
  have e : ((ats.take j).map f).length = j := by simp; omega
  rw [List.getElem?_append_right (by rw [e]; exact Nat.le_refl _), e, Nat.sub_self]; rfl
def mall (f : Int → Bool) (ats : List Int) (z j : Nat) : List Bool := (ats.take j).map f ++ List.replicate (z - j) false
theorem mall_open {f : Int → Bool} {ats : List Int} {z j : Nat} (hj : j < z) : mall f ats z j = mrow f ats z j false := by
  unfold mall mrow
  rw [show z - j = (z - j - 1) + 1 by omega, List.replicate_succ]; simp
theorem mall_shut {f : Int → Bool} {ats : List Int} {z j : Nat} (h : ats.length = z) (hj : j < ats.length) : mrow f ats z j (f ats[j]) = mall f ats z (j + 1) := by
  unfold mall mrow
  rw [List.take_succ_eq_append_getElem hj, List.map_append, List.append_assoc, Nat.sub_sub]; simp
theorem mall_end {f : Int → Bool} {ats : List Int} {z : Nat} (h : ats.length = z) : mall f ats z z = ats.map f := by
  unfold mall
  rw [List.take_of_length_le (by omega), Nat.sub_self]; simp
end Go.Proofs.Ytehikcddnjibcaa
