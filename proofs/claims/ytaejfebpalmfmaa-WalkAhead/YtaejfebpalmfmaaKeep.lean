/- What the small helpers of the statements return: Bools, Bytes. -/
import Derived.Test.YtaejfebpalmfmaaApp
import Derived.Laws.BytesArg
namespace Go.Proofs.Ytaejfebpalmfmaa
open Go.RowKit Go.BigFrame
set_option linter.unusedVariables false
set_option linter.unusedSimpArgs false


noncomputable def eqX {α : Type} (a b : List α) : Bool := @decide (a = b) (Classical.propDecidable _)
theorem eqX_yes {α : Type} {a b : List α} (h : a = b) : eqX a b = true := by unfold eqX; exact @decide_eq_true _ (Classical.propDecidable _) h
theorem eqX_no {α : Type} {a b : List α} (h : ¬ a = b) : eqX a b = false := by unfold eqX; exact @decide_eq_false _ (Classical.propDecidable _) h
/-- The string of bytes. -/
def strY (l : List Nat) : ByteArray := strOfNums (l.map Int.ofNat)
theorem strY_data (l : List Nat) : (strY l).data.toList = l.map UInt8.ofNat := by
  unfold strY; rw [strOfNums_data, List.map_map]; rfl
theorem map_ofNat_inj {P Q : List Nat} (hP : ∀ x ∈ P, x < 256) (hQ : ∀ x ∈ Q, x < 256) (h : P.map UInt8.ofNat = Q.map UInt8.ofNat) : P = Q := by
  induction P generalizing Q with
  | nil => cases Q with
    | nil => rfl
    | cons y Q => simp at h
  | cons x P ih => cases Q with
    | nil => simp at h
    | cons y Q =>
      simp only [List.map_cons, List.cons.injEq] at h
      have hx := hP x (by simp)
      have hy := hQ y (by simp)
      have e : x = y := by
        have := congrArg UInt8.toNat h.1
        rw [UInt8.toNat_ofNat', UInt8.toNat_ofNat'] at this
        omega
      rw [e, ih (fun z hz => hP z (by simp [hz])) (fun z hz => hQ z (by simp [hz])) h.2]
theorem strY_inj {P Q : List Nat} (hP : ∀ x ∈ P, x < 256) (hQ : ∀ x ∈ Q, x < 256) (h : strY P = strY Q) : P = Q :=
  map_ofNat_inj hP hQ (by rw [← strY_data, ← strY_data, h])
end Go.Proofs.Ytaejfebpalmfmaa
