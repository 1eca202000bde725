/- What length, mayBe, countsOf, Length and the document's Length return. -/
import Derived.Test.YtaejfebpalmfmaaFits
import Derived.BigRegion
namespace Go.Proofs.Ytaejfebpalmfmaa
open Go.RowKit Go.BigFrame
set_option linter.unusedVariables false
set_option maxRecDepth 4000
set_option linter.unusedSimpArgs false

theorem RB.all {w : World} {B n : Nat} {A : Option Addr} {l : List Nat} (h : RB w B A n l) (h0 : 0 < n) : ∃ b o, A = some ⟨b, o, none⟩ ∧ b < B ∧ ∀ k (hk : k < l.length), w.cell? ⟨b, o + k, none⟩ = some (.int .u8 (l[k] : Int)) := by
  obtain ⟨b, o, rfl, hb, hc⟩ := h.2.1.2 h0
  exact ⟨b, o, rfl, hb, fun k hk => hc k _ (by unfold ycells; rw [List.getElem?_map, List.getElem?_eq_getElem hk]; rfl)⟩
theorem getD_at (l : List Nat) (k : Nat) (h : k < l.length) : l[k]?.getD 0 = l[k] := by rw [List.getElem?_eq_getElem h]; rfl
theorem mul_wrap (s c : Nat) (hs : s ≤ 255) (hc : c ≤ 255) : ∃ m : Nat, m = s * c ∧ (s : Int) * (c : Int) = (m : Int) ∧ m ≤ 65025 :=
  ⟨s * c, rfl, by rw [Int.natCast_mul], by have := Nat.mul_le_mul hs hc; omega⟩
/-- Counts within their limits? -/
def cntB (c s k : Nat) : Bool := decide ((1 ≤ c ∧ c ≤ 8) ∧ (1 ≤ s ∧ s ≤ 5) ∧ (1 ≤ k ∧ k ≤ 60))
/-- How many bytes; 0: a count has no byte. -/
def lenI (c s k : Int) : Nat := if byB c = true ∧ byB s = true ∧ byB k = true then lenT c.toNat s.toNat k.toNat else 0
theorem lenI_no {c s k : Int} (h : ¬ (byB c = true ∧ byB s = true ∧ byB k = true)) : lenI c s k = 0 := by unfold lenI; rw [if_neg h]
theorem lenI_nat {c s k : Nat} (h1 : c ≤ 255) (h2 : s ≤ 255) (h3 : k ≤ 255) : lenI c s k = lenT c s k := by
  unfold lenI; rw [if_pos ⟨byB_yes (by omega), byB_yes (by omega), byB_yes (by omega)⟩]; rfl
end Go.Proofs.Ytaejfebpalmfmaa
