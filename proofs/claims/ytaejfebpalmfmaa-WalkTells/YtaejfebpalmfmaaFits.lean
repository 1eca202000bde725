/- What within, inByte, byteOf, allInByte and fits return. -/
import Derived.Test.YtaejfebpalmfmaaEqs
namespace Go.Proofs.Ytaejfebpalmfmaa
open Go.RowKit Go.BigFrame
set_option linter.unusedVariables false
set_option maxRecDepth 4000
set_option linter.unusedSimpArgs false

/-- A byte's number? -/
def byB (v : Int) : Bool := decide (0 ≤ v ∧ v ≤ 255)
theorem byB_yes {v : Int} (h : 0 ≤ v ∧ v ≤ 255) : byB v = true := decide_eq_true h
theorem byB_no {v : Int} (h : ¬ (0 ≤ v ∧ v ≤ 255)) : byB v = false := decide_eq_false h
theorem byB_iff (v : Int) : byB v = true ↔ byteI v := by unfold byB byteI; simp
def OutIx (l : List Int) (w : World) (e : Ending) (w' : World) : Prop := ∃ r : Int, e = .returned (.int .i64 r) ∧ decide (0 ≤ r) = (!l.all byB) ∧ r ≤ 1048576 ∧ w' = w
theorem all_byB {l : List Int} : l.all byB = true ↔ ∀ x ∈ l, byteI x := by
  rw [List.all_eq_true]
  exact ⟨fun h x hx => (byB_iff x).1 (h x hx), fun h x hx => (byB_iff x).2 (h x hx)⟩
theorem rows_ok {hs : List Hi} {cl : Int} (h1 : ∀ h ∈ hs, (h.l.length : Int) = cl ∧ h.l.all byB = true) : ∀ r ∈ listsOf hs, (r.length : Int) = cl ∧ ∀ x ∈ r, byteI x := fun r hr => by
  obtain ⟨h, hh, rfl⟩ := List.mem_map.1 hr
  exact ⟨(h1 h hh).1, all_byB.1 (h1 h hh).2⟩
noncomputable def mayB (t : Tb) : Bool := @decide (MayT t) (Classical.propDecidable _)
theorem mayB_yes {t : Tb} (h : MayT t) : mayB t = true := @decide_eq_true _ (Classical.propDecidable _) h
theorem mayB_no {t : Tb} (h : ¬ MayT t) : mayB t = false := @decide_eq_false _ (Classical.propDecidable _) h
end Go.Proofs.Ytaejfebpalmfmaa
