/- What Decode returns. -/
import Derived.Test.YtaejfebpalmfmaaDMath
namespace Go.Proofs.Ytaejfebpalmfmaa
open Go.RowKit Go.BigFrame
set_option linter.unusedVariables false
set_option maxRecDepth 4000
set_option linter.unusedSimpArgs false

theorem kept_frozen {w w' : World} {g i : Nat} (h : Below w.heap.size w w') (hg : g < w.heap.size) (hf : w.frozen? ⟨g, i, none⟩ = false) : w'.frozen? ⟨g, i, none⟩ = false := (h.frozen (p := ⟨g, i, none⟩) hg).trans hf
theorem store4 {w0 w : World} {B g : Nat} {o0 o1 o2 o3 : Value} (v0 v1 v2 v3 : Value) (hb : Below B w0 w) (hBg : B ≤ g) (p0 : w.cell? ⟨g, 0, none⟩ = some o0) (p1 : w.cell? ⟨g, 1, none⟩ = some o1) (p2 : w.cell? ⟨g, 2, none⟩ = some o2) (p3 : w.cell? ⟨g, 3, none⟩ = some o3) :
    ∃ W, W = (((w.setCell ⟨g, 0, none⟩ v0).setCell ⟨g, 1, none⟩ v1).setCell ⟨g, 2, none⟩ v2).setCell ⟨g, 3, none⟩ v3 ∧ Below B w0 W ∧ W.heap.size = w.heap.size ∧ W.cell? ⟨g, 0, none⟩ = some v0 ∧ W.cell? ⟨g, 1, none⟩ = some v1 ∧ W.cell? ⟨g, 2, none⟩ = some v2 ∧ W.cell? ⟨g, 3, none⟩ = some v3 ∧
      ∀ (base : Nat) (e : TypeId) (size : Nat) (v : Value) (n : Nat) (xs : List Value), g < base → w.ownsRow base e size v n xs → W.ownsRow base e size v n xs := by
  refine ⟨_, rfl, (((hb.setCell (p := ⟨g, 0, none⟩) hBg _).setCell (p := ⟨g, 1, none⟩) hBg _).setCell (p := ⟨g, 2, none⟩) hBg _).setCell (p := ⟨g, 3, none⟩) hBg _, by simp, ?_, ?_, ?_, ?_, fun base e size v n xs h ho => ownsRow_setCell_below (ownsRow_setCell_below (ownsRow_setCell_below (ownsRow_setCell_below ho h _) h _) h _) h _⟩
  · simp [go_sem, p0, p1, p2, p3]
  · simp [go_sem, p0, p1, p2, p3]
  · simp [go_sem, p0, p1, p2, p3]
  · simp [go_sem, p0, p1, p2, p3]
theorem far4 {w : World} {g k i : Nat} {u v0 v1 v2 v3 : Value} (h : w.cell? ⟨k, i, none⟩ = some u) (hne : g ≠ k) : ((((w.setCell ⟨g, 0, none⟩ v0).setCell ⟨g, 1, none⟩ v1).setCell ⟨g, 2, none⟩ v2).setCell ⟨g, 3, none⟩ v3).cell? ⟨k, i, none⟩ = some u := by
  rw [World.cell?_setCell_far _ _ _ _ hne, World.cell?_setCell_far _ _ _ _ hne, World.cell?_setCell_far _ _ _ _ hne, World.cell?_setCell_far _ _ _ _ hne]; exact h
theorem below4 {w0 w : World} {B g : Nat} {v0 v1 v2 v3 : Value} (hb : Below B w0 w) (hBg : B ≤ g) : Below B w0 ((((w.setCell ⟨g, 0, none⟩ v0).setCell ⟨g, 1, none⟩ v1).setCell ⟨g, 2, none⟩ v2).setCell ⟨g, 3, none⟩ v3) :=
  (((hb.setCell (p := ⟨g, 0, none⟩) hBg _).setCell (p := ⟨g, 1, none⟩) hBg _).setCell (p := ⟨g, 2, none⟩) hBg _).setCell (p := ⟨g, 3, none⟩) hBg _
/-- The result's cells as they were laid. -/
def Res (g : Nat) (w : World) : Prop := g < w.heap.size ∧ (w.cell? ⟨g, 0, none⟩ = some (.int .i64 0) ∧ w.cell? ⟨g, 1, none⟩ = some (.slice none 0 0) ∧ w.cell? ⟨g, 2, none⟩ = some (.slice none 0 0) ∧ w.cell? ⟨g, 3, none⟩ = some (.slice none 0 0)) ∧ w.frozen? ⟨g, 0, none⟩ = false ∧ w.frozen? ⟨g, 1, none⟩ = false ∧ w.frozen? ⟨g, 2, none⟩ = false ∧ w.frozen? ⟨g, 3, none⟩ = false
theorem Res.parts {g : Nat} {w : World} (h : Res g w) : g < w.heap.size ∧ (w.cell? ⟨g, 0, none⟩ = some (.int .i64 0) ∧ w.cell? ⟨g, 1, none⟩ = some (.slice none 0 0) ∧ w.cell? ⟨g, 2, none⟩ = some (.slice none 0 0) ∧ w.cell? ⟨g, 3, none⟩ = some (.slice none 0 0)) ∧ w.frozen? ⟨g, 0, none⟩ = false ∧ w.frozen? ⟨g, 1, none⟩ = false ∧ w.frozen? ⟨g, 2, none⟩ = false ∧ w.frozen? ⟨g, 3, none⟩ = false := h
theorem Res.drew {g : Nat} {w : World} (h : Res g w) : Res g w.drew := by
  unfold Res at h ⊢
  exact h
theorem Res.on {g : Nat} {w w' : World} (h : Res g w) (b : Below w.heap.size w w') : Res g w' :=
  ⟨Nat.lt_of_lt_of_le h.1 b.size, ⟨kept_cell b h.2.1.1, kept_cell b h.2.1.2.1, kept_cell b h.2.1.2.2.1, kept_cell b h.2.1.2.2.2⟩, kept_frozen b h.1 h.2.2.1, kept_frozen b h.1 h.2.2.2.1, kept_frozen b h.1 h.2.2.2.2.1, kept_frozen b h.1 h.2.2.2.2.2⟩
end Go.Proofs.Ytaejfebpalmfmaa
