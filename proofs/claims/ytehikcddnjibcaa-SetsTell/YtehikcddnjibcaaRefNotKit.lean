/- What the document's Not leaves: its block, its marks, and what it answers at a list that is no set. -/
import Derived.Test.YtehikcddnjibcaaRefStarts
import Derived.Test.YtehikcddnjibcaaRefBuild
import Derived.Test.YtehikcddnjibcaaRefHas
import Derived.Test.YtehikcddnjibcaaLawKit
import Derived.OwnWalk
namespace Go.Proofs.Ytehikcddnjibcaa
open Go.RowKit Go.BigFrame
set_option linter.unusedVariables false
set_option linter.unusedSimpArgs false

/-- A result's own block. -/
def Res (g : Nat) (W : World) : Prop := W.cell? ⟨g, 0, none⟩ = some (.slice none 0 0) ∧ W.cell? ⟨g, 1, none⟩ = some (.bool false) ∧ W.frozen? ⟨g, 0, none⟩ = false ∧ W.frozen? ⟨g, 1, none⟩ = false
theorem Res.on {g : Nat} {W W' : World} (h : Res g W) {B : Nat} (hg : g < B) (b : Below B W W') : Res g W' :=
  ⟨(b.cell (p := ⟨g, 0, none⟩) hg).trans h.1, (b.cell (p := ⟨g, 1, none⟩) hg).trans h.2.1, (b.frozen (p := ⟨g, 0, none⟩) hg).trans h.2.2.1, (b.frozen (p := ⟨g, 1, none⟩) hg).trans h.2.2.2⟩
theorem res_new (w : World) : Res w.heap.size (w.alloc (.cells #[.slice none 0 0, .bool false] 31)) := by
  refine ⟨by simp, by simp, ?_, ?_⟩ <;> simp

theorem res_set {g : Nat} {W : World} (h : Res g W) (s b : Value) : ((W.setCell ⟨g, 0, none⟩ s).setCell ⟨g, 1, none⟩ b).cell? ⟨g, 0, none⟩ = some s ∧ ((W.setCell ⟨g, 0, none⟩ s).setCell ⟨g, 1, none⟩ b).cell? ⟨g, 1, none⟩ = some b := by
  obtain ⟨h0, h1, _, _⟩ := h
  constructor
  · rw [World.cell?_setCell_other (h := by simp)]
    exact World.cell?_setCell_same' _ _ _ (by rw [h0]; rfl)
  · have : (W.setCell ⟨g, 0, none⟩ s).cell? ⟨g, 1, none⟩ = some (.bool false) := by
      rw [World.cell?_setCell_other (h := by simp)]; exact h1
    exact World.cell?_setCell_same' _ _ _ (by rw [this]; rfl)
theorem res_below {g B : Nat} {v W : World} (hb : Below B v W) (h : Res g W) (s b : Value) (hB : B ≤ g) : Below B v ((W.setCell ⟨g, 0, none⟩ s).setCell ⟨g, 1, none⟩ b) :=
  (hb.setCell (p := ⟨g, 0, none⟩) hB _).setCell (p := ⟨g, 1, none⟩) hB _

/-- What the document's functions leave: a set, or that there is none. -/
def OutG (p : Int → Prop) (m : Nat) (w : World) (e : Ending) (w' : World) : Prop :=
  ∃ (s : List Rg) (k : Nat) (A : Option Addr) (c : Nat), e = .returned (.agg #[.slice A k c, .bool true]) ∧ s.length = k ∧ k ≤ m ∧ Shp A k c ∧ IsSet s p ∧ Reads w' w'.heap.size 2 A k (rcells s) ∧ Below w.heap.size w w'
def OutGno (w : World) (e : Ending) (w' : World) : Prop := e = .returned (.agg #[.slice none 0 0, .bool false]) ∧ Below w.heap.size w w'

theorem made_bools (n : Nat) : (madeCells (Value.bool false).cells (n * 1)).toList = bcells (List.replicate n false) := by
  rw [Nat.mul_one, show (Value.bool false).cells = #[.bool false] from rfl, toList_madeCells_one]
  simp [bcells]

theorem refNot_bad (l : List Rg) (n : Nat) (hl : l.length = n) (A : Option Addr) (c : Nat) (w : World) (hR : Reads w w.heap.size 2 A n (rcells l)) (hn : n ≤ 4000) (hg : goodB l = false) :
    Calls Try.prog 17 #[.slice A n c] w (OutGno w) := by
  have HR := Lib.hid (reads_on hR (below_new w (.cells #[.slice none 0 0, .bool false] 31)))
  have HL := Lib.hid hl
  have HRes := Lib.hid (res_new w)
  clear hR hl
  go_enter Try.func17, Try.ntmps17
  go_wp2_with fail
  refine (refGood_no HL.out HR.out (by omega) hg).mono ?_
  rintro e w1 ⟨rfl, g1⟩
  obtain ⟨r0, r1, f0, f1⟩ := HRes.out.on (by simp) g1
  have b1 := (below_new w (.cells #[.slice none 0 0, .bool false] 31)).trans (g1.mono (by simp))
  have HRes1 := Lib.hid (HRes.out.on (by simp) g1)
  clear g1
  go_wp2_with fail
  obtain ⟨k0, k1⟩ := res_set HRes1.out (.slice none 0 0) (.bool false)
  have b2 := res_below b1 HRes1.out (.slice none 0 0) (.bool false) (Nat.le_refl _)
  generalize (w1.setCell ⟨w.heap.size, 0, none⟩ (.slice none 0 0)).setCell ⟨w.heap.size, 1, none⟩ (.bool false) = w2 at *
  exact bodyPost_ret (v := .agg #[.slice none 0 0, .bool false]) (by simp [results, Try.results17, go_sem, k0, k1]) rfl ⟨rfl, b2⟩

theorem stL_len : ∀ (l : List Rg) (acc : List Int), (stL acc l).length ≤ acc.length + 2 * l.length
  | [], acc => by simp [stL]
  | r :: l, acc => by
    have h := stL_len l (st1 acc r)
    have h1 : (st1 acc r).length ≤ acc.length + 2 := by
      unfold st1
      have a := putL_len acc r.1
      have b := putL_len (putL acc r.1) (nextN r.2)
      split <;> omega
    simp only [stL, List.length_cons]
    omega
theorem st_all_from : ∀ (q p : List Rg) (acc : List Int), St acc p → (∀ r ∈ q, Ok r) → St (stL acc q) (p ++ q)
  | [], p, acc, h, _ => by rw [List.append_nil]; exact h
  | r :: q, p, acc, h, ho => by
    have h1 := st_all_from q (p ++ [r]) (st1 acc r) (st_step h (ho r (by simp))) (fun x hx => ho x (by simp [hx]))
    rw [List.append_assoc] at h1
    exact h1
theorem st_all (q : List Rg) (h : ∀ r ∈ q, Ok r) : St (stL [0] q) q := st_all_from q [] [0] st_start h

/-- Ahead of each round: the first j stretches are marked. -/
def MkRel (at_ : List Int) (f : Int → Bool) (n base g : Nat) (w1 : World) (vi : Value) (wr : World) : Prop :=
  ∃ (j : Nat) (inl : List Bool), j ≤ n ∧ vi = .int .i64 j ∧ Hid (inl.length = n) ∧ Hid (∀ i (h : i < inl.length) (h2 : i < at_.length), i < j → inl[i] = f at_[i]) ∧ wr.ownsRow base 4 1 (.slice (some ⟨g, 0, none⟩) n n) n (bcells inl) ∧ Below base w1 wr
theorem mark_step {at_ : List Int} {f : Int → Bool} {inl : List Bool} {j : Nat} (h : ∀ i (h : i < inl.length) (h2 : i < at_.length), i < j → inl[i] = f at_[i]) (hj : j < at_.length) :
    ∀ i (h : i < (inl.set j (f at_[j])).length) (h2 : i < at_.length), i < j + 1 → (inl.set j (f at_[j]))[i] = f at_[i] := by
  intro i h1 h2 hi
  rw [List.getElem_set]
  split
  · rename_i e; subst e; rfl
  · exact h i (by simpa using h1) h2 (by omega)
theorem bcells_set (l : List Bool) (j : Nat) (b : Bool) : (bcells l).set j (.bool b) = bcells (l.set j b) := by simp [bcells, List.map_set]

end Go.Proofs.Ytehikcddnjibcaa
