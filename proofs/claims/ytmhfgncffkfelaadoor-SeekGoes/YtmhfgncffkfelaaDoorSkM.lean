/- Plain mathematics: a rising list's neighbors of a number. No program. -/
import Derived.Test.YtmhfgncffkfelaaDoorKS
namespace Go.Proofs.YtmhfgncffkfelaaDoor
set_option linter.unusedVariables false
set_option linter.unusedSimpArgs false

def prevI (l : List Int) (a : Int) : Int := ((l.filter (fun x => decide (x < a))).getLast?).getD (-1)
def nextI (l : List Int) (n a : Int) : Int := ((l.filter (fun x => decide (a < x))).head?).getD (n + 1)
theorem prevI_snoc (l : List Int) (x a : Int) : prevI (l ++ [x]) a = if x < a then x else prevI l a := by
  unfold prevI
  rw [List.filter_append, List.filter_cons]
  by_cases h : x < a <;> simp [h]
theorem prevI_nil (a : Int) : prevI [] a = -1 := rfl
theorem nextI_nil (n a : Int) : nextI [] n a = n + 1 := rfl
theorem nextI_snoc {l : List Int} {n : Int} (hl : ∀ y ∈ l, y ≤ n) (x a : Int) : nextI (l ++ [x]) n a = if a < x ∧ n < nextI l n a then x else nextI l n a := by
  unfold nextI
  rw [List.filter_append, List.filter_cons]
  cases e : l.filter (fun x => decide (a < x)) with
  | nil => by_cases h : a < x <;> simp [h] <;> omega
  | cons y r =>
    have hy : y ∈ l := (List.mem_filter.1 (by rw [e]; simp : y ∈ l.filter (fun x => decide (a < x)))).1
    have := hl y hy
    by_cases h : a < x <;> simp [h] <;> omega
/-- What the least one above is. -/
structure NextIs (l : List Int) (n a y : Int) : Prop where
  gt : a < y
  le : y ≤ n + 1
  bt : ∀ j, a < j → j < y → j ∉ l
  on : y ≤ n → y ∈ l
structure PrevIs (l : List Int) (a y : Int) : Prop where
  lt : y < a
  ge : -1 ≤ y
  bt : ∀ j, y < j → j < a → j ∉ l
  on : 0 ≤ y → y ∈ l
theorem NextIs.uniq {l : List Int} {n a y z : Int} (h : NextIs l n a y) (g : NextIs l n a z) : y = z := by
  have h1 := h.gt; have h2 := h.le; have g1 := g.gt; have g2 := g.le
  rcases Int.lt_trichotomy y z with q | q | q
  · exact absurd (h.on (by omega)) (g.bt y h1 q)
  · exact q
  · exact absurd (g.on (by omega)) (h.bt z g1 q)
theorem PrevIs.uniq {l : List Int} {a y z : Int} (h : PrevIs l a y) (g : PrevIs l a z) : y = z := by
  have h1 := h.lt; have h2 := h.ge; have g1 := g.lt; have g2 := g.ge
  rcases Int.lt_trichotomy y z with q | q | q
  · exact absurd (g.on (by omega)) (h.bt z q g1)
  · exact q
  · exact absurd (h.on (by omega)) (g.bt y q h1)
theorem nextI_is {l : List Int} {n a : Int} (hs : l.Pairwise (· < ·)) (hl : ∀ y ∈ l, y ≤ n) (ha : a ≤ n) : NextIs l n a (nextI l n a) := by
  unfold nextI
  have hf := hs.filter (fun x => decide (a < x))
  have hm : ∀ y, y ∈ l.filter (fun x => decide (a < x)) ↔ y ∈ l ∧ a < y := fun y => by simp
  cases e : l.filter (fun x => decide (a < x)) with
  | nil =>
    rw [e] at hm
    refine ⟨by simp; omega, by simp, fun j h1 h2 h3 => ?_, fun h => ?_⟩
    · have := (hm j).2 ⟨h3, h1⟩; simp at this
    · simp at h; omega
  | cons y r =>
    rw [e] at hm hf
    have hy := (hm y).1 (by simp)
    have := hl y hy.1
    refine ⟨by simpa using hy.2, by simp; omega, fun j h1 h2 h3 => ?_, fun _ => by simpa using hy.1⟩
    simp at h2
    rcases List.mem_cons.1 ((hm j).2 ⟨h3, h1⟩) with q | q
    · omega
    · have := List.rel_of_pairwise_cons hf q; omega
theorem prevI_is {l : List Int} {a : Int} (hs : l.Pairwise (· < ·)) (hl : ∀ y ∈ l, 0 ≤ y) (ha : 0 ≤ a) : PrevIs l a (prevI l a) := by
  unfold prevI
  have hf := hs.filter (fun x => decide (x < a))
  have hm : ∀ y, y ∈ l.filter (fun x => decide (x < a)) ↔ y ∈ l ∧ y < a := fun y => by simp
  generalize l.filter (fun x => decide (x < a)) = m at *
  rcases List.eq_nil_or_concat m with rfl | ⟨r, y, rfl⟩
  · refine ⟨by simp; omega, by simp, fun j h1 h2 h3 => ?_, fun h => ?_⟩
    · have := (hm j).2 ⟨h3, h2⟩; simp at this
    · simp at h
  · rw [List.concat_eq_append] at *
    have hy := (hm y).1 (by simp)
    have := hl y hy.1
    refine ⟨by simpa using hy.2, by simp; omega, fun j h1 h2 h3 => ?_, fun _ => by simpa using hy.1⟩
    simp at h1
    rcases List.mem_append.1 ((hm j).2 ⟨h3, h2⟩) with q | q
    · have := (List.pairwise_append.1 hf).2.2 j q y (by simp); omega
    · simp at q; omega
theorem natI_sorted {l : List Nat} (h : l.Pairwise (· < ·)) : (natI l).Pairwise (· < ·) := by
  unfold natI
  rw [List.pairwise_map]
  exact h.imp (fun h => by omega)
theorem natI_mem {l : List Nat} {x : Int} : x ∈ natI l ↔ ∃ i ∈ l, ((i : Nat) : Int) = x := by unfold natI; simp
theorem natI_ge {l : List Nat} : ∀ y ∈ natI l, (0 : Int) ≤ y := fun y h => by obtain ⟨i, _, rfl⟩ := natI_mem.1 h; omega
theorem brk_le (t : Tb) (L : List UInt8) : ∀ y ∈ natI (ofA t L), y ≤ (L.length : Int) := fun y h => by
  obtain ⟨i, hi, rfl⟩ := natI_mem.1 h
  have := ofA_le hi
  omega
theorem brk_sorted (t : Tb) (L : List UInt8) : (natI (ofA t L)).Pairwise (· < ·) := natI_sorted (ofA_sorted t L)

/-- What may be asked: the error's number; is there a break, the next one, the one ahead. -/
def seekE (t : Tb) (n : Nat) (a : Int) : Int := if errV t = 0 then (if a < 0 ∨ (n : Int) < a then 2 else 0) else 1
def isA (t : Tb) (L : List UInt8) (a : Int) : Bool := if seekE t L.length a = 0 then (natI (ofA t L)).contains a else false
def nextA (t : Tb) (L : List UInt8) (a : Int) : Int := if seekE t L.length a = 0 then nextI (natI (ofA t L)) L.length a else 0
def prevA (t : Tb) (L : List UInt8) (a : Int) : Int := if seekE t L.length a = 0 then prevI (natI (ofA t L)) a else 0
theorem seekE_ok {t : Tb} {n : Nat} {a : Int} (h : seekE t n a = 0) : errV t = 0 ∧ 0 ≤ a ∧ a ≤ n := by
  unfold seekE at h
  split at h
  · rename_i he
    split at h
    · simp at h
    · exact ⟨he, by omega, by omega⟩
  · simp at h
theorem seekE_of {t : Tb} {n : Nat} {a : Int} (h : errV t = 0) (h1 : 0 ≤ a) (h2 : a ≤ n) : seekE t n a = 0 := by
  unfold seekE
  rw [if_pos h, if_neg (by omega)]
theorem nextA_is {t : Tb} {L : List UInt8} {a : Int} (h : seekE t L.length a = 0) : NextIs (natI (ofA t L)) L.length a (nextA t L a) := by
  unfold nextA
  rw [if_pos h]
  exact nextI_is (brk_sorted t L) (brk_le t L) (seekE_ok h).2.2
theorem prevA_is {t : Tb} {L : List UInt8} {a : Int} (h : seekE t L.length a = 0) : PrevIs (natI (ofA t L)) a (prevA t L a) := by
  unfold prevA
  rw [if_pos h]
  exact prevI_is (brk_sorted t L) natI_ge (seekE_ok h).2.1
theorem isA_is {t : Tb} {L : List UInt8} {a : Int} (h : seekE t L.length a = 0) : isA t L a = (natI (ofA t L)).contains a := by unfold isA; rw [if_pos h]
end Go.Proofs.YtmhfgncffkfelaaDoor
