/- Counting the nodes of a tree: leaves, forks, and of how many nodes each is a child. -/
import Derived.Test.YtfpiackfhdiapaaTrM
namespace Go.Proofs.Ytfpiackfhdiapaa.S
set_option linter.unusedVariables false
set_option linter.unusedSimpArgs false
def b1 (p : Bool) : Nat := if p then 1 else 0
def isFork (n : Nd) : Bool := n.k == 3 || n.k == 4
def isLeaf (n : Nd) : Bool := !(isFork n) && !(n.k == 5)
def lvs (t : List Nd) : Nat := (t.map fun n => b1 (isLeaf n)).sum
def fks (t : List Nd) : Nat := (t.map fun n => b1 (isFork n)).sum
/-- How often a node names place j as its child. -/
def refs (j : Int) (n : Nd) : Nat := if isFork n then b1 (n.a == j) + b1 (n.b == j) else if n.k == 5 then b1 (n.a == j) else 0
def cnt (t : List Nd) (j : Int) : Nat := (t.map (refs j)).sum
theorem lvs_app (s t : List Nd) : lvs (s ++ t) = lvs s + lvs t := by simp [lvs]
theorem fks_app (s t : List Nd) : fks (s ++ t) = fks s + fks t := by simp [fks]
theorem cnt_app (s t : List Nd) (j : Int) : cnt (s ++ t) j = cnt s j + cnt t j := by simp [cnt]
theorem lvs_one (n : Nd) : lvs [n] = b1 (isLeaf n) := by simp [lvs]
theorem fks_one (n : Nd) : fks [n] = b1 (isFork n) := by simp [fks]
theorem cnt_one (n : Nd) (j : Int) : cnt [n] j = refs j n := by simp [cnt]
theorem b1_le (p : Bool) : b1 p ≤ 1 := by cases p <;> decide
theorem refs_le (j : Int) (n : Nd) : refs j n ≤ 2 := by
  unfold refs
  have h1 := b1_le (n.a == j)
  have h2 := b1_le (n.b == j)
  split
  · omega
  · split <;> omega
theorem cnt_le (t : List Nd) (j : Int) : cnt t j ≤ 2 * t.length := by
  induction t with
  | nil => simp [cnt]
  | cons n t ih =>
    have := refs_le j n
    have h : cnt (n :: t) j = refs j n + cnt t j := by simp [cnt]
    rw [h, List.length_cons]
    omega
theorem lvs_le (t : List Nd) : lvs t ≤ t.length := by
  induction t with
  | nil => simp [lvs]
  | cons n t ih =>
    have := b1_le (isLeaf n)
    have h : lvs (n :: t) = b1 (isLeaf n) + lvs t := by simp [lvs]
    rw [h, List.length_cons]
    omega
theorem fks_le (t : List Nd) : fks t ≤ t.length := by
  induction t with
  | nil => simp [fks]
  | cons n t ih =>
    have := b1_le (isFork n)
    have h : fks (n :: t) = b1 (isFork n) + fks t := by simp [fks]
    rw [h, List.length_cons]
    omega
theorem lvs_flat : ∀ (e : Ex) (o : Nat), lvs (flat e o) = fks (flat e o) + 1
  | .never, _ => rfl | .empty, _ => rfl | .one _ _, _ => rfl
  | .cat x y, o => by
    simp only [flat, lvs_app, fks_app, lvs_one, fks_one, lvs_flat x, lvs_flat y]
    have h1 : b1 (isLeaf (rootN (.cat x y) o)) = 0 := rfl
    have h2 : b1 (isFork (rootN (.cat x y) o)) = 1 := rfl
    omega
  | .alt x y, o => by
    simp only [flat, lvs_app, fks_app, lvs_one, fks_one, lvs_flat x, lvs_flat y]
    have h1 : b1 (isLeaf (rootN (.alt x y) o)) = 0 := rfl
    have h2 : b1 (isFork (rootN (.alt x y) o)) = 1 := rfl
    omega
  | .star x, o => by
    simp only [flat, lvs_app, fks_app, lvs_one, fks_one, lvs_flat x]
    have h1 : b1 (isLeaf (rootN (.star x) o)) = 0 := rfl
    have h2 : b1 (isFork (rootN (.star x) o)) = 0 := rfl
    omega
theorem b1_eq (p : Bool) (q : Prop) [Decidable q] (h : p = true ↔ q) : b1 p = if q then 1 else 0 := by
  unfold b1
  by_cases hq : q
  · rw [if_pos hq, if_pos (h.2 hq)]
  · rw [if_neg hq, if_neg (fun e => hq (h.1 e))]
theorem cnt_flat : ∀ (e : Ex) (o : Nat) (j : Int), cnt (flat e o) j = if (o : Int) ≤ j ∧ j + 1 < (o : Int) + (sz e : Int) then 1 else 0
  | .never, o, j => by
    have h : cnt (flat .never o) j = 0 := rfl
    rw [h, if_neg (by simp only [sz]; omega)]
  | .empty, o, j => by
    have h : cnt (flat .empty o) j = 0 := rfl
    rw [h, if_neg (by simp only [sz]; omega)]
  | .one s m, o, j => by
    have h : cnt (flat (.one s m) o) j = 0 := rfl
    rw [h, if_neg (by simp only [sz]; omega)]
  | .cat x y, o, j => by
    have hx := sz_pos x
    have hz : sz (.cat x y) = sz x + sz y + 1 := rfl
    have hy := sz_pos y
    have h1 : refs j (rootN (.cat x y) o) = b1 (((o + sz x : Nat) - 1 : Int) == j) + b1 (((o + sz x + sz y : Nat) - 1 : Int) == j) := rfl
    simp only [flat, cnt_app, cnt_one, cnt_flat x, cnt_flat y, h1]
    rw [b1_eq _ _ (beq_iff_eq), b1_eq _ _ (beq_iff_eq)]
    by_cases c : (o : Int) ≤ j ∧ j + 1 < (o : Int) + (sz (.cat x y) : Int)
    · rw [if_pos c]; split <;> split <;> split <;> split <;> omega
    · rw [if_neg c]; split <;> split <;> split <;> split <;> omega
  | .alt x y, o, j => by
    have hx := sz_pos x
    have hz : sz (.alt x y) = sz x + sz y + 1 := rfl
    have hy := sz_pos y
    have h1 : refs j (rootN (.alt x y) o) = b1 (((o + sz x : Nat) - 1 : Int) == j) + b1 (((o + sz x + sz y : Nat) - 1 : Int) == j) := rfl
    simp only [flat, cnt_app, cnt_one, cnt_flat x, cnt_flat y, h1]
    rw [b1_eq _ _ (beq_iff_eq), b1_eq _ _ (beq_iff_eq)]
    by_cases c : (o : Int) ≤ j ∧ j + 1 < (o : Int) + (sz (.alt x y) : Int)
    · rw [if_pos c]; split <;> split <;> split <;> split <;> omega
    · rw [if_neg c]; split <;> split <;> split <;> split <;> omega
  | .star x, o, j => by
    have hx := sz_pos x
    have hz : sz (.star x) = sz x + 1 := rfl
    have h1 : refs j (rootN (.star x) o) = b1 (((o + sz x : Nat) - 1 : Int) == j) := rfl
    simp only [flat, cnt_app, cnt_one, cnt_flat x, h1]
    rw [b1_eq _ _ (beq_iff_eq)]
    by_cases c : (o : Int) ≤ j ∧ j + 1 < (o : Int) + (sz (.star x) : Int)
    · rw [if_pos c]; split <;> split <;> omega
    · rw [if_neg c]; split <;> split <;> omega
/-- A node's children lie ahead of the tree's end. -/
theorem kids_in : ∀ (e : Ex) (o : Nat), ∀ n ∈ flat e o, (isFork n = true → (o : Int) ≤ n.a ∧ n.a < (o : Int) + sz e ∧ (o : Int) ≤ n.b ∧ n.b < (o : Int) + sz e) ∧ (n.k = 5 → (o : Int) ≤ n.a ∧ n.a < (o : Int) + sz e)
  | .never, o => by intro n h; simp only [flat, List.mem_singleton] at h; subst h; exact ⟨fun h => (Bool.false_ne_true h).elim, fun h => absurd (show (0 : Int) = 5 from h) (by decide)⟩
  | .empty, o => by intro n h; simp only [flat, List.mem_singleton] at h; subst h; exact ⟨fun h => (Bool.false_ne_true h).elim, fun h => absurd (show (1 : Int) = 5 from h) (by decide)⟩
  | .one s m, o => by intro n h; simp only [flat, List.mem_singleton] at h; subst h; exact ⟨fun h => (Bool.false_ne_true h).elim, fun h => absurd (show (2 : Int) = 5 from h) (by decide)⟩
  | .cat x y, o => by
    have hx := sz_pos x
    have hy := sz_pos y
    intro n h
    simp only [flat, List.mem_append, List.mem_singleton] at h
    simp only [sz]
    rcases h with (h | h) | rfl
    · have := kids_in x o n h
      exact ⟨fun g => by have := this.1 g; omega, fun g => by have := this.2 g; omega⟩
    · have := kids_in y (o + sz x) n h
      exact ⟨fun g => by have := this.1 g; omega, fun g => by have := this.2 g; omega⟩
    · refine ⟨fun _ => ?_, fun g => absurd (show (3 : Int) = 5 from g) (by decide)⟩
      show (o : Int) ≤ ((o + sz x : Nat) - 1 : Int) ∧ ((o + sz x : Nat) - 1 : Int) < _ ∧ (o : Int) ≤ ((o + sz x + sz y : Nat) - 1 : Int) ∧ ((o + sz x + sz y : Nat) - 1 : Int) < _
      omega
  | .alt x y, o => by
    have hx := sz_pos x
    have hy := sz_pos y
    intro n h
    simp only [flat, List.mem_append, List.mem_singleton] at h
    simp only [sz]
    rcases h with (h | h) | rfl
    · have := kids_in x o n h
      exact ⟨fun g => by have := this.1 g; omega, fun g => by have := this.2 g; omega⟩
    · have := kids_in y (o + sz x) n h
      exact ⟨fun g => by have := this.1 g; omega, fun g => by have := this.2 g; omega⟩
    · refine ⟨fun _ => ?_, fun g => absurd (show (4 : Int) = 5 from g) (by decide)⟩
      show (o : Int) ≤ ((o + sz x : Nat) - 1 : Int) ∧ ((o + sz x : Nat) - 1 : Int) < _ ∧ (o : Int) ≤ ((o + sz x + sz y : Nat) - 1 : Int) ∧ ((o + sz x + sz y : Nat) - 1 : Int) < _
      omega
  | .star x, o => by
    have hx := sz_pos x
    intro n h
    simp only [flat, List.mem_append, List.mem_singleton] at h
    simp only [sz]
    rcases h with h | rfl
    · have := kids_in x o n h
      exact ⟨fun g => by have := this.1 g; omega, fun g => by have := this.2 g; omega⟩
    · refine ⟨fun g => (Bool.false_ne_true g).elim, fun _ => ?_⟩
      show (o : Int) ≤ ((o + sz x : Nat) - 1 : Int) ∧ ((o + sz x : Nat) - 1 : Int) < _
      omega
/-- What begins where, of a row's first nodes. -/
theorem bgs_take {t : List Nd} : ∀ {bs : List Nat}, bgs t = some bs → ∀ i, i ≤ t.length → bgs (t.take i) = some (bs.take i) := by
  refine snocInd (P := fun t => ∀ {bs : List Nat}, bgs t = some bs → ∀ i, i ≤ t.length → bgs (t.take i) = some (bs.take i)) ?_ ?_ t
  · intro bs h i hi
    simp only [List.length_nil] at hi
    obtain rfl : i = 0 := by omega
    rfl
  · intro t n ih bs h i hi
    obtain ⟨b0, b, h0, _, _, rfl⟩ := bgs_snoc_some h
    have hl := bgs_len _ _ h0
    rw [List.length_append, List.length_singleton] at hi
    by_cases hi' : i ≤ t.length
    · rw [List.take_append_of_le_length hi', List.take_append_of_le_length (by omega)]
      exact ih h0 i hi'
    · obtain rfl : i = t.length + 1 := by omega
      rw [List.take_of_length_le (by simp), List.take_of_length_le (by simp; omega)]
      exact h
theorem treeB_take {t : List Nd} {bs : List Nat} (h : bgs t = some bs) (hl : t.length ≤ 40000) (i : Nat) (hi : i ≤ t.length) :
    treeB (t.take i) = (decide (0 < i) && (bs[i - 1]? == some 0)) := by
  have hb := bgs_len _ _ h
  have h1 : (t.take i).length = i := by rw [List.length_take]; omega
  unfold treeB
  rw [bgs_take h i hi, h1]
  by_cases h0 : 0 < i
  · have h2 : (bs.take i).getLast? = bs[i - 1]? := by
      rw [List.getLast?_eq_getElem?, List.length_take, Nat.min_eq_left (by omega), List.getElem?_take_of_lt (by omega)]
    simp only [h2, decide_eq_true h0, decide_eq_true (show i ≤ 40000 by omega), Bool.true_and]
  · rw [decide_eq_false h0]; rfl
end Go.Proofs.Ytfpiackfhdiapaa.S
