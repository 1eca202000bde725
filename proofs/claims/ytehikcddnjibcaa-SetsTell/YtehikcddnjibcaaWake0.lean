/- Sets that are known, and what is told of them. -/
import Derived.Test.YtehikcddnjibcaaNot
import Derived.Test.YtehikcddnjibcaaRefGood
namespace Go.Proofs.Ytehikcddnjibcaa
open Go.RowKit Go.BigFrame
set_option linter.unusedVariables false
set_option linter.unusedSimpArgs false

/-- This set, in a new row. -/
def OutIs (L : List Rg) (k : Nat) (w : World) (e : Ending) (w' : World) : Prop :=
  ∃ (A : Option Addr) (c : Nat), e = .returned (.tuple #[.slice A k c, .bool true]) ∧ Shp A k c ∧ Reads w' w'.heap.size 2 A k (rcells L) ∧ Below w.heap.size w w'
theorem outIs_of {p q : Int → Prop} {m k : Nat} {L : List Rg} {w : World} {e : Ending} {w' : World} (h : OutSet p m w e w') (hL : IsSet L q) (hpq : ∀ v, Sc v → (p v ↔ q v)) (hk : L.length = k) : OutIs L k w e w' := by
  obtain ⟨s, A, c, he, hs, hI, _, hR, hb⟩ := h
  obtain rfl := hI.uniq hL hpq
  subst hk
  exact ⟨A, c, he, hs, hR, hb⟩

theorem reads_lit (w : World) (L : List Rg) (k : Nat) (cs : Array Value) (hk : L.length = k) (h : cs = (rcells L).toArray) : Reads (w.alloc (.cells cs 41)) (w.alloc (.cells cs 41)).heap.size 2 (some ⟨w.heap.size, 0, none⟩) k (rcells L) := by
  subst h
  refine ⟨by rw [rcells_len, hk], fun _ => ⟨w.heap.size, 0, rfl, by simp, fun j u hj => ?_⟩⟩
  have hj' := (List.getElem?_eq_some_iff.1 hj).1
  rw [Nat.zero_add]
  have e : (w.alloc (.cells (rcells L).toArray 41)).heap[w.heap.size]? = some (.cells (rcells L).toArray 41) := by
    show (w.heap.push _)[w.heap.size]? = _
    exact Array.getElem?_push_size
  unfold World.cell?
  show (match (w.alloc (.cells (rcells L).toArray 41)).heap[w.heap.size]? with
    | some (.cells c _ _) => if false = true then none else c[j]?
    | _ => none) = some u
  rw [e]
  simpa using hj
theorem reads_on {w w' : World} {A : Option Addr} {n size : Nat} {xs : List Value} (h : Reads w w.heap.size size A n xs) (g : Below w.heap.size w w') : Reads w' w'.heap.size size A n xs := (h.below g).more g.size
theorem shp_lit (b k : Nat) (hk : k ≤ 1000) : Shp (some ⟨b, 0, none⟩) k k := ⟨fun h => (by cases h), Nat.le_refl _, by unfold maxLen; omega⟩

theorem of_good (l : List Rg) (n : Nat) (hl : l.length = n) (A : Option Addr) (c : Nat) (w : World) (hnil : A = none → c = 0) (hR : Reads w w.heap.size 2 A n (rcells l)) (hn : n ≤ 10000) (hok : allOk l = true) :
    Calls Try.prog 10 #[.slice A n c] w (OutSet (In l) n w) :=
  (of_any l n hl A c w hnil hR hn).mono fun e w' h => by
    rcases h with ⟨_, h⟩ | ⟨h1, _⟩
    · exact h
    · rw [hok] at h1; cases h1
theorem of_bad (l : List Rg) (n : Nat) (hl : l.length = n) (A : Option Addr) (c : Nat) (w : World) (hnil : A = none → c = 0) (hR : Reads w w.heap.size 2 A n (rcells l)) (hn : n ≤ 10000) (hok : allOk l = false) :
    Calls Try.prog 10 #[.slice A n c] w (OutNo w) :=
  (of_any l n hl A c w hnil hR hn).mono fun e w' h => by
    rcases h with ⟨h1, _⟩ | ⟨_, h⟩
    · rw [hok] at h1; cases h1
    · exact h

/-- The sets of the statements' own examples. -/
def lA0 : List Rg := [(99, 100), (97, 98), (55295, 55295), (57344, 57345)]
def lA : List Rg := [(97, 100), (55295, 57345)]
def lB : List Rg := [(0, 96), (101, 55294), (57346, 1114111)]
def lC0 : List Rg := [(100, 101)]
def lC : List Rg := [(100, 100)]
def lD : List Rg := [(0, 1114111)]
def lE : List Rg := [(1, 2), (3, 4)]
theorem gdA : Gd (-1) lA := (goodB_iff _).1 (by decide)
theorem gdB' : Gd (-1) lB := (goodB_iff _).1 (by decide)
theorem gdC : Gd (-1) lC := (goodB_iff _).1 (by decide)
theorem gdC0 : Gd (-1) lC0 := (goodB_iff _).1 (by decide)
theorem gdD : Gd (-1) lD := (goodB_iff _).1 (by decide)
theorem setA : ∀ v, Sc v → (In lA0 v ↔ In lA v) := by
  intro v hv; unfold Sc at hv; simp only [lA0, lA, In_cons, In_nil, or_false]; constructor <;> intro h <;> omega
theorem setB : ∀ v, Sc v → (¬ In lA v ↔ In lB v) := by
  intro v hv; unfold Sc at hv; simp only [lB, lA, In_cons, In_nil, or_false]; constructor <;> intro h <;> omega
theorem setC : ∀ v, Sc v → (In lA v ∧ In lC0 v ↔ In lC v) := by
  intro v hv; unfold Sc at hv; simp only [lC, lC0, lA, In_cons, In_nil, or_false]; constructor <;> intro h <;> omega
theorem setD : ∀ v, Sc v → (In (lA ++ lB) v ↔ In lD v) := by
  intro v hv; unfold Sc at hv; simp only [lB, lD, lA, List.cons_append, List.nil_append, In_cons, In_nil, or_false]; constructor <;> intro h <;> omega
end Go.Proofs.Ytehikcddnjibcaa
