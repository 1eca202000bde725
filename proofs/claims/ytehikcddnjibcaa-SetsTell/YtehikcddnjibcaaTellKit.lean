/- Program and document side by side: one form for what Of, Union, Both, Not return on either side. -/
import Derived.Test.YtehikcddnjibcaaRefOf
import Derived.Test.YtehikcddnjibcaaBoth
import Derived.Test.YtehikcddnjibcaaNot
import Derived.Test.YtehikcddnjibcaaWakes
namespace Go.Proofs.Ytehikcddnjibcaa
open Go.RowKit Go.BigFrame
set_option linter.unusedVariables false
set_option linter.unusedSectionVars false

/-- What is promised of a set and its OK. -/
def Sp (g : Bool) (p : Int → Prop) (s : List Rg) (ok : Bool) : Prop := (g = true ∧ ok = true ∧ IsSet s p) ∨ (g = false ∧ ok = false ∧ s = [])
/-- The program's answer. -/
def OutP (g : Bool) (p : Int → Prop) (M : Nat) (w : World) (e : Ending) (w' : World) : Prop :=
  ∃ (s : List Rg) (k : Nat) (A : Option Addr) (c : Nat) (ok : Bool), e = .returned (.tuple #[.slice A k c, .bool ok]) ∧ s.length = k ∧ k ≤ M ∧ Shp A k c ∧ Sp g p s ok ∧ Reads w' w'.heap.size 2 A k (rcells s) ∧ Below w.heap.size w w'
/-- The document's answer, the same set. -/
def OutR (s : List Rg) (k : Nat) (ok : Bool) (w : World) (e : Ending) (w' : World) : Prop :=
  ∃ (A : Option Addr) (c : Nat), e = .returned (.agg #[.slice A k c, .bool ok]) ∧ Shp A k c ∧ Reads w' w'.heap.size 2 A k (rcells s) ∧ Below w.heap.size w w'

theorem outP_set {p q : Int → Prop} {m M : Nat} {w w' : World} {e : Ending} (h : OutSet p m w e w') (hM : m ≤ M) (hpq : ∀ v, Sc v → (p v ↔ q v)) : OutP true q M w e w' := by
  obtain ⟨s, A, c, he, hs, hI, hk, hR, hb⟩ := h
  exact ⟨s, s.length, A, c, true, he, rfl, by omega, hs, .inl ⟨rfl, rfl, hI.1, fun v hv => (hI.2 v hv).trans (hpq v hv)⟩, hR, hb⟩
theorem outP_no {p : Int → Prop} {M : Nat} {w w' : World} {e : Ending} (h : OutNo w e w') : OutP false p M w e w' :=
  ⟨[], 0, none, 0, false, h.1, rfl, Nat.zero_le _, ⟨fun _ => rfl, Nat.le_refl _, Nat.zero_le _⟩, .inr ⟨rfl, rfl, rfl⟩, Reads.none_, h.2⟩
theorem outR_set {p : Int → Prop} {M k : Nat} {s : List Rg} {w w' : World} {e : Ending} (h : OutG p M w e w') (hs : IsSet s p) (hk : s.length = k) : OutR s k true w e w' := by
  obtain ⟨t, k', A, c, he, hl, _, hsh, hI, hR, hb⟩ := h
  obtain rfl := hI.uniq hs (fun v _ => Iff.rfl)
  subst hl
  subst hk
  exact ⟨A, c, he, hsh, hR, hb⟩
theorem outR_no {w w' : World} {e : Ending} (h : OutGno w e w') : OutR [] 0 false w e w' :=
  ⟨none, 0, h.1, ⟨fun _ => rfl, Nat.le_refl _, Nat.zero_le _⟩, Reads.none_, h.2⟩

section
variable (a b : List Rg) (n m : Nat) (ha : a.length = n) (hb : b.length = m) (A B : Option Addr) (c d : Nat) (w : World) (hA : Shp A n c) (hB : Shp B m d) (hRa : Reads w w.heap.size 2 A n (rcells a)) (hRb : Reads w w.heap.size 2 B m (rcells b)) (hn : n ≤ 2000) (hm : m ≤ 2000)
include ha hA hRa hn

theorem of_P : Calls Try.prog 10 #[.slice A n c] w (OutP (allOk a) (In a) 5000 w) := by
  cases h : allOk a
  · exact (of_bad a n ha A c w hA.1 hRa (by omega) h).mono fun _ _ => outP_no
  · exact (of_good a n ha A c w hA.1 hRa (by omega) h).mono fun _ _ q => outP_set q (by omega) fun _ _ => Iff.rfl
theorem of_R {s : List Rg} {k : Nat} {ok : Bool} (hs : Sp (allOk a) (In a) s ok) (hk : s.length = k) : Calls Try.prog 14 #[.slice A n c] w (OutR s k ok w) := by
  refine (refOf_any a n ha A c w hRa (by omega)).mono fun e w' h => ?_
  rcases hs with ⟨h1, rfl, hI⟩ | ⟨h1, rfl, rfl⟩
  · rcases h with ⟨_, h⟩ | ⟨h2, _⟩
    · exact outR_set h hI hk
    · rw [h1] at h2; cases h2
  · subst hk
    rcases h with ⟨h2, _⟩ | ⟨_, h⟩
    · rw [h1] at h2; cases h2
    · exact outR_no h
theorem not_P : Calls Try.prog 13 #[.slice A n c] w (OutP (goodB a) (fun v => ¬ In a v) 5000 w) := by
  cases h : goodB a
  · exact (not_bad a n ha A c w hRa (by omega) h).mono fun _ _ => outP_no
  · exact (not_good a n ha A c w hRa (by omega) ((goodB_iff a).1 h)).mono fun _ _ q => outP_set q (by omega) fun _ _ => Iff.rfl
theorem not_R {s : List Rg} {k : Nat} {ok : Bool} (hs : Sp (goodB a) (fun v => ¬ In a v) s ok) (hk : s.length = k) : Calls Try.prog 17 #[.slice A n c] w (OutR s k ok w) := by
  rcases hs with ⟨h1, rfl, hI⟩ | ⟨h1, rfl, rfl⟩
  · exact (refNot_good a n ha A c w hRa hn ((goodB_iff a).1 h1)).mono fun _ _ h => outR_set h hI hk
  · subst hk
    exact (refNot_bad a n ha A c w hRa (by omega) h1).mono fun _ _ => outR_no
include hb hB hRb hm
theorem union_P : Calls Try.prog 11 #[.slice A n c, .slice B m d] w (OutP (goodB a && goodB b) (fun v => twP false (In a v) (In b v)) 5000 w) := by
  cases h : (goodB a && goodB b)
  · exact (union_bad a b n m ha hb A B c d w hRa hRb (by omega) (by omega) h).mono fun _ _ => outP_no
  · rw [Bool.and_eq_true] at h
    exact (union_good a b n m ha hb A B c d w hA.1 hB.1 hRa hRb (by omega) (by omega) ((goodB_iff a).1 h.1) ((goodB_iff b).1 h.2)).mono fun _ _ q => outP_set q (by omega) fun v _ => by
      rw [In_app]; simp [twP]
theorem both_P : Calls Try.prog 12 #[.slice A n c, .slice B m d] w (OutP (goodB a && goodB b) (fun v => twP true (In a v) (In b v)) 5000 w) := by
  cases h : (goodB a && goodB b)
  · exact (both_bad a b n m ha hb A B c d w hRa hRb (by omega) (by omega) h).mono fun _ _ => outP_no
  · rw [Bool.and_eq_true] at h
    exact (both_good a b n m ha hb A B c d w hA hB hRa hRb (by omega) (by omega) ((goodB_iff a).1 h.1) ((goodB_iff b).1 h.2)).mono fun _ _ q => outP_set q (by omega) fun v _ => by
      simp [twP]
theorem union_R {s : List Rg} {k : Nat} {ok : Bool} (hs : Sp (goodB a && goodB b) (fun v => twP false (In a v) (In b v)) s ok) (hk : s.length = k) : Calls Try.prog 15 #[.slice A n c, .slice B m d] w (OutR s k ok w) := by
  rcases hs with ⟨h1, rfl, hI⟩ | ⟨h1, rfl, rfl⟩
  · rw [Bool.and_eq_true] at h1
    exact (refUnion_good a b n m ha hb A B c d w hA.1 hB.1 hRa hRb hn hm ((goodB_iff a).1 h1.1) ((goodB_iff b).1 h1.2)).mono fun _ _ h => outR_set h hI hk
  · subst hk
    exact (refUnion_bad a b n m ha hb A B c d w hRa hRb hn hm h1).mono fun _ _ => outR_no
theorem both_R {s : List Rg} {k : Nat} {ok : Bool} (hs : Sp (goodB a && goodB b) (fun v => twP true (In a v) (In b v)) s ok) (hk : s.length = k) : Calls Try.prog 16 #[.slice A n c, .slice B m d] w (OutR s k ok w) := by
  rcases hs with ⟨h1, rfl, hI⟩ | ⟨h1, rfl, rfl⟩
  · rw [Bool.and_eq_true] at h1
    exact (refBoth_good a b n m ha hb A B c d w hA.1 hB.1 hRa hRb hn hm ((goodB_iff a).1 h1.1) ((goodB_iff b).1 h1.2)).mono fun _ _ h => outR_set h hI hk
  · subst hk
    exact (refBoth_bad a b n m ha hb A B c d w hRa hRb hn hm h1).mono fun _ _ => outR_no
end
end Go.Proofs.Ytehikcddnjibcaa
