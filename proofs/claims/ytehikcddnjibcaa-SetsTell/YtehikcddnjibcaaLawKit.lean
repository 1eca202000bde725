/- Words that the statements share. -/
import Derived.Test.YtehikcddnjibcaaWakes
namespace Go.Proofs.Ytehikcddnjibcaa
open Go.RowKit Go.BigFrame
set_option linter.unusedVariables false
set_option linter.unusedSimpArgs false

/-- A set of what p tells, of k ranges, in a new row. -/
def OutN (p : Int → Prop) (m : Nat) (w : World) (e : Ending) (w' : World) : Prop :=
  ∃ (s : List Rg) (k : Nat) (A : Option Addr) (c : Nat), e = .returned (.tuple #[.slice A k c, .bool true]) ∧ s.length = k ∧ k ≤ m ∧ Shp A k c ∧ IsSet s p ∧ Reads w' w'.heap.size 2 A k (rcells s) ∧ Below w.heap.size w w'
theorem outN_of {p : Int → Prop} {m : Nat} {w : World} {e : Ending} {w' : World} (h : OutSet p m w e w') : OutN p m w e w' := by
  obtain ⟨s, A, c, he, hs, hI, hm, hR, hb⟩ := h
  exact ⟨s, s.length, A, c, he, rfl, hm, hs, hI, hR, hb⟩
theorem union_N {a b : List Rg} {n m : Nat} (ha : a.length = n) (hb : b.length = m) {A B : Option Addr} {c d : Nat} {w : World} (hA : Shp A n c) (hB : Shp B m d)
    (hRa : Reads w w.heap.size 2 A n (rcells a)) (hRb : Reads w w.heap.size 2 B m (rcells b)) (hn : n ≤ 5000) (hm : m ≤ 5000) (ga : Gd (-1) a) (gb : Gd (-1) b) :
    Calls Try.prog 11 #[.slice A n c, .slice B m d] w (OutN (In (a ++ b)) (n + m) w) :=
  (union_good a b n m ha hb A B c d w hA.1 hB.1 hRa hRb hn hm ga gb).mono fun _ _ h => outN_of h
theorem both_N {a b : List Rg} {n m : Nat} (ha : a.length = n) (hb : b.length = m) {A B : Option Addr} {c d : Nat} {w : World} (hA : Shp A n c) (hB : Shp B m d)
    (hRa : Reads w w.heap.size 2 A n (rcells a)) (hRb : Reads w w.heap.size 2 B m (rcells b)) (hn : n ≤ 5000) (hm : m ≤ 5000) (ga : Gd (-1) a) (gb : Gd (-1) b) :
    Calls Try.prog 12 #[.slice A n c, .slice B m d] w (OutN (fun v => In a v ∧ In b v) (n + m) w) :=
  (both_good a b n m ha hb A B c d w hA hB hRa hRb hn hm ga gb).mono fun _ _ h => outN_of h
theorem not_N {l : List Rg} {n : Nat} (hl : l.length = n) {A : Option Addr} {c : Nat} {w : World} (hR : Reads w w.heap.size 2 A n (rcells l)) (hn : n ≤ 5000) (hg : Gd (-1) l) :
    Calls Try.prog 13 #[.slice A n c] w (OutN (fun v => ¬ In l v) (n + 1) w) :=
  (not_good l n hl A c w hR hn hg).mono fun _ _ h => outN_of h
theorem of_N {l : List Rg} {n : Nat} (hl : l.length = n) {A : Option Addr} {c : Nat} {w : World} (hnil : Shp A n c) (hR : Reads w w.heap.size 2 A n (rcells l)) (hn : n ≤ 10000) (hok : allOk l = true) :
    Calls Try.prog 10 #[.slice A n c] w (OutN (In l) n w) :=
  (of_good l n hl A c w hnil.1 hR hn hok).mono fun _ _ h => outN_of h
theorem same_yes {P Q : List Rg} {n m : Nat} (lP : P.length = n) (lQ : Q.length = m) {A B : Option Addr} {c d : Nat} {w : World} (hP : Reads w w.heap.size 2 A n (rcells P)) (hQ : Reads w w.heap.size 2 B m (rcells Q)) (hn : n ≤ 1048576) (h : P = Q) :
    Calls Try.prog 24 #[.slice A n c, .slice B m d] w fun e w' => e = .returned (.bool true) ∧ Below w.heap.size w w' := by
  have := same_n P Q n m lP lQ A B c d w hP hQ hn
  rwa [show eqL P Q = true from decide_eq_true h] at this
theorem good_yes {l : List Rg} {n : Nat} (hl : l.length = n) {A : Option Addr} {c : Nat} {w : World} (hR : Reads w w.heap.size 2 A n (rcells l)) (hn : n ≤ 1000000) (hg : Gd (-1) l) :
    Calls Try.prog 18 #[.slice A n c] w fun e w' => e = .returned (.bool true) ∧ Below w.heap.size w w' := by
  have := good_n n l hl A c w hR hn
  rwa [(goodB_iff l).2 hg] at this
theorem refGood_yes {l : List Rg} {n : Nat} (hl : l.length = n) {A : Option Addr} {c : Nat} {w : World} (hR : Reads w w.heap.size 2 A n (rcells l)) (hn : n ≤ 1000000) (hg : Gd (-1) l) :
    Calls Try.prog 19 #[.slice A n c] w fun e w' => e = .returned (.bool true) ∧ Below w.heap.size w w' := by
  have := refGood_n n l hl A c w hR hn
  rwa [(goodB_iff l).2 hg] at this
theorem refGood_no {l : List Rg} {n : Nat} (hl : l.length = n) {A : Option Addr} {c : Nat} {w : World} (hR : Reads w w.heap.size 2 A n (rcells l)) (hn : n ≤ 1000000) (hg : goodB l = false) :
    Calls Try.prog 19 #[.slice A n c] w fun e w' => e = .returned (.bool false) ∧ Below w.heap.size w w' := by
  have := refGood_n n l hl A c w hR hn
  rwa [hg] at this
theorem reads_nil (w : World) : Reads w w.heap.size 2 none 0 (rcells []) := ⟨rfl, fun h => absurd h (by omega)⟩
theorem shp_nil : Shp none 0 0 := ⟨fun _ => rfl, Nat.le_refl _, Nat.zero_le _⟩

def largeB (n m : Nat) : Bool := decide ((60 : Int) < (n : Int)) || decide ((60 : Int) < (m : Int))
theorem large_n (A B : Option Addr) (n m c d : Nat) (w : World) :
    Calls Try.prog 8 #[.slice A n c, .slice B m d] w fun e w' => e = .returned (.bool (largeB n m)) ∧ w = w' := by
  by_cases h1 : 60 < n
  · have e : largeB n m = true := by unfold largeB; rw [decide_eq_true (by omega)]; rfl
    rw [e]
    clear e
    go_enter Try.func8, Try.ntmps8
    go_wp2_with fail
    go_ret
    exact ⟨rfl, rfl⟩
  · have e : largeB n m = decide ((60 : Int) < (m : Int)) := by unfold largeB; rw [decide_eq_false (by omega)]; rfl
    rw [e]
    clear e
    go_enter Try.func8, Try.ntmps8
    go_wp2_with fail
    go_ret
    refine ⟨ret_bool ?_, rfl⟩
    first
      | rfl
      | (rw [decide_eq_false (show ¬ (60 : Int) < (n : Int) by omega)]; rfl)
theorem large_yes (A B : Option Addr) (n m c d : Nat) (w : World) (h : 60 < n ∨ 60 < m) :
    Calls Try.prog 8 #[.slice A n c, .slice B m d] w fun e w' => e = .returned (.bool true) ∧ w = w' := by
  have := large_n A B n m c d w
  rwa [show largeB n m = true by unfold largeB; simp; omega] at this
theorem large_no (A B : Option Addr) (n m c d : Nat) (w : World) (h1 : n ≤ 60) (h2 : m ≤ 60) :
    Calls Try.prog 8 #[.slice A n c, .slice B m d] w fun e w' => e = .returned (.bool false) ∧ w = w' := by
  have := large_n A B n m c d w
  rwa [show largeB n m = false by unfold largeB; simp; omega] at this
end Go.Proofs.Ytehikcddnjibcaa
