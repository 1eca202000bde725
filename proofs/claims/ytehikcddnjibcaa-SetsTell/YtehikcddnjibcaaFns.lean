/- What the small functions of package sets return: mayBe, apart, the test of Has, compare. -/
import Derived.Test.YtehikcddnjibcaaOwn
import Derived.Shelf.SlSortCmp.QuietGrown
namespace Go.Proofs.Ytehikcddnjibcaa
open Go.RowKit
set_option linter.unusedVariables false
set_option linter.unusedSimpArgs false

theorem below_new (w : World) (o : Obj) : Below w.heap.size w (w.alloc o) := (Below.refl _ _).alloc (Nat.le_refl _) _

/-- A cell over a call that lays new memory, in a region that drew its order. -/
theorem held_cell {w w' : World} {a : Addr} {u : Value} (g : Below w.drew.heap.size w.drew w') (h : w.cell? a = some u) : w'.cell? a = some u :=
  (g.cell (p := a) (World.block_lt_of_cell? w a h)).trans h
theorem kept_cell {w w' : World} {a : Addr} {u : Value} (g : Below w.heap.size w w') (h : w.cell? a = some u) : w'.cell? a = some u :=
  (g.cell (p := a) (World.block_lt_of_cell? w a h)).trans h
theorem held_below {B : Nat} {v w w' : World} (h : Below B v w) (hB : B ≤ w.heap.size) (g : Below w.drew.heap.size w.drew w') : Below B v w' := (Below.drew h).trans (g.mono hB)

open Go.Sort in
/-- A call that laid new memory alone, as a world that has grown. -/
theorem grown_of_below {w w' : World} (h : Below w.heap.size w w') (hd : w.drawn ≤ w'.drawn) : ∃ q os, w' = grow (w.drewN q) os := by
  refine ⟨w'.drawn - w.drawn, w'.heap.extract w.heap.size w'.heap.size, ?_⟩
  have hheap : w'.heap = w.heap ++ w'.heap.extract w.heap.size w'.heap.size := by
    apply Array.ext_getElem?
    intro i
    by_cases hi : i < w.heap.size
    · rw [h.block i hi, Array.getElem?_append_left hi]
    · rw [Array.getElem?_append_right (by omega), Array.getElem?_extract]
      by_cases h2 : i < w'.heap.size
      · rw [if_pos (by omega)]
        congr 1
        omega
      · rw [if_neg (by omega), Array.getElem?_eq_none (by omega)]
  have hos := h.os
  have htp := h.tape
  have hout := h.output
  have hdr : w'.drawn = w.drawn + (w'.drawn - w.drawn) := by omega
  generalize w'.heap.extract w.heap.size w'.heap.size = ex at *
  generalize w'.drawn - w.drawn = dq at *
  cases w'
  cases w
  simp only at hheap hos htp hout hdr
  subst hheap hos htp hout hdr
  rfl
theorem mixedTry : Try.prog.follows .mixedOrders = true := by kernel_rfl
open Go.Sort in
theorem below_grown_of (w : World) (q : Nat) (os : Array Obj) : Below w.heap.size w (grow (w.drewN q) os) ∧ w.drawn ≤ (grow (w.drewN q) os).drawn :=
  ⟨⟨rfl, rfl, rfl, by show w.heap.size ≤ (w.heap ++ os).size; simp, fun k hk => by show (w.heap ++ os)[k]? = _; rw [Array.getElem?_append_left hk]⟩, Nat.le_add_right _ _⟩
theorem lay_of {f : Nat} {args : Array Value} {w : World} {v : Value} (h : Calls Try.prog f args w fun e w' => e = .returned v ∧ Below w.heap.size w w' ∧ w.drawn ≤ w'.drawn) :
    Calls Try.prog f args w fun e w' => e = .returned v ∧ ∃ q os, w' = Go.Sort.grow (w.drewN q) os :=
  h.mono fun _ _ ⟨he, hb, hd⟩ => ⟨he, grown_of_below hb hd⟩

theorem mayBe_any (x y : Int) (w : World) :
    Calls Try.prog 29 #[.agg #[.int .i64 x, .int .i64 y]] w fun e w' => e = .returned (.bool (mayB (x, y))) ∧ Below w.heap.size w w' ∧ w.drawn ≤ w'.drawn := by
  have hd : mayB (x, y) = (isB x && (isB y && decide (x ≤ y))) := rfl
  rw [hd]
  clear hd
  have h1 := fun W => is_any x W
  have h2 := fun W => is_any y W
  cases hx : isB x
  · rw [hx] at h1
    go_enter Try.func29, Try.ntmps29
    go_wp2_with (first | (go_at_call 40; go_must (refine (h1 _).mono ?_; rintro e w' ⟨rfl, rfl⟩)))
    go_ret
    exact ⟨rfl, below_new _ _, Nat.le_refl _⟩
  · cases hy : isB y
    · rw [hx] at h1
      rw [hy] at h2
      clear hx hy
      go_enter Try.func29, Try.ntmps29
      go_wp2_with fail
      refine (h1 _).mono ?_
      rintro e w' ⟨rfl, rfl⟩
      go_wp2_with fail
      refine (h2 _).mono ?_
      rintro e w' ⟨rfl, rfl⟩
      go_wp2_with fail
      go_ret
      exact ⟨rfl, below_new _ _, Nat.le_refl _⟩
    · rw [hx] at h1
      rw [hy] at h2
      clear hx hy
      by_cases hxy : x ≤ y
      · rw [decide_eq_true hxy]
        go_enter Try.func29, Try.ntmps29
        go_wp2_with fail
        refine (h1 _).mono ?_
        rintro e w' ⟨rfl, rfl⟩
        go_wp2_with fail
        refine (h2 _).mono ?_
        rintro e w' ⟨rfl, rfl⟩
        go_wp2_with fail
        go_ret
        exact ⟨rfl, below_new _ _, Nat.le_refl _⟩
      · go_enter Try.func29, Try.ntmps29
        go_wp2_with fail
        refine (h1 _).mono ?_
        rintro e w' ⟨rfl, rfl⟩
        go_wp2_with fail
        refine (h2 _).mono ?_
        rintro e w' ⟨rfl, rfl⟩
        go_wp2_with fail
        go_ret
        exact ⟨ret_bool (by simp), below_new _ _, Nat.le_refl _⟩

theorem apart_any (a b c d : Int) (w : World) :
    Calls Try.prog 38 #[.agg #[.int .i64 a, .int .i64 b], .agg #[.int .i64 c, .int .i64 d]] w fun e w' => e = .returned (.bool (apB (a, b) (c, d))) ∧ Below w.heap.size w w' ∧ w.drawn ≤ w'.drawn := by
  have hd : apB (a, b) (c, d) = (nextB b && decide (nextN b < c)) := rfl
  rw [hd]
  clear hd
  have h1 := fun W => next_any b W
  generalize nextB b = k at *
  generalize nextN b = n at *
  cases k
  · go_enter Try.func38, Try.ntmps38
    go_wp2_with fail
    refine (h1 _).mono ?_
    rintro e w' ⟨rfl, rfl⟩
    go_wp2_with fail
    go_ret
    exact ⟨rfl, (below_new _ _).alloc (by simp) _, Nat.le_refl _⟩
  · by_cases hn : n < c
    · rw [decide_eq_true hn]
      go_enter Try.func38, Try.ntmps38
      go_wp2_with fail
      refine (h1 _).mono ?_
      rintro e w' ⟨rfl, rfl⟩
      go_wp2_with fail
      go_ret
      exact ⟨rfl, (below_new _ _).alloc (by simp) _, Nat.le_refl _⟩
    · go_enter Try.func38, Try.ntmps38
      go_wp2_with fail
      refine (h1 _).mono ?_
      rintro e w' ⟨rfl, rfl⟩
      go_wp2_with fail
      go_ret
      exact ⟨ret_bool (by simp), (below_new _ _).alloc (by simp) _, Nat.le_refl _⟩

/-- The test of Has: the number lies in a box. -/
theorem test_any (x y v : Int) (B : Nat) (w : World) (hB : B < w.heap.size) (hc : w.cell? ⟨B, 0, none⟩ = some (.int .i64 v)) :
    Calls Try.prog 42 #[.agg #[.int .i64 x, .int .i64 y], .pointer (some ⟨B, 0, none⟩)] w fun e w' => e = .returned (.bool (decide (x ≤ v) && decide (v ≤ y))) ∧ Below w.heap.size w w' ∧ w.drawn ≤ w'.drawn := by
  by_cases h1 : x ≤ v
  · by_cases h2 : v ≤ y
    · rw [decide_eq_true h1, decide_eq_true h2]
      go_enter Try.func42, Try.ntmps42
      go_wp2_with fail
      go_ret
      exact ⟨rfl, below_new _ _, Nat.le_refl _⟩
    · rw [decide_eq_true h1, decide_eq_false h2]
      go_enter Try.func42, Try.ntmps42
      go_wp2_with fail
      go_ret
      exact ⟨rfl, below_new _ _, Nat.le_refl _⟩
  · rw [decide_eq_false h1]
    go_enter Try.func42, Try.ntmps42
    go_wp2_with fail
    go_ret
    exact ⟨rfl, below_new _ _, Nat.le_refl _⟩
end Go.Proofs.Ytehikcddnjibcaa
