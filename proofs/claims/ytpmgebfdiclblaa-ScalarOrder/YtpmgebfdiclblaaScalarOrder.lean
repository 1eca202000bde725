/- The law ScalarOrder returns true at every pair of 64-bit integers: Next and Prev keep the order, and end at the first and the last scalar. Conditions: none beyond the row's own; nothing that was there before the call is changed. -/
import Derived.Test.YtpmgebfdiclblaaRows
import Derived.WalkKit
import Derived.ProofKit
import Derived.OpenShut
import Derived.Test.YtpmgebfdiclblaaRefs
namespace Go.Proofs.Ytpmgebfdiclblaa.scalarOrder
open Go.ChangeShapes Go.WideShapes Go.ChangeAt Go.RowKit
set_option linter.unusedVariables false

theorem own : ownKnob Try.prog.godebug = none := by kernel_rfl

theorem next_mono (x y : Int) (h : x ≤ y) (k : y < 1114111) : nextN x ≤ nextN y := by
  unfold nextN; split <;> (try split) <;> (try split) <;> (try split) <;> omega
theorem prev_mono (x y : Int) (h : x ≤ y) (k : 0 < x) : prevN x ≤ prevN y := by
  unfold prevN
  rw [if_neg (by omega), if_neg (show ¬ y ≤ 0 by omega)]
  split <;> (try split) <;> (try split) <;> (try split) <;> omega

theorem walk_lt (x y : Int) (h : x < y) (w : World) :
    Calls Try.prog 6 #[.int .i64 x, .int .i64 y] w fun e w' => e = .returned (.bool true) ∧ Grown w w' := by
  by_cases c1 : x < 1114111 <;> by_cases c2 : y < 1114111 <;> by_cases c3 : 0 < x <;> by_cases c4 : 0 < y
  · have f0 : nextB x = true := decide_eq_true (by omega)
    have f1 : prevB x = true := decide_eq_true (by omega)
    have f2 : nextB y = true := decide_eq_true (by omega)
    have f3 : prevB y = true := decide_eq_true (by omega)
    have m1 := next_mono x y (by omega) (by omega)
    have m2 := prev_mono x y (by omega) (by omega)
    have d1 : decide (x < 1114111) = true := decide_eq_true (by omega)
    have d2 : decide (0 < y) = true := decide_eq_true (by omega)
    have e1 : prevB 0 = false := by decide
    have e2 : nextB 1114111 = false := by decide
    go_enter Try.func6, Try.ntmps6
    go_wp2_with (first
      | (go_at_call 8; go_must (refine (next_any _ _).mono ?_; rintro e w' ⟨rfl, rfl⟩))
      | (go_at_call 9; go_must (refine (prev_any _ _).mono ?_; rintro e w' ⟨rfl, rfl⟩))
      | (go_at_call 10; go_must (refine (index_any _ _).mono ?_; rintro e w' ⟨rfl, rfl⟩))
      | (go_at_call 15; go_must (refine (is_any _ _).mono ?_; rintro e w' ⟨rfl, rfl⟩))
      | (go_at_call 16; go_must (refine (count_any _ _ _).mono ?_; rintro e w' ⟨rfl, rfl⟩))
      | (go_at_call 18; go_must (refine (wakes_any _).mono ?_; rintro e w' ⟨rfl, rfl⟩)))
    go_ret
    exact ⟨rfl, Grown.refl _⟩
  · exfalso; omega
  · have f0 : nextB x = true := decide_eq_true (by omega)
    have f1 : prevB x = false := decide_eq_false (by omega)
    have f2 : nextB y = true := decide_eq_true (by omega)
    have f3 : prevB y = true := decide_eq_true (by omega)
    have m1 := next_mono x y (by omega) (by omega)
    have d1 : decide (x < 1114111) = true := decide_eq_true (by omega)
    have d2 : decide (0 < y) = true := decide_eq_true (by omega)
    have e1 : prevB 0 = false := by decide
    have e2 : nextB 1114111 = false := by decide
    go_enter Try.func6, Try.ntmps6
    go_wp2_with (first
      | (go_at_call 8; go_must (refine (next_any _ _).mono ?_; rintro e w' ⟨rfl, rfl⟩))
      | (go_at_call 9; go_must (refine (prev_any _ _).mono ?_; rintro e w' ⟨rfl, rfl⟩))
      | (go_at_call 10; go_must (refine (index_any _ _).mono ?_; rintro e w' ⟨rfl, rfl⟩))
      | (go_at_call 15; go_must (refine (is_any _ _).mono ?_; rintro e w' ⟨rfl, rfl⟩))
      | (go_at_call 16; go_must (refine (count_any _ _ _).mono ?_; rintro e w' ⟨rfl, rfl⟩))
      | (go_at_call 18; go_must (refine (wakes_any _).mono ?_; rintro e w' ⟨rfl, rfl⟩)))
    go_ret
    exact ⟨rfl, Grown.refl _⟩
  · have f0 : nextB x = true := decide_eq_true (by omega)
    have f1 : prevB x = false := decide_eq_false (by omega)
    have f2 : nextB y = true := decide_eq_true (by omega)
    have f3 : prevB y = false := decide_eq_false (by omega)
    have m1 := next_mono x y (by omega) (by omega)
    have d1 : decide (x < 1114111) = true := decide_eq_true (by omega)
    have d2 : decide (0 < y) = false := decide_eq_false (by omega)
    have e1 : prevB 0 = false := by decide
    have e2 : nextB 1114111 = false := by decide
    go_enter Try.func6, Try.ntmps6
    go_wp2_with (first
      | (go_at_call 8; go_must (refine (next_any _ _).mono ?_; rintro e w' ⟨rfl, rfl⟩))
      | (go_at_call 9; go_must (refine (prev_any _ _).mono ?_; rintro e w' ⟨rfl, rfl⟩))
      | (go_at_call 10; go_must (refine (index_any _ _).mono ?_; rintro e w' ⟨rfl, rfl⟩))
      | (go_at_call 15; go_must (refine (is_any _ _).mono ?_; rintro e w' ⟨rfl, rfl⟩))
      | (go_at_call 16; go_must (refine (count_any _ _ _).mono ?_; rintro e w' ⟨rfl, rfl⟩))
      | (go_at_call 18; go_must (refine (wakes_any _).mono ?_; rintro e w' ⟨rfl, rfl⟩)))
    go_ret
    exact ⟨rfl, Grown.refl _⟩
  · have f0 : nextB x = true := decide_eq_true (by omega)
    have f1 : prevB x = true := decide_eq_true (by omega)
    have f2 : nextB y = false := decide_eq_false (by omega)
    have f3 : prevB y = true := decide_eq_true (by omega)
    have m2 := prev_mono x y (by omega) (by omega)
    have d1 : decide (x < 1114111) = true := decide_eq_true (by omega)
    have d2 : decide (0 < y) = true := decide_eq_true (by omega)
    have e1 : prevB 0 = false := by decide
    have e2 : nextB 1114111 = false := by decide
    go_enter Try.func6, Try.ntmps6
    go_wp2_with (first
      | (go_at_call 8; go_must (refine (next_any _ _).mono ?_; rintro e w' ⟨rfl, rfl⟩))
      | (go_at_call 9; go_must (refine (prev_any _ _).mono ?_; rintro e w' ⟨rfl, rfl⟩))
      | (go_at_call 10; go_must (refine (index_any _ _).mono ?_; rintro e w' ⟨rfl, rfl⟩))
      | (go_at_call 15; go_must (refine (is_any _ _).mono ?_; rintro e w' ⟨rfl, rfl⟩))
      | (go_at_call 16; go_must (refine (count_any _ _ _).mono ?_; rintro e w' ⟨rfl, rfl⟩))
      | (go_at_call 18; go_must (refine (wakes_any _).mono ?_; rintro e w' ⟨rfl, rfl⟩)))
    go_ret
    exact ⟨rfl, Grown.refl _⟩
  · exfalso; omega
  · have f0 : nextB x = true := decide_eq_true (by omega)
    have f1 : prevB x = false := decide_eq_false (by omega)
    have f2 : nextB y = false := decide_eq_false (by omega)
    have f3 : prevB y = true := decide_eq_true (by omega)
    have d1 : decide (x < 1114111) = true := decide_eq_true (by omega)
    have d2 : decide (0 < y) = true := decide_eq_true (by omega)
    have e1 : prevB 0 = false := by decide
    have e2 : nextB 1114111 = false := by decide
    go_enter Try.func6, Try.ntmps6
    go_wp2_with (first
      | (go_at_call 8; go_must (refine (next_any _ _).mono ?_; rintro e w' ⟨rfl, rfl⟩))
      | (go_at_call 9; go_must (refine (prev_any _ _).mono ?_; rintro e w' ⟨rfl, rfl⟩))
      | (go_at_call 10; go_must (refine (index_any _ _).mono ?_; rintro e w' ⟨rfl, rfl⟩))
      | (go_at_call 15; go_must (refine (is_any _ _).mono ?_; rintro e w' ⟨rfl, rfl⟩))
      | (go_at_call 16; go_must (refine (count_any _ _ _).mono ?_; rintro e w' ⟨rfl, rfl⟩))
      | (go_at_call 18; go_must (refine (wakes_any _).mono ?_; rintro e w' ⟨rfl, rfl⟩)))
    go_ret
    exact ⟨rfl, Grown.refl _⟩
  · exfalso; omega
  · exfalso; omega
  · exfalso; omega
  · exfalso; omega
  · exfalso; omega
  · have f0 : nextB x = false := decide_eq_false (by omega)
    have f1 : prevB x = true := decide_eq_true (by omega)
    have f2 : nextB y = false := decide_eq_false (by omega)
    have f3 : prevB y = true := decide_eq_true (by omega)
    have m2 := prev_mono x y (by omega) (by omega)
    have d1 : decide (x < 1114111) = false := decide_eq_false (by omega)
    have d2 : decide (0 < y) = true := decide_eq_true (by omega)
    have e1 : prevB 0 = false := by decide
    have e2 : nextB 1114111 = false := by decide
    go_enter Try.func6, Try.ntmps6
    go_wp2_with (first
      | (go_at_call 8; go_must (refine (next_any _ _).mono ?_; rintro e w' ⟨rfl, rfl⟩))
      | (go_at_call 9; go_must (refine (prev_any _ _).mono ?_; rintro e w' ⟨rfl, rfl⟩))
      | (go_at_call 10; go_must (refine (index_any _ _).mono ?_; rintro e w' ⟨rfl, rfl⟩))
      | (go_at_call 15; go_must (refine (is_any _ _).mono ?_; rintro e w' ⟨rfl, rfl⟩))
      | (go_at_call 16; go_must (refine (count_any _ _ _).mono ?_; rintro e w' ⟨rfl, rfl⟩))
      | (go_at_call 18; go_must (refine (wakes_any _).mono ?_; rintro e w' ⟨rfl, rfl⟩)))
    go_ret
    exact ⟨rfl, Grown.refl _⟩
  · exfalso; omega
  · exfalso; omega
  · exfalso; omega

theorem walk_gt (x y : Int) (h : x < y) (w : World) :
    Calls Try.prog 6 #[.int .i64 y, .int .i64 x] w fun e w' => e = .returned (.bool true) ∧ Grown w w' := by
  by_cases c1 : x < 1114111 <;> by_cases c2 : y < 1114111 <;> by_cases c3 : 0 < x <;> by_cases c4 : 0 < y
  · have f0 : nextB x = true := decide_eq_true (by omega)
    have f1 : prevB x = true := decide_eq_true (by omega)
    have f2 : nextB y = true := decide_eq_true (by omega)
    have f3 : prevB y = true := decide_eq_true (by omega)
    have m1 := next_mono x y (by omega) (by omega)
    have m2 := prev_mono x y (by omega) (by omega)
    have d1 : decide (x < 1114111) = true := decide_eq_true (by omega)
    have d2 : decide (0 < y) = true := decide_eq_true (by omega)
    have e1 : prevB 0 = false := by decide
    have e2 : nextB 1114111 = false := by decide
    go_enter Try.func6, Try.ntmps6
    go_wp2_with (first
      | (go_at_call 8; go_must (refine (next_any _ _).mono ?_; rintro e w' ⟨rfl, rfl⟩))
      | (go_at_call 9; go_must (refine (prev_any _ _).mono ?_; rintro e w' ⟨rfl, rfl⟩))
      | (go_at_call 10; go_must (refine (index_any _ _).mono ?_; rintro e w' ⟨rfl, rfl⟩))
      | (go_at_call 15; go_must (refine (is_any _ _).mono ?_; rintro e w' ⟨rfl, rfl⟩))
      | (go_at_call 16; go_must (refine (count_any _ _ _).mono ?_; rintro e w' ⟨rfl, rfl⟩))
      | (go_at_call 18; go_must (refine (wakes_any _).mono ?_; rintro e w' ⟨rfl, rfl⟩)))
    go_ret
    exact ⟨rfl, Grown.refl _⟩
  · exfalso; omega
  · have f0 : nextB x = true := decide_eq_true (by omega)
    have f1 : prevB x = false := decide_eq_false (by omega)
    have f2 : nextB y = true := decide_eq_true (by omega)
    have f3 : prevB y = true := decide_eq_true (by omega)
    have m1 := next_mono x y (by omega) (by omega)
    have d1 : decide (x < 1114111) = true := decide_eq_true (by omega)
    have d2 : decide (0 < y) = true := decide_eq_true (by omega)
    have e1 : prevB 0 = false := by decide
    have e2 : nextB 1114111 = false := by decide
    go_enter Try.func6, Try.ntmps6
    go_wp2_with (first
      | (go_at_call 8; go_must (refine (next_any _ _).mono ?_; rintro e w' ⟨rfl, rfl⟩))
      | (go_at_call 9; go_must (refine (prev_any _ _).mono ?_; rintro e w' ⟨rfl, rfl⟩))
      | (go_at_call 10; go_must (refine (index_any _ _).mono ?_; rintro e w' ⟨rfl, rfl⟩))
      | (go_at_call 15; go_must (refine (is_any _ _).mono ?_; rintro e w' ⟨rfl, rfl⟩))
      | (go_at_call 16; go_must (refine (count_any _ _ _).mono ?_; rintro e w' ⟨rfl, rfl⟩))
      | (go_at_call 18; go_must (refine (wakes_any _).mono ?_; rintro e w' ⟨rfl, rfl⟩)))
    go_ret
    exact ⟨rfl, Grown.refl _⟩
  · have f0 : nextB x = true := decide_eq_true (by omega)
    have f1 : prevB x = false := decide_eq_false (by omega)
    have f2 : nextB y = true := decide_eq_true (by omega)
    have f3 : prevB y = false := decide_eq_false (by omega)
    have m1 := next_mono x y (by omega) (by omega)
    have d1 : decide (x < 1114111) = true := decide_eq_true (by omega)
    have d2 : decide (0 < y) = false := decide_eq_false (by omega)
    have e1 : prevB 0 = false := by decide
    have e2 : nextB 1114111 = false := by decide
    go_enter Try.func6, Try.ntmps6
    go_wp2_with (first
      | (go_at_call 8; go_must (refine (next_any _ _).mono ?_; rintro e w' ⟨rfl, rfl⟩))
      | (go_at_call 9; go_must (refine (prev_any _ _).mono ?_; rintro e w' ⟨rfl, rfl⟩))
      | (go_at_call 10; go_must (refine (index_any _ _).mono ?_; rintro e w' ⟨rfl, rfl⟩))
      | (go_at_call 15; go_must (refine (is_any _ _).mono ?_; rintro e w' ⟨rfl, rfl⟩))
      | (go_at_call 16; go_must (refine (count_any _ _ _).mono ?_; rintro e w' ⟨rfl, rfl⟩))
      | (go_at_call 18; go_must (refine (wakes_any _).mono ?_; rintro e w' ⟨rfl, rfl⟩)))
    go_ret
    exact ⟨rfl, Grown.refl _⟩
  · have f0 : nextB x = true := decide_eq_true (by omega)
    have f1 : prevB x = true := decide_eq_true (by omega)
    have f2 : nextB y = false := decide_eq_false (by omega)
    have f3 : prevB y = true := decide_eq_true (by omega)
    have m2 := prev_mono x y (by omega) (by omega)
    have d1 : decide (x < 1114111) = true := decide_eq_true (by omega)
    have d2 : decide (0 < y) = true := decide_eq_true (by omega)
    have e1 : prevB 0 = false := by decide
    have e2 : nextB 1114111 = false := by decide
    go_enter Try.func6, Try.ntmps6
    go_wp2_with (first
      | (go_at_call 8; go_must (refine (next_any _ _).mono ?_; rintro e w' ⟨rfl, rfl⟩))
      | (go_at_call 9; go_must (refine (prev_any _ _).mono ?_; rintro e w' ⟨rfl, rfl⟩))
      | (go_at_call 10; go_must (refine (index_any _ _).mono ?_; rintro e w' ⟨rfl, rfl⟩))
      | (go_at_call 15; go_must (refine (is_any _ _).mono ?_; rintro e w' ⟨rfl, rfl⟩))
      | (go_at_call 16; go_must (refine (count_any _ _ _).mono ?_; rintro e w' ⟨rfl, rfl⟩))
      | (go_at_call 18; go_must (refine (wakes_any _).mono ?_; rintro e w' ⟨rfl, rfl⟩)))
    go_ret
    exact ⟨rfl, Grown.refl _⟩
  · exfalso; omega
  · have f0 : nextB x = true := decide_eq_true (by omega)
    have f1 : prevB x = false := decide_eq_false (by omega)
    have f2 : nextB y = false := decide_eq_false (by omega)
    have f3 : prevB y = true := decide_eq_true (by omega)
    have d1 : decide (x < 1114111) = true := decide_eq_true (by omega)
    have d2 : decide (0 < y) = true := decide_eq_true (by omega)
    have e1 : prevB 0 = false := by decide
    have e2 : nextB 1114111 = false := by decide
    go_enter Try.func6, Try.ntmps6
    go_wp2_with (first
      | (go_at_call 8; go_must (refine (next_any _ _).mono ?_; rintro e w' ⟨rfl, rfl⟩))
      | (go_at_call 9; go_must (refine (prev_any _ _).mono ?_; rintro e w' ⟨rfl, rfl⟩))
      | (go_at_call 10; go_must (refine (index_any _ _).mono ?_; rintro e w' ⟨rfl, rfl⟩))
      | (go_at_call 15; go_must (refine (is_any _ _).mono ?_; rintro e w' ⟨rfl, rfl⟩))
      | (go_at_call 16; go_must (refine (count_any _ _ _).mono ?_; rintro e w' ⟨rfl, rfl⟩))
      | (go_at_call 18; go_must (refine (wakes_any _).mono ?_; rintro e w' ⟨rfl, rfl⟩)))
    go_ret
    exact ⟨rfl, Grown.refl _⟩
  · exfalso; omega
  · exfalso; omega
  · exfalso; omega
  · exfalso; omega
  · exfalso; omega
  · have f0 : nextB x = false := decide_eq_false (by omega)
    have f1 : prevB x = true := decide_eq_true (by omega)
    have f2 : nextB y = false := decide_eq_false (by omega)
    have f3 : prevB y = true := decide_eq_true (by omega)
    have m2 := prev_mono x y (by omega) (by omega)
    have d1 : decide (x < 1114111) = false := decide_eq_false (by omega)
    have d2 : decide (0 < y) = true := decide_eq_true (by omega)
    have e1 : prevB 0 = false := by decide
    have e2 : nextB 1114111 = false := by decide
    go_enter Try.func6, Try.ntmps6
    go_wp2_with (first
      | (go_at_call 8; go_must (refine (next_any _ _).mono ?_; rintro e w' ⟨rfl, rfl⟩))
      | (go_at_call 9; go_must (refine (prev_any _ _).mono ?_; rintro e w' ⟨rfl, rfl⟩))
      | (go_at_call 10; go_must (refine (index_any _ _).mono ?_; rintro e w' ⟨rfl, rfl⟩))
      | (go_at_call 15; go_must (refine (is_any _ _).mono ?_; rintro e w' ⟨rfl, rfl⟩))
      | (go_at_call 16; go_must (refine (count_any _ _ _).mono ?_; rintro e w' ⟨rfl, rfl⟩))
      | (go_at_call 18; go_must (refine (wakes_any _).mono ?_; rintro e w' ⟨rfl, rfl⟩)))
    go_ret
    exact ⟨rfl, Grown.refl _⟩
  · exfalso; omega
  · exfalso; omega
  · exfalso; omega

theorem walk_eq (x : Int) (w : World) :
    Calls Try.prog 6 #[.int .i64 x, .int .i64 x] w fun e w' => e = .returned (.bool true) ∧ Grown w w' := by
  by_cases c1 : x < 1114111 <;> by_cases c3 : 0 < x
  · have f0 : nextB x = true := decide_eq_true (by omega)
    have f1 : prevB x = true := decide_eq_true (by omega)
    have d1 : decide (x < 1114111) = true := decide_eq_true (by omega)
    have d2 : decide (0 < x) = true := decide_eq_true (by omega)
    have e1 : prevB 0 = false := by decide
    have e2 : nextB 1114111 = false := by decide
    go_enter Try.func6, Try.ntmps6
    go_wp2_with (first
      | (go_at_call 8; go_must (refine (next_any _ _).mono ?_; rintro e w' ⟨rfl, rfl⟩))
      | (go_at_call 9; go_must (refine (prev_any _ _).mono ?_; rintro e w' ⟨rfl, rfl⟩))
      | (go_at_call 10; go_must (refine (index_any _ _).mono ?_; rintro e w' ⟨rfl, rfl⟩))
      | (go_at_call 15; go_must (refine (is_any _ _).mono ?_; rintro e w' ⟨rfl, rfl⟩))
      | (go_at_call 16; go_must (refine (count_any _ _ _).mono ?_; rintro e w' ⟨rfl, rfl⟩))
      | (go_at_call 18; go_must (refine (wakes_any _).mono ?_; rintro e w' ⟨rfl, rfl⟩)))
    go_ret
    exact ⟨rfl, Grown.refl _⟩
  · have f0 : nextB x = true := decide_eq_true (by omega)
    have f1 : prevB x = false := decide_eq_false (by omega)
    have d1 : decide (x < 1114111) = true := decide_eq_true (by omega)
    have d2 : decide (0 < x) = false := decide_eq_false (by omega)
    have e1 : prevB 0 = false := by decide
    have e2 : nextB 1114111 = false := by decide
    go_enter Try.func6, Try.ntmps6
    go_wp2_with (first
      | (go_at_call 8; go_must (refine (next_any _ _).mono ?_; rintro e w' ⟨rfl, rfl⟩))
      | (go_at_call 9; go_must (refine (prev_any _ _).mono ?_; rintro e w' ⟨rfl, rfl⟩))
      | (go_at_call 10; go_must (refine (index_any _ _).mono ?_; rintro e w' ⟨rfl, rfl⟩))
      | (go_at_call 15; go_must (refine (is_any _ _).mono ?_; rintro e w' ⟨rfl, rfl⟩))
      | (go_at_call 16; go_must (refine (count_any _ _ _).mono ?_; rintro e w' ⟨rfl, rfl⟩))
      | (go_at_call 18; go_must (refine (wakes_any _).mono ?_; rintro e w' ⟨rfl, rfl⟩)))
    go_ret
    exact ⟨rfl, Grown.refl _⟩
  · have f0 : nextB x = false := decide_eq_false (by omega)
    have f1 : prevB x = true := decide_eq_true (by omega)
    have d1 : decide (x < 1114111) = false := decide_eq_false (by omega)
    have d2 : decide (0 < x) = true := decide_eq_true (by omega)
    have e1 : prevB 0 = false := by decide
    have e2 : nextB 1114111 = false := by decide
    go_enter Try.func6, Try.ntmps6
    go_wp2_with (first
      | (go_at_call 8; go_must (refine (next_any _ _).mono ?_; rintro e w' ⟨rfl, rfl⟩))
      | (go_at_call 9; go_must (refine (prev_any _ _).mono ?_; rintro e w' ⟨rfl, rfl⟩))
      | (go_at_call 10; go_must (refine (index_any _ _).mono ?_; rintro e w' ⟨rfl, rfl⟩))
      | (go_at_call 15; go_must (refine (is_any _ _).mono ?_; rintro e w' ⟨rfl, rfl⟩))
      | (go_at_call 16; go_must (refine (count_any _ _ _).mono ?_; rintro e w' ⟨rfl, rfl⟩))
      | (go_at_call 18; go_must (refine (wakes_any _).mono ?_; rintro e w' ⟨rfl, rfl⟩)))
    go_ret
    exact ⟨rfl, Grown.refl _⟩
  · exfalso; omega

/-! The walk: the law returns true, and the world has at most new blocks. -/
theorem walk (a0 : Int) (a1 : Int) (w0 : (Lit.int .i64 a0).wf = true) (w1 : (Lit.int .i64 a1).wf = true) (w : World) :
    Calls Try.prog 6 #[.int .i64 a0, .int .i64 a1] w fun e w' => e = .returned (.bool true) ∧ Grown w w' := by
  rcases Int.lt_trichotomy a0 a1 with p | p | p
  · exact walk_lt a0 a1 p w
  · subst p; exact walk_eq a0 w
  · exact walk_gt a1 a0 p w

/-! From the walk to the row. -/
set_option maxRecDepth 100000 in
theorem lifted (os : Os) (started : os.Started) (H : Type) (enc : TypeId × Value → H) :
    ReturnsInHanded {} Try.checked os 6 .any (Rows.scalarOrderSpec.pre6 enc Try.prog Try.f6 Rows.scalarOrderRow.domain false) (Rows.scalarOrderSpec.post enc Try.prog Try.f6 false true false false) := by
  refine returnsInHanded_of_change (C := Try.checked) own started (by kernel_rfl) Try.func6
    (ChangeSpec.witness6 (enc := enc) (C := Try.checked) false ⟨#[], #[.int .i64 0, .int .i64 0], []⟩ 8 (by kernel_rfl) (by kernel_rfl) (by kernel_rfl) (by kernel_rfl)) ?_
  intro W base args ds gs before hval0 hW hcnd _
  have hval : ∀ (j : Nat) t v, Try.f6.params[j]? = some t → args[j]? = some v → Value.okWide Try.prog W .any base t v := hval0
  have hW' := hW
  obtain ⟨p, q, hA0, hV, rfl, hfz, hnd⟩ := hW
  have hA : DataW.TrodAll enc Try.prog W 0 (fun _ => true) true Try.f6.params.toList args.toList ds p := hA0
  rw [Try.params6] at hA hval
  obtain ⟨v0, vs0, d0, ds0, p0, q0, hargs, rfl, rfl, h0, r0⟩ := trodAll_cons hA
  obtain ⟨v1, vs1, d1, ds1, p1, q1, rfl, rfl, rfl, h1, r1⟩ := trodAll_cons r0
  obtain ⟨rfl, rfl, rfl⟩ := trodAll_nil r1
  obtain rfl : args = #[v0, v1] := by cases args; simp_all
  obtain ⟨rfl, rfl⟩ := trodVars_none hV
  obtain ⟨a0, rfl, rfl, rfl, w0⟩ := open_int Try.underlying3 (hval 0 3 v0 rfl rfl) h0
  obtain ⟨a1, rfl, rfl, rfl, w1⟩ := open_int Try.underlying3 (hval 1 3 v1 rfl rfl) h1
  clear hA0 hval0
  simp only [List.append_nil] at hW'
  refine (walk a0 a1 w0 w1 W).mono fun e W' ⟨he, hg⟩ => ?_
  subst he
  exact ⟨_, rfl, post_of_same (pa := []) (pv := []) hW' (fun _ _ _ => (trodAll_cons_mk (shut_bool Try.underlying4 _) trodAll_mk0)) (fun sp _ => (trodAll_cons_mk (shut_int Try.underlying3 w0) (trodAll_cons_mk (shut_int Try.underlying3 w1) trodAll_mk0))) (fun _ _ => rfl) rfl
    (hg.frame _) hg.2.1 (ok_one (by kernel_rfl) rfl (okWide_bool_mk Try.underlying4 _))⟩

theorem over : Rows.scalarOrderRow.holds Try.pinned (OpenSpec.ofChange Rows.scalarOrderSpec) :=
  OpenClaim.holds_of_wide 6 Try.f6 rfl rfl rfl rfl rfl rfl rfl ⟨rfl, rfl, rfl, rfl, rfl⟩ rfl rfl rfl rfl rfl (by kernel_rfl) Try.func6 (by kernel_rfl)
    (of_decide_eq_true (by kernel_rfl)) (by unfold Func.isWrapper; first | (rw [if_pos (by decide +kernel)]; kernel_rfl) | (rw [if_neg (by decide +kernel)]; exact ⟨rfl, rfl⟩))
    (fun os started H enc _ => lifted os started H enc)

/-- The given statement. -/
theorem proved : Rows.ScalarOrderSaid :=
  over
end Go.Proofs.Ytpmgebfdiclblaa.scalarOrder

namespace Go.Proofs.Ytpmgebfdiclblaa
/-- The given statement, under a short name. -/
theorem scalarOrder_holds : Rows.ScalarOrderSaid := scalarOrder.proved
#print axioms scalarOrder_holds
end Go.Proofs.Ytpmgebfdiclblaa
