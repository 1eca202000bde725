/- The law ScalarCounts returns true at every triple of 64-bit integers: what is counted up to a number and from it on is what is counted in all. Conditions: none beyond the row's own; nothing that was there before the call is changed. -/
import Derived.Test.YtpmgebfdiclblaaRows
import Derived.WalkKit
import Derived.ProofKit
import Derived.OpenShut
import Derived.Laws.Cover1
import Derived.Test.YtpmgebfdiclblaaRefs
namespace Go.Proofs.Ytpmgebfdiclblaa.scalarCounts
open Go.ChangeShapes Go.WideShapes Go.ChangeAt Go.RowKit
set_option linter.unusedVariables false

theorem own : ownKnob Try.prog.godebug = none := by kernel_rfl

theorem count_G (x y : Int) (h : x ≤ y) : countN x y = refBelowN (y + 1) - refBelowN x := by
  unfold countN refBelowN
  by_cases c1 : y < 0
  · rw [if_pos (by omega), show max 0 (min (y + 1) 1114112) = 0 by omega, show max 0 (min x 1114112) = 0 by omega]; omega
  · by_cases c2 : 1114111 < x
    · rw [if_pos (by omega), show max 0 (min (y + 1) 1114112) = 1114112 by omega, show max 0 (min x 1114112) = 1114112 by omega]; omega
    · rw [if_neg (by omega), show max 0 (min (y + 1) 1114112) = min y 1114111 + 1 by omega, show max 0 (min x 1114112) = max x 0 by omega]
theorem G_yes (y : Int) (h : isB y = true) : refBelowN (y + 1) = refBelowN y + 1 := by
  have h' : 0 ≤ y ∧ y < 55296 ∨ 57344 ≤ y ∧ y ≤ 1114111 := of_decide_eq_true h
  unfold refBelowN
  rw [show max 0 (min (y + 1) 1114112) = y + 1 by omega, show max 0 (min y 1114112) = y by omega]
  unfold belowN; split <;> (try split) <;> (try split) <;> (try split) <;> omega
theorem G_no (y : Int) (h : isB y = false) : refBelowN (y + 1) = refBelowN y := by
  have h' : ¬ (0 ≤ y ∧ y < 55296 ∨ 57344 ≤ y ∧ y ≤ 1114111) := of_decide_eq_false h
  unfold refBelowN
  by_cases c : 0 ≤ y ∧ y ≤ 1114111
  · rw [show max 0 (min (y + 1) 1114112) = y + 1 by omega, show max 0 (min y 1114112) = y by omega]
    unfold belowN; split <;> (try split) <;> (try split) <;> (try split) <;> omega
  · rw [show max 0 (min (y + 1) 1114112) = max 0 (min y 1114112) by omega]
theorem countN_bd (x y : Int) : 0 ≤ countN x y ∧ countN x y ≤ 1112064 := by
  unfold countN
  split
  · omega
  · have b0 := belowN_bd (max x 0) (by omega) (by omega)
    have b1 := belowN_bd (min y 1114111 + 1) (by omega) (by omega)
    have b2 : belowN (max x 0) ≤ belowN (min y 1114111 + 1) := by
      generalize hp : max x 0 = p at *
      generalize hq : min y 1114111 + 1 = q at *
      unfold belowN; split <;> (try split) <;> (try split) <;> (try split) <;> omega
    omega
theorem both_yes (x y z : Int) (h : x ≤ y) (k : y ≤ z) (b : isB y = true) : (countN x y + countN y z - 1 == countN x z) = true := by
  rw [count_G x y h, count_G y z k, count_G x z (by omega), G_yes y b, beq_iff_eq]; omega
theorem both_no (x y z : Int) (h : x ≤ y) (k : y ≤ z) (b : isB y = false) : (countN x y + countN y z - 0 == countN x z) = true := by
  rw [count_G x y h, count_G y z k, count_G x z (by omega), G_no y b, beq_iff_eq]; omega

theorem walk000y (x : Int) (b : isB x = true) (w : World) :
    Calls Try.prog 5 #[.int .i64 x, .int .i64 x, .int .i64 x] w fun e w' => e = .returned (.bool true) ∧ Grown w w' := by
  have q := both_yes x x x (Int.le_refl _) (Int.le_refl _) b
  obtain ⟨b0, b1⟩ := countN_bd x x
  have e1 : countN 0 1114111 = 1112064 := by decide
  have e2 : countN 55296 57343 = 0 := by decide
  go_enter Try.func5, Try.ntmps5
  go_wp2_with (first
    | (go_at_call 8; go_must (refine (next_any _ _).mono ?_; rintro e w' ⟨rfl, rfl⟩))
    | (go_at_call 9; go_must (refine (prev_any _ _).mono ?_; rintro e w' ⟨rfl, rfl⟩))
    | (go_at_call 10; go_must (refine (index_any _ _).mono ?_; rintro e w' ⟨rfl, rfl⟩))
    | (go_at_call 15; go_must (refine (is_any _ _).mono ?_; rintro e w' ⟨rfl, rfl⟩))
    | (go_at_call 16; go_must (refine (count_any _ _ _).mono ?_; rintro e w' ⟨rfl, rfl⟩))
    | (go_at_call 18; go_must (refine (wakes_any _).mono ?_; rintro e w' ⟨rfl, rfl⟩)))
  go_ret
  exact ⟨rfl, Grown.refl _⟩

theorem walk000n (x : Int) (b : isB x = false) (w : World) :
    Calls Try.prog 5 #[.int .i64 x, .int .i64 x, .int .i64 x] w fun e w' => e = .returned (.bool true) ∧ Grown w w' := by
  have q := both_no x x x (Int.le_refl _) (Int.le_refl _) b
  rw [Int.sub_zero] at q
  obtain ⟨b0, b1⟩ := countN_bd x x
  have e1 : countN 0 1114111 = 1112064 := by decide
  have e2 : countN 55296 57343 = 0 := by decide
  go_enter Try.func5, Try.ntmps5
  go_wp2_with (first
    | (go_at_call 8; go_must (refine (next_any _ _).mono ?_; rintro e w' ⟨rfl, rfl⟩))
    | (go_at_call 9; go_must (refine (prev_any _ _).mono ?_; rintro e w' ⟨rfl, rfl⟩))
    | (go_at_call 10; go_must (refine (index_any _ _).mono ?_; rintro e w' ⟨rfl, rfl⟩))
    | (go_at_call 15; go_must (refine (is_any _ _).mono ?_; rintro e w' ⟨rfl, rfl⟩))
    | (go_at_call 16; go_must (refine (count_any _ _ _).mono ?_; rintro e w' ⟨rfl, rfl⟩))
    | (go_at_call 18; go_must (refine (wakes_any _).mono ?_; rintro e w' ⟨rfl, rfl⟩)))
  go_ret
  exact ⟨rfl, Grown.refl _⟩

theorem walk001y (x y : Int) (h01 : x < y) (b : isB x = true) (w : World) :
    Calls Try.prog 5 #[.int .i64 x, .int .i64 x, .int .i64 y] w fun e w' => e = .returned (.bool true) ∧ Grown w w' := by
  have q := both_yes x x y (Int.le_refl _) (Int.le_of_lt h01) b
  obtain ⟨b0, b1⟩ := countN_bd x x
  obtain ⟨b2, b3⟩ := countN_bd x y
  have e1 : countN 0 1114111 = 1112064 := by decide
  have e2 : countN 55296 57343 = 0 := by decide
  go_enter Try.func5, Try.ntmps5
  go_wp2_with (first
    | (go_at_call 8; go_must (refine (next_any _ _).mono ?_; rintro e w' ⟨rfl, rfl⟩))
    | (go_at_call 9; go_must (refine (prev_any _ _).mono ?_; rintro e w' ⟨rfl, rfl⟩))
    | (go_at_call 10; go_must (refine (index_any _ _).mono ?_; rintro e w' ⟨rfl, rfl⟩))
    | (go_at_call 15; go_must (refine (is_any _ _).mono ?_; rintro e w' ⟨rfl, rfl⟩))
    | (go_at_call 16; go_must (refine (count_any _ _ _).mono ?_; rintro e w' ⟨rfl, rfl⟩))
    | (go_at_call 18; go_must (refine (wakes_any _).mono ?_; rintro e w' ⟨rfl, rfl⟩)))
  go_ret
  exact ⟨rfl, Grown.refl _⟩

theorem walk001n (x y : Int) (h01 : x < y) (b : isB x = false) (w : World) :
    Calls Try.prog 5 #[.int .i64 x, .int .i64 x, .int .i64 y] w fun e w' => e = .returned (.bool true) ∧ Grown w w' := by
  have q := both_no x x y (Int.le_refl _) (Int.le_of_lt h01) b
  rw [Int.sub_zero] at q
  obtain ⟨b0, b1⟩ := countN_bd x x
  obtain ⟨b2, b3⟩ := countN_bd x y
  have e1 : countN 0 1114111 = 1112064 := by decide
  have e2 : countN 55296 57343 = 0 := by decide
  go_enter Try.func5, Try.ntmps5
  go_wp2_with (first
    | (go_at_call 8; go_must (refine (next_any _ _).mono ?_; rintro e w' ⟨rfl, rfl⟩))
    | (go_at_call 9; go_must (refine (prev_any _ _).mono ?_; rintro e w' ⟨rfl, rfl⟩))
    | (go_at_call 10; go_must (refine (index_any _ _).mono ?_; rintro e w' ⟨rfl, rfl⟩))
    | (go_at_call 15; go_must (refine (is_any _ _).mono ?_; rintro e w' ⟨rfl, rfl⟩))
    | (go_at_call 16; go_must (refine (count_any _ _ _).mono ?_; rintro e w' ⟨rfl, rfl⟩))
    | (go_at_call 18; go_must (refine (wakes_any _).mono ?_; rintro e w' ⟨rfl, rfl⟩)))
  go_ret
  exact ⟨rfl, Grown.refl _⟩

theorem walk010y (x y : Int) (h01 : x < y) (b : isB x = true) (w : World) :
    Calls Try.prog 5 #[.int .i64 x, .int .i64 y, .int .i64 x] w fun e w' => e = .returned (.bool true) ∧ Grown w w' := by
  have q := both_yes x x y (Int.le_refl _) (Int.le_of_lt h01) b
  obtain ⟨b0, b1⟩ := countN_bd x x
  obtain ⟨b2, b3⟩ := countN_bd x y
  have e1 : countN 0 1114111 = 1112064 := by decide
  have e2 : countN 55296 57343 = 0 := by decide
  go_enter Try.func5, Try.ntmps5
  go_wp2_with (first
    | (go_at_call 8; go_must (refine (next_any _ _).mono ?_; rintro e w' ⟨rfl, rfl⟩))
    | (go_at_call 9; go_must (refine (prev_any _ _).mono ?_; rintro e w' ⟨rfl, rfl⟩))
    | (go_at_call 10; go_must (refine (index_any _ _).mono ?_; rintro e w' ⟨rfl, rfl⟩))
    | (go_at_call 15; go_must (refine (is_any _ _).mono ?_; rintro e w' ⟨rfl, rfl⟩))
    | (go_at_call 16; go_must (refine (count_any _ _ _).mono ?_; rintro e w' ⟨rfl, rfl⟩))
    | (go_at_call 18; go_must (refine (wakes_any _).mono ?_; rintro e w' ⟨rfl, rfl⟩)))
  go_ret
  exact ⟨rfl, Grown.refl _⟩

theorem walk010n (x y : Int) (h01 : x < y) (b : isB x = false) (w : World) :
    Calls Try.prog 5 #[.int .i64 x, .int .i64 y, .int .i64 x] w fun e w' => e = .returned (.bool true) ∧ Grown w w' := by
  have q := both_no x x y (Int.le_refl _) (Int.le_of_lt h01) b
  rw [Int.sub_zero] at q
  obtain ⟨b0, b1⟩ := countN_bd x x
  obtain ⟨b2, b3⟩ := countN_bd x y
  have e1 : countN 0 1114111 = 1112064 := by decide
  have e2 : countN 55296 57343 = 0 := by decide
  go_enter Try.func5, Try.ntmps5
  go_wp2_with (first
    | (go_at_call 8; go_must (refine (next_any _ _).mono ?_; rintro e w' ⟨rfl, rfl⟩))
    | (go_at_call 9; go_must (refine (prev_any _ _).mono ?_; rintro e w' ⟨rfl, rfl⟩))
    | (go_at_call 10; go_must (refine (index_any _ _).mono ?_; rintro e w' ⟨rfl, rfl⟩))
    | (go_at_call 15; go_must (refine (is_any _ _).mono ?_; rintro e w' ⟨rfl, rfl⟩))
    | (go_at_call 16; go_must (refine (count_any _ _ _).mono ?_; rintro e w' ⟨rfl, rfl⟩))
    | (go_at_call 18; go_must (refine (wakes_any _).mono ?_; rintro e w' ⟨rfl, rfl⟩)))
  go_ret
  exact ⟨rfl, Grown.refl _⟩

theorem walk011y (x y : Int) (h01 : x < y) (b : isB y = true) (w : World) :
    Calls Try.prog 5 #[.int .i64 x, .int .i64 y, .int .i64 y] w fun e w' => e = .returned (.bool true) ∧ Grown w w' := by
  have q := both_yes x y y (Int.le_of_lt h01) (Int.le_refl _) b
  obtain ⟨b0, b1⟩ := countN_bd x y
  obtain ⟨b2, b3⟩ := countN_bd y y
  have e1 : countN 0 1114111 = 1112064 := by decide
  have e2 : countN 55296 57343 = 0 := by decide
  go_enter Try.func5, Try.ntmps5
  go_wp2_with (first
    | (go_at_call 8; go_must (refine (next_any _ _).mono ?_; rintro e w' ⟨rfl, rfl⟩))
    | (go_at_call 9; go_must (refine (prev_any _ _).mono ?_; rintro e w' ⟨rfl, rfl⟩))
    | (go_at_call 10; go_must (refine (index_any _ _).mono ?_; rintro e w' ⟨rfl, rfl⟩))
    | (go_at_call 15; go_must (refine (is_any _ _).mono ?_; rintro e w' ⟨rfl, rfl⟩))
    | (go_at_call 16; go_must (refine (count_any _ _ _).mono ?_; rintro e w' ⟨rfl, rfl⟩))
    | (go_at_call 18; go_must (refine (wakes_any _).mono ?_; rintro e w' ⟨rfl, rfl⟩)))
  go_ret
  exact ⟨rfl, Grown.refl _⟩

theorem walk011n (x y : Int) (h01 : x < y) (b : isB y = false) (w : World) :
    Calls Try.prog 5 #[.int .i64 x, .int .i64 y, .int .i64 y] w fun e w' => e = .returned (.bool true) ∧ Grown w w' := by
  have q := both_no x y y (Int.le_of_lt h01) (Int.le_refl _) b
  rw [Int.sub_zero] at q
  obtain ⟨b0, b1⟩ := countN_bd x y
  obtain ⟨b2, b3⟩ := countN_bd y y
  have e1 : countN 0 1114111 = 1112064 := by decide
  have e2 : countN 55296 57343 = 0 := by decide
  go_enter Try.func5, Try.ntmps5
  go_wp2_with (first
    | (go_at_call 8; go_must (refine (next_any _ _).mono ?_; rintro e w' ⟨rfl, rfl⟩))
    | (go_at_call 9; go_must (refine (prev_any _ _).mono ?_; rintro e w' ⟨rfl, rfl⟩))
    | (go_at_call 10; go_must (refine (index_any _ _).mono ?_; rintro e w' ⟨rfl, rfl⟩))
    | (go_at_call 15; go_must (refine (is_any _ _).mono ?_; rintro e w' ⟨rfl, rfl⟩))
    | (go_at_call 16; go_must (refine (count_any _ _ _).mono ?_; rintro e w' ⟨rfl, rfl⟩))
    | (go_at_call 18; go_must (refine (wakes_any _).mono ?_; rintro e w' ⟨rfl, rfl⟩)))
  go_ret
  exact ⟨rfl, Grown.refl _⟩

theorem walk012y (x y z : Int) (h01 : x < y) (h02 : x < z) (h12 : y < z) (b : isB y = true) (w : World) :
    Calls Try.prog 5 #[.int .i64 x, .int .i64 y, .int .i64 z] w fun e w' => e = .returned (.bool true) ∧ Grown w w' := by
  have q := both_yes x y z (Int.le_of_lt h01) (Int.le_of_lt h12) b
  obtain ⟨b0, b1⟩ := countN_bd x y
  obtain ⟨b2, b3⟩ := countN_bd y z
  have e1 : countN 0 1114111 = 1112064 := by decide
  have e2 : countN 55296 57343 = 0 := by decide
  go_enter Try.func5, Try.ntmps5
  go_wp2_with (first
    | (go_at_call 8; go_must (refine (next_any _ _).mono ?_; rintro e w' ⟨rfl, rfl⟩))
    | (go_at_call 9; go_must (refine (prev_any _ _).mono ?_; rintro e w' ⟨rfl, rfl⟩))
    | (go_at_call 10; go_must (refine (index_any _ _).mono ?_; rintro e w' ⟨rfl, rfl⟩))
    | (go_at_call 15; go_must (refine (is_any _ _).mono ?_; rintro e w' ⟨rfl, rfl⟩))
    | (go_at_call 16; go_must (refine (count_any _ _ _).mono ?_; rintro e w' ⟨rfl, rfl⟩))
    | (go_at_call 18; go_must (refine (wakes_any _).mono ?_; rintro e w' ⟨rfl, rfl⟩)))
  go_ret
  exact ⟨rfl, Grown.refl _⟩

theorem walk012n (x y z : Int) (h01 : x < y) (h02 : x < z) (h12 : y < z) (b : isB y = false) (w : World) :
    Calls Try.prog 5 #[.int .i64 x, .int .i64 y, .int .i64 z] w fun e w' => e = .returned (.bool true) ∧ Grown w w' := by
  have q := both_no x y z (Int.le_of_lt h01) (Int.le_of_lt h12) b
  rw [Int.sub_zero] at q
  obtain ⟨b0, b1⟩ := countN_bd x y
  obtain ⟨b2, b3⟩ := countN_bd y z
  have e1 : countN 0 1114111 = 1112064 := by decide
  have e2 : countN 55296 57343 = 0 := by decide
  go_enter Try.func5, Try.ntmps5
  go_wp2_with (first
    | (go_at_call 8; go_must (refine (next_any _ _).mono ?_; rintro e w' ⟨rfl, rfl⟩))
    | (go_at_call 9; go_must (refine (prev_any _ _).mono ?_; rintro e w' ⟨rfl, rfl⟩))
    | (go_at_call 10; go_must (refine (index_any _ _).mono ?_; rintro e w' ⟨rfl, rfl⟩))
    | (go_at_call 15; go_must (refine (is_any _ _).mono ?_; rintro e w' ⟨rfl, rfl⟩))
    | (go_at_call 16; go_must (refine (count_any _ _ _).mono ?_; rintro e w' ⟨rfl, rfl⟩))
    | (go_at_call 18; go_must (refine (wakes_any _).mono ?_; rintro e w' ⟨rfl, rfl⟩)))
  go_ret
  exact ⟨rfl, Grown.refl _⟩

theorem walk021y (x y z : Int) (h01 : x < y) (h02 : x < z) (h12 : y < z) (b : isB y = true) (w : World) :
    Calls Try.prog 5 #[.int .i64 x, .int .i64 z, .int .i64 y] w fun e w' => e = .returned (.bool true) ∧ Grown w w' := by
  have q := both_yes x y z (Int.le_of_lt h01) (Int.le_of_lt h12) b
  obtain ⟨b0, b1⟩ := countN_bd x y
  obtain ⟨b2, b3⟩ := countN_bd y z
  have e1 : countN 0 1114111 = 1112064 := by decide
  have e2 : countN 55296 57343 = 0 := by decide
  go_enter Try.func5, Try.ntmps5
  go_wp2_with (first
    | (go_at_call 8; go_must (refine (next_any _ _).mono ?_; rintro e w' ⟨rfl, rfl⟩))
    | (go_at_call 9; go_must (refine (prev_any _ _).mono ?_; rintro e w' ⟨rfl, rfl⟩))
    | (go_at_call 10; go_must (refine (index_any _ _).mono ?_; rintro e w' ⟨rfl, rfl⟩))
    | (go_at_call 15; go_must (refine (is_any _ _).mono ?_; rintro e w' ⟨rfl, rfl⟩))
    | (go_at_call 16; go_must (refine (count_any _ _ _).mono ?_; rintro e w' ⟨rfl, rfl⟩))
    | (go_at_call 18; go_must (refine (wakes_any _).mono ?_; rintro e w' ⟨rfl, rfl⟩)))
  go_ret
  exact ⟨rfl, Grown.refl _⟩

theorem walk021n (x y z : Int) (h01 : x < y) (h02 : x < z) (h12 : y < z) (b : isB y = false) (w : World) :
    Calls Try.prog 5 #[.int .i64 x, .int .i64 z, .int .i64 y] w fun e w' => e = .returned (.bool true) ∧ Grown w w' := by
  have q := both_no x y z (Int.le_of_lt h01) (Int.le_of_lt h12) b
  rw [Int.sub_zero] at q
  obtain ⟨b0, b1⟩ := countN_bd x y
  obtain ⟨b2, b3⟩ := countN_bd y z
  have e1 : countN 0 1114111 = 1112064 := by decide
  have e2 : countN 55296 57343 = 0 := by decide
  go_enter Try.func5, Try.ntmps5
  go_wp2_with (first
    | (go_at_call 8; go_must (refine (next_any _ _).mono ?_; rintro e w' ⟨rfl, rfl⟩))
    | (go_at_call 9; go_must (refine (prev_any _ _).mono ?_; rintro e w' ⟨rfl, rfl⟩))
    | (go_at_call 10; go_must (refine (index_any _ _).mono ?_; rintro e w' ⟨rfl, rfl⟩))
    | (go_at_call 15; go_must (refine (is_any _ _).mono ?_; rintro e w' ⟨rfl, rfl⟩))
    | (go_at_call 16; go_must (refine (count_any _ _ _).mono ?_; rintro e w' ⟨rfl, rfl⟩))
    | (go_at_call 18; go_must (refine (wakes_any _).mono ?_; rintro e w' ⟨rfl, rfl⟩)))
  go_ret
  exact ⟨rfl, Grown.refl _⟩

theorem walk100y (x y : Int) (h01 : x < y) (b : isB x = true) (w : World) :
    Calls Try.prog 5 #[.int .i64 y, .int .i64 x, .int .i64 x] w fun e w' => e = .returned (.bool true) ∧ Grown w w' := by
  have q := both_yes x x y (Int.le_refl _) (Int.le_of_lt h01) b
  obtain ⟨b0, b1⟩ := countN_bd x x
  obtain ⟨b2, b3⟩ := countN_bd x y
  have e1 : countN 0 1114111 = 1112064 := by decide
  have e2 : countN 55296 57343 = 0 := by decide
  go_enter Try.func5, Try.ntmps5
  go_wp2_with (first
    | (go_at_call 8; go_must (refine (next_any _ _).mono ?_; rintro e w' ⟨rfl, rfl⟩))
    | (go_at_call 9; go_must (refine (prev_any _ _).mono ?_; rintro e w' ⟨rfl, rfl⟩))
    | (go_at_call 10; go_must (refine (index_any _ _).mono ?_; rintro e w' ⟨rfl, rfl⟩))
    | (go_at_call 15; go_must (refine (is_any _ _).mono ?_; rintro e w' ⟨rfl, rfl⟩))
    | (go_at_call 16; go_must (refine (count_any _ _ _).mono ?_; rintro e w' ⟨rfl, rfl⟩))
    | (go_at_call 18; go_must (refine (wakes_any _).mono ?_; rintro e w' ⟨rfl, rfl⟩)))
  go_ret
  exact ⟨rfl, Grown.refl _⟩

theorem walk100n (x y : Int) (h01 : x < y) (b : isB x = false) (w : World) :
    Calls Try.prog 5 #[.int .i64 y, .int .i64 x, .int .i64 x] w fun e w' => e = .returned (.bool true) ∧ Grown w w' := by
  have q := both_no x x y (Int.le_refl _) (Int.le_of_lt h01) b
  rw [Int.sub_zero] at q
  obtain ⟨b0, b1⟩ := countN_bd x x
  obtain ⟨b2, b3⟩ := countN_bd x y
  have e1 : countN 0 1114111 = 1112064 := by decide
  have e2 : countN 55296 57343 = 0 := by decide
  go_enter Try.func5, Try.ntmps5
  go_wp2_with (first
    | (go_at_call 8; go_must (refine (next_any _ _).mono ?_; rintro e w' ⟨rfl, rfl⟩))
    | (go_at_call 9; go_must (refine (prev_any _ _).mono ?_; rintro e w' ⟨rfl, rfl⟩))
    | (go_at_call 10; go_must (refine (index_any _ _).mono ?_; rintro e w' ⟨rfl, rfl⟩))
    | (go_at_call 15; go_must (refine (is_any _ _).mono ?_; rintro e w' ⟨rfl, rfl⟩))
    | (go_at_call 16; go_must (refine (count_any _ _ _).mono ?_; rintro e w' ⟨rfl, rfl⟩))
    | (go_at_call 18; go_must (refine (wakes_any _).mono ?_; rintro e w' ⟨rfl, rfl⟩)))
  go_ret
  exact ⟨rfl, Grown.refl _⟩

theorem walk101y (x y : Int) (h01 : x < y) (b : isB y = true) (w : World) :
    Calls Try.prog 5 #[.int .i64 y, .int .i64 x, .int .i64 y] w fun e w' => e = .returned (.bool true) ∧ Grown w w' := by
  have q := both_yes x y y (Int.le_of_lt h01) (Int.le_refl _) b
  obtain ⟨b0, b1⟩ := countN_bd x y
  obtain ⟨b2, b3⟩ := countN_bd y y
  have e1 : countN 0 1114111 = 1112064 := by decide
  have e2 : countN 55296 57343 = 0 := by decide
  go_enter Try.func5, Try.ntmps5
  go_wp2_with (first
    | (go_at_call 8; go_must (refine (next_any _ _).mono ?_; rintro e w' ⟨rfl, rfl⟩))
    | (go_at_call 9; go_must (refine (prev_any _ _).mono ?_; rintro e w' ⟨rfl, rfl⟩))
    | (go_at_call 10; go_must (refine (index_any _ _).mono ?_; rintro e w' ⟨rfl, rfl⟩))
    | (go_at_call 15; go_must (refine (is_any _ _).mono ?_; rintro e w' ⟨rfl, rfl⟩))
    | (go_at_call 16; go_must (refine (count_any _ _ _).mono ?_; rintro e w' ⟨rfl, rfl⟩))
    | (go_at_call 18; go_must (refine (wakes_any _).mono ?_; rintro e w' ⟨rfl, rfl⟩)))
  go_ret
  exact ⟨rfl, Grown.refl _⟩

theorem walk101n (x y : Int) (h01 : x < y) (b : isB y = false) (w : World) :
    Calls Try.prog 5 #[.int .i64 y, .int .i64 x, .int .i64 y] w fun e w' => e = .returned (.bool true) ∧ Grown w w' := by
  have q := both_no x y y (Int.le_of_lt h01) (Int.le_refl _) b
  rw [Int.sub_zero] at q
  obtain ⟨b0, b1⟩ := countN_bd x y
  obtain ⟨b2, b3⟩ := countN_bd y y
  have e1 : countN 0 1114111 = 1112064 := by decide
  have e2 : countN 55296 57343 = 0 := by decide
  go_enter Try.func5, Try.ntmps5
  go_wp2_with (first
    | (go_at_call 8; go_must (refine (next_any _ _).mono ?_; rintro e w' ⟨rfl, rfl⟩))
    | (go_at_call 9; go_must (refine (prev_any _ _).mono ?_; rintro e w' ⟨rfl, rfl⟩))
    | (go_at_call 10; go_must (refine (index_any _ _).mono ?_; rintro e w' ⟨rfl, rfl⟩))
    | (go_at_call 15; go_must (refine (is_any _ _).mono ?_; rintro e w' ⟨rfl, rfl⟩))
    | (go_at_call 16; go_must (refine (count_any _ _ _).mono ?_; rintro e w' ⟨rfl, rfl⟩))
    | (go_at_call 18; go_must (refine (wakes_any _).mono ?_; rintro e w' ⟨rfl, rfl⟩)))
  go_ret
  exact ⟨rfl, Grown.refl _⟩

theorem walk102y (x y z : Int) (h01 : x < y) (h02 : x < z) (h12 : y < z) (b : isB y = true) (w : World) :
    Calls Try.prog 5 #[.int .i64 y, .int .i64 x, .int .i64 z] w fun e w' => e = .returned (.bool true) ∧ Grown w w' := by
  have q := both_yes x y z (Int.le_of_lt h01) (Int.le_of_lt h12) b
  obtain ⟨b0, b1⟩ := countN_bd x y
  obtain ⟨b2, b3⟩ := countN_bd y z
  have e1 : countN 0 1114111 = 1112064 := by decide
  have e2 : countN 55296 57343 = 0 := by decide
  go_enter Try.func5, Try.ntmps5
  go_wp2_with (first
    | (go_at_call 8; go_must (refine (next_any _ _).mono ?_; rintro e w' ⟨rfl, rfl⟩))
    | (go_at_call 9; go_must (refine (prev_any _ _).mono ?_; rintro e w' ⟨rfl, rfl⟩))
    | (go_at_call 10; go_must (refine (index_any _ _).mono ?_; rintro e w' ⟨rfl, rfl⟩))
    | (go_at_call 15; go_must (refine (is_any _ _).mono ?_; rintro e w' ⟨rfl, rfl⟩))
    | (go_at_call 16; go_must (refine (count_any _ _ _).mono ?_; rintro e w' ⟨rfl, rfl⟩))
    | (go_at_call 18; go_must (refine (wakes_any _).mono ?_; rintro e w' ⟨rfl, rfl⟩)))
  go_ret
  exact ⟨rfl, Grown.refl _⟩

theorem walk102n (x y z : Int) (h01 : x < y) (h02 : x < z) (h12 : y < z) (b : isB y = false) (w : World) :
    Calls Try.prog 5 #[.int .i64 y, .int .i64 x, .int .i64 z] w fun e w' => e = .returned (.bool true) ∧ Grown w w' := by
  have q := both_no x y z (Int.le_of_lt h01) (Int.le_of_lt h12) b
  rw [Int.sub_zero] at q
  obtain ⟨b0, b1⟩ := countN_bd x y
  obtain ⟨b2, b3⟩ := countN_bd y z
  have e1 : countN 0 1114111 = 1112064 := by decide
  have e2 : countN 55296 57343 = 0 := by decide
  go_enter Try.func5, Try.ntmps5
  go_wp2_with (first
    | (go_at_call 8; go_must (refine (next_any _ _).mono ?_; rintro e w' ⟨rfl, rfl⟩))
    | (go_at_call 9; go_must (refine (prev_any _ _).mono ?_; rintro e w' ⟨rfl, rfl⟩))
    | (go_at_call 10; go_must (refine (index_any _ _).mono ?_; rintro e w' ⟨rfl, rfl⟩))
    | (go_at_call 15; go_must (refine (is_any _ _).mono ?_; rintro e w' ⟨rfl, rfl⟩))
    | (go_at_call 16; go_must (refine (count_any _ _ _).mono ?_; rintro e w' ⟨rfl, rfl⟩))
    | (go_at_call 18; go_must (refine (wakes_any _).mono ?_; rintro e w' ⟨rfl, rfl⟩)))
  go_ret
  exact ⟨rfl, Grown.refl _⟩

theorem walk110y (x y : Int) (h01 : x < y) (b : isB y = true) (w : World) :
    Calls Try.prog 5 #[.int .i64 y, .int .i64 y, .int .i64 x] w fun e w' => e = .returned (.bool true) ∧ Grown w w' := by
  have q := both_yes x y y (Int.le_of_lt h01) (Int.le_refl _) b
  obtain ⟨b0, b1⟩ := countN_bd x y
  obtain ⟨b2, b3⟩ := countN_bd y y
  have e1 : countN 0 1114111 = 1112064 := by decide
  have e2 : countN 55296 57343 = 0 := by decide
  go_enter Try.func5, Try.ntmps5
  go_wp2_with (first
    | (go_at_call 8; go_must (refine (next_any _ _).mono ?_; rintro e w' ⟨rfl, rfl⟩))
    | (go_at_call 9; go_must (refine (prev_any _ _).mono ?_; rintro e w' ⟨rfl, rfl⟩))
    | (go_at_call 10; go_must (refine (index_any _ _).mono ?_; rintro e w' ⟨rfl, rfl⟩))
    | (go_at_call 15; go_must (refine (is_any _ _).mono ?_; rintro e w' ⟨rfl, rfl⟩))
    | (go_at_call 16; go_must (refine (count_any _ _ _).mono ?_; rintro e w' ⟨rfl, rfl⟩))
    | (go_at_call 18; go_must (refine (wakes_any _).mono ?_; rintro e w' ⟨rfl, rfl⟩)))
  go_ret
  exact ⟨rfl, Grown.refl _⟩

theorem walk110n (x y : Int) (h01 : x < y) (b : isB y = false) (w : World) :
    Calls Try.prog 5 #[.int .i64 y, .int .i64 y, .int .i64 x] w fun e w' => e = .returned (.bool true) ∧ Grown w w' := by
  have q := both_no x y y (Int.le_of_lt h01) (Int.le_refl _) b
  rw [Int.sub_zero] at q
  obtain ⟨b0, b1⟩ := countN_bd x y
  obtain ⟨b2, b3⟩ := countN_bd y y
  have e1 : countN 0 1114111 = 1112064 := by decide
  have e2 : countN 55296 57343 = 0 := by decide
  go_enter Try.func5, Try.ntmps5
  go_wp2_with (first
    | (go_at_call 8; go_must (refine (next_any _ _).mono ?_; rintro e w' ⟨rfl, rfl⟩))
    | (go_at_call 9; go_must (refine (prev_any _ _).mono ?_; rintro e w' ⟨rfl, rfl⟩))
    | (go_at_call 10; go_must (refine (index_any _ _).mono ?_; rintro e w' ⟨rfl, rfl⟩))
    | (go_at_call 15; go_must (refine (is_any _ _).mono ?_; rintro e w' ⟨rfl, rfl⟩))
    | (go_at_call 16; go_must (refine (count_any _ _ _).mono ?_; rintro e w' ⟨rfl, rfl⟩))
    | (go_at_call 18; go_must (refine (wakes_any _).mono ?_; rintro e w' ⟨rfl, rfl⟩)))
  go_ret
  exact ⟨rfl, Grown.refl _⟩

theorem walk120y (x y z : Int) (h01 : x < y) (h02 : x < z) (h12 : y < z) (b : isB y = true) (w : World) :
    Calls Try.prog 5 #[.int .i64 y, .int .i64 z, .int .i64 x] w fun e w' => e = .returned (.bool true) ∧ Grown w w' := by
  have q := both_yes x y z (Int.le_of_lt h01) (Int.le_of_lt h12) b
  obtain ⟨b0, b1⟩ := countN_bd x y
  obtain ⟨b2, b3⟩ := countN_bd y z
  have e1 : countN 0 1114111 = 1112064 := by decide
  have e2 : countN 55296 57343 = 0 := by decide
  go_enter Try.func5, Try.ntmps5
  go_wp2_with (first
    | (go_at_call 8; go_must (refine (next_any _ _).mono ?_; rintro e w' ⟨rfl, rfl⟩))
    | (go_at_call 9; go_must (refine (prev_any _ _).mono ?_; rintro e w' ⟨rfl, rfl⟩))
    | (go_at_call 10; go_must (refine (index_any _ _).mono ?_; rintro e w' ⟨rfl, rfl⟩))
    | (go_at_call 15; go_must (refine (is_any _ _).mono ?_; rintro e w' ⟨rfl, rfl⟩))
    | (go_at_call 16; go_must (refine (count_any _ _ _).mono ?_; rintro e w' ⟨rfl, rfl⟩))
    | (go_at_call 18; go_must (refine (wakes_any _).mono ?_; rintro e w' ⟨rfl, rfl⟩)))
  go_ret
  exact ⟨rfl, Grown.refl _⟩

theorem walk120n (x y z : Int) (h01 : x < y) (h02 : x < z) (h12 : y < z) (b : isB y = false) (w : World) :
    Calls Try.prog 5 #[.int .i64 y, .int .i64 z, .int .i64 x] w fun e w' => e = .returned (.bool true) ∧ Grown w w' := by
  have q := both_no x y z (Int.le_of_lt h01) (Int.le_of_lt h12) b
  rw [Int.sub_zero] at q
  obtain ⟨b0, b1⟩ := countN_bd x y
  obtain ⟨b2, b3⟩ := countN_bd y z
  have e1 : countN 0 1114111 = 1112064 := by decide
  have e2 : countN 55296 57343 = 0 := by decide
  go_enter Try.func5, Try.ntmps5
  go_wp2_with (first
    | (go_at_call 8; go_must (refine (next_any _ _).mono ?_; rintro e w' ⟨rfl, rfl⟩))
    | (go_at_call 9; go_must (refine (prev_any _ _).mono ?_; rintro e w' ⟨rfl, rfl⟩))
    | (go_at_call 10; go_must (refine (index_any _ _).mono ?_; rintro e w' ⟨rfl, rfl⟩))
    | (go_at_call 15; go_must (refine (is_any _ _).mono ?_; rintro e w' ⟨rfl, rfl⟩))
    | (go_at_call 16; go_must (refine (count_any _ _ _).mono ?_; rintro e w' ⟨rfl, rfl⟩))
    | (go_at_call 18; go_must (refine (wakes_any _).mono ?_; rintro e w' ⟨rfl, rfl⟩)))
  go_ret
  exact ⟨rfl, Grown.refl _⟩

theorem walk201y (x y z : Int) (h01 : x < y) (h02 : x < z) (h12 : y < z) (b : isB y = true) (w : World) :
    Calls Try.prog 5 #[.int .i64 z, .int .i64 x, .int .i64 y] w fun e w' => e = .returned (.bool true) ∧ Grown w w' := by
  have q := both_yes x y z (Int.le_of_lt h01) (Int.le_of_lt h12) b
  obtain ⟨b0, b1⟩ := countN_bd x y
  obtain ⟨b2, b3⟩ := countN_bd y z
  have e1 : countN 0 1114111 = 1112064 := by decide
  have e2 : countN 55296 57343 = 0 := by decide
  go_enter Try.func5, Try.ntmps5
  go_wp2_with (first
    | (go_at_call 8; go_must (refine (next_any _ _).mono ?_; rintro e w' ⟨rfl, rfl⟩))
    | (go_at_call 9; go_must (refine (prev_any _ _).mono ?_; rintro e w' ⟨rfl, rfl⟩))
    | (go_at_call 10; go_must (refine (index_any _ _).mono ?_; rintro e w' ⟨rfl, rfl⟩))
    | (go_at_call 15; go_must (refine (is_any _ _).mono ?_; rintro e w' ⟨rfl, rfl⟩))
    | (go_at_call 16; go_must (refine (count_any _ _ _).mono ?_; rintro e w' ⟨rfl, rfl⟩))
    | (go_at_call 18; go_must (refine (wakes_any _).mono ?_; rintro e w' ⟨rfl, rfl⟩)))
  go_ret
  exact ⟨rfl, Grown.refl _⟩

theorem walk201n (x y z : Int) (h01 : x < y) (h02 : x < z) (h12 : y < z) (b : isB y = false) (w : World) :
    Calls Try.prog 5 #[.int .i64 z, .int .i64 x, .int .i64 y] w fun e w' => e = .returned (.bool true) ∧ Grown w w' := by
  have q := both_no x y z (Int.le_of_lt h01) (Int.le_of_lt h12) b
  rw [Int.sub_zero] at q
  obtain ⟨b0, b1⟩ := countN_bd x y
  obtain ⟨b2, b3⟩ := countN_bd y z
  have e1 : countN 0 1114111 = 1112064 := by decide
  have e2 : countN 55296 57343 = 0 := by decide
  go_enter Try.func5, Try.ntmps5
  go_wp2_with (first
    | (go_at_call 8; go_must (refine (next_any _ _).mono ?_; rintro e w' ⟨rfl, rfl⟩))
    | (go_at_call 9; go_must (refine (prev_any _ _).mono ?_; rintro e w' ⟨rfl, rfl⟩))
    | (go_at_call 10; go_must (refine (index_any _ _).mono ?_; rintro e w' ⟨rfl, rfl⟩))
    | (go_at_call 15; go_must (refine (is_any _ _).mono ?_; rintro e w' ⟨rfl, rfl⟩))
    | (go_at_call 16; go_must (refine (count_any _ _ _).mono ?_; rintro e w' ⟨rfl, rfl⟩))
    | (go_at_call 18; go_must (refine (wakes_any _).mono ?_; rintro e w' ⟨rfl, rfl⟩)))
  go_ret
  exact ⟨rfl, Grown.refl _⟩

theorem walk210y (x y z : Int) (h01 : x < y) (h02 : x < z) (h12 : y < z) (b : isB y = true) (w : World) :
    Calls Try.prog 5 #[.int .i64 z, .int .i64 y, .int .i64 x] w fun e w' => e = .returned (.bool true) ∧ Grown w w' := by
  have q := both_yes x y z (Int.le_of_lt h01) (Int.le_of_lt h12) b
  obtain ⟨b0, b1⟩ := countN_bd x y
  obtain ⟨b2, b3⟩ := countN_bd y z
  have e1 : countN 0 1114111 = 1112064 := by decide
  have e2 : countN 55296 57343 = 0 := by decide
  go_enter Try.func5, Try.ntmps5
  go_wp2_with (first
    | (go_at_call 8; go_must (refine (next_any _ _).mono ?_; rintro e w' ⟨rfl, rfl⟩))
    | (go_at_call 9; go_must (refine (prev_any _ _).mono ?_; rintro e w' ⟨rfl, rfl⟩))
    | (go_at_call 10; go_must (refine (index_any _ _).mono ?_; rintro e w' ⟨rfl, rfl⟩))
    | (go_at_call 15; go_must (refine (is_any _ _).mono ?_; rintro e w' ⟨rfl, rfl⟩))
    | (go_at_call 16; go_must (refine (count_any _ _ _).mono ?_; rintro e w' ⟨rfl, rfl⟩))
    | (go_at_call 18; go_must (refine (wakes_any _).mono ?_; rintro e w' ⟨rfl, rfl⟩)))
  go_ret
  exact ⟨rfl, Grown.refl _⟩

theorem walk210n (x y z : Int) (h01 : x < y) (h02 : x < z) (h12 : y < z) (b : isB y = false) (w : World) :
    Calls Try.prog 5 #[.int .i64 z, .int .i64 y, .int .i64 x] w fun e w' => e = .returned (.bool true) ∧ Grown w w' := by
  have q := both_no x y z (Int.le_of_lt h01) (Int.le_of_lt h12) b
  rw [Int.sub_zero] at q
  obtain ⟨b0, b1⟩ := countN_bd x y
  obtain ⟨b2, b3⟩ := countN_bd y z
  have e1 : countN 0 1114111 = 1112064 := by decide
  have e2 : countN 55296 57343 = 0 := by decide
  go_enter Try.func5, Try.ntmps5
  go_wp2_with (first
    | (go_at_call 8; go_must (refine (next_any _ _).mono ?_; rintro e w' ⟨rfl, rfl⟩))
    | (go_at_call 9; go_must (refine (prev_any _ _).mono ?_; rintro e w' ⟨rfl, rfl⟩))
    | (go_at_call 10; go_must (refine (index_any _ _).mono ?_; rintro e w' ⟨rfl, rfl⟩))
    | (go_at_call 15; go_must (refine (is_any _ _).mono ?_; rintro e w' ⟨rfl, rfl⟩))
    | (go_at_call 16; go_must (refine (count_any _ _ _).mono ?_; rintro e w' ⟨rfl, rfl⟩))
    | (go_at_call 18; go_must (refine (wakes_any _).mono ?_; rintro e w' ⟨rfl, rfl⟩)))
  go_ret
  exact ⟨rfl, Grown.refl _⟩

/-! The walk: the law returns true, and the world has at most new blocks. -/
theorem walk (a0 : Int) (a1 : Int) (a2 : Int) (w0 : (Lit.int .i64 a0).wf = true) (w1 : (Lit.int .i64 a1).wf = true) (w2 : (Lit.int .i64 a2).wf = true) (w : World) :
    Calls Try.prog 5 #[.int .i64 a0, .int .i64 a1, .int .i64 a2] w fun e w' => e = .returned (.bool true) ∧ Grown w w' := by
  rcases Int.lt_trichotomy a0 a1 with p | p | p <;> rcases Int.lt_trichotomy a1 a2 with q | q | q <;> rcases Int.lt_trichotomy a0 a2 with r | r | r
  · by_cases b : isB a1 = true
    · exact walk012y a0 a1 a2 (by omega) (by omega) (by omega) b w
    · exact walk012n a0 a1 a2 (by omega) (by omega) (by omega) (by simpa using b) w
  · exfalso; omega
  · exfalso; omega
  · obtain rfl : a1 = a2 := by omega
    by_cases b : isB a1 = true
    · exact walk011y a0 a1 (by omega) b w
    · exact walk011n a0 a1 (by omega) (by simpa using b) w
  · exfalso; omega
  · exfalso; omega
  · by_cases b : isB a2 = true
    · exact walk021y a0 a2 a1 (by omega) (by omega) (by omega) b w
    · exact walk021n a0 a2 a1 (by omega) (by omega) (by omega) (by simpa using b) w
  · obtain rfl : a0 = a2 := by omega
    by_cases b : isB a0 = true
    · exact walk010y a0 a1 (by omega) b w
    · exact walk010n a0 a1 (by omega) (by simpa using b) w
  · by_cases b : isB a0 = true
    · exact walk120y a2 a0 a1 (by omega) (by omega) (by omega) b w
    · exact walk120n a2 a0 a1 (by omega) (by omega) (by omega) (by simpa using b) w
  · obtain rfl : a0 = a1 := by omega
    by_cases b : isB a0 = true
    · exact walk001y a0 a2 (by omega) b w
    · exact walk001n a0 a2 (by omega) (by simpa using b) w
  · exfalso; omega
  · exfalso; omega
  · exfalso; omega
  · obtain rfl : a0 = a1 := by omega
    obtain rfl : a0 = a2 := by omega
    by_cases b : isB a0 = true
    · exact walk000y a0  b w
    · exact walk000n a0  (by simpa using b) w
  · exfalso; omega
  · exfalso; omega
  · exfalso; omega
  · obtain rfl : a0 = a1 := by omega
    by_cases b : isB a0 = true
    · exact walk110y a2 a0 (by omega) b w
    · exact walk110n a2 a0 (by omega) (by simpa using b) w
  · by_cases b : isB a0 = true
    · exact walk102y a1 a0 a2 (by omega) (by omega) (by omega) b w
    · exact walk102n a1 a0 a2 (by omega) (by omega) (by omega) (by simpa using b) w
  · obtain rfl : a0 = a2 := by omega
    by_cases b : isB a0 = true
    · exact walk101y a1 a0 (by omega) b w
    · exact walk101n a1 a0 (by omega) (by simpa using b) w
  · by_cases b : isB a2 = true
    · exact walk201y a1 a2 a0 (by omega) (by omega) (by omega) b w
    · exact walk201n a1 a2 a0 (by omega) (by omega) (by omega) (by simpa using b) w
  · exfalso; omega
  · exfalso; omega
  · obtain rfl : a1 = a2 := by omega
    by_cases b : isB a1 = true
    · exact walk100y a1 a0 (by omega) b w
    · exact walk100n a1 a0 (by omega) (by simpa using b) w
  · exfalso; omega
  · exfalso; omega
  · by_cases b : isB a1 = true
    · exact walk210y a2 a1 a0 (by omega) (by omega) (by omega) b w
    · exact walk210n a2 a1 a0 (by omega) (by omega) (by omega) (by simpa using b) w

/-! From the walk to the row. -/
set_option maxRecDepth 100000 in
theorem lifted (os : Os) (started : os.Started) (H : Type) (enc : TypeId × Value → H) :
    ReturnsInHanded {} Try.checked os 5 .any (Rows.scalarCountsSpec.pre6 enc Try.prog Try.f5 Rows.scalarCountsRow.domain false) (Rows.scalarCountsSpec.post enc Try.prog Try.f5 false true false false) := by
  refine returnsInHanded_of_change (C := Try.checked) own started (by kernel_rfl) Try.func5
    (ChangeSpec.witness6 (enc := enc) (C := Try.checked) false ⟨#[], #[.int .i64 0, .int .i64 0, .int .i64 0], []⟩ 8 (by kernel_rfl) (by kernel_rfl) (by kernel_rfl) (by kernel_rfl)) ?_
  intro W base args ds gs before hval0 hW hcnd _
  have hval : ∀ (j : Nat) t v, Try.f5.params[j]? = some t → args[j]? = some v → Value.okWide Try.prog W .any base t v := hval0
  have hW' := hW
  obtain ⟨p, q, hA0, hV, rfl, hfz, hnd⟩ := hW
  have hA : DataW.TrodAll enc Try.prog W 0 (fun _ => true) true Try.f5.params.toList args.toList ds p := hA0
  rw [Try.params5] at hA hval
  obtain ⟨v0, vs0, d0, ds0, p0, q0, hargs, rfl, rfl, h0, r0⟩ := trodAll_cons hA
  obtain ⟨v1, vs1, d1, ds1, p1, q1, rfl, rfl, rfl, h1, r1⟩ := trodAll_cons r0
  obtain ⟨v2, vs2, d2, ds2, p2, q2, rfl, rfl, rfl, h2, r2⟩ := trodAll_cons r1
  obtain ⟨rfl, rfl, rfl⟩ := trodAll_nil r2
  obtain rfl : args = #[v0, v1, v2] := by cases args; simp_all
  obtain ⟨rfl, rfl⟩ := trodVars_none hV
  obtain ⟨a0, rfl, rfl, rfl, w0⟩ := open_int Try.underlying3 (hval 0 3 v0 rfl rfl) h0
  obtain ⟨a1, rfl, rfl, rfl, w1⟩ := open_int Try.underlying3 (hval 1 3 v1 rfl rfl) h1
  obtain ⟨a2, rfl, rfl, rfl, w2⟩ := open_int Try.underlying3 (hval 2 3 v2 rfl rfl) h2
  clear hA0 hval0
  simp only [List.append_nil] at hW'
  refine (walk a0 a1 a2 w0 w1 w2 W).mono fun e W' ⟨he, hg⟩ => ?_
  subst he
  exact ⟨_, rfl, post_of_same (pa := []) (pv := []) hW' (fun _ _ _ => (trodAll_cons_mk (shut_bool Try.underlying4 _) trodAll_mk0)) (fun sp _ => (trodAll_cons_mk (shut_int Try.underlying3 w0) (trodAll_cons_mk (shut_int Try.underlying3 w1) (trodAll_cons_mk (shut_int Try.underlying3 w2) trodAll_mk0)))) (fun _ _ => rfl) rfl
    (hg.frame _) hg.2.1 (ok_one (by kernel_rfl) rfl (okWide_bool_mk Try.underlying4 _))⟩

theorem over : Rows.scalarCountsRow.holds Try.pinned (OpenSpec.ofChange Rows.scalarCountsSpec) :=
  OpenClaim.holds_of_wide 5 Try.f5 rfl rfl rfl rfl rfl rfl rfl ⟨rfl, rfl, rfl, rfl, rfl⟩ rfl rfl rfl rfl rfl (by kernel_rfl) Try.func5 (by kernel_rfl)
    (of_decide_eq_true (by kernel_rfl)) (by unfold Func.isWrapper; first | (rw [if_pos (by decide +kernel)]; kernel_rfl) | (rw [if_neg (by decide +kernel)]; exact ⟨rfl, rfl⟩))
    (fun os started H enc _ => lifted os started H enc)

/-- The given statement. -/
theorem proved : Rows.ScalarCountsSaid :=
  over
end Go.Proofs.Ytpmgebfdiclblaa.scalarCounts

namespace Go.Proofs.Ytpmgebfdiclblaa
/-- The given statement, under a short name. -/
theorem scalarCounts_holds : Rows.ScalarCountsSaid := scalarCounts.proved
#print axioms scalarCounts_holds
end Go.Proofs.Ytpmgebfdiclblaa
