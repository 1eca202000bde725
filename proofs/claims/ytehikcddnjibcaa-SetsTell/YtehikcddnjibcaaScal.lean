/- What the functions of package scalar, and the document's answers for them, return: for every 64-bit integer, without touching memory (the document's Next and Prev lay one new block each). -/
import Derived.Test.YtehikcddnjibcaaRows
import Derived.WalkKit
import Derived.ProofKit
import Derived.OpenShut
import Derived.Lib.Hide
import Derived.Deep.DeepMust
namespace Go.Proofs.Ytehikcddnjibcaa

/-- ValidRune at a 32-bit number. -/
theorem valid_yes (v : Int) (w : World) (h : 0 ≤ v ∧ v < 55296 ∨ 57344 ≤ v ∧ v ≤ 1114111) :
    Calls Try.prog 52 #[.int .i32 v] w fun e w' => e = .returned (.bool true) ∧ w = w' := by
  rcases h with ⟨h0, h1⟩ | ⟨h0, h1⟩
  · go_enter Try.func52, Try.ntmps52
    go_wp2
    go_ret
    exact ⟨rfl, rfl⟩
  · have h2 : ¬ v < 55296 := by omega
    have h3 : 0 ≤ v := by omega
    have h4 : 57343 < v := by omega
    go_enter Try.func52, Try.ntmps52
    go_wp2
    go_ret
    exact ⟨rfl, rfl⟩

theorem valid_no (v : Int) (w : World) (h : v < 0 ∨ 55296 ≤ v ∧ v < 57344 ∨ 1114111 < v) :
    Calls Try.prog 52 #[.int .i32 v] w fun e w' => e = .returned (.bool false) ∧ w = w' := by
  rcases h with h0 | ⟨h0, h1⟩ | h0
  all_goals
    go_enter Try.func52, Try.ntmps52
    go_wp2
    go_ret
    exact ⟨rfl, rfl⟩

theorem is_yes (v : Int) (w : World) (h : 0 ≤ v ∧ v < 55296 ∨ 57344 ≤ v ∧ v ≤ 1114111) :
    Calls Try.prog 40 #[.int .i64 v] w fun e w' => e = .returned (.bool true) ∧ w = w' := by
  have h0 : 0 ≤ v := by omega
  have h1 : v ≤ 1114111 := by omega
  have H := Lib.hid h
  clear h
  go_enter Try.func40, Try.ntmps40
  go_wp2_with (first | (go_at_call 52; go_must (refine (valid_yes _ _ H.out).mono ?_; rintro e w' ⟨rfl, rfl⟩)))
  go_ret
  exact ⟨rfl, rfl⟩

theorem is_no (v : Int) (w : World) (h : v < 0 ∨ 55296 ≤ v ∧ v < 57344 ∨ 1114111 < v) :
    Calls Try.prog 40 #[.int .i64 v] w fun e w' => e = .returned (.bool false) ∧ w = w' := by
  by_cases hr : -2147483648 ≤ v ∧ v ≤ 2147483647
  · obtain ⟨h0, h1⟩ := hr
    have H := Lib.hid h
    clear h
    go_enter Try.func40, Try.ntmps40
    go_wp2_with (first | (go_at_call 52; go_must (refine (valid_no _ _ H.out).mono ?_; rintro e w' ⟨rfl, rfl⟩)))
    go_ret
    exact ⟨rfl, rfl⟩
  · have hw : (RowKit.wrap64 (RowKit.wrap32 v) == v) = false := by
      rw [beq_eq_false_iff_ne]
      unfold RowKit.wrap64 RowKit.wrap32
      omega
    clear h hr
    go_enter Try.func40, Try.ntmps40
    go_wp2
    go_ret
    exact ⟨rfl, rfl⟩

/-- How many scalars are below a number that is from 0 to 1114112. -/
def belowN (v : Int) : Int := if v ≤ 55296 then v else if v ≤ 57344 then 55296 else v - 2048

theorem ret_int {a b : Int} (h : a = b) : Ending.returned (.int .i64 a) = .returned (.int .i64 b) := by rw [h]

theorem below_any (v : Int) (w : World) (h0 : 0 ≤ v) (h1 : v ≤ 1114112) :
    Calls Try.prog 54 #[.int .i64 v] w fun e w' => e = .returned (.int .i64 (belowN v)) ∧ w = w' := by
  by_cases c1 : v ≤ 55296
  · go_enter Try.func54, Try.ntmps54
    go_wp2
    all_goals
      go_ret
      exact ⟨ret_int (by unfold belowN; split <;> (try split) <;> omega), rfl⟩
  · by_cases c2 : v ≤ 57344
    all_goals
      go_enter Try.func54, Try.ntmps54
      go_wp2
      all_goals
        go_ret
        exact ⟨ret_int (by unfold belowN; split <;> (try split) <;> omega), rfl⟩

/-- How many scalars are from one number to another. -/
def countN (lo hi : Int) : Int := if min hi 1114111 < max lo 0 then 0 else belowN (min hi 1114111 + 1) - belowN (max lo 0)

theorem belowN_bd (v : Int) (h0 : 0 ≤ v) (h1 : v ≤ 1114112) : 0 ≤ belowN v ∧ belowN v ≤ 1112064 := by
  unfold belowN; split <;> (try split) <;> omega

theorem count_any (lo hi : Int) (w : World) :
    Calls Try.prog 43 #[.int .i64 lo, .int .i64 hi] w fun e w' => e = .returned (.int .i64 (countN lo hi)) ∧ w = w' := by
  by_cases c1 : lo < 0 <;> by_cases c2 : 1114111 < hi
  · have b1 := belowN_bd 0 (by omega) (by omega)
    have b2 := belowN_bd 1114112 (by omega) (by omega)
    go_enter Try.func43, Try.ntmps43
    go_wp2_with (first | (go_at_call 54; go_must (refine (below_any _ _ (by omega) (by omega)).mono ?_; rintro e w' ⟨rfl, rfl⟩)))
    go_ret
    exact ⟨ret_int (by unfold countN; rw [if_neg (by omega), show min hi 1114111 = 1114111 by omega, show max lo 0 = 0 by omega]; rfl), rfl⟩
  · by_cases c3 : hi < 0
    · go_enter Try.func43, Try.ntmps43
      go_wp2
      go_ret
      exact ⟨ret_int (by unfold countN; rw [if_pos (by omega)]), rfl⟩
    · have b1 := belowN_bd 0 (by omega) (by omega)
      have b2 := belowN_bd (hi + 1) (by omega) (by omega)
      go_enter Try.func43, Try.ntmps43
      go_wp2_with (first | (go_at_call 54; go_must (refine (below_any _ _ (by omega) (by omega)).mono ?_; rintro e w' ⟨rfl, rfl⟩)))
      go_ret
      exact ⟨ret_int (by unfold countN; rw [if_neg (by omega), show min hi 1114111 = hi by omega, show max lo 0 = 0 by omega]), rfl⟩
  · by_cases c3 : 1114111 < lo
    · go_enter Try.func43, Try.ntmps43
      go_wp2
      go_ret
      exact ⟨ret_int (by unfold countN; rw [if_pos (by omega)]), rfl⟩
    · have b1 := belowN_bd lo (by omega) (by omega)
      have b2 := belowN_bd 1114112 (by omega) (by omega)
      go_enter Try.func43, Try.ntmps43
      go_wp2_with (first | (go_at_call 54; go_must (refine (below_any _ _ (by omega) (by omega)).mono ?_; rintro e w' ⟨rfl, rfl⟩)))
      go_ret
      exact ⟨ret_int (by unfold countN; rw [if_neg (by omega), show min hi 1114111 = 1114111 by omega, show max lo 0 = lo by omega]; rfl), rfl⟩
  · by_cases c3 : hi < lo
    · go_enter Try.func43, Try.ntmps43
      go_wp2
      go_ret
      exact ⟨ret_int (by unfold countN; rw [if_pos (by omega)]), rfl⟩
    · have b1 := belowN_bd lo (by omega) (by omega)
      have b2 := belowN_bd (hi + 1) (by omega) (by omega)
      go_enter Try.func43, Try.ntmps43
      go_wp2_with (first | (go_at_call 54; go_must (refine (below_any _ _ (by omega) (by omega)).mono ?_; rintro e w' ⟨rfl, rfl⟩)))
      go_ret
      exact ⟨ret_int (by unfold countN; rw [if_neg (by omega), show min hi 1114111 = hi by omega, show max lo 0 = lo by omega]), rfl⟩

/-- A scalar? -/
def isB (v : Int) : Bool := decide (0 ≤ v ∧ v < 55296 ∨ 57344 ≤ v ∧ v ≤ 1114111)

theorem is_any (v : Int) (w : World) :
    Calls Try.prog 40 #[.int .i64 v] w fun e w' => e = .returned (.bool (isB v)) ∧ w = w' := by
  by_cases h : 0 ≤ v ∧ v < 55296 ∨ 57344 ≤ v ∧ v ≤ 1114111
  · rw [show isB v = true from decide_eq_true h]
    exact is_yes v w h
  · rw [show isB v = false from decide_eq_false h]
    exact is_no v w (by omega)

/-- The least scalar above; whether there is one. -/
def nextN (v : Int) : Int := if v < 0 ∨ 1114111 ≤ v then 0 else if 55295 ≤ v ∧ v < 57344 then 57344 else v + 1
def nextB (v : Int) : Bool := decide (v < 1114111)

theorem ret_two {a b : Int} {x y : Bool} (h : a = b) (k : x = y) : Ending.returned (.tuple #[.int .i64 a, .bool x]) = .returned (.tuple #[.int .i64 b, .bool y]) := by rw [h, k]

theorem next_any (v : Int) (w : World) :
    Calls Try.prog 34 #[.int .i64 v] w fun e w' => e = .returned (.tuple #[.int .i64 (nextN v), .bool (nextB v)]) ∧ w = w' := by
  by_cases c1 : v < 0
  · go_enter Try.func34, Try.ntmps34
    go_wp2
    go_ret2
    exact ⟨ret_two (by unfold nextN; rw [if_pos (by omega)]) (by unfold nextB; rw [decide_eq_true (by omega)]), rfl⟩
  · by_cases c2 : 1114111 ≤ v
    · go_enter Try.func34, Try.ntmps34
      go_wp2
      go_ret2
      exact ⟨ret_two (by unfold nextN; rw [if_pos (by omega)]) (by unfold nextB; rw [decide_eq_false (by omega)]), rfl⟩
    · by_cases c3 : 55295 ≤ v ∧ v < 57344 - 1
      · obtain ⟨c4, c5⟩ := c3
        go_enter Try.func34, Try.ntmps34
        go_wp2_with (first | (go_at_call 40; go_must (refine (is_no _ _ (by omega)).mono ?_; rintro e w' ⟨rfl, rfl⟩)))
        go_ret2
        exact ⟨ret_two (by unfold nextN; rw [if_neg (by omega), if_pos (by omega)]) (by unfold nextB; rw [decide_eq_true (by omega)]), rfl⟩
      · go_enter Try.func34, Try.ntmps34
        go_wp2_with (first | (go_at_call 40; go_must (refine (is_yes _ _ (by omega)).mono ?_; rintro e w' ⟨rfl, rfl⟩)))
        go_ret2
        exact ⟨ret_two (by unfold nextN; rw [if_neg (by omega)]; split <;> omega) (by unfold nextB; rw [decide_eq_true (by omega)]), rfl⟩

/-- The greatest scalar below; whether there is one. -/
def prevN (v : Int) : Int := if v ≤ 0 then 0 else if 1114111 < v then 1114111 else if 55296 < v ∧ v ≤ 57344 then 55295 else v - 1
def prevB (v : Int) : Bool := decide (0 < v)

theorem prev_any (v : Int) (w : World) :
    Calls Try.prog 33 #[.int .i64 v] w fun e w' => e = .returned (.tuple #[.int .i64 (prevN v), .bool (prevB v)]) ∧ w = w' := by
  by_cases c1 : v ≤ 0
  · go_enter Try.func33, Try.ntmps33
    go_wp2
    go_ret2
    exact ⟨ret_two (by unfold prevN; rw [if_pos (by omega)]) (by unfold prevB; rw [decide_eq_false (by omega)]), rfl⟩
  · by_cases c2 : 1114111 < v
    · go_enter Try.func33, Try.ntmps33
      go_wp2
      go_ret2
      exact ⟨ret_two (by unfold prevN; rw [if_neg (by omega), if_pos (by omega)]) (by unfold prevB; rw [decide_eq_true (by omega)]), rfl⟩
    · by_cases c3 : 55296 < v ∧ v ≤ 57344
      · obtain ⟨c4, c5⟩ := c3
        go_enter Try.func33, Try.ntmps33
        go_wp2_with (first | (go_at_call 40; go_must (refine (is_no _ _ (by omega)).mono ?_; rintro e w' ⟨rfl, rfl⟩)))
        go_ret2
        exact ⟨ret_two (by unfold prevN; rw [if_neg (by omega), if_neg (by omega), if_pos (by omega)]) (by unfold prevB; rw [decide_eq_true (by omega)]), rfl⟩
      · go_enter Try.func33, Try.ntmps33
        go_wp2_with (first | (go_at_call 40; go_must (refine (is_yes _ _ (by omega)).mono ?_; rintro e w' ⟨rfl, rfl⟩)))
        go_ret2
        exact ⟨ret_two (by unfold prevN; rw [if_neg (by omega), if_neg (by omega), if_neg (by omega)]) (by unfold prevB; rw [decide_eq_true (by omega)]), rfl⟩

open Go.RowKit
theorem ret_bool {a b : Bool} (h : a = b) : Ending.returned (.bool a) = .returned (.bool b) := by rw [h]

theorem refIs_any (v : Int) (w : World) :
    Calls Try.prog 28 #[.int .i64 v] w fun e w' => e = .returned (.bool (isB v)) ∧ w = w' := by
  by_cases c1 : 0 ≤ v
  · by_cases c2 : v < 55296
    · rw [show isB v = true from decide_eq_true (by omega)]
      go_enter Try.func28, Try.ntmps28
      go_wp2
      go_ret
      exact ⟨rfl, rfl⟩
    · by_cases c3 : 57344 ≤ v
      · by_cases c4 : v ≤ 1114111
        · rw [show isB v = true from decide_eq_true (by omega)]
          go_enter Try.func28, Try.ntmps28
          go_wp2
          go_ret
          exact ⟨rfl, rfl⟩
        · rw [show isB v = false from decide_eq_false (by omega)]
          go_enter Try.func28, Try.ntmps28
          go_wp2
          go_ret
          exact ⟨rfl, rfl⟩
      · rw [show isB v = false from decide_eq_false (by omega)]
        go_enter Try.func28, Try.ntmps28
        go_wp2
        go_ret
        exact ⟨rfl, rfl⟩
  · rw [show isB v = false from decide_eq_false (by omega)]
    go_enter Try.func28, Try.ntmps28
    go_wp2
    go_ret
    exact ⟨rfl, rfl⟩

/-- The document's Below, at any number. -/
def refBelowN (v : Int) : Int := belowN (max 0 (min v 1114112))

theorem refBelow_any (v : Int) (w : World) :
    Calls Try.prog 55 #[.int .i64 v] w fun e w' => e = .returned (.int .i64 (refBelowN v)) ∧ w = w' := by
  have hd : refBelowN v = belowN (max 0 (min v 1114112)) := rfl
  by_cases c1 : v ≤ 0
  · rw [show max 0 (min v 1114112) = 0 by omega] at hd
    rw [hd]
    clear hd
    go_enter Try.func55, Try.ntmps55
    go_wp2
    go_ret
    exact ⟨rfl, rfl⟩
  · by_cases c2 : 1114112 < v
    · rw [show max 0 (min v 1114112) = 1114112 by omega] at hd
      rw [hd]
      clear hd
      go_enter Try.func55, Try.ntmps55
      go_wp2
      go_ret
      exact ⟨rfl, rfl⟩
    · rw [show max 0 (min v 1114112) = v by omega] at hd
      rw [hd]
      clear hd
      by_cases c3 : v ≤ 55296
      · go_enter Try.func55, Try.ntmps55
        go_wp2
        go_ret
        exact ⟨ret_int (by unfold belowN; rw [if_pos c3]), rfl⟩
      · by_cases c4 : v < 57344
        · go_enter Try.func55, Try.ntmps55
          go_wp2
          go_ret
          exact ⟨ret_int (by unfold belowN; rw [if_neg (by omega), if_pos (by omega)]), rfl⟩
        · go_enter Try.func55, Try.ntmps55
          go_wp2
          go_ret
          exact ⟨ret_int (by unfold belowN; rw [if_neg (by omega)]; split <;> omega), rfl⟩

theorem refBelowN_bd (v : Int) : 0 ≤ refBelowN v ∧ refBelowN v ≤ 1112064 := belowN_bd _ (by omega) (by omega)

theorem refCount_any (lo hi : Int) (w : World) :
    Calls Try.prog 44 #[.int .i64 lo, .int .i64 hi] w fun e w' => e = .returned (.int .i64 (countN lo hi)) ∧ w = w' := by
  by_cases c1 : hi < lo
  · go_enter Try.func44, Try.ntmps44
    go_wp2
    go_ret
    exact ⟨ret_int (by unfold countN; rw [if_pos (by omega)]), rfl⟩
  · by_cases c2 : hi < 0
    · go_enter Try.func44, Try.ntmps44
      go_wp2
      go_ret
      exact ⟨ret_int (by unfold countN; rw [if_pos (by omega)]), rfl⟩
    · by_cases c3 : 1114111 < lo
      · go_enter Try.func44, Try.ntmps44
        go_wp2
        go_ret
        exact ⟨ret_int (by unfold countN; rw [if_pos (by omega)]), rfl⟩
      · have bl := refBelowN_bd lo
        by_cases c4 : 1114111 < hi
        · have bh := refBelowN_bd 1114112
          go_enter Try.func44, Try.ntmps44
          go_wp2_with (first | (go_at_call 55; go_must (refine (refBelow_any _ _).mono ?_; rintro e w' ⟨rfl, rfl⟩)))
          go_ret
          exact ⟨ret_int (by unfold countN; rw [if_neg (by omega), show min hi 1114111 + 1 = 1114112 by omega]; show belowN 1114112 - belowN (max 0 (min lo 1114112)) = _; rw [show max 0 (min lo 1114112) = max lo 0 by omega]), rfl⟩
        · have bh := refBelowN_bd (hi + 1)
          go_enter Try.func44, Try.ntmps44
          go_wp2_with (first | (go_at_call 55; go_must (refine (refBelow_any _ _).mono ?_; rintro e w' ⟨rfl, rfl⟩)))
          go_ret
          exact ⟨ret_int (by unfold countN; rw [if_neg (by omega), show min hi 1114111 = hi by omega]; unfold refBelowN; rw [show max 0 (min lo 1114112) = max lo 0 by omega, show max 0 (min (hi + 1) 1114112) = hi + 1 by omega]), rfl⟩

/-- The document's Next: a struct, which it lays in one new block. -/
theorem refNext_any (v : Int) (w : World) :
    Calls Try.prog 39 #[.int .i64 v] w fun e w' => e = .returned (.agg #[.int .i64 (nextN v), .bool (nextB v)]) ∧ Grown w w' := by
  by_cases c1 : 1114111 ≤ v
  · rw [show nextN v = 0 by unfold nextN; rw [if_pos (by omega)], show nextB v = false from decide_eq_false (by omega)]
    go_enter Try.func39, Try.ntmps39
    go_wp2
    exact bodyPost_ret (v := .agg #[.int .i64 0, .bool false]) (by simp [results, Try.results39, go_sem]) rfl ⟨rfl, by repeat (first | exact Grown.refl _ | apply Grown.drew | apply Grown.alloc | apply Grown.setCell)⟩
  · rw [show nextB v = true from decide_eq_true (by omega)]
    by_cases c2 : v < 0
    · rw [show nextN v = 0 by unfold nextN; rw [if_pos (by omega)]]
      go_enter Try.func39, Try.ntmps39
      go_wp2
      exact bodyPost_ret (v := .agg #[.int .i64 0, .bool true]) (by simp [results, Try.results39, go_sem]) rfl ⟨rfl, by repeat (first | exact Grown.refl _ | apply Grown.drew | apply Grown.alloc | apply Grown.setCell)⟩
    · by_cases c3 : 55295 ≤ v
      · by_cases c4 : v < 57344
        · rw [show nextN v = 57344 by unfold nextN; rw [if_neg (by omega), if_pos (by omega)]]
          go_enter Try.func39, Try.ntmps39
          go_wp2
          exact bodyPost_ret (v := .agg #[.int .i64 57344, .bool true]) (by simp [results, Try.results39, go_sem]) rfl ⟨rfl, by repeat (first | exact Grown.refl _ | apply Grown.drew | apply Grown.alloc | apply Grown.setCell)⟩
        · rw [show nextN v = v + 1 by unfold nextN; rw [if_neg (by omega), if_neg (by omega)]]
          go_enter Try.func39, Try.ntmps39
          go_wp2
          exact bodyPost_ret (v := .agg #[.int .i64 (v + 1), .bool true]) (by simp [results, Try.results39, go_sem]) rfl ⟨rfl, by repeat (first | exact Grown.refl _ | apply Grown.drew | apply Grown.alloc | apply Grown.setCell)⟩
      · rw [show nextN v = v + 1 by unfold nextN; rw [if_neg (by omega), if_neg (by omega)]]
        go_enter Try.func39, Try.ntmps39
        go_wp2
        exact bodyPost_ret (v := .agg #[.int .i64 (v + 1), .bool true]) (by simp [results, Try.results39, go_sem]) rfl ⟨rfl, by repeat (first | exact Grown.refl _ | apply Grown.drew | apply Grown.alloc | apply Grown.setCell)⟩

/-- The document's Prev: likewise. -/
theorem refPrev_any (v : Int) (w : World) :
    Calls Try.prog 50 #[.int .i64 v] w fun e w' => e = .returned (.agg #[.int .i64 (prevN v), .bool (prevB v)]) ∧ Grown w w' := by
  by_cases c1 : v ≤ 0
  · rw [show prevN v = 0 by unfold prevN; rw [if_pos (by omega)], show prevB v = false from decide_eq_false (by omega)]
    go_enter Try.func50, Try.ntmps50
    go_wp2
    exact bodyPost_ret (v := .agg #[.int .i64 0, .bool false]) (by simp [results, Try.results50, go_sem]) rfl ⟨rfl, by repeat (first | exact Grown.refl _ | apply Grown.drew | apply Grown.alloc | apply Grown.setCell)⟩
  · rw [show prevB v = true from decide_eq_true (by omega)]
    by_cases c2 : 1114111 < v
    · rw [show prevN v = 1114111 by unfold prevN; rw [if_neg (by omega), if_pos (by omega)]]
      go_enter Try.func50, Try.ntmps50
      go_wp2
      exact bodyPost_ret (v := .agg #[.int .i64 1114111, .bool true]) (by simp [results, Try.results50, go_sem]) rfl ⟨rfl, by repeat (first | exact Grown.refl _ | apply Grown.drew | apply Grown.alloc | apply Grown.setCell)⟩
    · by_cases c3 : 55296 < v
      · by_cases c4 : v ≤ 57344
        · rw [show prevN v = 55295 by unfold prevN; rw [if_neg (by omega), if_neg (by omega), if_pos (by omega)]]
          go_enter Try.func50, Try.ntmps50
          go_wp2
          exact bodyPost_ret (v := .agg #[.int .i64 55295, .bool true]) (by simp [results, Try.results50, go_sem]) rfl ⟨rfl, by repeat (first | exact Grown.refl _ | apply Grown.drew | apply Grown.alloc | apply Grown.setCell)⟩
        · rw [show prevN v = v - 1 by unfold prevN; rw [if_neg (by omega), if_neg (by omega), if_neg (by omega)]]
          go_enter Try.func50, Try.ntmps50
          go_wp2
          exact bodyPost_ret (v := .agg #[.int .i64 (v - 1), .bool true]) (by simp [results, Try.results50, go_sem]) rfl ⟨rfl, by repeat (first | exact Grown.refl _ | apply Grown.drew | apply Grown.alloc | apply Grown.setCell)⟩
      · rw [show prevN v = v - 1 by unfold prevN; rw [if_neg (by omega), if_neg (by omega), if_neg (by omega)]]
        go_enter Try.func50, Try.ntmps50
        go_wp2
        exact bodyPost_ret (v := .agg #[.int .i64 (v - 1), .bool true]) (by simp [results, Try.results50, go_sem]) rfl ⟨rfl, by repeat (first | exact Grown.refl _ | apply Grown.drew | apply Grown.alloc | apply Grown.setCell)⟩

theorem grown_trans {a b c : World} (h : Grown a b) (k : Grown b c) : Grown a c :=
  ⟨World.keptBut_trans h.1 k.1, fun x => (k.2.1 x).trans (h.2.1 x), Nat.le_trans h.2.2 k.2.2⟩

end Go.Proofs.Ytehikcddnjibcaa
