/- What the functions of package scalar, and the document's answers for them, return: for every 64-bit integer, without touching memory (the document's Next and Prev lay one new block each). -/
import Derived.Test.YtpmgebfdiclblaaRows
import Derived.WalkKit
import Derived.ProofKit
import Derived.OpenShut
import Derived.Lib.Hide
import Derived.Deep.DeepMust
namespace Go.Proofs.Ytpmgebfdiclblaa

/-- ValidRune at a 32-bit number. -/
theorem valid_yes (v : Int) (w : World) (h : 0 ≤ v ∧ v < 55296 ∨ 57344 ≤ v ∧ v ≤ 1114111) :
    Calls Try.prog 20 #[.int .i32 v] w fun e w' => e = .returned (.bool true) ∧ w = w' := by
  rcases h with ⟨h0, h1⟩ | ⟨h0, h1⟩
  · go_enter Try.func20, Try.ntmps20
    go_wp2
    go_ret
    exact ⟨rfl, rfl⟩
  · have h2 : ¬ v < 55296 := by omega
    have h3 : 0 ≤ v := by omega
    have h4 : 57343 < v := by omega
    go_enter Try.func20, Try.ntmps20
    go_wp2
    go_ret
    exact ⟨rfl, rfl⟩

theorem valid_no (v : Int) (w : World) (h : v < 0 ∨ 55296 ≤ v ∧ v < 57344 ∨ 1114111 < v) :
    Calls Try.prog 20 #[.int .i32 v] w fun e w' => e = .returned (.bool false) ∧ w = w' := by
  rcases h with h0 | ⟨h0, h1⟩ | h0
  all_goals
    go_enter Try.func20, Try.ntmps20
    go_wp2
    go_ret
    exact ⟨rfl, rfl⟩

theorem is_yes (v : Int) (w : World) (h : 0 ≤ v ∧ v < 55296 ∨ 57344 ≤ v ∧ v ≤ 1114111) :
    Calls Try.prog 15 #[.int .i64 v] w fun e w' => e = .returned (.bool true) ∧ w = w' := by
  have h0 : 0 ≤ v := by omega
  have h1 : v ≤ 1114111 := by omega
  have H := Lib.hid h
  clear h
  go_enter Try.func15, Try.ntmps15
  go_wp2_with (first | (go_at_call 20; go_must (refine (valid_yes _ _ H.out).mono ?_; rintro e w' ⟨rfl, rfl⟩)))
  go_ret
  exact ⟨rfl, rfl⟩

theorem is_no (v : Int) (w : World) (h : v < 0 ∨ 55296 ≤ v ∧ v < 57344 ∨ 1114111 < v) :
    Calls Try.prog 15 #[.int .i64 v] w fun e w' => e = .returned (.bool false) ∧ w = w' := by
  by_cases hr : -2147483648 ≤ v ∧ v ≤ 2147483647
  · obtain ⟨h0, h1⟩ := hr
    have H := Lib.hid h
    clear h
    go_enter Try.func15, Try.ntmps15
    go_wp2_with (first | (go_at_call 20; go_must (refine (valid_no _ _ H.out).mono ?_; rintro e w' ⟨rfl, rfl⟩)))
    go_ret
    exact ⟨rfl, rfl⟩
  · have hw : (RowKit.wrap64 (RowKit.wrap32 v) == v) = false := by
      rw [beq_eq_false_iff_ne]
      unfold RowKit.wrap64 RowKit.wrap32
      omega
    clear h hr
    go_enter Try.func15, Try.ntmps15
    go_wp2
    go_ret
    exact ⟨rfl, rfl⟩

/-- How many scalars are below a number that is from 0 to 1114112. -/
def belowN (v : Int) : Int := if v ≤ 55296 then v else if v ≤ 57344 then 55296 else v - 2048

theorem ret_int {a b : Int} (h : a = b) : Ending.returned (.int .i64 a) = .returned (.int .i64 b) := by rw [h]

theorem below_any (v : Int) (w : World) (h0 : 0 ≤ v) (h1 : v ≤ 1114112) :
    Calls Try.prog 19 #[.int .i64 v] w fun e w' => e = .returned (.int .i64 (belowN v)) ∧ w = w' := by
  by_cases c1 : v ≤ 55296
  · go_enter Try.func19, Try.ntmps19
    go_wp2
    all_goals
      go_ret
      exact ⟨ret_int (by unfold belowN; split <;> (try split) <;> omega), rfl⟩
  · by_cases c2 : v ≤ 57344
    all_goals
      go_enter Try.func19, Try.ntmps19
      go_wp2
      all_goals
        go_ret
        exact ⟨ret_int (by unfold belowN; split <;> (try split) <;> omega), rfl⟩

/-- How many scalars are from one number to another. -/
def countN (lo hi : Int) : Int := if min hi 1114111 < max lo 0 then 0 else belowN (min hi 1114111 + 1) - belowN (max lo 0)

theorem belowN_bd (v : Int) (h0 : 0 ≤ v) (h1 : v ≤ 1114112) : 0 ≤ belowN v ∧ belowN v ≤ 1112064 := by
  unfold belowN; split <;> (try split) <;> omega

theorem count_any (lo hi : Int) (w : World) :
    Calls Try.prog 16 #[.int .i64 lo, .int .i64 hi] w fun e w' => e = .returned (.int .i64 (countN lo hi)) ∧ w = w' := by
  by_cases c1 : lo < 0 <;> by_cases c2 : 1114111 < hi
  · have b1 := belowN_bd 0 (by omega) (by omega)
    have b2 := belowN_bd 1114112 (by omega) (by omega)
    go_enter Try.func16, Try.ntmps16
    go_wp2_with (first | (go_at_call 19; go_must (refine (below_any _ _ (by omega) (by omega)).mono ?_; rintro e w' ⟨rfl, rfl⟩)))
    go_ret
    exact ⟨ret_int (by unfold countN; rw [if_neg (by omega), show min hi 1114111 = 1114111 by omega, show max lo 0 = 0 by omega]; rfl), rfl⟩
  · by_cases c3 : hi < 0
    · go_enter Try.func16, Try.ntmps16
      go_wp2
      go_ret
      exact ⟨ret_int (by unfold countN; rw [if_pos (by omega)]), rfl⟩
    · have b1 := belowN_bd 0 (by omega) (by omega)
      have b2 := belowN_bd (hi + 1) (by omega) (by omega)
      go_enter Try.func16, Try.ntmps16
      go_wp2_with (first | (go_at_call 19; go_must (refine (below_any _ _ (by omega) (by omega)).mono ?_; rintro e w' ⟨rfl, rfl⟩)))
      go_ret
      exact ⟨ret_int (by unfold countN; rw [if_neg (by omega), show min hi 1114111 = hi by omega, show max lo 0 = 0 by omega]), rfl⟩
  · by_cases c3 : 1114111 < lo
    · go_enter Try.func16, Try.ntmps16
      go_wp2
      go_ret
      exact ⟨ret_int (by unfold countN; rw [if_pos (by omega)]), rfl⟩
    · have b1 := belowN_bd lo (by omega) (by omega)
      have b2 := belowN_bd 1114112 (by omega) (by omega)
      go_enter Try.func16, Try.ntmps16
      go_wp2_with (first | (go_at_call 19; go_must (refine (below_any _ _ (by omega) (by omega)).mono ?_; rintro e w' ⟨rfl, rfl⟩)))
      go_ret
      exact ⟨ret_int (by unfold countN; rw [if_neg (by omega), show min hi 1114111 = 1114111 by omega, show max lo 0 = lo by omega]; rfl), rfl⟩
  · by_cases c3 : hi < lo
    · go_enter Try.func16, Try.ntmps16
      go_wp2
      go_ret
      exact ⟨ret_int (by unfold countN; rw [if_pos (by omega)]), rfl⟩
    · have b1 := belowN_bd lo (by omega) (by omega)
      have b2 := belowN_bd (hi + 1) (by omega) (by omega)
      go_enter Try.func16, Try.ntmps16
      go_wp2_with (first | (go_at_call 19; go_must (refine (below_any _ _ (by omega) (by omega)).mono ?_; rintro e w' ⟨rfl, rfl⟩)))
      go_ret
      exact ⟨ret_int (by unfold countN; rw [if_neg (by omega), show min hi 1114111 = hi by omega, show max lo 0 = lo by omega]), rfl⟩

/-- A scalar? -/
def isB (v : Int) : Bool := decide (0 ≤ v ∧ v < 55296 ∨ 57344 ≤ v ∧ v ≤ 1114111)

theorem is_any (v : Int) (w : World) :
    Calls Try.prog 15 #[.int .i64 v] w fun e w' => e = .returned (.bool (isB v)) ∧ w = w' := by
  by_cases h : 0 ≤ v ∧ v < 55296 ∨ 57344 ≤ v ∧ v ≤ 1114111
  · rw [show isB v = true from decide_eq_true h]
    exact is_yes v w h
  · rw [show isB v = false from decide_eq_false h]
    exact is_no v w (by omega)

/-- The least scalar above; whether there is one. -/
def nextN (v : Int) : Int := if v < 0 ∨ 1114111 ≤ v then 0 else if 55295 ≤ v ∧ v < 57344 then 57344 else v + 1
def nextB (v : Int) : Bool := decide (v < 1114111)

theorem ret_two {a b : Int} {x y : Bool} (h : a = b) (k : x = y) : Ending.returned (.tuple #[.int .i64 a, .bool x]) = .returned (.tuple #[.int .i64 b, .bool y]) := by rw [h, k]

theorem next_any (v : Int) (w : World) :
    Calls Try.prog 8 #[.int .i64 v] w fun e w' => e = .returned (.tuple #[.int .i64 (nextN v), .bool (nextB v)]) ∧ w = w' := by
  by_cases c1 : v < 0
  · go_enter Try.func8, Try.ntmps8
    go_wp2
    go_ret2
    exact ⟨ret_two (by unfold nextN; rw [if_pos (by omega)]) (by unfold nextB; rw [decide_eq_true (by omega)]), rfl⟩
  · by_cases c2 : 1114111 ≤ v
    · go_enter Try.func8, Try.ntmps8
      go_wp2
      go_ret2
      exact ⟨ret_two (by unfold nextN; rw [if_pos (by omega)]) (by unfold nextB; rw [decide_eq_false (by omega)]), rfl⟩
    · by_cases c3 : 55295 ≤ v ∧ v < 57344 - 1
      · obtain ⟨c4, c5⟩ := c3
        go_enter Try.func8, Try.ntmps8
        go_wp2_with (first | (go_at_call 15; go_must (refine (is_no _ _ (by omega)).mono ?_; rintro e w' ⟨rfl, rfl⟩)))
        go_ret2
        exact ⟨ret_two (by unfold nextN; rw [if_neg (by omega), if_pos (by omega)]) (by unfold nextB; rw [decide_eq_true (by omega)]), rfl⟩
      · go_enter Try.func8, Try.ntmps8
        go_wp2_with (first | (go_at_call 15; go_must (refine (is_yes _ _ (by omega)).mono ?_; rintro e w' ⟨rfl, rfl⟩)))
        go_ret2
        exact ⟨ret_two (by unfold nextN; rw [if_neg (by omega)]; split <;> omega) (by unfold nextB; rw [decide_eq_true (by omega)]), rfl⟩

/-- The greatest scalar below; whether there is one. -/
def prevN (v : Int) : Int := if v ≤ 0 then 0 else if 1114111 < v then 1114111 else if 55296 < v ∧ v ≤ 57344 then 55295 else v - 1
def prevB (v : Int) : Bool := decide (0 < v)

theorem prev_any (v : Int) (w : World) :
    Calls Try.prog 9 #[.int .i64 v] w fun e w' => e = .returned (.tuple #[.int .i64 (prevN v), .bool (prevB v)]) ∧ w = w' := by
  by_cases c1 : v ≤ 0
  · go_enter Try.func9, Try.ntmps9
    go_wp2
    go_ret2
    exact ⟨ret_two (by unfold prevN; rw [if_pos (by omega)]) (by unfold prevB; rw [decide_eq_false (by omega)]), rfl⟩
  · by_cases c2 : 1114111 < v
    · go_enter Try.func9, Try.ntmps9
      go_wp2
      go_ret2
      exact ⟨ret_two (by unfold prevN; rw [if_neg (by omega), if_pos (by omega)]) (by unfold prevB; rw [decide_eq_true (by omega)]), rfl⟩
    · by_cases c3 : 55296 < v ∧ v ≤ 57344
      · obtain ⟨c4, c5⟩ := c3
        go_enter Try.func9, Try.ntmps9
        go_wp2_with (first | (go_at_call 15; go_must (refine (is_no _ _ (by omega)).mono ?_; rintro e w' ⟨rfl, rfl⟩)))
        go_ret2
        exact ⟨ret_two (by unfold prevN; rw [if_neg (by omega), if_neg (by omega), if_pos (by omega)]) (by unfold prevB; rw [decide_eq_true (by omega)]), rfl⟩
      · go_enter Try.func9, Try.ntmps9
        go_wp2_with (first | (go_at_call 15; go_must (refine (is_yes _ _ (by omega)).mono ?_; rintro e w' ⟨rfl, rfl⟩)))
        go_ret2
        exact ⟨ret_two (by unfold prevN; rw [if_neg (by omega), if_neg (by omega), if_neg (by omega)]) (by unfold prevB; rw [decide_eq_true (by omega)]), rfl⟩

/-- A scalar's number among all. -/
def indexN (v : Int) : Int := if isB v = true then belowN v else 0

theorem index_any (v : Int) (w : World) :
    Calls Try.prog 10 #[.int .i64 v] w fun e w' => e = .returned (.tuple #[.int .i64 (indexN v), .bool (isB v)]) ∧ w = w' := by
  by_cases h : 0 ≤ v ∧ v < 55296 ∨ 57344 ≤ v ∧ v ≤ 1114111
  · rw [show indexN v = belowN v by unfold indexN; rw [if_pos (show isB v = true from decide_eq_true h)], show isB v = true from decide_eq_true h]
    have h0 : 0 ≤ v := by omega
    have h1 : v ≤ 1114111 := by omega
    have H := Lib.hid h
    clear h
    go_enter Try.func10, Try.ntmps10
    go_wp2_with (first | (go_at_call 15; go_must (refine (is_yes _ _ H.out).mono ?_; rintro e w' ⟨rfl, rfl⟩)) | (go_at_call 19; go_must (refine (below_any _ _ (by omega) (by omega)).mono ?_; rintro e w' ⟨rfl, rfl⟩)))
    go_ret2
    exact ⟨rfl, rfl⟩
  · rw [show indexN v = 0 by unfold indexN; rw [if_neg (by rw [show isB v = false from decide_eq_false h]; decide)], show isB v = false from decide_eq_false h]
    have H := Lib.hid h
    clear h
    go_enter Try.func10, Try.ntmps10
    go_wp2_with (first | (go_at_call 15; go_must (refine (is_no _ _ (by have := H.out; omega)).mono ?_; rintro e w' ⟨rfl, rfl⟩)))
    go_ret2
    exact ⟨rfl, rfl⟩

/-- What the statements call beside each answer: the program's own examples. -/
theorem wakes_any (w : World) :
    Calls Try.prog 18 #[] w fun e w' => e = .returned (.bool true) ∧ w = w' := by
  have e1 : nextN 55295 = 57344 := by decide
  have e2 : nextB 55295 = true := by decide
  have e3 : prevN 57344 = 55295 := by decide
  have e4 : prevB 57344 = true := by decide
  have e5 : nextB 1114111 = false := by decide
  have e6 : isB 1114111 = true := by decide
  have e7 : isB 57343 = false := by decide
  have e8 : countN 55295 57345 = 3 := by decide
  have e9 : indexN 57344 = 55296 := by decide
  have e10 : isB 57344 = true := by decide
  have e11 : isB 55296 = false := by decide
  have e12 : countN 5 4 = 0 := by decide
  go_enter Try.func18, Try.ntmps18
  go_wp2_with (first
    | (go_at_call 8; go_must (refine (next_any _ _).mono ?_; rintro e w' ⟨rfl, rfl⟩))
    | (go_at_call 9; go_must (refine (prev_any _ _).mono ?_; rintro e w' ⟨rfl, rfl⟩))
    | (go_at_call 10; go_must (refine (index_any _ _).mono ?_; rintro e w' ⟨rfl, rfl⟩))
    | (go_at_call 15; go_must (refine (is_any _ _).mono ?_; rintro e w' ⟨rfl, rfl⟩))
    | (go_at_call 16; go_must (refine (count_any _ _ _).mono ?_; rintro e w' ⟨rfl, rfl⟩)))
  go_ret
  exact ⟨rfl, rfl⟩

end Go.Proofs.Ytpmgebfdiclblaa
