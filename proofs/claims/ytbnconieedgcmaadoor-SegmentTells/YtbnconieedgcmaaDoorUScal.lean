/- What the functions of package scalar that this seat reaches return: for every 64-bit integer, without touching memory. -/
import Derived.Test.YtbnconieedgcmaaDoorRows
import Derived.WalkKit
import Derived.ProofKit
import Derived.OpenShut
import Derived.Lib.Hide
import Derived.Deep.DeepMust
namespace Go.Proofs.YtbnconieedgcmaaDoor.U

/-- ValidRune at a 32-bit number. -/
theorem valid_yes (v : Int) (w : World) (h : 0 ≤ v ∧ v < 55296 ∨ 57344 ≤ v ∧ v ≤ 1114111) :
    Calls Tryd.prog 118 #[.int .i32 v] w fun e w' => e = .returned (.bool true) ∧ w = w' := by
  rcases h with ⟨h0, h1⟩ | ⟨h0, h1⟩
  · go_enter Tryd.func118, Tryd.ntmps118
    go_wp2
    go_ret
    exact ⟨rfl, rfl⟩
  · have h2 : ¬ v < 55296 := by omega
    have h3 : 0 ≤ v := by omega
    have h4 : 57343 < v := by omega
    go_enter Tryd.func118, Tryd.ntmps118
    go_wp2
    go_ret
    exact ⟨rfl, rfl⟩

theorem valid_no (v : Int) (w : World) (h : v < 0 ∨ 55296 ≤ v ∧ v < 57344 ∨ 1114111 < v) :
    Calls Tryd.prog 118 #[.int .i32 v] w fun e w' => e = .returned (.bool false) ∧ w = w' := by
  rcases h with h0 | ⟨h0, h1⟩ | h0
  all_goals
    go_enter Tryd.func118, Tryd.ntmps118
    go_wp2
    go_ret
    exact ⟨rfl, rfl⟩

theorem is_yes (v : Int) (w : World) (h : 0 ≤ v ∧ v < 55296 ∨ 57344 ≤ v ∧ v ≤ 1114111) :
    Calls Tryd.prog 103 #[.int .i64 v] w fun e w' => e = .returned (.bool true) ∧ w = w' := by
  have h0 : 0 ≤ v := by omega
  have h1 : v ≤ 1114111 := by omega
  have H := Lib.hid h
  clear h
  go_enter Tryd.func103, Tryd.ntmps103
  go_wp2_with (first | (go_at_call 118; go_must (refine (valid_yes _ _ H.out).mono ?_; rintro e w' ⟨rfl, rfl⟩)))
  go_ret
  exact ⟨rfl, rfl⟩

theorem is_no (v : Int) (w : World) (h : v < 0 ∨ 55296 ≤ v ∧ v < 57344 ∨ 1114111 < v) :
    Calls Tryd.prog 103 #[.int .i64 v] w fun e w' => e = .returned (.bool false) ∧ w = w' := by
  by_cases hr : -2147483648 ≤ v ∧ v ≤ 2147483647
  · obtain ⟨h0, h1⟩ := hr
    have H := Lib.hid h
    clear h
    go_enter Tryd.func103, Tryd.ntmps103
    go_wp2_with (first | (go_at_call 118; go_must (refine (valid_no _ _ H.out).mono ?_; rintro e w' ⟨rfl, rfl⟩)))
    go_ret
    exact ⟨rfl, rfl⟩
  · have hw : (RowKit.wrap64 (RowKit.wrap32 v) == v) = false := by
      rw [beq_eq_false_iff_ne]
      unfold RowKit.wrap64 RowKit.wrap32
      omega
    clear h hr
    go_enter Tryd.func103, Tryd.ntmps103
    go_wp2
    go_ret
    exact ⟨rfl, rfl⟩

/-- How many scalars are below a number that is from 0 to 1114112. -/
def belowN (v : Int) : Int := if v ≤ 55296 then v else if v ≤ 57344 then 55296 else v - 2048

theorem ret_int {a b : Int} (h : a = b) : Ending.returned (.int .i64 a) = .returned (.int .i64 b) := by rw [h]

theorem below_any (v : Int) (w : World) (h0 : 0 ≤ v) (h1 : v ≤ 1114112) :
    Calls Tryd.prog 126 #[.int .i64 v] w fun e w' => e = .returned (.int .i64 (belowN v)) ∧ w = w' := by
  by_cases c1 : v ≤ 55296
  · go_enter Tryd.func126, Tryd.ntmps126
    go_wp2
    all_goals
      go_ret
      exact ⟨ret_int (by unfold belowN; split <;> (try split) <;> omega), rfl⟩
  · by_cases c2 : v ≤ 57344
    all_goals
      go_enter Tryd.func126, Tryd.ntmps126
      go_wp2
      all_goals
        go_ret
        exact ⟨ret_int (by unfold belowN; split <;> (try split) <;> omega), rfl⟩

/-- How many scalars are from one number to another. -/
def countN (lo hi : Int) : Int := if min hi 1114111 < max lo 0 then 0 else belowN (min hi 1114111 + 1) - belowN (max lo 0)

theorem belowN_bd (v : Int) (h0 : 0 ≤ v) (h1 : v ≤ 1114112) : 0 ≤ belowN v ∧ belowN v ≤ 1112064 := by
  unfold belowN; split <;> (try split) <;> omega

theorem count_any (lo hi : Int) (w : World) :
    Calls Tryd.prog 121 #[.int .i64 lo, .int .i64 hi] w fun e w' => e = .returned (.int .i64 (countN lo hi)) ∧ w = w' := by
  by_cases c1 : lo < 0 <;> by_cases c2 : 1114111 < hi
  · have b1 := belowN_bd 0 (by omega) (by omega)
    have b2 := belowN_bd 1114112 (by omega) (by omega)
    go_enter Tryd.func121, Tryd.ntmps121
    go_wp2_with (first | (go_at_call 126; go_must (refine (below_any _ _ (by omega) (by omega)).mono ?_; rintro e w' ⟨rfl, rfl⟩)))
    go_ret
    exact ⟨ret_int (by unfold countN; rw [if_neg (by omega), show min hi 1114111 = 1114111 by omega, show max lo 0 = 0 by omega]; rfl), rfl⟩
  · by_cases c3 : hi < 0
    · go_enter Tryd.func121, Tryd.ntmps121
      go_wp2
      go_ret
      exact ⟨ret_int (by unfold countN; rw [if_pos (by omega)]), rfl⟩
    · have b1 := belowN_bd 0 (by omega) (by omega)
      have b2 := belowN_bd (hi + 1) (by omega) (by omega)
      go_enter Tryd.func121, Tryd.ntmps121
      go_wp2_with (first | (go_at_call 126; go_must (refine (below_any _ _ (by omega) (by omega)).mono ?_; rintro e w' ⟨rfl, rfl⟩)))
      go_ret
      exact ⟨ret_int (by unfold countN; rw [if_neg (by omega), show min hi 1114111 = hi by omega, show max lo 0 = 0 by omega]), rfl⟩
  · by_cases c3 : 1114111 < lo
    · go_enter Tryd.func121, Tryd.ntmps121
      go_wp2
      go_ret
      exact ⟨ret_int (by unfold countN; rw [if_pos (by omega)]), rfl⟩
    · have b1 := belowN_bd lo (by omega) (by omega)
      have b2 := belowN_bd 1114112 (by omega) (by omega)
      go_enter Tryd.func121, Tryd.ntmps121
      go_wp2_with (first | (go_at_call 126; go_must (refine (below_any _ _ (by omega) (by omega)).mono ?_; rintro e w' ⟨rfl, rfl⟩)))
      go_ret
      exact ⟨ret_int (by unfold countN; rw [if_neg (by omega), show min hi 1114111 = 1114111 by omega, show max lo 0 = lo by omega]; rfl), rfl⟩
  · by_cases c3 : hi < lo
    · go_enter Tryd.func121, Tryd.ntmps121
      go_wp2
      go_ret
      exact ⟨ret_int (by unfold countN; rw [if_pos (by omega)]), rfl⟩
    · have b1 := belowN_bd lo (by omega) (by omega)
      have b2 := belowN_bd (hi + 1) (by omega) (by omega)
      go_enter Tryd.func121, Tryd.ntmps121
      go_wp2_with (first | (go_at_call 126; go_must (refine (below_any _ _ (by omega) (by omega)).mono ?_; rintro e w' ⟨rfl, rfl⟩)))
      go_ret
      exact ⟨ret_int (by unfold countN; rw [if_neg (by omega), show min hi 1114111 = hi by omega, show max lo 0 = lo by omega]), rfl⟩

/-- A scalar? -/
def isB (v : Int) : Bool := decide (0 ≤ v ∧ v < 55296 ∨ 57344 ≤ v ∧ v ≤ 1114111)

theorem is_any (v : Int) (w : World) :
    Calls Tryd.prog 103 #[.int .i64 v] w fun e w' => e = .returned (.bool (isB v)) ∧ w = w' := by
  by_cases h : 0 ≤ v ∧ v < 55296 ∨ 57344 ≤ v ∧ v ≤ 1114111
  · rw [show isB v = true from decide_eq_true h]
    exact is_yes v w h
  · rw [show isB v = false from decide_eq_false h]
    exact is_no v w (by omega)


end Go.Proofs.YtbnconieedgcmaaDoor.U
