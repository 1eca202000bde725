/- What the document's own answers for layer 1 return: for every 64-bit integer, the same functions as the program's. -/
import Derived.Test.YtpmgebfdiclblaaCallees
namespace Go.Proofs.Ytpmgebfdiclblaa
open Go.RowKit

theorem ret_bool {a b : Bool} (h : a = b) : Ending.returned (.bool a) = .returned (.bool b) := by rw [h]

theorem refIs_any (v : Int) (w : World) :
    Calls Try.prog 13 #[.int .i64 v] w fun e w' => e = .returned (.bool (isB v)) ∧ w = w' := by
  by_cases c1 : 0 ≤ v
  · by_cases c2 : v < 55296
    · rw [show isB v = true from decide_eq_true (by omega)]
      go_enter Try.func13, Try.ntmps13
      go_wp2
      go_ret
      exact ⟨rfl, rfl⟩
    · by_cases c3 : 57344 ≤ v
      · by_cases c4 : v ≤ 1114111
        · rw [show isB v = true from decide_eq_true (by omega)]
          go_enter Try.func13, Try.ntmps13
          go_wp2
          go_ret
          exact ⟨rfl, rfl⟩
        · rw [show isB v = false from decide_eq_false (by omega)]
          go_enter Try.func13, Try.ntmps13
          go_wp2
          go_ret
          exact ⟨rfl, rfl⟩
      · rw [show isB v = false from decide_eq_false (by omega)]
        go_enter Try.func13, Try.ntmps13
        go_wp2
        go_ret
        exact ⟨rfl, rfl⟩
  · rw [show isB v = false from decide_eq_false (by omega)]
    go_enter Try.func13, Try.ntmps13
    go_wp2
    go_ret
    exact ⟨rfl, rfl⟩

/-- The document's Below, at any number. -/
def refBelowN (v : Int) : Int := belowN (max 0 (min v 1114112))

theorem refBelow_any (v : Int) (w : World) :
    Calls Try.prog 14 #[.int .i64 v] w fun e w' => e = .returned (.int .i64 (refBelowN v)) ∧ w = w' := by
  have hd : refBelowN v = belowN (max 0 (min v 1114112)) := rfl
  by_cases c1 : v ≤ 0
  · rw [show max 0 (min v 1114112) = 0 by omega] at hd
    rw [hd]
    clear hd
    go_enter Try.func14, Try.ntmps14
    go_wp2
    go_ret
    exact ⟨rfl, rfl⟩
  · by_cases c2 : 1114112 < v
    · rw [show max 0 (min v 1114112) = 1114112 by omega] at hd
      rw [hd]
      clear hd
      go_enter Try.func14, Try.ntmps14
      go_wp2
      go_ret
      exact ⟨rfl, rfl⟩
    · rw [show max 0 (min v 1114112) = v by omega] at hd
      rw [hd]
      clear hd
      by_cases c3 : v ≤ 55296
      · go_enter Try.func14, Try.ntmps14
        go_wp2
        go_ret
        exact ⟨ret_int (by unfold belowN; rw [if_pos c3]), rfl⟩
      · by_cases c4 : v < 57344
        · go_enter Try.func14, Try.ntmps14
          go_wp2
          go_ret
          exact ⟨ret_int (by unfold belowN; rw [if_neg (by omega), if_pos (by omega)]), rfl⟩
        · go_enter Try.func14, Try.ntmps14
          go_wp2
          go_ret
          exact ⟨ret_int (by unfold belowN; rw [if_neg (by omega)]; split <;> omega), rfl⟩

theorem refBelowN_bd (v : Int) : 0 ≤ refBelowN v ∧ refBelowN v ≤ 1112064 := belowN_bd _ (by omega) (by omega)

theorem refCount_any (lo hi : Int) (w : World) :
    Calls Try.prog 17 #[.int .i64 lo, .int .i64 hi] w fun e w' => e = .returned (.int .i64 (countN lo hi)) ∧ w = w' := by
  by_cases c1 : hi < lo
  · go_enter Try.func17, Try.ntmps17
    go_wp2
    go_ret
    exact ⟨ret_int (by unfold countN; rw [if_pos (by omega)]), rfl⟩
  · by_cases c2 : hi < 0
    · go_enter Try.func17, Try.ntmps17
      go_wp2
      go_ret
      exact ⟨ret_int (by unfold countN; rw [if_pos (by omega)]), rfl⟩
    · by_cases c3 : 1114111 < lo
      · go_enter Try.func17, Try.ntmps17
        go_wp2
        go_ret
        exact ⟨ret_int (by unfold countN; rw [if_pos (by omega)]), rfl⟩
      · have bl := refBelowN_bd lo
        by_cases c4 : 1114111 < hi
        · have bh := refBelowN_bd 1114112
          go_enter Try.func17, Try.ntmps17
          go_wp2_with (first | (go_at_call 14; go_must (refine (refBelow_any _ _).mono ?_; rintro e w' ⟨rfl, rfl⟩)))
          go_ret
          exact ⟨ret_int (by unfold countN; rw [if_neg (by omega), show min hi 1114111 + 1 = 1114112 by omega]; show belowN 1114112 - belowN (max 0 (min lo 1114112)) = _; rw [show max 0 (min lo 1114112) = max lo 0 by omega]), rfl⟩
        · have bh := refBelowN_bd (hi + 1)
          go_enter Try.func17, Try.ntmps17
          go_wp2_with (first | (go_at_call 14; go_must (refine (refBelow_any _ _).mono ?_; rintro e w' ⟨rfl, rfl⟩)))
          go_ret
          exact ⟨ret_int (by unfold countN; rw [if_neg (by omega), show min hi 1114111 = hi by omega]; unfold refBelowN; rw [show max 0 (min lo 1114112) = max lo 0 by omega, show max 0 (min (hi + 1) 1114112) = hi + 1 by omega]), rfl⟩

/-- The document's Next: a struct, which it lays in one new block. -/
theorem refNext_any (v : Int) (w : World) :
    Calls Try.prog 11 #[.int .i64 v] w fun e w' => e = .returned (.agg #[.int .i64 (nextN v), .bool (nextB v)]) ∧ Grown w w' := by
  by_cases c1 : 1114111 ≤ v
  · rw [show nextN v = 0 by unfold nextN; rw [if_pos (by omega)], show nextB v = false from decide_eq_false (by omega)]
    go_enter Try.func11, Try.ntmps11
    go_wp2
    exact bodyPost_ret (v := .agg #[.int .i64 0, .bool false]) (by simp [results, Try.results11, go_sem]) rfl ⟨rfl, by repeat (first | exact Grown.refl _ | apply Grown.drew | apply Grown.alloc | apply Grown.setCell)⟩
  · rw [show nextB v = true from decide_eq_true (by omega)]
    by_cases c2 : v < 0
    · rw [show nextN v = 0 by unfold nextN; rw [if_pos (by omega)]]
      go_enter Try.func11, Try.ntmps11
      go_wp2
      exact bodyPost_ret (v := .agg #[.int .i64 0, .bool true]) (by simp [results, Try.results11, go_sem]) rfl ⟨rfl, by repeat (first | exact Grown.refl _ | apply Grown.drew | apply Grown.alloc | apply Grown.setCell)⟩
    · by_cases c3 : 55295 ≤ v
      · by_cases c4 : v < 57344
        · rw [show nextN v = 57344 by unfold nextN; rw [if_neg (by omega), if_pos (by omega)]]
          go_enter Try.func11, Try.ntmps11
          go_wp2
          exact bodyPost_ret (v := .agg #[.int .i64 57344, .bool true]) (by simp [results, Try.results11, go_sem]) rfl ⟨rfl, by repeat (first | exact Grown.refl _ | apply Grown.drew | apply Grown.alloc | apply Grown.setCell)⟩
        · rw [show nextN v = v + 1 by unfold nextN; rw [if_neg (by omega), if_neg (by omega)]]
          go_enter Try.func11, Try.ntmps11
          go_wp2
          exact bodyPost_ret (v := .agg #[.int .i64 (v + 1), .bool true]) (by simp [results, Try.results11, go_sem]) rfl ⟨rfl, by repeat (first | exact Grown.refl _ | apply Grown.drew | apply Grown.alloc | apply Grown.setCell)⟩
      · rw [show nextN v = v + 1 by unfold nextN; rw [if_neg (by omega), if_neg (by omega)]]
        go_enter Try.func11, Try.ntmps11
        go_wp2
        exact bodyPost_ret (v := .agg #[.int .i64 (v + 1), .bool true]) (by simp [results, Try.results11, go_sem]) rfl ⟨rfl, by repeat (first | exact Grown.refl _ | apply Grown.drew | apply Grown.alloc | apply Grown.setCell)⟩

/-- The document's Prev: likewise. -/
theorem refPrev_any (v : Int) (w : World) :
    Calls Try.prog 12 #[.int .i64 v] w fun e w' => e = .returned (.agg #[.int .i64 (prevN v), .bool (prevB v)]) ∧ Grown w w' := by
  by_cases c1 : v ≤ 0
  · rw [show prevN v = 0 by unfold prevN; rw [if_pos (by omega)], show prevB v = false from decide_eq_false (by omega)]
    go_enter Try.func12, Try.ntmps12
    go_wp2
    exact bodyPost_ret (v := .agg #[.int .i64 0, .bool false]) (by simp [results, Try.results12, go_sem]) rfl ⟨rfl, by repeat (first | exact Grown.refl _ | apply Grown.drew | apply Grown.alloc | apply Grown.setCell)⟩
  · rw [show prevB v = true from decide_eq_true (by omega)]
    by_cases c2 : 1114111 < v
    · rw [show prevN v = 1114111 by unfold prevN; rw [if_neg (by omega), if_pos (by omega)]]
      go_enter Try.func12, Try.ntmps12
      go_wp2
      exact bodyPost_ret (v := .agg #[.int .i64 1114111, .bool true]) (by simp [results, Try.results12, go_sem]) rfl ⟨rfl, by repeat (first | exact Grown.refl _ | apply Grown.drew | apply Grown.alloc | apply Grown.setCell)⟩
    · by_cases c3 : 55296 < v
      · by_cases c4 : v ≤ 57344
        · rw [show prevN v = 55295 by unfold prevN; rw [if_neg (by omega), if_neg (by omega), if_pos (by omega)]]
          go_enter Try.func12, Try.ntmps12
          go_wp2
          exact bodyPost_ret (v := .agg #[.int .i64 55295, .bool true]) (by simp [results, Try.results12, go_sem]) rfl ⟨rfl, by repeat (first | exact Grown.refl _ | apply Grown.drew | apply Grown.alloc | apply Grown.setCell)⟩
        · rw [show prevN v = v - 1 by unfold prevN; rw [if_neg (by omega), if_neg (by omega), if_neg (by omega)]]
          go_enter Try.func12, Try.ntmps12
          go_wp2
          exact bodyPost_ret (v := .agg #[.int .i64 (v - 1), .bool true]) (by simp [results, Try.results12, go_sem]) rfl ⟨rfl, by repeat (first | exact Grown.refl _ | apply Grown.drew | apply Grown.alloc | apply Grown.setCell)⟩
      · rw [show prevN v = v - 1 by unfold prevN; rw [if_neg (by omega), if_neg (by omega), if_neg (by omega)]]
        go_enter Try.func12, Try.ntmps12
        go_wp2
        exact bodyPost_ret (v := .agg #[.int .i64 (v - 1), .bool true]) (by simp [results, Try.results12, go_sem]) rfl ⟨rfl, by repeat (first | exact Grown.refl _ | apply Grown.drew | apply Grown.alloc | apply Grown.setCell)⟩

theorem grown_trans {a b c : World} (h : Grown a b) (k : Grown b c) : Grown a c :=
  ⟨World.keptBut_trans h.1 k.1, fun x => (k.2.1 x).trans (h.2.1 x), Nat.le_trans h.2.2 k.2.2⟩

end Go.Proofs.Ytpmgebfdiclblaa
