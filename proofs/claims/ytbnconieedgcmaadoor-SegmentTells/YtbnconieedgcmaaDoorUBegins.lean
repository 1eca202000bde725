/- What the program's begins returns at each kind of lead byte and each size. -/
import Derived.Test.YtbnconieedgcmaaDoorUBase
import Derived.Test.YtbnconieedgcmaaDoorUScal
namespace Go.Proofs.YtbnconieedgcmaaDoor.U
open Go.RowKit

theorem ret_bool {a b : Bool} (h : a = b) : Ending.returned (.bool a) = .returned (.bool b) := by rw [h]

theorem count_pos (lo hi : Int) : 0 < countN lo hi ↔ max lo 0 ≤ min hi 1114111 ∧ ¬ (55296 ≤ max lo 0 ∧ min hi 1114111 < 57344) := by
  unfold countN belowN
  split
  · omega
  · split <;> split <;> (try split) <;> (try split) <;> omega

theorem dec_eq {p q : Prop} [Decidable p] [Decidable q] (h : p ↔ q) : decide p = decide q := by
  by_cases hp : p
  · rw [decide_eq_true hp, decide_eq_true (h.1 hp)]
  · rw [decide_eq_false hp, decide_eq_false (fun hq => hp (h.2 hq))]

theorem begins22 (v : Int) (w : World) (h0 : 0 ≤ v) (h1 : v < 2048) :
    Calls Tryd.prog 111 #[.agg #[.int .u8 6, .int .u8 5, .int .i64 2, .int .i64 128], .int .i64 v, .int .i64 2] w fun e w' => e = .returned (.bool (decide (128 ≤ v))) ∧ Below w.heap.size w w' := by
  by_cases c : v < 128
  all_goals
    go_enter Tryd.func111, Tryd.ntmps111
    go_wp2_with (first | (go_at_call 121; go_must (refine (count_any _ _ _).mono ?_; rintro e w' ⟨rfl, rfl⟩)))
    go_ret
    exact ⟨ret_bool (dec_eq (by rw [count_pos]; omega)), by go_grown⟩
theorem begins32 (v : Int) (w : World) (h0 : 0 ≤ v) (h1 : v < 1024) :
    Calls Tryd.prog 111 #[.agg #[.int .u8 14, .int .u8 4, .int .i64 3, .int .i64 2048], .int .i64 v, .int .i64 2] w fun e w' => e = .returned (.bool (decide (32 ≤ v ∧ (v < 864 ∨ 896 ≤ v)))) ∧ Below w.heap.size w w' := by
  by_cases c : v * 64 < 2048
  all_goals
    go_enter Tryd.func111, Tryd.ntmps111
    go_wp2_with (first | (go_at_call 121; go_must (refine (count_any _ _ _).mono ?_; rintro e w' ⟨rfl, rfl⟩)))
    go_ret
    exact ⟨ret_bool (dec_eq (by rw [count_pos]; omega)), by go_grown⟩
theorem begins33 (v : Int) (w : World) (h0 : 2048 ≤ v) (h1 : v < 65536) (h2 : v < 55296 ∨ 57344 ≤ v) :
    Calls Tryd.prog 111 #[.agg #[.int .u8 14, .int .u8 4, .int .i64 3, .int .i64 2048], .int .i64 v, .int .i64 3] w fun e w' => e = .returned (.bool true) ∧ Below w.heap.size w w' := by
  have h3 := Lib.hid h2
  clear h2
  go_enter Tryd.func111, Tryd.ntmps111
  go_wp2_with (first | (go_at_call 121; go_must (refine (count_any _ _ _).mono ?_; rintro e w' ⟨rfl, rfl⟩)))
  go_ret
  exact ⟨ret_bool (decide_eq_true (by have := h3.out; rw [count_pos]; omega)), by go_grown⟩
theorem begins42 (v : Int) (w : World) (h0 : 0 ≤ v) (h1 : v < 512) :
    Calls Tryd.prog 111 #[.agg #[.int .u8 30, .int .u8 3, .int .i64 4, .int .i64 65536], .int .i64 v, .int .i64 2] w fun e w' => e = .returned (.bool (decide (16 ≤ v ∧ v < 272))) ∧ Below w.heap.size w w' := by
  by_cases c : v * 4096 < 65536
  all_goals
    go_enter Tryd.func111, Tryd.ntmps111
    go_wp2_with (first | (go_at_call 121; go_must (refine (count_any _ _ _).mono ?_; rintro e w' ⟨rfl, rfl⟩)))
    go_ret
    exact ⟨ret_bool (dec_eq (by rw [count_pos]; omega)), by go_grown⟩
theorem begins43 (v : Int) (w : World) (h0 : 1024 ≤ v) (h1 : v < 17408) :
    Calls Tryd.prog 111 #[.agg #[.int .u8 30, .int .u8 3, .int .i64 4, .int .i64 65536], .int .i64 v, .int .i64 3] w fun e w' => e = .returned (.bool true) ∧ Below w.heap.size w w' := by
  go_enter Tryd.func111, Tryd.ntmps111
  go_wp2_with (first | (go_at_call 121; go_must (refine (count_any _ _ _).mono ?_; rintro e w' ⟨rfl, rfl⟩)))
  go_ret
  exact ⟨ret_bool (decide_eq_true (by rw [count_pos]; omega)), by go_grown⟩
theorem begins44 (v : Int) (w : World) (h0 : 65536 ≤ v) (h1 : v < 1114112) :
    Calls Tryd.prog 111 #[.agg #[.int .u8 30, .int .u8 3, .int .i64 4, .int .i64 65536], .int .i64 v, .int .i64 4] w fun e w' => e = .returned (.bool true) ∧ Below w.heap.size w w' := by
  go_enter Tryd.func111, Tryd.ntmps111
  go_wp2_with (first | (go_at_call 121; go_must (refine (count_any _ _ _).mono ?_; rintro e w' ⟨rfl, rfl⟩)))
  go_ret
  exact ⟨ret_bool (decide_eq_true (by rw [count_pos]; omega)), by go_grown⟩
end Go.Proofs.YtbnconieedgcmaaDoor.U
