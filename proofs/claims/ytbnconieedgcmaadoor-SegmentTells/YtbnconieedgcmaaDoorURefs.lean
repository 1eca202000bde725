/- What the document's own answers Is, Count, need, Bytes and begins of layers 1 and 2 return: the same functions as the program's. -/
import Derived.Test.YtbnconieedgcmaaDoorUWakes
namespace Go.Proofs.YtbnconieedgcmaaDoor.U
open Go.RowKit
set_option linter.unusedVariables false
set_option linter.unusedSimpArgs false

theorem refIs_any (v : Int) (w : World) :
    Calls Tryd.prog 77 #[.int .i64 v] w fun e w' => e = .returned (.bool (isB v)) ∧ w = w' := by
  by_cases c1 : 0 ≤ v
  · by_cases c2 : v < 55296
    · rw [show isB v = true from decide_eq_true (by omega)]
      go_enter Tryd.func77, Tryd.ntmps77
      go_wp2
      go_ret
      exact ⟨rfl, rfl⟩
    · by_cases c3 : 57344 ≤ v
      · by_cases c4 : v ≤ 1114111
        · rw [show isB v = true from decide_eq_true (by omega)]
          go_enter Tryd.func77, Tryd.ntmps77
          go_wp2
          go_ret
          exact ⟨rfl, rfl⟩
        · rw [show isB v = false from decide_eq_false (by omega)]
          go_enter Tryd.func77, Tryd.ntmps77
          go_wp2
          go_ret
          exact ⟨rfl, rfl⟩
      · rw [show isB v = false from decide_eq_false (by omega)]
        go_enter Tryd.func77, Tryd.ntmps77
        go_wp2
        go_ret
        exact ⟨rfl, rfl⟩
  · rw [show isB v = false from decide_eq_false (by omega)]
    go_enter Tryd.func77, Tryd.ntmps77
    go_wp2
    go_ret
    exact ⟨rfl, rfl⟩

/-- The document's Below, at any number. -/
def refBelowN (v : Int) : Int := belowN (max 0 (min v 1114112))

theorem refBelow_any (v : Int) (w : World) :
    Calls Tryd.prog 125 #[.int .i64 v] w fun e w' => e = .returned (.int .i64 (refBelowN v)) ∧ w = w' := by
  have hd : refBelowN v = belowN (max 0 (min v 1114112)) := rfl
  by_cases c1 : v ≤ 0
  · rw [show max 0 (min v 1114112) = 0 by omega] at hd
    rw [hd]
    clear hd
    go_enter Tryd.func125, Tryd.ntmps125
    go_wp2
    go_ret
    exact ⟨rfl, rfl⟩
  · by_cases c2 : 1114112 < v
    · rw [show max 0 (min v 1114112) = 1114112 by omega] at hd
      rw [hd]
      clear hd
      go_enter Tryd.func125, Tryd.ntmps125
      go_wp2
      go_ret
      exact ⟨rfl, rfl⟩
    · rw [show max 0 (min v 1114112) = v by omega] at hd
      rw [hd]
      clear hd
      by_cases c3 : v ≤ 55296
      · go_enter Tryd.func125, Tryd.ntmps125
        go_wp2
        go_ret
        exact ⟨ret_int (by unfold belowN; rw [if_pos c3]), rfl⟩
      · by_cases c4 : v < 57344
        · go_enter Tryd.func125, Tryd.ntmps125
          go_wp2
          go_ret
          exact ⟨ret_int (by unfold belowN; rw [if_neg (by omega), if_pos (by omega)]), rfl⟩
        · go_enter Tryd.func125, Tryd.ntmps125
          go_wp2
          go_ret
          exact ⟨ret_int (by unfold belowN; rw [if_neg (by omega)]; split <;> omega), rfl⟩

theorem refBelowN_bd (v : Int) : 0 ≤ refBelowN v ∧ refBelowN v ≤ 1112064 := belowN_bd _ (by omega) (by omega)

theorem refCount_any (lo hi : Int) (w : World) :
    Calls Tryd.prog 119 #[.int .i64 lo, .int .i64 hi] w fun e w' => e = .returned (.int .i64 (countN lo hi)) ∧ w = w' := by
  by_cases c1 : hi < lo
  · go_enter Tryd.func119, Tryd.ntmps119
    go_wp2
    go_ret
    exact ⟨ret_int (by unfold countN; rw [if_pos (by omega)]), rfl⟩
  · by_cases c2 : hi < 0
    · go_enter Tryd.func119, Tryd.ntmps119
      go_wp2
      go_ret
      exact ⟨ret_int (by unfold countN; rw [if_pos (by omega)]), rfl⟩
    · by_cases c3 : 1114111 < lo
      · go_enter Tryd.func119, Tryd.ntmps119
        go_wp2
        go_ret
        exact ⟨ret_int (by unfold countN; rw [if_pos (by omega)]), rfl⟩
      · have bl := refBelowN_bd lo
        by_cases c4 : 1114111 < hi
        · have bh := refBelowN_bd 1114112
          go_enter Tryd.func119, Tryd.ntmps119
          go_wp2_with (first | (go_at_call 125; go_must (refine (refBelow_any _ _).mono ?_; rintro e w' ⟨rfl, rfl⟩)))
          go_ret
          exact ⟨ret_int (by unfold countN; rw [if_neg (by omega), show min hi 1114111 + 1 = 1114112 by omega]; show belowN 1114112 - belowN (max 0 (min lo 1114112)) = _; rw [show max 0 (min lo 1114112) = max lo 0 by omega]), rfl⟩
        · have bh := refBelowN_bd (hi + 1)
          go_enter Tryd.func119, Tryd.ntmps119
          go_wp2_with (first | (go_at_call 125; go_must (refine (refBelow_any _ _).mono ?_; rintro e w' ⟨rfl, rfl⟩)))
          go_ret
          exact ⟨ret_int (by unfold countN; rw [if_neg (by omega), show min hi 1114111 = hi by omega]; unfold refBelowN; rw [show max 0 (min lo 1114112) = max lo 0 by omega, show max 0 (min (hi + 1) 1114112) = hi + 1 by omega]), rfl⟩


/-- How many bytes a first byte says. -/
def needN (b : Int) : Int := if b < 128 then 1 else if b < 194 then 0 else if b < 224 then 2 else if b < 240 then 3 else if b < 245 then 4 else 0
theorem need_any (b : Int) (w : World) (h0 : 0 ≤ b) (h1 : b ≤ 255) :
    Calls Tryd.prog 107 #[.int .u8 b] w fun e w' => e = .returned (.int .i64 (needN b)) ∧ w = w' := by
  have hd : needN b = if b < 128 then 1 else if b < 194 then 0 else if b < 224 then 2 else if b < 240 then 3 else if b < 245 then 4 else 0 := rfl
  by_cases c1 : b < 128
  · rw [if_pos c1] at hd; rw [hd]; clear hd
    go_enter Tryd.func107, Tryd.ntmps107
    go_wp2
    go_ret
    exact ⟨rfl, rfl⟩
  by_cases c2 : b < 194
  · rw [if_neg c1, if_pos c2] at hd; rw [hd]; clear hd
    go_enter Tryd.func107, Tryd.ntmps107
    go_wp2
    go_ret
    exact ⟨rfl, rfl⟩
  by_cases c3 : b < 224
  · rw [if_neg c1, if_neg c2, if_pos c3] at hd; rw [hd]; clear hd
    go_enter Tryd.func107, Tryd.ntmps107
    go_wp2
    go_ret
    exact ⟨rfl, rfl⟩
  by_cases c4 : b < 240
  · rw [if_neg c1, if_neg c2, if_neg c3, if_pos c4] at hd; rw [hd]; clear hd
    go_enter Tryd.func107, Tryd.ntmps107
    go_wp2
    go_ret
    exact ⟨rfl, rfl⟩
  by_cases c5 : b < 245
  · rw [if_neg c1, if_neg c2, if_neg c3, if_neg c4, if_pos c5] at hd; rw [hd]; clear hd
    go_enter Tryd.func107, Tryd.ntmps107
    go_wp2
    go_ret
    exact ⟨rfl, rfl⟩
  · rw [if_neg c1, if_neg c2, if_neg c3, if_neg c4, if_neg c5] at hd; rw [hd]; clear hd
    go_enter Tryd.func107, Tryd.ntmps107
    go_wp2
    go_ret
    exact ⟨rfl, rfl⟩

/-- 'string(b)' of a new row of bytes. -/
theorem conv_new (w : World) (bs : List UInt8) (t : TypeId) : (convert 27 9 (.slice (some ⟨w.heap.size, 0, none⟩) bs.length bs.length)).run Tryd.prog (w.alloc (.cells (bcells bs).toArray t)) = .ok (.string (strOf bs)) (w.alloc (.cells (bcells bs).toArray t)) := by
  refine run_convert_bytes_back _ 27 9 5 ⟨w.heap.size, 0, none⟩ bs.length bs Tryd.underlying27 Tryd.underlying5 Tryd.underlying9 (fun j hj => ?_)
  rw [add_plain, World.cell?_alloc_mark, Nat.zero_add]
  simp only [bcells, List.getElem?_toArray]
  rw [List.getElem?_map, List.getElem?_eq_getElem hj]
  rfl

end Go.Proofs.YtbnconieedgcmaaDoor.U
