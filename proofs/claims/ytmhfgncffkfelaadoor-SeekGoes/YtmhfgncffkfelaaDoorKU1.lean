/- Joined: UBase UScal UBegins UBits UMath UMath2. -/
import Derived.Test.YtmhfgncffkfelaaDoorRows
import Derived.WalkKit
import Derived.ProofKit
import Derived.OpenShut
import Derived.Lib.Hide
import Derived.Deep.DeepMust
import Derived.Handy
import Derived.Laws.BitsAllLaws
import Derived.Laws.BitsLemmas
/- The table of lead bytes as the program's text lays it; what leadOf and leadFor return. -/
namespace Go.Proofs.YtmhfgncffkfelaaDoor.U
open Go.RowKit

/-- The table's sixteen cells. -/
def Tab (w : World) : Prop := 1 < w.heap.size ∧ w.cell? ⟨1, 0, none⟩ = some (.int .u8 0) ∧ w.cell? ⟨1, 1, none⟩ = some (.int .u8 7) ∧ w.cell? ⟨1, 2, none⟩ = some (.int .i64 1) ∧ w.cell? ⟨1, 3, none⟩ = some (.int .i64 0) ∧ w.cell? ⟨1, 4, none⟩ = some (.int .u8 6) ∧ w.cell? ⟨1, 5, none⟩ = some (.int .u8 5) ∧ w.cell? ⟨1, 6, none⟩ = some (.int .i64 2) ∧ w.cell? ⟨1, 7, none⟩ = some (.int .i64 128) ∧ w.cell? ⟨1, 8, none⟩ = some (.int .u8 14) ∧ w.cell? ⟨1, 9, none⟩ = some (.int .u8 4) ∧ w.cell? ⟨1, 10, none⟩ = some (.int .i64 3) ∧ w.cell? ⟨1, 11, none⟩ = some (.int .i64 2048) ∧ w.cell? ⟨1, 12, none⟩ = some (.int .u8 30) ∧ w.cell? ⟨1, 13, none⟩ = some (.int .u8 3) ∧ w.cell? ⟨1, 14, none⟩ = some (.int .i64 4) ∧ w.cell? ⟨1, 15, none⟩ = some (.int .i64 65536)

theorem Tab.below {w w' : World} (h : Tab w) (hb : Below w.heap.size w w') : Tab w' := by
  have hs := h.1
  have hc : ∀ i, w'.cell? ⟨1, i, none⟩ = w.cell? ⟨1, i, none⟩ := fun i => hb.cell (p := ⟨1, i, none⟩) hs
  unfold Tab at h ⊢
  simp only [hc]
  exact ⟨Nat.lt_of_lt_of_le hs hb.size, h.2⟩
theorem Tab.alloc {w : World} (h : Tab w) (o : Obj) : Tab (w.alloc o) := h.below ((Below.refl _ _).alloc (Nat.le_refl _) _)
theorem Tab.drew {w : World} (h : Tab w) : Tab w.drew := h

/-- The table as one value, and its rows. -/
def leadsV : Value := .agg #[.int .u8 0, .int .u8 7, .int .i64 1, .int .i64 0, .int .u8 6, .int .u8 5, .int .i64 2, .int .i64 128, .int .u8 14, .int .u8 4, .int .i64 3, .int .i64 2048, .int .u8 30, .int .u8 3, .int .i64 4, .int .i64 65536]
theorem idx0 (w : World) : (Instr.index 154 (.agg #[.int .u8 0, .int .u8 7, .int .i64 1, .int .i64 0, .int .u8 6, .int .u8 5, .int .i64 2, .int .i64 128, .int .u8 14, .int .u8 4, .int .i64 3, .int .i64 2048, .int .u8 30, .int .u8 3, .int .i64 4, .int .i64 65536]) (.int .i64 0)).run Tryd.prog w = .ok (.agg #[.int .u8 0, .int .u8 7, .int .i64 1, .int .i64 0]) w := by kernel_rfl
theorem idx1 (w : World) : (Instr.index 154 (.agg #[.int .u8 0, .int .u8 7, .int .i64 1, .int .i64 0, .int .u8 6, .int .u8 5, .int .i64 2, .int .i64 128, .int .u8 14, .int .u8 4, .int .i64 3, .int .i64 2048, .int .u8 30, .int .u8 3, .int .i64 4, .int .i64 65536]) (.int .i64 1)).run Tryd.prog w = .ok (.agg #[.int .u8 6, .int .u8 5, .int .i64 2, .int .i64 128]) w := by kernel_rfl
theorem idx2 (w : World) : (Instr.index 154 (.agg #[.int .u8 0, .int .u8 7, .int .i64 1, .int .i64 0, .int .u8 6, .int .u8 5, .int .i64 2, .int .i64 128, .int .u8 14, .int .u8 4, .int .i64 3, .int .i64 2048, .int .u8 30, .int .u8 3, .int .i64 4, .int .i64 65536]) (.int .i64 2)).run Tryd.prog w = .ok (.agg #[.int .u8 14, .int .u8 4, .int .i64 3, .int .i64 2048]) w := by kernel_rfl
theorem idx3 (w : World) : (Instr.index 154 (.agg #[.int .u8 0, .int .u8 7, .int .i64 1, .int .i64 0, .int .u8 6, .int .u8 5, .int .i64 2, .int .i64 128, .int .u8 14, .int .u8 4, .int .i64 3, .int .i64 2048, .int .u8 30, .int .u8 3, .int .i64 4, .int .i64 65536]) (.int .i64 3)).run Tryd.prog w = .ok (.agg #[.int .u8 30, .int .u8 3, .int .i64 4, .int .i64 65536]) w := by kernel_rfl

/-- leadOf's answer. -/
def leadOfV (b : Int) : Value :=
  if b < 128 then .tuple #[.agg #[.int .u8 0, .int .u8 7, .int .i64 1, .int .i64 0], .bool true]
  else if b < 192 then .tuple #[.agg #[.int .u8 0, .int .u8 0, .int .i64 0, .int .i64 0], .bool false]
  else if b < 224 then .tuple #[.agg #[.int .u8 6, .int .u8 5, .int .i64 2, .int .i64 128], .bool true]
  else if b < 240 then .tuple #[.agg #[.int .u8 14, .int .u8 4, .int .i64 3, .int .i64 2048], .bool true]
  else if b < 248 then .tuple #[.agg #[.int .u8 30, .int .u8 3, .int .i64 4, .int .i64 65536], .bool true]
  else .tuple #[.agg #[.int .u8 0, .int .u8 0, .int .i64 0, .int .i64 0], .bool false]

set_option maxHeartbeats 1000000 in
theorem leadOf_any (b : Int) (w : World) (h : Tab w) (h0 : 0 ≤ b) (h1 : b ≤ 255) :
    Calls Tryd.prog 102 #[.int .u8 b] w fun e w' => e = .returned (leadOfV b) ∧ Below w.heap.size w w' := by
  obtain ⟨hs, c0, c1, c2, c3, c4, c5, c6, c7, c8, c9, c10, c11, c12, c13, c14, c15⟩ := h
  have hs0 : 0 < w.heap.size := by omega
  go_enter Tryd.func102, Tryd.ntmps102
  go_wp2_with fail
  clear c0 c1 c2 c3 c4 c5 c6 c7 c8 c9 c10 c11 c12 c13 c14 c15
  have x0 := idx0
  have x1 := idx1
  have x2 := idx2
  have x3 := idx3
  refine wp_loop_rounds 5 ?_
  by_cases g1 : b < 128
  · rw [rounds_succ]; go_wp2
    exact bodyPost_ret (v := leadOfV b) (by unfold leadOfV; rw [if_pos (by omega)]; simp [results, Tryd.results102, go_sem]) rfl ⟨rfl, by go_grown⟩
  by_cases g2 : b < 192
  · rw [rounds_succ]; go_wp2
    rw [rounds_succ]; go_wp2
    rw [rounds_succ]; go_wp2
    rw [rounds_succ]; go_wp2
    rw [rounds_succ]; go_wp2
    exact bodyPost_ret (v := leadOfV b) (by unfold leadOfV; rw [if_neg (by omega), if_pos (by omega)]; simp [results, Tryd.results102, go_sem]) rfl ⟨rfl, by go_grown⟩
  by_cases g3 : b < 224
  · rw [rounds_succ]; go_wp2
    rw [rounds_succ]; go_wp2
    exact bodyPost_ret (v := leadOfV b) (by unfold leadOfV; rw [if_neg (by omega), if_neg (by omega), if_pos (by omega)]; simp [results, Tryd.results102, go_sem]) rfl ⟨rfl, by go_grown⟩
  by_cases g4 : b < 240
  · rw [rounds_succ]; go_wp2
    rw [rounds_succ]; go_wp2
    rw [rounds_succ]; go_wp2
    exact bodyPost_ret (v := leadOfV b) (by unfold leadOfV; rw [if_neg (by omega), if_neg (by omega), if_neg (by omega), if_pos (by omega)]; simp [results, Tryd.results102, go_sem]) rfl ⟨rfl, by go_grown⟩
  by_cases g5 : b < 248
  · rw [rounds_succ]; go_wp2
    rw [rounds_succ]; go_wp2
    rw [rounds_succ]; go_wp2
    rw [rounds_succ]; go_wp2
    exact bodyPost_ret (v := leadOfV b) (by unfold leadOfV; rw [if_neg (by omega), if_neg (by omega), if_neg (by omega), if_neg (by omega), if_pos (by omega)]; simp [results, Tryd.results102, go_sem]) rfl ⟨rfl, by go_grown⟩
  · rw [rounds_succ]; go_wp2
    rw [rounds_succ]; go_wp2
    rw [rounds_succ]; go_wp2
    rw [rounds_succ]; go_wp2
    rw [rounds_succ]; go_wp2
    exact bodyPost_ret (v := leadOfV b) (by unfold leadOfV; rw [if_neg (by omega), if_neg (by omega), if_neg (by omega), if_neg (by omega), if_neg (by omega)]; simp [results, Tryd.results102, go_sem]) rfl ⟨rfl, by go_grown⟩

/-- leadFor's answer at a number that is not below 0. -/
def leadForV (v : Int) : Value :=
  if v < 128 then .agg #[.int .u8 0, .int .u8 7, .int .i64 1, .int .i64 0]
  else if v < 2048 then .agg #[.int .u8 6, .int .u8 5, .int .i64 2, .int .i64 128]
  else if v < 65536 then .agg #[.int .u8 14, .int .u8 4, .int .i64 3, .int .i64 2048]
  else .agg #[.int .u8 30, .int .u8 3, .int .i64 4, .int .i64 65536]

end Go.Proofs.YtmhfgncffkfelaaDoor.U

/- What the functions of package scalar that this seat reaches return: for every 64-bit integer, without touching memory. -/
namespace Go.Proofs.YtmhfgncffkfelaaDoor.U

/-- ValidRune at a 32-bit number. -/
theorem valid_yes (v : Int) (w : World) (h : 0 ≤ v ∧ v < 55296 ∨ 57344 ≤ v ∧ v ≤ 1114111) :
    Calls Tryd.prog 108 #[.int .i32 v] w fun e w' => e = .returned (.bool true) ∧ w = w' := by
  rcases h with ⟨h0, h1⟩ | ⟨h0, h1⟩
  · go_enter Tryd.func108, Tryd.ntmps108
    go_wp2
    go_ret
    exact ⟨rfl, rfl⟩
  · have h2 : ¬ v < 55296 := by omega
    have h3 : 0 ≤ v := by omega
    have h4 : 57343 < v := by omega
    go_enter Tryd.func108, Tryd.ntmps108
    go_wp2
    go_ret
    exact ⟨rfl, rfl⟩

theorem valid_no (v : Int) (w : World) (h : v < 0 ∨ 55296 ≤ v ∧ v < 57344 ∨ 1114111 < v) :
    Calls Tryd.prog 108 #[.int .i32 v] w fun e w' => e = .returned (.bool false) ∧ w = w' := by
  rcases h with h0 | ⟨h0, h1⟩ | h0
  all_goals
    go_enter Tryd.func108, Tryd.ntmps108
    go_wp2
    go_ret
    exact ⟨rfl, rfl⟩

theorem is_yes (v : Int) (w : World) (h : 0 ≤ v ∧ v < 55296 ∨ 57344 ≤ v ∧ v ≤ 1114111) :
    Calls Tryd.prog 96 #[.int .i64 v] w fun e w' => e = .returned (.bool true) ∧ w = w' := by
  have h0 : 0 ≤ v := by omega
  have h1 : v ≤ 1114111 := by omega
  have H := Lib.hid h
  clear h
  go_enter Tryd.func96, Tryd.ntmps96
  go_wp2_with (first | (go_at_call 108; go_must (refine (valid_yes _ _ H.out).mono ?_; rintro e w' ⟨rfl, rfl⟩)))
  go_ret
  exact ⟨rfl, rfl⟩

theorem is_no (v : Int) (w : World) (h : v < 0 ∨ 55296 ≤ v ∧ v < 57344 ∨ 1114111 < v) :
    Calls Tryd.prog 96 #[.int .i64 v] w fun e w' => e = .returned (.bool false) ∧ w = w' := by
  by_cases hr : -2147483648 ≤ v ∧ v ≤ 2147483647
  · obtain ⟨h0, h1⟩ := hr
    have H := Lib.hid h
    clear h
    go_enter Tryd.func96, Tryd.ntmps96
    go_wp2_with (first | (go_at_call 108; go_must (refine (valid_no _ _ H.out).mono ?_; rintro e w' ⟨rfl, rfl⟩)))
    go_ret
    exact ⟨rfl, rfl⟩
  · have hw : (RowKit.wrap64 (RowKit.wrap32 v) == v) = false := by
      rw [beq_eq_false_iff_ne]
      unfold RowKit.wrap64 RowKit.wrap32
      omega
    clear h hr
    go_enter Tryd.func96, Tryd.ntmps96
    go_wp2
    go_ret
    exact ⟨rfl, rfl⟩

/-- How many scalars are below a number that is from 0 to 1114112. -/
def belowN (v : Int) : Int := if v ≤ 55296 then v else if v ≤ 57344 then 55296 else v - 2048

theorem ret_int {a b : Int} (h : a = b) : Ending.returned (.int .i64 a) = .returned (.int .i64 b) := by rw [h]

theorem below_any (v : Int) (w : World) (h0 : 0 ≤ v) (h1 : v ≤ 1114112) :
    Calls Tryd.prog 120 #[.int .i64 v] w fun e w' => e = .returned (.int .i64 (belowN v)) ∧ w = w' := by
  by_cases c1 : v ≤ 55296
  · go_enter Tryd.func120, Tryd.ntmps120
    go_wp2
    all_goals
      go_ret
      exact ⟨ret_int (by unfold belowN; split <;> (try split) <;> omega), rfl⟩
  · by_cases c2 : v ≤ 57344
    all_goals
      go_enter Tryd.func120, Tryd.ntmps120
      go_wp2
      all_goals
        go_ret
        exact ⟨ret_int (by unfold belowN; split <;> (try split) <;> omega), rfl⟩

/-- How many scalars are from one number to another. -/
def countN (lo hi : Int) : Int := if min hi 1114111 < max lo 0 then 0 else belowN (min hi 1114111 + 1) - belowN (max lo 0)

theorem belowN_bd (v : Int) (h0 : 0 ≤ v) (h1 : v ≤ 1114112) : 0 ≤ belowN v ∧ belowN v ≤ 1112064 := by
  unfold belowN; split <;> (try split) <;> omega

theorem count_any (lo hi : Int) (w : World) :
    Calls Tryd.prog 115 #[.int .i64 lo, .int .i64 hi] w fun e w' => e = .returned (.int .i64 (countN lo hi)) ∧ w = w' := by
  by_cases c1 : lo < 0 <;> by_cases c2 : 1114111 < hi
  · have b1 := belowN_bd 0 (by omega) (by omega)
    have b2 := belowN_bd 1114112 (by omega) (by omega)
    go_enter Tryd.func115, Tryd.ntmps115
    go_wp2_with (first | (go_at_call 120; go_must (refine (below_any _ _ (by omega) (by omega)).mono ?_; rintro e w' ⟨rfl, rfl⟩)))
    go_ret
    exact ⟨ret_int (by unfold countN; rw [if_neg (by omega), show min hi 1114111 = 1114111 by omega, show max lo 0 = 0 by omega]; rfl), rfl⟩
  · by_cases c3 : hi < 0
    · go_enter Tryd.func115, Tryd.ntmps115
      go_wp2
      go_ret
      exact ⟨ret_int (by unfold countN; rw [if_pos (by omega)]), rfl⟩
    · have b1 := belowN_bd 0 (by omega) (by omega)
      have b2 := belowN_bd (hi + 1) (by omega) (by omega)
      go_enter Tryd.func115, Tryd.ntmps115
      go_wp2_with (first | (go_at_call 120; go_must (refine (below_any _ _ (by omega) (by omega)).mono ?_; rintro e w' ⟨rfl, rfl⟩)))
      go_ret
      exact ⟨ret_int (by unfold countN; rw [if_neg (by omega), show min hi 1114111 = hi by omega, show max lo 0 = 0 by omega]), rfl⟩
  · by_cases c3 : 1114111 < lo
    · go_enter Tryd.func115, Tryd.ntmps115
      go_wp2
      go_ret
      exact ⟨ret_int (by unfold countN; rw [if_pos (by omega)]), rfl⟩
    · have b1 := belowN_bd lo (by omega) (by omega)
      have b2 := belowN_bd 1114112 (by omega) (by omega)
      go_enter Tryd.func115, Tryd.ntmps115
      go_wp2_with (first | (go_at_call 120; go_must (refine (below_any _ _ (by omega) (by omega)).mono ?_; rintro e w' ⟨rfl, rfl⟩)))
      go_ret
      exact ⟨ret_int (by unfold countN; rw [if_neg (by omega), show min hi 1114111 = 1114111 by omega, show max lo 0 = lo by omega]; rfl), rfl⟩
  · by_cases c3 : hi < lo
    · go_enter Tryd.func115, Tryd.ntmps115
      go_wp2
      go_ret
      exact ⟨ret_int (by unfold countN; rw [if_pos (by omega)]), rfl⟩
    · have b1 := belowN_bd lo (by omega) (by omega)
      have b2 := belowN_bd (hi + 1) (by omega) (by omega)
      go_enter Tryd.func115, Tryd.ntmps115
      go_wp2_with (first | (go_at_call 120; go_must (refine (below_any _ _ (by omega) (by omega)).mono ?_; rintro e w' ⟨rfl, rfl⟩)))
      go_ret
      exact ⟨ret_int (by unfold countN; rw [if_neg (by omega), show min hi 1114111 = hi by omega, show max lo 0 = lo by omega]), rfl⟩

/-- A scalar? -/
def isB (v : Int) : Bool := decide (0 ≤ v ∧ v < 55296 ∨ 57344 ≤ v ∧ v ≤ 1114111)

theorem is_any (v : Int) (w : World) :
    Calls Tryd.prog 96 #[.int .i64 v] w fun e w' => e = .returned (.bool (isB v)) ∧ w = w' := by
  by_cases h : 0 ≤ v ∧ v < 55296 ∨ 57344 ≤ v ∧ v ≤ 1114111
  · rw [show isB v = true from decide_eq_true h]
    exact is_yes v w h
  · rw [show isB v = false from decide_eq_false h]
    exact is_no v w (by omega)


end Go.Proofs.YtmhfgncffkfelaaDoor.U

/- What the program's begins returns at each kind of lead byte and each size. -/
namespace Go.Proofs.YtmhfgncffkfelaaDoor.U
open Go.RowKit

theorem ret_bool {a b : Bool} (h : a = b) : Ending.returned (.bool a) = .returned (.bool b) := by rw [h]

theorem count_pos (lo hi : Int) : 0 < countN lo hi ↔ max lo 0 ≤ min hi 1114111 ∧ ¬ (55296 ≤ max lo 0 ∧ min hi 1114111 < 57344) := by
  unfold countN belowN
  split
  · omega
  · split <;> split <;> (try split) <;> (try split) <;> omega

theorem dec_eq {p q : Prop} [Decidable p] [Decidable q] (h : p ↔ q) : decide p = decide q := by
  by_cases hp : p
  · rw [decide_eq_true hp, decide_eq_true (h.1 hp)]
  · rw [decide_eq_false hp, decide_eq_false (fun hq => hp (h.2 hq))]

theorem begins22 (v : Int) (w : World) (h0 : 0 ≤ v) (h1 : v < 2048) :
    Calls Tryd.prog 103 #[.agg #[.int .u8 6, .int .u8 5, .int .i64 2, .int .i64 128], .int .i64 v, .int .i64 2] w fun e w' => e = .returned (.bool (decide (128 ≤ v))) ∧ Below w.heap.size w w' := by
  by_cases c : v < 128
  all_goals
    go_enter Tryd.func103, Tryd.ntmps103
    go_wp2_with (first | (go_at_call 115; go_must (refine (count_any _ _ _).mono ?_; rintro e w' ⟨rfl, rfl⟩)))
    go_ret
    exact ⟨ret_bool (dec_eq (by rw [count_pos]; omega)), by go_grown⟩
theorem begins32 (v : Int) (w : World) (h0 : 0 ≤ v) (h1 : v < 1024) :
    Calls Tryd.prog 103 #[.agg #[.int .u8 14, .int .u8 4, .int .i64 3, .int .i64 2048], .int .i64 v, .int .i64 2] w fun e w' => e = .returned (.bool (decide (32 ≤ v ∧ (v < 864 ∨ 896 ≤ v)))) ∧ Below w.heap.size w w' := by
  by_cases c : v * 64 < 2048
  all_goals
    go_enter Tryd.func103, Tryd.ntmps103
    go_wp2_with (first | (go_at_call 115; go_must (refine (count_any _ _ _).mono ?_; rintro e w' ⟨rfl, rfl⟩)))
    go_ret
    exact ⟨ret_bool (dec_eq (by rw [count_pos]; omega)), by go_grown⟩
theorem begins33 (v : Int) (w : World) (h0 : 2048 ≤ v) (h1 : v < 65536) (h2 : v < 55296 ∨ 57344 ≤ v) :
    Calls Tryd.prog 103 #[.agg #[.int .u8 14, .int .u8 4, .int .i64 3, .int .i64 2048], .int .i64 v, .int .i64 3] w fun e w' => e = .returned (.bool true) ∧ Below w.heap.size w w' := by
  have h3 := Lib.hid h2
  clear h2
  go_enter Tryd.func103, Tryd.ntmps103
  go_wp2_with (first | (go_at_call 115; go_must (refine (count_any _ _ _).mono ?_; rintro e w' ⟨rfl, rfl⟩)))
  go_ret
  exact ⟨ret_bool (decide_eq_true (by have := h3.out; rw [count_pos]; omega)), by go_grown⟩
theorem begins42 (v : Int) (w : World) (h0 : 0 ≤ v) (h1 : v < 512) :
    Calls Tryd.prog 103 #[.agg #[.int .u8 30, .int .u8 3, .int .i64 4, .int .i64 65536], .int .i64 v, .int .i64 2] w fun e w' => e = .returned (.bool (decide (16 ≤ v ∧ v < 272))) ∧ Below w.heap.size w w' := by
  by_cases c : v * 4096 < 65536
  all_goals
    go_enter Tryd.func103, Tryd.ntmps103
    go_wp2_with (first | (go_at_call 115; go_must (refine (count_any _ _ _).mono ?_; rintro e w' ⟨rfl, rfl⟩)))
    go_ret
    exact ⟨ret_bool (dec_eq (by rw [count_pos]; omega)), by go_grown⟩
theorem begins43 (v : Int) (w : World) (h0 : 1024 ≤ v) (h1 : v < 17408) :
    Calls Tryd.prog 103 #[.agg #[.int .u8 30, .int .u8 3, .int .i64 4, .int .i64 65536], .int .i64 v, .int .i64 3] w fun e w' => e = .returned (.bool true) ∧ Below w.heap.size w w' := by
  go_enter Tryd.func103, Tryd.ntmps103
  go_wp2_with (first | (go_at_call 115; go_must (refine (count_any _ _ _).mono ?_; rintro e w' ⟨rfl, rfl⟩)))
  go_ret
  exact ⟨ret_bool (decide_eq_true (by rw [count_pos]; omega)), by go_grown⟩
theorem begins44 (v : Int) (w : World) (h0 : 65536 ≤ v) (h1 : v < 1114112) :
    Calls Tryd.prog 103 #[.agg #[.int .u8 30, .int .u8 3, .int .i64 4, .int .i64 65536], .int .i64 v, .int .i64 4] w fun e w' => e = .returned (.bool true) ∧ Below w.heap.size w w' := by
  go_enter Tryd.func103, Tryd.ntmps103
  go_wp2_with (first | (go_at_call 115; go_must (refine (count_any _ _ _).mono ?_; rintro e w' ⟨rfl, rfl⟩)))
  go_ret
  exact ⟨ret_bool (decide_eq_true (by rw [count_pos]; omega)), by go_grown⟩
end Go.Proofs.YtmhfgncffkfelaaDoor.U

/- The bit operations of package utf, as sums and remainders. -/
namespace Go.Proofs.YtmhfgncffkfelaaDoor.U
open Go.RowKit

theorem nxor0 : ∀ x : Fin 256, x.val ^^^ 0 = x.val := by decide +kernel
theorem nxor192 : ∀ x : Fin 256, 192 ≤ x.val → x.val < 224 → x.val ^^^ 192 = x.val - 192 := by decide +kernel
theorem nxor224 : ∀ x : Fin 256, 224 ≤ x.val → x.val < 240 → x.val ^^^ 224 = x.val - 224 := by decide +kernel
theorem nxor240 : ∀ x : Fin 256, 240 ≤ x.val → x.val < 248 → x.val ^^^ 240 = x.val - 240 := by decide +kernel
theorem nor128 : ∀ x : Fin 64, 128 ||| x.val = 128 + x.val := by decide +kernel
theorem nor192 : ∀ x : Fin 32, 192 ||| x.val = 192 + x.val := by decide +kernel
theorem nor224 : ∀ x : Fin 16, 224 ||| x.val = 224 + x.val := by decide +kernel
theorem nor240 : ∀ x : Fin 8, 240 ||| x.val = 240 + x.val := by decide +kernel
theorem nor0 : ∀ x : Fin 256, 0 ||| x.val = x.val := by decide +kernel

theorem xor0 (x : Nat) (h : x < 256) : bits .xor .u8 (x : Int) 0 = (x : Int) := by
  have := u8_xor_nat x 0 h (by omega)
  rw [nxor0 ⟨x, h⟩] at this
  exact this
theorem xor192 (x : Nat) (h0 : 192 ≤ x) (h1 : x < 224) : bits .xor .u8 (x : Int) 192 = (x : Int) - 192 := by
  have := u8_xor_nat x 192 (by omega) (by omega)
  rw [show x ^^^ 192 = x - 192 from nxor192 ⟨x, by omega⟩ h0 h1] at this
  rw [show (192 : Int) = ((192 : Nat) : Int) from rfl, this]; omega
theorem xor224 (x : Nat) (h0 : 224 ≤ x) (h1 : x < 240) : bits .xor .u8 (x : Int) 224 = (x : Int) - 224 := by
  have := u8_xor_nat x 224 (by omega) (by omega)
  rw [show x ^^^ 224 = x - 224 from nxor224 ⟨x, by omega⟩ h0 h1] at this
  rw [show (224 : Int) = ((224 : Nat) : Int) from rfl, this]; omega
theorem xor240 (x : Nat) (h0 : 240 ≤ x) (h1 : x < 248) : bits .xor .u8 (x : Int) 240 = (x : Int) - 240 := by
  have := u8_xor_nat x 240 (by omega) (by omega)
  rw [show x ^^^ 240 = x - 240 from nxor240 ⟨x, by omega⟩ h0 h1] at this
  rw [show (240 : Int) = ((240 : Nat) : Int) from rfl, this]; omega
theorem and63 (x : Nat) (h : x < 256) : bits .and .u8 (x : Int) 63 = (x : Int) % 64 := by
  have := u8_and_nat x 63 h (by omega)
  rw [nat_mask6] at this
  rw [show (63 : Int) = ((63 : Nat) : Int) from rfl, this]; omega

theorem ofInt_i64 (a : Nat) (ha : a < 9223372036854775808) : (BitVec.ofInt 64 (a : Int)).toNat = a := by
  rw [BitVec.ofInt_natCast, BitVec.toNat_ofNat]; exact Nat.mod_eq_of_lt (by omega)
theorem i64_and_nat (a b : Nat) (ha : a < 9223372036854775808) (hb : b < 9223372036854775808) : bits .and .i64 (a : Int) (b : Int) = ((a &&& b : Nat) : Int) := by
  have hx : a &&& b < 2 ^ 63 := Nat.and_lt_two_pow _ (by omega)
  show IntKind.i64.wrap ((BitVec.ofInt 64 (a : Int) &&& BitVec.ofInt 64 (b : Int)).toNat : Int) = _
  rw [BitVec.toNat_and, ofInt_i64 a ha, ofInt_i64 b hb, IntKind.wrap_i64]
  omega
theorem i64_or_nat (a b : Nat) (ha : a < 9223372036854775808) (hb : b < 9223372036854775808) : bits .or .i64 (a : Int) (b : Int) = ((a ||| b : Nat) : Int) := by
  have hx : a ||| b < 2 ^ 63 := Nat.or_lt_two_pow (by omega) (by omega)
  show IntKind.i64.wrap ((BitVec.ofInt 64 (a : Int) ||| BitVec.ofInt 64 (b : Int)).toNat : Int) = _
  rw [BitVec.toNat_or, ofInt_i64 a ha, ofInt_i64 b hb, IntKind.wrap_i64]
  omega

/-- A number's six bits more. -/
theorem or64 (a t : Int) (h0 : 0 ≤ a) (h1 : a < 1048576) (t0 : 0 ≤ t) (t1 : t < 64) : bits .or .i64 (a * 64) t = a * 64 + t := by
  obtain ⟨a, rfl⟩ := Int.eq_ofNat_of_zero_le h0
  obtain ⟨t, rfl⟩ := Int.eq_ofNat_of_zero_le t0
  have := i64_or_nat (a * 64) t (by omega) (by omega)
  rw [nat_join 6 (a * 64) t (by omega) (by omega)] at this
  rw [show ((a : Int) * 64) = ((a * 64 : Nat) : Int) by omega, this]; omega
theorem andI63 (a : Int) (h0 : 0 ≤ a) (h1 : a < 1048576 * 64) : bits .and .i64 a 63 = a % 64 := by
  obtain ⟨a, rfl⟩ := Int.eq_ofNat_of_zero_le h0
  have := i64_and_nat a 63 (by omega) (by omega)
  rw [nat_mask6] at this
  rw [show (63 : Int) = ((63 : Nat) : Int) from rfl, this]; omega
theorem or128 (t : Int) (t0 : 0 ≤ t) (t1 : t < 64) : bits .or .u8 128 t = 128 + t := by
  obtain ⟨t, rfl⟩ := Int.eq_ofNat_of_zero_le t0
  have := u8_or_nat 128 t (by omega) (by omega)
  rw [show 128 ||| t = 128 + t from nor128 ⟨t, by omega⟩] at this
  rw [show (128 : Int) = ((128 : Nat) : Int) from rfl, this]; omega
theorem or192 (t : Int) (t0 : 0 ≤ t) (t1 : t < 32) : bits .or .u8 192 t = 192 + t := by
  obtain ⟨t, rfl⟩ := Int.eq_ofNat_of_zero_le t0
  have := u8_or_nat 192 t (by omega) (by omega)
  rw [show 192 ||| t = 192 + t from nor192 ⟨t, by omega⟩] at this
  rw [show (192 : Int) = ((192 : Nat) : Int) from rfl, this]; omega
theorem or224 (t : Int) (t0 : 0 ≤ t) (t1 : t < 16) : bits .or .u8 224 t = 224 + t := by
  obtain ⟨t, rfl⟩ := Int.eq_ofNat_of_zero_le t0
  have := u8_or_nat 224 t (by omega) (by omega)
  rw [show 224 ||| t = 224 + t from nor224 ⟨t, by omega⟩] at this
  rw [show (224 : Int) = ((224 : Nat) : Int) from rfl, this]; omega
theorem or240 (t : Int) (t0 : 0 ≤ t) (t1 : t < 8) : bits .or .u8 240 t = 240 + t := by
  obtain ⟨t, rfl⟩ := Int.eq_ofNat_of_zero_le t0
  have := u8_or_nat 240 t (by omega) (by omega)
  rw [show 240 ||| t = 240 + t from nor240 ⟨t, by omega⟩] at this
  rw [show (240 : Int) = ((240 : Nat) : Int) from rfl, this]; omega
theorem or0 (t : Int) (t0 : 0 ≤ t) (t1 : t < 256) : bits .or .u8 0 t = t := by
  obtain ⟨t, rfl⟩ := Int.eq_ofNat_of_zero_le t0
  have := u8_or_nat 0 t (by omega) (by omega)
  rw [nor0 ⟨t, by omega⟩] at this
  exact this
end Go.Proofs.YtmhfgncffkfelaaDoor.U

/- The plain mathematics of layer 2: a scalar's bytes, the piece at the head of a row of bytes, the pieces of a row. No program stands in it. -/
namespace Go.Proofs.YtmhfgncffkfelaaDoor.U
set_option linter.unusedVariables false

theorem isB_iff (v : Int) : isB v = true ↔ (0 ≤ v ∧ v < 55296 ∨ 57344 ≤ v ∧ v ≤ 1114111) := by
  unfold isB; exact decide_eq_true_iff
theorem isB_no {v : Int} (h : isB v = true) : ¬ isB v = false := by rw [h]; decide

/-- A byte as a number. -/
def nb (b : UInt8) : Int := b.toNat
theorem nb_bd (b : UInt8) : 0 ≤ nb b ∧ nb b < 256 := ⟨by unfold nb; omega, by unfold nb; have := b.toNat_lt; omega⟩
/-- A number as a byte. -/
def ub (n : Int) : UInt8 := UInt8.ofNat n.toNat
theorem nb_ub (n : Int) (h0 : 0 ≤ n) (h1 : n < 256) : nb (ub n) = n := by
  unfold nb ub
  rw [UInt8.toNat_ofNat']
  omega
theorem ub_nb (b : UInt8) : ub (nb b) = b := by
  unfold nb ub
  rw [Int.toNat_natCast, UInt8.ofNat_toNat]

/-- A byte that goes on. -/
abbrev tl (b : UInt8) : Prop := 128 ≤ nb b ∧ nb b < 192

/-- A piece: its scalar, how many bytes, whether it is a scalar's bytes as a whole. -/
structure Pc where
  v : Int
  n : Nat
  ok : Bool

/-- The sign that stands for what is ill-formed. -/
def repl : Int := 65533
theorem isB_repl : isB repl = true := (isB_iff _).2 (by unfold repl; omega)
def bad (n : Nat) : Pc := ⟨repl, n, false⟩

def piece2 (x : Int) : List UInt8 → Pc
  | [] => bad 1
  | y :: _ => if tl y ∧ 128 ≤ (x - 192) * 64 + nb y % 64 then ⟨(x - 192) * 64 + nb y % 64, 2, true⟩ else bad 1
def piece3b (v : Int) : List UInt8 → Pc
  | [] => bad 2
  | z :: _ => if tl z then ⟨v * 64 + nb z % 64, 3, true⟩ else bad 2
abbrev go3 (v : Int) : Prop := 32 ≤ v ∧ (v < 864 ∨ 896 ≤ v)
def piece3 (x : Int) : List UInt8 → Pc
  | [] => bad 1
  | y :: r => if tl y ∧ go3 ((x - 224) * 64 + nb y % 64) then piece3b ((x - 224) * 64 + nb y % 64) r else bad 1
def piece4c (v : Int) : List UInt8 → Pc
  | [] => bad 3
  | z :: _ => if tl z then ⟨v * 64 + nb z % 64, 4, true⟩ else bad 3
def piece4b (v : Int) : List UInt8 → Pc
  | [] => bad 2
  | z :: r => if tl z then piece4c (v * 64 + nb z % 64) r else bad 2
abbrev go4 (v : Int) : Prop := 16 ≤ v ∧ v < 272
def piece4 (x : Int) : List UInt8 → Pc
  | [] => bad 1
  | y :: r => if tl y ∧ go4 ((x - 240) * 64 + nb y % 64) then piece4b ((x - 240) * 64 + nb y % 64) r else bad 1

/-- The piece at the head of a row of bytes. -/
def pieceOf : List UInt8 → Pc
  | [] => bad 0
  | b :: r =>
    if nb b < 128 then ⟨nb b, 1, true⟩
    else if nb b < 192 then bad 1
    else if nb b < 224 then piece2 (nb b) r
    else if nb b < 240 then piece3 (nb b) r
    else if nb b < 248 then piece4 (nb b) r
    else bad 1

/-- A scalar's bytes; of what is none: nothing. -/
def bytesOf (v : Int) : List UInt8 :=
  if isB v = false then []
  else if v < 128 then [ub v]
  else if v < 2048 then [ub (192 + v / 64), ub (128 + v % 64)]
  else if v < 65536 then [ub (224 + v / 4096), ub (128 + v / 64 % 64), ub (128 + v % 64)]
  else [ub (240 + v / 262144), ub (128 + v / 4096 % 64), ub (128 + v / 64 % 64), ub (128 + v % 64)]

/-- What the head of a row is, if it is a scalar's bytes. -/
theorem piece_bytes (v : Int) (r : List UInt8) (h : isB v = true) : pieceOf (bytesOf v ++ r) = ⟨v, (bytesOf v).length, true⟩ := by
  have hb := (isB_iff v).1 h
  unfold bytesOf
  rw [if_neg (isB_no h)]
  split
  · rename_i h1
    have e := nb_ub v (by omega) (by omega)
    simp only [List.cons_append, List.nil_append, pieceOf, e]
    rw [if_pos h1]; rfl
  · split
    · rename_i h1 h2
      have e := nb_ub (192 + v / 64) (by omega) (by omega)
      have f := nb_ub (128 + v % 64) (by omega) (by omega)
      simp only [List.cons_append, List.nil_append, pieceOf, piece2, tl, e, f]
      rw [if_neg (by omega), if_neg (by omega), if_pos (by omega), if_pos (by omega)]
      simp only [List.length_cons, List.length_nil, Pc.mk.injEq, and_true]
      omega
    · split
      · rename_i h1 h2 h3
        have e := nb_ub (224 + v / 4096) (by omega) (by omega)
        have f := nb_ub (128 + v / 64 % 64) (by omega) (by omega)
        have g := nb_ub (128 + v % 64) (by omega) (by omega)
        simp only [List.cons_append, List.nil_append, pieceOf, piece3, piece3b, tl, go3, e, f, g]
        rw [if_neg (by omega), if_neg (by omega), if_neg (by omega), if_pos (by omega), if_pos (by omega), if_pos (by omega)]
        simp only [List.length_cons, List.length_nil, Pc.mk.injEq, and_true]
        omega
      · rename_i h1 h2 h3
        have e := nb_ub (240 + v / 262144) (by omega) (by omega)
        have f := nb_ub (128 + v / 4096 % 64) (by omega) (by omega)
        have g := nb_ub (128 + v / 64 % 64) (by omega) (by omega)
        have g' := nb_ub (128 + v % 64) (by omega) (by omega)
        simp only [List.cons_append, List.nil_append, pieceOf, piece4, piece4b, piece4c, tl, go4, e, f, g, g']
        rw [if_neg (by omega), if_neg (by omega), if_neg (by omega), if_neg (by omega), if_pos (by omega), if_pos (by omega), if_pos (by omega), if_pos (by omega)]
        simp only [List.length_cons, List.length_nil, Pc.mk.injEq, and_true]
        omega


def Whole (l : List UInt8) (p : Pc) : Prop := p.ok = true → isB p.v = true ∧ ∃ r, l = bytesOf p.v ++ r
theorem whole_bad (l : List UInt8) (n : Nat) : Whole l (bad n) := fun h => by simp [bad] at h
theorem whole_if {l : List UInt8} {c : Prop} [Decidable c] {p q : Pc} (h1 : c → Whole l p) (h2 : ¬ c → Whole l q) : Whole l (if c then p else q) := by
  by_cases h : c
  · rw [if_pos h]; exact h1 h
  · rw [if_neg h]; exact h2 h

theorem whole1 (b : UInt8) (r : List UInt8) (h : nb b < 128) : Whole (b :: r) ⟨nb b, 1, true⟩ := fun _ => by
  have bb := nb_bd b
  have hub := ub_nb b
  have hi : isB (nb b) = true := (isB_iff _).2 (by omega)
  refine ⟨hi, r, ?_⟩
  unfold bytesOf
  rw [if_neg (isB_no hi), if_pos h, hub]; rfl
theorem whole2 (b : UInt8) (l : List UInt8) (h0 : 192 ≤ nb b) (h1 : nb b < 224) : Whole (b :: l) (piece2 (nb b) l) := by
  have hub := ub_nb b
  match l with
  | [] => exact whole_bad _ _
  | y :: r =>
    refine whole_if (fun c => ?_) (fun _ => whole_bad _ _)
    intro _
    have by_ := nb_bd y
    have huy := ub_nb y
    obtain ⟨⟨t0, t1⟩, c5⟩ := c
    have hi : isB ((nb b - 192) * 64 + nb y % 64) = true := (isB_iff _).2 (by omega)
    refine ⟨hi, r, ?_⟩
    show b :: y :: r = bytesOf ((nb b - 192) * 64 + nb y % 64) ++ r
    unfold bytesOf
    rw [if_neg (isB_no hi), if_neg (by omega), if_pos (by omega), show 192 + ((nb b - 192) * 64 + nb y % 64) / 64 = nb b by omega, show 128 + ((nb b - 192) * 64 + nb y % 64) % 64 = nb y by omega, hub, huy]; rfl
theorem whole3 (b : UInt8) (l : List UInt8) (h0 : 224 ≤ nb b) (h1 : nb b < 240) : Whole (b :: l) (piece3 (nb b) l) := by
  have hub := ub_nb b
  match l with
  | [] => exact whole_bad _ _
  | y :: r =>
    refine whole_if (fun c => ?_) (fun _ => whole_bad _ _)
    have by_ := nb_bd y
    have huy := ub_nb y
    obtain ⟨⟨t0, t1⟩, c6, c7⟩ := c
    match r with
    | [] => exact whole_bad _ _
    | z :: r =>
      refine whole_if (fun c => ?_) (fun _ => whole_bad _ _)
      intro _
      have bz := nb_bd z
      have huz := ub_nb z
      obtain ⟨u0, u1⟩ := c
      have hi : isB (((nb b - 224) * 64 + nb y % 64) * 64 + nb z % 64) = true := (isB_iff _).2 (by omega)
      refine ⟨hi, r, ?_⟩
      show b :: y :: z :: r = bytesOf (((nb b - 224) * 64 + nb y % 64) * 64 + nb z % 64) ++ r
      unfold bytesOf
      rw [if_neg (isB_no hi), if_neg (by omega), if_neg (by omega), if_pos (by omega),
        show 224 + (((nb b - 224) * 64 + nb y % 64) * 64 + nb z % 64) / 4096 = nb b by omega,
        show 128 + (((nb b - 224) * 64 + nb y % 64) * 64 + nb z % 64) / 64 % 64 = nb y by omega,
        show 128 + (((nb b - 224) * 64 + nb y % 64) * 64 + nb z % 64) % 64 = nb z by omega, hub, huy, huz]; rfl
theorem whole4 (b : UInt8) (l : List UInt8) (h0 : 240 ≤ nb b) (h1 : nb b < 248) : Whole (b :: l) (piece4 (nb b) l) := by
  have hub := ub_nb b
  match l with
  | [] => exact whole_bad _ _
  | y :: r =>
    refine whole_if (fun c => ?_) (fun _ => whole_bad _ _)
    have by_ := nb_bd y
    have huy := ub_nb y
    obtain ⟨⟨t0, t1⟩, c7, c8⟩ := c
    match r with
    | [] => exact whole_bad _ _
    | z :: r =>
      refine whole_if (fun c => ?_) (fun _ => whole_bad _ _)
      have bz := nb_bd z
      have huz := ub_nb z
      obtain ⟨u0, u1⟩ := c
      match r with
      | [] => exact whole_bad _ _
      | q :: r =>
        refine whole_if (fun c => ?_) (fun _ => whole_bad _ _)
        intro _
        have bq := nb_bd q
        have huq := ub_nb q
        obtain ⟨q0, q1⟩ := c
        have hi : isB ((((nb b - 240) * 64 + nb y % 64) * 64 + nb z % 64) * 64 + nb q % 64) = true := (isB_iff _).2 (by omega)
        refine ⟨hi, r, ?_⟩
        show b :: y :: z :: q :: r = bytesOf ((((nb b - 240) * 64 + nb y % 64) * 64 + nb z % 64) * 64 + nb q % 64) ++ r
        unfold bytesOf
        rw [if_neg (isB_no hi), if_neg (by omega), if_neg (by omega), if_neg (by omega),
          show 240 + ((((nb b - 240) * 64 + nb y % 64) * 64 + nb z % 64) * 64 + nb q % 64) / 262144 = nb b by omega,
          show 128 + ((((nb b - 240) * 64 + nb y % 64) * 64 + nb z % 64) * 64 + nb q % 64) / 4096 % 64 = nb y by omega,
          show 128 + ((((nb b - 240) * 64 + nb y % 64) * 64 + nb z % 64) * 64 + nb q % 64) / 64 % 64 = nb z by omega,
          show 128 + ((((nb b - 240) * 64 + nb y % 64) * 64 + nb z % 64) * 64 + nb q % 64) % 64 = nb q by omega, hub, huy, huz, huq]; rfl

theorem pieceOf_cons (b : UInt8) (r : List UInt8) : pieceOf (b :: r) = if nb b < 128 then ⟨nb b, 1, true⟩
    else if nb b < 192 then bad 1
    else if nb b < 224 then piece2 (nb b) r
    else if nb b < 240 then piece3 (nb b) r
    else if nb b < 248 then piece4 (nb b) r
    else bad 1 := rfl

/-- A head that is whole is its scalar's bytes. -/
theorem piece_ok (l : List UInt8) : Whole l (pieceOf l) := by
  match l with
  | [] => exact whole_bad _ _
  | b :: r =>
    rw [pieceOf_cons]
    exact whole_if (fun h => whole1 b r h) fun h1 => whole_if (fun _ => whole_bad _ _) fun h2 => whole_if (fun h => whole2 b r (by omega) h) fun h3 =>
      whole_if (fun h => whole3 b r (by omega) h) fun h4 => whole_if (fun h => whole4 b r (by omega) h) fun _ => whole_bad _ _

/-- How long a head is. -/
def Fits (l : List UInt8) (p : Pc) : Prop := 1 ≤ p.n ∧ p.n ≤ 4 ∧ p.n ≤ l.length ∧ (p.ok = false → p.v = repl)
theorem fits_bad {l : List UInt8} {n : Nat} (h0 : 1 ≤ n) (h1 : n ≤ 4) (h2 : n ≤ l.length) : Fits l (bad n) := ⟨h0, h1, h2, fun _ => rfl⟩
theorem fits_mk {l : List UInt8} {n : Nat} {v : Int} (h0 : 1 ≤ n) (h1 : n ≤ 4) (h2 : n ≤ l.length) : Fits l ⟨v, n, true⟩ := ⟨h0, h1, h2, fun h => by cases h⟩
theorem fits_if {l : List UInt8} {c : Prop} [Decidable c] {p q : Pc} (h1 : Fits l p) (h2 : Fits l q) : Fits l (if c then p else q) := by
  by_cases h : c
  · rw [if_pos h]; exact h1
  · rw [if_neg h]; exact h2
theorem fits2 (b : UInt8) (x : Int) (l : List UInt8) : Fits (b :: l) (piece2 x l) := by
  match l with
  | [] => exact fits_bad (by omega) (by omega) (by simp)
  | y :: r => exact fits_if (fits_mk (by omega) (by omega) (by simp)) (fits_bad (by omega) (by omega) (by simp))
theorem fits3 (b : UInt8) (x : Int) (l : List UInt8) : Fits (b :: l) (piece3 x l) := by
  match l with
  | [] => exact fits_bad (by omega) (by omega) (by simp)
  | [y] => exact fits_if (fits_bad (by omega) (by omega) (by simp)) (fits_bad (by omega) (by omega) (by simp))
  | y :: z :: r => exact fits_if (fits_if (fits_mk (by omega) (by omega) (by simp)) (fits_bad (by omega) (by omega) (by simp))) (fits_bad (by omega) (by omega) (by simp))
theorem fits4 (b : UInt8) (x : Int) (l : List UInt8) : Fits (b :: l) (piece4 x l) := by
  match l with
  | [] => exact fits_bad (by omega) (by omega) (by simp)
  | [y] => exact fits_if (fits_bad (by omega) (by omega) (by simp)) (fits_bad (by omega) (by omega) (by simp))
  | [y, z] => exact fits_if (fits_if (fits_bad (by omega) (by omega) (by simp)) (fits_bad (by omega) (by omega) (by simp))) (fits_bad (by omega) (by omega) (by simp))
  | y :: z :: q :: r => exact fits_if (fits_if (fits_if (fits_mk (by omega) (by omega) (by simp)) (fits_bad (by omega) (by omega) (by simp))) (fits_bad (by omega) (by omega) (by simp))) (fits_bad (by omega) (by omega) (by simp))
theorem piece_fits (b : UInt8) (r : List UInt8) : Fits (b :: r) (pieceOf (b :: r)) := by
  rw [pieceOf_cons]
  exact fits_if (fits_mk (by omega) (by omega) (by simp)) (fits_if (fits_bad (by omega) (by omega) (by simp)) (fits_if (fits2 _ _ _) (fits_if (fits3 _ _ _) (fits_if (fits4 _ _ _) (fits_bad (by omega) (by omega) (by simp))))))
theorem piece_isB (b : UInt8) (r : List UInt8) : isB (pieceOf (b :: r)).v = true := by
  cases h : (pieceOf (b :: r)).ok
  · rw [(piece_fits b r).2.2.2 h]; exact isB_repl
  · exact (piece_ok (b :: r) h).1

/-- A scalar's bytes cut short are one piece that is ill-formed. -/
theorem piece_cut (v : Int) (k : Nat) (h : isB v = true) (h0 : 0 < k) (h1 : k < (bytesOf v).length) : pieceOf ((bytesOf v).take k) = bad k := by
  have hb := (isB_iff v).1 h
  unfold bytesOf at h1 ⊢
  rw [if_neg (isB_no h)] at h1 ⊢
  split at h1
  · simp at h1; omega
  rename_i c1
  rw [if_neg c1]
  split at h1
  · rename_i c2
    rw [if_pos c2]
    obtain rfl : k = 1 := by simp at h1; omega
    have e := nb_ub (192 + v / 64) (by omega) (by omega)
    simp only [List.take_succ_cons, List.take_zero, pieceOf, piece2, e]
    rw [if_neg (by omega), if_neg (by omega), if_pos (by omega)]
  rename_i c2
  rw [if_neg c2]
  split at h1
  · rename_i c3
    rw [if_pos c3]
    have e := nb_ub (224 + v / 4096) (by omega) (by omega)
    have f := nb_ub (128 + v / 64 % 64) (by omega) (by omega)
    have hk : k = 1 ∨ k = 2 := by simp at h1; omega
    rcases hk with rfl | rfl
    · simp only [List.take_succ_cons, List.take_zero, pieceOf, piece3, e]
      rw [if_neg (by omega), if_neg (by omega), if_neg (by omega), if_pos (by omega)]
    · simp only [List.take_succ_cons, List.take_zero, pieceOf, piece3, piece3b, tl, go3, e, f]
      rw [if_neg (by omega), if_neg (by omega), if_neg (by omega), if_pos (by omega), if_pos (by omega)]
  · rename_i c3
    rw [if_neg c3]
    have e := nb_ub (240 + v / 262144) (by omega) (by omega)
    have f := nb_ub (128 + v / 4096 % 64) (by omega) (by omega)
    have g := nb_ub (128 + v / 64 % 64) (by omega) (by omega)
    have hk : k = 1 ∨ k = 2 ∨ k = 3 := by simp at h1; omega
    rcases hk with rfl | rfl | rfl
    · simp only [List.take_succ_cons, List.take_zero, pieceOf, piece4, e]
      rw [if_neg (by omega), if_neg (by omega), if_neg (by omega), if_neg (by omega), if_pos (by omega)]
    · simp only [List.take_succ_cons, List.take_zero, pieceOf, piece4, piece4b, tl, go4, e, f]
      rw [if_neg (by omega), if_neg (by omega), if_neg (by omega), if_neg (by omega), if_pos (by omega), if_pos (by omega)]
    · simp only [List.take_succ_cons, List.take_zero, pieceOf, piece4, piece4b, piece4c, tl, go4, e, f, g]
      rw [if_neg (by omega), if_neg (by omega), if_neg (by omega), if_neg (by omega), if_pos (by omega), if_pos (by omega), if_pos (by omega)]

/-- A byte that begins no scalar's bytes is a piece by itself. -/
theorem piece_odd (b : UInt8) (r : List UInt8) (h : 128 ≤ nb b ∧ nb b < 194 ∨ 245 ≤ nb b) : pieceOf (b :: r) = bad 1 := by
  have bb := nb_bd b
  rw [pieceOf_cons]
  rw [if_neg (by omega)]
  split
  · rfl
  split
  · match r with
    | [] => rfl
    | y :: r =>
      have := nb_bd y
      simp only [piece2]
      rw [if_neg (by omega)]
  rw [if_neg (by omega)]
  split
  · match r with
    | [] => rfl
    | y :: r =>
      have := nb_bd y
      exact if_neg (fun c => by have := c.2; unfold go4 at this; omega)
  · rfl
end Go.Proofs.YtmhfgncffkfelaaDoor.U

/- The plain mathematics of layer 2, second part: all pieces of a row of bytes, the text of a row of scalars. No program stands in it. -/
namespace Go.Proofs.YtmhfgncffkfelaaDoor.U

/-- A piece where it stands. -/
structure Pp where
  v : Int
  at_ : Nat
  n : Nat
  ok : Bool

def piecesF : Nat → Nat → List UInt8 → List Pp
  | 0, _, _ => []
  | _ + 1, _, [] => []
  | f + 1, k, b :: r => ⟨(pieceOf (b :: r)).v, k, (pieceOf (b :: r)).n, (pieceOf (b :: r)).ok⟩ :: piecesF f (k + (pieceOf (b :: r)).n) ((b :: r).drop (pieceOf (b :: r)).n)

theorem piecesF_enough (f : Nat) : ∀ (g k : Nat) (l : List UInt8), l.length ≤ f → l.length ≤ g → piecesF f k l = piecesF g k l := by
  induction f with
  | zero =>
    intro g k l h _
    obtain rfl : l = [] := List.eq_nil_of_length_eq_zero (by omega)
    cases g <;> rfl
  | succ f ih =>
    intro g k l h hg
    match g, l with
    | 0, l =>
      obtain rfl : l = [] := List.eq_nil_of_length_eq_zero (by omega)
      rfl
    | _ + 1, [] => rfl
    | g + 1, b :: r =>
      have hf := piece_fits b r
      have hl : ((b :: r).drop (pieceOf (b :: r)).n).length ≤ r.length := by
        rw [List.length_drop, List.length_cons]; have := hf.1; omega
      simp only [piecesF]
      rw [ih g _ _ (by simp at h; omega) (by simp at hg; omega)]

/-- All pieces of a row of bytes that begins at a place. -/
def piecesAt (k : Nat) (l : List UInt8) : List Pp := piecesF l.length k l
theorem piecesAt_nil (k : Nat) : piecesAt k [] = [] := rfl
theorem piecesAt_cons (k : Nat) (b : UInt8) (r : List UInt8) :
    piecesAt k (b :: r) = ⟨(pieceOf (b :: r)).v, k, (pieceOf (b :: r)).n, (pieceOf (b :: r)).ok⟩ :: piecesAt (k + (pieceOf (b :: r)).n) ((b :: r).drop (pieceOf (b :: r)).n) := by
  have hf := piece_fits b r
  unfold piecesAt
  rw [List.length_cons]
  simp only [piecesF]
  rw [piecesF_enough r.length _ _ _ (by rw [List.length_drop, List.length_cons]; have := hf.1; omega) (Nat.le_refl _)]

theorem ne_nil_cons {l : List UInt8} (h : l ≠ []) : ∃ b r, l = b :: r := by
  cases l with
  | nil => exact absurd rfl h
  | cons b r => exact ⟨b, r, rfl⟩

/-- By the first piece. -/
theorem piecesAt_step (k : Nat) (l : List UInt8) (h : l ≠ []) :
    piecesAt k l = ⟨(pieceOf l).v, k, (pieceOf l).n, (pieceOf l).ok⟩ :: piecesAt (k + (pieceOf l).n) (l.drop (pieceOf l).n) := by
  obtain ⟨b, r, rfl⟩ := ne_nil_cons h
  exact piecesAt_cons k b r

theorem bytesOf_ne (v : Int) (h : isB v = true) : bytesOf v ≠ [] := by
  unfold bytesOf
  rw [if_neg (isB_no h)]
  split
  · simp
  split
  · simp
  split <;> simp
theorem bytesOf_len (v : Int) : (bytesOf v).length ≤ 4 := by
  unfold bytesOf
  split
  · simp
  split
  · simp
  split
  · simp
  split <;> simp

theorem piecesAt_bytes (k : Nat) (v : Int) (r : List UInt8) (h : isB v = true) :
    piecesAt k (bytesOf v ++ r) = ⟨v, k, (bytesOf v).length, true⟩ :: piecesAt (k + (bytesOf v).length) r := by
  rw [piecesAt_step k _ (by simp [bytesOf_ne v h]), piece_bytes v r h]
  simp

/-- The bytes of a row of scalars. -/
def textL (l : List Int) : List UInt8 := l.flatMap bytesOf
theorem textL_cons (v : Int) (l : List Int) : textL (v :: l) = bytesOf v ++ textL l := by simp [textL]
theorem textL_append (a b : List Int) : textL (a ++ b) = textL a ++ textL b := by simp [textL]

/-- The pieces of scalars that begin at a place. -/
def scalarsAt : Nat → List Int → List Pp
  | _, [] => []
  | k, v :: l => ⟨v, k, (bytesOf v).length, true⟩ :: scalarsAt (k + (bytesOf v).length) l
def allB (l : List Int) : Bool := l.all isB
theorem allB_cons (v : Int) (l : List Int) : allB (v :: l) = (isB v && allB l) := rfl

theorem piecesAt_text (l : List Int) : ∀ (k : Nat) (r : List UInt8), allB l = true → piecesAt k (textL l ++ r) = scalarsAt k l ++ piecesAt (k + (textL l).length) r := by
  induction l with
  | nil => intro k r _; simp [textL, scalarsAt]
  | cons v l ih =>
    intro k r h
    rw [allB_cons, Bool.and_eq_true] at h
    rw [textL_cons, List.append_assoc, piecesAt_bytes k v _ h.1, ih _ _ h.2, List.length_append, Nat.add_assoc]
    rfl

/-- Nothing ill-formed? -/
def validL (l : List UInt8) : Bool := (piecesAt 0 l).all (·.ok)
def okAll (l : List Pp) : Bool := l.all (·.ok)

theorem okAll_shift (n : Nat) : ∀ (k j : Nat) (l : List UInt8), l.length ≤ n → okAll (piecesAt k l) = okAll (piecesAt j l) ∧ (piecesAt k l).length = (piecesAt j l).length := by
  induction n with
  | zero =>
    intro k j l h
    obtain rfl : l = [] := List.eq_nil_of_length_eq_zero (by omega)
    exact ⟨rfl, rfl⟩
  | succ n ih =>
    intro k j l h
    match l with
    | [] => exact ⟨rfl, rfl⟩
    | b :: r =>
      have hf := piece_fits b r
      have hi := ih (k + (pieceOf (b :: r)).n) (j + (pieceOf (b :: r)).n) ((b :: r).drop (pieceOf (b :: r)).n) (by rw [List.length_drop]; have := hf.1; simp at h ⊢; omega)
      rw [piecesAt_cons k, piecesAt_cons j]
      exact ⟨by simp only [okAll, List.all_cons] at hi ⊢; rw [hi.1], by simp only [List.length_cons]; rw [hi.2]⟩

/-- What is well formed is a row of scalars' text. -/
theorem valid_text (n : Nat) : ∀ (k : Nat) (l : List UInt8), l.length ≤ n → okAll (piecesAt k l) = true → ∃ vs, allB vs = true ∧ l = textL vs := by
  induction n with
  | zero =>
    intro k l h _
    obtain rfl : l = [] := List.eq_nil_of_length_eq_zero (by omega)
    exact ⟨[], rfl, rfl⟩
  | succ n ih =>
    intro k l h ho
    cases l with
    | nil => exact ⟨[], rfl, rfl⟩
    | cons b r =>
      rw [piecesAt_cons] at ho
      simp only [okAll, List.all_cons, Bool.and_eq_true] at ho
      obtain ⟨h1, h2⟩ := ho
      have hw := piece_ok (b :: r)
      have hp := (piece_fits b r).1
      have hb : ∀ (x : Int) (r' : List UInt8), isB x = true → b :: r = bytesOf x ++ r' → pieceOf (b :: r) = ⟨x, (bytesOf x).length, true⟩ := fun x r' hx e => by rw [e]; exact piece_bytes x r' hx
      generalize pieceOf (b :: r) = p at *
      obtain ⟨hB, r', hr⟩ := hw h1
      have hn : p.n = (bytesOf p.v).length := congrArg Pc.n (hb p.v r' hB hr)
      have hd : (b :: r).drop p.n = r' := by rw [hr, hn]; simp
      have hlen : r'.length ≤ n := by
        have e : (b :: r).length = (bytesOf p.v).length + r'.length := by rw [hr, List.length_append]
        rw [List.length_cons] at h e
        omega
      rw [hd] at h2
      obtain ⟨vs, hv, hvs⟩ := ih _ r' hlen h2
      exact ⟨p.v :: vs, by rw [allB_cons, hB, hv]; rfl, by rw [textL_cons, ← hvs]; exact hr⟩

theorem valid_iff (l : List UInt8) : validL l = true ↔ ∃ vs, allB vs = true ∧ l = textL vs := by
  constructor
  · intro h; exact valid_text _ 0 l (Nat.le_refl _) h
  · rintro ⟨vs, hv, rfl⟩
    have h := piecesAt_text vs 0 [] hv
    rw [List.append_nil, piecesAt_nil, List.append_nil] at h
    unfold validL
    rw [h]
    clear h hv
    generalize 0 = k
    induction vs generalizing k with
    | nil => rfl
    | cons v vs ih => simp only [scalarsAt, List.all_cons, Bool.true_and]; exact ih _

/-- A row behind one that is well formed. -/
theorem piecesAt_row (s t : List UInt8) (k : Nat) (h : validL s = true) : piecesAt k (s ++ t) = piecesAt k s ++ piecesAt (k + s.length) t := by
  obtain ⟨vs, hv, rfl⟩ := (valid_iff s).1 h
  have h1 := piecesAt_text vs k [] hv
  rw [List.append_nil, piecesAt_nil, List.append_nil] at h1
  rw [piecesAt_text vs k t hv, h1]

/-- Moved on. -/
def Pp.move (d : Nat) (p : Pp) : Pp := ⟨p.v, p.at_ + d, p.n, p.ok⟩
theorem move_mk (d : Nat) (v : Int) (k n : Nat) (ok : Bool) : Pp.move d ⟨v, k, n, ok⟩ = ⟨v, k + d, n, ok⟩ := rfl
theorem piecesAt_move (n : Nat) : ∀ (k d : Nat) (l : List UInt8), l.length ≤ n → piecesAt (k + d) l = (piecesAt k l).map (Pp.move d) := by
  induction n with
  | zero =>
    intro k d l h
    obtain rfl : l = [] := List.eq_nil_of_length_eq_zero (by omega)
    rfl
  | succ n ih =>
    intro k d l h
    match l with
    | [] => rfl
    | b :: r =>
      have hf := piece_fits b r
      have hi := ih (k + (pieceOf (b :: r)).n) d ((b :: r).drop (pieceOf (b :: r)).n) (by rw [List.length_drop]; have := hf.1; simp at h ⊢; omega)
      rw [piecesAt_cons, piecesAt_cons k, List.map_cons, ← hi, move_mk]
      rw [show k + d + (pieceOf (b :: r)).n = k + (pieceOf (b :: r)).n + d by omega]

/-- Pieces: how many, how long each, that they follow one another. -/
theorem piecesAt_len (n : Nat) : ∀ (k : Nat) (l : List UInt8), l.length ≤ n → (piecesAt k l).length ≤ l.length := by
  induction n with
  | zero =>
    intro k l h
    obtain rfl : l = [] := List.eq_nil_of_length_eq_zero (by omega)
    simp [piecesAt_nil]
  | succ n ih =>
    intro k l h
    match l with
    | [] => simp [piecesAt_nil]
    | b :: r =>
      have hf := piece_fits b r
      have hl : ((b :: r).drop (pieceOf (b :: r)).n).length + 1 ≤ (b :: r).length := by rw [List.length_drop]; have := hf.1; have := hf.2.2.1; omega
      have hi := ih (k + (pieceOf (b :: r)).n) ((b :: r).drop (pieceOf (b :: r)).n) (by omega)
      rw [piecesAt_cons, List.length_cons]
      omega
end Go.Proofs.YtmhfgncffkfelaaDoor.U

