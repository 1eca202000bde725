/- What compare returns: which of two ranges stands ahead. -/
import Derived.Test.YtehikcddnjibcaaFns
import Derived.Deep.RegionHeld3
namespace Go.Proofs.Ytehikcddnjibcaa
open Go.RowKit
set_option linter.unusedVariables false
set_option linter.unusedSimpArgs false

def cmpI (x y : Int) : Int := if x < y then -1 else if y < x then 1 else 0
def orN (x y : Int) : Int := if x = 0 then y else x
def cmpR (x y : Rg) : Int := orN (cmpI x.1 y.1) (cmpI x.2 y.2)

theorem cmpI_any (x y : Int) (w : World) :
    Calls Try.prog 57 #[.int .i64 x, .int .i64 y] w fun e w' => e = .returned (.int .i64 (cmpI x y)) ∧ w = w' := by
  have e1 : (x != x) = false := by simp
  have e2 : (y != y) = false := by simp
  unfold cmpI
  by_cases h1 : x < y
  · rw [if_pos h1]
    go_enter Try.func57, Try.ntmps57
    go_wp2
    go_ret
    exact ⟨rfl, rfl⟩
  · rw [if_neg h1]
    by_cases h2 : y < x
    · rw [if_pos h2]
      go_enter Try.func57, Try.ntmps57
      go_wp2
      go_ret
      exact ⟨rfl, rfl⟩
    · rw [if_neg h2]
      go_enter Try.func57, Try.ntmps57
      go_wp2
      go_ret
      exact ⟨rfl, rfl⟩

theorem or_any (x y : Int) (b c : Nat) (w : World) (h0 : w.cell? ⟨b, 0, none⟩ = some (.int .i64 x)) (h1 : w.cell? ⟨b, 1, none⟩ = some (.int .i64 y)) :
    Calls Try.prog 56 #[.slice (some ⟨b, 0, none⟩) 2 c] w fun e w' => e = .returned (.int .i64 (orN x y)) ∧ w = w' := by
  unfold orN
  by_cases hx : x = 0
  · subst hx
    rw [if_pos rfl]
    by_cases hy : y = 0
    · subst hy
      go_enter Try.func56, Try.ntmps56
      go_wp2_with fail
      refine wp_loop_rounds 3 ?_
      rw [rounds_succ]
      go_wp2_with fail
      rw [rounds_succ]
      go_wp2_with fail
      rw [rounds_succ]
      go_wp2_with fail
      go_ret
      exact ⟨rfl, rfl⟩
    · have hy' : (y != 0) = true := by simp [hy]
      go_enter Try.func56, Try.ntmps56
      go_wp2_with fail
      refine wp_loop_rounds 3 ?_
      rw [rounds_succ]
      go_wp2_with fail
      rw [rounds_succ]
      go_wp2_with fail
      go_ret
      exact ⟨rfl, rfl⟩
  · have hx' : (x != 0) = true := by simp [hx]
    rw [if_neg hx]
    go_enter Try.func56, Try.ntmps56
    go_wp2_with fail
    refine wp_loop_rounds 3 ?_
    rw [rounds_succ]
    go_wp2_with fail
    go_ret
    exact ⟨rfl, rfl⟩

theorem cell_alloc {w : World} {a : Addr} {u : Value} (o : Obj) (h : w.cell? a = some u) : (w.alloc o).cell? a = some u := by
  rw [World.cell?_alloc_some _ _ _ (by rw [h]; rfl)]; exact h

theorem compare_any (a b c d : Int) (w : World) :
    Calls Try.prog 46 #[.agg #[.int .i64 a, .int .i64 b], .agg #[.int .i64 c, .int .i64 d]] w fun e w' => e = .returned (.int .i64 (cmpR (a, b) (c, d))) ∧ Below w.heap.size w w' ∧ w.drawn ≤ w'.drawn := by
  have hd : cmpR (a, b) (c, d) = orN (cmpI a c) (cmpI b d) := rfl
  rw [hd]
  clear hd
  go_enter Try.func46, Try.ntmps46
  go_wp2_with fail
  have c0 : ((w.alloc (.cells #[.int .i64 a, .int .i64 b] 41)).alloc (.cells #[.int .i64 c, .int .i64 d] 41)).cell? ⟨w.heap.size, 0, none⟩ = some (.int .i64 a) := by simp
  have c1 : ((w.alloc (.cells #[.int .i64 a, .int .i64 b] 41)).alloc (.cells #[.int .i64 c, .int .i64 d] 41)).cell? ⟨w.heap.size, 1, none⟩ = some (.int .i64 b) := by simp
  have c2 : ((w.alloc (.cells #[.int .i64 a, .int .i64 b] 41)).alloc (.cells #[.int .i64 c, .int .i64 d] 41)).cell? ⟨w.heap.size + 1, 0, none⟩ = some (.int .i64 c) := by simp
  have c3 : ((w.alloc (.cells #[.int .i64 a, .int .i64 b] 41)).alloc (.cells #[.int .i64 c, .int .i64 d] 41)).cell? ⟨w.heap.size + 1, 1, none⟩ = some (.int .i64 d) := by simp
  have hb : Below w.heap.size w ((w.alloc (.cells #[.int .i64 a, .int .i64 b] 41)).alloc (.cells #[.int .i64 c, .int .i64 d] 41)) := (below_new _ _).alloc (by simp) _
  have hdr : w.drawn ≤ ((w.alloc (.cells #[.int .i64 a, .int .i64 b] 41)).alloc (.cells #[.int .i64 c, .int .i64 d] 41)).drawn := Nat.le_refl _
  generalize (w.alloc (.cells #[.int .i64 a, .int .i64 b] 41)).alloc (.cells #[.int .i64 c, .int .i64 d] 41) = w1 at *
  go_region_held3 (fun w' => w'.cell? ⟨w.heap.size, 0, none⟩ = some (.int .i64 a) ∧ w'.cell? ⟨w.heap.size, 1, none⟩ = some (.int .i64 b) ∧ w'.cell? ⟨w.heap.size + 1, 0, none⟩ = some (.int .i64 c) ∧ w'.cell? ⟨w.heap.size + 1, 1, none⟩ = some (.int .i64 d) ∧ Below w.heap.size w w' ∧ w.drawn ≤ w'.drawn) (first | exact ⟨c0, c1, c2, c3, Below.drew hb, Nat.le_succ_of_le hdr⟩ | exact ⟨c0, c1, c2, c3, hb, hdr⟩ | (refine ⟨?_, ?_, ?_, ?_, ?_, ?_⟩ <;> assumption) | exact ⟨cell_alloc _ c0, cell_alloc _ c1, cell_alloc _ c2, cell_alloc _ c3, Below.drew (hb.alloc hb.size _), Nat.le_succ_of_le hdr⟩) (first | (go_at_call 57; refine (cmpI_any _ _ _).mono ?_; rintro e w9 ⟨rfl, rfl⟩) | (go_at_call 56; refine (or_any (cmpI a c) (cmpI b d) _ _ _ (by simp) (by simp)).mono ?_; rintro e w9 ⟨rfl, rfl⟩))
  all_goals
    go_wp2_with fail
    go_ret
    exact ⟨rfl, Below.drew (hb.alloc hb.size _), Nat.le_succ_of_le hdr⟩

theorem cmpI_lt (x y : Int) : decide (cmpI x y < 0) = decide (x < y) := by
  unfold cmpI
  split
  · simp [*]
  · split <;> simp [*]
theorem cmpI_zero (x y : Int) : cmpI x y = 0 ↔ x = y := by
  unfold cmpI
  split
  · constructor <;> intro h <;> omega
  · split <;> constructor <;> intro h <;> omega
theorem cmpR_lt (x y : Rg) : decide (cmpR x y < 0) = ltR x y := by
  unfold cmpR orN ltR
  by_cases h : x.1 = y.1
  · rw [if_pos ((cmpI_zero _ _).2 h), cmpI_lt, h]; simp
  · rw [if_neg (fun e => h ((cmpI_zero _ _).1 e)), cmpI_lt]; simp [h]
end Go.Proofs.Ytehikcddnjibcaa
