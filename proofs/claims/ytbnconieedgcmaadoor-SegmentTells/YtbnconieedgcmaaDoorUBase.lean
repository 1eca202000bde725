/- The table of lead bytes as the program's text lays it; what leadOf and leadFor return. -/
import Derived.Test.YtbnconieedgcmaaDoorRows
import Derived.WalkKit
import Derived.ProofKit
import Derived.OpenShut
import Derived.Lib.Hide
import Derived.Deep.DeepMust
import Derived.Handy
namespace Go.Proofs.YtbnconieedgcmaaDoor.U
open Go.RowKit

/-- The table's sixteen cells. -/
def Tab (w : World) : Prop := 1 < w.heap.size ∧ w.cell? ⟨1, 0, none⟩ = some (.int .u8 0) ∧ w.cell? ⟨1, 1, none⟩ = some (.int .u8 7) ∧ w.cell? ⟨1, 2, none⟩ = some (.int .i64 1) ∧ w.cell? ⟨1, 3, none⟩ = some (.int .i64 0) ∧ w.cell? ⟨1, 4, none⟩ = some (.int .u8 6) ∧ w.cell? ⟨1, 5, none⟩ = some (.int .u8 5) ∧ w.cell? ⟨1, 6, none⟩ = some (.int .i64 2) ∧ w.cell? ⟨1, 7, none⟩ = some (.int .i64 128) ∧ w.cell? ⟨1, 8, none⟩ = some (.int .u8 14) ∧ w.cell? ⟨1, 9, none⟩ = some (.int .u8 4) ∧ w.cell? ⟨1, 10, none⟩ = some (.int .i64 3) ∧ w.cell? ⟨1, 11, none⟩ = some (.int .i64 2048) ∧ w.cell? ⟨1, 12, none⟩ = some (.int .u8 30) ∧ w.cell? ⟨1, 13, none⟩ = some (.int .u8 3) ∧ w.cell? ⟨1, 14, none⟩ = some (.int .i64 4) ∧ w.cell? ⟨1, 15, none⟩ = some (.int .i64 65536)

theorem Tab.below {w w' : World} (h : Tab w) (hb : Below w.heap.size w w') : Tab w' := by
  have hs := h.1
  have hc : ∀ i, w'.cell? ⟨1, i, none⟩ = w.cell? ⟨1, i, none⟩ := fun i => hb.cell (p := ⟨1, i, none⟩) hs
  unfold Tab at h ⊢
  simp only [hc]
  exact ⟨Nat.lt_of_lt_of_le hs hb.size, h.2⟩
theorem Tab.alloc {w : World} (h : Tab w) (o : Obj) : Tab (w.alloc o) := h.below ((Below.refl _ _).alloc (Nat.le_refl _) _)
theorem Tab.drew {w : World} (h : Tab w) : Tab w.drew := h

/-- The table as one value, and its rows. -/
def leadsV : Value := .agg #[.int .u8 0, .int .u8 7, .int .i64 1, .int .i64 0, .int .u8 6, .int .u8 5, .int .i64 2, .int .i64 128, .int .u8 14, .int .u8 4, .int .i64 3, .int .i64 2048, .int .u8 30, .int .u8 3, .int .i64 4, .int .i64 65536]
theorem idx0 (w : World) : (Instr.index 150 (.agg #[.int .u8 0, .int .u8 7, .int .i64 1, .int .i64 0, .int .u8 6, .int .u8 5, .int .i64 2, .int .i64 128, .int .u8 14, .int .u8 4, .int .i64 3, .int .i64 2048, .int .u8 30, .int .u8 3, .int .i64 4, .int .i64 65536]) (.int .i64 0)).run Tryd.prog w = .ok (.agg #[.int .u8 0, .int .u8 7, .int .i64 1, .int .i64 0]) w := by kernel_rfl
theorem idx1 (w : World) : (Instr.index 150 (.agg #[.int .u8 0, .int .u8 7, .int .i64 1, .int .i64 0, .int .u8 6, .int .u8 5, .int .i64 2, .int .i64 128, .int .u8 14, .int .u8 4, .int .i64 3, .int .i64 2048, .int .u8 30, .int .u8 3, .int .i64 4, .int .i64 65536]) (.int .i64 1)).run Tryd.prog w = .ok (.agg #[.int .u8 6, .int .u8 5, .int .i64 2, .int .i64 128]) w := by kernel_rfl
theorem idx2 (w : World) : (Instr.index 150 (.agg #[.int .u8 0, .int .u8 7, .int .i64 1, .int .i64 0, .int .u8 6, .int .u8 5, .int .i64 2, .int .i64 128, .int .u8 14, .int .u8 4, .int .i64 3, .int .i64 2048, .int .u8 30, .int .u8 3, .int .i64 4, .int .i64 65536]) (.int .i64 2)).run Tryd.prog w = .ok (.agg #[.int .u8 14, .int .u8 4, .int .i64 3, .int .i64 2048]) w := by kernel_rfl
theorem idx3 (w : World) : (Instr.index 150 (.agg #[.int .u8 0, .int .u8 7, .int .i64 1, .int .i64 0, .int .u8 6, .int .u8 5, .int .i64 2, .int .i64 128, .int .u8 14, .int .u8 4, .int .i64 3, .int .i64 2048, .int .u8 30, .int .u8 3, .int .i64 4, .int .i64 65536]) (.int .i64 3)).run Tryd.prog w = .ok (.agg #[.int .u8 30, .int .u8 3, .int .i64 4, .int .i64 65536]) w := by kernel_rfl

/-- leadOf's answer. -/
def leadOfV (b : Int) : Value :=
  if b < 128 then .tuple #[.agg #[.int .u8 0, .int .u8 7, .int .i64 1, .int .i64 0], .bool true]
  else if b < 192 then .tuple #[.agg #[.int .u8 0, .int .u8 0, .int .i64 0, .int .i64 0], .bool false]
  else if b < 224 then .tuple #[.agg #[.int .u8 6, .int .u8 5, .int .i64 2, .int .i64 128], .bool true]
  else if b < 240 then .tuple #[.agg #[.int .u8 14, .int .u8 4, .int .i64 3, .int .i64 2048], .bool true]
  else if b < 248 then .tuple #[.agg #[.int .u8 30, .int .u8 3, .int .i64 4, .int .i64 65536], .bool true]
  else .tuple #[.agg #[.int .u8 0, .int .u8 0, .int .i64 0, .int .i64 0], .bool false]

set_option maxHeartbeats 1000000 in
theorem leadOf_any (b : Int) (w : World) (h : Tab w) (h0 : 0 ≤ b) (h1 : b ≤ 255) :
    Calls Tryd.prog 110 #[.int .u8 b] w fun e w' => e = .returned (leadOfV b) ∧ Below w.heap.size w w' := by
  obtain ⟨hs, c0, c1, c2, c3, c4, c5, c6, c7, c8, c9, c10, c11, c12, c13, c14, c15⟩ := h
  have hs0 : 0 < w.heap.size := by omega
  go_enter Tryd.func110, Tryd.ntmps110
  go_wp2_with fail
  clear c0 c1 c2 c3 c4 c5 c6 c7 c8 c9 c10 c11 c12 c13 c14 c15
  have x0 := idx0
  have x1 := idx1
  have x2 := idx2
  have x3 := idx3
  refine wp_loop_rounds 5 ?_
  by_cases g1 : b < 128
  · rw [rounds_succ]; go_wp2
    exact bodyPost_ret (v := leadOfV b) (by unfold leadOfV; rw [if_pos (by omega)]; simp [results, Tryd.results110, go_sem]) rfl ⟨rfl, by go_grown⟩
  by_cases g2 : b < 192
  · rw [rounds_succ]; go_wp2
    rw [rounds_succ]; go_wp2
    rw [rounds_succ]; go_wp2
    rw [rounds_succ]; go_wp2
    rw [rounds_succ]; go_wp2
    exact bodyPost_ret (v := leadOfV b) (by unfold leadOfV; rw [if_neg (by omega), if_pos (by omega)]; simp [results, Tryd.results110, go_sem]) rfl ⟨rfl, by go_grown⟩
  by_cases g3 : b < 224
  · rw [rounds_succ]; go_wp2
    rw [rounds_succ]; go_wp2
    exact bodyPost_ret (v := leadOfV b) (by unfold leadOfV; rw [if_neg (by omega), if_neg (by omega), if_pos (by omega)]; simp [results, Tryd.results110, go_sem]) rfl ⟨rfl, by go_grown⟩
  by_cases g4 : b < 240
  · rw [rounds_succ]; go_wp2
    rw [rounds_succ]; go_wp2
    rw [rounds_succ]; go_wp2
    exact bodyPost_ret (v := leadOfV b) (by unfold leadOfV; rw [if_neg (by omega), if_neg (by omega), if_neg (by omega), if_pos (by omega)]; simp [results, Tryd.results110, go_sem]) rfl ⟨rfl, by go_grown⟩
  by_cases g5 : b < 248
  · rw [rounds_succ]; go_wp2
    rw [rounds_succ]; go_wp2
    rw [rounds_succ]; go_wp2
    rw [rounds_succ]; go_wp2
    exact bodyPost_ret (v := leadOfV b) (by unfold leadOfV; rw [if_neg (by omega), if_neg (by omega), if_neg (by omega), if_neg (by omega), if_pos (by omega)]; simp [results, Tryd.results110, go_sem]) rfl ⟨rfl, by go_grown⟩
  · rw [rounds_succ]; go_wp2
    rw [rounds_succ]; go_wp2
    rw [rounds_succ]; go_wp2
    rw [rounds_succ]; go_wp2
    rw [rounds_succ]; go_wp2
    exact bodyPost_ret (v := leadOfV b) (by unfold leadOfV; rw [if_neg (by omega), if_neg (by omega), if_neg (by omega), if_neg (by omega), if_neg (by omega)]; simp [results, Tryd.results110, go_sem]) rfl ⟨rfl, by go_grown⟩

/-- leadFor's answer at a number that is not below 0. -/
def leadForV (v : Int) : Value :=
  if v < 128 then .agg #[.int .u8 0, .int .u8 7, .int .i64 1, .int .i64 0]
  else if v < 2048 then .agg #[.int .u8 6, .int .u8 5, .int .i64 2, .int .i64 128]
  else if v < 65536 then .agg #[.int .u8 14, .int .u8 4, .int .i64 3, .int .i64 2048]
  else .agg #[.int .u8 30, .int .u8 3, .int .i64 4, .int .i64 65536]

set_option maxHeartbeats 1000000 in
theorem leadFor_any (v : Int) (w : World) (h : Tab w) (h0 : 0 ≤ v) :
    Calls Tryd.prog 123 #[.int .i64 v] w fun e w' => e = .returned (leadForV v) ∧ Below w.heap.size w w' := by
  obtain ⟨hs, c0, c1, c2, c3, c4, c5, c6, c7, c8, c9, c10, c11, c12, c13, c14, c15⟩ := h
  have hs0 : 0 < w.heap.size := by omega
  go_enter Tryd.func123, Tryd.ntmps123
  go_wp2_with fail
  clear c0 c1 c2 c3 c4 c5 c6 c7 c8 c9 c10 c11 c12 c13 c14 c15
  have x0 := idx0
  have x1 := idx1
  have x2 := idx2
  have x3 := idx3
  refine wp_loop_rounds 5 ?_
  by_cases g1 : v < 128
  · rw [rounds_succ]; go_wp2
    rw [rounds_succ]; go_wp2
    rw [rounds_succ]; go_wp2
    rw [rounds_succ]; go_wp2
    rw [rounds_succ]; go_wp2
    exact bodyPost_ret (v := leadForV v) (by unfold leadForV; rw [if_pos (by omega)]; simp [results, Tryd.results123, go_sem]) rfl ⟨rfl, by go_grown⟩
  by_cases g2 : v < 2048
  · rw [rounds_succ]; go_wp2
    rw [rounds_succ]; go_wp2
    rw [rounds_succ]; go_wp2
    rw [rounds_succ]; go_wp2
    rw [rounds_succ]; go_wp2
    exact bodyPost_ret (v := leadForV v) (by unfold leadForV; rw [if_neg (by omega), if_pos (by omega)]; simp [results, Tryd.results123, go_sem]) rfl ⟨rfl, by go_grown⟩
  by_cases g3 : v < 65536
  · rw [rounds_succ]; go_wp2
    rw [rounds_succ]; go_wp2
    rw [rounds_succ]; go_wp2
    rw [rounds_succ]; go_wp2
    rw [rounds_succ]; go_wp2
    exact bodyPost_ret (v := leadForV v) (by unfold leadForV; rw [if_neg (by omega), if_neg (by omega), if_pos (by omega)]; simp [results, Tryd.results123, go_sem]) rfl ⟨rfl, by go_grown⟩
  · rw [rounds_succ]; go_wp2
    rw [rounds_succ]; go_wp2
    rw [rounds_succ]; go_wp2
    rw [rounds_succ]; go_wp2
    rw [rounds_succ]; go_wp2
    exact bodyPost_ret (v := leadForV v) (by unfold leadForV; rw [if_neg (by omega), if_neg (by omega), if_neg (by omega)]; simp [results, Tryd.results123, go_sem]) rfl ⟨rfl, by go_grown⟩

end Go.Proofs.YtbnconieedgcmaaDoor.U
