/- What Get returns, of 3 bytes. -/
import Derived.Test.YtbnconieedgcmaaDoorGet2
namespace Go.Proofs.YtbnconieedgcmaaDoor
open Go.RowKit Go.BigFrame
set_option linter.unusedVariables false
set_option maxRecDepth 4000
set_option linter.unusedSimpArgs false


set_option maxHeartbeats 1000000 in
theorem get_3 (l : List Nat) (n a : Nat) (A : Option Addr) (c : Nat) (w : World) (hR : RB w w.heap.size A n l) (hc : n ≤ c) (hn : n ≤ 100000) (h : a + 3 ≤ n) :
    Calls Tryd.prog 100 #[.slice A n c, .int .i64 a, .int .i64 3] w (OutN (some (numL ((l.drop a).take 3))) w) := by
  have h0 : ¬ ((a : Int) < 0) := by omega
  have h1 : (a : Int) ≤ (n : Int) - 3 := by omega
  have h2 : (a : Int) ≤ (n : Int) := by omega
  have h3 : (n : Int) ≤ (c : Int) := by omega
  have h4 : ¬ c = a := by omega
  have h5 : IntKind.i64.wrap 1 = 1 := by kernel_rfl
  have hmin : Hid (3 = Nat.min (n - a) 3) := Lib.hid (Nat.min_eq_right (by omega)).symm
  obtain ⟨b0, o0, rfl, hb0, hsrc⟩ := hR.src (a := a) (k := 3) h (by decide)
  have hL : ((l.drop a).take 3).length = 3 := by rw [List.length_take, List.length_drop, hR.1]; omega
  have hY : ∀ x ∈ (l.drop a).take 3, x < 256 := fun x hx => hR.2.2 x (List.mem_of_mem_drop (List.mem_of_mem_take hx))
  generalize (l.drop a).take 3 = L at *
  match L, hL with
  | [x0, x1, x2], _ =>
  have HSrc := Lib.hid hsrc
  have y0 := hY x0 (by simp)
  have y1 := hY x1 (by simp)
  have y2 := hY x2 (by simp)
  have HN : Hid (numL [0, x0, x1, x2] = numL [x0, x1, x2]) := Lib.hid (by simp [numL])
  have HOne := Lib.hid (ycells_one [x0, x1, x2])
  clear hR hsrc hY
  have hsz5 : (Tryd.prog.info? 5).map (·.size) = some 1 := by kernel_rfl
  go_enter Tryd.func100, Tryd.ntmps100
  go_wp2_with fail
  go_region_law (refine step_copy_splice rfl (.tmp 29) (.tmp 32) 27 27 rfl 5 Tryd.underlying27 hsz5 (some ⟨w.heap.size, 1, none⟩) (some ⟨b0, o0 + a, none⟩) 3 3 (n - a) (c - a) (by rfl) (by rfl) w.heap.size 1 [.int .u8 0, .int .u8 0, .int .u8 0, .int .u8 0] 122 (heap_alloc_new w _) (ycells [x0, x1, x2]) hmin.out (fun _ => ⟨rfl, _, rfl, HSrc.out _ (Below.drew (below_new _ _))⟩) (by rw [ycells_len]; exact Nat.le_refl 4) HOne.out w.heap.size w (Below.drew (below_new _ _)) (Nat.le_refl _) ?_; intro w4 hg4 hb4)
  have hg5 : w4.heap[w.heap.size]? = some (.cells #[.int .u8 0, .int .u8 (x0 : Int), .int .u8 (x1 : Int), .int .u8 (x2 : Int)] 122 (0, 0)) := hg4.out
  have q0 : w4.cell? ⟨w.heap.size, 0, none⟩ = some (.int .u8 0) := by rw [cell_of_row w4 w.heap.size 0 _ 122 (0, 0) hg5]; rfl
  have q1 : w4.cell? ⟨w.heap.size, 1, none⟩ = some (.int .u8 (x0 : Int)) := by rw [cell_of_row w4 w.heap.size 1 _ 122 (0, 0) hg5]; rfl
  have q2 : w4.cell? ⟨w.heap.size, 2, none⟩ = some (.int .u8 (x1 : Int)) := by rw [cell_of_row w4 w.heap.size 2 _ 122 (0, 0) hg5]; rfl
  have q3 : w4.cell? ⟨w.heap.size, 3, none⟩ = some (.int .u8 (x2 : Int)) := by rw [cell_of_row w4 w.heap.size 3 _ 122 (0, 0) hg5]; rfl
  clear hg4 hg5 HSrc HOne
  go_wp2_with fail
  refine (value_any 0 x0 x1 x2 (by decide) y0 y1 y2 _).mono ?_
  rintro e w5 ⟨rfl, g5⟩
  have b6 : Below w.heap.size w w5 := hb4.trans (g5.mono hb4.size)
  rw [HN.out]
  generalize numL [x0, x1, x2] = v at *
  clear g5 hb4 q0 q1 q2 q3
  go_wp2_with fail
  go_ret2
  exact ⟨rfl, b6⟩
end Go.Proofs.YtbnconieedgcmaaDoor
