/- The example of the statements of walk. -/
import Derived.Test.YtbnconieedgcmaaDoorWRefB
namespace Go.Proofs.YtbnconieedgcmaaDoor
open Go.RowKit Go.BigFrame Go.Maps
set_option linter.unusedVariables false
set_option maxRecDepth 4000
set_option linter.unusedSimpArgs false

def tTo : Tb := { cl := 2, bd := [(0, 0), (97, 1), (98, 0)], nx := [[0, 1], [0, 1]], br := [false, true] }
theorem tTo_err : errV tTo = 0 := by decide
theorem infoTb : (Tryd.prog.info? 26).map (fun i => (i.zero, i.size, i.bytes)) = some (some (.agg #[.int .i64 0, .slice none 0 0, .slice none 0 0, .slice none 0 0]), 4, 80) := by kernel_rfl
set_option maxHeartbeats 4000000 in
theorem two_any (w : World) : Calls Tryd.prog 83 #[] w (fun e w' => ∃ T : TV, e = .returned T.v ∧ T.tb = tTo ∧ T.ok w' ∧ Below w.heap.size w w') := by
  obtain ⟨j0, hj0, hy0, hy1, hy2⟩ := info_parts infoTb
  obtain ⟨i0, hi0, hz0, hz1, hz2⟩ := info_parts info52
  go_enter Tryd.func83, Tryd.ntmps83
  go_wp2_with fail
  have G0 : Below w.heap.size w w := Below.refl _ _
  have g := below_new w (.cells #[.int .i64 2, .slice (some ⟨w.heap.size + 1, 0, none⟩) 3 3, .slice (some ⟨w.heap.size + 1 + 1 + 1 + 1, 0, none⟩) 2 2, .slice (some ⟨w.heap.size + 1 + 1 + 1 + 1 + 1, 0, none⟩) 2 2] 26)
  have z1 : (w.alloc (.cells #[.int .i64 2, .slice (some ⟨w.heap.size + 1, 0, none⟩) 3 3, .slice (some ⟨w.heap.size + 1 + 1 + 1 + 1, 0, none⟩) 2 2, .slice (some ⟨w.heap.size + 1 + 1 + 1 + 1 + 1, 0, none⟩) 2 2] 26)).heap.size = w.heap.size + 1 := by simp; try omega
  have c0 : (w.alloc (.cells #[.int .i64 2, .slice (some ⟨w.heap.size + 1, 0, none⟩) 3 3, .slice (some ⟨w.heap.size + 1 + 1 + 1 + 1, 0, none⟩) 2 2, .slice (some ⟨w.heap.size + 1 + 1 + 1 + 1 + 1, 0, none⟩) 2 2] 26)).cell? ⟨w.heap.size, 0, none⟩ = some (.int .i64 2) := by simp
  have c1 : (w.alloc (.cells #[.int .i64 2, .slice (some ⟨w.heap.size + 1, 0, none⟩) 3 3, .slice (some ⟨w.heap.size + 1 + 1 + 1 + 1, 0, none⟩) 2 2, .slice (some ⟨w.heap.size + 1 + 1 + 1 + 1 + 1, 0, none⟩) 2 2] 26)).cell? ⟨w.heap.size, 1, none⟩ = some (.slice (some ⟨w.heap.size + 1, 0, none⟩) 3 3) := by simp
  have c2 : (w.alloc (.cells #[.int .i64 2, .slice (some ⟨w.heap.size + 1, 0, none⟩) 3 3, .slice (some ⟨w.heap.size + 1 + 1 + 1 + 1, 0, none⟩) 2 2, .slice (some ⟨w.heap.size + 1 + 1 + 1 + 1 + 1, 0, none⟩) 2 2] 26)).cell? ⟨w.heap.size, 2, none⟩ = some (.slice (some ⟨w.heap.size + 1 + 1 + 1 + 1, 0, none⟩) 2 2) := by simp
  have c3 : (w.alloc (.cells #[.int .i64 2, .slice (some ⟨w.heap.size + 1, 0, none⟩) 3 3, .slice (some ⟨w.heap.size + 1 + 1 + 1 + 1, 0, none⟩) 2 2, .slice (some ⟨w.heap.size + 1 + 1 + 1 + 1 + 1, 0, none⟩) 2 2] 26)).cell? ⟨w.heap.size, 3, none⟩ = some (.slice (some ⟨w.heap.size + 1 + 1 + 1 + 1 + 1, 0, none⟩) 2 2) := by simp
  have G1 := G0.trans (g.mono (by omega))
  clear g
  generalize (w.alloc (.cells #[.int .i64 2, .slice (some ⟨w.heap.size + 1, 0, none⟩) 3 3, .slice (some ⟨w.heap.size + 1 + 1 + 1 + 1, 0, none⟩) 2 2, .slice (some ⟨w.heap.size + 1 + 1 + 1 + 1 + 1, 0, none⟩) 2 2] 26)) = W1 at *
  have g := below_new W1 (.cells #[.int .i64 0, .int .i64 0, .int .i64 97, .int .i64 1, .int .i64 98, .int .i64 0] 52)
  have z2 : (W1.alloc (.cells #[.int .i64 0, .int .i64 0, .int .i64 97, .int .i64 1, .int .i64 98, .int .i64 0] 52)).heap.size = w.heap.size + 1 + 1 := by simp; try omega
  replace c0 := kept_cell g c0
  replace c1 := kept_cell g c1
  replace c2 := kept_cell g c2
  replace c3 := kept_cell g c3
  have f1 := rd_lit W1 (w.heap.size + 1) z1.symm [(0, 0), (97, 1), (98, 0)] 3 #[.int .i64 0, .int .i64 0, .int .i64 97, .int .i64 1, .int .i64 98, .int .i64 0] rfl rfl (by decide)
  have G2 := G1.trans (g.mono (by omega))
  clear g
  generalize (W1.alloc (.cells #[.int .i64 0, .int .i64 0, .int .i64 97, .int .i64 1, .int .i64 98, .int .i64 0] 52)) = W2 at *
  have g := below_new W2 (.cells #[.int .i64 0, .int .i64 1] 3)
  have z3 : (W2.alloc (.cells #[.int .i64 0, .int .i64 1] 3)).heap.size = w.heap.size + 1 + 1 + 1 := by simp; try omega
  replace c0 := kept_cell g c0
  replace c1 := kept_cell g c1
  replace c2 := kept_cell g c2
  replace c3 := kept_cell g c3
  have f2 := ri_lit W2 (w.heap.size + 1 + 1) z2.symm [0, 1] 2 #[.int .i64 0, .int .i64 1] rfl rfl (by decide)
  replace f1 := f1.on g
  have G3 := G2.trans (g.mono (by omega))
  clear g
  generalize (W2.alloc (.cells #[.int .i64 0, .int .i64 1] 3)) = W3 at *
  have g := below_new W3 (.cells #[.int .i64 0, .int .i64 1] 3)
  have z4 : (W3.alloc (.cells #[.int .i64 0, .int .i64 1] 3)).heap.size = w.heap.size + 1 + 1 + 1 + 1 := by simp; try omega
  replace c0 := kept_cell g c0
  replace c1 := kept_cell g c1
  replace c2 := kept_cell g c2
  replace c3 := kept_cell g c3
  have f3 := ri_lit W3 (w.heap.size + 1 + 1 + 1) z3.symm [0, 1] 2 #[.int .i64 0, .int .i64 1] rfl rfl (by decide)
  replace f1 := f1.on g
  replace f2 := f2.on g
  have G4 := G3.trans (g.mono (by omega))
  clear g
  generalize (W3.alloc (.cells #[.int .i64 0, .int .i64 1] 3)) = W4 at *
  have g := below_new W4 (.cells #[.slice (some ⟨w.heap.size + 1 + 1, 0, none⟩) 2 2, .slice (some ⟨w.heap.size + 1 + 1 + 1, 0, none⟩) 2 2] 49)
  have z5 : (W4.alloc (.cells #[.slice (some ⟨w.heap.size + 1 + 1, 0, none⟩) 2 2, .slice (some ⟨w.heap.size + 1 + 1 + 1, 0, none⟩) 2 2] 49)).heap.size = w.heap.size + 1 + 1 + 1 + 1 + 1 := by simp; try omega
  replace c0 := kept_cell g c0
  replace c1 := kept_cell g c1
  replace c2 := kept_cell g c2
  replace c3 := kept_cell g c3
  have f4 := rn_lit W4 (w.heap.size + 1 + 1 + 1 + 1) z4.symm [⟨some ⟨w.heap.size + 1 + 1, 0, none⟩, 2, 2, [0, 1]⟩, ⟨some ⟨w.heap.size + 1 + 1 + 1, 0, none⟩, 2, 2, [0, 1]⟩] 2 #[.slice (some ⟨w.heap.size + 1 + 1, 0, none⟩) 2 2, .slice (some ⟨w.heap.size + 1 + 1 + 1, 0, none⟩) 2 2] rfl rfl (by decide) (fun h hh => by
    simp only [List.mem_cons, List.not_mem_nil, or_false] at hh
    rcases hh with rfl | rfl
    · exact ⟨f2, shpN _ 2 (by decide)⟩
    · exact ⟨f3, shpN _ 2 (by decide)⟩)
  replace f1 := f1.on g
  replace f2 := f2.on g
  replace f3 := f3.on g
  have G5 := G4.trans (g.mono (by omega))
  clear g
  generalize (W4.alloc (.cells #[.slice (some ⟨w.heap.size + 1 + 1, 0, none⟩) 2 2, .slice (some ⟨w.heap.size + 1 + 1 + 1, 0, none⟩) 2 2] 49)) = W5 at *
  have g := below_new W5 (.cells #[.bool false, .bool true] 4)
  have z6 : (W5.alloc (.cells #[.bool false, .bool true] 4)).heap.size = w.heap.size + 1 + 1 + 1 + 1 + 1 + 1 := by simp; try omega
  replace c0 := kept_cell g c0
  replace c1 := kept_cell g c1
  replace c2 := kept_cell g c2
  replace c3 := kept_cell g c3
  have f5 := rl_lit W5 (w.heap.size + 1 + 1 + 1 + 1 + 1) z5.symm [false, true] 2 #[.bool false, .bool true] rfl rfl (by decide)
  replace f1 := f1.on g
  replace f2 := f2.on g
  replace f3 := f3.on g
  replace f4 := f4.on g
  have G6 := G5.trans (g.mono (by omega))
  clear g
  generalize (W5.alloc (.cells #[.bool false, .bool true] 4)) = W6 at *
  exact bodyPost_ret (v := .agg #[.int .i64 2, .slice (some ⟨w.heap.size + 1, 0, none⟩) 3 3, .slice (some ⟨w.heap.size + 1 + 1 + 1 + 1, 0, none⟩) 2 2, .slice (some ⟨w.heap.size + 1 + 1 + 1 + 1 + 1, 0, none⟩) 2 2]) (by simp [results, Tryd.results83, go_sem, c0, c1, c2, c3]) rfl ⟨⟨2, some ⟨w.heap.size + 1, 0, none⟩, 3, 3, [(0, 0), (97, 1), (98, 0)], some ⟨w.heap.size + 1 + 1 + 1 + 1, 0, none⟩, 2, 2, [⟨some ⟨w.heap.size + 1 + 1, 0, none⟩, 2, 2, [0, 1]⟩, ⟨some ⟨w.heap.size + 1 + 1 + 1, 0, none⟩, 2, 2, [0, 1]⟩], some ⟨w.heap.size + 1 + 1 + 1 + 1 + 1, 0, none⟩, 2, 2, [false, true]⟩, rfl, rfl, ⟨f1, shpN _ 3 (by decide), f4, shpN _ 2 (by decide), f5, shpN _ 2 (by decide)⟩, G6⟩
theorem tTo_a : clB tTo 97 = true ∧ clN tTo 97 = 1 ∧ stO tTo [97, 98] = true ∧ stN tTo [97, 98] = 0 ∧ clB tTo 55296 = false := by decide
theorem tTo_b : brW tTo [97, 98, 97, 97] = some [1, 3, 4] := by decide
theorem zT_st : stO { cl := 0, bd := [], nx := [], br := [] } [] = false ∧ stN { cl := 0, bd := [], nx := [], br := [] } [] = 0 := by decide
end Go.Proofs.YtbnconieedgcmaaDoor
