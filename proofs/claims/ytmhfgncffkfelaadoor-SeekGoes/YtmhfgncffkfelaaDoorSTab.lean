/- The tie of stage 10's rows: the variable of lead bytes. -/
import Derived.Test.YtmhfgncffkfelaaDoorKU2
import Derived.Test.YtmhfgncffkfelaaDoorKFr
namespace Go.Proofs.YtmhfgncffkfelaaDoor.U
open Go.ChangeShapes Go.WideShapes Go.ChangeAt Go.RowKit
set_option linter.unusedVariables false
set_option maxRecDepth 4000
set_option linter.unusedSimpArgs false
theorem gTab10 : Tryd.prog.globalNamed (Rows.seekTellsRow.named.headD default) = some 1 := by kernel_rfl
set_option maxRecDepth 100000 in
/-- WHAT THE ROW's LIST GIVES: the table's cells hold its sixteen numbers. -/
theorem tab_of_laid10 {W : World} (h : laidMetH Tryd.prog Rows.seekTellsRow.laid W) : Tab W := by
  rw [MakeChecks.laidMetH_plain _ _ _ (by kernel_rfl)] at h
  obtain ⟨ps, ⟨g, t, cs, fuel, p, q, hg, ht, hvar, hd, _, _⟩, _⟩ := h
  obtain rfl := Option.some.inj (gTab10.symm.trans hg)
  obtain rfl := Option.some.inj (gTabType.symm.trans ht)
  obtain ⟨xs, m, _, hx, hl, hn, hel⟩ := DataW.trod_array Tryd.underlying154 hd
  have h0 := hel 0 (by decide)
  have h1 := hel 1 (by decide)
  have h2 := hel 2 (by decide)
  have h3 := hel 3 (by decide)
  rw [cells48] at h0 h1 h2 h3
  rw [cells54] at hl
  have hcell := World.var?_cell hg hvar
  obtain ⟨l⟩ := cs
  match xs, hn with
  | [x0, x1, x2, x3], _ =>
    match l, hl with
    | [d0, d1, d2, d3, d4, d5, d6, d7, d8, d9, d10, d11, d12, d13, d14, d15], _ =>
      simp only [Prod.mk.injEq] at hx
      have hx1 := hx.1
      unfold Rows.laid_caesura_utf_leads at hx1
      simp only [List.map_cons, List.map_nil, DataW.agg.injEq, List.cons.injEq, and_true] at hx1
      obtain ⟨a0, a1, a2, a3⟩ := hx1
      have r0 := row48 (show DataW.trod _ Tryd.prog W _ _ _ m 136 [d0, d1, d2, d3] = some x0 from h0) a0.symm
      have r1 := row48 (show DataW.trod _ Tryd.prog W _ _ _ m 136 [d4, d5, d6, d7] = some x1 from h1) a1.symm
      have r2 := row48 (show DataW.trod _ Tryd.prog W _ _ _ m 136 [d8, d9, d10, d11] = some x2 from h2) a2.symm
      have r3 := row48 (show DataW.trod _ Tryd.prog W _ _ _ m 136 [d12, d13, d14, d15] = some x3 from h3) a3.symm
      simp only [List.cons.injEq, and_true] at r0 r1 r2 r3
      obtain ⟨rfl, rfl, rfl, rfl⟩ := r0
      obtain ⟨rfl, rfl, rfl, rfl⟩ := r1
      obtain ⟨rfl, rfl, rfl, rfl⟩ := r2
      obtain ⟨rfl, rfl, rfl, rfl⟩ := r3
      have hz : 1 < W.heap.size := World.block_lt_of_cell? W _ (show W.cell? ⟨1, 0, none⟩ = some (.int .u8 0) by simpa using hcell 0)
      exact ⟨hz, by simpa using hcell 0, by simpa using hcell 1, by simpa using hcell 2, by simpa using hcell 3, by simpa using hcell 4, by simpa using hcell 5, by simpa using hcell 6, by simpa using hcell 7, by simpa using hcell 8, by simpa using hcell 9, by simpa using hcell 10, by simpa using hcell 11, by simpa using hcell 12, by simpa using hcell 13, by simpa using hcell 14, by simpa using hcell 15⟩

end Go.Proofs.YtmhfgncffkfelaaDoor.U
namespace Go.Proofs.YtmhfgncffkfelaaDoor
theorem wf_i64b {r : Int} (h : (Lit.int .i64 r).wf = true) : -9223372036854775808 ≤ r ∧ r ≤ 9223372036854775807 := by
  simp [Lit.wf, IntKind.min, IntKind.max, IntKind.bits, IntKind.signed] at h; omega
end Go.Proofs.YtmhfgncffkfelaaDoor
