/- From the row's list to the table's sixteen cells; the world for the witness. -/
import Derived.Test.YtbnconieedgcmaaDoorUWakes
import Derived.Test.YtbnconieedgcmaaDoorCards
import Derived.Test.YtbnconieedgcmaaDoorTie
import Derived.Deep.DeepHandedRow
import Derived.Lib.LaidTab
import Derived.LaidMore
import Derived.ShutString
import Derived.ChangeOld
import Derived.Below
namespace Go.Proofs.YtbnconieedgcmaaDoor.U
open Go.ChangeShapes Go.WideShapes Go.ChangeAt Go.RowKit
set_option linter.unusedVariables false

theorem laidOut : laidOutB Tryd.prog = true := by kernel_rfl
/-- What the walk is told of a slice of integers that came in: it is nil, or it leads to a row of cells, the first of which are its elements. -/
def IsRow (k : IntKind) (w : World) (a : Option Addr) (len cap : Nat) (zs : List Int) : Prop :=
  (a = none ∧ len = 0 ∧ cap = 0 ∧ zs = []) ∨
  ∃ x, a = some x ∧ len ≤ cap ∧ cap ≤ maxLen ∧ zs.length = cap ∧ (∀ i, i < zs.length → w.cell? (x.add i) = some (.int k (zs.getD i 0))) ∧ ∀ n ∈ zs, (Lit.int k n).wf = true
theorem own : ownKnob Tryd.prog.godebug = none := by kernel_rfl
theorem gTab : Tryd.prog.globalNamed (Rows.segmentTellsRow.named.headD default) = some 1 := by kernel_rfl
theorem gTabType : (Tryd.prog.globals[1]?).map (·.type) = some 150 := by kernel_rfl
theorem cells54 : Tryd.prog.cellsOf 150 = 16 := by kernel_rfl
theorem cells48 : Tryd.prog.cellsOf 137 = 4 := by kernel_rfl
theorem cells5 : Tryd.prog.cellsOf 5 = 1 := by kernel_rfl
theorem cells3 : Tryd.prog.cellsOf 3 = 1 := by kernel_rfl

set_option maxRecDepth 100000 in
/-- A row of the table that reads so holds these cells. -/
theorem row48 {H : Type} {enc : TypeId × Value → H} {w : World} {base : Nat} {sp : Nat → Bool} {held : Bool} {fuel : Nat} {cs : List Value} {x : DataW H × List MemPlace} {a b c d : Int}
    (h : DataW.trod enc Tryd.prog w base sp held fuel 137 cs = some x) (hx : x.1 = .agg [.lit (.int .u8 a), .lit (.int .u8 b), .lit (.int .i64 c), .lit (.int .i64 d)]) : cs = [.int .u8 a, .int .u8 b, .int .i64 c, .int .i64 d] := by
  obtain ⟨xs, n, _, rfl, hl, hlen, hf⟩ := DataW.trod_struct Tryd.underlying137 h
  rw [cells48] at hl
  match cs, hl with
  | [c0, c1, c2, c3], _ =>
    match xs, hlen with
    | [y0, y1, y2, y3], _ =>
      have f0 := hf 0 _ rfl
      have f1 := hf 1 _ rfl
      have f2 := hf 2 _ rfl
      have f3 := hf 3 _ rfl
      obtain ⟨n0, e0, g0, _⟩ := DataW.trod_int Tryd.underlying5 (show DataW.trod enc Tryd.prog w base sp held n 5 [c0] = some y0 from f0)
      obtain ⟨n1, e1, g1, _⟩ := DataW.trod_int Tryd.underlying5 (show DataW.trod enc Tryd.prog w base sp held n 5 [c1] = some y1 from f1)
      obtain ⟨n2, e2, g2, _⟩ := DataW.trod_int Tryd.underlying3 (show DataW.trod enc Tryd.prog w base sp held n 3 [c2] = some y2 from f2)
      obtain ⟨n3, e3, g3, _⟩ := DataW.trod_int Tryd.underlying3 (show DataW.trod enc Tryd.prog w base sp held n 3 [c3] = some y3 from f3)
      injection e0 with e0
      injection e1 with e1
      injection e2 with e2
      injection e3 with e3
      subst g0 g1 g2 g3 e0 e1 e2 e3
      simpa using hx

set_option maxRecDepth 100000 in
/-- WHAT THE ROW's LIST GIVES: the table's cells hold its sixteen numbers. -/
theorem tab_of_laid {W : World} (h : laidMetH Tryd.prog Rows.segmentTellsRow.laid W) : Tab W := by
  rw [MakeChecks.laidMetH_plain _ _ _ (by kernel_rfl)] at h
  obtain ⟨ps, ⟨g, t, cs, fuel, p, q, hg, ht, hvar, hd, _, _⟩, _⟩ := h
  obtain rfl := Option.some.inj (gTab.symm.trans hg)
  obtain rfl := Option.some.inj (gTabType.symm.trans ht)
  obtain ⟨xs, m, _, hx, hl, hn, hel⟩ := DataW.trod_array Tryd.underlying150 hd
  have h0 := hel 0 (by decide)
  have h1 := hel 1 (by decide)
  have h2 := hel 2 (by decide)
  have h3 := hel 3 (by decide)
  rw [cells48] at h0 h1 h2 h3
  rw [cells54] at hl
  have hcell := World.var?_cell hg hvar
  obtain ⟨l⟩ := cs
  match xs, hn with
  | [x0, x1, x2, x3], _ =>
    match l, hl with
    | [d0, d1, d2, d3, d4, d5, d6, d7, d8, d9, d10, d11, d12, d13, d14, d15], _ =>
      simp only [Prod.mk.injEq] at hx
      have hx1 := hx.1
      unfold Rows.laid_caesura_utf_leads at hx1
      simp only [List.map_cons, List.map_nil, DataW.agg.injEq, List.cons.injEq, and_true] at hx1
      obtain ⟨a0, a1, a2, a3⟩ := hx1
      have r0 := row48 (show DataW.trod _ Tryd.prog W _ _ _ m 137 [d0, d1, d2, d3] = some x0 from h0) a0.symm
      have r1 := row48 (show DataW.trod _ Tryd.prog W _ _ _ m 137 [d4, d5, d6, d7] = some x1 from h1) a1.symm
      have r2 := row48 (show DataW.trod _ Tryd.prog W _ _ _ m 137 [d8, d9, d10, d11] = some x2 from h2) a2.symm
      have r3 := row48 (show DataW.trod _ Tryd.prog W _ _ _ m 137 [d12, d13, d14, d15] = some x3 from h3) a3.symm
      simp only [List.cons.injEq, and_true] at r0 r1 r2 r3
      obtain ⟨rfl, rfl, rfl, rfl⟩ := r0
      obtain ⟨rfl, rfl, rfl, rfl⟩ := r1
      obtain ⟨rfl, rfl, rfl, rfl⟩ := r2
      obtain ⟨rfl, rfl, rfl, rfl⟩ := r3
      have hz : 1 < W.heap.size := World.block_lt_of_cell? W _ (show W.cell? ⟨1, 0, none⟩ = some (.int .u8 0) by simpa using hcell 0)
      exact ⟨hz, by simpa using hcell 0, by simpa using hcell 1, by simpa using hcell 2, by simpa using hcell 3, by simpa using hcell 4, by simpa using hcell 5, by simpa using hcell 6, by simpa using hcell 7, by simpa using hcell 8, by simpa using hcell 9, by simpa using hcell 10, by simpa using hcell 11, by simpa using hcell 12, by simpa using hcell 13, by simpa using hcell 14, by simpa using hcell 15⟩

/-- A WORLD FOR THE WITNESS: the settled one, the table (block 0) holding what its initialiser lays. -/
noncomputable def laidWorld (os : Os) : World :=
  { World.holding Tryd.prog os ⟨#[], #[], []⟩ with heap := (World.holding Tryd.prog os ⟨#[], #[], []⟩).heap.modify 1 fun
      | .cells _ t frozen => .cells #[.int .u8 0, .int .u8 7, .int .i64 1, .int .i64 0, .int .u8 6, .int .u8 5, .int .i64 2, .int .i64 128, .int .u8 14, .int .u8 4, .int .i64 3, .int .i64 2048, .int .u8 30, .int .u8 3, .int .i64 4, .int .i64 65536] t frozen
      | o => o }
end Go.Proofs.YtbnconieedgcmaaDoor.U
