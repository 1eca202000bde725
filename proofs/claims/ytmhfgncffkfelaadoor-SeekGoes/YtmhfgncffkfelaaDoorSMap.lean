/- A map keyed by a text's address and a place: what it holds, how it is written and asked. -/
import Derived.Test.YtmhfgncffkfelaaDoorKVal
import Derived.Laws.StructEq
import Derived.WideKeyRuns
namespace Go.Proofs.YtmhfgncffkfelaaDoor
open Go.RowKit Go.BigFrame Go.Maps Go.ChangeMaps
set_option linter.unusedVariables false
set_option maxRecDepth 4000
set_option linter.unusedSimpArgs false

abbrev spv (p : Addr) (i : Int) : Value := .agg #[.pointer (some p), .int .i64 i]
theorem sp_und : Tryd.prog.underlying 117 = some (.struct (Tryd.prog.fieldsOf 117)) := by kernel_rfl
theorem sp_fields : (Tryd.prog.fieldsOf 117).toList = [Field.mk "text" 114 0 false "" "caesura/seek" 0, Field.mk "at" 3 1 false "" "caesura/seek" 8] := by kernel_rfl
theorem sp_held : Tryd.prog.stoodInHeld 117 = false := by kernel_rfl
theorem sp_ptr : Tryd.prog.underlying 114 = some (.pointer 9) := by kernel_rfl
theorem sp_int : Tryd.prog.underlying 3 = some (.int .i64) := by kernel_rfl
theorem sp_map : Tryd.prog.underlying 111 = some (.map 117 101) := by kernel_rfl
theorem sp_wide : (match Tryd.prog.underlying 117 with | some (.array _ _) | some (.struct _) => true | _ => false) = true := by rw [sp_und]
theorem sp_p0 (p : Addr) (i : Int) (w : World) : (part 114 #[.pointer (some p), .int .i64 i] 0).run Tryd.prog w = .ok (.pointer (some p)) w := by kernel_rfl
theorem sp_p1 (p : Addr) (i : Int) (w : World) : (part 3 #[.pointer (some p), .int .i64 i] 1).run Tryd.prog w = .ok (.int .i64 i) w := by kernel_rfl
theorem sp_zero (w : World) : (zeroValue 101).run Tryd.prog w = .ok (.agg #[]) w := by kernel_rfl
theorem sp_szs (w : World) : (sizeOf 9).run Tryd.prog w = .ok 1 w := by kernel_rfl
theorem sp_same (p : Addr) (w : World) : (sameAddr p p).run Tryd.prog w = .ok true w := by simp [sameAddr]
theorem sp_eqp (d : Nat) (p : Addr) (w : World) : (Op.equalIn (d + 1) 114 (.pointer (some p)) (.pointer (some p))).run Tryd.prog w = .ok true w := by
  simp [Op.equalIn, run_underlying sp_ptr, sp_szs, sp_same, Result.andThen]
theorem sp_equal (p : Addr) (i j : Int) (w : World) : (Op.equal 117 (spv p i) (spv p j)).run Tryd.prog w = .ok (i == j) w := by
  show (Op.equalIn (9999 + 1) _ _ _).run _ _ = _
  rw [run_equalIn_struct w 9999 _ _ _ sp_und sp_held, sp_fields]
  have e1 := sp_eqp 9998 p w
  have e2 := run_equalIn_int (P := Tryd.prog) w 9998 3 .i64 .i64 i j sp_int
  simp only [Op.eqFields, Sem.run_bind, sp_p0, sp_p1, e1, e2, Result.andThen_ok, Sem.run_ite, Sem.run_pure]
  cases h : i == j <;> simp
theorem sp_check (em : Bool) (p : Addr) (i : Int) (w : World) : (Instr.checkKey em 10000 117 (spv p i)).run Tryd.prog w = .ok () w := by
  cases em <;> kernel_rfl
theorem sp_find (p : Addr) (i : Int) (w : World) : ∀ (es : List MapEntry) (L : List Int) (k : Nat), es.map (·.key) = L.map (spv p) → (∀ e ∈ es, e.val = .agg #[]) →
    (i ∉ L ∧ (Instr.findAsking 117 (spv p i) es k).run Tryd.prog w = .ok none w) ∨ (i ∈ L ∧ ∃ j, (Instr.findAsking 117 (spv p i) es k).run Tryd.prog w = .ok (some (j, .agg #[])) w)
  | [], [], k, _, _ => .inl ⟨by simp, by simp [Instr.findAsking]⟩
  | [], _ :: _, k, h, _ => by simp at h
  | _ :: _, [], k, h, _ => by simp at h
  | e :: es, x :: L, k, h, hv => by
    simp only [List.map_cons, List.cons.injEq] at h
    obtain ⟨h1, h2⟩ := h
    have he := sp_equal p i x w
    rw [← h1] at he
    have hv1 := hv e (by simp)
    by_cases hx : i = x
    · subst hx
      exact .inr ⟨by simp, k, by simp [Instr.findAsking, he, hv1]⟩
    · have hf : (i == x) = false := by simpa using hx
      rw [hf] at he
      rcases sp_find p i w es L (k + 1) h2 (fun y hy => hv y (by simp [hy])) with ⟨a, b⟩ | ⟨a, j, b⟩
      · exact .inl ⟨by simp [hx, a], by simp [Instr.findAsking, he, b]⟩
      · exact .inr ⟨by simp [a], j, by simp [Instr.findAsking, he, b]⟩
/-- Block b is a map of these places of the text at p. -/
def Sp (w : World) (b : Nat) (p : Addr) (L : List Int) : Prop := ∃ es clock, w.heap[b]? = some (.map es clock) ∧ es.toList.map (·.key) = L.map (spv p) ∧ ∀ e ∈ es.toList, e.val = .agg #[]
theorem Sp.made (w : World) (p : Addr) : Sp (w.alloc (.map #[] 0)) w.heap.size p [] := ⟨#[], 0, (MapKept.heap_alloc w _).1, by simp, by simp⟩
theorem Sp.lt {w : World} {b : Nat} {p : Addr} {L : List Int} (h : Sp w b p L) : b < w.heap.size := by
  obtain ⟨es, clock, hb, _⟩ := h
  exact (Array.getElem?_eq_some_iff.1 hb).1
theorem Sp.on {w w' : World} {b : Nat} {p : Addr} {L : List Int} (h : Sp w b p L) (g : Below w.heap.size w w') : Sp w' b p L := by
  have hlt := h.lt
  obtain ⟨es, clock, hb, h1, h2⟩ := h
  exact ⟨es, clock, (g.block b hlt).trans hb, h1, h2⟩
theorem Sp.put {w : World} {b : Nat} {p : Addr} {L : List Int} (h : Sp w b p L) {i : Int} (hi : i ∉ L) : ∃ w', (Instr.mapUpdate 111 (.map (some b)) (spv p i) (.agg #[])).run Tryd.prog w = .ok () w' ∧ Sp w' b p (L ++ [i]) ∧ w.grownBy w' (some b) := by
  obtain ⟨es, clock, hb, h1, h2⟩ := h
  rcases sp_find p i w es.toList L 0 h1 h2 with ⟨_, hf⟩ | ⟨hm, _⟩
  · have hf2 := (run_findKey_eq w sp_wide (spv p i) es.toList).trans hf
    refine ⟨setBlock w b (.map (es.push { key := spv p i, val := .agg #[], born := clock }) (clock + 1)), ?_, ⟨_, _, heap_setBlock_same hb _, ?_, ?_⟩, ⟨rfl, rfl, rfl, by simp [setBlock], fun j _ hj => heap_setBlock_other hb _ (fun e => hj (by rw [e]))⟩⟩
    · simp [Instr.mapUpdate, run_underlying sp_map, MapKept.run_getObj_map hb, sp_check, hf2, MapKept.run_setObj_map _ hb, Result.andThen, setBlock]
    · simp [h1]
    · intro e he
      simp only [Array.toList_push, List.mem_append, List.mem_singleton] at he
      rcases he with he | rfl
      · exact h2 e he
      · rfl
  · exact absurd hm hi
theorem Sp.has {w : World} {b : Nat} {p : Addr} {L : List Int} (h : Sp w b p L) (i : Int) : (Instr.lookup 111 (.map (some b)) (spv p i) true).run Tryd.prog w = .ok (.tuple #[.agg #[], .bool (L.contains i)]) w := by
  obtain ⟨es, clock, hb, h1, h2⟩ := h
  rcases sp_find p i w es.toList L 0 h1 h2 with ⟨hm, hf⟩ | ⟨hm, j, hf⟩
  · have hf2 := (run_findKey_eq w sp_wide (spv p i) es.toList).trans hf
    have hc : L.contains i = false := by simpa using hm
    rw [hc]
    simp [Instr.lookup, run_underlying sp_map, MapKept.run_getObj_map hb, sp_check, hf2, Result.andThen, sp_zero]
  · have hf2 := (run_findKey_eq w sp_wide (spv p i) es.toList).trans hf
    have hc : L.contains i = true := by simpa using hm
    rw [hc]
    simp [Instr.lookup, run_underlying sp_map, MapKept.run_getObj_map hb, sp_check, hf2, Result.andThen]
/-- At the operation, for the walk. -/
theorem wpList_sp_put (w : World) {ops : Array Oper} {rest : List Oper} {o : Oper} {a : Act} {Q : Exit → Act → World → Prop}
    (hg : o.guard = none) (m x v : Operand) (hop : o.op = Op.mapUpdate 111 m x v) (b : Nat) (p : Addr) (L : List Int) (i : Int)
    (hm : a.eval m = .map (some b)) (hs : Sp w b p L) (hx : a.eval x = spv p i) (hv : a.eval v = .agg #[]) (hi : i ∉ L)
    (hK : ∀ w', Sp w' b p (L ++ [i]) → w.grownBy w' (some b) → wpList Tryd.prog ops Q rest (a.put o.dst undef) w') :
    wpList Tryd.prog ops Q (o :: rest) a w := by
  refine wpList_plain hg fun K' hK' => ?_
  obtain ⟨w', hrun, r1, r2⟩ := hs.put hi
  unfold Oper.wp
  simp [execOp, hop, hm, hx, hv, hrun, Result.andThen]
  exact hK' _ _ (hK w' r1 r2)
theorem wpList_sp_has (w : World) {ops : Array Oper} {rest : List Oper} {o : Oper} {a : Act} {Q : Exit → Act → World → Prop}
    (hg : o.guard = none) (m x : Operand) (hop : o.op = Op.lookup 111 m x true) (b : Nat) (p : Addr) (L : List Int) (i : Int)
    (hm : a.eval m = .map (some b)) (hs : Sp w b p L) (hx : a.eval x = spv p i)
    (hK : wpList Tryd.prog ops Q rest (a.put o.dst (.tuple #[.agg #[], .bool (L.contains i)])) w) :
    wpList Tryd.prog ops Q (o :: rest) a w := by
  refine wpList_plain hg fun K' hK' => ?_
  have hrun := hs.has i
  generalize L.contains i = q at *
  unfold Oper.wp
  simp [execOp, hop, hm, hx, hrun, Result.andThen]
  exact hK' _ _ hK
end Go.Proofs.YtmhfgncffkfelaaDoor
