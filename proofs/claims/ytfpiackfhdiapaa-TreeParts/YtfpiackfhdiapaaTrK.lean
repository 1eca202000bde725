/- A map keyed by a node and two places: what it holds, how it is written and asked. -/
import Derived.Test.YtfpiackfhdiapaaTrV
import Derived.Laws.StructEq
import Derived.WideKeyRuns
import Derived.BigRegion
import Derived.Maps.OwnSet
import Derived.DeepKeys4
namespace Go.Proofs.Ytfpiackfhdiapaa.S
open Go.RowKit Go.BigFrame Go.Maps Go.ChangeMaps
set_option linter.unusedVariables false
set_option maxRecDepth 4000
set_option linter.unusedSimpArgs false

abbrev trv (t : Tri) : Value := .agg #[.int .i64 (t.1 : Nat), .int .i64 (t.2.1 : Nat), .int .i64 (t.2.2 : Nat)]
theorem tri_und : Try.prog.underlying 69 = some (.array 3 3) := by kernel_rfl
theorem tri_int : Try.prog.underlying 3 = some (.int .i64) := by kernel_rfl
theorem tri_map : Try.prog.underlying 63 = some (.map 69 67) := by kernel_rfl
theorem tri_wide : (match Try.prog.underlying 69 with | some (.array _ _) | some (.struct _) => true | _ => false) = true := by rw [tri_und]
theorem tri_zero (w : World) : (zeroValue 67).run Try.prog w = .ok (.agg #[]) w := by kernel_rfl
theorem tri_sz (w : World) : (sizeOf 3).run Try.prog w = .ok 1 w := by kernel_rfl
theorem tri_p0 (a b c : Int) (w : World) : (part 3 #[.int .i64 a, .int .i64 b, .int .i64 c] (0 * 1)).run Try.prog w = .ok (.int .i64 a) w := by kernel_rfl
theorem tri_p1 (a b c : Int) (w : World) : (part 3 #[.int .i64 a, .int .i64 b, .int .i64 c] (1 * 1)).run Try.prog w = .ok (.int .i64 b) w := by kernel_rfl
theorem tri_p2 (a b c : Int) (w : World) : (part 3 #[.int .i64 a, .int .i64 b, .int .i64 c] (2 * 1)).run Try.prog w = .ok (.int .i64 c) w := by kernel_rfl
theorem tri_eqI (a b c d e f : Int) (w : World) : (Op.equalIn (9998 + 1 + 1) 69 (.agg #[.int .i64 a, .int .i64 b, .int .i64 c]) (.agg #[.int .i64 d, .int .i64 e, .int .i64 f])).run Try.prog w = .ok (a == d && (b == e && c == f)) w := by
  rw [Op.equalIn]
  simp only [Sem.run_bind, run_underlying tri_und, Result.andThen_ok, tri_sz]
  rw [Std.Legacy.Range.forIn_eq_forIn_range']
  have hr : List.range' [:3].start [:3].size [:3].step = [0, 1, 2] := by decide
  rw [hr]
  have he : ∀ (a b : Int) (w : World), (Op.equalIn (9998 + 1) 3 (.int .i64 a) (.int .i64 b)).run Try.prog w = .ok (a == b) w := fun a b w => run_equalIn_int w 9998 3 .i64 .i64 a b tri_int
  simp only [List.forIn_cons, List.forIn_nil, Sem.run_bind, tri_p0, tri_p1, tri_p2, Result.andThen_ok, he]
  by_cases h0 : a = d <;> by_cases h1 : b = e <;> by_cases h2 : c = f <;> simp [go_sem, h0, h1, h2]
theorem tri_equal (s t : Tri) (w : World) : (Op.equal 69 (trv s) (trv t)).run Try.prog w = .ok (s == t) w := by
  show (Op.equalIn (9998 + 1 + 1) _ _ _).run _ _ = _
  rw [tri_eqI]
  obtain ⟨a, b, c⟩ := s
  obtain ⟨d, e, f⟩ := t
  have q : ∀ x y : Nat, ((x : Int) == (y : Int)) = (x == y) := fun x y => by
    by_cases h : x = y
    · subst h; rw [beq_self_eq_true, beq_self_eq_true]
    · rw [beq_eq_false_iff_ne.2 h, beq_eq_false_iff_ne.2 (fun e => h (by omega))]
  simp only [q]
  rfl
theorem tri_check (em : Bool) (t : Tri) (w : World) : (Instr.checkKey em 10000 69 (trv t)).run Try.prog w = .ok () w := by
  cases em <;> kernel_rfl
theorem tri_find (t : Tri) (w : World) : ∀ (es : List MapEntry) (L : List Tri) (k : Nat), es.map (·.key) = L.map trv → (∀ e ∈ es, e.val = .agg #[]) →
    (t ∉ L ∧ (Instr.findAsking 69 (trv t) es k).run Try.prog w = .ok none w) ∨ (t ∈ L ∧ ∃ j, (Instr.findAsking 69 (trv t) es k).run Try.prog w = .ok (some (j, .agg #[])) w)
  | [], [], k, _, _ => .inl ⟨by simp, by simp [Instr.findAsking]⟩
  | [], _ :: _, k, h, _ => by simp at h
  | _ :: _, [], k, h, _ => by simp at h
  | e :: es, x :: L, k, h, hv => by
    simp only [List.map_cons, List.cons.injEq] at h
    obtain ⟨h1, h2⟩ := h
    have he := tri_equal t x w
    rw [← h1] at he
    have hv1 := hv e (by simp)
    by_cases hx : t = x
    · subst hx
      exact .inr ⟨by simp, k, by simp [Instr.findAsking, he, hv1]⟩
    · have hf : (t == x) = false := by simpa using hx
      rw [hf] at he
      rcases tri_find t w es L (k + 1) h2 (fun y hy => hv y (by simp [hy])) with ⟨a, b⟩ | ⟨a, j, b⟩
      · exact .inl ⟨by simp [hx, a], by simp [Instr.findAsking, he, b]⟩
      · exact .inr ⟨by simp [a], j, by simp [Instr.findAsking, he, b]⟩
/-- Block b is a map of these. -/
def Mp (w : World) (b : Nat) (L : List Tri) : Prop := ∃ es clock, w.heap[b]? = some (.map es clock) ∧ es.toList.map (·.key) = L.map trv ∧ ∀ e ∈ es.toList, e.val = .agg #[]
theorem Mp.made (w : World) : Mp (w.alloc (.map #[] 0)) w.heap.size [] := ⟨#[], 0, (MapKept.heap_alloc w _).1, by simp, by simp⟩
theorem Mp.lt {w : World} {b : Nat} {L : List Tri} (h : Mp w b L) : b < w.heap.size := by
  obtain ⟨es, clock, hb, _⟩ := h
  exact (Array.getElem?_eq_some_iff.1 hb).1
theorem Mp.block {w w' : World} {b : Nat} {L : List Tri} (h : Mp w b L) (g : w'.heap[b]? = w.heap[b]?) : Mp w' b L := by
  obtain ⟨es, clock, hb, h1, h2⟩ := h
  exact ⟨es, clock, g.trans hb, h1, h2⟩
theorem Mp.on {w w' : World} {b : Nat} {L : List Tri} (h : Mp w b L) (g : Below w.heap.size w w') : Mp w' b L := h.block (g.block b h.lt)
theorem Mp.drew {w : World} {b : Nat} {L : List Tri} (h : Mp w b L) : Mp w.drew b L := h
theorem Mp.put {w : World} {b : Nat} {L : List Tri} (h : Mp w b L) {t : Tri} (hi : t ∉ L) : ∃ w', (Instr.mapUpdate 63 (.map (some b)) (trv t) (.agg #[])).run Try.prog w = .ok () w' ∧ Mp w' b (L ++ [t]) ∧ w.grownBy w' (some b) := by
  obtain ⟨es, clock, hb, h1, h2⟩ := h
  rcases tri_find t w es.toList L 0 h1 h2 with ⟨_, hf⟩ | ⟨hm, _⟩
  · have hf2 := (run_findKey_eq w tri_wide (trv t) es.toList).trans hf
    refine ⟨setBlock w b (.map (es.push { key := trv t, val := .agg #[], born := clock }) (clock + 1)), ?_, ⟨_, _, heap_setBlock_same hb _, ?_, ?_⟩, ⟨rfl, rfl, rfl, by simp [setBlock], fun j _ hj => heap_setBlock_other hb _ (fun e => hj (by rw [e]))⟩⟩
    · simp [Instr.mapUpdate, run_underlying tri_map, MapKept.run_getObj_map hb, tri_check, hf2, MapKept.run_setObj_map _ hb, Result.andThen, setBlock]
    · simp [h1]
    · intro e he
      simp only [Array.toList_push, List.mem_append, List.mem_singleton] at he
      rcases he with he | rfl
      · exact h2 e he
      · rfl
  · exact absurd hm hi
theorem Mp.has {w : World} {b : Nat} {L : List Tri} (h : Mp w b L) (t : Tri) : (Instr.lookup 63 (.map (some b)) (trv t) true).run Try.prog w = .ok (.tuple #[.agg #[], .bool (decide (t ∈ L))]) w := by
  obtain ⟨es, clock, hb, h1, h2⟩ := h
  rcases tri_find t w es.toList L 0 h1 h2 with ⟨hm, hf⟩ | ⟨hm, j, hf⟩
  · have hf2 := (run_findKey_eq w tri_wide (trv t) es.toList).trans hf
    rw [decide_eq_false hm]
    simp [Instr.lookup, run_underlying tri_map, MapKept.run_getObj_map hb, tri_check, hf2, Result.andThen, tri_zero]
  · have hf2 := (run_findKey_eq w tri_wide (trv t) es.toList).trans hf
    rw [decide_eq_true hm]
    simp [Instr.lookup, run_underlying tri_map, MapKept.run_getObj_map hb, tri_check, hf2, Result.andThen]

/-- What is older than block B and no map's stays as it was; the map at m may grow. -/
structure Bx (m B : Nat) (w w' : World) : Prop where
  os : w'.os = w.os
  tape : w'.tape = w.tape
  output : w'.output = w.output
  size : w.heap.size ≤ w'.heap.size
  block : ∀ k, k < B → k ≠ m → w'.heap[k]? = w.heap[k]?
theorem Bx.refl (m B : Nat) (w : World) : Bx m B w w := ⟨rfl, rfl, rfl, Nat.le_refl _, fun _ _ _ => rfl⟩
theorem Bx.of {m B : Nat} {w w' : World} (h : Below B w w') : Bx m B w w' := ⟨h.os, h.tape, h.output, h.size, fun k hk _ => h.block k hk⟩
theorem Bx.trans {m B : Nat} {w w' w2 : World} (h : Bx m B w w') (h2 : Bx m B w' w2) : Bx m B w w2 := ⟨h2.os.trans h.os, h2.tape.trans h.tape, h2.output.trans h.output, Nat.le_trans h.size h2.size, fun k hk hm => (h2.block k hk hm).trans (h.block k hk hm)⟩
theorem Bx.mono {m B B' : Nat} {w w' : World} (h : Bx m B w w') (hb : B' ≤ B) : Bx m B' w w' := ⟨h.os, h.tape, h.output, h.size, fun k hk hm => h.block k (by omega) hm⟩
theorem Bx.grown {m B : Nat} {w w' w2 : World} {row : Option Nat} (h : Bx m B w w') (g : w'.grownBy w2 row) (hz : B ≤ w'.heap.size) (hr : ∀ k, row = some k → B ≤ k ∨ k = m) : Bx m B w w2 :=
  h.trans ⟨g.os, g.tape, g.output, g.size, fun k hk hm => g.block k (by omega) (fun e => by rcases hr k e.symm with h | h <;> omega)⟩
/-- Where a cell stands there is no map. -/
theorem cell_not_map {w : World} {p : Addr} {u : Value} {m : Nat} {L : List Tri} (hm : Mp w m L) (h : w.cell? p = some u) : p.block ≠ m := by
  intro e
  obtain ⟨es, clock, hb, _⟩ := hm
  rw [← e] at hb
  unfold World.cell? at h
  rw [hb] at h
  simp at h
theorem Bx.cell {m B : Nat} {w w' : World} {L : List Tri} {p : Addr} {u : Value} (h : Bx m B w w') (hm : Mp w m L) (hp : p.block < B) (hc : w.cell? p = some u) : w'.cell? p = some u := by
  have hb := h.block p.block hp (cell_not_map hm hc)
  unfold World.cell? at hc ⊢
  rw [hb]
  exact hc
theorem own_bx {m B : Nat} {w w' : World} {L : List Tri} {base size n : Nat} {e : TypeId} {v : Value} {xs : List Value} (h : Bx m B w w') (hm : Mp w m L) (ho : w.ownsRow base e size v n xs) (hB : ∀ g, v.ownBlock = some g → g < B) : w'.ownsRow base e size v n xs := by
  refine ⟨ho.1, ho.2.imp id fun ⟨g, cap, cur, h1, h2, h3, h4⟩ => ⟨g, cap, cur, h1, h2, ?_, h4⟩⟩
  subst h1
  rw [h.block g (hB g rfl) (fun e => by
    obtain ⟨es, clock, hb, _⟩ := hm
    rw [← e, h3] at hb
    cases hb)]
  exact h3
theorem Reads.bx {m B : Nat} {w w' : World} {L : List Tri} {C size n : Nat} {A : Option Addr} {xs : List Value} (h : Reads w C size A n xs) (g : Bx m B w w') (hm : Mp w m L) (hC : C ≤ B) : Reads w' C size A n xs :=
  ⟨h.1, fun hn => by
    obtain ⟨b, o, e, hb, hc⟩ := h.2 hn
    exact ⟨b, o, e, hb, fun j u hu => g.cell hm (Nat.lt_of_lt_of_le hb hC) (hc j u hu)⟩⟩
end Go.Proofs.Ytfpiackfhdiapaa.S
