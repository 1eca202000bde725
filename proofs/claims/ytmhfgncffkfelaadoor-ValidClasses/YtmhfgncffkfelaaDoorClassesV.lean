/- A table of the call's own, in a box of its own: its classes' number, its bands and its rows grow. -/
import Derived.Test.YtmhfgncffkfelaaDoorClassesK
namespace Go.Proofs.YtmhfgncffkfelaaDoor
open Go.RowKit Go.BigFrame
set_option linter.unusedVariables false
set_option maxRecDepth 4000
set_option linter.unusedSimpArgs false

theorem box_set0 {w : World} {g : Nat} {T : TV} (h : Box w g T) (x : Int) : Box (w.setCell ⟨g, 0, none⟩ (.int .i64 x)) g { T with cl := x } := by
  obtain ⟨h0, c0, c1, c2, c3⟩ := h
  exact ⟨by simpa using h0, by simp [go_sem, c0, c1, c2, c3], by simp [go_sem, c0, c1, c2, c3], by simp [go_sem, c0, c1, c2, c3], by simp [go_sem, c0, c1, c2, c3]⟩
theorem box_set1 {w : World} {g : Nat} {T : TV} (h : Box w g T) (A : Option Addr) (n c : Nat) (bd : List Rg) : Box (w.setCell ⟨g, 1, none⟩ (.slice A n c)) g { T with a1 := A, n1 := n, c1 := c, bd := bd } := by
  obtain ⟨h0, c0, c1, c2, c3⟩ := h
  exact ⟨by simpa using h0, by simp [go_sem, c0, c1, c2, c3], by simp [go_sem, c0, c1, c2, c3], by simp [go_sem, c0, c1, c2, c3], by simp [go_sem, c0, c1, c2, c3]⟩
theorem StV.cls {W w : World} {base gv : Nat} {V : TV} (h : StV W base gv w V) (x : Int) : StV W base gv (w.setCell ⟨gv, 0, none⟩ (.int .i64 x)) { V with cl := x } := by
  have hgW : W.heap.size ≤ gv := Nat.le_trans h.hw h.hg
  exact ⟨h.bb.setCell (p := ⟨gv, 0, none⟩) hgW _, box_set0 h.vx x, fun k => by rw [World.frozen?_setCell]; exact h.fz k, ownsRow_setCell_other h.z1 h.m1 _, h.z2.other h.m2 h.m4 _, ownsRow_setCell_other h.z3 h.m3 _, h.m1, h.m2, h.m3, h.m4, h.hw, h.hg⟩
theorem StV.bnds {W w w9 : World} {base gv g9 c9 H : Nat} {V : TV} {x y : Int} (h : StV W base gv w V)
    (hg : w.grownBy w9 (Value.slice V.a1 V.n1 V.c1).ownBlock) (ho : w9.ownsRow base 50 2 (.slice (some ⟨g9, 0, none⟩) (V.n1 + 1) c9) (V.n1 + 1) (rcells V.bd ++ [.int .i64 x, .int .i64 y])) (hat : (Value.slice V.a1 V.n1 V.c1).ownBlock = some g9 ∨ g9 = H) (hH : gv < H) :
    StV W base gv (w9.setCell ⟨gv, 1, none⟩ (.slice (some ⟨g9, 0, none⟩) (V.n1 + 1) c9)) { V with a1 := some ⟨g9, 0, none⟩, n1 := V.n1 + 1, c1 := c9, bd := V.bd ++ [(x, y)] } := by
  have hrow : ∀ j, (Value.slice V.a1 V.n1 V.c1).ownBlock = some j → j ≠ gv := fun j e e2 => h.m1 (by rw [e, e2])
  have k3 := h.z3.kept hg (own_unlike' (by decide) h.z3 h.z1)
  have k2 : OwnI w9 base V.a2 V.n2 V.c2 V.hs := ⟨h.z2.len, h.z2.out.kept hg (own_unlike' (by decide) h.z2.out h.z1), fun y hy => ⟨(h.z2.inn y hy).1, (h.z2.inn y hy).2.kept hg (own_unlike' (by decide) (h.z2.inn y hy).2 h.z1)⟩⟩
  have hgW : W.heap.size ≤ gv := Nat.le_trans h.hw h.hg
  have m1' : (Value.slice (some ⟨g9, 0, none⟩) (V.n1 + 1) c9).ownBlock ≠ some gv := at_new hat h.m1 hH
  have k1 : w9.ownsRow base 50 2 (.slice (some ⟨g9, 0, none⟩) (V.n1 + 1) c9) (V.n1 + 1) (rcells (V.bd ++ [(x, y)])) := by rw [rcells_snoc]; exact ho
  refine ⟨(h.bb.grown hg h.bb.size (fun k hk => Nat.le_trans h.hw (h.z1.lt k hk).1)).setCell (p := ⟨gv, 1, none⟩) hgW _, box_set1 (box_grown9 h.vx hg hrow) _ _ _ _, fun k => ?_, ownsRow_setCell_other k1 m1' _, k2.other h.m2 h.m4 _, ownsRow_setCell_other k3 h.m3 _, m1', h.m2, h.m3, h.m4, h.hw, h.hg⟩
  rw [World.frozen?_setCell, hg.frozen_far ⟨gv, k, none⟩ h.vx.1 (fun e => hrow gv e.symm rfl)]
  exact h.fz k
theorem Apt.set {H : List Hi} (h : Apt H) {s : Nat} (hs : s < H.length) {x : Hi} (hx : ∀ i (hi : i < H.length), i ≠ s → ∀ g, x.v.ownBlock = some g → H[i].v.ownBlock ≠ some g) : Apt (H.set s x) := by
  unfold Apt at h ⊢
  rw [List.pairwise_iff_getElem] at h ⊢
  intro i j hi hj hij g hg hg'
  rw [List.length_set] at hi hj
  rw [List.getElem_set] at hg hg'
  by_cases q1 : s = i
  · rw [if_pos q1] at hg
    rw [if_neg (by omega)] at hg'
    exact hx j hj (by omega) g hg hg'
  · rw [if_neg q1] at hg
    by_cases q2 : s = j
    · rw [if_pos q2] at hg'
      exact hx i hi (by omega) g hg' hg
    · rw [if_neg q2] at hg'
      exact h i j hi hj hij g hg hg'
/-- To row s something is put; its header is laid anew. -/
theorem StV.rowapp {W w w9 : World} {base gv g9 c9 H g2 s : Nat} {V : TV} {x : Int} (h : StV W base gv w V) (ap : Apt V.hs) (hs : s < V.hs.length) (hA2 : V.a2 = some ⟨g2, 0, none⟩)
    (hg : w.grownBy w9 V.hs[s].v.ownBlock) (ho : w9.ownsRow base 3 1 (.slice (some ⟨g9, 0, none⟩) (V.hs[s].n + 1) c9) (V.hs[s].n + 1) (icells V.hs[s].l ++ [.int .i64 x])) (hat : V.hs[s].v.ownBlock = some g9 ∨ g9 = H) (hH : w.heap.size ≤ H) :
    StV W base gv (w9.setCell ⟨g2, s, none⟩ (.slice (some ⟨g9, 0, none⟩) (V.hs[s].n + 1) c9)) { V with hs := V.hs.set s ⟨some ⟨g9, 0, none⟩, V.hs[s].n + 1, c9, V.hs[s].l ++ [x]⟩ } ∧ Apt (V.hs.set s ⟨some ⟨g9, 0, none⟩, V.hs[s].n + 1, c9, V.hs[s].l ++ [x]⟩) := by
  have hi := h.z2.inn _ (List.getElem_mem hs)
  have hm := h.m4 _ (List.getElem_mem hs)
  have hgvH : gv < H := Nat.lt_of_lt_of_le h.vx.1 hH
  have hrow : ∀ j, V.hs[s].v.ownBlock = some j → j ≠ gv := fun j e e2 => hm (by rw [e, e2])
  have k1 := h.z1.kept hg (own_unlike' (by decide) h.z1 hi.2)
  have k3 := h.z3.kept hg (own_unlike' (by decide) h.z3 hi.2)
  have k2 := h.z2.out.kept hg (own_unlike' (by decide) h.z2.out hi.2)
  have ko : ∀ i (hi' : i < V.hs.length), i ≠ s → w9.ownsRow base 3 1 V.hs[i].v V.hs[i].n (icells V.hs[i].l) := fun i hi' hne => by
    refine (h.z2.inn _ (List.getElem_mem hi')).2.kept hg ?_
    cases e : V.hs[i].v.ownBlock with
    | none => exact .inl rfl
    | some g => exact .inr (fun e2 => absurd e (ap.ne hs hi' (fun q => hne q.symm) e2.symm))
  have hbg : base ≤ g2 ∧ g2 < w9.heap.size := by
    have := k2.lt g2 (by rw [hA2]; rfl)
    exact this
  have hg2v : gv ≠ g2 := fun e => h.m2 (by rw [hA2, e]; rfl)
  have hgW : W.heap.size ≤ g2 := Nat.le_trans h.hw hbg.1
  have k2' := k2
  rw [hA2] at k2'
  have hst := (k2'.stored s (.slice (some ⟨g9, 0, none⟩) (V.hs[s].n + 1) c9)).1
  have hset : (icellsOf V.hs).set s (.slice (some ⟨g9, 0, none⟩) (V.hs[s].n + 1) c9) = icellsOf (V.hs.set s ⟨some ⟨g9, 0, none⟩, V.hs[s].n + 1, c9, V.hs[s].l ++ [x]⟩) := by
    unfold icellsOf
    rw [List.map_set]
    rfl
  rw [hset] at hst
  have hm9 : (Value.slice (some ⟨g9, 0, none⟩) (V.hs[s].n + 1) c9).ownBlock ≠ some gv := at_new (n := V.hs[s].n) (c := V.hs[s].c) (A := V.hs[s].a) hat hm hgvH
  have hapt : Apt (V.hs.set s ⟨some ⟨g9, 0, none⟩, V.hs[s].n + 1, c9, V.hs[s].l ++ [x]⟩) := ap.set hs (fun i hi' hne g e e2 => by
    have e3 : g9 = g := by simpa [Hi.v, Value.ownBlock] using e
    subst e3
    rcases hat with q | q
    · exact ap.ne hs hi' (fun e => hne e.symm) q e2
    · have := ((h.z2.inn _ (List.getElem_mem hi')).2.lt _ e2).2
      omega)
  have bb9 := h.bb.grown hg h.bb.size (fun k hk => Nat.le_trans h.hw (hi.2.lt k hk).1)
  have vx9 := box_grown9 h.vx hg hrow
  refine ⟨⟨bb9.setCell (p := ⟨g2, s, none⟩) hgW _, vx9.set (by simp only []; exact fun e => hg2v e.symm) _, fun k => ?_, ownsRow_setCell_other k1 (own_apart (by decide) k1 k2 (by rw [hA2]; rfl)) _, ⟨by simp only [List.length_set]; exact h.z2.len, by simp only []; rw [hA2]; exact hst, fun y hy => ?_⟩, ownsRow_setCell_other k3 (own_apart (by decide) k3 k2 (by rw [hA2]; rfl)) _, h.m1, h.m2, h.m3, fun y hy => ?_, h.hw, h.hg⟩, hapt⟩
  · rw [World.frozen?_setCell, hg.frozen_far ⟨gv, k, none⟩ h.vx.1 (fun e => hrow gv e.symm rfl)]
    exact h.fz k
  · obtain ⟨i, hi', rfl⟩ := List.getElem_of_mem hy
    simp only [List.length_set] at hi'
    simp only []
    rw [List.getElem_set]
    by_cases q : s = i
    · rw [if_pos q]
      have ho' : w9.ownsRow base 3 1 (.slice (some ⟨g9, 0, none⟩) (V.hs[s].n + 1) c9) (V.hs[s].n + 1) (icells (V.hs[s].l ++ [x])) := by rw [icells_snoc]; exact ho
      exact ⟨by simp only [List.length_append, List.length_singleton, hi.1], ownsRow_setCell_other (a := ⟨g2, s, none⟩) ho' (own_apart (by decide) ho' k2 (by rw [hA2]; rfl)) _⟩
    · rw [if_neg q]
      have o := ko i hi' (fun e => q e.symm)
      exact ⟨(h.z2.inn _ (List.getElem_mem hi')).1, ownsRow_setCell_other (a := ⟨g2, s, none⟩) o (own_apart (by decide) o k2 (by rw [hA2]; rfl)) _⟩
  · rcases List.mem_or_eq_of_mem_set hy with hy | rfl
    · exact h.m4 y hy
    · exact hm9
/-- What is read and written behind the append. -/
theorem StV.rowcell {W w w9 : World} {base gv g2 s : Nat} {V : TV} (h : StV W base gv w V) (hs : s < V.hs.length) (hA2 : V.a2 = some ⟨g2, 0, none⟩) (hg : w.grownBy w9 V.hs[s].v.ownBlock) : w9.cell? ⟨g2, s, none⟩ = some V.hs[s].v ∧ w9.frozen? ⟨g2, s, none⟩ = false ∧ Box w9 gv V := by
  have hi := h.z2.inn _ (List.getElem_mem hs)
  have hm := h.m4 _ (List.getElem_mem hs)
  have k2 := h.z2.out.kept hg (own_unlike' (by decide) h.z2.out hi.2)
  rw [hA2] at k2
  have hz := h.z2.len
  refine ⟨?_, k2.frozenAt s, box_grown9 h.vx hg (fun j e e2 => hm (by rw [e, e2]))⟩
  rw [k2.cellAt s (by omega)]
  unfold icellsOf
  rw [List.getElem?_map, List.getElem?_eq_getElem hs]; rfl
/-- Row s of Next. -/
theorem StV.row {W w : World} {base gv s : Nat} {V : TV} (h : StV W base gv w V) (hs : s < V.hs.length) (hn : 0 < V.hs[s].n) : ∃ g2 g, V.a2 = some ⟨g2, 0, none⟩ ∧ V.hs[s].a = some ⟨g, 0, none⟩ ∧ w.cell? ⟨g2, s, none⟩ = some (.slice (some ⟨g, 0, none⟩) V.hs[s].n V.hs[s].c) ∧ w.ownsRow base 3 1 (.slice (some ⟨g, 0, none⟩) V.hs[s].n V.hs[s].c) V.hs[s].n (icells V.hs[s].l) ∧ ∀ c (hc : c < V.hs[s].l.length), w.cell? ⟨g, c, none⟩ = some (.int .i64 V.hs[s].l[c]) := by
  obtain ⟨hln, hi⟩ := h.z2.inn _ (List.getElem_mem hs)
  have hz := h.z2.len
  obtain ⟨g2, cap, hv, _, _⟩ := h.z2.out.form (by omega)
  have hA2 : V.a2 = some ⟨g2, 0, none⟩ := by injection hv
  obtain ⟨g, cap', hv', _, _⟩ := hi.form hn
  have hA : V.hs[s].a = some ⟨g, 0, none⟩ := by unfold Hi.v at hv'; injection hv'
  have k2 := h.z2.out
  rw [hA2] at k2
  have hi' : w.ownsRow base 3 1 (.slice (some ⟨g, 0, none⟩) V.hs[s].n V.hs[s].c) V.hs[s].n (icells V.hs[s].l) := by
    have := hi
    unfold Hi.v at this
    rw [hA] at this
    exact this
  refine ⟨g2, g, hA2, hA, ?_, hi', fun c hc => ?_⟩
  · rw [k2.cellAt s (by omega)]
    unfold icellsOf
    rw [List.getElem?_map, List.getElem?_eq_getElem hs]
    unfold Hi.v
    rw [← hA]; rfl
  · rw [hi'.cellAt c (by omega)]
    unfold icells
    rw [List.getElem?_map, List.getElem?_eq_getElem hc]; rfl
end Go.Proofs.YtmhfgncffkfelaaDoor
