/- A table of the call's own, in a box of its own, to which a state is put. -/
import Derived.Test.YtmhfgncffkfelaaDoorKSt
namespace Go.Proofs.YtmhfgncffkfelaaDoor
open Go.RowKit Go.BigFrame
set_option linter.unusedVariables false
set_option maxRecDepth 4000
set_option linter.unusedSimpArgs false

theorem box_grown9 {g : Nat} {w w' : World} {T : TV} {row : Option Nat} (h : Box w g T) (b : w.grownBy w' row) (hr : ∀ j, row = some j → j ≠ g) : Box w' g T := by
  have hb : w'.heap[g]? = w.heap[g]? := b.block g h.1 (fun e => hr g e.symm rfl)
  have hc : ∀ i, w'.cell? ⟨g, i, none⟩ = w.cell? ⟨g, i, none⟩ := fun i => World.cell?_of_block (a := ⟨g, i, none⟩) hb
  exact ⟨Nat.lt_of_lt_of_le h.1 b.size, (hc 0).trans h.2.1, (hc 1).trans h.2.2.1, (hc 2).trans h.2.2.2.1, (hc 3).trans h.2.2.2.2⟩
structure StV (W : World) (base gv : Nat) (w : World) (V : TV) : Prop where
  bb : Below W.heap.size W w
  vx : Box w gv V
  fz : ∀ k, w.frozen? ⟨gv, k, none⟩ = false
  z1 : w.ownsRow base 50 2 (.slice V.a1 V.n1 V.c1) V.n1 (rcells V.bd)
  z2 : OwnI w base V.a2 V.n2 V.c2 V.hs
  z3 : w.ownsRow base 4 1 (.slice V.a3 V.n3 V.c3) V.n3 (bcells V.br)
  m1 : (Value.slice V.a1 V.n1 V.c1).ownBlock ≠ some gv
  m2 : (Value.slice V.a2 V.n2 V.c2).ownBlock ≠ some gv
  m3 : (Value.slice V.a3 V.n3 V.c3).ownBlock ≠ some gv
  m4 : ∀ h ∈ V.hs, h.v.ownBlock ≠ some gv
  hw : W.heap.size ≤ base
  hg : base ≤ gv
theorem StV.ok {W w : World} {base gv : Nat} {V : TV} (h : StV W base gv w V) : V.ok w :=
  ⟨own_RD h.z1, own_shp h.z1, h.z2.nest.1, h.z2.nest.2, own_RL h.z3, own_shp h.z3⟩
theorem StV.on {W w w' : World} {base gv : Nat} {V : TV} (h : StV W base gv w V) (g : Below w.heap.size w w') : StV W base gv w' V :=
  ⟨h.bb.trans (g.mono h.bb.size), h.vx.on g, fun k => (g.frozen (p := ⟨gv, k, none⟩) h.vx.1).trans (h.fz k), own_below h.z1 g, h.z2.on g, own_below h.z3 g, h.m1, h.m2, h.m3, h.m4, h.hw, h.hg⟩
theorem StV.make {W V w3 : World} {U : TV} (bb : Below W.heap.size W V) (g : Below V.heap.size V w3) (ow : OwnTb w3 V.heap.size U) (h1 : 0 < U.n1) (h3 : 0 < U.n3) : StV W V.heap.size w3.heap.size (w3.alloc (.cells #[.int .i64 U.cl, .slice U.a1 U.n1 U.c1, .slice U.a2 U.n2 U.c2, .slice U.a3 U.n3 U.c3] 26)) U := by
  have ga := below_new w3 (.cells #[.int .i64 U.cl, .slice U.a1 U.n1 U.c1, .slice U.a2 U.n2 U.c2, .slice U.a3 U.n3 U.c3] 26)
  obtain ⟨g1, hA1, _, _, o1⟩ := ow.z1.open_ h1
  obtain ⟨g3, hA3, _, _, o3⟩ := ow.z3.open_ h3
  rw [← hA1] at o1
  rw [← hA3] at o3
  have lt : ∀ {e : TypeId} {size n : Nat} {v : Value} {xs : List Value}, w3.ownsRow V.heap.size e size v n xs → v.ownBlock ≠ some w3.heap.size := fun o e => by have := (o.lt _ e).2; omega
  exact ⟨(bb.trans (g.mono bb.size)).trans (ga.mono (Nat.le_trans bb.size g.size)), box_new w3 U, fun k => World.frozen?_alloc_new _ _ _ k, own_below o1 ga, ow.z2.on ga, own_below o3 ga, lt o1, lt ow.z2.out, lt o3, fun h hh => lt (ow.z2.inn h hh).2, bb.size, g.size⟩
theorem box_set2 {w : World} {g : Nat} {T : TV} (h : Box w g T) (A : Option Addr) (n c : Nat) (hs : List Hi) : Box (w.setCell ⟨g, 2, none⟩ (.slice A n c)) g { T with a2 := A, n2 := n, c2 := c, hs := hs } := by
  obtain ⟨h0, c0, c1, c2, c3⟩ := h
  exact ⟨by simpa using h0, by simp [go_sem, c0, c1, c2, c3], by simp [go_sem, c0, c1, c2, c3], by simp [go_sem, c0, c1, c2, c3], by simp [go_sem, c0, c1, c2, c3]⟩
theorem box_set3 {w : World} {g : Nat} {T : TV} (h : Box w g T) (A : Option Addr) (n c : Nat) (br : List Bool) : Box (w.setCell ⟨g, 3, none⟩ (.slice A n c)) g { T with a3 := A, n3 := n, c3 := c, br := br } := by
  obtain ⟨h0, c0, c1, c2, c3⟩ := h
  exact ⟨by simpa using h0, by simp [go_sem, c0, c1, c2, c3], by simp [go_sem, c0, c1, c2, c3], by simp [go_sem, c0, c1, c2, c3], by simp [go_sem, c0, c1, c2, c3]⟩
theorem at_new {A : Option Addr} {n c n' c' g9 gv H : Nat} (hat : (Value.slice A n c).ownBlock = some g9 ∨ g9 = H) (h : (Value.slice A n c).ownBlock ≠ some gv) (hH : gv < H) : (Value.slice (some ⟨g9, 0, none⟩) n' c').ownBlock ≠ some gv := by
  intro e
  have e2 : g9 = gv := by simpa [Value.ownBlock] using e
  subst e2
  rcases hat with q | q
  · exact h q
  · omega
theorem StV.next {W w w9 : World} {base gv g9 c9 H : Nat} {V : TV} {x : Hi} (h : StV W base gv w V) (hx : x.l.length = x.n ∧ w.ownsRow base 3 1 x.v x.n (icells x.l)) (hxb : x.v.ownBlock ≠ some gv)
    (hg : w.grownBy w9 (Value.slice V.a2 V.n2 V.c2).ownBlock) (ho : w9.ownsRow base 51 1 (.slice (some ⟨g9, 0, none⟩) (V.n2 + 1) c9) (V.n2 + 1) (icellsOf V.hs ++ [x.v])) (hat : (Value.slice V.a2 V.n2 V.c2).ownBlock = some g9 ∨ g9 = H) (hH : gv < H) :
    StV W base gv (w9.setCell ⟨gv, 2, none⟩ (.slice (some ⟨g9, 0, none⟩) (V.n2 + 1) c9)) { V with a2 := some ⟨g9, 0, none⟩, n2 := V.n2 + 1, c2 := c9, hs := V.hs ++ [x] } := by
  have hrow : ∀ j, (Value.slice V.a2 V.n2 V.c2).ownBlock = some j → j ≠ gv := fun j e e2 => h.m2 (by rw [e, e2])
  have k1 := h.z1.kept hg (own_unlike' (by decide) h.z1 h.z2.out)
  have k3 := h.z3.kept hg (own_unlike' (by decide) h.z3 h.z2.out)
  have k2 := h.z2.snoc hx ho hg
  have hgW : W.heap.size ≤ gv := Nat.le_trans h.hw h.hg
  have m2' : (Value.slice (some ⟨g9, 0, none⟩) (V.n2 + 1) c9).ownBlock ≠ some gv := at_new hat h.m2 hH
  have m4' : ∀ y ∈ V.hs ++ [x], y.v.ownBlock ≠ some gv := fun y hy => by
    rcases List.mem_append.1 hy with hy | hy
    · exact h.m4 y hy
    · rw [List.mem_singleton] at hy; subst hy; exact hxb
  refine ⟨(h.bb.grown hg h.bb.size (fun k hk => Nat.le_trans h.hw (h.z2.out.lt k hk).1)).setCell (p := ⟨gv, 2, none⟩) hgW _, box_set2 (box_grown9 h.vx hg hrow) _ _ _ _, fun k => ?_, ownsRow_setCell_other k1 h.m1 _, k2.other m2' m4' _, ownsRow_setCell_other k3 h.m3 _, h.m1, m2', h.m3, m4', h.hw, h.hg⟩
  rw [World.frozen?_setCell, hg.frozen_far ⟨gv, k, none⟩ h.vx.1 (fun e => hrow gv e.symm rfl)]
  exact h.fz k
theorem StV.brk {W w w9 : World} {base gv g9 c9 H : Nat} {V : TV} {x : Bool} (h : StV W base gv w V)
    (hg : w.grownBy w9 (Value.slice V.a3 V.n3 V.c3).ownBlock) (ho : w9.ownsRow base 4 1 (.slice (some ⟨g9, 0, none⟩) (V.n3 + 1) c9) (V.n3 + 1) (bcells V.br ++ [.bool x])) (hat : (Value.slice V.a3 V.n3 V.c3).ownBlock = some g9 ∨ g9 = H) (hH : gv < H) :
    StV W base gv (w9.setCell ⟨gv, 3, none⟩ (.slice (some ⟨g9, 0, none⟩) (V.n3 + 1) c9)) { V with a3 := some ⟨g9, 0, none⟩, n3 := V.n3 + 1, c3 := c9, br := V.br ++ [x] } := by
  have hrow : ∀ j, (Value.slice V.a3 V.n3 V.c3).ownBlock = some j → j ≠ gv := fun j e e2 => h.m3 (by rw [e, e2])
  have k1 := h.z1.kept hg (own_unlike' (by decide) h.z1 h.z3)
  have k2 : OwnI w9 base V.a2 V.n2 V.c2 V.hs := ⟨h.z2.len, h.z2.out.kept hg (own_unlike' (by decide) h.z2.out h.z3), fun y hy => ⟨(h.z2.inn y hy).1, (h.z2.inn y hy).2.kept hg (own_unlike' (by decide) (h.z2.inn y hy).2 h.z3)⟩⟩
  have hgW : W.heap.size ≤ gv := Nat.le_trans h.hw h.hg
  have m3' : (Value.slice (some ⟨g9, 0, none⟩) (V.n3 + 1) c9).ownBlock ≠ some gv := at_new hat h.m3 hH
  have k3 : w9.ownsRow base 4 1 (.slice (some ⟨g9, 0, none⟩) (V.n3 + 1) c9) (V.n3 + 1) (bcells (V.br ++ [x])) := by rw [bcells_app]; exact ho
  refine ⟨(h.bb.grown hg h.bb.size (fun k hk => Nat.le_trans h.hw (h.z3.lt k hk).1)).setCell (p := ⟨gv, 3, none⟩) hgW _, box_set3 (box_grown9 h.vx hg hrow) _ _ _ _, fun k => ?_, ownsRow_setCell_other k1 h.m1 _, k2.other h.m2 h.m4 _, ownsRow_setCell_other k3 m3' _, h.m1, h.m2, m3', h.m4, h.hw, h.hg⟩
  rw [World.frozen?_setCell, hg.frozen_far ⟨gv, k, none⟩ h.vx.1 (fun e => hrow gv e.symm rfl)]
  exact h.fz k
theorem StV.grown {W w w9 : World} {base gv : Nat} {V : TV} {A : Option Addr} {n c : Nat} (h : StV W base gv w V) (hg : w.grownBy w9 (Value.slice A n c).ownBlock) (hne : (Value.slice A n c).ownBlock ≠ some gv) : Box w9 gv V ∧ ∀ k, w9.frozen? ⟨gv, k, none⟩ = false := by
  have hrow : ∀ j, (Value.slice A n c).ownBlock = some j → j ≠ gv := fun j e e2 => hne (by rw [e, e2])
  exact ⟨box_grown9 h.vx hg hrow, fun k => (hg.frozen_far ⟨gv, k, none⟩ h.vx.1 (fun e => hrow gv e.symm rfl)).trans (h.fz k)⟩
end Go.Proofs.YtmhfgncffkfelaaDoor
