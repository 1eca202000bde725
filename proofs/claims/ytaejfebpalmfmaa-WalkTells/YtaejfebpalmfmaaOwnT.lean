/- What OwnTable returns. -/
import Derived.Test.YtaejfebpalmfmaaBare
import Derived.Test.YtaejfebpalmfmaaDec3
namespace Go.Proofs.Ytaejfebpalmfmaa
open Go.RowKit Go.BigFrame
set_option linter.unusedVariables false
set_option maxRecDepth 4000
set_option linter.unusedSimpArgs false

/-- A new table like this one. -/
def OutTv (t : Tb) (w : World) (e : Ending) (w' : World) : Prop := ∃ T : TV, e = .returned T.v ∧ T.tb = t ∧ T.ok w' ∧ Below w.heap.size w w'
/-- A table in memory of the call's own. -/
structure OwnTb (w : World) (base : Nat) (T : TV) : Prop where
  z1 : OwnZ w base 49 2 T.a1 T.n1 T.c1 (rcells T.bd)
  z2 : OwnI w base T.a2 T.n2 T.c2 T.hs
  z3 : OwnZ w base 4 1 T.a3 T.n3 T.c3 (bcells T.br)
  ap : Apt T.hs
def OutTw (t : Tb) (w : World) (e : Ending) (w' : World) : Prop := ∃ T : TV, e = .returned T.v ∧ T.tb = t ∧ T.ok w' ∧ Below w.heap.size w w' ∧ OwnTb w' w.heap.size T
theorem Res.lt {g : Nat} {w : World} (h : Res g w) : g + 1 ≤ w.heap.size := h.1
theorem Res.alloc {g : Nat} {w : World} {o : Obj} (h : Res g w) : Res g (w.alloc o) := h.on (below_new w o)
theorem below_new2 (w : World) (o o' : Obj) : Below w.heap.size w ((w.alloc o).alloc o') := (below_new w o).trans ((below_new _ o').mono (by simp))
theorem sOn {k0 k1 k2 k3 i0 i1 i2 i3 : Nat} {u0 u1 u2 u3 : Value} {w V V' : World} (g : Below V.heap.size V V') (h : V.cell? ⟨k0, i0, none⟩ = some u0 ∧ V.cell? ⟨k1, i1, none⟩ = some u1 ∧ V.cell? ⟨k2, i2, none⟩ = some u2 ∧ V.cell? ⟨k3, i3, none⟩ = some u3 ∧ Below w.heap.size w V) :
    V'.cell? ⟨k0, i0, none⟩ = some u0 ∧ V'.cell? ⟨k1, i1, none⟩ = some u1 ∧ V'.cell? ⟨k2, i2, none⟩ = some u2 ∧ V'.cell? ⟨k3, i3, none⟩ = some u3 ∧ Below w.heap.size w V' :=
  ⟨kept_cell g h.1, kept_cell g h.2.1, kept_cell g h.2.2.1, kept_cell g h.2.2.2.1, h.2.2.2.2.trans (g.mono h.2.2.2.2.size)⟩
theorem sStore {k g : Nat} {u0 u1 u2 u3 v0 v1 v2 v3 : Value} {w V : World} (h : V.cell? ⟨k, 0, none⟩ = some u0 ∧ V.cell? ⟨k, 1, none⟩ = some u1 ∧ V.cell? ⟨k, 2, none⟩ = some u2 ∧ V.cell? ⟨k, 3, none⟩ = some u3 ∧ Below w.heap.size w V) (hne : g ≠ k) (hg : w.heap.size ≤ g) :
    ((((V.setCell ⟨g, 0, none⟩ v0).setCell ⟨g, 1, none⟩ v1).setCell ⟨g, 2, none⟩ v2).setCell ⟨g, 3, none⟩ v3).cell? ⟨k, 0, none⟩ = some u0 ∧ ((((V.setCell ⟨g, 0, none⟩ v0).setCell ⟨g, 1, none⟩ v1).setCell ⟨g, 2, none⟩ v2).setCell ⟨g, 3, none⟩ v3).cell? ⟨k, 1, none⟩ = some u1 ∧ ((((V.setCell ⟨g, 0, none⟩ v0).setCell ⟨g, 1, none⟩ v1).setCell ⟨g, 2, none⟩ v2).setCell ⟨g, 3, none⟩ v3).cell? ⟨k, 2, none⟩ = some u2 ∧ ((((V.setCell ⟨g, 0, none⟩ v0).setCell ⟨g, 1, none⟩ v1).setCell ⟨g, 2, none⟩ v2).setCell ⟨g, 3, none⟩ v3).cell? ⟨k, 3, none⟩ = some u3 ∧ Below w.heap.size w ((((V.setCell ⟨g, 0, none⟩ v0).setCell ⟨g, 1, none⟩ v1).setCell ⟨g, 2, none⟩ v2).setCell ⟨g, 3, none⟩ v3) :=
  ⟨far4 h.1 hne, far4 h.2.1 hne, far4 h.2.2.1 hne, far4 h.2.2.2.1 hne, below4 h.2.2.2.2 hg⟩
end Go.Proofs.Ytaejfebpalmfmaa
