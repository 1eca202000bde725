/- What OwnTable returns. -/
import Derived.Test.YtnilejdokgagbaaDoorKT
namespace Go.Proofs.YtnilejdokgagbaaDoor
open Go.RowKit Go.BigFrame
set_option linter.unusedVariables false
set_option maxRecDepth 4000
set_option linter.unusedSimpArgs false

/-- A new table like this one. -/
def OutTv (t : Tb) (w : World) (e : Ending) (w' : World) : Prop := ∃ T : TV, e = .returned T.v ∧ T.tb = t ∧ T.ok w' ∧ Below w.heap.size w w'
/-- A table in memory of the call's own. -/
structure OwnTb (w : World) (base : Nat) (T : TV) : Prop where
  z1 : OwnZ w base 50 2 T.a1 T.n1 T.c1 (rcells T.bd)
  z2 : OwnI w base T.a2 T.n2 T.c2 T.hs
  z3 : OwnZ w base 4 1 T.a3 T.n3 T.c3 (bcells T.br)
  ap : Apt T.hs
def OutTw (t : Tb) (w : World) (e : Ending) (w' : World) : Prop := ∃ T : TV, e = .returned T.v ∧ T.tb = t ∧ T.ok w' ∧ Below w.heap.size w w' ∧ OwnTb w' w.heap.size T
theorem Res.lt {g : Nat} {w : World} (h : Res g w) : g + 1 ≤ w.heap.size := h.1
theorem Res.alloc {g : Nat} {w : World} {o : Obj} (h : Res g w) : Res g (w.alloc o) := h.on (below_new w o)
theorem below_new2 (w : World) (o o' : Obj) : Below w.heap.size w ((w.alloc o).alloc o') := (below_new w o).trans ((below_new _ o').mono (by simp))
theorem sOn {k0 k1 k2 k3 i0 i1 i2 i3 : Nat} {u0 u1 u2 u3 : Value} {w V V' : World} (g : Below V.heap.size V V') (h : V.cell? ⟨k0, i0, none⟩ = some u0 ∧ V.cell? ⟨k1, i1, none⟩ = some u1 ∧ V.cell? ⟨k2, i2, none⟩ = some u2 ∧ V.cell? ⟨k3, i3, none⟩ = some u3 ∧ Below w.heap.size w V) :
    V'.cell? ⟨k0, i0, none⟩ = some u0 ∧ V'.cell? ⟨k1, i1, none⟩ = some u1 ∧ V'.cell? ⟨k2, i2, none⟩ = some u2 ∧ V'.cell? ⟨k3, i3, none⟩ = some u3 ∧ Below w.heap.size w V' :=
  ⟨kept_cell g h.1, kept_cell g h.2.1, kept_cell g h.2.2.1, kept_cell g h.2.2.2.1, h.2.2.2.2.trans (g.mono h.2.2.2.2.size)⟩
theorem sStore {k g : Nat} {u0 u1 u2 u3 v0 v1 v2 v3 : Value} {w V : World} (h : V.cell? ⟨k, 0, none⟩ = some u0 ∧ V.cell? ⟨k, 1, none⟩ = some u1 ∧ V.cell? ⟨k, 2, none⟩ = some u2 ∧ V.cell? ⟨k, 3, none⟩ = some u3 ∧ Below w.heap.size w V) (hne : g ≠ k) (hg : w.heap.size ≤ g) :
    ((((V.setCell ⟨g, 0, none⟩ v0).setCell ⟨g, 1, none⟩ v1).setCell ⟨g, 2, none⟩ v2).setCell ⟨g, 3, none⟩ v3).cell? ⟨k, 0, none⟩ = some u0 ∧ ((((V.setCell ⟨g, 0, none⟩ v0).setCell ⟨g, 1, none⟩ v1).setCell ⟨g, 2, none⟩ v2).setCell ⟨g, 3, none⟩ v3).cell? ⟨k, 1, none⟩ = some u1 ∧ ((((V.setCell ⟨g, 0, none⟩ v0).setCell ⟨g, 1, none⟩ v1).setCell ⟨g, 2, none⟩ v2).setCell ⟨g, 3, none⟩ v3).cell? ⟨k, 2, none⟩ = some u2 ∧ ((((V.setCell ⟨g, 0, none⟩ v0).setCell ⟨g, 1, none⟩ v1).setCell ⟨g, 2, none⟩ v2).setCell ⟨g, 3, none⟩ v3).cell? ⟨k, 3, none⟩ = some u3 ∧ Below w.heap.size w ((((V.setCell ⟨g, 0, none⟩ v0).setCell ⟨g, 1, none⟩ v1).setCell ⟨g, 2, none⟩ v2).setCell ⟨g, 3, none⟩ v3) :=
  ⟨far4 h.1 hne, far4 h.2.1 hne, far4 h.2.2.1 hne, far4 h.2.2.2.1 hne, below4 h.2.2.2.2 hg⟩
set_option maxRecDepth 4000 in
set_option maxHeartbeats 8000000 in
theorem ownTableA_any (T : TV) (w : World) (hT : T.ok w) (hS : Small T.tb) : Calls Tryd.prog 7 #[T.v] w (OutTw T.tb w) := by
  obtain ⟨j0, hj0, hy0, hy1, hy2⟩ := info_parts info52
  obtain ⟨i0, hi0, hz0, hz1, hz2⟩ := info_parts info4
  obtain ⟨cl, a1, n1, c1, bd, a2, n2, c2, hs, a3, n3, c3, br⟩ := T
  simp only [TV.v] at *
  have B1 : n1 ≤ 400 := by have h1 := hS.k; have h2 := hT.r1.1; simp only [TV.tb] at h1 h2; omega
  have B3 : n3 ≤ 1000 := by have h1 := hS.b; have h2 := hT.r3.1; simp only [TV.tb] at h1 h2; omega
  have B2 : n2 ≤ 3000 := by have h1 := hS.n; have h2 := hT.r2.1; have h3 := bulk_len (listsOf hs); rw [listsOf_len] at h3; simp only [TV.tb] at h1 h2; omega
  have B4 : Hid (∀ h ∈ hs, h.n ≤ 10000) := Lib.hid (fun h hh => by
    have h1 := hS.n
    have hm : h.l ∈ listsOf hs := List.mem_map.2 ⟨h, hh, rfl⟩
    have h2 := bulk_mem hm
    have h3 := (hT.r2.2.2 h hh).1.1
    simp only [TV.tb] at h1
    omega)
  have HT := Lib.hid hT
  have HN1 : Hid (a1 = none → c1 = 0) := Lib.hid hT.s1.1
  have HN3 : Hid (a3 = none → c3 = 0) := Lib.hid hT.s3.1
  have HO1 := Lib.hid (rcells_one bd)
  have HO3 := Lib.hid (bcells_one br)
  have HR1 : Hid (∀ V, (V.cell? ⟨w.heap.size, 0, none⟩ = some (.int .i64 cl) ∧ V.cell? ⟨w.heap.size, 1, none⟩ = some (.slice a1 n1 c1) ∧ V.cell? ⟨w.heap.size, 2, none⟩ = some (.slice a2 n2 c2) ∧ V.cell? ⟨w.heap.size, 3, none⟩ = some (.slice a3 n3 c3) ∧ Below w.heap.size w V) → Reads V V.heap.size 2 a1 n1 (rcells bd)) := Lib.hid (fun V h => (HT.out.r1.on h.2.2.2.2).2)
  have HR3 : Hid (∀ V, (V.cell? ⟨w.heap.size, 0, none⟩ = some (.int .i64 cl) ∧ V.cell? ⟨w.heap.size, 1, none⟩ = some (.slice a1 n1 c1) ∧ V.cell? ⟨w.heap.size, 2, none⟩ = some (.slice a2 n2 c2) ∧ V.cell? ⟨w.heap.size, 3, none⟩ = some (.slice a3 n3 c3) ∧ Below w.heap.size w V) → Reads V V.heap.size 1 a3 n3 (bcells br)) := Lib.hid (fun V h => (HT.out.r3.on h.2.2.2.2).2)
  have hL : Hid (∀ V, (V.cell? ⟨w.heap.size, 0, none⟩ = some (.int .i64 cl) ∧ V.cell? ⟨w.heap.size, 1, none⟩ = some (.slice a1 n1 c1) ∧ V.cell? ⟨w.heap.size, 2, none⟩ = some (.slice a2 n2 c2) ∧ V.cell? ⟨w.heap.size, 3, none⟩ = some (.slice a3 n3 c3) ∧ Below w.heap.size w V) → Calls Tryd.prog 25 #[.slice a2 n2 c2] V fun e w' => ∃ (A : Option Addr) (c : Nat) (H : List Hi), e = .returned (.slice A n2 c) ∧ listsOf H = listsOf hs ∧ OwnI w' V.heap.size A n2 c H ∧ Below V.heap.size V w' ∧ Apt H) := Lib.hid (fun V h => ownLists_any hs n2 a2 c2 V (HT.out.r2.on h.2.2.2.2) (by omega) B4.out)
  have L1 := Lib.hid hT.r1.1
  have L3 := Lib.hid hT.r3.1
  clear hT hS
  go_enter Tryd.func7, Tryd.ntmps7
  go_wp2_with fail
  have hS0 : ((w.alloc (.cells #[.int .i64 cl, .slice a1 n1 c1, .slice a2 n2 c2, .slice a3 n3 c3] 26)).alloc (.cells #[.int .i64 0, .slice none 0 0, .slice none 0 0, .slice none 0 0] 26)).cell? ⟨w.heap.size, 0, none⟩ = some (.int .i64 cl) ∧ ((w.alloc (.cells #[.int .i64 cl, .slice a1 n1 c1, .slice a2 n2 c2, .slice a3 n3 c3] 26)).alloc (.cells #[.int .i64 0, .slice none 0 0, .slice none 0 0, .slice none 0 0] 26)).cell? ⟨w.heap.size, 1, none⟩ = some (.slice a1 n1 c1) ∧ ((w.alloc (.cells #[.int .i64 cl, .slice a1 n1 c1, .slice a2 n2 c2, .slice a3 n3 c3] 26)).alloc (.cells #[.int .i64 0, .slice none 0 0, .slice none 0 0, .slice none 0 0] 26)).cell? ⟨w.heap.size, 2, none⟩ = some (.slice a2 n2 c2) ∧ ((w.alloc (.cells #[.int .i64 cl, .slice a1 n1 c1, .slice a2 n2 c2, .slice a3 n3 c3] 26)).alloc (.cells #[.int .i64 0, .slice none 0 0, .slice none 0 0, .slice none 0 0] 26)).cell? ⟨w.heap.size, 3, none⟩ = some (.slice a3 n3 c3) ∧ Below w.heap.size w ((w.alloc (.cells #[.int .i64 cl, .slice a1 n1 c1, .slice a2 n2 c2, .slice a3 n3 c3] 26)).alloc (.cells #[.int .i64 0, .slice none 0 0, .slice none 0 0, .slice none 0 0] 26)) := ⟨by simp, by simp, by simp, by simp, below_new2 _ _ _⟩
  have hres : Res (w.heap.size + 1) ((w.alloc (.cells #[.int .i64 cl, .slice a1 n1 c1, .slice a2 n2 c2, .slice a3 n3 c3] 26)).alloc (.cells #[.int .i64 0, .slice none 0 0, .slice none 0 0, .slice none 0 0] 26)) := ⟨by simp, ⟨by simp, by simp, by simp, by simp⟩, by simp, by simp, by simp, by simp⟩
  generalize ((w.alloc (.cells #[.int .i64 cl, .slice a1 n1 c1, .slice a2 n2 c2, .slice a3 n3 c3] 26)).alloc (.cells #[.int .i64 0, .slice none 0 0, .slice none 0 0, .slice none 0 0] 26)) = W at *
  have hne : w.heap.size + 1 ≠ w.heap.size := by omega
  have hge : w.heap.size ≤ w.heap.size + 1 := by omega
  have hS0d := sOn (Below.drew (Below.refl W.heap.size W)) hS0
  go_region_held3 (fun V => V.cell? ⟨w.heap.size, 0, none⟩ = some (.int .i64 cl) ∧ V.cell? ⟨w.heap.size, 1, none⟩ = some (.slice a1 n1 c1) ∧ V.cell? ⟨w.heap.size, 2, none⟩ = some (.slice a2 n2 c2) ∧ V.cell? ⟨w.heap.size, 3, none⟩ = some (.slice a3 n3 c3) ∧ Below w.heap.size w V) (with_reducible (first | assumption | exact hS0d | exact sOn (Below.drew (below_new _ _)) hS0 | exact sOn (below_new _ _) (by assumption) | exact sOn (Below.drew (below_new2 _ _ _)) hS0 | exact sOn (below_new _ _) (sOn (Below.drew (below_new _ _)) hS0) | exact sOn (below_new2 _ _ _) (by assumption) | exact sStore (by assumption) hne hge)) (first | (refine step_append_bare rfl _ _ 22 rfl 50 j0 _ 2 16 Tryd.underlying22 hj0 hy0 hy1 hy2 rfl _ rfl a1 n1 c1 _ (rcells bd) rfl HN1.out (HR1.out _ (by with_reducible (first | assumption | exact hS0d | exact sOn (Below.drew (below_new _ _)) hS0 | exact sOn (below_new _ _) (by assumption) | exact sOn (Below.drew (below_new2 _ _ _)) hS0 | exact sOn (below_new _ _) (sOn (Below.drew (below_new _ _)) hS0) | exact sOn (below_new2 _ _ _) (by assumption) | exact sStore (by assumption) hne hge))) HO1.out (by unfold maxLen; omega) (by omega) ?_; intro A1 d1 w8 o8 g8; have z8 : Res (w.heap.size + 1) w8 := Res.on ((by with_reducible (first | assumption | exact hres.drew | exact hres.on (Below.drew (below_new _ _)) | exact Res.alloc (by assumption) | exact hres.on (Below.drew (below_new2 _ _ _)) | exact Res.alloc (Res.alloc (by assumption))))) g8; obtain ⟨_, ⟨_, _, _, _⟩, _, _, _, _⟩ := z8.parts; have m8 := o8.lower (Res.lt (by with_reducible (first | assumption | exact hres.drew | exact hres.on (Below.drew (below_new _ _)) | exact Res.alloc (by assumption) | exact hres.on (Below.drew (below_new2 _ _ _)) | exact Res.alloc (Res.alloc (by assumption))))); have k8 := sOn g8 (by with_reducible (first | assumption | exact hS0d | exact sOn (Below.drew (below_new _ _)) hS0 | exact sOn (below_new _ _) (by assumption) | exact sOn (Below.drew (below_new2 _ _ _)) hS0 | exact sOn (below_new _ _) (sOn (Below.drew (below_new _ _)) hS0) | exact sOn (below_new2 _ _ _) (by assumption) | exact sStore (by assumption) hne hge))) | (refine step_append_bare rfl _ _ 24 rfl 4 i0 _ 1 1 Tryd.underlying24 hi0 hz0 hz1 hz2 rfl _ rfl a3 n3 c3 _ (bcells br) rfl HN3.out (HR3.out _ (by with_reducible (first | assumption | exact hS0d | exact sOn (Below.drew (below_new _ _)) hS0 | exact sOn (below_new _ _) (by assumption) | exact sOn (Below.drew (below_new2 _ _ _)) hS0 | exact sOn (below_new _ _) (sOn (Below.drew (below_new _ _)) hS0) | exact sOn (below_new2 _ _ _) (by assumption) | exact sStore (by assumption) hne hge))) HO3.out (by unfold maxLen; omega) (by omega) ?_; intro A3 d3 w15 o15 g15; have z15 : Res (w.heap.size + 1) w15 := Res.on ((by with_reducible (first | assumption | exact hres.drew | exact hres.on (Below.drew (below_new _ _)) | exact Res.alloc (by assumption) | exact hres.on (Below.drew (below_new2 _ _ _)) | exact Res.alloc (Res.alloc (by assumption))))) g15; obtain ⟨_, ⟨_, _, _, _⟩, _, _, _, _⟩ := z15.parts; have m15 := o15.lower (Res.lt (by with_reducible (first | assumption | exact hres.drew | exact hres.on (Below.drew (below_new _ _)) | exact Res.alloc (by assumption) | exact hres.on (Below.drew (below_new2 _ _ _)) | exact Res.alloc (Res.alloc (by assumption))))); have k15 := sOn g15 (by with_reducible (first | assumption | exact hS0d | exact sOn (Below.drew (below_new _ _)) hS0 | exact sOn (below_new _ _) (by assumption) | exact sOn (Below.drew (below_new2 _ _ _)) hS0 | exact sOn (below_new _ _) (sOn (Below.drew (below_new _ _)) hS0) | exact sOn (below_new2 _ _ _) (by assumption) | exact sStore (by assumption) hne hge))) | (go_at_call 25; with_reducible refine Calls.mono (hL.out _ ?_) ?_; (with_reducible (first | assumption | exact hS0d | exact sOn (Below.drew (below_new _ _)) hS0 | exact sOn (below_new _ _) (by assumption) | exact sOn (Below.drew (below_new2 _ _ _)) hS0 | exact sOn (below_new _ _) (sOn (Below.drew (below_new _ _)) hS0) | exact sOn (below_new2 _ _ _) (by assumption) | exact sStore (by assumption) hne hge)); rintro e w11 ⟨A2, d2, H, rfl, hl11, o11, g11, ap11⟩; have z11 : Res (w.heap.size + 1) w11 := Res.on ((by with_reducible (first | assumption | exact hres.drew | exact hres.on (Below.drew (below_new _ _)) | exact Res.alloc (by assumption) | exact hres.on (Below.drew (below_new2 _ _ _)) | exact Res.alloc (Res.alloc (by assumption))))) g11; obtain ⟨_, ⟨_, _, _, _⟩, _, _, _, _⟩ := z11.parts; have m11 := o11.lower (Res.lt (by with_reducible (first | assumption | exact hres.drew | exact hres.on (Below.drew (below_new _ _)) | exact Res.alloc (by assumption) | exact hres.on (Below.drew (below_new2 _ _ _)) | exact Res.alloc (Res.alloc (by assumption))))); have k11 := sOn g11 (by assumption)))
  all_goals (
    go_wp2_with fail
    have hz : Hid True := Lib.hid trivial
    first
      | (obtain ⟨hgz, ⟨p0, p1, p2, p3⟩, _, _, _, _⟩ := z8.parts
         obtain ⟨W9, hW9, b99, y9, c0', c1', c2', c3', ho9⟩ := store4 (.int .i64 cl) (.slice A1 n1 d1) (.slice A2 n2 d2) (.slice A3 n3 d3) k8.2.2.2.2 hge p0 p1 p2 p3
         rw [← hW9]
         have e8 : OwnZ w8 (w.heap.size + 1 + 1) 50 2 A1 n1 d1 (rcells bd) := (by with_reducible (repeat (first | exact m8 | refine OwnZ.on ?_ g15 | refine OwnZ.on ?_ g11 | refine OwnZ.on ?_ g8 | refine OwnZ.alloc ?_)))
         have e15 : OwnZ w8 (w.heap.size + 1 + 1) 4 1 A3 n3 d3 (bcells br) := (by with_reducible (repeat (first | exact m15 | refine OwnZ.on ?_ g15 | refine OwnZ.on ?_ g11 | refine OwnZ.on ?_ g8 | refine OwnZ.alloc ?_)))
         have e11 : OwnI w8 (w.heap.size + 1 + 1) A2 n2 d2 H := (by with_reducible (repeat (first | exact m11 | refine OwnI.on ?_ g15 | refine OwnI.on ?_ g11 | refine OwnI.on ?_ g8 | refine OwnI.alloc ?_)))
         have f8 := e8.store (Nat.lt_succ_self _) ho9
         have f15 := e15.store (Nat.lt_succ_self _) ho9
         have q11 := e11.store (Nat.lt_succ_self _) ho9
         have f11 := q11.nest
         refine bodyPost_ret (v := TV.v ⟨cl, A1, n1, d1, bd, A2, n2, d2, H, A3, n3, d3, br⟩) (by simp [results, Tryd.results7, go_sem, c0', c1', c2', c3', TV.v]) rfl ⟨⟨cl, A1, n1, d1, bd, A2, n2, d2, H, A3, n3, d3, br⟩, rfl, ?_, ⟨⟨L1.out, f8.reads⟩, f8.1, f11.1, f11.2, ⟨L3.out, f15.reads⟩, f15.1⟩, b99, ⟨f8.lower (by omega), q11.lower (by omega), f15.lower (by omega), ap11⟩⟩
         unfold TV.tb
         simp only []
         rw [hl11])
      | (obtain ⟨hgz, ⟨p0, p1, p2, p3⟩, _, _, _, _⟩ := z11.parts
         obtain ⟨W9, hW9, b99, y9, c0', c1', c2', c3', ho9⟩ := store4 (.int .i64 cl) (.slice A1 n1 d1) (.slice A2 n2 d2) (.slice A3 n3 d3) k11.2.2.2.2 hge p0 p1 p2 p3
         rw [← hW9]
         have e8 : OwnZ w11 (w.heap.size + 1 + 1) 50 2 A1 n1 d1 (rcells bd) := (by with_reducible (repeat (first | exact m8 | refine OwnZ.on ?_ g15 | refine OwnZ.on ?_ g11 | refine OwnZ.on ?_ g8 | refine OwnZ.alloc ?_)))
         have e15 : OwnZ w11 (w.heap.size + 1 + 1) 4 1 A3 n3 d3 (bcells br) := (by with_reducible (repeat (first | exact m15 | refine OwnZ.on ?_ g15 | refine OwnZ.on ?_ g11 | refine OwnZ.on ?_ g8 | refine OwnZ.alloc ?_)))
         have e11 : OwnI w11 (w.heap.size + 1 + 1) A2 n2 d2 H := (by with_reducible (repeat (first | exact m11 | refine OwnI.on ?_ g15 | refine OwnI.on ?_ g11 | refine OwnI.on ?_ g8 | refine OwnI.alloc ?_)))
         have f8 := e8.store (Nat.lt_succ_self _) ho9
         have f15 := e15.store (Nat.lt_succ_self _) ho9
         have q11 := e11.store (Nat.lt_succ_self _) ho9
         have f11 := q11.nest
         refine bodyPost_ret (v := TV.v ⟨cl, A1, n1, d1, bd, A2, n2, d2, H, A3, n3, d3, br⟩) (by simp [results, Tryd.results7, go_sem, c0', c1', c2', c3', TV.v]) rfl ⟨⟨cl, A1, n1, d1, bd, A2, n2, d2, H, A3, n3, d3, br⟩, rfl, ?_, ⟨⟨L1.out, f8.reads⟩, f8.1, f11.1, f11.2, ⟨L3.out, f15.reads⟩, f15.1⟩, b99, ⟨f8.lower (by omega), q11.lower (by omega), f15.lower (by omega), ap11⟩⟩
         unfold TV.tb
         simp only []
         rw [hl11])
      | (obtain ⟨hgz, ⟨p0, p1, p2, p3⟩, _, _, _, _⟩ := z15.parts
         obtain ⟨W9, hW9, b99, y9, c0', c1', c2', c3', ho9⟩ := store4 (.int .i64 cl) (.slice A1 n1 d1) (.slice A2 n2 d2) (.slice A3 n3 d3) k15.2.2.2.2 hge p0 p1 p2 p3
         rw [← hW9]
         have e8 : OwnZ w15 (w.heap.size + 1 + 1) 50 2 A1 n1 d1 (rcells bd) := (by with_reducible (repeat (first | exact m8 | refine OwnZ.on ?_ g15 | refine OwnZ.on ?_ g11 | refine OwnZ.on ?_ g8 | refine OwnZ.alloc ?_)))
         have e15 : OwnZ w15 (w.heap.size + 1 + 1) 4 1 A3 n3 d3 (bcells br) := (by with_reducible (repeat (first | exact m15 | refine OwnZ.on ?_ g15 | refine OwnZ.on ?_ g11 | refine OwnZ.on ?_ g8 | refine OwnZ.alloc ?_)))
         have e11 : OwnI w15 (w.heap.size + 1 + 1) A2 n2 d2 H := (by with_reducible (repeat (first | exact m11 | refine OwnI.on ?_ g15 | refine OwnI.on ?_ g11 | refine OwnI.on ?_ g8 | refine OwnI.alloc ?_)))
         have f8 := e8.store (Nat.lt_succ_self _) ho9
         have f15 := e15.store (Nat.lt_succ_self _) ho9
         have q11 := e11.store (Nat.lt_succ_self _) ho9
         have f11 := q11.nest
         refine bodyPost_ret (v := TV.v ⟨cl, A1, n1, d1, bd, A2, n2, d2, H, A3, n3, d3, br⟩) (by simp [results, Tryd.results7, go_sem, c0', c1', c2', c3', TV.v]) rfl ⟨⟨cl, A1, n1, d1, bd, A2, n2, d2, H, A3, n3, d3, br⟩, rfl, ?_, ⟨⟨L1.out, f8.reads⟩, f8.1, f11.1, f11.2, ⟨L3.out, f15.reads⟩, f15.1⟩, b99, ⟨f8.lower (by omega), q11.lower (by omega), f15.lower (by omega), ap11⟩⟩
         unfold TV.tb
         simp only []
         rw [hl11]))
theorem ownTable_any (T : TV) (w : World) (hT : T.ok w) (hS : Small T.tb) : Calls Tryd.prog 7 #[T.v] w (OutTv T.tb w) := (ownTableA_any T w hT hS).mono (fun e w' ⟨T, a, b, c, d, _⟩ => ⟨T, a, b, c, d⟩)
end Go.Proofs.YtnilejdokgagbaaDoor

