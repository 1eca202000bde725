/- Two tables of the call's own, each in a box of its own. -/
import Derived.Test.YtmhfgncffkfelaaDoorKSt
namespace Go.Proofs.YtmhfgncffkfelaaDoor
open Go.RowKit Go.BigFrame
set_option linter.unusedVariables false
set_option maxRecDepth 4000
set_option linter.unusedSimpArgs false

abbrev zT : Obj := .cells #[.int .i64 0, .slice none 0 0, .slice none 0 0, .slice none 0 0] 26
abbrev bT (U : TV) : Obj := .cells #[.int .i64 U.cl, .slice U.a1 U.n1 U.c1, .slice U.a2 U.n2 U.c2, .slice U.a3 U.n3 U.c3] 26
abbrev st4 (w : World) (g : Nat) (U : TV) : World := (((w.setCell ⟨g, 0, none⟩ (.int .i64 U.cl)).setCell ⟨g, 1, none⟩ (.slice U.a1 U.n1 U.c1)).setCell ⟨g, 2, none⟩ (.slice U.a2 U.n2 U.c2)).setCell ⟨g, 3, none⟩ (.slice U.a3 U.n3 U.c3)
theorem res_new9 (w : World) : Res w.heap.size (w.alloc zT) :=
  ⟨by simp, ⟨by simp, by simp, by simp, by simp⟩, World.frozen?_alloc_new _ _ _ _, World.frozen?_alloc_new _ _ _ _, World.frozen?_alloc_new _ _ _ _, World.frozen?_alloc_new _ _ _ _⟩
theorem res_eq9 {w : World} {g : Nat} (h : g = w.heap.size) : Res g (w.alloc zT) := by subst h; exact res_new9 w
theorem res_st4 {w : World} {g g' : Nat} {U : TV} (h : Res g w) (hne : g' ≠ g) : Res g (st4 w g' U) := by
  obtain ⟨h0, ⟨c0, c1, c2, c3⟩, f0, f1, f2, f3⟩ := h
  refine ⟨by simpa using h0, ⟨far4 c0 hne, far4 c1 hne, far4 c2 hne, far4 c3 hne⟩, ?_, ?_, ?_, ?_⟩
  all_goals (rw [World.frozen?_setCell, World.frozen?_setCell, World.frozen?_setCell, World.frozen?_setCell]; assumption)
theorem box_st4 {w : World} {g : Nat} {U : TV} (h : Res g w) : Box (st4 w g U) g U := by
  obtain ⟨h0, ⟨c0, c1, c2, c3⟩, _⟩ := h
  exact ⟨by simpa using h0, by simp [go_sem, c0, c1, c2, c3], by simp [go_sem, c0, c1, c2, c3], by simp [go_sem, c0, c1, c2, c3], by simp [go_sem, c0, c1, c2, c3]⟩
theorem box_far {w : World} {g g' : Nat} {T U : TV} (h : Box w g T) (hne : g' ≠ g) : Box (st4 w g' U) g T :=
  ⟨by simpa using h.1, far4 h.2.1 hne, far4 h.2.2.1 hne, far4 h.2.2.2.1 hne, far4 h.2.2.2.2 hne⟩
theorem box_eq {w : World} {g : Nat} {U : TV} (h : g = w.heap.size) : Box (w.alloc (bT U)) g U := by subst h; exact box_new w U
theorem box_al {w : World} {g : Nat} {U : TV} (h : Box w g U) (o : Obj) : Box (w.alloc o) g U := h.on (below_new w o)
theorem box_dr {w : World} {g : Nat} {U : TV} (h : Box w g U) : Box w.drew g U := h.on (Below.drew (Below.refl _ _))
theorem res_al {w : World} {g : Nat} (h : Res g w) (o : Obj) : Res g (w.alloc o) := h.on (below_new w o)

theorem res_dr {w : World} {g : Nat} (h : Res g w) : Res g w.drew := h.on (Below.drew (Below.refl _ _))
theorem res_snd (w : World) : Res (w.heap.size + 1) ((w.alloc zT).alloc zT) := res_eq9 (by simp)
/-- A table of the call's own whose rows lie from lo up to hi. -/
structure OwL (w : World) (lo hi : Nat) (U : TV) : Prop where
  ow : OwnTb w lo U
  k1 : ∀ g, (Value.slice U.a1 U.n1 U.c1).ownBlock = some g → g < hi
  k2 : ∀ g, (Value.slice U.a2 U.n2 U.c2).ownBlock = some g → g < hi
  k3 : ∀ g, (Value.slice U.a3 U.n3 U.c3).ownBlock = some g → g < hi
  k4 : ∀ h ∈ U.hs, ∀ g, h.v.ownBlock = some g → g < hi
theorem OwL.of {w : World} {lo : Nat} {U : TV} (h : OwnTb w lo U) (h1 : 0 < U.n1) (h3 : 0 < U.n3) : OwL w lo w.heap.size U := by
  obtain ⟨g1, hA1, _, _, o1⟩ := h.z1.open_ h1
  obtain ⟨g3, hA3, _, _, o3⟩ := h.z3.open_ h3
  rw [← hA1] at o1
  rw [← hA3] at o3
  exact ⟨h, fun g e => (o1.lt g e).2, fun g e => (h.z2.out.lt g e).2, fun g e => (o3.lt g e).2, fun y hy g e => ((h.z2.inn y hy).2.lt g e).2⟩
theorem OwL.on {w w' : World} {lo hi : Nat} {U : TV} (h : OwL w lo hi U) (g : Below w.heap.size w w') : OwL w' lo hi U := ⟨h.ow.on g, h.k1, h.k2, h.k3, h.k4⟩
theorem OwL.al {w : World} {lo hi : Nat} {U : TV} (h : OwL w lo hi U) (o : Obj) : OwL (w.alloc o) lo hi U := h.on (below_new w o)
theorem OwL.dr {w : World} {lo hi : Nat} {U : TV} (h : OwL w lo hi U) : OwL w.drew lo hi U := h.on (Below.drew (Below.refl _ _))
/-- A cell elsewhere is written. -/
theorem OwL.cell {w : World} {lo hi : Nat} {U : TV} (h : OwL w lo hi U) {a : Addr} (ha : a.block < lo ∨ hi ≤ a.block) (u : Value) : OwL (w.setCell a u) lo hi U := by
  have n2 : (Value.slice U.a2 U.n2 U.c2).ownBlock ≠ some a.block := fun e => by
    have h1 := (h.ow.z2.out.lt _ e).1
    have h2 := h.k2 _ e
    omega
  refine ⟨⟨h.ow.z1.other (fun g h1 _ _ e => ?_) u, h.ow.z2.other n2 (fun y hy e => ?_) u, h.ow.z3.other (fun g h1 _ _ e => ?_) u, h.ow.ap⟩, h.k1, h.k2, h.k3, h.k4⟩
  · have := h.k1 g e; omega
  · have h1 := ((h.ow.z2.inn y hy).2.lt _ e).1
    have h2 := h.k4 y hy _ e
    omega
  · have := h.k3 g e; omega
theorem OwL.st4 {w : World} {lo hi g : Nat} {T U : TV} (h : OwL w lo hi U) (hg : g < lo ∨ hi ≤ g) : OwL (st4 w g T) lo hi U := (((h.cell (a := ⟨g, 0, none⟩) hg _).cell (a := ⟨g, 1, none⟩) hg _).cell (a := ⟨g, 2, none⟩) hg _).cell (a := ⟨g, 3, none⟩) hg _
theorem below_st4 {w0 w : World} {B g : Nat} {U : TV} (h : Below B w0 w) (hg : B ≤ g) : Below B w0 (st4 w g U) := below4 h hg
/-- Both, in boxes. -/
structure St2 (W : World) (g5 g6 l5 h5 l6 h6 : Nat) (w : World) (X Y : TV) : Prop where
  bb : Below W.heap.size W w
  b5 : Box w g5 X
  b6 : Box w g6 Y
  o5 : OwL w l5 h5 X
  o6 : OwL w l6 h6 Y
  s : h5 ≤ l6 ∨ h6 ≤ l5
  s5 : g5 < l5 ∨ h5 ≤ g5
  t5 : g5 < l6 ∨ h6 ≤ g5
  s6 : g6 < l6 ∨ h6 ≤ g6
  t6 : g6 < l5 ∨ h5 ≤ g6
  w5 : W.heap.size ≤ l5
  w6 : W.heap.size ≤ l6
theorem St2.on {W w w' : World} {g5 g6 l5 h5 l6 h6 : Nat} {X Y : TV} (h : St2 W g5 g6 l5 h5 l6 h6 w X Y) (g : Below w.heap.size w w') : St2 W g5 g6 l5 h5 l6 h6 w' X Y :=
  ⟨h.bb.trans (g.mono h.bb.size), h.b5.on g, h.b6.on g, h.o5.on g, h.o6.on g, h.s, h.s5, h.t5, h.s6, h.t6, h.w5, h.w6⟩
theorem St2.flip {W w : World} {g5 g6 l5 h5 l6 h6 : Nat} {X Y : TV} (h : St2 W g5 g6 l5 h5 l6 h6 w X Y) : St2 W g6 g5 l6 h6 l5 h5 w Y X :=
  ⟨h.bb, h.b6, h.b5, h.o6, h.o5, h.s.symm, h.s6, h.t6, h.s5, h.t5, h.w6, h.w5⟩
/-- A break of the first is written. -/
theorem St2.brk {W w : World} {g5 g6 l5 h5 l6 h6 : Nat} {X Y : TV} (h : St2 W g5 g6 l5 h5 l6 h6 w X Y) {k : Nat} (hk : k < X.n3) (hl : k < X.br.length) : ∃ g, X.a3 = some ⟨g, 0, none⟩ ∧ w.frozen? ⟨g, k, none⟩ = false ∧ w.cell? ⟨g, k, none⟩ = some (.bool X.br[k]) ∧ ∀ x, St2 W g5 g6 l5 h5 l6 h6 (w.setCell ⟨g, k, none⟩ (.bool x)) { X with br := X.br.set k x } Y := by
  obtain ⟨g, hA, hbg, hlt, hf, hc, ho⟩ := h.o5.ow.brk hk
  have hkb : g < h5 := h.o5.k3 g (by rw [hA]; rfl)
  have a5 := h.s5
  have a6 := h.t6
  have asx := h.s
  have aw := h.w5
  refine ⟨g, hA, hf, hc hl, fun x => ⟨h.bb.setCell (p := ⟨g, k, none⟩) (by simp only []; omega) _, h.b5.set (by simp only []; omega) _, h.b6.set (by simp only []; omega) _, ⟨ho x, h.o5.k1, h.o5.k2, h.o5.k3, h.o5.k4⟩, h.o6.cell (a := ⟨g, k, none⟩) (by simp only []; omega) _, h.s, h.s5, h.t5, h.s6, h.t6, h.w5, h.w6⟩⟩
/-! For the drawn region: what holds behind each operation, as rules for simp. -/
def Sg (W : World) (T : TV) (V : World) : Prop := V.cell? ⟨W.heap.size, 0, none⟩ = some (.int .i64 T.cl) ∧ V.cell? ⟨W.heap.size, 1, none⟩ = some (.slice T.a1 T.n1 T.c1) ∧ V.cell? ⟨W.heap.size, 2, none⟩ = some (.slice T.a2 T.n2 T.c2) ∧ V.cell? ⟨W.heap.size, 3, none⟩ = some (.slice T.a3 T.n3 T.c3) ∧ Below W.heap.size W V
theorem sg_on {W V V' : World} {T : TV} (h : Sg W T V) (g : Below V.heap.size V V') : Sg W T V' := sOn g h
theorem sg_al {W V : World} {T : TV} {o : Obj} (h : Sg W T V) : Sg W T (V.alloc o) := sOn (below_new _ _) h
theorem sg_al2 {W V : World} {T : TV} {o o' : Obj} (h : Sg W T V) : Sg W T ((V.alloc o).alloc o') := sg_al (sg_al h)
theorem sg_dr {W V : World} {T : TV} (h : Sg W T V) : Sg W T V.drew := sOn (Below.drew (Below.refl _ _)) h
theorem sg_st {W V : World} {T : TV} {g : Nat} {v0 v1 v2 v3 : Value} (hg : W.heap.size < g) (h : Sg W T V) : Sg W T ((((V.setCell ⟨g, 0, none⟩ v0).setCell ⟨g, 1, none⟩ v1).setCell ⟨g, 2, none⟩ v2).setCell ⟨g, 3, none⟩ v3) := sStore h (by omega) (by omega)
theorem rs_al {w : World} {g : Nat} {o : Obj} (h : Res g w) : Res g (w.alloc o) := h.on (below_new w o)
theorem rs_dr {w : World} {g : Nat} (h : Res g w) : Res g w.drew := h.on (Below.drew (Below.refl _ _))
theorem ol_al {w : World} {lo hi : Nat} {U : TV} {o : Obj} (h : OwL w lo hi U) : OwL (w.alloc o) lo hi U := h.on (below_new w o)
theorem ol_dr {w : World} {lo hi : Nat} {U : TV} (h : OwL w lo hi U) : OwL w.drew lo hi U := h.on (Below.drew (Below.refl _ _))
theorem box_al' {w : World} {g : Nat} {U : TV} {o : Obj} (h : Box w g U) : Box (w.alloc o) g U := h.on (below_new w o)
/-- Both boxes lie already. -/
theorem fin_a {W w : World} {g5 g6 l5 h5 l6 h6 : Nat} {X Y : TV} (bb : Below W.heap.size W w) (r5 : Res g5 w) (r6 : Res g6 w) (o5 : OwL w l5 h5 X) (o6 : OwL w l6 h6 Y)
    (e : g5 ≠ g6) (s : h5 ≤ l6 ∨ h6 ≤ l5) (s5 : g5 < l5 ∨ h5 ≤ g5) (t5 : g5 < l6 ∨ h6 ≤ g5) (s6 : g6 < l6 ∨ h6 ≤ g6) (t6 : g6 < l5 ∨ h5 ≤ g6) (w5 : W.heap.size ≤ l5) (w6 : W.heap.size ≤ l6) (u5 : W.heap.size ≤ g5) (u6 : W.heap.size ≤ g6) :
    St2 W g5 g6 l5 h5 l6 h6 (st4 (st4 w g5 X) g6 Y) X Y :=
  ⟨below_st4 (below_st4 bb u5) u6, box_far (box_st4 r5) (fun h => e h.symm), box_st4 (res_st4 r6 e), (o5.st4 s5).st4 t6, (o6.st4 t5).st4 s6, s, s5, t5, s6, t6, w5, w6⟩
theorem ol_lt {w : World} {lo hi : Nat} {U : TV} (h : OwL w lo hi U) {o : Obj} : OwL (w.alloc o) lo hi U := h.on (below_new w o)
/-- The first lies already, the second is new. -/
theorem fin_b {W w : World} {g5 g6 l5 h5 l6 h6 : Nat} {X Y : TV} (bb : Below W.heap.size W w) (r5 : Res g5 w) (hg : g6 = w.heap.size) (o5 : OwL w l5 h5 X) (o6 : OwL w l6 h6 Y)
    (s : h5 ≤ l6 ∨ h6 ≤ l5) (s5 : g5 < l5 ∨ h5 ≤ g5) (t5 : g5 < l6 ∨ h6 ≤ g5) (s6 : g6 < l6 ∨ h6 ≤ g6) (t6 : g6 < l5 ∨ h5 ≤ g6) (w5 : W.heap.size ≤ l5) (w6 : W.heap.size ≤ l6) (u5 : W.heap.size ≤ g5) :
    St2 W g5 g6 l5 h5 l6 h6 ((st4 w g5 X).alloc (bT Y)) X Y := by
  have hz : (st4 w g5 X).heap.size = w.heap.size := by simp
  have b5 := below_st4 (U := X) bb u5
  exact ⟨b5.alloc b5.size _, box_al (box_st4 r5) _, box_eq (by rw [hz]; exact hg), (o5.st4 s5).al _, (o6.st4 t5).al _, s, s5, t5, s6, t6, w5, w6⟩
/-- The second lies already, the first is new. -/
theorem fin_c {W w : World} {g5 g6 l5 h5 l6 h6 : Nat} {X Y : TV} (bb : Below W.heap.size W w) (hg : g5 = w.heap.size) (r6 : Res g6 w) (o5 : OwL w l5 h5 X) (o6 : OwL w l6 h6 Y)
    (s : h5 ≤ l6 ∨ h6 ≤ l5) (s5 : g5 < l5 ∨ h5 ≤ g5) (t5 : g5 < l6 ∨ h6 ≤ g5) (s6 : g6 < l6 ∨ h6 ≤ g6) (t6 : g6 < l5 ∨ h5 ≤ g6) (w5 : W.heap.size ≤ l5) (w6 : W.heap.size ≤ l6) (u6 : W.heap.size ≤ g6) :
    St2 W g5 g6 l5 h5 l6 h6 ((st4 w g6 Y).alloc (bT X)) X Y :=
  (fin_b (X := Y) (Y := X) bb r6 hg o6 o5 s.symm s6 t6 s5 t5 w6 w5 u6).flip
/-- Both are new. -/
theorem fin_d {W w : World} {g5 g6 l5 h5 l6 h6 : Nat} {X Y : TV} (bb : Below W.heap.size W w) (hg : g5 = w.heap.size) (hg6 : g6 = w.heap.size + 1) (o5 : OwL w l5 h5 X) (o6 : OwL w l6 h6 Y)
    (s : h5 ≤ l6 ∨ h6 ≤ l5) (s5 : g5 < l5 ∨ h5 ≤ g5) (t5 : g5 < l6 ∨ h6 ≤ g5) (s6 : g6 < l6 ∨ h6 ≤ g6) (t6 : g6 < l5 ∨ h5 ≤ g6) (w5 : W.heap.size ≤ l5) (w6 : W.heap.size ≤ l6) :
    St2 W g5 g6 l5 h5 l6 h6 ((w.alloc (bT X)).alloc (bT Y)) X Y :=
  ⟨(bb.alloc bb.size _).alloc (bb.alloc bb.size _).size _, box_al (box_eq hg) _, box_eq (by simpa using hg6), (o5.al _).al _, (o6.al _).al _, s, s5, t5, s6, t6, w5, w6⟩
theorem fin_e {W w : World} {g5 g6 l5 h5 l6 h6 : Nat} {X Y : TV} (bb : Below W.heap.size W w) (hg6 : g6 = w.heap.size) (hg : g5 = w.heap.size + 1) (o5 : OwL w l5 h5 X) (o6 : OwL w l6 h6 Y)
    (s : h5 ≤ l6 ∨ h6 ≤ l5) (s5 : g5 < l5 ∨ h5 ≤ g5) (t5 : g5 < l6 ∨ h6 ≤ g5) (s6 : g6 < l6 ∨ h6 ≤ g6) (t6 : g6 < l5 ∨ h5 ≤ g6) (w5 : W.heap.size ≤ l5) (w6 : W.heap.size ≤ l6) :
    St2 W g5 g6 l5 h5 l6 h6 ((w.alloc (bT Y)).alloc (bT X)) X Y :=
  (fin_d (X := Y) (Y := X) bb hg6 hg o6 o5 s.symm s6 t6 s5 t5 w6 w5).flip
/-- The first k turned round. -/
def turnK (l : List Bool) (k : Nat) : List Bool := (l.take k).map (!·) ++ l.drop k
theorem turnK_zero (l : List Bool) : turnK l 0 = l := by simp [turnK]
theorem turnK_len (l : List Bool) (k : Nat) : (turnK l k).length = l.length := by simp [turnK]; omega
theorem turnK_all (l : List Bool) {k : Nat} (h : l.length ≤ k) : turnK l k = l.map (!·) := by simp [turnK, List.take_of_length_le h, List.drop_eq_nil_of_le h]
theorem turnK_at (l : List Bool) {k : Nat} (h : k < l.length) (h2 : k < (turnK l k).length) : (turnK l k)[k] = l[k] := by
  have e : (turnK l k)[k]? = l[k]? := by
    unfold turnK
    rw [List.getElem?_append_right (by simp; omega)]
    simp [Nat.min_eq_left (Nat.le_of_lt h)]
  rw [List.getElem?_eq_getElem h2, List.getElem?_eq_getElem h] at e
  exact Option.some.inj e
theorem turnK_set (l : List Bool) {k : Nat} (h : k < l.length) : (turnK l k).set k (!l[k]) = turnK l (k + 1) := by
  have e1 : l.drop k = l[k] :: l.drop (k + 1) := List.drop_eq_getElem_cons h
  have e2 : l.take (k + 1) = l.take k ++ [l[k]] := by rw [List.take_succ_eq_append_getElem h]
  unfold turnK
  rw [e1, e2, List.set_append_right _ _ (by simp; omega)]
  simp only [List.length_map, List.length_take, Nat.min_eq_left (Nat.le_of_lt h), Nat.sub_self, List.set_cons_zero, List.map_append, List.map_cons, List.map_nil, List.append_assoc, List.singleton_append]
/-- Are two of the first n states alike? -/
def anyA (t : Tb) (n : Nat) : Bool := (List.range n).any fun a => (List.range a).any fun b => alikeV t a b
def anyB (t : Tb) (a n : Nat) : Bool := (List.range n).any fun b => alikeV t a b
theorem anyA_succ (t : Tb) (n : Nat) : anyA t (n + 1) = (anyA t n || anyB t n n) := by unfold anyA anyB; rw [List.range_succ, List.any_append]; simp
theorem anyB_succ (t : Tb) (a n : Nat) : anyB t a (n + 1) = (anyB t a n || alikeV t a n) := by unfold anyB; rw [List.range_succ, List.any_append]; simp
theorem anyA_zero (t : Tb) : anyA t 0 = false := rfl
theorem anyB_zero (t : Tb) (a : Nat) : anyB t a 0 = false := rfl
end Go.Proofs.YtmhfgncffkfelaaDoor
