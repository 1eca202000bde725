/- What moved of package tree returns: the nodes in memory of their own, with numbers that are greater by so many. -/
import Derived.Test.YtfpiackfhdiapaaTrV
namespace Go.Proofs.Ytfpiackfhdiapaa.S
open Go.RowKit Go.BigFrame
set_option linter.unusedVariables false
set_option linter.unusedSimpArgs false

/-- 'make([]T, n, c)': n zero elements are owned. -/
theorem wpList_make_cap {P : Program} (w : World) {ops : Array Oper} {rest : List Oper} {o : Oper} {a : Act} {Q : Exit → Act → World → Prop}
    (hg : o.guard = none) (l c : Operand) (t : TypeId) (hop : o.op = Op.makeSlice t l c)
    (base : Nat) (e : TypeId) (i : TypeInfo) (z : Value) (size : Nat) (h1 : P.underlying t = some (.slice e)) (h2 : P.info? e = some i) (h3 : i.zero = some z) (h4 : i.size = size)
    (kl kc : IntKind) (L C : Int) (n m : Nat) (hl : a.eval l = .int kl L) (hc : a.eval c = .int kc C) (hL : L = (n : Int)) (hC : C = (m : Int)) (hnm : n ≤ m) (b2 : i.bytes * m ≤ 281474976710656) (b3 : m ≤ maxLen) (b4 : base ≤ w.heap.size)
    (hK : ∀ w', w'.ownsRow base e size (.slice (some ⟨w.heap.size, 0, none⟩) n m) n ((madeCells z.cells (m * size)).toList.take (n * size)) → w.grownBy w' none → wpList P ops Q rest (a.put o.dst (.slice (some ⟨w.heap.size, 0, none⟩) n m)) w') :
    wpList P ops Q (o :: rest) a w := by
  refine wpList_plain hg fun K hK' => ?_
  subst hL hC h4
  have hb : (i.bytes : Int) * (m : Int) ≤ 281474976710656 := by
    have h : ((i.bytes * m : Nat) : Int) ≤ 281474976710656 := by omega
    rwa [Int.natCast_mul] at h
  have hrun := run_make (P := P) w t e i z h1 h2 h3 kl kc (n : Int) (m : Int) (by omega) (by omega) hb (by unfold maxLen at b3; omega)
  simp only [Int.toNat_natCast] at hrun
  unfold Oper.wp
  simp [execOp, hop, hl, hc, hrun, Result.andThen]
  refine hK' _ _ (hK _ ⟨?_, .inr ⟨w.heap.size, m, madeCells z.cells (m * i.size), rfl, b4, heap_alloc_new w _, hnm, b3, size_madeCells _ _, rfl⟩⟩ (World.grownBy_alloc w _ none))
  rw [List.length_take, Array.length_toList, size_madeCells]
  exact Nat.min_eq_left (Nat.mul_le_mul_right _ hnm)

def Num (d : Int) : Prop := -1000000 ≤ d ∧ d ≤ 1000000
def NumT (L : List NV) : Prop := ∀ x ∈ L, Num x.a ∧ Num x.b
theorem mv_star {d : Int} {x : Nd} (h : x.k = 5) : mv d x = { x with a := x.a + d } := if_pos h
theorem mv_fork {d : Int} {x : Nd} (h : x.k = 3 ∨ x.k = 4) : mv d x = { x with a := x.a + d, b := x.b + d } := by unfold mv; rw [if_neg (by omega), if_pos h]
theorem mv_other {d : Int} {x : Nd} (h5 : ¬ x.k = 5) (h : ¬ (x.k = 3 ∨ x.k = 4)) : mv d x = x := by unfold mv; rw [if_neg h5, if_neg h]

/-- A node's box beside the row that is being filled. -/
structure MvSt (w V : World) (gb n cap : Nat) (M : List NV) (x : NV) : Prop where
  q0 : V.cell? ⟨gb, 0, none⟩ = some (.int .i64 x.k)
  q1 : V.cell? ⟨gb, 1, none⟩ = some (.int .i64 x.a)
  q2 : V.cell? ⟨gb, 2, none⟩ = some (.int .i64 x.b)
  q3 : V.cell? ⟨gb, 3, none⟩ = some (.slice x.A x.n x.c)
  q4 : V.cell? ⟨gb, 4, none⟩ = some (.string x.m)
  fz : ∀ j, V.frozen? ⟨gb, j, none⟩ = false
  lt : gb < V.heap.size
  gl : w.heap.size < gb
  out : V.ownsRow w.heap.size 48 5 (.slice (some ⟨w.heap.size, 0, none⟩) n cap) n (ncells (padN M n))
  inn : ∀ y ∈ M, y.s.length = y.n ∧ V.ownsRow w.heap.size 54 2 (.slice y.A y.n y.c) y.n (rcells y.s)
  inb : ∀ y ∈ M, (Value.slice y.A y.n y.c).ownBlock ≠ some gb
  ls : x.s.length = x.n
  own : V.ownsRow w.heap.size 54 2 (.slice x.A x.n x.c) x.n (rcells x.s)
  onb : (Value.slice x.A x.n x.c).ownBlock ≠ some gb
  bel : Below w.heap.size w V
theorem MvSt.on {w V V' : World} {gb n cap : Nat} {M : List NV} {x : NV} (h : MvSt w V gb n cap M x) (g : Below V.heap.size V V') : MvSt w V' gb n cap M x :=
  ⟨kept_cell g h.q0, kept_cell g h.q1, kept_cell g h.q2, kept_cell g h.q3, kept_cell g h.q4, fun j => (g.frozen (p := ⟨gb, j, none⟩) h.lt).trans (h.fz j), Nat.lt_of_lt_of_le h.lt g.size, h.gl, own_below h.out g, fun y hy => ⟨(h.inn y hy).1, own_below (h.inn y hy).2 g⟩, h.inb, h.ls, own_below h.own g, h.onb, h.bel.trans (g.mono h.bel.size)⟩
theorem MvSt.set {w V : World} {gb n cap : Nat} {M : List NV} {x x' : NV} (h : MvSt w V gb n cap M x) (j : Nat) (u : Value) (ha : x'.A = x.A ∧ x'.n = x.n ∧ x'.c = x.c ∧ x'.s = x.s)
    (c0 : (V.setCell ⟨gb, j, none⟩ u).cell? ⟨gb, 0, none⟩ = some (.int .i64 x'.k)) (c1 : (V.setCell ⟨gb, j, none⟩ u).cell? ⟨gb, 1, none⟩ = some (.int .i64 x'.a)) (c2 : (V.setCell ⟨gb, j, none⟩ u).cell? ⟨gb, 2, none⟩ = some (.int .i64 x'.b)) (c3 : (V.setCell ⟨gb, j, none⟩ u).cell? ⟨gb, 3, none⟩ = some (.slice x'.A x'.n x'.c)) (c4 : (V.setCell ⟨gb, j, none⟩ u).cell? ⟨gb, 4, none⟩ = some (.string x'.m)) :
    MvSt w (V.setCell ⟨gb, j, none⟩ u) gb n cap M x' := by
  obtain ⟨a1, a2, a3, a4⟩ := ha
  have hgl := h.gl
  refine ⟨c0, c1, c2, c3, c4, fun i => by rw [World.frozen?_setCell]; exact h.fz i, by simpa using h.lt, hgl, ?_, fun y hy => ⟨(h.inn y hy).1, ownsRow_setCell_other (h.inn y hy).2 (h.inb y hy) u⟩, h.inb, by rw [a2, a4]; exact h.ls, by rw [a1, a2, a3, a4]; exact ownsRow_setCell_other h.own h.onb u, by rw [a1, a2, a3]; exact h.onb, h.bel.setCell (p := ⟨gb, j, none⟩) (Nat.le_of_lt hgl) u⟩
  exact ownsRow_setCell_other h.out (fun e => by injection e with e; simp only [] at e; omega) u
/-- The node is laid in the row. -/
theorem MvSt.lay {w V : World} {gb n cap k : Nat} {M : List NV} {x : NV} (h : MvSt w V gb n cap M x) (hk : M.length = k) (hkn : k < n) :
    (((((V.setCell ⟨w.heap.size, k * 5, none⟩ (.int .i64 x.k)).setCell ⟨w.heap.size, k * 5 + 1, none⟩ (.int .i64 x.a)).setCell ⟨w.heap.size, k * 5 + 2, none⟩ (.int .i64 x.b)).setCell ⟨w.heap.size, k * 5 + 3, none⟩ (.slice x.A x.n x.c)).setCell ⟨w.heap.size, k * 5 + 4, none⟩ (.string x.m)).ownsRow w.heap.size 48 5 (.slice (some ⟨w.heap.size, 0, none⟩) n cap) n (ncells (padN (M ++ [x]) n)) ∧
    (∀ y ∈ M ++ [x], y.s.length = y.n ∧ (((((V.setCell ⟨w.heap.size, k * 5, none⟩ (.int .i64 x.k)).setCell ⟨w.heap.size, k * 5 + 1, none⟩ (.int .i64 x.a)).setCell ⟨w.heap.size, k * 5 + 2, none⟩ (.int .i64 x.b)).setCell ⟨w.heap.size, k * 5 + 3, none⟩ (.slice x.A x.n x.c)).setCell ⟨w.heap.size, k * 5 + 4, none⟩ (.string x.m)).ownsRow w.heap.size 54 2 (.slice y.A y.n y.c) y.n (rcells y.s)) ∧
    Below w.heap.size w (((((V.setCell ⟨w.heap.size, k * 5, none⟩ (.int .i64 x.k)).setCell ⟨w.heap.size, k * 5 + 1, none⟩ (.int .i64 x.a)).setCell ⟨w.heap.size, k * 5 + 2, none⟩ (.int .i64 x.b)).setCell ⟨w.heap.size, k * 5 + 3, none⟩ (.slice x.A x.n x.c)).setCell ⟨w.heap.size, k * 5 + 4, none⟩ (.string x.m)) := by
  have hb := h.bel
  refine ⟨?_, fun y hy => ?_, ((((hb.setCell (p := ⟨w.heap.size, k * 5, none⟩) (Nat.le_refl _) _).setCell (p := ⟨w.heap.size, k * 5 + 1, none⟩) (Nat.le_refl _) _).setCell (p := ⟨w.heap.size, k * 5 + 2, none⟩) (Nat.le_refl _) _).setCell (p := ⟨w.heap.size, k * 5 + 3, none⟩) (Nat.le_refl _) _).setCell (p := ⟨w.heap.size, k * 5 + 4, none⟩) (Nat.le_refl _) _⟩
  · have h5 := ((((h.out.stored (k * 5) (.int .i64 x.k)).1.stored (k * 5 + 1) (.int .i64 x.a)).1.stored (k * 5 + 2) (.int .i64 x.b)).1.stored (k * 5 + 3) (.slice x.A x.n x.c)).1.stored (k * 5 + 4) (.string x.m)
    have e := ncells_set x (padN M n) k (by rw [padN_len (by omega)]; exact hkn)
    rw [padN_set hk hkn] at e
    unfold set5 at e
    rw [e] at h5
    exact h5.1
  · have hy' : y.s.length = y.n ∧ V.ownsRow w.heap.size 54 2 (.slice y.A y.n y.c) y.n (rcells y.s) := by
      rcases List.mem_append.1 hy with hy | hy
      · exact h.inn y hy
      · simp at hy; subst hy; exact ⟨h.ls, h.own⟩
    have hne := own_types h.out hy'.2 (by decide) (g := w.heap.size) rfl
    exact ⟨hy'.1, ownsRow_setCell_other (ownsRow_setCell_other (ownsRow_setCell_other (ownsRow_setCell_other (ownsRow_setCell_other hy'.2 (a := ⟨w.heap.size, k * 5, none⟩) hne _) (a := ⟨w.heap.size, k * 5 + 1, none⟩) hne _) (a := ⟨w.heap.size, k * 5 + 2, none⟩) hne _) (a := ⟨w.heap.size, k * 5 + 3, none⟩) hne _) (a := ⟨w.heap.size, k * 5 + 4, none⟩) hne _⟩
/-- The row's cells where the node goes. -/
theorem MvSt.spot {w V : World} {gb n cap k : Nat} {M : List NV} {x : NV} (h : MvSt w V gb n cap M x) (hk : M.length = k) (hkn : k < n) : ∀ j, j < 5 → ∃ u, V.cell? ⟨w.heap.size, k * 5 + j, none⟩ = some u := by
  intro j hj
  have hl := h.out.1
  exact ⟨_, (h.out.cellAt (k * 5 + j) (by omega)).trans (List.getElem?_eq_getElem (by omega))⟩

set_option maxHeartbeats 8000000 in
theorem moved_any (L : List NV) (A : Option Addr) (n c : Nat) (d : Int) (w : World) (hT : RT w w.heap.size A n L) (hS : SmT L) (hN : NumT L) (hd : Num d) (hn : n ≤ 100000) :
    Calls Try.prog 29 #[.slice A n c, .int .i64 d] w (OutTr ((nds L).map (mv d)) n w) := by
  obtain ⟨i0, hi0, hz0, hz1, hz2⟩ := info_parts info_node
  obtain ⟨j0, hj0, hy0, hy1, hy2⟩ := info_parts info_range
  have HT := Lib.hid hT
  have HS := Lib.hid hS
  have HNm := Lib.hid hN
  have HL := Lib.hid hT.1
  have fn : IntKind.i64.wrap ((n : Int) + 1) = (n : Int) + 1 := IntWalk.i64_in _ (by omega)
  have cN : ((n + 1 : Nat) : Int) = (n : Int) + 1 := by omega
  obtain ⟨hd0, hd1⟩ := hd
  clear hT hS hN
  go_enter Try.func29, Try.ntmps29
  go_wp2_with (at_make; refine wpList_make_cap _ rfl _ _ 23 rfl w.heap.size 48 i0 _ 5 Try.underlying23 hi0 hz0 hz1 .i64 .i64 (n : Int) ((n : Int) + 1) n (n + 1) (by first | rfl | simp [Act.eval, Act.put]) (by first | rfl | simp [Act.eval, Act.put]) rfl ?k0 (Nat.le_succ _) ?k1 ?k2 (Nat.le_refl _) ?_)
  case k0 => first | omega | rfl
  case k1 => first | omega | (rw [hz2]; omega)
  case k2 => unfold maxLen; omega
  first | (intro w1 hown1 hgrow1) | (rename_i w1 hown1 hgrow1)
  have hb1 : Below w.heap.size w w1 := (Below.refl _ _).grown hgrow1 (Nat.le_refl _) (fun k hk => by cases hk)
  have HO : Hid (w1.ownsRow w.heap.size 48 5 (.slice (some ⟨w.heap.size, 0, none⟩) n (n + 1)) n (ncells (padN [] n))) := Lib.hid (by
    have h := hown1
    have e : (Value.agg #[.int .i64 0, .int .i64 0, .int .i64 0, .slice none 0 0, .string noName]).cells = #[.int .i64 0, .int .i64 0, .int .i64 0, .slice none 0 0, .string noName] := rfl
    (try rw [e] at h)
    rw [made5 n (n + 1) (Nat.le_succ _)] at h
    simpa [padN] using h)
  clear hown1 hgrow1
  go_wp2_with fail
  go_loopw [16] (fun i wr => ∃ (k : Nat) (M : List NV), k ≤ n ∧ i = .int .i64 k ∧ Below w.heap.size w wr ∧ Hid (M.length = k) ∧ Hid (nds M = ((nds L).take k).map (mv d)) ∧ Hid (SmT M) ∧ Hid (wr.ownsRow w.heap.size 48 5 (.slice (some ⟨w.heap.size, 0, none⟩) n (n + 1)) n (ncells (padN M n))) ∧ Hid (∀ x ∈ M, x.s.length = x.n ∧ wr.ownsRow w.heap.size 54 2 (.slice x.A x.n x.c) x.n (rcells x.s))) (fun i _ => n - (intOf i).toNat)
  case atStart => exact ⟨0, [], Nat.zero_le _, rfl, hb1, Lib.hid rfl, Lib.hid rfl, Lib.hid (fun x h => by simp at h), HO, Lib.hid (fun x h => by simp at h)⟩
  case round =>
    clear HO hb1
    obtain ⟨k, M, hk, rfl, hb, HML, HMv, HMs, HO, HI⟩ := hrel
    have hsz := hb.size
    by_cases hlt : k < n
    · have kl : k < L.length := by rw [HL.out]; exact hlt
      have hzk : w.heap.size < wr.heap.size := (HO.out.lt _ rfl).2
      obtain ⟨b, o, rfl, hbb, p0, p1, p2, p3, p4, hok⟩ := ((HT.out.below hb).more hsz).at kl
      have HTk := Lib.hid (nds_take_succ kl)
      have hSm := HS.out _ (List.getElem_mem kl)
      obtain ⟨⟨na0, na1⟩, nb0, nb1⟩ := HNm.out _ (List.getElem_mem kl)
      have HOk := Lib.hid hok
      clear hok
      generalize L[k] = x at *
      obtain ⟨xk, xa, xb, xA, xn, xc, xs, xm⟩ := x
      simp only [NV.nd] at p0 p1 p2 p3 p4 HTk hSm na0 na1 nb0 nb1
      obtain ⟨hs1, hs2⟩ := hSm
      have b5 := below_new wr (.cells #[.int .i64 xk, .int .i64 xa, .int .i64 xb, .slice xA xn xc, .string xm] 48)
      have q0 : (wr.alloc (.cells #[.int .i64 xk, .int .i64 xa, .int .i64 xb, .slice xA xn xc, .string xm] 48)).cell? ⟨wr.heap.size, 0, none⟩ = some (.int .i64 xk) := by simp
      have q1 : (wr.alloc (.cells #[.int .i64 xk, .int .i64 xa, .int .i64 xb, .slice xA xn xc, .string xm] 48)).cell? ⟨wr.heap.size, 1, none⟩ = some (.int .i64 xa) := by simp
      have q2 : (wr.alloc (.cells #[.int .i64 xk, .int .i64 xa, .int .i64 xb, .slice xA xn xc, .string xm] 48)).cell? ⟨wr.heap.size, 2, none⟩ = some (.int .i64 xb) := by simp
      have q3 : (wr.alloc (.cells #[.int .i64 xk, .int .i64 xa, .int .i64 xb, .slice xA xn xc, .string xm] 48)).cell? ⟨wr.heap.size, 3, none⟩ = some (.slice xA xn xc) := by simp
      have q4 : (wr.alloc (.cells #[.int .i64 xk, .int .i64 xa, .int .i64 xb, .slice xA xn xc, .string xm] 48)).cell? ⟨wr.heap.size, 4, none⟩ = some (.string xm) := by simp
      have hf5 : ∀ j, (wr.alloc (.cells #[.int .i64 xk, .int .i64 xa, .int .i64 xb, .slice xA xn xc, .string xm] 48)).frozen? ⟨wr.heap.size, j, none⟩ = false := fun j => by simp
      have HO5 := Lib.hid (own_below HO.out b5)
      have HI5 : Hid (∀ x ∈ M, x.s.length = x.n ∧ (wr.alloc (.cells #[.int .i64 xk, .int .i64 xa, .int .i64 xb, .slice xA xn xc, .string xm] 48)).ownsRow w.heap.size 54 2 (.slice x.A x.n x.c) x.n (rcells x.s)) := Lib.hid (fun x hx => ⟨(HI.out x hx).1, own_below (HI.out x hx).2 b5⟩)
      have HIb : Hid (∀ x ∈ M, ∀ g, (Value.slice x.A x.n x.c).ownBlock = some g → g < wr.heap.size) := Lib.hid (fun x hx g hg => ((HI.out x hx).2.lt g hg).2)
      have HOk5 := Lib.hid (HOk.out.on b5)
      have hb5 := hb.trans (b5.mono hsz)
      have hz5 : wr.heap.size < (wr.alloc (.cells #[.int .i64 xk, .int .i64 xa, .int .i64 xb, .slice xA xn xc, .string xm] 48)).heap.size := by simp
      go_upto_region 5 with (fail)
      generalize wr.alloc (.cells #[.int .i64 xk, .int .i64 xa, .int .i64 xb, .slice xA xn xc, .string xm] 48) = w5 at *
      generalize hgr : wr.heap.size = gb at *
      clear p0 p1 p2 p3 p4 HO HOk hb b5 hbb hsz HI
      have HNil : Hid (xA = none → xc = 0) := Lib.hid HOk5.out.2.1.1
      have HRd := Lib.hid HOk5.out.2.2
      have HOne := Lib.hid (rcells_one xs)
      have HNo := Lib.hid (World.ownsRow_nil w5 w5.heap.size 54 2)
      go_wp2_with (at_builtin; refine wpList_append_src rfl _ _ 25 rfl w5.heap.size 54 j0 _ 2 16 Try.underlying25 hj0 hy0 hy1 hy2 rfl (by decide) _ _ _ rfl HNo.out xA xn xc w5.heap.size (rcells xs) rfl HNil.out HRd.out HOne.out ?c3 ?c4 (Nat.le_refl _) ?_)
      case c3 => unfold maxLen; omega
      case c4 => omega
      intro A' c' w6 hown6 hnil6 hgrow6
      (try simp only [Nat.zero_add, List.nil_append] at hown6)
      (try simp only [Nat.zero_add])
      have b6 : Below w5.heap.size w5 w6 := (Below.refl _ _).grown hgrow6 (Nat.le_refl _) (fun k hk => by cases hk)
      have HO6 := Lib.hid (own_below HO5.out b6)
      have HI6 : Hid (∀ x ∈ M, x.s.length = x.n ∧ w6.ownsRow w.heap.size 54 2 (.slice x.A x.n x.c) x.n (rcells x.s)) := Lib.hid (fun x hx => ⟨(HI5.out x hx).1, own_below (HI5.out x hx).2 b6⟩)
      have hb6 := hb5.trans (b6.mono hb5.size)
      have hf6 : ∀ j, w6.frozen? ⟨gb, j, none⟩ = false := fun j => (b6.frozen (p := ⟨gb, j, none⟩) hz5).trans (hf5 j)
      have q0 := kept_cell b6 q0
      have q1 := kept_cell b6 q1
      have q2 := kept_cell b6 q2
      have q3 := kept_cell b6 q3
      have q4 := kept_cell b6 q4
      have hz6 : gb < w6.heap.size := Nat.lt_of_lt_of_le hz5 b6.size
      have HXo := Lib.hid hown6
      have hls := HOk5.out.1
      simp only [] at hls
      have HLs := Lib.hid hls
      have H7 : Hid (MvSt w (w6.setCell ⟨gb, 3, none⟩ (.slice A' xn c')) gb n (n + 1) M ⟨xk, xa, xb, A', xn, c', xs, xm⟩) := Lib.hid (by
        have hXb : (Value.slice A' xn c').ownBlock ≠ some gb := fun e => by have := (HXo.out.lt _ e).1; omega
        have hMb : ∀ y ∈ M, (Value.slice y.A y.n y.c).ownBlock ≠ some gb := fun y hy e => by have := HIb.out y hy _ e; omega
        exact ⟨by simp [go_sem, q0], by simp [go_sem, q1], by simp [go_sem, q2], by simp [go_sem, q3], by simp [go_sem, q4], fun j => by rw [World.frozen?_setCell]; exact hf6 j, by simpa using hz6, hzk,
          ownsRow_setCell_other HO6.out (fun e => by injection e with e; simp only [] at e; omega) _,
          fun y hy => ⟨(HI6.out y hy).1, ownsRow_setCell_other (HI6.out y hy).2 (hMb y hy) _⟩, hMb, HLs.out, ownsRow_setCell_other (own_base HXo.out (by have := hb5.size; omega)) hXb _, hXb, hb6.setCell (p := ⟨gb, 3, none⟩) (Nat.le_of_lt hzk) _⟩)
      clear hown6 hnil6 hgrow6 hls HXo HO6 HI6 HO5 HI5 HOk5 HNil HRd HOne HNo HIb
      go_upto_region 6 with (fail)
      generalize w6.setCell ⟨gb, 3, none⟩ (.slice A' xn c') = w7 at *
      clear q0 q1 q2 q3 q4 hf5 hf6 b6 hb5 hb6 hz5 hz6
      have q4 : w7.cell? ⟨gb, 4, none⟩ = some (.string xm) := H7.out.q4
      have hf7 := H7.out.fz 4
      go_wp2_with fail
      refine (clone_any xm w7 (by omega)).mono ?_
      rintro e w8 ⟨rfl, b8⟩
      have H8 := Lib.hid (H7.out.on b8)
      clear H7 b8 q4 hf7
      have q4 : w8.cell? ⟨gb, 4, none⟩ = some (.string xm) := H8.out.q4
      have hf8 := H8.out.fz
      have H9 : Hid (MvSt w (w8.setCell ⟨gb, 4, none⟩ (.string xm)) gb n (n + 1) M ⟨xk, xa, xb, A', xn, c', xs, xm⟩) := Lib.hid (H8.out.set 4 (.string xm) ⟨rfl, rfl, rfl, rfl⟩ (by simp [go_sem, H8.out.q0]) (by simp [go_sem, H8.out.q1]) (by simp [go_sem, H8.out.q2]) (by simp [go_sem, H8.out.q3]) (by simp [go_sem, H8.out.q4]))
      go_upto_region 7 with (fail)
      generalize w8.setCell ⟨gb, 4, none⟩ (.string xm) = w9 at *
      clear q4 hf8 H8
      have q0 : w9.cell? ⟨gb, 0, none⟩ = some (.int .i64 xk) := H9.out.q0
      have q1 : w9.cell? ⟨gb, 1, none⟩ = some (.int .i64 xa) := H9.out.q1
      have q2 : w9.cell? ⟨gb, 2, none⟩ = some (.int .i64 xb) := H9.out.q2
      have hf9 := H9.out.fz
      have hls1 : xn ≤ 1000 := hs1
      have fa : IntKind.i64.wrap (xa + d) = xa + d := IntWalk.i64_in _ (by omega)
      have fb : IntKind.i64.wrap (xb + d) = xb + d := IntWalk.i64_in _ (by omega)
      have hkI : (k : Int) < (n : Int) := by omega
      by_cases h5 : xk = 5
      · subst h5
        have HMd : Hid (mv d ⟨5, xa, xb, xs, xm⟩ = ⟨5, xa + d, xb, xs, xm⟩) := Lib.hid (mv_star rfl)
        have H10 : Hid (MvSt w (w9.setCell ⟨gb, 1, none⟩ (.int .i64 (xa + d))) gb n (n + 1) M ⟨5, (xa + d), xb, A', xn, c', xs, xm⟩) := Lib.hid (H9.out.set 1 (.int .i64 (xa + d)) ⟨rfl, rfl, rfl, rfl⟩ (by simp [go_sem, H9.out.q0]) (by simp [go_sem, H9.out.q1]) (by simp [go_sem, H9.out.q2]) (by simp [go_sem, H9.out.q3]) (by simp [go_sem, H9.out.q4]))
        go_upto_region 14 with (fail)
        generalize w9.setCell ⟨gb, 1, none⟩ (.int .i64 (xa + d)) = w10 at *
        clear q0 q1 q2 hf9 H9
        obtain ⟨z0, hz0'⟩ := H10.out.spot HML.out hlt 0 (by decide)
        obtain ⟨z1, hz1'⟩ := H10.out.spot HML.out hlt 1 (by decide)
        obtain ⟨z2, hz2'⟩ := H10.out.spot HML.out hlt 2 (by decide)
        obtain ⟨z3, hz3'⟩ := H10.out.spot HML.out hlt 3 (by decide)
        obtain ⟨z4, hz4'⟩ := H10.out.spot HML.out hlt 4 (by decide)
        simp only [Nat.add_zero] at hz0'
        have hfr := fun j => H10.out.out.frozenAt j
        obtain ⟨q0, q1, q2, q3, q4⟩ : w10.cell? ⟨gb, 0, none⟩ = some (.int .i64 5) ∧ w10.cell? ⟨gb, 1, none⟩ = some (.int .i64 (xa + d)) ∧ w10.cell? ⟨gb, 2, none⟩ = some (.int .i64 xb) ∧ w10.cell? ⟨gb, 3, none⟩ = some (.slice A' xn c') ∧ w10.cell? ⟨gb, 4, none⟩ = some (.string xm) := ⟨H10.out.q0, H10.out.q1, H10.out.q2, H10.out.q3, H10.out.q4⟩
        have hLy := Lib.hid (H10.out.lay HML.out hlt)
        simp only [] at hLy
        have HMv2 : Hid (nds (M ++ [⟨5, (xa + d), xb, A', xn, c', xs, xm⟩]) = ((nds L).take (k + 1)).map (mv d)) := Lib.hid (by
          rw [HTk.out, List.map_append, nds_app, HMv.out]
          exact congrArg (fun z => ((nds L).take k).map (mv d) ++ [z]) HMd.out.symm)
        have HMs2 : Hid (SmT (M ++ [⟨5, (xa + d), xb, A', xn, c', xs, xm⟩])) := Lib.hid (fun y hy => by
          rcases List.mem_append.1 hy with hy | hy
          · exact HMs.out y hy
          · simp at hy; subst hy; exact ⟨hs1, hs2⟩)
        have HML2 : Hid ((M ++ [(⟨5, (xa + d), xb, A', xn, c', xs, xm⟩ : NV)]).length = k + 1) := Lib.hid (by simp [HML.out])
        clear H10 HMv HMs HML HTk HMd
        go_wp2_with fail
        go_roundw
        case rel => exact ⟨k + 1, M ++ [(⟨5, (xa + d), xb, A', xn, c', xs, xm⟩ : NV)], by omega, by go_num, hLy.out.2.2, HML2, HMv2, HMs2, Lib.hid hLy.out.1, Lib.hid hLy.out.2.1⟩
        case measure => simp [intOf]; omega
      by_cases hk : xk = 3
      · subst hk
        have HMd : Hid (mv d ⟨3, xa, xb, xs, xm⟩ = ⟨3, xa + d, xb + d, xs, xm⟩) := Lib.hid (mv_fork (by simp))
        have H10 : Hid (MvSt w (w9.setCell ⟨gb, 1, none⟩ (.int .i64 (xa + d))) gb n (n + 1) M ⟨3, (xa + d), xb, A', xn, c', xs, xm⟩) := Lib.hid (H9.out.set 1 (.int .i64 (xa + d)) ⟨rfl, rfl, rfl, rfl⟩ (by simp [go_sem, H9.out.q0]) (by simp [go_sem, H9.out.q1]) (by simp [go_sem, H9.out.q2]) (by simp [go_sem, H9.out.q3]) (by simp [go_sem, H9.out.q4]))
        have H11 : Hid (MvSt w ((w9.setCell ⟨gb, 1, none⟩ (.int .i64 (xa + d))).setCell ⟨gb, 2, none⟩ (.int .i64 (xb + d))) gb n (n + 1) M ⟨3, xa + d, xb + d, A', xn, c', xs, xm⟩) := Lib.hid (H10.out.set 2 (.int .i64 (xb + d)) ⟨rfl, rfl, rfl, rfl⟩ (by simp [go_sem, H9.out.q0]) (by simp [go_sem, H9.out.q1]) (by simp [go_sem, H9.out.q2]) (by simp [go_sem, H9.out.q3]) (by simp [go_sem, H9.out.q4]))
        clear H10
        go_upto_region 14 with (fail)
        generalize (w9.setCell ⟨gb, 1, none⟩ (.int .i64 (xa + d))).setCell ⟨gb, 2, none⟩ (.int .i64 (xb + d)) = w11 at *
        clear q0 q1 q2 hf9 H9
        obtain ⟨z0, hz0'⟩ := H11.out.spot HML.out hlt 0 (by decide)
        obtain ⟨z1, hz1'⟩ := H11.out.spot HML.out hlt 1 (by decide)
        obtain ⟨z2, hz2'⟩ := H11.out.spot HML.out hlt 2 (by decide)
        obtain ⟨z3, hz3'⟩ := H11.out.spot HML.out hlt 3 (by decide)
        obtain ⟨z4, hz4'⟩ := H11.out.spot HML.out hlt 4 (by decide)
        simp only [Nat.add_zero] at hz0'
        have hfr := fun j => H11.out.out.frozenAt j
        obtain ⟨q0, q1, q2, q3, q4⟩ : w11.cell? ⟨gb, 0, none⟩ = some (.int .i64 3) ∧ w11.cell? ⟨gb, 1, none⟩ = some (.int .i64 (xa + d)) ∧ w11.cell? ⟨gb, 2, none⟩ = some (.int .i64 (xb + d)) ∧ w11.cell? ⟨gb, 3, none⟩ = some (.slice A' xn c') ∧ w11.cell? ⟨gb, 4, none⟩ = some (.string xm) := ⟨H11.out.q0, H11.out.q1, H11.out.q2, H11.out.q3, H11.out.q4⟩
        have hLy := Lib.hid (H11.out.lay HML.out hlt)
        simp only [] at hLy
        have HMv2 : Hid (nds (M ++ [⟨3, (xa + d), (xb + d), A', xn, c', xs, xm⟩]) = ((nds L).take (k + 1)).map (mv d)) := Lib.hid (by
          rw [HTk.out, List.map_append, nds_app, HMv.out]
          exact congrArg (fun z => ((nds L).take k).map (mv d) ++ [z]) HMd.out.symm)
        have HMs2 : Hid (SmT (M ++ [⟨3, (xa + d), (xb + d), A', xn, c', xs, xm⟩])) := Lib.hid (fun y hy => by
          rcases List.mem_append.1 hy with hy | hy
          · exact HMs.out y hy
          · simp at hy; subst hy; exact ⟨hs1, hs2⟩)
        have HML2 : Hid ((M ++ [(⟨3, (xa + d), (xb + d), A', xn, c', xs, xm⟩ : NV)]).length = k + 1) := Lib.hid (by simp [HML.out])
        clear H11 HMv HMs HML HTk HMd
        go_wp2_with fail
        go_roundw
        case rel => exact ⟨k + 1, M ++ [(⟨3, (xa + d), (xb + d), A', xn, c', xs, xm⟩ : NV)], by omega, by go_num, hLy.out.2.2, HML2, HMv2, HMs2, Lib.hid hLy.out.1, Lib.hid hLy.out.2.1⟩
        case measure => simp [intOf]; omega
      by_cases hk' : xk = 4
      · subst hk'
        have HMd : Hid (mv d ⟨4, xa, xb, xs, xm⟩ = ⟨4, xa + d, xb + d, xs, xm⟩) := Lib.hid (mv_fork (by simp))
        have H10 : Hid (MvSt w (w9.setCell ⟨gb, 1, none⟩ (.int .i64 (xa + d))) gb n (n + 1) M ⟨4, (xa + d), xb, A', xn, c', xs, xm⟩) := Lib.hid (H9.out.set 1 (.int .i64 (xa + d)) ⟨rfl, rfl, rfl, rfl⟩ (by simp [go_sem, H9.out.q0]) (by simp [go_sem, H9.out.q1]) (by simp [go_sem, H9.out.q2]) (by simp [go_sem, H9.out.q3]) (by simp [go_sem, H9.out.q4]))
        have H11 : Hid (MvSt w ((w9.setCell ⟨gb, 1, none⟩ (.int .i64 (xa + d))).setCell ⟨gb, 2, none⟩ (.int .i64 (xb + d))) gb n (n + 1) M ⟨4, xa + d, xb + d, A', xn, c', xs, xm⟩) := Lib.hid (H10.out.set 2 (.int .i64 (xb + d)) ⟨rfl, rfl, rfl, rfl⟩ (by simp [go_sem, H9.out.q0]) (by simp [go_sem, H9.out.q1]) (by simp [go_sem, H9.out.q2]) (by simp [go_sem, H9.out.q3]) (by simp [go_sem, H9.out.q4]))
        clear H10
        go_upto_region 14 with (fail)
        generalize (w9.setCell ⟨gb, 1, none⟩ (.int .i64 (xa + d))).setCell ⟨gb, 2, none⟩ (.int .i64 (xb + d)) = w11 at *
        clear q0 q1 q2 hf9 H9
        obtain ⟨z0, hz0'⟩ := H11.out.spot HML.out hlt 0 (by decide)
        obtain ⟨z1, hz1'⟩ := H11.out.spot HML.out hlt 1 (by decide)
        obtain ⟨z2, hz2'⟩ := H11.out.spot HML.out hlt 2 (by decide)
        obtain ⟨z3, hz3'⟩ := H11.out.spot HML.out hlt 3 (by decide)
        obtain ⟨z4, hz4'⟩ := H11.out.spot HML.out hlt 4 (by decide)
        simp only [Nat.add_zero] at hz0'
        have hfr := fun j => H11.out.out.frozenAt j
        obtain ⟨q0, q1, q2, q3, q4⟩ : w11.cell? ⟨gb, 0, none⟩ = some (.int .i64 4) ∧ w11.cell? ⟨gb, 1, none⟩ = some (.int .i64 (xa + d)) ∧ w11.cell? ⟨gb, 2, none⟩ = some (.int .i64 (xb + d)) ∧ w11.cell? ⟨gb, 3, none⟩ = some (.slice A' xn c') ∧ w11.cell? ⟨gb, 4, none⟩ = some (.string xm) := ⟨H11.out.q0, H11.out.q1, H11.out.q2, H11.out.q3, H11.out.q4⟩
        have hLy := Lib.hid (H11.out.lay HML.out hlt)
        simp only [] at hLy
        have HMv2 : Hid (nds (M ++ [⟨4, (xa + d), (xb + d), A', xn, c', xs, xm⟩]) = ((nds L).take (k + 1)).map (mv d)) := Lib.hid (by
          rw [HTk.out, List.map_append, nds_app, HMv.out]
          exact congrArg (fun z => ((nds L).take k).map (mv d) ++ [z]) HMd.out.symm)
        have HMs2 : Hid (SmT (M ++ [⟨4, (xa + d), (xb + d), A', xn, c', xs, xm⟩])) := Lib.hid (fun y hy => by
          rcases List.mem_append.1 hy with hy | hy
          · exact HMs.out y hy
          · simp at hy; subst hy; exact ⟨hs1, hs2⟩)
        have HML2 : Hid ((M ++ [(⟨4, (xa + d), (xb + d), A', xn, c', xs, xm⟩ : NV)]).length = k + 1) := Lib.hid (by simp [HML.out])
        clear H11 HMv HMs HML HTk HMd
        go_wp2_with fail
        go_roundw
        case rel => exact ⟨k + 1, M ++ [(⟨4, (xa + d), (xb + d), A', xn, c', xs, xm⟩ : NV)], by omega, by go_num, hLy.out.2.2, HML2, HMv2, HMs2, Lib.hid hLy.out.1, Lib.hid hLy.out.2.1⟩
        case measure => simp [intOf]; omega
      have HMd : Hid (mv d ⟨xk, xa, xb, xs, xm⟩ = ⟨xk, xa, xb, xs, xm⟩) := Lib.hid (mv_other h5 (by simp only []; omega))
      go_upto_region 14 with (fail)
      clear q0 q1 q2 hf9
      obtain ⟨z0, hz0'⟩ := H9.out.spot HML.out hlt 0 (by decide)
      obtain ⟨z1, hz1'⟩ := H9.out.spot HML.out hlt 1 (by decide)
      obtain ⟨z2, hz2'⟩ := H9.out.spot HML.out hlt 2 (by decide)
      obtain ⟨z3, hz3'⟩ := H9.out.spot HML.out hlt 3 (by decide)
      obtain ⟨z4, hz4'⟩ := H9.out.spot HML.out hlt 4 (by decide)
      simp only [Nat.add_zero] at hz0'
      have hfr := fun j => H9.out.out.frozenAt j
      obtain ⟨q0, q1, q2, q3, q4⟩ : w9.cell? ⟨gb, 0, none⟩ = some (.int .i64 xk) ∧ w9.cell? ⟨gb, 1, none⟩ = some (.int .i64 xa) ∧ w9.cell? ⟨gb, 2, none⟩ = some (.int .i64 xb) ∧ w9.cell? ⟨gb, 3, none⟩ = some (.slice A' xn c') ∧ w9.cell? ⟨gb, 4, none⟩ = some (.string xm) := ⟨H9.out.q0, H9.out.q1, H9.out.q2, H9.out.q3, H9.out.q4⟩
      have hLy := Lib.hid (H9.out.lay HML.out hlt)
      simp only [] at hLy
      have HMv2 : Hid (nds (M ++ [⟨xk, xa, xb, A', xn, c', xs, xm⟩]) = ((nds L).take (k + 1)).map (mv d)) := Lib.hid (by
        rw [HTk.out, List.map_append, nds_app, HMv.out]
        exact congrArg (fun z => ((nds L).take k).map (mv d) ++ [z]) HMd.out.symm)
      have HMs2 : Hid (SmT (M ++ [⟨xk, xa, xb, A', xn, c', xs, xm⟩])) := Lib.hid (fun y hy => by
        rcases List.mem_append.1 hy with hy | hy
        · exact HMs.out y hy
        · simp at hy; subst hy; exact ⟨hs1, hs2⟩)
      have HML2 : Hid ((M ++ [(⟨xk, xa, xb, A', xn, c', xs, xm⟩ : NV)]).length = k + 1) := Lib.hid (by simp [HML.out])
      clear H9 HMv HMs HML HTk HMd
      go_wp2_with fail
      go_roundw
      case rel => exact ⟨k + 1, M ++ [(⟨xk, xa, xb, A', xn, c', xs, xm⟩ : NV)], by omega, by go_num, hLy.out.2.2, HML2, HMv2, HMs2, Lib.hid hLy.out.1, Lib.hid hLy.out.2.1⟩
      case measure => simp [intOf]; omega
    · obtain rfl : n = k := by omega
      have hMn : padN M n = M := padN_full HML.out
      have HR : Hid (OwnTr wr w.heap.size (some ⟨w.heap.size, 0, none⟩) n (n + 1) M) := Lib.hid ⟨HML.out, by have h := HO.out; rwa [hMn] at h, HI.out⟩
      have HV : Hid (nds M = (nds L).map (mv d)) := Lib.hid (by
        have h := HMv.out
        rwa [List.take_of_length_le (by rw [nds_len, HL.out]; exact Nat.le_refl _)] at h)
      clear HO HI HMv
      go_wp2_with fail
      go_ret
      exact ⟨_, _, M, rfl, HR.out, HV.out, HMs.out, hb⟩
end Go.Proofs.Ytfpiackfhdiapaa.S
