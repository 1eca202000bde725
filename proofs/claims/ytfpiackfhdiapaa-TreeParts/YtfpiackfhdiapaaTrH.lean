/- Words for ask of package tree's question: the question in memory; a node's nodes within the tree's. -/
import Derived.Test.YtfpiackfhdiapaaTrA
import Derived.Deep.RegionHeld3
namespace Go.Proofs.Ytfpiackfhdiapaa.S
open Go.RowKit Go.BigFrame
set_option linter.unusedVariables false
set_option linter.unusedSimpArgs false

/-- A question: its tree, its row, its map, where it lies. -/
structure QP where
  At : Option Addr
  nt : Nat
  ct : Nat
  Ar : Option Addr
  nr : Nat
  cr : Nat
  qb : Nat
  m : Nat
  B : Nat
  l : List Int
  T : List NV
structure Qs (p : QP) (w : World) : Prop where
  c0 : w.cell? ⟨p.qb, 0, none⟩ = some (.slice p.At p.nt p.ct)
  c1 : w.cell? ⟨p.qb, 1, none⟩ = some (.slice p.Ar p.nr p.cr)
  c2 : w.cell? ⟨p.qb, 2, none⟩ = some (.map (some p.m))
  tr : RT w p.B p.At p.nt p.T
  rr : Reads w p.B 1 p.Ar p.nr (icells p.l)
  sm : SmT p.T
  qB : p.qb < p.B
  mB : p.m < p.B
  hB : p.B ≤ w.heap.size
  ln : p.nr ≤ 100000
  tn : p.nt ≤ 100000
theorem Qs.len {p : QP} {w : World} (h : Qs p w) : p.l.length = p.nr := by have := h.rr.1; simp [icells] at this; omega
theorem RT.bx {m B C n : Nat} {w w' : World} {L : List Tri} {A : Option Addr} {T : List NV} (h : RT w C A n T) (g : Bx m B w w') (hm : Mp w m L) (hC : C ≤ B) : RT w' C A n T :=
  ⟨h.1, h.2.1.bx g hm hC, fun x hx => ⟨(h.2.2 x hx).1, (h.2.2 x hx).2.1, (h.2.2 x hx).2.2.bx g hm hC⟩⟩
theorem Qs.bx {p : QP} {w w' : World} {L : List Tri} {B : Nat} (h : Qs p w) (g : Bx p.m B w w') (hm : Mp w p.m L) (hB : p.B ≤ B) : Qs p w' :=
  ⟨g.cell hm (Nat.lt_of_lt_of_le h.qB hB) h.c0, g.cell hm (Nat.lt_of_lt_of_le h.qB hB) h.c1, g.cell hm (Nat.lt_of_lt_of_le h.qB hB) h.c2, h.tr.bx g hm hB, h.rr.bx g hm hB, h.sm, h.qB, h.mB, Nat.le_trans h.hB g.size, h.ln, h.tn⟩
theorem Qs.on {p : QP} {w w' : World} (h : Qs p w) (g : Below w.heap.size w w') : Qs p w' :=
  ⟨kept_cell g h.c0, kept_cell g h.c1, kept_cell g h.c2, h.tr.below (g.mono h.hB), h.rr.below (g.mono h.hB), h.sm, h.qB, h.mB, Nat.le_trans h.hB g.size, h.ln, h.tn⟩
/-- An expression's nodes stand within the tree's from place o on. -/
def Sub (T : List Nd) (e : Ex) (o : Nat) : Prop := ∃ pre post, T = pre ++ flat e o ++ post ∧ pre.length = o
theorem Sub.root {T : List Nd} {e : Ex} {o : Nat} (h : Sub T e o) : T[rt e o]? = some (rootN e o) := by
  obtain ⟨pre, post, rfl, hl⟩ := h
  have h1 := rt_lt e o
  have h2 := flat_kids e o
  have h3 : (kids flat e o).length = sz e - 1 := by have h4 := congrArg List.length h2; rw [flat_len, List.length_append] at h4; simp at h4; omega
  rw [List.getElem?_append_left (by rw [List.length_append, flat_len]; omega), List.getElem?_append_right (by omega), h2, List.getElem?_append_right (by rw [h3]; unfold rt; omega)]
  rw [h3, hl]
  have : rt e o - o - (sz e - 1) = 0 := by unfold rt; omega
  rw [this]
  rfl
theorem Sub.lt {T : List Nd} {e : Ex} {o : Nat} (h : Sub T e o) : rt e o < T.length := by
  have := h.root
  exact (List.getElem?_eq_some_iff.1 this).1
theorem Sub.catx {T : List Nd} {x y : Ex} {o : Nat} (h : Sub T (.cat x y) o) : Sub T x o := by
  obtain ⟨pre, post, rfl, hl⟩ := h
  exact ⟨pre, flat y (o + sz x) ++ [rootN (.cat x y) o] ++ post, by simp [flat], hl⟩
theorem Sub.caty {T : List Nd} {x y : Ex} {o : Nat} (h : Sub T (.cat x y) o) : Sub T y (o + sz x) := by
  obtain ⟨pre, post, rfl, hl⟩ := h
  exact ⟨pre ++ flat x o, [rootN (.cat x y) o] ++ post, by simp [flat], by rw [List.length_append, flat_len, hl]⟩
theorem Sub.altx {T : List Nd} {x y : Ex} {o : Nat} (h : Sub T (.alt x y) o) : Sub T x o := by
  obtain ⟨pre, post, rfl, hl⟩ := h
  exact ⟨pre, flat y (o + sz x) ++ [rootN (.alt x y) o] ++ post, by simp [flat], hl⟩
theorem Sub.alty {T : List Nd} {x y : Ex} {o : Nat} (h : Sub T (.alt x y) o) : Sub T y (o + sz x) := by
  obtain ⟨pre, post, rfl, hl⟩ := h
  exact ⟨pre ++ flat x o, [rootN (.alt x y) o] ++ post, by simp [flat], by rw [List.length_append, flat_len, hl]⟩
theorem Sub.starx {T : List Nd} {x : Ex} {o : Nat} (h : Sub T (.star x) o) : Sub T x o := by
  obtain ⟨pre, post, rfl, hl⟩ := h
  exact ⟨pre, [rootN (.star x) o] ++ post, by simp [flat], hl⟩
/-- The node in memory. -/
theorem Qs.node {p : QP} {w : World} {e : Ex} {o : Nat} (h : Qs p w) (hs : Sub (nds p.T) e o) :
    ∃ (b q : Nat) (x : NV), p.At = some ⟨b, q, none⟩ ∧ rt e o < p.nt ∧ x.nd = rootN e o ∧ x.n ≤ 1000 ∧ x.ok w w.heap.size ∧ w.cell? ⟨b, q + rt e o * 5, none⟩ = some (.int .i64 x.k) ∧ w.cell? ⟨b, q + rt e o * 5 + 1, none⟩ = some (.int .i64 x.a) ∧ w.cell? ⟨b, q + rt e o * 5 + 2, none⟩ = some (.int .i64 x.b) ∧ w.cell? ⟨b, q + rt e o * 5 + 3, none⟩ = some (.slice x.A x.n x.c) ∧ w.cell? ⟨b, q + rt e o * 5 + 4, none⟩ = some (.string x.m) := by
  have hl := hs.lt
  rw [nds_len] at hl
  obtain ⟨b, q, h1, _, p0, p1, p2, p3, p4, hok⟩ := h.tr.at hl
  have hr := hs.root
  rw [List.getElem?_eq_getElem (by rw [nds_len]; exact hl)] at hr
  exact ⟨b, q, p.T[rt e o], h1, by have := h.tr.1; omega, by rw [← nds_at hl]; exact Option.some.inj hr, (h.sm _ (List.getElem_mem hl)).1, hok.more h.hB, p0, p1, p2, p3, p4⟩
def OutAsk (p : QP) (L : List Tri) (e : Ex) (o : Nat) (F : Nat → Prop) (f : Nat) (w : World) (en : Ending) (w' : World) : Prop :=
  ∃ (A : Option Addr) (n c : Nat) (R : List Nat) (L' : List Tri), en = .returned (.slice A n c) ∧ R.length = n ∧ w'.ownsRow w.heap.size 3 1 (.slice A n c) n (nats R) ∧ Mp w' p.m L' ∧ Asked p.l L e o F f R L' ∧ Bx p.m w.heap.size w w'
/-- Asking a node tells what it takes. -/
def AskOk (p : QP) (e : Ex) : Prop := ∀ (o : Nat) (L : List Tri) (F : Nat → Prop) (f : Nat) (w : World), Qs p w → Mp w p.m L → Sub (nds p.T) e o → Sd p.l L e o → Cl p.l L e o F → f ≤ p.l.length →
  Calls Try.prog 35 #[.pointer (some ⟨p.qb, 0, none⟩), .int .i64 (rt e o : Nat), .int .i64 (f : Nat)] w (OutAsk p L e o F f w)
/-- A place laid alone. -/
theorem lit_nat (w : World) (j : Nat) : Reads (w.alloc (.cells #[.int .i64 (j : Nat)] 3)) (w.heap.size + 1) 1 (some ⟨w.heap.size, 0, none⟩) 1 (nats [j]) := by
  refine ⟨by rw [nats_len]; rfl, fun _ => ⟨w.heap.size, 0, rfl, Nat.lt_succ_self _, fun i u hi => ?_⟩⟩
  have hi1 : i < 1 := by
    have := (List.getElem?_eq_some_iff.1 hi).1
    rwa [nats_len] at this
  obtain rfl : i = 0 := by omega
  simp [nats, icells] at hi
  subst hi
  simp
/-- The end: what add leaves is what was asked. -/
theorem outAsk_of {p : QP} {L L' : List Tri} {e : Ex} {o : Nat} {F : Nat → Prop} {f : Nat} {w w5 w' : World} {A : Option Addr} {n c : Nat} {R : List Nat} (b5 : Below w.heap.size w w5) (hl : R.length = n) (ho : w'.ownsRow w5.heap.size 3 1 (.slice A n c) n (nats R)) (hm : Mp w' p.m L') (ha : Asked p.l L e o F f R L') (hb : Bx p.m w5.heap.size w5 w') :
    OutAsk p L e o F f w (.returned (.slice A n c)) w' :=
  ⟨A, n, c, R, L', rfl, hl, own_base ho b5.size, hm, ha, (Bx.of b5).trans (hb.mono b5.size)⟩
end Go.Proofs.Ytfpiackfhdiapaa.S
