/- What caesurakeep.Pieces returns: whether two rows of pieces are alike. -/
import Derived.Test.YtbnconieedgcmaaDoorUText2
import Derived.Deep.QuietTactic
import Derived.BigQuiet
import Derived.Laws.StructEq
namespace Go.Proofs.YtbnconieedgcmaaDoor.U
open Go.RowKit
set_option linter.unusedVariables false
set_option linter.unusedSimpArgs false

/-- A piece as the program holds it. -/
structure Tr where
  v : Int
  a : Int
  n : Int
/-- Are two alike? Two rows? -/
def eqT (x y : Tr) : Bool := x.v == y.v && (x.a == y.a && x.n == y.n)
theorem eqT_iff (x y : Tr) : eqT x y = true ↔ x = y := by
  obtain ⟨a, b, c⟩ := x
  obtain ⟨d, e, f⟩ := y
  simp [eqT]
def eqTs : List Tr → List Tr → Bool
  | [], [] => true
  | x :: l, y :: m => eqT x y && eqTs l m
  | _, _ => false
theorem eqTs_iff : ∀ (P Q : List Tr), eqTs P Q = true ↔ P = Q
  | [], [] => by simp [eqTs]
  | [], y :: m => by simp [eqTs]
  | x :: l, [] => by simp [eqTs]
  | x :: l, y :: m => by
    have h := eqTs_iff l m
    have g := eqT_iff x y
    simp only [eqTs, Bool.and_eq_true, List.cons.injEq]
    rw [h, g]
theorem eqTs_same (P : List Tr) : eqTs P P = true := (eqTs_iff P P).2 rfl
theorem eqTs_diff {P Q : List Tr} (h : ¬ P = Q) : eqTs P Q = false := by
  cases e : eqTs P Q
  · rfl
  · exact absurd ((eqTs_iff P Q).1 e) h
def tcell (p : Tr) : List Value := [.int .i64 p.v, .int .i64 p.a, .int .i64 p.n]
def tcells (l : List Tr) : List Value := l.flatMap tcell

theorem guard35 : Tryd.prog.eqGuardType Tryd.prog.depth 65 = false := by kernel_rfl
theorem held35 : Tryd.prog.stoodInHeld 65 = false := by kernel_rfl
theorem fields35 : Tryd.prog.underlying 65 = some (.struct (Tryd.prog.fieldsOf 65)) := by kernel_rfl
theorem neq35_same (x0 x1 x2 : Int) (W : World) : (binOp .neq 65 (.agg #[.int .i64 x0, .int .i64 x1, .int .i64 x2]) (.agg #[.int .i64 x0, .int .i64 x1, .int .i64 x2])).run Tryd.prog W = .ok (.bool false) W := by
  rw [run_neq_struct, run_equalIn_agg _ _ _ _ _ fields35 held35]
  unfold Program.fieldsOf
  rw [Tryd.underlying65]
  simp [go_sem, Tryd.underlying3]
theorem neq35_diff (x0 x1 x2 y0 y1 y2 : Int) (h : ¬ (x0 = y0 ∧ x1 = y1 ∧ x2 = y2)) (W : World) : (binOp .neq 65 (.agg #[.int .i64 x0, .int .i64 x1, .int .i64 x2]) (.agg #[.int .i64 y0, .int .i64 y1, .int .i64 y2])).run Tryd.prog W = .ok (.bool true) W := by
  rw [run_neq_struct, run_equalIn_agg _ _ _ _ _ fields35 held35]
  unfold Program.fieldsOf
  rw [Tryd.underlying65]
  by_cases h0 : x0 = y0 <;> by_cases h1 : x1 = y1 <;> by_cases h2 : x2 = y2 <;> simp [go_sem, Tryd.underlying3, h0, h1, h2] <;> exact h ⟨h0, h1, h2⟩
theorem eql35_same (x0 x1 x2 : Int) (W : World) : (binOp .eql 65 (.agg #[.int .i64 x0, .int .i64 x1, .int .i64 x2]) (.agg #[.int .i64 x0, .int .i64 x1, .int .i64 x2])).run Tryd.prog W = .ok (.bool true) W := by
  rw [run_eql_struct, run_equalIn_agg _ _ _ _ _ fields35 held35]
  unfold Program.fieldsOf
  rw [Tryd.underlying65]
  simp [go_sem, Tryd.underlying3]


theorem tcells_len (l : List Tr) : (tcells l).length = l.length * 3 := by
  induction l with
  | nil => rfl
  | cons p l ih =>
    have e : tcells (p :: l) = tcell p ++ tcells l := by simp [tcells]
    rw [e, List.length_append, ih]
    simp [tcell]
    omega
theorem tcells_at (l : List Tr) : ∀ (k : Nat) (h : k < l.length), (tcells l)[k * 3]? = some (.int .i64 l[k].v) ∧ (tcells l)[k * 3 + 1]? = some (.int .i64 l[k].a) ∧ (tcells l)[k * 3 + 2]? = some (.int .i64 l[k].n) := by
  induction l with
  | nil => intro k h; simp at h
  | cons p l ih =>
    intro k h
    have e : tcells (p :: l) = .int .i64 p.v :: .int .i64 p.a :: .int .i64 p.n :: tcells l := by simp [tcells, tcell]
    rw [e]
    match k, h with
    | 0, _ => exact ⟨rfl, rfl, rfl⟩
    | k + 1, h =>
      have := ih k (by simpa using h)
      rw [show (k + 1) * 3 = k * 3 + 1 + 1 + 1 by omega, show k * 3 + 1 + 1 + 1 + 1 = (k * 3 + 1) + 1 + 1 + 1 by omega, show k * 3 + 1 + 1 + 1 + 2 = (k * 3 + 2) + 1 + 1 + 1 by omega]
      simpa using this

/-- The cells of the k-th piece. -/
theorem Reads.tr {w : World} {B : Nat} {A : Option Addr} {P : List Tr} (h : Reads w B 3 A P.length (tcells P)) {k : Nat} (hk : k < P.length) :
    ∃ b o, A = some ⟨b, o, none⟩ ∧ b < B ∧ w.cell? ⟨b, o + k * 3, none⟩ = some (.int .i64 P[k].v) ∧ w.cell? ⟨b, o + k * 3 + 1, none⟩ = some (.int .i64 P[k].a) ∧ w.cell? ⟨b, o + k * 3 + 2, none⟩ = some (.int .i64 P[k].n) := by
  obtain ⟨b, o, rfl, hb, hc⟩ := h.2 (by omega)
  obtain ⟨h0, h1, h2⟩ := tcells_at P k hk
  exact ⟨b, o, rfl, hb, hc _ _ h0, by rw [Nat.add_assoc]; exact hc _ _ h1, by rw [Nat.add_assoc]; exact hc _ _ h2⟩

theorem below_drewN {B : Nat} {a w : World} (h : Below B a w) (n : Nat) : Below B a (w.drewN n) := ⟨h.os, h.tape, h.output, h.size, h.block⟩

end Go.Proofs.YtbnconieedgcmaaDoor.U
