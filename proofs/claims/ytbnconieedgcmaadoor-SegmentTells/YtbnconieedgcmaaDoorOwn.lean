/- Words for memory: a slice that reads as a list, nil let in; a row of the call's own over calls that lay new memory. -/
import Derived.Test.YtbnconieedgcmaaDoorMath
import Derived.Test.YtbnconieedgcmaaDoorChecked
import Derived.Lib.Hide
import Derived.Deep.QuietTactic
import Derived.BigQuiet
import Derived.Laws.StructEq
import Derived.Handy
import Derived.Laws.Cover1
import Derived.Deep.AppendLies
import Derived.Laws.OwnMore
import Derived.Deep.Draws
import Derived.OwnWalk
namespace Go.Proofs.YtbnconieedgcmaaDoor
open Go.RowKit

theorem block_of_add (a : Addr) (n : Nat) : (a.add n).block = a.block := by unfold Addr.add; split <;> rfl

/-- A slice value that holds these cells, and lies below block B. -/
def Reads (w : World) (B size : Nat) (A : Option Addr) (n : Nat) (xs : List Value) : Prop :=
  xs.length = n * size ∧ (0 < n → ∃ b o, A = some ⟨b, o, none⟩ ∧ b < B ∧ ∀ j u, xs[j]? = some u → w.cell? ⟨b, o + j, none⟩ = some u)

section
variable {w w' : World} {B B' size n : Nat} {A : Option Addr} {xs : List Value}
theorem Reads.none_ : Reads w B size A 0 [] := ⟨by simp, fun h => absurd h (by omega)⟩
theorem Reads.keep (h : Reads w B size A n xs) (hk : ∀ p : Addr, p.block < B → w'.cell? p = w.cell? p) : Reads w' B size A n xs :=
  ⟨h.1, fun hn => by
    obtain ⟨b, o, e, hb, hc⟩ := h.2 hn
    exact ⟨b, o, e, hb, fun j u hu => (hk ⟨b, o + j, none⟩ hb).trans (hc j u hu)⟩⟩
theorem Reads.more (h : Reads w B size A n xs) (hB : B ≤ B') : Reads w B' size A n xs :=
  ⟨h.1, fun hn => by
    obtain ⟨b, o, e, hb, hc⟩ := h.2 hn
    exact ⟨b, o, e, by omega, hc⟩⟩
theorem Reads.below (h : Reads w B size A n xs) (hb : Below B w w') : Reads w' B size A n xs := h.keep fun _ hp => hb.cell hp
theorem Reads.alloc (h : Reads w B size A n xs) (hB : B ≤ w.heap.size) (o : Obj) : Reads (w.alloc o) B size A n xs := h.keep fun p hp => World.cell?_alloc_lt w o p (by omega)
theorem Reads.of_own {base : Nat} {e : TypeId} {c : Nat} (h : w.ownsRow base e size (.slice A n c) n xs) : Reads w w.heap.size size A n xs := by
  refine ⟨h.1, fun hn => ?_⟩
  obtain ⟨g, cap, hv, _, hlt⟩ := h.form hn
  have hA : A = some ⟨g, 0, none⟩ := by injection hv
  subst hA
  refine ⟨g, 0, rfl, hlt, fun j u hu => ?_⟩
  have := h.cells (g := g) rfl j u hu
  rw [Nat.zero_add]
  by_cases hj : j = 0
  · subst hj; simpa [Addr.add] using this
  · simpa [Addr.add, hj] using this
end

/-- A row of the call's own over a call that lays new memory. -/
theorem own_below {w w' : World} {base : Nat} {e : TypeId} {size n : Nat} {v : Value} {xs : List Value} (h : w.ownsRow base e size v n xs) (hb : Below w.heap.size w w') : w'.ownsRow base e size v n xs :=
  h.kept (row := none) ⟨hb.os, hb.tape, hb.output, hb.size, fun i hi _ => hb.block i hi⟩ (by
    cases h' : v.ownBlock with
    | none => exact .inl rfl
    | some g => exact .inr (by simp))
/-- Below, over a step that writes a row of the call's own and new memory alone. -/
theorem below_grown {w0 w w' : World} {base : Nat} {e : TypeId} {size n : Nat} {v : Value} {xs : List Value} (h : Below base w0 w) (hz : base ≤ w.heap.size) (ho : w.ownsRow base e size v n xs) (hg : w.grownBy w' v.ownBlock) : Below base w0 w' :=
  h.grown hg hz (fun k hk => (ho.lt k hk).1)

theorem below_new (w : World) (o : Obj) : Below w.heap.size w (w.alloc o) := (Below.refl _ _).alloc (Nat.le_refl _) _
theorem kept_cell {w w' : World} {a : Addr} {u : Value} (g : Below w.heap.size w w') (h : w.cell? a = some u) : w'.cell? a = some u :=
  (g.cell (p := a) (World.block_lt_of_cell? w a h)).trans h
theorem below_drewN {B : Nat} {a w : World} (h : Below B a w) (n : Nat) : Below B a (w.drewN n) := ⟨h.os, h.tape, h.output, h.size, h.block⟩
theorem reads_on {w w' : World} {size n : Nat} {A : Option Addr} {xs : List Value} (h : Reads w w.heap.size size A n xs) (g : Below w.heap.size w w') : Reads w' w'.heap.size size A n xs := (h.below g).more g.size

/-- Cells of bytes, of bools, of 32-bit numbers. -/
def ycells (l : List Nat) : List Value := l.map fun (x : Nat) => .int .u8 (x : Int)
def ucells (l : List Nat) : List Value := l.map fun (x : Nat) => .int .u32 (x : Int)
def bcells (l : List Bool) : List Value := l.map .bool
theorem ycells_len (l : List Nat) : (ycells l).length = l.length := by simp [ycells]
theorem ucells_len (l : List Nat) : (ucells l).length = l.length := by simp [ucells]
theorem bcells_len (l : List Bool) : (bcells l).length = l.length := by simp [bcells]
theorem ycells_nil : ycells [] = [] := rfl
theorem ycells_app (l m : List Nat) : ycells (l ++ m) = ycells l ++ ycells m := by simp [ycells]
theorem bcells_app (l m : List Bool) : bcells (l ++ m) = bcells l ++ bcells m := by simp [bcells]
theorem ycells_one (l : List Nat) : ∀ u ∈ ycells l, u.oneCell' = true := by
  intro u hu
  simp only [ycells, List.mem_map] at hu
  obtain ⟨x, _, rfl⟩ := hu
  rfl
theorem bcells_one (l : List Bool) : ∀ u ∈ bcells l, u.oneCell' = true := by
  intro u hu
  simp only [bcells, List.mem_map] at hu
  obtain ⟨x, _, rfl⟩ := hu
  rfl
/-- A row of bytes. -/
def RB (w : World) (B : Nat) (A : Option Addr) (n : Nat) (l : List Nat) : Prop := l.length = n ∧ Reads w B 1 A n (ycells l) ∧ ∀ x ∈ l, x < 256
/-- A row of bools. -/
def RL (w : World) (B : Nat) (A : Option Addr) (n : Nat) (l : List Bool) : Prop := l.length = n ∧ Reads w B 1 A n (bcells l)
/-- A row of 32-bit numbers. -/
def RU (w : World) (B : Nat) (A : Option Addr) (n : Nat) (l : List Nat) : Prop := l.length = n ∧ Reads w B 1 A n (ucells l) ∧ ∀ x ∈ l, x < 4294967296
theorem RB.on {w w' : World} {n : Nat} {A : Option Addr} {l : List Nat} (h : RB w w.heap.size A n l) (g : Below w.heap.size w w') : RB w' w'.heap.size A n l := ⟨h.1, reads_on h.2.1 g, h.2.2⟩
theorem RL.on {w w' : World} {n : Nat} {A : Option Addr} {l : List Bool} (h : RL w w.heap.size A n l) (g : Below w.heap.size w w') : RL w' w'.heap.size A n l := ⟨h.1, reads_on h.2 g⟩
theorem RU.on {w w' : World} {n : Nat} {A : Option Addr} {l : List Nat} (h : RU w w.heap.size A n l) (g : Below w.heap.size w w') : RU w' w'.heap.size A n l := ⟨h.1, reads_on h.2.1 g, h.2.2⟩
theorem RB.nil (w : World) (B : Nat) (A : Option Addr) : RB w B A 0 [] := ⟨rfl, Reads.none_, fun x hx => by simp at hx⟩
theorem RL.nil (w : World) (B : Nat) (A : Option Addr) : RL w B A 0 [] := ⟨rfl, Reads.none_⟩
theorem RB.at {w : World} {B n : Nat} {A : Option Addr} {l : List Nat} (h : RB w B A n l) {k : Nat} (hk : k < l.length) : ∃ b o, A = some ⟨b, o, none⟩ ∧ b < B ∧ w.cell? ⟨b, o + k, none⟩ = some (.int .u8 (l[k] : Int)) ∧ l[k] < 256 := by
  obtain ⟨b, o, rfl, hb, hc⟩ := h.2.1.2 (by have := h.1; omega)
  exact ⟨b, o, rfl, hb, hc k _ (by unfold ycells; rw [List.getElem?_map, List.getElem?_eq_getElem hk]; rfl), h.2.2 _ (List.getElem_mem hk)⟩
theorem RU.at {w : World} {B n : Nat} {A : Option Addr} {l : List Nat} (h : RU w B A n l) {k : Nat} (hk : k < l.length) : ∃ b o, A = some ⟨b, o, none⟩ ∧ b < B ∧ w.cell? ⟨b, o + k, none⟩ = some (.int .u32 (l[k] : Int)) ∧ l[k] < 4294967296 := by
  obtain ⟨b, o, rfl, hb, hc⟩ := h.2.1.2 (by have := h.1; omega)
  exact ⟨b, o, rfl, hb, hc k _ (by unfold ucells; rw [List.getElem?_map, List.getElem?_eq_getElem hk]; rfl), h.2.2 _ (List.getElem_mem hk)⟩
theorem RL.at {w : World} {B n : Nat} {A : Option Addr} {l : List Bool} (h : RL w B A n l) {k : Nat} (hk : k < l.length) : ∃ b o, A = some ⟨b, o, none⟩ ∧ b < B ∧ w.cell? ⟨b, o + k, none⟩ = some (.bool l[k]) := by
  obtain ⟨b, o, rfl, hb, hc⟩ := h.2.2 (by have := h.1; omega)
  exact ⟨b, o, rfl, hb, hc k _ (by unfold bcells; rw [List.getElem?_map, List.getElem?_eq_getElem hk]; rfl)⟩
/-- The first k of a row. -/
theorem RB.take {w : World} {B n : Nat} {A : Option Addr} {l : List Nat} (h : RB w B A n l) {k : Nat} (hk : k ≤ n) : RB w B A k (l.take k) := by
  refine ⟨by rw [List.length_take, h.1]; omega, ⟨by rw [ycells_len, List.length_take, h.1]; omega, fun hp => ?_⟩, fun x hx => h.2.2 x (List.mem_of_mem_take hx)⟩
  obtain ⟨b, o, e, hb, hc⟩ := h.2.1.2 (by omega)
  refine ⟨b, o, e, hb, fun j u hu => hc j u ?_⟩
  have hj : j < k := by
    have := (List.getElem?_eq_some_iff.1 hu).1
    rw [ycells_len, List.length_take] at this
    omega
  rw [← hu]
  unfold ycells
  rw [List.getElem?_map, List.getElem?_map, List.getElem?_take_of_lt hj]

theorem info5 : (Tryd.prog.info? 5).map (fun i => (i.zero, i.size, i.bytes)) = some (some (.int .u8 0), 1, 1) := by kernel_rfl
theorem info4 : (Tryd.prog.info? 4).map (fun i => (i.zero, i.size, i.bytes)) = some (some (.bool false), 1, 1) := by kernel_rfl
theorem info_parts {P : Program} {t : TypeId} {z : Option Value} {n b : Nat} (h : (P.info? t).map (fun i => (i.zero, i.size, i.bytes)) = some (z, n, b)) : ∃ i, P.info? t = some i ∧ i.zero = z ∧ i.size = n ∧ i.bytes = b := by
  obtain ⟨i, hi, he⟩ := Option.map_eq_some_iff.1 h
  simp only [Prod.mk.injEq] at he
  exact ⟨i, hi, he.1, he.2.1, he.2.2⟩
theorem ret_bool {a b : Bool} (h : a = b) : Ending.returned (.bool a) = .returned (.bool b) := by rw [h]
/-- A new row of bytes, of bools. -/
def OutY (l : List Nat) (n : Nat) (w : World) (e : Ending) (w' : World) : Prop :=
  ∃ (A : Option Addr) (c : Nat), e = .returned (.slice A n c) ∧ l.length = n ∧ (∀ x ∈ l, x < 256) ∧ w'.ownsRow w.heap.size 5 1 (.slice A n c) n (ycells l) ∧ Below w.heap.size w w'
end Go.Proofs.YtbnconieedgcmaaDoor
