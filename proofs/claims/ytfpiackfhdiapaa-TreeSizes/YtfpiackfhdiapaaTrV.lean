/- A tree's nodes copied, with numbers moved: what strings.Clone and moved of package tree return. -/
import Derived.Test.YtfpiackfhdiapaaTrG
import Derived.Shelf.Strconv.Clone
import Derived.OneCell
namespace Go.Proofs.Ytfpiackfhdiapaa.S
section
open Go.Shelf Go.RowKit
def clone_ren : Go.Shelf.Ren := ⟨fun | 316 => 48 | n => n, fun | 0 => 0 | 3 => 3 | 4 => 4 | 5 => 5 | 9 => 9 | 37 => 87 | 127 => 88 | n => n, fun n => n⟩
theorem clone_lays : Go.Proofs.LaysM.n316 Try.prog clone_ren := {
  mixed := by kernel_rfl
  f316 := Try.func48.trans (congrArg some (by kernel_rfl))
  t0 := Try.underlying0
  a0 := Try.isAgg0
  z0 := Try.sizeOf0
  v0 := Try.zeroValue0
  t3 := Try.underlying3
  a3 := Try.isAgg3
  z3 := Try.sizeOf3
  v3 := Try.zeroValue3
  t4 := Try.underlying4
  a4 := Try.isAgg4
  z4 := Try.sizeOf4
  v4 := Try.zeroValue4
  t5 := Try.underlying5
  a5 := Try.isAgg5
  z5 := Try.sizeOf5
  v5 := Try.zeroValue5
  t9 := Try.underlying9
  a9 := Try.isAgg9
  z9 := Try.sizeOf9
  v9 := Try.zeroValue9
  t37 := Try.underlying87
  a37 := Try.isAgg87
  z37 := Try.sizeOf87
  v37 := Try.zeroValue87
  t127 := Try.underlying88
  a127 := Try.isAgg88
  z127 := Try.sizeOf88
  v127 := Try.zeroValue88
  i0 := by kernel_rfl
  i3 := by kernel_rfl
  i4 := by kernel_rfl
  i5 := by kernel_rfl
  i9 := by kernel_rfl
  i37 := by kernel_rfl
  i127 := by kernel_rfl }
theorem slClone_any (s : ByteArray) (w : World) (h : s.size ≤ 281474976710656) : Calls Try.prog 48 #[.string s] w fun e w' => e = .returned (.string s) ∧ Below w.heap.size w w' :=
  Any.stringslite_Clone clone_lays s w h
theorem clone_any (s : ByteArray) (w : World) (h : s.size ≤ 281474976710656) : Calls Try.prog 40 #[.string s] w fun e w' => e = .returned (.string s) ∧ Below w.heap.size w w' := by
  have H := slClone_any s
  go_enter Try.func40, Try.ntmps40
  go_wp2_with fail
  refine (H w h).mono ?_
  rintro e w1 ⟨rfl, g⟩
  clear H
  go_wp2_with fail
  go_ret
  exact ⟨rfl, g⟩
end
open Go.RowKit Go.BigFrame
set_option linter.unusedVariables false
set_option linter.unusedSimpArgs false

theorem own_base {w : World} {base base' : Nat} {e : TypeId} {size n : Nat} {v : Value} {xs : List Value} (h : w.ownsRow base e size v n xs) (hb : base' ≤ base) : w.ownsRow base' e size v n xs :=
  ⟨h.1, h.2.imp id fun ⟨g, cap, cur, h1, h2, h3⟩ => ⟨g, cap, cur, h1, Nat.le_trans hb h2, h3⟩⟩
/-- Rows of two types lie apart. -/
theorem own_types {w : World} {base base' : Nat} {e e' : TypeId} {size size' n n' : Nat} {v v' : Value} {xs xs' : List Value} (h : w.ownsRow base e size v n xs) (h' : w.ownsRow base' e' size' v' n' xs') (hne : e ≠ e') {g : Nat} (hg : v.ownBlock = some g) : v'.ownBlock ≠ some g := by
  intro hg'
  rcases h.2 with ⟨rfl, _⟩ | ⟨a, c, cur, rfl, _, h3, _⟩
  · cases hg
  rcases h'.2 with ⟨rfl, _⟩ | ⟨a', c', cur', rfl, _, h3', _⟩
  · cases hg'
  cases hg
  cases hg'
  rw [h3] at h3'
  injection h3' with h3'
  injection h3' with _ h3'
  exact hne h3'
/-- A tree in memory of the call's own. -/
structure OwnTr (w : World) (base : Nat) (A : Option Addr) (n c : Nat) (L : List NV) : Prop where
  len : L.length = n
  out : w.ownsRow base 48 5 (.slice A n c) n (ncells L)
  inn : ∀ x ∈ L, x.s.length = x.n ∧ w.ownsRow base 54 2 (.slice x.A x.n x.c) x.n (rcells x.s)
theorem InOk.ok {w : World} {base : Nat} {x : NV} (h : x.s.length = x.n ∧ w.ownsRow base 54 2 (.slice x.A x.n x.c) x.n (rcells x.s)) : x.ok w w.heap.size := ⟨h.1, own_shp h.2, Reads.of_own h.2⟩
theorem OwnTr.rt {w : World} {base n c : Nat} {A : Option Addr} {L : List NV} (h : OwnTr w base A n c L) : RT w w.heap.size A n L := ⟨h.len, Reads.of_own h.out, fun x hx => InOk.ok (h.inn x hx)⟩
theorem OwnTr.shp {w : World} {base n c : Nat} {A : Option Addr} {L : List NV} (h : OwnTr w base A n c L) : Shp A n c := own_shp h.out
theorem OwnTr.on {w w' : World} {base n c : Nat} {A : Option Addr} {L : List NV} (h : OwnTr w base A n c L) (g : Below w.heap.size w w') : OwnTr w' base A n c L := ⟨h.len, own_below h.out g, fun x hx => ⟨(h.inn x hx).1, own_below (h.inn x hx).2 g⟩⟩
theorem OwnTr.lower {w : World} {base base' n c : Nat} {A : Option Addr} {L : List NV} (h : OwnTr w base A n c L) (hb : base' ≤ base) : OwnTr w base' A n c L := ⟨h.len, own_base h.out hb, fun x hx => ⟨(h.inn x hx).1, own_base (h.inn x hx).2 hb⟩⟩
theorem OwnTr.nil (w : World) (base : Nat) : OwnTr w base none 0 0 [] := ⟨rfl, World.ownsRow_nil w base _ 5, fun x h => by simp at h⟩
/-- A tree that is returned. -/
def OutTr (T : List Nd) (n : Nat) (w : World) (e : Ending) (w' : World) : Prop :=
  ∃ (A : Option Addr) (c : Nat) (L : List NV), e = .returned (.slice A n c) ∧ OwnTr w' w.heap.size A n c L ∧ nds L = T ∧ SmT L ∧ Below w.heap.size w w'

def zN : NV := ⟨0, 0, 0, none, 0, 0, [], noName⟩
def padN (L : List NV) (n : Nat) : List NV := L ++ List.replicate (n - L.length) zN
theorem padN_len {L : List NV} {n : Nat} (h : L.length ≤ n) : (padN L n).length = n := by simp [padN]; omega
theorem padN_full {L : List NV} {n : Nat} (h : L.length = n) : padN L n = L := by simp [padN, h]
theorem padN_set {L : List NV} {n k : Nat} {x : NV} (h : L.length = k) (hk : k < n) : (padN L n).set k x = padN (L ++ [x]) n := by
  unfold padN
  rw [List.set_append_right _ _ (by omega)]
  obtain ⟨m, hm⟩ : ∃ m, n - L.length = m + 1 := ⟨n - L.length - 1, by omega⟩
  rw [hm, show n - (L ++ [x]).length = m by simp; omega]
  simp [h, List.replicate_succ]
def set5 (l : List Value) (p : Nat) (v0 v1 v2 v3 v4 : Value) : List Value := ((((l.set p v0).set (p + 1) v1).set (p + 2) v2).set (p + 3) v3).set (p + 4) v4
theorem set5_right (a l : List Value) (p : Nat) (v0 v1 v2 v3 v4 : Value) (q : Nat) (h : q = a.length + p) : set5 (a ++ l) q v0 v1 v2 v3 v4 = a ++ set5 l p v0 v1 v2 v3 v4 := by
  subst h
  unfold set5
  rw [List.set_append_right _ _ (by omega), List.set_append_right _ _ (by omega), List.set_append_right _ _ (by omega), List.set_append_right _ _ (by omega), List.set_append_right _ _ (by omega)]
  rw [show a.length + p - a.length = p by omega, show a.length + p + 1 - a.length = p + 1 by omega, show a.length + p + 2 - a.length = p + 2 by omega, show a.length + p + 3 - a.length = p + 3 by omega, show a.length + p + 4 - a.length = p + 4 by omega]
theorem ncells_set (x : NV) : ∀ (M : List NV) (k : Nat), k < M.length → set5 (ncells M) (k * 5) (.int .i64 x.k) (.int .i64 x.a) (.int .i64 x.b) (.slice x.A x.n x.c) (.string x.m) = ncells (M.set k x)
  | [], k, h => by simp at h
  | p :: M, 0, h => by
    have e : ncells (p :: M) = ncell p ++ ncells M := by simp [ncells]
    rw [e]
    simp [set5, ncell, ncells]
  | p :: M, k + 1, h => by
    have e : ncells (p :: M) = ncell p ++ ncells M := by simp [ncells]
    rw [e, set5_right _ _ (k * 5) _ _ _ _ _ _ (by show (k + 1) * 5 = 5 + k * 5; omega), ncells_set x M k (by simpa using h)]
    simp [ncells]
theorem made5 (n cap : Nat) (h : n ≤ cap) : (madeCells #[Value.int .i64 0, .int .i64 0, .int .i64 0, .slice none 0 0, .string noName] (cap * 5)).toList.take (n * 5) = ncells (List.replicate n zN) := by
  apply List.ext_getElem?
  intro j
  by_cases hj : j < n * 5
  · rw [List.getElem?_take_of_lt hj]
    have hk : j / 5 < (List.replicate n zN).length := by simp; omega
    obtain ⟨e0, e1, e2, e3, e4⟩ := ncells_at (List.replicate n zN) (j / 5) hk
    simp only [List.getElem_replicate] at e0 e1 e2 e3 e4
    have hm : j % 5 < 5 := Nat.mod_lt _ (by omega)
    have hl : (madeCells #[Value.int .i64 0, .int .i64 0, .int .i64 0, .slice none 0 0, .string noName] (cap * 5)).toList[j]? = some (#[Value.int .i64 0, .int .i64 0, .int .i64 0, .slice none 0 0, .string noName][j % 5]!) := by
      simp only [madeCells, Array.toList_map, Array.toList_range, List.getElem?_map]
      rw [List.getElem?_range (by omega)]
      rfl
    rw [hl]
    generalize hq : j % 5 = q at hm
    have hj5 : j = j / 5 * 5 + q := by omega
    rw [hj5]
    match q, hm with
    | 0, _ => rw [show j / 5 * 5 + 0 = j / 5 * 5 from rfl] at *; exact e0.symm
    | 1, _ => exact e1.symm
    | 2, _ => exact e2.symm
    | 3, _ => exact e3.symm
    | 4, _ => exact e4.symm
  · rw [List.getElem?_eq_none (by simp; omega), List.getElem?_eq_none (by rw [ncells_len]; simp; omega)]
theorem info_node : (Try.prog.info? 48).map (fun i => (i.zero, i.size, i.bytes)) = some (some (.agg #[.int .i64 0, .int .i64 0, .int .i64 0, .slice none 0 0, .string noName]), 5, 64) := by kernel_rfl
theorem info_range : (Try.prog.info? 54).map (fun i => (i.zero, i.size, i.bytes)) = some (some (.agg #[.int .i64 0, .int .i64 0]), 2, 16) := by kernel_rfl
end Go.Proofs.Ytfpiackfhdiapaa.S
