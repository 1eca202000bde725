/- What is cut: words for it. -/
import Derived.Test.YtbnconieedgcmaaDoorGOf
namespace Go.Proofs.YtbnconieedgcmaaDoor
open Go.RowKit Go.BigFrame
open U (Tr tcells tcell tris Tab strOf)
set_option linter.unusedVariables false
set_option maxRecDepth 4000
set_option linter.unusedSimpArgs false

/-- A piece in a box of its own. -/
structure B3 (w : World) (g : Nat) (p : Tr) : Prop where
  c0 : w.cell? ⟨g, 0, none⟩ = some (.int .i64 p.v)
  c1 : w.cell? ⟨g, 1, none⟩ = some (.int .i64 p.a)
  c2 : w.cell? ⟨g, 2, none⟩ = some (.int .i64 p.n)
  f : ∀ k, w.frozen? ⟨g, k, none⟩ = false
theorem B3.below {w w' : World} {B g : Nat} {p : Tr} (h : B3 w g p) (hg : g < B) (b : Below B w w') : B3 w' g p :=
  ⟨(b.cell (p := ⟨g, 0, none⟩) hg).trans h.c0, (b.cell (p := ⟨g, 1, none⟩) hg).trans h.c1, (b.cell (p := ⟨g, 2, none⟩) hg).trans h.c2, fun k => (b.frozen (p := ⟨g, k, none⟩) hg).trans (h.f k)⟩
theorem b3_new (w : World) (x y z : Int) (t : TypeId) : B3 (w.alloc (.cells #[.int .i64 x, .int .i64 y, .int .i64 z] t)) w.heap.size ⟨x, y, z⟩ := ⟨by simp, by simp, by simp, fun k => World.frozen?_alloc_new _ _ _ k⟩
theorem b3_on {w : World} {g : Nat} {p : Tr} (h : B3 w g p) (o : Obj) : B3 (w.alloc o) g p := h.below (World.block_lt_of_cell? _ _ h.c0) (below_new w o)
theorem B3.set {w : World} {g : Nat} {p : Tr} (h : B3 w g p) (x y z : Int) : B3 (((w.setCell ⟨g, 0, none⟩ (.int .i64 x)).setCell ⟨g, 1, none⟩ (.int .i64 y)).setCell ⟨g, 2, none⟩ (.int .i64 z)) g ⟨x, y, z⟩ :=
  ⟨by simp [go_sem, h.c0, h.c1, h.c2], by simp [go_sem, h.c0, h.c1, h.c2], by simp [go_sem, h.c0, h.c1, h.c2], fun k => by rw [World.frozen?_setCell, World.frozen?_setCell, World.frozen?_setCell]; exact h.f k⟩
theorem far3 {w : World} {g k i : Nat} {u v0 v1 v2 : Value} (h : w.cell? ⟨k, i, none⟩ = some u) (hne : g ≠ k) : (((w.setCell ⟨g, 0, none⟩ v0).setCell ⟨g, 1, none⟩ v1).setCell ⟨g, 2, none⟩ v2).cell? ⟨k, i, none⟩ = some u := by
  rw [World.cell?_setCell_far _ _ _ _ hne, World.cell?_setCell_far _ _ _ _ hne, World.cell?_setCell_far _ _ _ _ hne]; exact h
theorem below3 {w0 w : World} {B g : Nat} {v0 v1 v2 : Value} (hb : Below B w0 w) (hBg : B ≤ g) : Below B w0 (((w.setCell ⟨g, 0, none⟩ v0).setCell ⟨g, 1, none⟩ v1).setCell ⟨g, 2, none⟩ v2) :=
  ((hb.setCell (p := ⟨g, 0, none⟩) hBg _).setCell (p := ⟨g, 1, none⟩) hBg _).setCell (p := ⟨g, 2, none⟩) hBg _
theorem own3 {w : World} {g base size n : Nat} {e : TypeId} {v v0 v1 v2 : Value} {xs : List Value} (h : g < base) (ho : w.ownsRow base e size v n xs) : (((w.setCell ⟨g, 0, none⟩ v0).setCell ⟨g, 1, none⟩ v1).setCell ⟨g, 2, none⟩ v2).ownsRow base e size v n xs :=
  ownsRow_setCell_below (ownsRow_setCell_below (ownsRow_setCell_below ho h _) h _) h _
theorem rp3 {w : World} {B g gR n : Nat} {v0 v1 v2 : Value} {R : List Tr} (h : RP w B (some ⟨gR, 0, none⟩) n R) (hne : g ≠ gR) : RP (((w.setCell ⟨g, 0, none⟩ v0).setCell ⟨g, 1, none⟩ v1).setCell ⟨g, 2, none⟩ v2) B (some ⟨gR, 0, none⟩) n R := by
  refine ⟨h.1, h.2.1, fun hn => ?_⟩
  obtain ⟨b, o, e, hb, hc⟩ := h.2.2 hn
  refine ⟨b, o, e, hb, fun j u hu => far3 (hc j u hu) ?_⟩
  injection e with e
  injection e with e1 e2
  omega
theorem RP.below {w w' : World} {B n : Nat} {A : Option Addr} {l : List Tr} (h : RP w B A n l) (g : Below B w w') : RP w' B A n l := ⟨h.1, h.2.below g⟩
def OutSs (r : Option (List (List UInt8))) (w : World) (e : Ending) (w' : World) : Prop := ∃ (A : Option Addr) (c : Nat), e = .returned (.tuple #[.slice A (r.getD []).length c, .bool r.isSome]) ∧ w'.ownsRow w.heap.size 9 1 (.slice A (r.getD []).length c) (r.getD []).length (scells (r.getD [])) ∧ Below w.heap.size w w'
theorem OutSs.no {r : Option (List (List UInt8))} {w w' : World} (h : r = none) (b : Below w.heap.size w w') : OutSs r w (.returned (.tuple #[.slice none 0 0, .bool false])) w' := by
  subst h
  exact ⟨none, 0, rfl, World.ownsRow_nil _ _ _ _, b⟩
theorem OutSs.of {r : Option (List (List UInt8))} {z : Nat} {w w' : World} {A : Option Addr} {c base : Nat} {l : List (List UInt8)} (h : r = some l) (hz : l.length = z) (ho : w'.ownsRow base 9 1 (.slice A z c) z (scells l)) (hb : w.heap.size ≤ base) (b : Below w.heap.size w w') : OutSs r w (.returned (.tuple #[.slice A z c, .bool true])) w' := by
  subst h hz
  exact ⟨A, c, rfl, ho.mono hb, b⟩
theorem extract_mid9 (s : ByteArray) (k m : Nat) : (s.extract k (k + m)).data.toList = (s.data.toList.drop k).take m := by
  simp [ByteArray.data_extract, List.take_drop]
theorem cut_str (s : ByteArray) (L : List UInt8) (hL : s.data.toList = L) (a b : Nat) (h : a ≤ b) : s.extract a b = strOf ((L.drop a).take (b - a)) := by
  have e : s.extract a b = strOf (s.extract a b).data.toList := (U.strOf_of _).symm
  rw [e]
  congr 1
  obtain ⟨m, rfl⟩ : ∃ m, b = a + m := ⟨b - a, by omega⟩
  rw [extract_mid9, hL]
  congr 1
  omega
theorem strOf_sz (s : ByteArray) (L : List UInt8) (hL : s.data.toList = L) : L.length = s.size := by rw [← hL]; exact Array.length_toList
/-- The places of what is cut. -/
def cutQ (t : Tb) (L : List UInt8) : List Nat := brN t L ++ [nP L]
theorem cutQ_at (t : Tb) (L : List UInt8) : (cutQ t L).map (atL L) = ofA t L ++ [L.length] := by unfold cutQ ofA; rw [List.map_append, List.map_singleton, atL_end]
theorem cutQ_le {t : Tb} {L : List UInt8} {q : Nat} (h : q ∈ cutQ t L) : q ≤ nP L := by
  rcases List.mem_append.1 h with h | h
  · exact brN_le h
  · simp at h; omega
theorem cutQ_sorted (t : Tb) (L : List UInt8) : (cutQ t L).Pairwise (· ≤ ·) := by
  unfold cutQ
  rw [List.pairwise_append]
  exact ⟨pairwise_le (brN_sorted t L), by simp, fun a ha b hb => by simp at hb; subst hb; exact brN_le ha⟩
theorem cutQ_next (t : Tb) (L : List UInt8) {j k : Nat} (hj : j < (cutQ t L).length) (hk : k < (cutQ t L).length) (h : j < k) : (cutQ t L)[j] ≤ (cutQ t L)[k] := List.pairwise_iff_getElem.1 (cutQ_sorted t L) j k hj hk h
theorem trAt_eq (L : List UInt8) {i q : Nat} (hi : i ≤ nP L) (hq : q ≤ nP L) : trAt L q = trAt L i ↔ atL L q = atL L i := by
  have hl := endE_len L
  rw [trAt_is L (by omega), trAt_is L (by omega)]
  exact endE_ne L (by omega) (by omega)
theorem drop_one {α : Type} {l : List α} {k : Nat} (h : k < l.length) : l.drop k = l[k] :: l.drop (k + 1) := List.drop_eq_getElem_cons h

end Go.Proofs.YtbnconieedgcmaaDoor
