/- append onto an empty slice that has no room: whatever block it names. -/
import Derived.Test.YtbnconieedgcmaaDoorOwnL
import Derived.Test.YtbnconieedgcmaaDoorDec
import Derived.Deep.AppendSrc
import Derived.Deep.RegionHeld3
namespace Go.Proofs.YtbnconieedgcmaaDoor
open Go.RowKit Go.BigFrame
set_option linter.unusedVariables false
set_option maxRecDepth 4000
set_option linter.unusedSimpArgs false

/-- A row of the call's own, or an empty slice that may be anything. -/
def OwnZ (w : World) (base : Nat) (e : TypeId) (size : Nat) (A : Option Addr) (n c : Nat) (xs : List Value) : Prop := Shp A n c ∧ ((n = 0 ∧ xs = []) ∨ w.ownsRow base e size (.slice A n c) n xs)
theorem OwnZ.on {w w' : World} {base size n c : Nat} {e : TypeId} {A : Option Addr} {xs : List Value} (h : OwnZ w base e size A n c xs) (g : Below w.heap.size w w') : OwnZ w' base e size A n c xs := ⟨h.1, h.2.imp id fun h => own_below h g⟩
theorem OwnZ.alloc {w : World} {base size n c : Nat} {e : TypeId} {A : Option Addr} {xs : List Value} {o : Obj} (h : OwnZ w base e size A n c xs) : OwnZ (w.alloc o) base e size A n c xs := h.on (below_new _ _)
theorem OwnZ.lower {w : World} {base base' size n c : Nat} {e : TypeId} {A : Option Addr} {xs : List Value} (h : OwnZ w base e size A n c xs) (hb : base' ≤ base) : OwnZ w base' e size A n c xs := ⟨h.1, h.2.imp id fun h => own_base h hb⟩
theorem OwnZ.store {w W : World} {base g size n c : Nat} {e : TypeId} {A : Option Addr} {xs : List Value} (h : OwnZ w base e size A n c xs) (hg : g < base) (ho : ∀ (base : Nat) (e : TypeId) (size : Nat) (v : Value) (n : Nat) (xs : List Value), g < base → w.ownsRow base e size v n xs → W.ownsRow base e size v n xs) : OwnZ W base e size A n c xs := ⟨h.1, h.2.imp id fun h => ho _ _ _ _ _ _ hg h⟩
theorem OwnZ.reads {w : World} {base size n c : Nat} {e : TypeId} {A : Option Addr} {xs : List Value} (h : OwnZ w base e size A n c xs) : Reads w w.heap.size size A n xs := by
  rcases h.2 with ⟨rfl, rfl⟩ | h
  · exact ⟨by simp, fun h => by omega⟩
  · exact Reads.of_own h
theorem OwnI.lower {w : World} {base base' z c : Nat} {A : Option Addr} {H : List Hi} (h : OwnI w base A z c H) (hb : base' ≤ base) : OwnI w base' A z c H := ⟨h.len, own_base h.out hb, fun x hx => ⟨(h.inn x hx).1, own_base (h.inn x hx).2 hb⟩⟩
theorem OwnI.alloc {w : World} {base z c : Nat} {A : Option Addr} {H : List Hi} {o : Obj} (h : OwnI w base A z c H) : OwnI (w.alloc o) base A z c H := h.on (below_new _ _)
theorem src_reads {P : Program} {w : World} {B size m c : Nat} {t e : TypeId} {A : Option Addr} {news : List Value} (ht : P.underlying t = some (.slice e)) (hnil : A = none → c = 0) (hR : Reads w B size A m news) (h1 : ∀ u ∈ news, u.oneCell' = true) : Src P size t (.slice A m c) m news w := by
  cases A with
  | none =>
    obtain rfl := hnil rfl
    have hm : m = 0 := by
      rcases Nat.eq_zero_or_pos m with h | h
      · exact h
      · obtain ⟨_, _, h, _⟩ := hR.2 h; cases h
    subst hm
    have hne : news = [] := List.eq_nil_of_length_eq_zero (by have := hR.1; omega)
    subst hne
    exact Src.ofNil w ht 0
  | some ad =>
    refine Src.ofSlice w ht ad m c news hR.1 (fun j u hj => ?_) h1
    have hm : 0 < m := by
      have := (List.getElem?_eq_some_iff.1 hj).1
      rw [hR.1] at this
      rcases Nat.eq_zero_or_pos m with h | h
      · subst h; omega
      · exact h
    obtain ⟨b, o', he, _, hc⟩ := hR.2 hm
    injection he with he
    subst he
    have := hc j u hj
    by_cases h0 : j = 0
    · subst h0; simpa [Addr.add] using this
    · simpa [Addr.add, h0] using this
theorem run_append_bare {P : Program} {w : World} (t ty e : TypeId) (i : TypeInfo) (z : Value) (size bytes : Nat) (ht : P.underlying t = some (.slice e)) (hi : P.info? e = some i) (hz : i.zero = some z)
    (hsize : i.size = size) (hby : i.bytes = bytes) (hzs : z.cells.size = size) (g : Nat)
    (A : Option Addr) (m c B : Nat) (news : List Value) (hnil : A = none → c = 0) (hR : Reads w B size A m news) (h1 : ∀ u ∈ news, u.oneCell' = true)
    (h63 : m ≤ maxLen) (hbytes : m * bytes ≤ 140737488355328) :
    ∃ A' c' w', (Builtin.append_ #[t, t] ty #[.slice (some ⟨g, 0, none⟩) 0 0, .slice A m c]).run P w = .ok (.slice A' m c') w' ∧ OwnZ w' w.heap.size e size A' m c' news ∧ Below w.heap.size w w' := by
  subst hsize
  subst hby
  have hs := src_reads (size := i.size) ht hnil hR h1
  rcases Nat.eq_zero_or_pos m with hm | hm
  · subst hm
    have hne : news = [] := List.eq_nil_of_length_eq_zero (by have := hR.1; omega)
    subst hne
    have hr := run_append_room_src (P := P) w t t ty e i ht hi g 0 0 0 (.slice A 0 c) 0 [] hs (by omega) (fun j hj => by simp at hj) (fun j hj => by simp at hj)
    exact ⟨_, _, _, hr, ⟨⟨(fun h => by cases h), Nat.le_refl _, Nat.zero_le _⟩, .inl ⟨rfl, rfl⟩⟩, Below.refl _ _⟩
  · have hsmall : m ≤ 9223372036854775807 := by simp only [maxLen] at h63; omega
    have hr := run_append_grow_src (P := P) w t t ty e i z ht hi hz (some ⟨g, 0, none⟩) 0 0 [] (run_firstCells_some w.drew i.size 0 ⟨g, 0, none⟩ 0 0 [] (by simp) (fun j u hj => by simp at hj)) (.slice A m c) m news hs (by omega) (by omega) (growslice_fits (by omega) (by simpa using hbytes))
    simp only [Nat.zero_add, List.nil_append] at hr
    have hge := grownCap_ge w m 0 e
    have hcm : grownCap w m 0 e ≤ maxLen := grownCap_le_maxLen w m 0 e h63
    have hown : (w.drew.alloc (.cells (news.toArray ++ Builtin.zeroCells z.cells (grownCap w m 0 e - m)) e)).ownsRow w.heap.size e i.size (.slice (some ⟨w.heap.size, 0, none⟩) m (grownCap w m 0 e)) m news := by
      refine ⟨hR.1, .inr ⟨w.heap.size, _, _, rfl, Nat.le_refl _, heap_alloc_new w.drew _, hge, hcm, ?_, ?_⟩⟩
      · simp only [Array.size_append, List.size_toArray, size_zeroCells, hzs, hR.1, ← Nat.add_mul]
        congr 1
        omega
      · simp only [Array.toList_append]
        rw [← hR.1]
        exact List.take_left
    exact ⟨_, _, _, hr, ⟨own_shp hown, .inr hown⟩, (Below.drew (Below.refl _ _)).alloc (Nat.le_refl _) _⟩
theorem step_append_bare {P : Program} {w : World} {ops : Array Oper} {o : Oper} {a : Act} {K : Act → World → Prop} {Q : Exit → Act → World → Prop} {E : Prop} (hgd : o.guard = none) (s x : Operand) (t : TypeId)
    (ho : o.op = .call { callee := .builtin .append, args := #[s, x], argTypes := #[t, t] })
    (e : TypeId) (i : TypeInfo) (z : Value) (size bytes : Nat) (ht : P.underlying t = some (.slice e)) (hi : P.info? e = some i) (hz : i.zero = some z)
    (hsize : i.size = size) (hby : i.bytes = bytes) (hzs : z.cells.size = size) (g : Nat) (hs : a.eval s = .slice (some ⟨g, 0, none⟩) 0 0)
    (A : Option Addr) (m c B : Nat) (news : List Value) (hx : a.eval x = .slice A m c) (hnil : A = none → c = 0) (hR : Reads w B size A m news) (h1 : ∀ u ∈ news, u.oneCell' = true)
    (h63 : m ≤ maxLen) (hbytes : m * bytes ≤ 140737488355328)
    (h : ∀ A' c' w', OwnZ w' w.heap.size e size A' m c' news → Below w.heap.size w w' → K (a.put o.dst (.slice A' m c')) w') :
    if Region.wanted o (yielded ops a.tmps) = true then Oper.wp P o a w K Q else E := by
  have hw : Region.wanted o (yielded ops a.tmps) = true := by simp [Region.wanted, hgd]
  rw [if_pos hw]
  obtain ⟨A', c', w', hrun, h2, h4⟩ := run_append_bare (P := P) (w := w) t o.type e i z size bytes ht hi hz hsize hby hzs g A m c B news hnil hR h1 h63 hbytes
  unfold Oper.wp
  simp [execOp, ho, resolve, invoke, builtin, hs, hx, hrun, Result.andThen]
  exact h A' c' w' h2 h4
end Go.Proofs.YtbnconieedgcmaaDoor
