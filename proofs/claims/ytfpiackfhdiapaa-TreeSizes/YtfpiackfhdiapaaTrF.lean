/- From the rows' readings of trees and of integers to the words of the walks. -/
import Derived.Test.YtfpiackfhdiapaaRows
import Derived.Test.YtfpiackfhdiapaaTrR
import Derived.ProofKit
import Derived.OpenShut
import Derived.Deep.Slices
import Derived.Deep.DeepHandedRow
import Derived.ChangeOld
import Derived.Below
namespace Go.Proofs.Ytfpiackfhdiapaa.S
open Go.ChangeShapes Go.WideShapes Go.ChangeAt Go.RowKit Go.Deep
set_option linter.unusedVariables false
set_option linter.unusedSimpArgs false
theorem laidOut : laidOutB Try.prog = true := by kernel_rfl
theorem own : ownKnob Try.prog.godebug = none := by kernel_rfl
theorem cells41 : Try.prog.cellsOf 54 = 2 := by kernel_rfl
theorem cells3 : Try.prog.cellsOf 3 = 1 := by kernel_rfl

set_option maxRecDepth 4000 in
theorem row41 {H : Type} {enc : TypeId × Value → H} {w : World} {base : Nat} {sp : Nat → Bool} {held : Bool} {fuel : Nat} {cs : List Value} {x : DataW H × List MemPlace}
    (h : DataW.trod enc Try.prog w base sp held fuel 54 cs = some x) : ∃ r : Rg, cs = rcell r := by
  obtain ⟨xs, n, _, rfl, hl, hlen, hf⟩ := DataW.trod_struct Try.underlying54 h
  rw [cells41] at hl
  match cs, hl with
  | [c0, c1], _ =>
    match xs, hlen with
    | [y0, y1], _ =>
      have f0 := hf 0 _ rfl
      have f1 := hf 1 _ rfl
      obtain ⟨n0, e0, _, _⟩ := DataW.trod_int Try.underlying3 (show DataW.trod enc Try.prog w base sp held n 3 [c0] = some y0 from f0)
      obtain ⟨n1, e1, _, _⟩ := DataW.trod_int Try.underlying3 (show DataW.trod enc Try.prog w base sp held n 3 [c1] = some y1 from f1)
      injection e0 with e0
      injection e1 with e1
      exact ⟨(n0, n1), by rw [e0, e1]; rfl⟩

/-- A slice of ranges that came in. -/
theorem open_set {H : Type} {enc : TypeId × Value → H} {w : World} {base : Nat} {held : Bool} {fuel : Nat} {t : TypeId} {a : Option Addr} {len cap : Nat} {x : DataW H × List MemPlace} (ht : Try.prog.underlying t = some (.slice 54))
    (h : DataW.trod enc Try.prog w base (fun _ => true) held fuel t [.slice a len cap] = some x) : ∃ l : List Rg, l.length = len ∧ Shp a len cap ∧ Reads w w.heap.size 2 a len (rcells l) := by
  rcases open_slice ht h with ⟨h0, _⟩ | ⟨ad, len', cap', m, n, D, Pl, hcs, hb, hl, hm, hmm, hx, hi⟩
  · simp at h0
    obtain ⟨rfl, rfl, rfl⟩ := h0
    exact ⟨[], rfl, ⟨fun _ => rfl, Nat.le_refl _, Nat.zero_le _⟩, ⟨rfl, fun h => absurd h (by omega)⟩⟩
  · simp at hcs
    obtain ⟨rfl, rfl, rfl⟩ := hcs
    have hlm : len ≤ m := by rw [hmm]; simpa using hl
    have hr : ∀ i, i < len → ∃ r : Rg, w.cell? (ad.add (i * 2)) = some (.int .i64 r.1) ∧ w.cell? (ad.add (i * 2 + 1)) = some (.int .i64 r.2) := by
      intro i hilt
      obtain ⟨cs', hc, htr⟩ := hi i (by omega)
      obtain ⟨r, rfl⟩ := row41 htr
      rw [cells41] at hc
      obtain ⟨_, _, hat⟩ := World.cells?_some hc
      refine ⟨r, ?_, ?_⟩
      · have := hat 0 (by omega)
        simpa [Addr.add, rcell] using this
      · have := hat 1 (by omega)
        rw [Go.Deep.add_add] at this
        exact this
    have hch : ∃ f : Nat → Rg, ∀ i, i < len → w.cell? (ad.add (i * 2)) = some (.int .i64 (f i).1) ∧ w.cell? (ad.add (i * 2 + 1)) = some (.int .i64 (f i).2) :=
      ⟨fun i => if h : i < len then Classical.choose (hr i h) else (0, 0), fun i h => by
        simp only [dif_pos h]
        exact Classical.choose_spec (hr i h)⟩
    obtain ⟨f, hf⟩ := hch
    refine ⟨(List.range len).map f, by simp, ⟨fun h => (by cases h), hl, hm⟩, ⟨by rw [rcells_len]; simp, fun hn => ?_⟩⟩
    obtain ⟨b, off, spot⟩ := ad
    have hspot : spot = none := by simpa [Addr.add] using World.cell?_spot (hf 0 hn).1
    subst hspot
    have hbl : b < w.heap.size := by
      have := World.block_lt_of_cell? _ _ (hf 0 hn).1
      simpa [Addr.add] using this
    refine ⟨b, off, rfl, hbl, fun j u hj => ?_⟩
    have hj' : j < len * 2 := by
      have := (List.getElem?_eq_some_iff.1 hj).1
      rw [rcells_len] at this
      simpa using this
    have hk : j / 2 < ((List.range len).map f).length := by simp; omega
    obtain ⟨e0, e1⟩ := rcells_at ((List.range len).map f) (j / 2) hk
    have hfk := hf (j / 2) (by omega)
    rw [Go.WideShapes.add_plain, Go.WideShapes.add_plain] at hfk
    rcases Nat.mod_two_eq_zero_or_one j with e | e
    · have ej : j = j / 2 * 2 := by omega
      rw [ej] at hj ⊢
      rw [e0] at hj
      rw [hfk.1, ← Option.some.inj hj]
      simp
    · have ej : j = j / 2 * 2 + 1 := by omega
      rw [ej] at hj ⊢
      rw [e1] at hj
      rw [hfk.2, ← Option.some.inj hj]
      simp

/-- A slice of integers that came in. -/
theorem open_row {H : Type} {enc : TypeId × Value → H} {w : World} {base : Nat} {held : Bool} {fuel : Nat} {t : TypeId} {a : Option Addr} {len cap : Nat} {x : DataW H × List MemPlace} (ht : Try.prog.underlying t = some (.slice 3))
    (h : DataW.trod enc Try.prog w base (fun _ => true) held fuel t [.slice a len cap] = some x) : ∃ l : List Int, l.length = len ∧ Shp a len cap ∧ Reads w w.heap.size 1 a len (icells l) := by
  rcases open_slice ht h with ⟨h0, _⟩ | ⟨ad, len', cap', m, n, D, Pl, hcs, hb, hl, hm, hmm, hx, hi⟩
  · simp at h0
    obtain ⟨rfl, rfl, rfl⟩ := h0
    exact ⟨[], rfl, ⟨fun _ => rfl, Nat.le_refl _, Nat.zero_le _⟩, ⟨rfl, fun h => absurd h (by omega)⟩⟩
  · simp at hcs
    obtain ⟨rfl, rfl, rfl⟩ := hcs
    have hlm : len ≤ m := by rw [hmm]; simpa using hl
    have hr : ∀ i, i < len → ∃ r : Int, w.cell? (ad.add i) = some (.int .i64 r) := by
      intro i hilt
      obtain ⟨cs', hc, htr⟩ := hi i (by omega)
      obtain ⟨r, rfl, _⟩ := DataW.trod_int Try.underlying3 htr
      rw [cells3] at hc
      obtain ⟨_, _, hat⟩ := World.cells?_some hc
      refine ⟨r, ?_⟩
      have := hat 0 (by omega)
      simpa [Addr.add] using this
    have hch : ∃ f : Nat → Int, ∀ i, i < len → w.cell? (ad.add i) = some (.int .i64 (f i)) :=
      ⟨fun i => if h : i < len then Classical.choose (hr i h) else 0, fun i h => by
        simp only [dif_pos h]
        exact Classical.choose_spec (hr i h)⟩
    obtain ⟨f, hf⟩ := hch
    refine ⟨(List.range len).map f, by simp, ⟨fun h => (by cases h), hl, hm⟩, ⟨by rw [icells_len]; simp, fun hn => ?_⟩⟩
    obtain ⟨b, off, spot⟩ := ad
    have hspot : spot = none := by simpa [Addr.add] using World.cell?_spot (hf 0 hn)
    subst hspot
    have hbl : b < w.heap.size := by
      have := World.block_lt_of_cell? _ _ (hf 0 hn)
      simpa [Addr.add] using this
    refine ⟨b, off, rfl, hbl, fun j u hj => ?_⟩
    have hj' : j < len := by
      have := (List.getElem?_eq_some_iff.1 hj).1
      rw [icells_len] at this
      simpa using this
    have hfk := hf j hj'
    rw [Go.WideShapes.add_plain] at hfk
    rw [hfk, ← hj]
    simp [icells, hj']

theorem cellsNode : Try.prog.cellsOf 48 = 5 := by kernel_rfl
theorem cellsSet : Try.prog.cellsOf 25 = 1 := by kernel_rfl
theorem cellsStr : Try.prog.cellsOf 9 = 1 := by kernel_rfl
theorem cellsInt : Try.prog.cellsOf 3 = 1 := by kernel_rfl
set_option maxRecDepth 8000 in
theorem open_node {H : Type} {enc : TypeId × Value → H} {w : World} {base : Nat} {held : Bool} {fuel : Nat} {cs : List Value} {x : DataW H × List MemPlace}
    (h : DataW.trod enc Try.prog w base (fun _ => true) held fuel 48 cs = some x) : ∃ y : NV, cs = ncell y ∧ y.ok w w.heap.size ∧ y.m.size ≤ maxLen := by
  obtain ⟨xs, n, _, rfl, hl, hlen, hf⟩ := DataW.trod_struct Try.underlying48 h
  rw [cellsNode] at hl
  match cs, hl with
  | [c0, c1, c2, c3, c4], _ =>
    match xs, hlen with
    | [y0, y1, y2, y3, y4], _ =>
      have f0 := hf 0 _ rfl
      have f1 := hf 1 _ rfl
      have f2 := hf 2 _ rfl
      have f3 := hf 3 _ rfl
      have f4 := hf 4 _ rfl
      obtain ⟨n0, e0, _, _⟩ := DataW.trod_int Try.underlying3 (show DataW.trod enc Try.prog w base (fun _ => true) held n 3 [c0] = some y0 from f0)
      obtain ⟨n1, e1, _, _⟩ := DataW.trod_int Try.underlying3 (show DataW.trod enc Try.prog w base (fun _ => true) held n 3 [c1] = some y1 from f1)
      obtain ⟨n2, e2, _, _⟩ := DataW.trod_int Try.underlying3 (show DataW.trod enc Try.prog w base (fun _ => true) held n 3 [c2] = some y2 from f2)
      have g3 : DataW.trod enc Try.prog w base (fun _ => true) held n 25 [c3] = some y3 := f3
      have g4 : DataW.trod enc Try.prog w base (fun _ => true) held n 9 [c4] = some y4 := f4
      obtain ⟨s4, h4, _, hs4⟩ := DataW.trod_string Try.underlying9 g4
      injection e0 with e0
      injection e1 with e1
      injection e2 with e2
      injection h4 with h4
      have key : ∃ a len cap, c3 = .slice a len cap := by
        rcases open_slice Try.underlying25 g3 with ⟨h0, _⟩ | ⟨ad, len', cap', m, n, D, Pl, hcs, _⟩
        · injection h0 with h0; exact ⟨none, 0, 0, h0⟩
        · injection hcs with hcs; exact ⟨_, _, _, hcs⟩
      obtain ⟨a, len, cap, rfl⟩ := key
      obtain ⟨l, k1, k2, k3⟩ := open_set Try.underlying25 g3
      exact ⟨⟨n0, n1, n2, a, len, cap, l, s4⟩, by rw [e0, e1, e2, h4]; rfl, ⟨k1, k2, k3⟩, hs4⟩
/-- A tree that came in. -/
theorem open_tree {H : Type} {enc : TypeId × Value → H} {w : World} {base : Nat} {held : Bool} {fuel : Nat} {a : Option Addr} {len cap : Nat} {x : DataW H × List MemPlace}
    (h : DataW.trod enc Try.prog w base (fun _ => true) held fuel 23 [.slice a len cap] = some x) : ∃ L : List NV, Shp a len cap ∧ RT w w.heap.size a len L ∧ ∀ y ∈ L, y.m.size ≤ maxLen := by
  rcases open_slice Try.underlying23 h with ⟨h0, _⟩ | ⟨ad, len', cap', m, n, D, Pl, hcs, hb, hl, hm, hmm, hx, hi⟩
  · simp at h0
    obtain ⟨rfl, rfl, rfl⟩ := h0
    exact ⟨[], ⟨fun _ => rfl, Nat.le_refl _, Nat.zero_le _⟩, RT.nil _ _, fun y hy => by simp at hy⟩
  · simp at hcs
    obtain ⟨rfl, rfl, rfl⟩ := hcs
    have hlm : len ≤ m := by rw [hmm]; simpa using hl
    have hr : ∀ i, i < len → ∃ y : NV, (∀ j u, (ncell y)[j]? = some u → w.cell? (ad.add (i * 5 + j)) = some u) ∧ y.ok w w.heap.size ∧ y.m.size ≤ maxLen := by
      intro i hilt
      obtain ⟨cs', hc, htr⟩ := hi i (by omega)
      obtain ⟨y, rfl, hok, hms⟩ := open_node htr
      rw [cellsNode] at hc
      obtain ⟨_, _, hat⟩ := World.cells?_some hc
      refine ⟨y, fun j u hu => ?_, hok, hms⟩
      have hj : j < 5 := (List.getElem?_eq_some_iff.1 hu).1
      have := hat j hj
      rw [Go.Deep.add_add] at this
      rw [this]
      exact hu
    have hch : ∃ f : Nat → NV, ∀ i, i < len → (∀ j u, (ncell (f i))[j]? = some u → w.cell? (ad.add (i * 5 + j)) = some u) ∧ (f i).ok w w.heap.size ∧ (f i).m.size ≤ maxLen :=
      ⟨fun i => if h : i < len then Classical.choose (hr i h) else zN, fun i h => by
        simp only [dif_pos h]
        exact Classical.choose_spec (hr i h)⟩
    obtain ⟨f, hf⟩ := hch
    refine ⟨(List.range len).map f, ⟨fun h => (by cases h), hl, hm⟩, ⟨by simp, ⟨by rw [ncells_len]; simp, fun hn => ?_⟩, fun y hy => ?_⟩, fun y hy => ?_⟩
    · obtain ⟨b, off, spot⟩ := ad
      have h00 := (hf 0 hn).1 0 _ rfl
      have hspot : spot = none := by simpa [Addr.add] using World.cell?_spot h00
      subst hspot
      have hbl : b < w.heap.size := by
        have := World.block_lt_of_cell? _ _ h00
        simpa [Addr.add] using this
      refine ⟨b, off, rfl, hbl, fun j u hj => ?_⟩
      have hj' : j < len * 5 := by
        have := (List.getElem?_eq_some_iff.1 hj).1
        rw [ncells_len] at this
        simpa using this
      have hk : j / 5 < ((List.range len).map f).length := by simp; omega
      obtain ⟨e0, e1, e2, e3, e4⟩ := ncells_at ((List.range len).map f) (j / 5) hk
      have hfk := (hf (j / 5) (by omega)).1
      simp only [List.getElem_map, List.getElem_range] at e0 e1 e2 e3 e4
      have hm5 : j % 5 < 5 := Nat.mod_lt _ (by omega)
      generalize hq : j % 5 = q at hm5
      have ej : j = j / 5 * 5 + q := by omega
      have hat : (ncell (f (j / 5)))[q]? = some u := by
        rw [ej] at hj
        match q, hm5 with
        | 0, _ => exact e0.symm.trans hj
        | 1, _ => exact e1.symm.trans hj
        | 2, _ => exact e2.symm.trans hj
        | 3, _ => exact e3.symm.trans hj
        | 4, _ => exact e4.symm.trans hj
      have h9 := hfk q u hat
      rw [Go.WideShapes.add_plain] at h9
      rw [← ej] at h9
      exact h9
    · obtain ⟨i, hi, rfl⟩ := List.mem_map.1 hy
      exact (hf i (List.mem_range.1 hi)).2.1
    · obtain ⟨i, hi, rfl⟩ := List.mem_map.1 hy
      exact (hf i (List.mem_range.1 hi)).2.2
end Go.Proofs.Ytfpiackfhdiapaa.S
