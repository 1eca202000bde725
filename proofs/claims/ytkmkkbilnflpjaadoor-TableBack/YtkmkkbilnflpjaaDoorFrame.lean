/- From the rows' readings of what came in to the words of the walks; the mark as the program's text lays it. -/
import Derived.Test.YtkmkkbilnflpjaaDoorCards
import Derived.Test.YtkmkkbilnflpjaaDoorTie
import Derived.Test.YtkmkkbilnflpjaaDoorWakes
import Derived.ProofKit
import Derived.OpenShut
import Derived.Deep.Slices
import Derived.Deep.DeepHandedRow
import Derived.Lib.LaidTab
import Derived.LaidMore
import Derived.ChangeOld
import Derived.Below
namespace Go.Proofs.YtkmkkbilnflpjaaDoor
open Go.ChangeShapes Go.WideShapes Go.ChangeAt Go.RowKit Go.Deep
set_option linter.unusedVariables false
set_option linter.unusedSimpArgs false
theorem laidOut : laidOutB Tryd.prog = true := by kernel_rfl
theorem own : ownKnob Tryd.prog.godebug = none := by kernel_rfl
theorem cells3 : Tryd.prog.cellsOf 3 = 1 := by kernel_rfl
theorem cells4 : Tryd.prog.cellsOf 4 = 1 := by kernel_rfl
theorem cells5 : Tryd.prog.cellsOf 5 = 1 := by kernel_rfl
theorem cells43 : Tryd.prog.cellsOf 43 = 1 := by kernel_rfl
theorem cells52 : Tryd.prog.cellsOf 52 = 2 := by kernel_rfl
theorem cells53 : Tryd.prog.cellsOf 53 = 1 := by kernel_rfl
theorem cells26 : Tryd.prog.cellsOf 26 = 4 := by kernel_rfl
theorem cells61 : Tryd.prog.cellsOf 61 = 4 := by kernel_rfl
theorem cells44 : Tryd.prog.cellsOf 44 = 2 := by kernel_rfl
theorem cells54 : Tryd.prog.cellsOf 54 = 2 := by kernel_rfl
theorem cells56 : Tryd.prog.cellsOf 56 = 3 := by kernel_rfl
theorem wf_u8 {r : Int} (h : (Lit.int .u8 r).wf = true) : 0 ≤ r ∧ r < (256 : Nat) := by
  simp [Lit.wf, IntKind.min, IntKind.max, IntKind.bits, IntKind.signed] at h; omega
theorem wf_u16 {r : Int} (h : (Lit.int .u16 r).wf = true) : 0 ≤ r ∧ r < (65536 : Nat) := by
  simp [Lit.wf, IntKind.min, IntKind.max, IntKind.bits, IntKind.signed] at h; omega
theorem wf_u32 {r : Int} (h : (Lit.int .u32 r).wf = true) : 0 ≤ r ∧ r < (4294967296 : Nat) := by
  simp [Lit.wf, IntKind.min, IntKind.max, IntKind.bits, IntKind.signed] at h; omega

/-- A slice of one-cell elements that came in. -/
theorem open_ones {H : Type} {enc : TypeId × Value → H} {w : World} {base : Nat} {held : Bool} {fuel : Nat} {t e : TypeId} {a : Option Addr} {len cap : Nat} {x : DataW H × List MemPlace} {α : Type} (dflt : α) (val : α → Value) (ok : α → Prop) (ht : Tryd.prog.underlying t = some (.slice e)) (hc1 : Tryd.prog.cellsOf e = 1)
    (hone : ∀ {n : Nat} {cs : List Value} {y : DataW H × List MemPlace}, DataW.trod enc Tryd.prog w base (fun _ => true) held n e cs = some y → ∃ v, cs = [val v] ∧ ok v)
    (h : DataW.trod enc Tryd.prog w base (fun _ => true) held fuel t [.slice a len cap] = some x) : ∃ l : List α, l.length = len ∧ Shp a len cap ∧ Reads w w.heap.size 1 a len (l.map val) ∧ ∀ v ∈ l, ok v := by
  rcases open_slice ht h with ⟨h0, _⟩ | ⟨ad, len', cap', m, n, D, Pl, hcs, hb, hl, hm, hmm, hx, hi⟩
  · simp at h0
    obtain ⟨rfl, rfl, rfl⟩ := h0
    exact ⟨[], rfl, ⟨fun _ => rfl, Nat.le_refl _, Nat.zero_le _⟩, ⟨rfl, fun h => absurd h (by omega)⟩, fun v hv => by simp at hv⟩
  · simp at hcs
    obtain ⟨rfl, rfl, rfl⟩ := hcs
    have hlm : len ≤ m := by rw [hmm]; simpa using hl
    have hr : ∀ i, i < len → ∃ r : α, w.cell? (ad.add i) = some (val r) ∧ ok r := by
      intro i hilt
      obtain ⟨cs', hc, htr⟩ := hi i (by omega)
      obtain ⟨r, rfl, hok⟩ := hone htr
      rw [hc1] at hc
      obtain ⟨_, _, hat⟩ := World.cells?_some hc
      refine ⟨r, ?_, hok⟩
      have := hat 0 (by omega)
      simpa [Addr.add] using this
    have hch : ∃ f : Nat → α, ∀ i, i < len → w.cell? (ad.add i) = some (val (f i)) ∧ ok (f i) :=
      ⟨fun i => if h : i < len then Classical.choose (hr i h) else dflt, fun i h => by
        simp only [dif_pos h]
        exact Classical.choose_spec (hr i h)⟩
    obtain ⟨f, hf⟩ := hch
    refine ⟨(List.range len).map f, by simp, ⟨fun h => (by cases h), hl, hm⟩, ⟨by simp, fun hn => ?_⟩, fun v hv => ?_⟩
    · obtain ⟨b, off, spot⟩ := ad
      have hspot : spot = none := by simpa [Addr.add] using World.cell?_spot (hf 0 hn).1
      subst hspot
      have hbl : b < w.heap.size := by
        have := World.block_lt_of_cell? _ _ (hf 0 hn).1
        simpa [Addr.add] using this
      refine ⟨b, off, rfl, hbl, fun j u hj => ?_⟩
      have hj' : j < len := by
        have := (List.getElem?_eq_some_iff.1 hj).1
        simpa using this
      have hfk := (hf j hj').1
      rw [Go.WideShapes.add_plain] at hfk
      rw [hfk, ← hj]
      simp [hj']
    · obtain ⟨i, hi, rfl⟩ := List.mem_map.1 hv
      exact (hf i (List.mem_range.1 hi)).2

set_option maxRecDepth 4000 in
theorem row52 {H : Type} {enc : TypeId × Value → H} {w : World} {base : Nat} {sp : Nat → Bool} {held : Bool} {fuel : Nat} {cs : List Value} {x : DataW H × List MemPlace}
    (h : DataW.trod enc Tryd.prog w base sp held fuel 52 cs = some x) : ∃ r : Rg, cs = rcell r := by
  obtain ⟨xs, n, _, rfl, hl, hlen, hf⟩ := DataW.trod_struct Tryd.underlying52 h
  rw [cells52] at hl
  match cs, hl with
  | [c0, c1], _ =>
    match xs, hlen with
    | [y0, y1], _ =>
      have f0 := hf 0 _ rfl
      have f1 := hf 1 _ rfl
      obtain ⟨n0, e0, _, _⟩ := DataW.trod_int Tryd.underlying3 (show DataW.trod enc Tryd.prog w base sp held n 3 [c0] = some y0 from f0)
      obtain ⟨n1, e1, _, _⟩ := DataW.trod_int Tryd.underlying3 (show DataW.trod enc Tryd.prog w base sp held n 3 [c1] = some y1 from f1)
      injection e0 with e0
      injection e1 with e1
      exact ⟨(n0, n1), by rw [e0, e1]; rfl⟩

/-- A slice of ranges that came in. -/
theorem open_bands {H : Type} {enc : TypeId × Value → H} {w : World} {base : Nat} {held : Bool} {fuel : Nat} {t : TypeId} {a : Option Addr} {len cap : Nat} {x : DataW H × List MemPlace} (ht : Tryd.prog.underlying t = some (.slice 52))
    (h : DataW.trod enc Tryd.prog w base (fun _ => true) held fuel t [.slice a len cap] = some x) : ∃ l : List Rg, l.length = len ∧ Shp a len cap ∧ Reads w w.heap.size 2 a len (rcells l) := by
  rcases open_slice ht h with ⟨h0, _⟩ | ⟨ad, len', cap', m, n, D, Pl, hcs, hb, hl, hm, hmm, hx, hi⟩
  · simp at h0
    obtain ⟨rfl, rfl, rfl⟩ := h0
    exact ⟨[], rfl, ⟨fun _ => rfl, Nat.le_refl _, Nat.zero_le _⟩, ⟨rfl, fun h => absurd h (by omega)⟩⟩
  · simp at hcs
    obtain ⟨rfl, rfl, rfl⟩ := hcs
    have hlm : len ≤ m := by rw [hmm]; simpa using hl
    have hr : ∀ i, i < len → ∃ r : Rg, w.cell? (ad.add (i * 2)) = some (.int .i64 r.1) ∧ w.cell? (ad.add (i * 2 + 1)) = some (.int .i64 r.2) := by
      intro i hilt
      obtain ⟨cs', hc, htr⟩ := hi i (by omega)
      obtain ⟨r, rfl⟩ := row52 htr
      rw [cells52] at hc
      obtain ⟨_, _, hat⟩ := World.cells?_some hc
      refine ⟨r, ?_, ?_⟩
      · have := hat 0 (by omega)
        simpa [Addr.add, rcell] using this
      · have := hat 1 (by omega)
        rw [Go.Deep.add_add] at this
        exact this
    have hch : ∃ f : Nat → Rg, ∀ i, i < len → w.cell? (ad.add (i * 2)) = some (.int .i64 (f i).1) ∧ w.cell? (ad.add (i * 2 + 1)) = some (.int .i64 (f i).2) :=
      ⟨fun i => if h : i < len then Classical.choose (hr i h) else (0, 0), fun i h => by
        simp only [dif_pos h]
        exact Classical.choose_spec (hr i h)⟩
    obtain ⟨f, hf⟩ := hch
    refine ⟨(List.range len).map f, by simp, ⟨fun h => (by cases h), hl, hm⟩, ⟨by rw [rcells_len]; simp, fun hn => ?_⟩⟩
    obtain ⟨b, off, spot⟩ := ad
    have hspot : spot = none := by simpa [Addr.add] using World.cell?_spot (hf 0 hn).1
    subst hspot
    have hbl : b < w.heap.size := by
      have := World.block_lt_of_cell? _ _ (hf 0 hn).1
      simpa [Addr.add] using this
    refine ⟨b, off, rfl, hbl, fun j u hj => ?_⟩
    have hj' : j < len * 2 := by
      have := (List.getElem?_eq_some_iff.1 hj).1
      rw [rcells_len] at this
      simpa using this
    have hk : j / 2 < ((List.range len).map f).length := by simp; omega
    obtain ⟨e0, e1⟩ := rcells_at ((List.range len).map f) (j / 2) hk
    have hfk := hf (j / 2) (by omega)
    rw [Go.WideShapes.add_plain, Go.WideShapes.add_plain] at hfk
    rcases Nat.mod_two_eq_zero_or_one j with e | e
    · have ej : j = j / 2 * 2 := by omega
      rw [ej] at hj ⊢
      rw [e0] at hj
      rw [hfk.1, ← Option.some.inj hj]
      simp
    · have ej : j = j / 2 * 2 + 1 := by omega
      rw [ej] at hj ⊢
      rw [e1] at hj
      rw [hfk.2, ← Option.some.inj hj]
      simp

section
variable {H : Type} {enc : TypeId × Value → H} {w : World} {base : Nat} {held : Bool} {fuel : Nat} {a : Option Addr} {len cap : Nat} {x : DataW H × List MemPlace}
theorem open_bytes (h : DataW.trod enc Tryd.prog w base (fun _ => true) held fuel 27 [.slice a len cap] = some x) : ∃ l : List Nat, l.length = len ∧ Shp a len cap ∧ RB w w.heap.size a len l := by
  obtain ⟨l, h1, h2, h3, h4⟩ := open_ones (α := Nat) 0 (fun x => .int .u8 (x : Int)) (· < 256) Tryd.underlying27 cells5 (fun {n cs y} h => by
    obtain ⟨r, rfl, _, hw⟩ := DataW.trod_int Tryd.underlying5 h
    obtain ⟨h0, h1⟩ := wf_u8 hw
    obtain ⟨k, rfl⟩ := Int.eq_ofNat_of_zero_le h0
    exact ⟨k, rfl, by omega⟩) h
  exact ⟨l, h1, h2, h1, h3, h4⟩
theorem open_bools (h : DataW.trod enc Tryd.prog w base (fun _ => true) held fuel 24 [.slice a len cap] = some x) : ∃ l : List Bool, l.length = len ∧ Shp a len cap ∧ RL w w.heap.size a len l := by
  obtain ⟨l, h1, h2, h3, _⟩ := open_ones (α := Bool) false Value.bool (fun _ => True) Tryd.underlying24 cells4 (fun {n cs y} h => by
    obtain ⟨r, rfl, _⟩ := DataW.trod_bool Tryd.underlying4 h
    exact ⟨r, rfl, trivial⟩) h
  exact ⟨l, h1, h2, h1, h3⟩
theorem open_row (h : DataW.trod enc Tryd.prog w base (fun _ => true) held fuel 53 [.slice a len cap] = some x) : ∃ l : List Int, Shp a len cap ∧ RI w w.heap.size a len l := by
  obtain ⟨l, h1, h2, h3, _⟩ := open_ones (α := Int) 0 (Value.int .i64) (fun _ => True) Tryd.underlying53 cells3 (fun {n cs y} h => by
    obtain ⟨r, rfl, _⟩ := DataW.trod_int Tryd.underlying3 h
    exact ⟨r, rfl, trivial⟩) h
  exact ⟨l, h2, h1, h3⟩
theorem open_hi {cs : List Value} (h : DataW.trod enc Tryd.prog w base (fun _ => true) held fuel 53 cs = some x) : ∃ d : Hi, cs = [d.v] ∧ d.ok w w.heap.size := by
  have key : ∀ a len cap, cs = [.slice a len cap] → ∃ d : Hi, cs = [d.v] ∧ d.ok w w.heap.size := by
    intro a len cap e
    subst e
    obtain ⟨l, h1, h2⟩ := open_row h
    exact ⟨⟨a, len, cap, l⟩, rfl, h2, h1⟩
  rcases open_slice Tryd.underlying53 h with ⟨h0, _⟩ | ⟨ad, len', cap', m, n, D, Pl, hcs, _⟩
  · exact key _ _ _ h0
  · exact key _ _ _ hcs
theorem open_rows (h : DataW.trod enc Tryd.prog w base (fun _ => true) held fuel 23 [.slice a len cap] = some x) : ∃ l : List Hi, Shp a len cap ∧ RN w w.heap.size a len l := by
  obtain ⟨l, h1, h2, h3, h4⟩ := open_ones (α := Hi) ⟨none, 0, 0, []⟩ Hi.v (fun d => d.ok w w.heap.size) Tryd.underlying23 cells53 (fun {n cs y} h => open_hi h) h
  exact ⟨l, h2, h1, h3, h4⟩
theorem slice_of {t e : TypeId} {c : Value} (ht : Tryd.prog.underlying t = some (.slice e)) (h : DataW.trod enc Tryd.prog w base (fun _ => true) held fuel t [c] = some x) : ∃ a len cap, c = .slice a len cap := by
  rcases open_slice ht h with ⟨h0, _⟩ | ⟨ad, len', cap', m, n, D, Pl, hcs, _⟩
  · injection h0 with h0; exact ⟨_, _, _, h0⟩
  · injection hcs with h0; exact ⟨_, _, _, h0⟩
end
set_option maxRecDepth 4000 in
theorem open_table {H : Type} {enc : TypeId × Value → H} {w : World} {base : Nat} {held : Bool} {fuel : Nat} {cs : List Value} {x : DataW H × List MemPlace}
    (h : DataW.trod enc Tryd.prog w base (fun _ => true) held fuel 26 cs = some x) : ∃ T : TV, cs = [.int .i64 T.cl, .slice T.a1 T.n1 T.c1, .slice T.a2 T.n2 T.c2, .slice T.a3 T.n3 T.c3] ∧ T.ok w := by
  obtain ⟨xs, n, _, rfl, hl, hlen, hf⟩ := DataW.trod_struct Tryd.underlying26 h
  rw [cells26] at hl
  match cs, hl with
  | [c0, c1, c2, c3], _ =>
    match xs, hlen with
    | [y0, y1, y2, y3], _ =>
      have f0 := hf 0 _ rfl
      have f1 := hf 1 _ rfl
      have f2 := hf 2 _ rfl
      have f3 := hf 3 _ rfl
      obtain ⟨n0, e0, _, _⟩ := DataW.trod_int Tryd.underlying3 (show DataW.trod enc Tryd.prog w base (fun _ => true) held n 3 [c0] = some y0 from f0)
      have g1 : DataW.trod enc Tryd.prog w base (fun _ => true) held n 22 [c1] = some y1 := f1
      have g2 : DataW.trod enc Tryd.prog w base (fun _ => true) held n 23 [c2] = some y2 := f2
      have g3 : DataW.trod enc Tryd.prog w base (fun _ => true) held n 24 [c3] = some y3 := f3
      injection e0 with e0
      subst e0
      obtain ⟨a1, n1, c1', rfl⟩ := slice_of Tryd.underlying22 g1
      obtain ⟨a2, n2, c2', rfl⟩ := slice_of Tryd.underlying23 g2
      obtain ⟨a3, n3, c3', rfl⟩ := slice_of Tryd.underlying24 g3
      obtain ⟨l1, h1, s1, r1⟩ := open_bands Tryd.underlying22 g1
      obtain ⟨l2, s2, r2⟩ := open_rows g2
      obtain ⟨l3, h3, s3, r3⟩ := open_bools g3
      exact ⟨⟨n0, a1, n1, c1', l1, a2, n2, c2', l2, a3, n3, c3', l3⟩, rfl, ⟨⟨h1, r1⟩, s1, r2, s2, r3, s3⟩⟩
theorem okWide_arr {w : World} {r : Reach} {b0 n : Nat} {t e : TypeId} {v : Value} (ht : Tryd.prog.underlying t = some (.array n e)) (h : Value.okWide Tryd.prog w r b0 t v) : ∃ cs : Array Value, v = .agg cs := by
  simp only [Value.okWide, ht] at h
  obtain ⟨cs, h1, _⟩ := h
  exact ⟨cs, h1⟩
theorem open_w2 {H : Type} {enc : TypeId × Value → H} {w : World} {base : Nat} {held : Bool} {fuel : Nat} {cs : List Value} {x : DataW H × List MemPlace} (h : DataW.trod enc Tryd.prog w base (fun _ => true) held fuel 44 cs = some x) : ∃ x0 x1 : Nat, cs = [.int .u16 (x0 : Int), .int .u16 (x1 : Int)] ∧ x0 < 65536 ∧ x1 < 65536 := by
  obtain ⟨ys, m, _, _, hl, hn, hi⟩ := DataW.trod_array Tryd.underlying44 h
  rw [cells44] at hl
  match cs, hl with
  | [c0, c1], _ =>
    match ys, hn with
    | [y0, y1], _ =>
    obtain ⟨n0, e0, _, w0⟩ := DataW.trod_int Tryd.underlying43 (show DataW.trod enc Tryd.prog w base (fun _ => true) held m 43 [c0] = some y0 by have := hi 0 (by decide); rwa [cells43] at this)
    injection e0 with e0
    obtain ⟨a0, b0⟩ := wf_u16 w0
    obtain ⟨k0, rfl⟩ := Int.eq_ofNat_of_zero_le a0
    obtain ⟨n1, e1, _, w1⟩ := DataW.trod_int Tryd.underlying43 (show DataW.trod enc Tryd.prog w base (fun _ => true) held m 43 [c1] = some y1 by have := hi 1 (by decide); rwa [cells43] at this)
    injection e1 with e1
    obtain ⟨a1, b1⟩ := wf_u16 w1
    obtain ⟨k1, rfl⟩ := Int.eq_ofNat_of_zero_le a1
    exact ⟨k0, k1, by rw [e0, e1], by omega, by omega⟩
theorem open_y2 {H : Type} {enc : TypeId × Value → H} {w : World} {base : Nat} {held : Bool} {fuel : Nat} {cs : List Value} {x : DataW H × List MemPlace} (h : DataW.trod enc Tryd.prog w base (fun _ => true) held fuel 54 cs = some x) : ∃ x0 x1 : Nat, cs = [.int .u8 (x0 : Int), .int .u8 (x1 : Int)] ∧ x0 < 256 ∧ x1 < 256 := by
  obtain ⟨ys, m, _, _, hl, hn, hi⟩ := DataW.trod_array Tryd.underlying54 h
  rw [cells54] at hl
  match cs, hl with
  | [c0, c1], _ =>
    match ys, hn with
    | [y0, y1], _ =>
    obtain ⟨n0, e0, _, w0⟩ := DataW.trod_int Tryd.underlying5 (show DataW.trod enc Tryd.prog w base (fun _ => true) held m 5 [c0] = some y0 by have := hi 0 (by decide); rwa [cells5] at this)
    injection e0 with e0
    obtain ⟨a0, b0⟩ := wf_u8 w0
    obtain ⟨k0, rfl⟩ := Int.eq_ofNat_of_zero_le a0
    obtain ⟨n1, e1, _, w1⟩ := DataW.trod_int Tryd.underlying5 (show DataW.trod enc Tryd.prog w base (fun _ => true) held m 5 [c1] = some y1 by have := hi 1 (by decide); rwa [cells5] at this)
    injection e1 with e1
    obtain ⟨a1, b1⟩ := wf_u8 w1
    obtain ⟨k1, rfl⟩ := Int.eq_ofNat_of_zero_le a1
    exact ⟨k0, k1, by rw [e0, e1], by omega, by omega⟩
theorem open_y3 {H : Type} {enc : TypeId × Value → H} {w : World} {base : Nat} {held : Bool} {fuel : Nat} {cs : List Value} {x : DataW H × List MemPlace} (h : DataW.trod enc Tryd.prog w base (fun _ => true) held fuel 56 cs = some x) : ∃ x0 x1 x2 : Nat, cs = [.int .u8 (x0 : Int), .int .u8 (x1 : Int), .int .u8 (x2 : Int)] ∧ x0 < 256 ∧ x1 < 256 ∧ x2 < 256 := by
  obtain ⟨ys, m, _, _, hl, hn, hi⟩ := DataW.trod_array Tryd.underlying56 h
  rw [cells56] at hl
  match cs, hl with
  | [c0, c1, c2], _ =>
    match ys, hn with
    | [y0, y1, y2], _ =>
    obtain ⟨n0, e0, _, w0⟩ := DataW.trod_int Tryd.underlying5 (show DataW.trod enc Tryd.prog w base (fun _ => true) held m 5 [c0] = some y0 by have := hi 0 (by decide); rwa [cells5] at this)
    injection e0 with e0
    obtain ⟨a0, b0⟩ := wf_u8 w0
    obtain ⟨k0, rfl⟩ := Int.eq_ofNat_of_zero_le a0
    obtain ⟨n1, e1, _, w1⟩ := DataW.trod_int Tryd.underlying5 (show DataW.trod enc Tryd.prog w base (fun _ => true) held m 5 [c1] = some y1 by have := hi 1 (by decide); rwa [cells5] at this)
    injection e1 with e1
    obtain ⟨a1, b1⟩ := wf_u8 w1
    obtain ⟨k1, rfl⟩ := Int.eq_ofNat_of_zero_le a1
    obtain ⟨n2, e2, _, w2⟩ := DataW.trod_int Tryd.underlying5 (show DataW.trod enc Tryd.prog w base (fun _ => true) held m 5 [c2] = some y2 by have := hi 2 (by decide); rwa [cells5] at this)
    injection e2 with e2
    obtain ⟨a2, b2⟩ := wf_u8 w2
    obtain ⟨k2, rfl⟩ := Int.eq_ofNat_of_zero_le a2
    exact ⟨k0, k1, k2, by rw [e0, e1, e2], by omega, by omega, by omega⟩
theorem gMark : Tryd.prog.globalNamed (Rows.tableCodesRow.named.headD default) = some 0 := by kernel_rfl
theorem gMarkType : (Tryd.prog.globals[0]?).map (·.type) = some 61 := by kernel_rfl
theorem mark_of_laid {W : World} (h : laidMetH Tryd.prog Rows.tableCodesRow.laid W) : Mark W := by
  rw [MakeChecks.laidMetH_plain _ _ _ (by kernel_rfl)] at h
  obtain ⟨ps, ⟨g, t, cs, fuel, p, q, hg, ht, hvar, hd, _, _⟩, _⟩ := h
  obtain rfl := Option.some.inj (gMark.symm.trans hg)
  obtain rfl := Option.some.inj (gMarkType.symm.trans ht)
  obtain ⟨xs, m, _, hx, hl, hn, hel⟩ := DataW.trod_array Tryd.underlying61 hd
  have h0 := hel 0 (by decide)
  have h1 := hel 1 (by decide)
  have h2 := hel 2 (by decide)
  have h3 := hel 3 (by decide)
  rw [cells5] at h0 h1 h2 h3
  rw [cells61] at hl
  have hcell := World.var?_cell hg hvar
  obtain ⟨l⟩ := cs
  match xs, hn with
  | [x0, x1, x2, x3], _ =>
    match l, hl with
    | [d0, d1, d2, d3], _ =>
      simp only [Prod.mk.injEq] at hx
      have hx1 := hx.1
      unfold Rows.laid_caesura_table_ours at hx1
      simp only [List.map_cons, List.map_nil, DataW.agg.injEq, List.cons.injEq, and_true] at hx1
      obtain ⟨a0, a1, a2, a3⟩ := hx1
      obtain ⟨n0, e0, g0, _⟩ := DataW.trod_int Tryd.underlying5 (show DataW.trod _ Tryd.prog W _ _ _ m 5 [d0] = some x0 from h0)
      obtain ⟨n1, e1, g1, _⟩ := DataW.trod_int Tryd.underlying5 (show DataW.trod _ Tryd.prog W _ _ _ m 5 [d1] = some x1 from h1)
      obtain ⟨n2, e2, g2, _⟩ := DataW.trod_int Tryd.underlying5 (show DataW.trod _ Tryd.prog W _ _ _ m 5 [d2] = some x2 from h2)
      obtain ⟨n3, e3, g3, _⟩ := DataW.trod_int Tryd.underlying5 (show DataW.trod _ Tryd.prog W _ _ _ m 5 [d3] = some x3 from h3)
      injection e0 with e0
      injection e1 with e1
      injection e2 with e2
      injection e3 with e3
      subst g0 g1 g2 g3 e0 e1 e2 e3
      simp only [DataW.lit.injEq, Lit.int.injEq, true_and] at a0 a1 a2 a3
      subst a0 a1 a2 a3
      have hz : 0 < W.heap.size := by
        rcases Nat.eq_zero_or_pos W.heap.size with hz | hz
        · have := hcell 0
          unfold World.cell? at this
          rw [Array.getElem?_eq_none (by omega)] at this
          simp at this
        · exact hz
      exact ⟨hz, by simpa using hcell 0, by simpa using hcell 1, by simpa using hcell 2, by simpa using hcell 3⟩

/-- A WORLD FOR THE WITNESS: the settled one, the mark (block 0) holding what its initialiser lays. -/
noncomputable def laidWorld (os : Os) : World :=
  { World.holding Tryd.prog os ⟨#[], #[], []⟩ with heap := (World.holding Tryd.prog os ⟨#[], #[], []⟩).heap.modify 0 fun
      | .cells _ t frozen => .cells #[.int .u8 66, .int .u8 82, .int .u8 75, .int .u8 49] t frozen
      | o => o }
end Go.Proofs.YtkmkkbilnflpjaaDoor
