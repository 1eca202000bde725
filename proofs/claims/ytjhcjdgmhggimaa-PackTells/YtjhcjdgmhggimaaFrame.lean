/- From the rows' readings of what came in to the words of the walks. -/
import Derived.Test.YtjhcjdgmhggimaaRows
import Derived.Test.YtjhcjdgmhggimaaWakes
import Derived.ProofKit
import Derived.OpenShut
import Derived.Deep.Slices
import Derived.Deep.DeepHandedRow
import Derived.ChangeOld
import Derived.Below
namespace Go.Proofs.Ytjhcjdgmhggimaa
open Go.ChangeShapes Go.WideShapes Go.ChangeAt Go.RowKit Go.Deep
set_option linter.unusedVariables false
theorem laidOut : laidOutB Try.prog = true := by kernel_rfl
theorem own : ownKnob Try.prog.godebug = none := by kernel_rfl
theorem cells3 : Try.prog.cellsOf 3 = 1 := by kernel_rfl
theorem cells4 : Try.prog.cellsOf 4 = 1 := by kernel_rfl
theorem cells5 : Try.prog.cellsOf 5 = 1 := by kernel_rfl
theorem cells35 : Try.prog.cellsOf 35 = 1 := by kernel_rfl
theorem cells23 : Try.prog.cellsOf 23 = 3 := by kernel_rfl
theorem cells40 : Try.prog.cellsOf 40 = 2 := by kernel_rfl
theorem wf_u8 {r : Int} (h : (Lit.int .u8 r).wf = true) : 0 ≤ r ∧ r < (256 : Nat) := by
  simp [Lit.wf, IntKind.min, IntKind.max, IntKind.bits, IntKind.signed] at h; omega
theorem wf_u16 {r : Int} (h : (Lit.int .u16 r).wf = true) : 0 ≤ r ∧ r < (65536 : Nat) := by
  simp [Lit.wf, IntKind.min, IntKind.max, IntKind.bits, IntKind.signed] at h; omega
theorem wf_u32 {r : Int} (h : (Lit.int .u32 r).wf = true) : 0 ≤ r ∧ r < (4294967296 : Nat) := by
  simp [Lit.wf, IntKind.min, IntKind.max, IntKind.bits, IntKind.signed] at h; omega

theorem own_byteC {w : World} {base g z c : Nat} {l : List Nat} (h : w.ownsRow base 5 1 (.slice (some ⟨g, 0, none⟩) z c) z (ycells l)) {k : Nat} (hk : k < l.length) : w.cell? ⟨g, k, none⟩ = some (.int .u8 (l[k] : Int)) := by
  have q := h.cellAt k (by have := h.1; rw [ycells_len] at this; omega)
  rwa [show (ycells l)[k]? = some (.int .u8 (l[k] : Int)) by unfold ycells; rw [List.getElem?_map, List.getElem?_eq_getElem hk]; rfl] at q
/-- A slice of one-cell elements that came in. -/
theorem open_ones {H : Type} {enc : TypeId × Value → H} {w : World} {base : Nat} {held : Bool} {fuel : Nat} {t e : TypeId} {a : Option Addr} {len cap : Nat} {x : DataW H × List MemPlace} {α : Type} (dflt : α) (val : α → Value) (ok : α → Prop) (ht : Try.prog.underlying t = some (.slice e)) (hc1 : Try.prog.cellsOf e = 1)
    (hone : ∀ {n : Nat} {cs : List Value} {y : DataW H × List MemPlace}, DataW.trod enc Try.prog w base (fun _ => true) held n e cs = some y → ∃ v, cs = [val v] ∧ ok v)
    (h : DataW.trod enc Try.prog w base (fun _ => true) held fuel t [.slice a len cap] = some x) : ∃ l : List α, l.length = len ∧ Shp a len cap ∧ Reads w w.heap.size 1 a len (l.map val) ∧ ∀ v ∈ l, ok v := by
  rcases open_slice ht h with ⟨h0, _⟩ | ⟨ad, len', cap', m, n, D, Pl, hcs, hb, hl, hm, hmm, hx, hi⟩
  · simp at h0
    obtain ⟨rfl, rfl, rfl⟩ := h0
    exact ⟨[], rfl, ⟨fun _ => rfl, Nat.le_refl _, Nat.zero_le _⟩, ⟨rfl, fun h => absurd h (by omega)⟩, fun v hv => by simp at hv⟩
  · simp at hcs
    obtain ⟨rfl, rfl, rfl⟩ := hcs
    have hlm : len ≤ m := by rw [hmm]; simpa using hl
    have hr : ∀ i, i < len → ∃ r : α, w.cell? (ad.add i) = some (val r) ∧ ok r := by
      intro i hilt
      obtain ⟨cs', hc, htr⟩ := hi i (by omega)
      obtain ⟨r, rfl, hok⟩ := hone htr
      rw [hc1] at hc
      obtain ⟨_, _, hat⟩ := World.cells?_some hc
      refine ⟨r, ?_, hok⟩
      have := hat 0 (by omega)
      simpa [Addr.add] using this
    have hch : ∃ f : Nat → α, ∀ i, i < len → w.cell? (ad.add i) = some (val (f i)) ∧ ok (f i) :=
      ⟨fun i => if h : i < len then Classical.choose (hr i h) else dflt, fun i h => by
        simp only [dif_pos h]
        exact Classical.choose_spec (hr i h)⟩
    obtain ⟨f, hf⟩ := hch
    refine ⟨(List.range len).map f, by simp, ⟨fun h => (by cases h), hl, hm⟩, ⟨by simp, fun hn => ?_⟩, fun v hv => ?_⟩
    · obtain ⟨b, off, spot⟩ := ad
      have hspot : spot = none := by simpa [Addr.add] using World.cell?_spot (hf 0 hn).1
      subst hspot
      have hbl : b < w.heap.size := by
        have := World.block_lt_of_cell? _ _ (hf 0 hn).1
        simpa [Addr.add] using this
      refine ⟨b, off, rfl, hbl, fun j u hj => ?_⟩
      have hj' : j < len := by
        have := (List.getElem?_eq_some_iff.1 hj).1
        simpa using this
      have hfk := (hf j hj').1
      rw [Go.WideShapes.add_plain] at hfk
      rw [hfk, ← hj]
      simp [hj']
    · obtain ⟨i, hi, rfl⟩ := List.mem_map.1 hv
      exact (hf i (List.mem_range.1 hi)).2

section
variable {H : Type} {enc : TypeId × Value → H} {w : World} {base : Nat} {held : Bool} {fuel : Nat} {a : Option Addr} {len cap : Nat} {x : DataW H × List MemPlace}
theorem open_bytes (h : DataW.trod enc Try.prog w base (fun _ => true) held fuel 22 [.slice a len cap] = some x) : ∃ l : List Nat, l.length = len ∧ Shp a len cap ∧ RB w w.heap.size a len l := by
  obtain ⟨l, h1, h2, h3, h4⟩ := open_ones (α := Nat) 0 (fun x => .int .u8 (x : Int)) (· < 256) Try.underlying22 cells5 (fun {n cs y} h => by
    obtain ⟨r, rfl, _, hw⟩ := DataW.trod_int Try.underlying5 h
    obtain ⟨h0, h1⟩ := wf_u8 hw
    obtain ⟨k, rfl⟩ := Int.eq_ofNat_of_zero_le h0
    exact ⟨k, rfl, by omega⟩) h
  exact ⟨l, h1, h2, h1, h3, h4⟩
theorem open_words (h : DataW.trod enc Try.prog w base (fun _ => true) held fuel 46 [.slice a len cap] = some x) : ∃ l : List Nat, l.length = len ∧ Shp a len cap ∧ RU w w.heap.size a len l := by
  obtain ⟨l, h1, h2, h3, h4⟩ := open_ones (α := Nat) 0 (fun x => .int .u32 (x : Int)) (· < 4294967296) Try.underlying46 cells35 (fun {n cs y} h => by
    obtain ⟨r, rfl, _, hw⟩ := DataW.trod_int Try.underlying35 h
    obtain ⟨h0, h1⟩ := wf_u32 hw
    obtain ⟨k, rfl⟩ := Int.eq_ofNat_of_zero_le h0
    exact ⟨k, rfl, by omega⟩) h
  exact ⟨l, h1, h2, h1, h3, h4⟩
theorem open_bools (h : DataW.trod enc Try.prog w base (fun _ => true) held fuel 24 [.slice a len cap] = some x) : ∃ l : List Bool, l.length = len ∧ Shp a len cap ∧ RL w w.heap.size a len l := by
  obtain ⟨l, h1, h2, h3, _⟩ := open_ones (α := Bool) false Value.bool (fun _ => True) Try.underlying24 cells4 (fun {n cs y} h => by
    obtain ⟨r, rfl, _⟩ := DataW.trod_bool Try.underlying4 h
    exact ⟨r, rfl, trivial⟩) h
  exact ⟨l, h1, h2, h1, h3⟩
theorem okWide_arr {r : Reach} {b0 n : Nat} {t e : TypeId} {v : Value} (ht : Try.prog.underlying t = some (.array n e)) (h : Value.okWide Try.prog w r b0 t v) : ∃ cs : Array Value, v = .agg cs := by
  simp only [Value.okWide, ht] at h
  obtain ⟨cs, h1, _⟩ := h
  exact ⟨cs, h1⟩
theorem open_arr3 {cs : List Value} (h : DataW.trod enc Try.prog w base (fun _ => true) held fuel 23 cs = some x) : ∃ p q r : Int, cs = [.int .i64 p, .int .i64 q, .int .i64 r] := by
  obtain ⟨xs, m, _, _, hl, hn, hi⟩ := DataW.trod_array Try.underlying23 h
  rw [cells23] at hl
  match cs, hl with
  | [c0, c1, c2], _ =>
    match xs, hn with
    | [y0, y1, y2], _ =>
    obtain ⟨n0, e0, _⟩ := DataW.trod_int Try.underlying3 (show DataW.trod enc Try.prog w base (fun _ => true) held m 3 [c0] = some y0 by have := hi 0 (by decide); rwa [cells3] at this)
    obtain ⟨n1, e1, _⟩ := DataW.trod_int Try.underlying3 (show DataW.trod enc Try.prog w base (fun _ => true) held m 3 [c1] = some y1 by have := hi 1 (by decide); rwa [cells3] at this)
    obtain ⟨n2, e2, _⟩ := DataW.trod_int Try.underlying3 (show DataW.trod enc Try.prog w base (fun _ => true) held m 3 [c2] = some y2 by have := hi 2 (by decide); rwa [cells3] at this)
    injection e0 with e0
    injection e1 with e1
    injection e2 with e2
    exact ⟨n0, n1, n2, by rw [e0, e1, e2]⟩
theorem open_arr2 {cs : List Value} (h : DataW.trod enc Try.prog w base (fun _ => true) held fuel 40 cs = some x) : ∃ p q : Nat, cs = [.int .u32 (p : Int), .int .u32 (q : Int)] ∧ p < 4294967296 ∧ q < 4294967296 := by
  obtain ⟨xs, m, _, _, hl, hn, hi⟩ := DataW.trod_array Try.underlying40 h
  rw [cells40] at hl
  match cs, hl with
  | [c0, c1], _ =>
    match xs, hn with
    | [y0, y1], _ =>
    obtain ⟨n0, e0, _, w0⟩ := DataW.trod_int Try.underlying35 (show DataW.trod enc Try.prog w base (fun _ => true) held m 35 [c0] = some y0 by have := hi 0 (by decide); rwa [cells35] at this)
    obtain ⟨n1, e1, _, w1⟩ := DataW.trod_int Try.underlying35 (show DataW.trod enc Try.prog w base (fun _ => true) held m 35 [c1] = some y1 by have := hi 1 (by decide); rwa [cells35] at this)
    injection e0 with e0
    injection e1 with e1
    obtain ⟨a0, b0⟩ := wf_u32 w0
    obtain ⟨a1, b1⟩ := wf_u32 w1
    obtain ⟨k0, rfl⟩ := Int.eq_ofNat_of_zero_le a0
    obtain ⟨k1, rfl⟩ := Int.eq_ofNat_of_zero_le a1
    exact ⟨k0, k1, by rw [e0, e1], by omega, by omega⟩
end
end Go.Proofs.Ytjhcjdgmhggimaa
