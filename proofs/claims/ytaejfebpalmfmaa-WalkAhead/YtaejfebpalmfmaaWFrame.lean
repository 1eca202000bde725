/- What came in, opened: two lists of numbers, two numbers of 32 bits. -/
import Derived.Test.YtaejfebpalmfmaaFrameW
import Derived.SizedLaws
namespace Go.Proofs.Ytaejfebpalmfmaa
open Go.ChangeShapes Go.WideShapes Go.ChangeAt Go.RowKit Go.Deep
set_option linter.unusedVariables false
set_option maxRecDepth 4000
set_option linter.unusedSimpArgs false
theorem cellsU32 : Try.prog.cellsOf 46 = 1 := by kernel_rfl
theorem cellsW2 : Try.prog.cellsOf 47 = 2 := by kernel_rfl
theorem cellsL2 : Try.prog.cellsOf 41 = 2 := by kernel_rfl
theorem open_w2 {H : Type} {enc : TypeId × Value → H} {w : World} {base : Nat} {held : Bool} {fuel : Nat} {cs : List Value} {x : DataW H × List MemPlace} (h : DataW.trod enc Try.prog w base (fun _ => true) held fuel 47 cs = some x) : ∃ x0 x1 : Nat, cs = [.int .u32 (x0 : Int), .int .u32 (x1 : Int)] ∧ x0 < 4294967296 ∧ x1 < 4294967296 := by
  obtain ⟨ys, m, _, _, hl, hn, hi⟩ := DataW.trod_array Try.underlying47 h
  rw [cellsW2] at hl
  match cs, hl with
  | [c0, c1], _ =>
    match ys, hn with
    | [y0, y1], _ =>
    obtain ⟨n0, e0, _, w0⟩ := DataW.trod_int Try.underlying46 (show DataW.trod enc Try.prog w base (fun _ => true) held m 46 [c0] = some y0 by have := hi 0 (by decide); rwa [cellsU32] at this)
    injection e0 with e0
    obtain ⟨a0, b0⟩ := wf_u32 w0
    obtain ⟨k0, rfl⟩ := Int.eq_ofNat_of_zero_le a0
    obtain ⟨n1, e1, _, w1⟩ := DataW.trod_int Try.underlying46 (show DataW.trod enc Try.prog w base (fun _ => true) held m 46 [c1] = some y1 by have := hi 1 (by decide); rwa [cellsU32] at this)
    injection e1 with e1
    obtain ⟨a1, b1⟩ := wf_u32 w1
    obtain ⟨k1, rfl⟩ := Int.eq_ofNat_of_zero_le a1
    exact ⟨k0, k1, by rw [e0, e1], by omega, by omega⟩
theorem open_l2 {H : Type} {enc : TypeId × Value → H} {w : World} {base : Nat} {held : Bool} {fuel : Nat} {cs : List Value} {x : DataW H × List MemPlace} (h : DataW.trod enc Try.prog w base (fun _ => true) held fuel 41 cs = some x) : ∃ x0 x1 : Hi, cs = [x0.v, x1.v] ∧ x0.ok w w.heap.size ∧ x1.ok w w.heap.size := by
  obtain ⟨ys, m, _, _, hl, hn, hi⟩ := DataW.trod_array Try.underlying41 h
  rw [cellsL2] at hl
  match cs, hl with
  | [c0, c1], _ =>
    match ys, hn with
    | [y0, y1], _ =>
    obtain ⟨d0, e0, o0⟩ := open_hi (show DataW.trod enc Try.prog w base (fun _ => true) held m 27 [c0] = some y0 by have := hi 0 (by decide); rwa [cells50] at this)
    injection e0 with e0
    obtain ⟨d1, e1, o1⟩ := open_hi (show DataW.trod enc Try.prog w base (fun _ => true) held m 27 [c1] = some y1 by have := hi 1 (by decide); rwa [cells50] at this)
    injection e1 with e1
    exact ⟨d0, d1, by rw [e0, e1], o0, o1⟩
theorem bytesOf3 : Try.prog.bytesOf 3 = 8 := by kernel_rfl
theorem reach_le : reachBytes ≤ 140737488355328 := by decide
theorem row_sized {H : Type} {enc : TypeId × Value → H} {w : World} {base : Nat} {held : Bool} {fuel : Nat} {a : Option Addr} {len cap : Nat} {x : DataW H × List MemPlace} (h : DataW.trod enc Try.prog w base (fun _ => true) held fuel 27 [.slice a len cap] = some x) (hz : (x.1.weights Try.prog 27).all (· ≤ reachBytes) = true) : len ≤ 17592186044416 := by
  rcases open_slice Try.underlying27 h with ⟨h0, _⟩ | ⟨ad, len', cap', m, n, D, Pl, hcs, hb, hl, hm, hmm, hx, hi⟩
  · simp at h0
    obtain ⟨rfl, rfl, rfl⟩ := h0
    omega
  · simp at hcs
    obtain ⟨rfl, rfl, rfl⟩ := hcs
    subst hx
    simp only [DataW.weights, Try.underlying27, List.all_cons, Bool.and_eq_true, List.length_map, List.length_range, bytesOf3] at hz
    have h1 := of_decide_eq_true hz.1
    have h2 := reach_le
    omega
theorem open_l2s {H : Type} {enc : TypeId × Value → H} {w : World} {base : Nat} {held : Bool} {fuel : Nat} {cs : List Value} {x : DataW H × List MemPlace} (h : DataW.trod enc Try.prog w base (fun _ => true) held fuel 41 cs = some x) (hz : (x.1.weights Try.prog 41).all (· ≤ reachBytes) = true) : ∃ x0 x1 : Hi, cs = [x0.v, x1.v] ∧ x0.ok w w.heap.size ∧ x1.ok w w.heap.size ∧ x0.n ≤ 17592186044416 ∧ x1.n ≤ 17592186044416 := by
  obtain ⟨ys, m, _, hx, hl, hn, hi⟩ := DataW.trod_array Try.underlying41 h
  rw [cellsL2] at hl
  match cs, hl with
  | [c0, c1], _ =>
    match ys, hn with
    | [y0, y1], _ =>
    have t0 := (show DataW.trod enc Try.prog w base (fun _ => true) held m 27 [c0] = some y0 by have := hi 0 (by decide); rwa [cells50] at this)
    have t1 := (show DataW.trod enc Try.prog w base (fun _ => true) held m 27 [c1] = some y1 by have := hi 1 (by decide); rwa [cells50] at this)
    subst hx
    simp only [List.map_cons, List.map_nil, DataW.weights, Try.underlying41, DataW.weightsAll, List.all_append, Bool.and_eq_true] at hz
    obtain ⟨d0, e0, o0⟩ := open_hi t0
    injection e0 with e0
    obtain ⟨d1, e1, o1⟩ := open_hi t1
    injection e1 with e1
    subst e0 e1
    exact ⟨d0, d1, rfl, o0, o1, row_sized t0 hz.1, row_sized t1 hz.2.1⟩
end Go.Proofs.Ytaejfebpalmfmaa
