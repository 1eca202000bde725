/- What came in, opened: two lists of numbers, two numbers of 32 bits. -/
import Derived.Test.YtbnconieedgcmaaDoorFrameW
import Derived.SizedLaws
namespace Go.Proofs.YtbnconieedgcmaaDoor
open Go.ChangeShapes Go.WideShapes Go.ChangeAt Go.RowKit Go.Deep
set_option linter.unusedVariables false
set_option maxRecDepth 4000
set_option linter.unusedSimpArgs false
theorem cellsU32 : Tryd.prog.cellsOf 77 = 1 := by kernel_rfl
theorem bytesOf3 : Tryd.prog.bytesOf 3 = 8 := by kernel_rfl
theorem reach_le : reachBytes ≤ 140737488355328 := by decide
theorem row_sized {H : Type} {enc : TypeId × Value → H} {w : World} {base : Nat} {held : Bool} {fuel : Nat} {a : Option Addr} {len cap : Nat} {x : DataW H × List MemPlace} (h : DataW.trod enc Tryd.prog w base (fun _ => true) held fuel 49 [.slice a len cap] = some x) (hz : (x.1.weights Tryd.prog 49).all (· ≤ reachBytes) = true) : len ≤ 17592186044416 := by
  rcases open_slice Tryd.underlying49 h with ⟨h0, _⟩ | ⟨ad, len', cap', m, n, D, Pl, hcs, hb, hl, hm, hmm, hx, hi⟩
  · simp at h0
    obtain ⟨rfl, rfl, rfl⟩ := h0
    omega
  · simp at hcs
    obtain ⟨rfl, rfl, rfl⟩ := hcs
    subst hx
    simp only [DataW.weights, Tryd.underlying49, List.all_cons, Bool.and_eq_true, List.length_map, List.length_range, bytesOf3] at hz
    have h1 := of_decide_eq_true hz.1
    have h2 := reach_le
    omega
end Go.Proofs.YtbnconieedgcmaaDoor
