/- What Get returns. -/
import Derived.Test.YtbnconieedgcmaaDoorGet
import Derived.Laws.CopyOwn
import Derived.Deep.RegionLaw
namespace Go.Proofs.YtbnconieedgcmaaDoor
open Go.RowKit Go.BigFrame
set_option linter.unusedVariables false
set_option linter.unusedSimpArgs false


open Classical in
/-- What Get tells. -/
noncomputable def getR (l : List Nat) (at' size : Int) : Option Nat :=
  if 1 ≤ size ∧ size ≤ 4 ∧ 0 ≤ at' ∧ at' ≤ (l.length : Int) - size then some (numL ((l.drop at'.toNat).take size.toNat)) else none
def OutN (r : Option Nat) (w : World) (e : Ending) (w' : World) : Prop := e = .returned (.tuple #[.int .i64 ((r.getD 0 : Nat) : Int), .bool r.isSome]) ∧ Below w.heap.size w w'
theorem getR_no {l : List Nat} {a s : Int} (h : ¬ (1 ≤ s ∧ s ≤ 4 ∧ 0 ≤ a ∧ a ≤ (l.length : Int) - s)) : getR l a s = none := by unfold getR; rw [if_neg h]
theorem getR_yes {l : List Nat} {a k : Nat} (h1 : 1 ≤ k) (h2 : k ≤ 4) (h : a + k ≤ l.length) : getR l a k = some (numL ((l.drop a).take k)) := by
  unfold getR; rw [if_pos (by omega), Int.toNat_natCast, Int.toNat_natCast]
theorem get_no (l : List Nat) (n : Nat) (A : Option Addr) (c : Nat) (a s : Int) (w : World) (hl : l.length = n) (hn : n ≤ 100000) (h : ¬ (1 ≤ s ∧ s ≤ 4 ∧ 0 ≤ a ∧ a ≤ (n : Int) - s)) :
    Calls Tryd.prog 100 #[.slice A n c, .int .i64 a, .int .i64 s] w (OutN none w) := by
  by_cases h1 : s < 1
  · clear h
    go_enter Tryd.func100, Tryd.ntmps100
    go_wp2_with fail
    go_ret2
    exact ⟨rfl, Below.refl _ _⟩
  by_cases h2 : 4 < s
  · clear h
    go_enter Tryd.func100, Tryd.ntmps100
    go_wp2_with fail
    go_ret2
    exact ⟨rfl, Below.refl _ _⟩
  by_cases h3 : a < 0
  · clear h
    go_enter Tryd.func100, Tryd.ntmps100
    go_wp2_with fail
    go_ret2
    exact ⟨rfl, Below.refl _ _⟩
  have h4 : (n : Int) - s < a := by omega
  clear h
  go_enter Tryd.func100, Tryd.ntmps100
  go_wp2_with fail
  go_ret2
  exact ⟨rfl, Below.refl _ _⟩
/-- Cells of a block: what a copy from place a on reads. -/
theorem RB.src {w : World} {B n a k : Nat} {A : Option Addr} {l : List Nat} (h : RB w B A n l) (hk : a + k ≤ n) (hp : 0 < k) : ∃ b o, A = some ⟨b, o, none⟩ ∧ b < B ∧ ∀ W : World, Below B w W → ∀ j v, (ycells ((l.drop a).take k))[j]? = some v → W.cell? ((⟨b, o + a, none⟩ : Addr).add j) = some v := by
  obtain ⟨b, o, rfl, hb, hc⟩ := h.2.1.2 (by omega)
  refine ⟨b, o, rfl, hb, fun W g j v hv => ?_⟩
  have e : (⟨b, o + a, none⟩ : Addr).add j = ⟨b, o + (a + j), none⟩ := by
    unfold Addr.add; split <;> simp_all [Nat.add_assoc]
  rw [e, g.cell (p := ⟨b, o + (a + j), none⟩) hb]
  refine hc (a + j) v ?_
  rw [← hv]
  unfold ycells
  have hj : j < k := by
    have := (List.getElem?_eq_some_iff.1 hv).1
    rw [ycells_len, List.length_take] at this
    omega
  rw [List.getElem?_map, List.getElem?_map, List.getElem?_take_of_lt hj, List.getElem?_drop]

end Go.Proofs.YtbnconieedgcmaaDoor
