/- Words for the laws: rows that are written out; what the calls of the example answer. -/
import Derived.Test.YtaejfebpalmfmaaGet2
import Derived.Test.YtaejfebpalmfmaaRefGet
import Derived.Test.YtaejfebpalmfmaaPut
import Derived.Test.YtaejfebpalmfmaaRefUnbits
import Derived.Test.YtaejfebpalmfmaaBits
import Derived.Test.YtaejfebpalmfmaaKeep
import Derived.Test.YtaejfebpalmfmaaSum
namespace Go.Proofs.Ytaejfebpalmfmaa
open Go.RowKit Go.BigFrame
set_option linter.unusedVariables false
set_option maxRecDepth 4000
set_option linter.unusedSimpArgs false


theorem rb_lit (W : World) (a : Nat) (ha : a = W.heap.size) (l : List Nat) (k : Nat) (cells : Array Value) (hc : cells.toList = ycells l) (hk : l.length = k) (hk4 : k ≤ 1000) (hy : ∀ x ∈ l, x < 256) : RB (W.alloc (.cells cells 5)) (W.alloc (.cells cells 5)).heap.size (some ⟨a, 0, none⟩) k l := by
  subst ha
  have h := World.ownsRow_lit (e := 5) (size := 1) W cells k (Nat.le_refl _) (by unfold maxLen; omega) (by rw [← Array.length_toList, hc, ycells_len, hk, Nat.mul_one])
  rw [hc] at h
  exact own_RB h hy
theorem rl_lit (W : World) (a : Nat) (ha : a = W.heap.size) (l : List Bool) (k : Nat) (cells : Array Value) (hc : cells.toList = bcells l) (hk : l.length = k) (hk4 : k ≤ 1000) : RL (W.alloc (.cells cells 4)) (W.alloc (.cells cells 4)).heap.size (some ⟨a, 0, none⟩) k l := by
  subst ha
  have h := World.ownsRow_lit (e := 4) (size := 1) W cells k (Nat.le_refl _) (by unfold maxLen; omega) (by rw [← Array.length_toList, hc, bcells_len, hk, Nat.mul_one])
  rw [hc] at h
  exact own_RL h
/-- A new row of bytes, read. -/
def OutR (l : List Nat) (n : Nat) (w : World) (e : Ending) (w' : World) : Prop :=
  ∃ (A : Option Addr) (c : Nat), e = .returned (.slice A n c) ∧ RB w' w'.heap.size A n l ∧ Shp A n c ∧ Below w.heap.size w w'
theorem OutY.r {l : List Nat} {n : Nat} {w w' : World} {e : Ending} (h : OutY l n w e w') : OutR l n w e w' := by
  obtain ⟨A, c, he, _, hy, ho, hb⟩ := h
  exact ⟨A, c, he, own_RB ho hy, own_shp ho, hb⟩
theorem isBits_some (l : List Bool) : ∃ b, IsBits b l := by
  have key : ∀ k, k ≤ l.length → ∃ bs, BInv l k ((l.length + 7) / 8) bs := by
    intro k
    induction k with
    | zero => exact fun _ => ⟨_, binv_0 l _⟩
    | succ k ih =>
      intro hk
      obtain ⟨bs, h⟩ := ih (by omega)
      cases hx : l[k]
      · exact ⟨bs, binv_skip h (by omega) hx⟩
      · exact ⟨_, binv_set h (by omega) hx (by rw [h.1]; omega)⟩
  obtain ⟨bs, h⟩ := key l.length (Nat.le_refl _)
  exact ⟨bs, binv_all h rfl rfl⟩

end Go.Proofs.Ytaejfebpalmfmaa
