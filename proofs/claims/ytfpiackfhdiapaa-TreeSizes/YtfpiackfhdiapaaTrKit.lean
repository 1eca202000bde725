/- Words for the laws of stage 11. -/
import Derived.Test.YtfpiackfhdiapaaTrE
import Derived.Test.YtfpiackfhdiapaaTrF
import Derived.Test.YtfpiackfhdiapaaTrN
namespace Go.Proofs.Ytfpiackfhdiapaa.S
open Go.RowKit Go.BigFrame
set_option linter.unusedVariables false
set_option linter.unusedSimpArgs false
def OutN (e : Ex) (w : World) (en : Ending) (w' : World) : Prop :=
  ∃ (A : Option Addr) (n c : Nat) (L : List NV), en = .returned (.tuple #[.slice A n c, .bool true]) ∧ n = sz e ∧ OwnTr w' w.heap.size A n c L ∧ nds L = flat e 0 ∧ SmT L ∧ Below w.heap.size w w'
theorem outN_of {T : Option (List Nd)} {e : Ex} (h : T = some (flat e 0)) {w w' : World} {en : Ending} (o : OutT2 T w en w') : OutN e w en w' := by
  obtain ⟨A, c, L, h1, h2, h3, h4, h5⟩ := outE_of h o
  exact ⟨A, sz e, c, L, h1, rfl, h2, h3, h4, h5⟩
theorem reads_pre {w : World} {B n k : Nat} {A : Option Addr} {l : List Int} (h : Reads w B 1 A n (icells l)) (hk : k ≤ n) : Reads w B 1 A k (icells (l.take k)) := by
  have hl := h.1
  simp [icells] at hl
  refine ⟨by simp [icells]; omega, fun hp => ?_⟩
  obtain ⟨b, o, e, hb, hc⟩ := h.2 (by omega)
  refine ⟨b, o, e, hb, fun j u hj => hc j u ?_⟩
  have hj' : j < k := by
    have := (List.getElem?_eq_some_iff.1 hj).1
    simp [icells] at this
    omega
  unfold icells at hj ⊢
  rw [List.getElem?_map] at hj ⊢
  rwa [List.getElem?_take_of_lt hj'] at hj
theorem reads_suf {w : World} {B n k b o : Nat} {l : List Int} (h : Reads w B 1 (some ⟨b, o, none⟩) n (icells l)) (hk : k ≤ n) : Reads w B 1 (some ⟨b, o + k, none⟩) (n - k) (icells (l.drop k)) := by
  have hl := h.1
  simp [icells] at hl
  refine ⟨by simp [icells]; omega, fun hp => ?_⟩
  obtain ⟨b', o', e, hb, hc⟩ := h.2 (by omega)
  injection e with e
  injection e with e1 e2
  subst e1 e2
  refine ⟨b, o + k, rfl, hb, fun j u hj => ?_⟩
  rw [Nat.add_assoc]
  refine hc (k + j) u ?_
  unfold icells at hj ⊢
  rw [List.getElem?_map] at hj ⊢
  rwa [List.getElem?_drop] at hj
theorem reads_zero (w : World) (B : Nat) (A : Option Addr) : Reads w B 1 A 0 (icells []) := ⟨rfl, fun h => by omega⟩
theorem reads_k0 {k : Nat} (h : k = 0) (w : World) (B : Nat) (A : Option Addr) (l : List Int) : Reads w B 1 A k (icells (l.take k)) := by subst h; exact reads_zero w B A
theorem reads_s0 {n k : Nat} {l : List Int} (h : n ≤ k) (hl : l.length = n) (w : World) (B : Nat) (A : Option Addr) : Reads w B 1 A (n - k) (icells (l.drop k)) := by
  rw [show n - k = 0 by omega, List.drop_eq_nil_of_le (by omega)]
  exact reads_zero w B A
end Go.Proofs.Ytfpiackfhdiapaa.S
