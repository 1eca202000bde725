/- What Bits and the document's Bits return. -/
import Derived.Test.YtaejfebpalmfmaaApp
import Derived.Test.YtaejfebpalmfmaaBit
import Derived.BigRegion
import Derived.Laws.MakeOwn
import Derived.Deep.RegionHeld3
namespace Go.Proofs.Ytaejfebpalmfmaa
open Go.RowKit Go.BigFrame
set_option linter.unusedVariables false
set_option linter.unusedSimpArgs false



theorem ycells_set (l : List Nat) (k y : Nat) : (ycells l).set k (.int .u8 (y : Int)) = ycells (l.set k y) := by
  unfold ycells; rw [List.map_set]
theorem ycells_rep (m : Nat) : (madeCells #[Value.int .u8 0] m).toList = ycells (List.replicate m 0) := by rw [toList_madeCells_one]; simp [ycells]
theorem own_byte {w : World} {base g z : Nat} {l : List Nat} (h : w.ownsRow base 5 1 (.slice (some ⟨g, 0, none⟩) z z) z (ycells l)) {k : Nat} (hk : k < l.length) : w.cell? ⟨g, k, none⟩ = some (.int .u8 (l[k] : Int)) := by
  have q := h.cellAt k (by have := h.1; rw [ycells_len] at this; omega)
  rwa [show (ycells l)[k]? = some (.int .u8 (l[k] : Int)) by unfold ycells; rw [List.getElem?_map, List.getElem?_eq_getElem hk]; rfl] at q
/-- The bits of the first k are laid. -/
def BInv (l : List Bool) (k m : Nat) (bs : List Nat) : Prop := bs.length = m ∧ (∀ x ∈ bs, x < 256) ∧ ∀ j, bitY bs j = ((l.take k)[j]?).getD false
theorem binv_0 (l : List Bool) (m : Nat) : BInv l 0 m (List.replicate m 0) := by
  refine ⟨by simp, fun x hx => by rw [List.eq_of_mem_replicate hx]; decide, fun j => ?_⟩
  unfold bitY
  rw [List.getElem?_replicate]
  split <;> simp
theorem take_getD (l : List Bool) (k j : Nat) (hk : k < l.length) : ((l.take (k + 1))[j]?).getD false = (((l.take k)[j]?).getD false || (decide (j = k) && l[k])) := by
  rw [List.take_succ_eq_append_getElem hk]
  rcases Nat.lt_trichotomy j k with h | h | h
  · rw [List.getElem?_append_left (by rw [List.length_take]; omega), decide_eq_false (by omega), Bool.false_and, Bool.or_false]
  · subst h
    rw [List.getElem?_append_right (by rw [List.length_take]; omega), List.length_take, Nat.min_eq_left (by omega), Nat.sub_self, decide_eq_true rfl, show (l.take j)[j]? = none from List.getElem?_eq_none (by rw [List.length_take]; omega)]
    simp
  · rw [List.getElem?_eq_none (by simp; omega), List.getElem?_eq_none (by rw [List.length_take]; omega), decide_eq_false (by omega)]; rfl
theorem binv_skip {l : List Bool} {k m : Nat} {bs : List Nat} (h : BInv l k m bs) (hk : k < l.length) (he : l[k] = false) : BInv l (k + 1) m bs :=
  ⟨h.1, h.2.1, fun j => by rw [take_getD l k j hk, he, Bool.and_false, Bool.or_false]; exact h.2.2 j⟩
theorem binv_set {l : List Bool} {k m : Nat} {bs : List Nat} (h : BInv l k m bs) (hk : k < l.length) (he : l[k] = true) (hb : k / 8 < bs.length) : BInv l (k + 1) m (bs.set (k / 8) (bs[k / 8] ||| 2 ^ (k % 8))) :=
  ⟨by rw [List.length_set]; exact h.1, set_lt h.2.1 _ _ (set_or_lt (h.2.1 _ (List.getElem_mem hb))), fun j => by rw [take_getD l k j hk, he, Bool.and_true, bitY_set bs k j hb, h.2.2 j]⟩
theorem binv_all {l : List Bool} {n m : Nat} {bs : List Nat} (h : BInv l n m bs) (hl : l.length = n) (hm : (n + 7) / 8 = m) : IsBits bs l :=
  ⟨by rw [h.1, hl, hm], h.2.1, fun j => by rw [h.2.2 j, List.take_of_length_le (by omega)]⟩

theorem or_u8 (x r : Nat) (hx : x < 256) (hr : r < 8) : bits .or .u8 (x : Int) (2 ^ r % 256) = ((x ||| 2 ^ r : Nat) : Int) := by
  have hp : 2 ^ r < 256 := Nat.pow_lt_pow_right (a := 2) (by decide) hr
  have h := u8_or_nat x (2 ^ r) hx hp
  have e : (2 : Int) ^ r = ((2 ^ r : Nat) : Int) := by rw [Int.natCast_pow]; rfl
  have e2 : ((2 ^ r : Nat) : Int) % 256 = ((2 ^ r : Nat) : Int) := Int.emod_eq_of_lt (Int.natCast_nonneg _) (Int.ofNat_lt.2 hp)
  rw [← h, e, e2]
end Go.Proofs.Ytaejfebpalmfmaa
