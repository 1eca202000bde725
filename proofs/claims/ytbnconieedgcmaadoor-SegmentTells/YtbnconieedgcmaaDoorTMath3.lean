/- Plain mathematics of a table as bytes (for stage 6): rows that are sealed anew: cut, longer, with another count, with a bit beyond. No program. -/
import Derived.Test.YtbnconieedgcmaaDoorTMath2
namespace Go.Proofs.YtbnconieedgcmaaDoor

theorem getD_app {Z S : List Nat} (i : Nat) (h : i < Z.length) : (Z ++ S)[i]?.getD 0 = Z[i]?.getD 0 := by rw [List.getElem?_append_left h]
theorem drop_set_ge (l : List Nat) (i k v : Nat) (h : k ≤ i) : (l.set i v).drop k = (l.drop k).set (i - k) v := by
  rw [List.drop_set, if_neg (by omega)]
def CountsOk (Z : List Nat) : Prop := (1 ≤ Z[4]?.getD 0 ∧ Z[4]?.getD 0 ≤ 8) ∧ (1 ≤ Z[5]?.getD 0 ∧ Z[5]?.getD 0 ≤ 5) ∧ (1 ≤ Z[6]?.getD 0 ∧ Z[6]?.getD 0 ≤ 60) ∧ lenT (Z[4]?.getD 0) (Z[5]?.getD 0) (Z[6]?.getD 0) = Z.length + 4
open Classical in
/-- What Decode says of a row that is sealed by its sum. -/
theorem err_seal (Z : List Nat) (h : 7 ≤ Z.length) : errT (sealB Z) = (if Z.take 4 ≠ markB then 22 else if ¬ CountsOk Z then 24 else if unbR (Z.drop (7 + 4 * Z[6]?.getD 0 + Z[5]?.getD 0 * Z[4]?.getD 0)) (Z[5]?.getD 0 : Nat) = none then 25 else 0) := by
  have hsl := sealB_len Z
  have e1 : (sealB Z).length - 4 = Z.length := by omega
  have e2 : (sealB Z).take Z.length = Z := seal_take _
  obtain ⟨s1, s2⟩ := seal_sum Z
  have d4 : (sealB Z)[4]?.getD 0 = Z[4]?.getD 0 := getD_app 4 (by omega)
  have d5 : (sealB Z)[5]?.getD 0 = Z[5]?.getD 0 := getD_app 5 (by omega)
  have d6 : (sealB Z)[6]?.getD 0 = Z[6]?.getD 0 := getD_app 6 (by omega)
  have d0 : (sealB Z).take 4 = Z.take 4 := by unfold sealB; rw [List.take_append_of_le_length (by omega)]
  unfold errT
  rw [if_neg (by omega), d0, e1, s1, e2, if_neg (show ¬ (numL (lowB (sumL Z : Nat) 4) ≠ sumL Z) by rw [s2]; simp), d4, d5, d6, hsl]
  unfold CountsOk
  congr
theorem err_short {b : List Nat} (h : b.length < 11) : errT b = 21 := by unfold errT; rw [if_pos h]
section
variable {t : Tb} {y : List Nat}
theorem head_of (Z : List Nat) : (bodyB t y ++ Z).take 4 = markB ∧ (bodyB t y ++ Z)[4]?.getD 0 = t.cl.toNat ∧ (bodyB t y ++ Z)[5]?.getD 0 = t.nx.length ∧ (bodyB t y ++ Z)[6]?.getD 0 = t.bd.length := by
  obtain ⟨a, b, c, d, _⟩ := body_parts (t := t) (y := y) Z
  exact ⟨a, b, c, d⟩
/-- Cut, and sealed anew. -/
theorem err_cut (h : MayT t) (hy : IsBits y t.br) (k : Nat) (hk : k < (bodyB t y).length) : errT (sealB ((bodyB t y).take k)) = (if k < 7 then 21 else 24) := by
  have hl : ((bodyB t y).take k).length = k := by rw [List.length_take]; omega
  have hbl := body_len h hy
  by_cases h7 : k < 7
  · rw [if_pos h7]; exact err_short (by rw [sealB_len, hl]; omega)
  · rw [if_neg h7, err_seal _ (by omega)]
    obtain ⟨a, b, c, d⟩ := head_of (t := t) (y := y) []
    rw [List.append_nil] at a b c d
    have g : ∀ i, i < k → ((bodyB t y).take k)[i]?.getD 0 = (bodyB t y)[i]?.getD 0 := fun i hi => by rw [List.getElem?_take_of_lt hi]
    rw [if_neg (by rw [List.take_take, Nat.min_eq_left (by omega), a]; simp), if_pos]
    intro hc
    have := hc.2.2.2
    rw [g 4 (by omega), g 5 (by omega), g 6 (by omega), b, c, d, hl] at this
    unfold lenT at this
    rw [Nat.mul_comm t.nx.length] at this
    omega
/-- Longer, and sealed anew. -/
theorem err_long (h : MayT t) (hy : IsBits y t.br) (m : Nat) : errT (sealB (bodyB t y ++ [m])) = 24 := by
  have hbl := body_len h hy
  obtain ⟨a, b, c, d⟩ := head_of (t := t) (y := y) [m]
  have hl : (bodyB t y ++ [m]).length = (bodyB t y).length + 1 := by simp
  rw [err_seal _ (by omega), if_neg (by rw [a]; simp), if_pos]
  intro hc
  have := hc.2.2.2
  rw [b, c, d, hl] at this
  unfold lenT at this
  rw [Nat.mul_comm t.nx.length] at this
  omega
/-- More states than there may be, and sealed anew. -/
theorem err_states (Z : List Nat) (h : 7 ≤ Z.length) (hm : Z.take 4 = markB) (s : Nat) (hs : 6 ≤ s) : errT (sealB (Z.set 5 s)) = 24 := by
  rw [err_seal _ (by rw [List.length_set]; omega), if_neg (by rw [List.take_set_of_le (by decide), hm]; simp), if_pos]
  intro hc
  have := hc.2.1.2
  rw [List.getElem?_set_self (by omega), Option.getD_some] at this
  omega
/-- A bit beyond the states, and sealed anew. -/
theorem err_beyond (h : MayT t) (hy : IsBits y t.br) (hc : t.cl ≤ 8) (hn : t.nx.length ≤ 5) (hk : 1 ≤ t.bd.length) (hk2 : t.bd.length ≤ 60) (v : Nat) (hv : v.testBit 7 = true) : errT (sealB ((bodyB t y).set ((bodyB t y).length - 1) v)) = 25 := by
  have hbl := body_len h hy
  have hyl := hy.1
  have c1 := h.c1
  have n1 := h.n1
  have b1 := h.b1
  obtain ⟨a, b, c, d⟩ := head_of (t := t) (y := y) []
  rw [List.append_nil] at a b c d
  have g : ∀ i, i < 7 → ((bodyB t y).set ((bodyB t y).length - 1) v)[i]?.getD 0 = (bodyB t y)[i]?.getD 0 := fun i hi => by rw [List.getElem?_set_ne (by omega)]
  rw [err_seal _ (by rw [List.length_set]; omega), if_neg (by rw [List.take_set_of_le (by omega), a]; simp), if_neg, if_pos]
  · rw [g 4 (by decide), g 5 (by decide), g 6 (by decide), b, c, d, drop_set_ge _ _ _ _ (by rw [Nat.mul_comm t.nx.length]; omega), body_rest h]
    rw [unbR, if_neg]
    rintro ⟨_, _, _, h4⟩
    have := h4 7 (by rw [Int.toNat_natCast]; omega) (by rw [List.length_set]; omega)
    unfold bitY at this
    rw [show (7 / 8 : Nat) = 0 from rfl, show (7 % 8 : Nat) = 7 from rfl, show (bodyB t y).length - 1 - (7 + 4 * t.bd.length + t.nx.length * t.cl.toNat) = 0 by rw [Nat.mul_comm t.nx.length]; omega, List.getElem?_set_self (by omega), Option.getD_some, hv] at this
    cases this
  · intro hno
    apply hno
    unfold CountsOk
    rw [g 4 (by decide), g 5 (by decide), g 6 (by decide), b, c, d, List.length_set]
    refine ⟨⟨by omega, by omega⟩, ⟨by omega, by omega⟩, ⟨by omega, by omega⟩, ?_⟩
    unfold lenT
    rw [Nat.mul_comm t.nx.length]
    omega
end
end Go.Proofs.YtbnconieedgcmaaDoor
