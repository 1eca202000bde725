/- Words for TableFirst: rows that are wrong in several ways. -/
import Derived.Test.YtkmkkbilnflpjaaDoorLawKit3
namespace Go.Proofs.YtkmkkbilnflpjaaDoor
open Go.RowKit Go.BigFrame
set_option linter.unusedVariables false
set_option linter.unusedSimpArgs false

theorem err_last (Z : List Nat) (h : 7 ≤ Z.length) (hm : Z.take 4 = markB) (w : Nat) (hw : w < 256) (hne : (sealB Z)[Z.length + 3]? ≠ some w) : errT ((sealB Z).set (Z.length + 3) w) = 23 := by
  have hsl := sealB_len Z
  have hll := lowB_len (sumL Z : Nat) 4
  have hlow := lowB_lt (sumL Z : Nat) 4
  have hq := (seal_sum Z).2
  have d0 : ((sealB Z).set (Z.length + 3) w).take 4 = markB := by
    rw [List.take_set_of_le (by omega)]
    unfold sealB
    rw [List.take_append_of_le_length (by omega), hm]
  have e1 : ((sealB Z).set (Z.length + 3) w).length - 4 = Z.length := by rw [List.length_set]; omega
  have d2 : ((sealB Z).set (Z.length + 3) w).take Z.length = Z := by
    rw [List.take_set_of_le (by omega), seal_take]
  have d1 : ((sealB Z).set (Z.length + 3) w).drop Z.length = (lowB (sumL Z : Nat) 4).set 3 w := by
    unfold sealB
    rw [List.set_append, if_neg (by omega), List.drop_left, show Z.length + 3 - Z.length = 3 by omega]
  have hne' : (lowB (sumL Z : Nat) 4)[3]? ≠ some w := by
    intro e
    apply hne
    unfold sealB
    rw [List.getElem?_append_right (by omega), show Z.length + 3 - Z.length = 3 by omega]
    exact e
  unfold errT
  rw [if_neg (by rw [List.length_set]; omega), if_neg (by rw [d0]; simp), if_pos]
  rw [e1, d1, d2]
  intro hs
  generalize lowB (sumL Z : Nat) 4 = L at *
  match L, hll with
  | [a, b, c, d], _ =>
    rw [← hq] at hs
    have hb := hlow b (by simp)
    have hc := hlow c (by simp)
    have hd := hlow d (by simp)
    exact hne' (congrArg some (numL_inj4 hs hb hc hw hb hc hd).2.2.2.symm)
theorem err_mark (L : List Nat) (h : 11 ≤ L.length) (hm : L.take 4 = markB) (i : Nat) (hi : i < 4) (w : Nat) (hne : markB[i]? ≠ some w) : errT (L.set i w) = 22 := by
  unfold errT
  rw [if_neg (by rw [List.length_set]; omega), if_pos]
  intro e
  apply hne
  have h1 : (L.set i w)[i]? = some w := List.getElem?_set_self (by omega)
  have h2 : ((L.set i w).take 4)[i]? = some w := by rw [List.getElem?_take_of_lt hi]; exact h1
  rw [e] at h2
  exact h2
/-- One more, in a byte. -/
def inc (x : Nat) : Nat := (x + 1) % 256
theorem inc_lt (x : Nat) : inc x < 256 := Nat.mod_lt _ (by decide)
theorem inc_ne {x : Nat} (h : x < 256) : inc x ≠ x := by unfold inc; omega
theorem inc_u8 (x : Nat) (h : x < 256) : ((x : Int) + 1) % 256 = ((inc x : Nat) : Int) := by unfold inc; omega
theorem or_u8b (x : Nat) (h : x < 256) : bits .or .u8 (x : Int) 128 = ((x ||| 128 : Nat) : Int) := u8_or_nat x 128 h (by decide)
theorem or_128 (x : Nat) : (x ||| 128).testBit 7 = true := by rw [Nat.testBit_or, show Nat.testBit 128 7 = true by decide, Bool.or_true]
theorem or_128_lt {x : Nat} (h : x < 256) : x ||| 128 < 256 := Nat.or_lt_two_pow (n := 8) h (by decide)
theorem and_u8 (x m : Nat) (hx : x < 256) (hm : m < 256) : bits .and .u8 (x : Int) (m : Int) = ((x &&& m : Nat) : Int) := u8_and_nat x m hx hm
theorem take_mark {t : Tb} {y : List Nat} : (bodyB t y).take 4 = markB := by
  have h := (head_of (t := t) (y := y) []).1
  rwa [List.append_nil] at h
theorem set_at {L : List Nat} {n i v : Nat} : (L.set i v).take n = (L.take n).set i v := List.take_set
theorem mark_at {L : List Nat} (hm : L.take 4 = markB) (i : Nat) (hi : i < 4) (h : i < L.length) : markB[i]? = some L[i] := by
  rw [← hm, List.getElem?_take_of_lt hi, List.getElem?_eq_getElem h]
theorem err_incm (L : List Nat) (h : 11 ≤ L.length) (hm : L.take 4 = markB) (i : Nat) (hi : i < 4) (hl : i < L.length) (hb : L[i] < 256) : errT (L.set i (inc L[i])) = 22 :=
  err_mark L h hm i hi _ (fun e => by rw [mark_at hm i hi hl] at e; exact inc_ne hb (Option.some.inj e).symm)
end Go.Proofs.YtkmkkbilnflpjaaDoor
