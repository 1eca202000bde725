/- Plain mathematics of bits and numbers, for the laws; calls in the words of the laws. -/
import Derived.Test.YtjhcjdgmhggimaaFrame
namespace Go.Proofs.Ytjhcjdgmhggimaa
open Go.RowKit Go.BigFrame
set_option linter.unusedVariables false
set_option linter.unusedSimpArgs false


theorem range_bits {b : List Nat} {l : List Bool} (h : IsBits b l) : (List.range l.length).map (bitY b) = l := by
  apply List.ext_getElem?
  intro j
  by_cases hj : j < l.length
  · rw [List.getElem?_map, List.getElem?_range hj, Option.map_some, h.2.2 j, List.getElem?_eq_getElem hj]; rfl
  · rw [List.getElem?_eq_none (by simp; omega), List.getElem?_eq_none (by omega)]
theorem unb_bits {b : List Nat} {l : List Bool} (h : IsBits b l) : unbR b l.length = some l := by
  have hb := h.1
  rw [unbR_yes (by omega) (by omega) (fun i h1 _ => by rw [h.2.2 i, List.getElem?_eq_none h1]; rfl), range_bits h]
theorem unb_turn {b : List Nat} {l : List Bool} (h : IsBits b l) (hr : l.length % 8 ≠ 0) (hq : l.length / 8 < b.length) : unbR (b.set (l.length / 8) (b[l.length / 8] ||| 2 ^ (l.length % 8))) l.length = none :=
  unbR_no (fun hh => by
    have := hh.2.2.2 l.length (by simp) (by rw [List.length_set]; omega)
    rw [bitY_set b l.length l.length hq] at this
    simp at this)
theorem get_low (b : List Nat) (v k : Nat) (h1 : 1 ≤ k) (h2 : k ≤ 4) : getR (b ++ lowB v k) (b.length : Nat) k = some (v % 256 ^ k) := by
  rw [getR_yes h1 h2 (by rw [List.length_append, lowB_len]; omega), List.drop_left, List.take_of_length_le (by rw [lowB_len]; omega), numL_low v k h2]
theorem and_i64 (v k : Nat) (hv : v < 4294967296) (hk : k ≤ 32) : bits .and .i64 (v : Int) (2 ^ k - 1) = ((v % 2 ^ k : Nat) : Int) := by
  have h1 : 2 ^ k ≤ 2 ^ 32 := Nat.pow_le_pow_right (by decide) hk
  have h0 : 1 ≤ 2 ^ k := Nat.one_le_two_pow
  have e : (2 : Int) ^ k - 1 = ((2 ^ k - 1 : Nat) : Int) := by
    rw [Int.natCast_sub h0, Int.natCast_pow]; rfl
  have e2 : v &&& (2 ^ k - 1) = v % 2 ^ k := Nat.and_two_pow_sub_one_eq_mod v k
  rw [e]
  show IntKind.i64.wrap ((BitVec.ofInt 64 (v : Int) &&& BitVec.ofInt 64 ((2 ^ k - 1 : Nat) : Int)).toNat : Int) = _
  have f1 : (BitVec.ofInt 64 (v : Int)).toNat = v := by
    rw [BitVec.ofInt_natCast, BitVec.toNat_ofNat]; exact Nat.mod_eq_of_lt (by omega)
  have f2 : (BitVec.ofInt 64 ((2 ^ k - 1 : Nat) : Int)).toNat = 2 ^ k - 1 := by
    rw [BitVec.ofInt_natCast, BitVec.toNat_ofNat]; exact Nat.mod_eq_of_lt (by omega)
  rw [BitVec.toNat_and, f1, f2, e2, IntKind.wrap_i64]
  have : v % 2 ^ k ≤ v := Nat.mod_le _ _
  omega
/-- Unbits tells these. -/
def OutL (l : List Bool) (m : Nat) (w : World) (e : Ending) (w' : World) : Prop :=
  ∃ (A : Option Addr) (c : Nat), e = .returned (.tuple #[.slice A m c, .bool true]) ∧ RL w' w'.heap.size A m l ∧ Shp A m c ∧ Below w.heap.size w w'
def OutX (w : World) (e : Ending) (w' : World) : Prop := ∃ (A : Option Addr) (c : Nat), e = .returned (.tuple #[.slice A 0 c, .bool false]) ∧ Below w.heap.size w w'
theorem unbits_yes (b : List Nat) (m : Nat) (l : List Bool) (n : Nat) (hu : unbR b n = some l) (hl : l.length = n) (A : Option Addr) (c : Nat) (w : World) (hR : RB w w.heap.size A m b) (hm : m ≤ 10000) :
    Calls Try.prog 11 #[.slice A m c, .int .i64 n] w (OutL l n w) := by
  have h := unbits_any b m A c n w hR hm
  rw [hu] at h
  refine h.mono fun e w' ⟨A', c', he, hr, hs, hb⟩ => ?_
  have e2 : ((some l).getD []).length = n := hl
  rw [e2] at he hr hs
  exact ⟨A', c', he, hr, hs, hb⟩
theorem unbits_no (b : List Nat) (m : Nat) (n : Int) (hu : unbR b n = none) (A : Option Addr) (c : Nat) (w : World) (hR : RB w w.heap.size A m b) (hm : m ≤ 10000) :
    Calls Try.prog 11 #[.slice A m c, .int .i64 n] w (OutX w) := by
  have h := unbits_any b m A c n w hR hm
  rw [hu] at h
  exact h.mono fun e w' ⟨A', c', he, hr, hs, hb⟩ => ⟨A', c', he, hb⟩
theorem get_yes (l : List Nat) (n : Nat) (A : Option Addr) (c : Nat) (a s : Int) (r : Nat) (hg : getR l a s = some r) (w : World) (hR : RB w w.heap.size A n l) (hc : n ≤ c) (hn : n ≤ 100000) :
    Calls Try.prog 9 #[.slice A n c, .int .i64 a, .int .i64 s] w fun e w' => e = .returned (.tuple #[.int .i64 (r : Int), .bool true]) ∧ Below w.heap.size w w' := by
  have h := get_any l n A c a s w hR hc hn
  rw [hg] at h
  exact h
theorem get_not (l : List Nat) (n : Nat) (A : Option Addr) (c : Nat) (a s : Int) (hg : getR l a s = none) (w : World) (hR : RB w w.heap.size A n l) (hc : n ≤ c) (hn : n ≤ 100000) :
    Calls Try.prog 9 #[.slice A n c, .int .i64 a, .int .i64 s] w fun e w' => e = .returned (.tuple #[.int .i64 0, .bool false]) ∧ Below w.heap.size w w' := by
  have h := get_any l n A c a s w hR hc hn
  rw [hg] at h
  exact h
end Go.Proofs.Ytjhcjdgmhggimaa
