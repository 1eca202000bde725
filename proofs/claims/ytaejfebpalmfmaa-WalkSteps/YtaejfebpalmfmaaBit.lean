/- What bytesFor and bitAt return. -/
import Derived.Test.YtaejfebpalmfmaaOwn
namespace Go.Proofs.Ytaejfebpalmfmaa
open Go.RowKit
set_option linter.unusedVariables false
set_option linter.unusedSimpArgs false

/-- The bit that is shifted down and masked. -/
theorem bit_and (x j : Nat) (hx : x < 256) : bits .and .u8 ((x : Int) / 2 ^ j) 1 = ((x / 2 ^ j % 2 : Nat) : Int) := by
  have h0 : x / 2 ^ j < 256 := Nat.lt_of_le_of_lt (Nat.div_le_self _ _) hx
  have h := u8_and_nat (x / 2 ^ j) 1 h0 (by decide)
  rw [Nat.and_one_is_mod] at h
  rw [← h]
  congr 1
theorem bit_test (x j : Nat) (hx : x < 256) : (bits .and .u8 ((x : Int) / 2 ^ j) 1 == 1) = x.testBit j := by
  rw [bit_and x j hx, Nat.testBit_eq_decide_div_mod_eq]
  by_cases h : x / 2 ^ j % 2 = 1
  · rw [h]; simp
  · have : x / 2 ^ j % 2 = 0 := by omega
    rw [this]; simp
end Go.Proofs.Ytaejfebpalmfmaa
