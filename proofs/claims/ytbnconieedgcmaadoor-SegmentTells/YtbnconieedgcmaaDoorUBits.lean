/- The bit operations of package utf, as sums and remainders. -/
import Derived.Test.YtbnconieedgcmaaDoorUBegins
import Derived.Laws.BitsAllLaws
import Derived.Laws.BitsLemmas
namespace Go.Proofs.YtbnconieedgcmaaDoor.U
open Go.RowKit

theorem nxor0 : ∀ x : Fin 256, x.val ^^^ 0 = x.val := by decide +kernel
theorem nxor192 : ∀ x : Fin 256, 192 ≤ x.val → x.val < 224 → x.val ^^^ 192 = x.val - 192 := by decide +kernel
theorem nxor224 : ∀ x : Fin 256, 224 ≤ x.val → x.val < 240 → x.val ^^^ 224 = x.val - 224 := by decide +kernel
theorem nxor240 : ∀ x : Fin 256, 240 ≤ x.val → x.val < 248 → x.val ^^^ 240 = x.val - 240 := by decide +kernel
theorem nor128 : ∀ x : Fin 64, 128 ||| x.val = 128 + x.val := by decide +kernel
theorem nor192 : ∀ x : Fin 32, 192 ||| x.val = 192 + x.val := by decide +kernel
theorem nor224 : ∀ x : Fin 16, 224 ||| x.val = 224 + x.val := by decide +kernel
theorem nor240 : ∀ x : Fin 8, 240 ||| x.val = 240 + x.val := by decide +kernel
theorem nor0 : ∀ x : Fin 256, 0 ||| x.val = x.val := by decide +kernel

theorem xor0 (x : Nat) (h : x < 256) : bits .xor .u8 (x : Int) 0 = (x : Int) := by
  have := u8_xor_nat x 0 h (by omega)
  rw [nxor0 ⟨x, h⟩] at this
  exact this
theorem xor192 (x : Nat) (h0 : 192 ≤ x) (h1 : x < 224) : bits .xor .u8 (x : Int) 192 = (x : Int) - 192 := by
  have := u8_xor_nat x 192 (by omega) (by omega)
  rw [show x ^^^ 192 = x - 192 from nxor192 ⟨x, by omega⟩ h0 h1] at this
  rw [show (192 : Int) = ((192 : Nat) : Int) from rfl, this]; omega
theorem xor224 (x : Nat) (h0 : 224 ≤ x) (h1 : x < 240) : bits .xor .u8 (x : Int) 224 = (x : Int) - 224 := by
  have := u8_xor_nat x 224 (by omega) (by omega)
  rw [show x ^^^ 224 = x - 224 from nxor224 ⟨x, by omega⟩ h0 h1] at this
  rw [show (224 : Int) = ((224 : Nat) : Int) from rfl, this]; omega
theorem xor240 (x : Nat) (h0 : 240 ≤ x) (h1 : x < 248) : bits .xor .u8 (x : Int) 240 = (x : Int) - 240 := by
  have := u8_xor_nat x 240 (by omega) (by omega)
  rw [show x ^^^ 240 = x - 240 from nxor240 ⟨x, by omega⟩ h0 h1] at this
  rw [show (240 : Int) = ((240 : Nat) : Int) from rfl, this]; omega
theorem and63 (x : Nat) (h : x < 256) : bits .and .u8 (x : Int) 63 = (x : Int) % 64 := by
  have := u8_and_nat x 63 h (by omega)
  rw [nat_mask6] at this
  rw [show (63 : Int) = ((63 : Nat) : Int) from rfl, this]; omega

theorem ofInt_i64 (a : Nat) (ha : a < 9223372036854775808) : (BitVec.ofInt 64 (a : Int)).toNat = a := by
  rw [BitVec.ofInt_natCast, BitVec.toNat_ofNat]; exact Nat.mod_eq_of_lt (by omega)
theorem i64_and_nat (a b : Nat) (ha : a < 9223372036854775808) (hb : b < 9223372036854775808) : bits .and .i64 (a : Int) (b : Int) = ((a &&& b : Nat) : Int) := by
  have hx : a &&& b < 2 ^ 63 := Nat.and_lt_two_pow _ (by omega)
  show IntKind.i64.wrap ((BitVec.ofInt 64 (a : Int) &&& BitVec.ofInt 64 (b : Int)).toNat : Int) = _
  rw [BitVec.toNat_and, ofInt_i64 a ha, ofInt_i64 b hb, IntKind.wrap_i64]
  omega
theorem i64_or_nat (a b : Nat) (ha : a < 9223372036854775808) (hb : b < 9223372036854775808) : bits .or .i64 (a : Int) (b : Int) = ((a ||| b : Nat) : Int) := by
  have hx : a ||| b < 2 ^ 63 := Nat.or_lt_two_pow (by omega) (by omega)
  show IntKind.i64.wrap ((BitVec.ofInt 64 (a : Int) ||| BitVec.ofInt 64 (b : Int)).toNat : Int) = _
  rw [BitVec.toNat_or, ofInt_i64 a ha, ofInt_i64 b hb, IntKind.wrap_i64]
  omega

/-- A number's six bits more. -/
theorem or64 (a t : Int) (h0 : 0 ≤ a) (h1 : a < 1048576) (t0 : 0 ≤ t) (t1 : t < 64) : bits .or .i64 (a * 64) t = a * 64 + t := by
  obtain ⟨a, rfl⟩ := Int.eq_ofNat_of_zero_le h0
  obtain ⟨t, rfl⟩ := Int.eq_ofNat_of_zero_le t0
  have := i64_or_nat (a * 64) t (by omega) (by omega)
  rw [nat_join 6 (a * 64) t (by omega) (by omega)] at this
  rw [show ((a : Int) * 64) = ((a * 64 : Nat) : Int) by omega, this]; omega
theorem andI63 (a : Int) (h0 : 0 ≤ a) (h1 : a < 1048576 * 64) : bits .and .i64 a 63 = a % 64 := by
  obtain ⟨a, rfl⟩ := Int.eq_ofNat_of_zero_le h0
  have := i64_and_nat a 63 (by omega) (by omega)
  rw [nat_mask6] at this
  rw [show (63 : Int) = ((63 : Nat) : Int) from rfl, this]; omega
theorem or128 (t : Int) (t0 : 0 ≤ t) (t1 : t < 64) : bits .or .u8 128 t = 128 + t := by
  obtain ⟨t, rfl⟩ := Int.eq_ofNat_of_zero_le t0
  have := u8_or_nat 128 t (by omega) (by omega)
  rw [show 128 ||| t = 128 + t from nor128 ⟨t, by omega⟩] at this
  rw [show (128 : Int) = ((128 : Nat) : Int) from rfl, this]; omega
theorem or192 (t : Int) (t0 : 0 ≤ t) (t1 : t < 32) : bits .or .u8 192 t = 192 + t := by
  obtain ⟨t, rfl⟩ := Int.eq_ofNat_of_zero_le t0
  have := u8_or_nat 192 t (by omega) (by omega)
  rw [show 192 ||| t = 192 + t from nor192 ⟨t, by omega⟩] at this
  rw [show (192 : Int) = ((192 : Nat) : Int) from rfl, this]; omega
theorem or224 (t : Int) (t0 : 0 ≤ t) (t1 : t < 16) : bits .or .u8 224 t = 224 + t := by
  obtain ⟨t, rfl⟩ := Int.eq_ofNat_of_zero_le t0
  have := u8_or_nat 224 t (by omega) (by omega)
  rw [show 224 ||| t = 224 + t from nor224 ⟨t, by omega⟩] at this
  rw [show (224 : Int) = ((224 : Nat) : Int) from rfl, this]; omega
theorem or240 (t : Int) (t0 : 0 ≤ t) (t1 : t < 8) : bits .or .u8 240 t = 240 + t := by
  obtain ⟨t, rfl⟩ := Int.eq_ofNat_of_zero_le t0
  have := u8_or_nat 240 t (by omega) (by omega)
  rw [show 240 ||| t = 240 + t from nor240 ⟨t, by omega⟩] at this
  rw [show (240 : Int) = ((240 : Nat) : Int) from rfl, this]; omega
theorem or0 (t : Int) (t0 : 0 ≤ t) (t1 : t < 256) : bits .or .u8 0 t = t := by
  obtain ⟨t, rfl⟩ := Int.eq_ofNat_of_zero_le t0
  have := u8_or_nat 0 t (by omega) (by omega)
  rw [nor0 ⟨t, by omega⟩] at this
  exact this
end Go.Proofs.YtbnconieedgcmaaDoor.U
