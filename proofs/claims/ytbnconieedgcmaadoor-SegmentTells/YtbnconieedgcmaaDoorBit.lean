/- What bytesFor and bitAt return. -/
import Derived.Test.YtbnconieedgcmaaDoorOwn
namespace Go.Proofs.YtbnconieedgcmaaDoor
open Go.RowKit
set_option linter.unusedVariables false
set_option linter.unusedSimpArgs false

theorem bytesFor_any (n : Nat) (hn : n ≤ 10000000) (w : World) : Calls Tryd.prog 98 #[.int .i64 n] w fun e w' => e = .returned (.int .i64 (((n + 7) / 8 : Nat) : Int)) ∧ w' = w := by
  go_enter Tryd.func98, Tryd.ntmps98
  go_wp2_with fail
  go_ret
  refine ⟨congrArg (fun z => Ending.returned (.int .i64 z)) (show ((n : Int) + 8 - 1) / 8 = _ by omega), rfl⟩
/-- The bit that is shifted down and masked. -/
theorem bit_and (x j : Nat) (hx : x < 256) : bits .and .u8 ((x : Int) / 2 ^ j) 1 = ((x / 2 ^ j % 2 : Nat) : Int) := by
  have h0 : x / 2 ^ j < 256 := Nat.lt_of_le_of_lt (Nat.div_le_self _ _) hx
  have h := u8_and_nat (x / 2 ^ j) 1 h0 (by decide)
  rw [Nat.and_one_is_mod] at h
  rw [← h]
  congr 1
theorem bit_test (x j : Nat) (hx : x < 256) : (bits .and .u8 ((x : Int) / 2 ^ j) 1 == 1) = x.testBit j := by
  rw [bit_and x j hx, Nat.testBit_eq_decide_div_mod_eq]
  by_cases h : x / 2 ^ j % 2 = 1
  · rw [h]; simp
  · have : x / 2 ^ j % 2 = 0 := by omega
    rw [this]; simp
theorem bitAt_any (l : List Nat) (n i : Nat) (A : Option Addr) (c : Nat) (w : World) (hR : RB w w.heap.size A n l) (hi : i / 8 < n) (hn : n ≤ 1048576) :
    Calls Tryd.prog 101 #[.slice A n c, .int .i64 i] w fun e w' => e = .returned (.bool (bitY l i)) ∧ w' = w := by
  have kl : i / 8 < l.length := by rw [hR.1]; exact hi
  obtain ⟨b, o, rfl, _, p0, px⟩ := hR.at kl
  have HB := Lib.hid (bitY_eq l i kl)
  generalize l[i / 8] = x at *
  clear hR
  go_enter Tryd.func101, Tryd.ntmps101
  go_wp2_with fail
  go_ret
  exact ⟨congrArg (fun z => Ending.returned (.bool z)) ((bit_test x (i % 8) px).trans HB.out.symm), rfl⟩
end Go.Proofs.YtbnconieedgcmaaDoor
