/- What value and Get return. -/
import Derived.Test.YtbnconieedgcmaaDoorApp
import Derived.Test.YtbnconieedgcmaaDoorBit
import Derived.BigRegion
import Derived.Laws.IdiomCopy
import Derived.Deep.RegionLaw
import Derived.Deep.RegionHeld3
namespace Go.Proofs.YtbnconieedgcmaaDoor
open Go.RowKit Go.BigFrame
set_option linter.unusedVariables false
set_option linter.unusedSimpArgs false


theorem or_i64 (a x : Nat) (ha : a < 4294967296) (hx : x < 256) : bits .or .i64 ((a : Int) * 256) (x : Int) = ((a * 256 + x : Nat) : Int) := by
  have h0 : a * 256 ||| x = a * 256 + x := nat_join8 _ _ (by omega) hx
  show IntKind.i64.wrap ((BitVec.ofInt 64 ((a : Int) * 256) ||| BitVec.ofInt 64 (x : Int)).toNat : Int) = _
  have e1 : (BitVec.ofInt 64 ((a : Int) * 256)).toNat = a * 256 := by
    rw [show ((a : Int) * 256) = ((a * 256 : Nat) : Int) by omega, BitVec.ofInt_natCast, BitVec.toNat_ofNat]; exact Nat.mod_eq_of_lt (by omega)
  have e2 : (BitVec.ofInt 64 (x : Int)).toNat = x := by
    rw [BitVec.ofInt_natCast, BitVec.toNat_ofNat]; exact Nat.mod_eq_of_lt (by omega)
  rw [BitVec.toNat_or, e1, e2, h0, IntKind.wrap_i64]
  omega
theorem value_any (x0 x1 x2 x3 : Nat) (h0 : x0 < 256) (h1 : x1 < 256) (h2 : x2 < 256) (h3 : x3 < 256) (w : World) :
    Calls Tryd.prog 117 #[.agg #[.int .u8 x0, .int .u8 x1, .int .u8 x2, .int .u8 x3]] w fun e w' => e = .returned (.int .i64 (numL [x0, x1, x2, x3] : Nat)) ∧ Below w.heap.size w w' := by
  have r0 : bits .or .i64 0 (x0 : Int) = (x0 : Int) := by
    have h := or_i64 0 x0 (by omega) h0
    rw [show 0 * 256 + x0 = x0 by omega] at h
    exact h
  obtain ⟨v1, hv1⟩ : ∃ v, v = x0 * 256 + x1 := ⟨_, rfl⟩
  obtain ⟨v2, hv2⟩ : ∃ v, v = v1 * 256 + x2 := ⟨_, rfl⟩
  obtain ⟨v3, hv3⟩ : ∃ v, v = v2 * 256 + x3 := ⟨_, rfl⟩
  have r1 : bits .or .i64 ((x0 : Int) * 256) (x1 : Int) = (v1 : Int) := by rw [hv1]; exact or_i64 x0 x1 (by omega) h1
  have r2 : bits .or .i64 ((v1 : Int) * 256) (x2 : Int) = (v2 : Int) := by rw [hv2]; exact or_i64 v1 x2 (by omega) h2
  have r3 : bits .or .i64 ((v2 : Int) * 256) (x3 : Int) = (v3 : Int) := by rw [hv3]; exact or_i64 v2 x3 (by omega) h3
  have l1 : v1 < 65536 := by omega
  have l2 : v2 < 16777216 := by omega
  have l3 : v3 < 4294967296 := by omega
  have HV : Hid (numL [x0, x1, x2, x3] = v3) := Lib.hid (by rw [hv3, hv2, hv1]; simp [numL])
  clear hv1 hv2 hv3
  have ix0 : ∀ (W : World), (Instr.index 122 (.agg #[.int .u8 x0, .int .u8 x1, .int .u8 x2, .int .u8 x3]) (.int .i64 0)).run Tryd.prog W = .ok (.int .u8 x0) W := fun W => by kernel_rfl
  have ix1 : ∀ (W : World), (Instr.index 122 (.agg #[.int .u8 x0, .int .u8 x1, .int .u8 x2, .int .u8 x3]) (.int .i64 1)).run Tryd.prog W = .ok (.int .u8 x1) W := fun W => by kernel_rfl
  have ix2 : ∀ (W : World), (Instr.index 122 (.agg #[.int .u8 x0, .int .u8 x1, .int .u8 x2, .int .u8 x3]) (.int .i64 2)).run Tryd.prog W = .ok (.int .u8 x2) W := fun W => by kernel_rfl
  have ix3 : ∀ (W : World), (Instr.index 122 (.agg #[.int .u8 x0, .int .u8 x1, .int .u8 x2, .int .u8 x3]) (.int .i64 3)).run Tryd.prog W = .ok (.int .u8 x3) W := fun W => by kernel_rfl
  go_enter Tryd.func117, Tryd.ntmps117
  go_wp2_with fail
  refine wp_loop_rounds 5 ?_
  rw [rounds_succ]
  go_wp2_with fail
  rw [rounds_succ]
  go_wp2_with fail
  rw [rounds_succ]
  go_wp2_with fail
  rw [rounds_succ]
  go_wp2_with fail
  rw [rounds_succ]
  go_wp2_with fail
  go_ret
  exact ⟨congrArg (fun z => Ending.returned (.int .i64 ((z : Nat) : Int))) HV.out.symm, below_new _ _⟩
end Go.Proofs.YtbnconieedgcmaaDoor
