/- What bits.RotateLeft32, Sum and the document's Sum return. -/
import Derived.Test.YtaejfebpalmfmaaOwn
namespace Go.Proofs.Ytaejfebpalmfmaa
open Go.RowKit
set_option linter.unusedVariables false
set_option linter.unusedSimpArgs false

theorem rot_bits (x : Nat) (hx : x < 4294967296) : bits .or .u32 ((x : Int) * 32 % 4294967296) ((x : Int) / 134217728) = ((rot x : Nat) : Int) := by
  have h := u32_or_nat (x * 32 % 4294967296) (x / 134217728) (by omega) (by omega)
  rw [nat_join5 _ _ (by omega) (by omega)] at h
  rw [show ((x : Int) * 32 % 4294967296) = ((x * 32 % 4294967296 : Nat) : Int) by omega, show ((x : Int) / 134217728) = ((x / 134217728 : Nat) : Int) by omega, h]
  unfold rot
  omega
theorem xor_u32 (s x : Nat) (hs : s < 4294967296) (hx : x < 256) : bits .xor .u32 (s : Int) (x : Int) = ((s ^^^ x : Nat) : Int) := u32_xor_nat s x hs (by omega)
/-- One byte more. -/
theorem sum_step (l : List Nat) (k : Nat) (hk : k < l.length) : ((rot (sumL (l.take k) ^^^ l[k]) : Nat) + 2654435761 : Int) % 4294967296 = ((sumL (l.take (k + 1)) : Nat) : Int) := by
  rw [List.take_succ_eq_append_getElem hk, sumL_snoc]
  unfold stp
  omega
end Go.Proofs.Ytaejfebpalmfmaa
