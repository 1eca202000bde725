/- What bits.RotateLeft32, Sum and the document's Sum return. -/
import Derived.Test.YtbnconieedgcmaaDoorOwn
namespace Go.Proofs.YtbnconieedgcmaaDoor
open Go.RowKit
set_option linter.unusedVariables false
set_option linter.unusedSimpArgs false

theorem rot_bits (x : Nat) (hx : x < 4294967296) : bits .or .u32 ((x : Int) * 32 % 4294967296) ((x : Int) / 134217728) = ((rot x : Nat) : Int) := by
  have h := u32_or_nat (x * 32 % 4294967296) (x / 134217728) (by omega) (by omega)
  rw [nat_join5 _ _ (by omega) (by omega)] at h
  rw [show ((x : Int) * 32 % 4294967296) = ((x * 32 % 4294967296 : Nat) : Int) by omega, show ((x : Int) / 134217728) = ((x / 134217728 : Nat) : Int) by omega, h]
  unfold rot
  omega
theorem rot_any (x : Nat) (hx : x < 4294967296) (w : World) : Calls Tryd.prog 99 #[.int .u32 x, .int .i64 5] w fun e w' => e = .returned (.int .u32 (rot x : Nat)) ∧ w' = w := by
  have H := Lib.hid (rot_bits x hx)
  have h5 : bits .and .u64 5 31 = 5 := by kernel_rfl
  go_enter Tryd.func99, Tryd.ntmps99
  go_wp2_with fail
  go_ret
  exact ⟨congrArg (fun z => Ending.returned (.int .u32 z)) H.out, rfl⟩

theorem xor_u32 (s x : Nat) (hs : s < 4294967296) (hx : x < 256) : bits .xor .u32 (s : Int) (x : Int) = ((s ^^^ x : Nat) : Int) := u32_xor_nat s x hs (by omega)
/-- One byte more. -/
theorem sum_step (l : List Nat) (k : Nat) (hk : k < l.length) : ((rot (sumL (l.take k) ^^^ l[k]) : Nat) + 2654435761 : Int) % 4294967296 = ((sumL (l.take (k + 1)) : Nat) : Int) := by
  rw [List.take_succ_eq_append_getElem hk, sumL_snoc]
  unfold stp
  omega
set_option maxHeartbeats 1000000 in
theorem sum_any (l : List Nat) (n : Nat) (A : Option Addr) (c : Nat) (w : World) (hR : RB w w.heap.size A n l) (hn : n ≤ 1048576) :
    Calls Tryd.prog 47 #[.slice A n c] w fun e w' => e = .returned (.int .u32 (sumL l : Nat)) ∧ w' = w := by
  have HR := Lib.hid hR
  clear hR
  go_enter Tryd.func47, Tryd.ntmps47
  go_wp2_with fail
  go_loopw [3, 8] (fun s i wr => ∃ (k : Nat), k ≤ n ∧ i = .int .i64 k ∧ s = .int .u32 (sumL (l.take k) : Nat) ∧ wr = w) (fun _ i _ => n - (intOf i).toNat)
  case atStart => exact ⟨0, Nat.zero_le _, rfl, by rw [List.take_zero]; unfold sumL; rw [sumFrom_nil]; unfold seed0; rfl, rfl⟩
  case round =>
    obtain ⟨k, hk, rfl, rfl, rfl⟩ := hrel
    by_cases hlt : k < n
    · have kl : k < l.length := by rw [HR.out.1]; exact hlt
      obtain ⟨b, o, rfl, _, p0, px⟩ := HR.out.at kl
      have hs := sumL_lt (l.take k)
      have hxor := xor_u32 _ _ hs px
      have HS := Lib.hid (sum_step l k kl)
      have hy := xor_lt hs px
      have HY := Lib.hid hs
      clear hs
      generalize l[k] = x at *
      generalize sumL (l.take k) = s at *
      generalize s ^^^ x = y at *
      go_wp2_with fail
      refine (rot_any y hy _).mono ?_
      rintro e w1 ⟨rfl, rfl⟩
      generalize rot y = r at *
      go_wp2_with fail
      go_roundw
      case rel => exact ⟨k + 1, by omega, by go_num, congrArg (Value.int .u32) HS.out, trivial⟩
      case measure => simp [intOf]; omega
    · have HD : Hid (l.take k = l) := Lib.hid (List.take_of_length_le (by rw [HR.out.1]; omega))
      go_wp2_with fail
      go_ret
      exact ⟨by rw [← congrArg sumL HD.out]; rfl, rfl⟩

set_option maxHeartbeats 1000000 in
theorem refSum_any (l : List Nat) (n : Nat) (A : Option Addr) (c : Nat) (w : World) (hR : RB w w.heap.size A n l) (hn : n ≤ 1048576) :
    Calls Tryd.prog 51 #[.slice A n c] w fun e w' => e = .returned (.int .u32 (sumL l : Nat)) ∧ w' = w := by
  have HR := Lib.hid hR
  clear hR
  go_enter Tryd.func51, Tryd.ntmps51
  go_wp2_with fail
  go_loopw [3, 4] (fun s i wr => ∃ (k : Nat), k ≤ n ∧ i = .int .i64 k ∧ s = .int .u32 (sumL (l.take k) : Nat) ∧ wr = w) (fun _ i _ => n - (intOf i).toNat)
  case atStart => exact ⟨0, Nat.zero_le _, rfl, by rw [List.take_zero]; unfold sumL; rw [sumFrom_nil]; unfold seed0; rfl, rfl⟩
  case round =>
    obtain ⟨k, hk, rfl, rfl, rfl⟩ := hrel
    by_cases hlt : k < n
    · have kl : k < l.length := by rw [HR.out.1]; exact hlt
      obtain ⟨b, o, rfl, _, p0, px⟩ := HR.out.at kl
      have hs := sumL_lt (l.take k)
      have hxor := xor_u32 _ _ hs px
      have HS := Lib.hid (sum_step l k kl)
      have hy := xor_lt hs px
      have HY := Lib.hid hs
      clear hs
      generalize l[k] = x at *
      generalize sumL (l.take k) = s at *
      generalize s ^^^ x = y at *
      have hor := rot_bits y hy
      generalize rot y = r at *
      go_wp2_with fail
      go_roundw
      case rel => exact ⟨k + 1, by omega, by go_num, congrArg (Value.int .u32) HS.out, trivial⟩
      case measure => simp [intOf]; omega
    · have HD : Hid (l.take k = l) := Lib.hid (List.take_of_length_le (by rw [HR.out.1]; omega))
      go_wp2_with fail
      go_ret
      exact ⟨by rw [← congrArg sumL HD.out]; rfl, rfl⟩
end Go.Proofs.YtbnconieedgcmaaDoor
