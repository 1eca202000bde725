/- Two arrays of four bytes compared; what sealFault returns. -/
import Derived.Test.YtaejfebpalmfmaaEnc
import Derived.Laws.StructEq
import Derived.Laws.CopyOwn
namespace Go.Proofs.Ytaejfebpalmfmaa
open Go.RowKit Go.BigFrame
set_option linter.unusedVariables false
set_option maxRecDepth 4000
set_option linter.unusedSimpArgs false

theorem part5 (cs : Array Value) (off : Nat) (v : Value) (h : cs[off]? = some v) (W : World) : (part 5 cs off).run Try.prog W = .ok v W := by
  unfold part
  simp [go_sem, h]
theorem sizeOf5 (W : World) : (sizeOf 5).run Try.prog W = .ok 1 W := by kernel_rfl
open Classical in
/-- What is wrong ahead of what the counts say. -/
noncomputable def sealE (l : List Nat) : Nat :=
  if l.length < 11 then 21 else if l.take 4 ≠ markB then 22 else if numL (l.drop (l.length - 4)) ≠ sumL (l.take (l.length - 4)) then 23 else 0
theorem sealE_short {l : List Nat} (h : l.length < 11) : sealE l = 21 := by unfold sealE; rw [if_pos h]
theorem sealE_mark {l : List Nat} (h : ¬ l.length < 11) (h2 : l.take 4 ≠ markB) : sealE l = 22 := by unfold sealE; rw [if_neg h, if_pos h2]
theorem sealE_sum {l : List Nat} (h : ¬ l.length < 11) (h2 : l.take 4 = markB) (h3 : numL (l.drop (l.length - 4)) ≠ sumL (l.take (l.length - 4))) : sealE l = 23 := by unfold sealE; rw [if_neg h, if_neg (by rw [h2]; simp), if_pos h3]
theorem sealE_ok {l : List Nat} (h : ¬ l.length < 11) (h2 : l.take 4 = markB) (h3 : numL (l.drop (l.length - 4)) = sumL (l.take (l.length - 4))) : sealE l = 0 := by unfold sealE; rw [if_neg h, if_neg (by rw [h2]; simp), if_neg (by rw [h3]; simp)]
theorem ret_i64 {a b : Nat} (h : a = b) : Ending.returned (.int .i64 (a : Int)) = .returned (.int .i64 (b : Int)) := by rw [h]
end Go.Proofs.Ytaejfebpalmfmaa
