/- What bandsOf returns. -/
import Derived.Test.YtaejfebpalmfmaaEnc
import Derived.Deep.AppendLies
namespace Go.Proofs.Ytaejfebpalmfmaa
open Go.RowKit Go.BigFrame
set_option linter.unusedVariables false
set_option maxRecDepth 4000
set_option linter.unusedSimpArgs false

/-- A new row of bands. -/
def OutBD (L : List Rg) (n : Nat) (w : World) (e : Ending) (w' : World) : Prop := ∃ (A : Option Addr) (c : Nat), e = .returned (.slice A n c) ∧ w'.ownsRow w.heap.size 49 2 (.slice A n c) n (rcells L) ∧ Below w.heap.size w w'
theorem band_at (l : List Nat) (j : Nat) (h : 4 * j + 3 < l.length) : bandOf (chunk 4 l j) = (((numL ((l.drop (4 * j)).take 3) : Nat) : Int), ((l[4 * j + 3] : Nat) : Int)) := by
  unfold bandOf chunk
  have e1 : (((l.drop (4 * j)).take 4).take 3) = (l.drop (4 * j)).take 3 := by rw [List.take_take]; rfl
  have e2 : (((l.drop (4 * j)).take 4).drop 3).headD 0 = l[4 * j + 3] := by
    have : ((l.drop (4 * j)).take 4).drop 3 = [l[4 * j + 3]] := by
      rw [List.drop_take, List.drop_drop]
      show List.take 1 (List.drop (4 * j + 3) l) = _
      rw [List.drop_eq_getElem_cons h]
      rfl
    rw [this]; rfl
  rw [e1, e2]
theorem reads_band (w : World) (x y : Int) : Reads (w.alloc (.cells #[.int .i64 x, .int .i64 y] 49)) (w.heap.size + 1) 2 (some ⟨w.heap.size, 0, none⟩) 1 (rcells [(x, y)]) := ⟨rfl, fun _ => ⟨_, _, rfl, by omega, fun i u hu => by
  match i, hu with
  | 0, hu => injection hu with hu; subst hu; simp
  | 1, hu => injection hu with hu; subst hu; simp⟩⟩
end Go.Proofs.Ytaejfebpalmfmaa
