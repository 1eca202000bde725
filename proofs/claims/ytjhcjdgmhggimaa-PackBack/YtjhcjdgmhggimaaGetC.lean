/- What Get returns. -/
import Derived.Test.YtjhcjdgmhggimaaGetK1
import Derived.Test.YtjhcjdgmhggimaaGetK2
import Derived.Test.YtjhcjdgmhggimaaGetK3
import Derived.Test.YtjhcjdgmhggimaaGetK4
namespace Go.Proofs.Ytjhcjdgmhggimaa
open Go.RowKit Go.BigFrame
set_option linter.unusedVariables false
set_option linter.unusedSimpArgs false

theorem get_any (l : List Nat) (n : Nat) (A : Option Addr) (c : Nat) (a s : Int) (w : World) (hR : RB w w.heap.size A n l) (hc : n ≤ c) (hn : n ≤ 100000) :
    Calls Try.prog 9 #[.slice A n c, .int .i64 a, .int .i64 s] w (OutN (getR l a s) w) := by
  by_cases h : 1 ≤ s ∧ s ≤ 4 ∧ 0 ≤ a ∧ a ≤ (n : Int) - s
  · obtain ⟨a, rfl⟩ := Int.eq_ofNat_of_zero_le h.2.2.1
    have : s = 1 ∨ s = 2 ∨ s = 3 ∨ s = 4 := by omega
    have hl := hR.1
    rcases this with rfl | rfl | rfl | rfl
    · rw [show getR l a 1 = _ from getR_yes (k := 1) (by decide) (by decide) (by omega)]; exact get_1 l n a A c w hR hc hn (by omega)
    · rw [show getR l a 2 = _ from getR_yes (k := 2) (by decide) (by decide) (by omega)]; exact get_2 l n a A c w hR hc hn (by omega)
    · rw [show getR l a 3 = _ from getR_yes (k := 3) (by decide) (by decide) (by omega)]; exact get_3 l n a A c w hR hc hn (by omega)
    · rw [show getR l a 4 = _ from getR_yes (k := 4) (by decide) (by decide) (by omega)]; exact get_4 l n a A c w hR hc hn (by omega)
  · rw [getR_no (by rw [hR.1]; exact h)]; exact get_no l n A c a s w hR.1 hn h
end Go.Proofs.Ytjhcjdgmhggimaa
