/- What the document's Starts returns, of two sets. -/
import Derived.Test.YtehikcddnjibcaaRefStarts
import Derived.Test.YtehikcddnjibcaaAppT
namespace Go.Proofs.Ytehikcddnjibcaa
open Go.RowKit Go.BigFrame
set_option linter.unusedVariables false
set_option linter.unusedSimpArgs false

set_option maxHeartbeats 1000000 in
theorem starts_two (a b : List Rg) (n m : Nat) (ha : a.length = n) (hb : b.length = m) (A B : Option Addr) (c d g k : Nat) (w : World) (hA : A = none → c = 0) (hB : B = none → d = 0)
    (g0 : w.cell? ⟨g, 0, none⟩ = some (.slice A n c)) (g1 : w.cell? ⟨g, 1, none⟩ = some (.slice B m d)) (hRa : Reads w w.heap.size 2 A n (rcells a)) (hRb : Reads w w.heap.size 2 B m (rcells b)) (hn : n ≤ 2000) (hm : m ≤ 2000) :
    Calls Try.prog 51 #[.slice (some ⟨g, 0, none⟩) 2 k] w (OutI (stL [0] (a ++ b)) w) := by
  obtain ⟨i0, hi0, hz0, hz1, hz2⟩ := info_parts info41
  have HRa := Lib.hid hRa
  have HRb := Lib.hid hRb
  have HA := Lib.hid hA
  have HB := Lib.hid hB
  have HLL : Hid ((a ++ b).length = n + m) := Lib.hid (by simp [ha, hb])
  have G1 := Lib.hid g1
  clear hRa hRb hA hB ha hb
  go_enter Try.func51, Try.ntmps51
  go_wp2_with fail
  refine wp_loop_rounds 3 ?_
  rw [rounds_succ]
  go_wp2_with (at_builtin; refine wpList_append_named rfl _ _ 22 23 rfl w.heap.size 41 41 i0 _ 2 16 Try.underlying22 Try.underlying23 hi0 hz0 hz1 hz2 rfl (by decide) _ _ _ rfl (World.ownsRow_nil _ _ _ _) A n c w.heap.size (rcells a) rfl HA.out HRa.out (rcells_one a) ?c3 ?c4 ?c5 ?_)
  case c3 => unfold maxLen; omega
  case c4 => omega
  case c5 => exact Nat.le_refl _
  intro A2 c2 w2 hown2 hn2 hgrow2
  have b2 : Below w.heap.size w w2 := (Below.refl _ _).grown hgrow2 (Nat.le_refl _) (fun k hk => by cases hk)
  have g1'' := kept_cell b2 G1.out
  have hs2 := b2.size
  have HRb2 := Lib.hid ((HRb.out.below b2))
  try simp only [Nat.zero_add, List.nil_append] at hown2
  try simp only [Nat.zero_add]
  clear g0 g1 G1 hgrow2 HRa HRb
  go_wp2_with fail
  rw [rounds_succ]
  go_wp2_with (at_builtin; refine wpList_append_named rfl _ _ 22 23 rfl w.heap.size 41 41 i0 _ 2 16 Try.underlying22 Try.underlying23 hi0 hz0 hz1 hz2 rfl (by decide) _ _ _ rfl hown2 B m d w.heap.size (rcells b) rfl HB.out HRb2.out (rcells_one b) ?c3 ?c4 ?c5 ?_)
  case c3 => unfold maxLen; omega
  case c4 => omega
  case c5 => exact hs2
  intro A3 c3 w3 hown3 hn3 hgrow3
  have b3 : Below w.heap.size w w3 := below_grown b2 hs2 hown2 hgrow3
  have HO3 : Hid (Reads w3 w3.heap.size 2 A3 (n + m) (rcells (a ++ b))) := Lib.hid (by rw [rcells_app]; exact Reads.of_own hown3)
  clear hown3 hgrow3 hown2
  go_wp2_with fail
  rw [rounds_succ]
  go_wp2_with fail
  refine (starts_any (a ++ b) (n + m) HLL.out A3 c3 _ HO3.out (by omega)).mono ?_
  rintro e w4 ⟨A4, c4, z, rfl, h4, s4, r4, g4⟩
  have H4 := Lib.hid (⟨h4, s4, r4, b3.trans (g4.mono b3.size)⟩ : (stL [0] (a ++ b)).length = z ∧ Shp A4 z c4 ∧ Reads w4 w4.heap.size 1 A4 z (icells (stL [0] (a ++ b))) ∧ Below w.heap.size w w4)
  clear h4 s4 r4 g4
  go_wp2_with fail
  go_ret
  exact ⟨A4, c4, z, rfl, H4.out⟩
end Go.Proofs.Ytehikcddnjibcaa
