/- What slices.Grow, slices.Concat and Union return. -/
import Derived.Test.YtehikcddnjibcaaOf
import Derived.Lib.AppendZeros
namespace Go.Proofs.Ytehikcddnjibcaa
open Go.RowKit Go.BigFrame
set_option linter.unusedVariables false
set_option linter.unusedSimpArgs false

theorem grow_any (n : Nat) (w : World) (hn : n ≤ 100000) :
    Calls Try.prog 48 #[.slice none 0 0, .int .i64 n] w (OutOwn [] 0 w) := by
  obtain ⟨i0, hi0, hz0, hz1, hz2⟩ := info_parts info41
  by_cases h0 : n = 0
  · subst h0
    go_enter Try.func48, Try.ntmps48
    go_wp2_with fail
    go_ret
    exact ⟨none, 0, rfl, World.ownsRow_nil _ _ _ _, Below.refl _ _⟩
  · have hpos : 0 < n := by omega
    have hrz := fun ty => Lib.run_append_nil_zeros (P := Try.prog) w 23 3 ty 41 i0 _ .i64 .i64 Try.underlying23 Try.underlying3 hi0 hz0 n hpos (by omega) (by omega) (by rw [hz2]; omega)
    have hcap := grownCap_le_maxLen w n 0 41 (by unfold maxLen; omega)
    have hge := grownCap_ge w n 0 41
    have hsz : (Builtin.zeroCells (Value.agg #[.int .i64 0, .int .i64 0]).cells n ++ Builtin.zeroCells (Value.agg #[.int .i64 0, .int .i64 0]).cells (grownCap w n 0 41 - n)).size = grownCap w n 0 41 * 2 := by
      rw [Array.size_append, size_zeroCells, size_zeroCells, show (Value.agg #[.int .i64 0, .int .i64 0]).cells.size = 2 from rfl]
      omega
    generalize Builtin.zeroCells (Value.agg #[.int .i64 0, .int .i64 0]).cells n ++ Builtin.zeroCells (Value.agg #[.int .i64 0, .int .i64 0]).cells (grownCap w n 0 41 - n) = Z at *
    generalize grownCap w n 0 41 = cap at *
    have HRZ := Lib.hid hrz
    have HSZ := Lib.hid hsz
    clear hrz hsz
    go_enter Try.func48, Try.ntmps48
    go_wp2_with (at_builtin; refine Lib.wpList_append_run _ rfl _ _ 23 3 rfl (.slice none 0 0) (.int .i64 n) rfl rfl (.slice (some ⟨w.heap.size, 0, none⟩) n cap) (w.drew.alloc (.cells Z 41)) (HRZ.out _) ?_)
    go_wp2_with fail
    go_ret
    exact ⟨some ⟨w.heap.size, 0, none⟩, cap, rfl, World.ownsRow_made (size := 2) w.drew Z cap (Nat.le_refl _) hcap HSZ.out, (Below.drew (Below.refl _ _)).alloc (Nat.le_refl _) _⟩

set_option maxHeartbeats 1000000 in
theorem concat_any (a b : List Rg) (n m : Nat) (ha : a.length = n) (hb : b.length = m) (A B : Option Addr) (c d g k : Nat) (w : World) (hA : A = none → c = 0) (hB : B = none → d = 0)
    (g0 : w.cell? ⟨g, 0, none⟩ = some (.slice A n c)) (g1 : w.cell? ⟨g, 1, none⟩ = some (.slice B m d)) (hRa : Reads w w.heap.size 2 A n (rcells a)) (hRb : Reads w w.heap.size 2 B m (rcells b)) (hn : n ≤ 10000) (hm : m ≤ 10000) :
    Calls Try.prog 32 #[.slice (some ⟨g, 0, none⟩) 2 k] w (OutOwn (a ++ b) (n + m) w) := by
  obtain ⟨i0, hi0, hz0, hz1, hz2⟩ := info_parts info41
  have HRa := Lib.hid hRa
  have HRb := Lib.hid hRb
  have HA := Lib.hid hA
  have HB := Lib.hid hB
  clear hRa hRb hA hB ha hb
  go_enter Try.func32, Try.ntmps32
  go_wp2_with fail
  refine wp_loop_rounds 3 ?_
  rw [rounds_succ]
  go_wp2_with fail
  rw [rounds_succ]
  go_wp2_with fail
  rw [rounds_succ]
  go_wp2_with fail
  refine (grow_any (n + m) _ (by omega)).mono ?_
  rintro e w1 ⟨A1, c1, rfl, hown, hb1⟩
  have g0' := kept_cell hb1 g0
  have g1' := kept_cell hb1 g1
  have HRa1 := Lib.hid ((HRa.out.below hb1))
  have G1 := Lib.hid g1
  have hs1 := hb1.size
  clear g0 g1 HRa
  go_wp2_with fail
  refine wp_loop_rounds 3 ?_
  rw [rounds_succ]
  go_wp2_with (at_builtin; refine wpList_append_src rfl _ _ 23 rfl w.heap.size 41 i0 _ 2 16 Try.underlying23 hi0 hz0 hz1 hz2 rfl (by decide) _ _ _ rfl hown A n c w.heap.size (rcells a) rfl HA.out HRa1.out (rcells_one a) ?c3 ?c4 ?c5 ?_)
  case c3 => unfold maxLen; omega
  case c4 => omega
  case c5 => exact hs1
  intro A2 c2 w2 hown2 hn2 hgrow2
  have b2 : Below w.heap.size w w2 := below_grown hb1 hs1 hown hgrow2
  have g1'' := kept_cell b2 G1.out
  have hs2 := b2.size
  have HRb2 := Lib.hid ((HRb.out.below b2))
  simp only [Nat.zero_add, rcells_nil, List.nil_append] at hown2 ⊢
  clear g0' g1' G1 hgrow2 hown HRa1 HRb
  go_wp2_with fail
  rw [rounds_succ]
  go_wp2_with (at_builtin; refine wpList_append_src rfl _ _ 23 rfl w.heap.size 41 i0 _ 2 16 Try.underlying23 hi0 hz0 hz1 hz2 rfl (by decide) _ _ _ rfl hown2 B m d w.heap.size (rcells b) rfl HB.out HRb2.out (rcells_one b) ?c3 ?c4 ?c5 ?_)
  case c3 => unfold maxLen; omega
  case c4 => omega
  case c5 => exact hs2
  intro A3 c3 w3 hown3 hn3 hgrow3
  have b3 : Below w.heap.size w w3 := below_grown b2 hs2 hown2 hgrow3
  have HO3 : Hid (w3.ownsRow w.heap.size 41 2 (.slice A3 (n + m) c3) (n + m) (rcells (a ++ b))) := Lib.hid (by rw [rcells_app]; exact hown3)
  clear hown3 hgrow3 hown2
  go_wp2_with fail
  rw [rounds_succ]
  go_wp2_with fail
  go_ret
  exact ⟨A3, c3, rfl, HO3.out, b3⟩

theorem union_bad (a b : List Rg) (n m : Nat) (ha : a.length = n) (hb : b.length = m) (A B : Option Addr) (c d : Nat) (w : World)
    (hRa : Reads w w.heap.size 2 A n (rcells a)) (hRb : Reads w w.heap.size 2 B m (rcells b)) (hn : n ≤ 10000) (hm : m ≤ 10000) (hg : (goodB a && goodB b) = false) :
    Calls Try.prog 11 #[.slice A n c, .slice B m d] w (OutNo w) := by
  have H1 := Lib.hid (fun W hR => good_n n a ha A c W hR (by omega))
  have H2 := Lib.hid (fun W hR => good_n m b hb B d W hR (by omega))
  have HRa := Lib.hid hRa
  have HRb := Lib.hid hRb
  clear hRa hRb
  cases ga : goodB a
  · rw [ga] at H1
    clear hg
    go_enter Try.func11, Try.ntmps11
    go_wp2_with fail
    refine (H1.out _ HRa.out).mono ?_
    rintro e w1 ⟨rfl, b1⟩
    go_wp2_with fail
    go_ret2
    exact ⟨rfl, b1⟩
  · rw [ga, Bool.true_and] at hg
    rw [ga] at H1
    rw [hg] at H2
    clear hg
    go_enter Try.func11, Try.ntmps11
    go_wp2_with fail
    refine (H1.out _ HRa.out).mono ?_
    rintro e w1 ⟨rfl, b1⟩
    have HRb1 := Lib.hid ((HRb.out.below b1).more b1.size)
    go_wp2_with fail
    refine (H2.out _ HRb1.out).mono ?_
    rintro e w2 ⟨rfl, b2⟩
    go_wp2_with fail
    go_ret2
    exact ⟨rfl, b1.trans (b2.mono b1.size)⟩

theorem union_good (a b : List Rg) (n m : Nat) (ha : a.length = n) (hb : b.length = m) (A B : Option Addr) (c d : Nat) (w : World) (hA : A = none → c = 0) (hB : B = none → d = 0)
    (hRa : Reads w w.heap.size 2 A n (rcells a)) (hRb : Reads w w.heap.size 2 B m (rcells b)) (hn : n ≤ 5000) (hm : m ≤ 5000) (ga : Gd (-1) a) (gb : Gd (-1) b) :
    Calls Try.prog 11 #[.slice A n c, .slice B m d] w (OutSet (In (a ++ b)) (n + m) w) := by
  have H1 := Lib.hid (fun W hR => good_n n a ha A c W hR (by omega))
  have H2 := Lib.hid (fun W hR => good_n m b hb B d W hR (by omega))
  rw [(goodB_iff a).2 ga] at H1
  rw [(goodB_iff b).2 gb] at H2
  have HRa := Lib.hid hRa
  have HRb := Lib.hid hRb
  have HLa := Lib.hid ha
  have HLb := Lib.hid hb
  have HA := Lib.hid hA
  have HB := Lib.hid hB
  have HOk : Hid (∀ r ∈ a ++ b, Ok r) := Lib.hid (fun r hr => by
    rcases List.mem_append.1 hr with hr | hr
    · exact (ga.lo r hr).2
    · exact (gb.lo r hr).2)
  clear hRa hRb ha hb hA hB ga gb
  go_enter Try.func11, Try.ntmps11
  go_wp2_with fail
  refine (H1.out _ HRa.out).mono ?_
  rintro e w1 ⟨rfl, b1⟩
  have HRa1 := Lib.hid ((HRa.out.below b1).more b1.size)
  have HRb1 := Lib.hid ((HRb.out.below b1).more b1.size)
  clear HRa HRb H1
  go_wp2_with fail
  refine (H2.out _ HRb1.out).mono ?_
  rintro e w2 ⟨rfl, b2⟩
  have HRa2 := Lib.hid (((HRa1.out.below b2).more b2.size).alloc (Nat.le_refl _) (.cells #[.slice A n c, .slice B m d] 23))
  have HRb2 := Lib.hid (((HRb1.out.below b2).more b2.size).alloc (Nat.le_refl _) (.cells #[.slice A n c, .slice B m d] 23))
  have b12 := b1.trans (b2.mono b1.size)
  clear HRa1 HRb1 H2 b1 b2
  go_wp2_with fail
  refine (concat_any a b n m HLa.out HLb.out A B c d w2.heap.size 2 _ HA.out HB.out (by simp) (by simp) (HRa2.out.more (by simp)) (HRb2.out.more (by simp)) (by omega) (by omega)).mono ?_
  rintro e w3 ⟨A3, c3, rfl, hown3, b3⟩
  have b3' : Below w.heap.size w w3 := (b12.alloc b12.size _).trans (b3.mono (by have := b12.size; simp; omega))
  have HO3 := Lib.hid hown3
  clear hown3
  go_wp2_with fail
  refine (joined_any (a ++ b) (n + m) (by rw [List.length_append, HLa.out, HLb.out]) A3 c3 _ _ HO3.out (by omega) b3.size HOk.out).mono ?_
  rintro e w4 ⟨s, A4, c4, rfl, hn4, hs, hsl, hR4, g4⟩
  have HR4 := Lib.hid hR4
  have HS := Lib.hid hs
  have HSL := Lib.hid hsl
  have HN4 := Lib.hid hn4
  have b4 : Below w.heap.size w w4 := b3'.trans (g4.mono (by have := b12.size; simp; omega))
  clear hR4 hs hsl hn4
  go_wp2_with fail
  go_ret2
  exact ⟨s, A4, c4, rfl, HN4.out, HS.out, by have := HSL.out; rw [List.length_append, HLa.out, HLb.out] at this; exact this, HR4.out, b4⟩
end Go.Proofs.Ytehikcddnjibcaa
