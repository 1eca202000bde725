/- What slices.Grow and slices.Concat return. -/
import Derived.Test.YtbnconieedgcmaaDoorApp
import Derived.Lib.AppendZeros
import Derived.BigRegion
namespace Go.Proofs.YtbnconieedgcmaaDoor
open Go.RowKit Go.BigFrame
set_option linter.unusedVariables false
set_option maxRecDepth 4000
set_option linter.unusedSimpArgs false

theorem grow_any (n : Nat) (w : World) (hn : n ≤ 100000) :
    Calls Tryd.prog 116 #[.slice none 0 0, .int .i64 n] w (OutY [] 0 w) := by
  obtain ⟨i0, hi0, hz0, hz1, hz2⟩ := info_parts info5
  by_cases h0 : n = 0
  · subst h0
    go_enter Tryd.func116, Tryd.ntmps116
    go_wp2_with fail
    go_ret
    exact ⟨none, 0, rfl, rfl, fun x hx => by simp at hx, World.ownsRow_nil _ _ _ _, Below.refl _ _⟩
  · have hpos : 0 < n := by omega
    have hrz := fun ty => Lib.run_append_nil_zeros (P := Tryd.prog) w 27 3 ty 5 i0 _ .i64 .i64 Tryd.underlying27 Tryd.underlying3 hi0 hz0 n hpos (by omega) (by omega) (by rw [hz2]; omega)
    have hcap := grownCap_le_maxLen w n 0 5 (by unfold maxLen; omega)
    have hge := grownCap_ge w n 0 5
    have hsz : (Builtin.zeroCells (Value.int .u8 0).cells n ++ Builtin.zeroCells (Value.int .u8 0).cells (grownCap w n 0 5 - n)).size = grownCap w n 0 5 * 1 := by
      rw [Array.size_append, size_zeroCells, size_zeroCells, show (Value.int .u8 0).cells.size = 1 from rfl]
      omega
    generalize Builtin.zeroCells (Value.int .u8 0).cells n ++ Builtin.zeroCells (Value.int .u8 0).cells (grownCap w n 0 5 - n) = Z at *
    generalize grownCap w n 0 5 = cap at *
    have HRZ := Lib.hid hrz
    have HSZ := Lib.hid hsz
    clear hrz hsz
    go_enter Tryd.func116, Tryd.ntmps116
    go_wp2_with (at_builtin; refine Lib.wpList_append_run _ rfl _ _ 27 3 rfl (.slice none 0 0) (.int .i64 n) rfl rfl (.slice (some ⟨w.heap.size, 0, none⟩) n cap) (w.drew.alloc (.cells Z 5)) (HRZ.out _) ?_)
    go_wp2_with fail
    go_ret
    exact ⟨some ⟨w.heap.size, 0, none⟩, cap, rfl, rfl, fun x hx => by simp at hx, World.ownsRow_made (size := 1) w.drew Z cap (Nat.le_refl _) hcap HSZ.out, (Below.drew (Below.refl _ _)).alloc (Nat.le_refl _) _⟩

set_option maxHeartbeats 1000000 in
theorem concat_any (a b : List Nat) (n m : Nat) (A B : Option Addr) (c d g k : Nat) (w : World) (hA : A = none → c = 0) (hB : B = none → d = 0)
    (g0 : w.cell? ⟨g, 0, none⟩ = some (.slice A n c)) (g1 : w.cell? ⟨g, 1, none⟩ = some (.slice B m d)) (hRa0 : RB w w.heap.size A n a) (hRb0 : RB w w.heap.size B m b) (hn : n ≤ 10000) (hm : m ≤ 10000) :
    Calls Tryd.prog 97 #[.slice (some ⟨g, 0, none⟩) 2 k] w (OutY (a ++ b) (n + m) w) := by
  obtain ⟨i0, hi0, hz0, hz1, hz2⟩ := info_parts info5
  have HL : Hid ((a ++ b).length = n + m) := Lib.hid (by rw [List.length_append, hRa0.1, hRb0.1])
  have HLT : Hid (∀ x ∈ a ++ b, x < 256) := Lib.hid (fun x hx => (List.mem_append.1 hx).elim (hRa0.2.2 x) (hRb0.2.2 x))
  have hRa := hRa0.2.1
  have hRb := hRb0.2.1
  have HRa := Lib.hid hRa
  have HRb := Lib.hid hRb
  have HA := Lib.hid hA
  have HB := Lib.hid hB
  clear hRa hRb hA hB hRa0 hRb0
  go_enter Tryd.func97, Tryd.ntmps97
  go_wp2_with fail
  refine wp_loop_rounds 3 ?_
  rw [rounds_succ]
  go_wp2_with fail
  rw [rounds_succ]
  go_wp2_with fail
  rw [rounds_succ]
  go_wp2_with fail
  refine (grow_any (n + m) _ (by omega)).mono ?_
  rintro e w1 ⟨A1, c1, rfl, _, _, hown, hb1⟩
  have g0' := kept_cell hb1 g0
  have g1' := kept_cell hb1 g1
  have HRa1 := Lib.hid ((HRa.out.below hb1))
  have G1 := Lib.hid g1
  have hs1 := hb1.size
  clear g0 g1 HRa
  go_wp2_with fail
  refine wp_loop_rounds 3 ?_
  rw [rounds_succ]
  go_wp2_with (at_builtin; refine wpList_append_src rfl _ _ 27 rfl w.heap.size 5 i0 _ 1 1 Tryd.underlying27 hi0 hz0 hz1 hz2 rfl (by decide) _ _ _ rfl hown A n c w.heap.size (ycells a) rfl HA.out HRa1.out (ycells_one a) ?c3 ?c4 ?c5 ?_)
  case c3 => unfold maxLen; omega
  case c4 => omega
  case c5 => exact hs1
  intro A2 c2 w2 hown2 hn2 hgrow2
  have b2 : Below w.heap.size w w2 := below_grown hb1 hs1 hown hgrow2
  have g1'' := kept_cell b2 G1.out
  have hs2 := b2.size
  have HRb2 := Lib.hid ((HRb.out.below b2))
  simp only [Nat.zero_add, ycells_nil, List.nil_append] at hown2 ⊢
  clear g0' g1' G1 hgrow2 hown HRa1 HRb
  go_wp2_with fail
  rw [rounds_succ]
  go_wp2_with (at_builtin; refine wpList_append_src rfl _ _ 27 rfl w.heap.size 5 i0 _ 1 1 Tryd.underlying27 hi0 hz0 hz1 hz2 rfl (by decide) _ _ _ rfl hown2 B m d w.heap.size (ycells b) rfl HB.out HRb2.out (ycells_one b) ?c3 ?c4 ?c5 ?_)
  case c3 => unfold maxLen; omega
  case c4 => omega
  case c5 => exact hs2
  intro A3 c3 w3 hown3 hn3 hgrow3
  have b3 : Below w.heap.size w w3 := below_grown b2 hs2 hown2 hgrow3
  have HO3 : Hid (w3.ownsRow w.heap.size 5 1 (.slice A3 (n + m) c3) (n + m) (ycells (a ++ b))) := Lib.hid (by rw [ycells_app]; exact hown3)
  clear hown3 hgrow3 hown2
  go_wp2_with fail
  rw [rounds_succ]
  go_wp2_with fail
  go_ret
  exact ⟨A3, c3, rfl, HL.out, HLT.out, HO3.out, b3⟩

end Go.Proofs.YtbnconieedgcmaaDoor
