/- What the statements call beside each answer: the program's own example. -/
import Derived.Test.YtjhcjdgmhggimaaLawKit
namespace Go.Proofs.Ytjhcjdgmhggimaa
open Go.RowKit Go.BigFrame
set_option linter.unusedVariables false
set_option linter.unusedSimpArgs false

set_option maxRecDepth 4000 in
set_option maxHeartbeats 4000000 in
theorem wakes_any (w : World) : Calls Try.prog 8 #[] w fun e w' => e = .returned (.bool true) ∧ Below w.heap.size w w' := by
  go_enter Try.func8, Try.ntmps8
  have bb_0 : Below w.heap.size w w := Below.refl _ _
  go_wp2_with fail
  have g_1 : Below w.heap.size w (w.alloc (.cells #[.int .u8 9] 5)) := below_new _ _
  have bb_1 := bb_0.trans (g_1.mono bb_0.size)
  have a_1 := Lib.hid (rb_lit w (w.heap.size) rfl [9] 1 #[.int .u8 9] rfl rfl (by decide) (by decide))
  clear bb_0 g_1
  have hz_1 : (w.alloc (.cells #[.int .u8 9] 5)).heap.size = w.heap.size + 1 := by simp
  generalize w.alloc (.cells #[.int .u8 9] 5) = W1 at *
  have HP := Lib.hid (put_r [9] 1 (some ⟨w.heap.size, 0, none⟩) 1 258 2 _ ⟨fun h => (by cases h), Nat.le_refl _, (by unfold maxLen; omega)⟩ a_1.out (by omega))
  rw [w_put] at HP
  refine (show Calls Try.prog 14 #[_, _, _] _ (OutR [9, 1, 2] 3 _) from HP.out).mono ?_
  rintro e W2 ⟨A2, c2, rfl, r2, s2, g⟩
  have bb_2 := bb_1.trans (g.mono bb_1.size)
  have x_2 := Lib.hid (r2)
  clear a_1 bb_1 g
  have sc2 := s2.2.1
  clear r2 s2 HP
  go_wp2_with fail
  have HG := Lib.hid (get_any [9, 1, 2] 3 A2 c2 1 2 _ x_2.out sc2 (by omega))
  rw [w_get] at HG
  refine (HG.out).mono ?_
  rintro e W3 ⟨rfl, g⟩
  have x_3 := Lib.hid (x_2.out.on g)
  have bb_3 := bb_2.trans (g.mono bb_2.size)
  clear x_2 bb_2 g
  clear HG
  go_wp2_with fail
  have HG := Lib.hid (get_any [9, 1, 2] 3 A2 c2 2 2 _ x_3.out sc2 (by omega))
  rw [w_getno] at HG
  refine (HG.out).mono ?_
  rintro e W4 ⟨rfl, g⟩
  have x_4 := Lib.hid (x_3.out.on g)
  have bb_4 := bb_3.trans (g.mono bb_3.size)
  clear x_3 bb_3 g
  clear HG
  go_wp2_with fail
  have g_5 : Below W4.heap.size W4 (W4.alloc (.cells #[.bool true, .bool false, .bool false, .bool false, .bool false, .bool false, .bool false, .bool false, .bool true] 4)) := below_new _ _
  have x_5 := Lib.hid (x_4.out.on g_5)
  have bb_5 := bb_4.trans (g_5.mono bb_4.size)
  have l_5 := Lib.hid (rl_lit W4 (W4.heap.size) rfl w9 9 #[.bool true, .bool false, .bool false, .bool false, .bool false, .bool false, .bool false, .bool false, .bool true] rfl rfl (by decide))
  clear x_4 bb_4 g_5
  have hz_5 : (W4.alloc (.cells #[.bool true, .bool false, .bool false, .bool false, .bool false, .bool false, .bool false, .bool false, .bool true] 4)).heap.size = W4.heap.size + 1 := by simp
  generalize W4.alloc (.cells #[.bool true, .bool false, .bool false, .bool false, .bool false, .bool false, .bool false, .bool false, .bool true] 4) = W5 at *
  refine (bits_is [1, 1] 2 w9 w_bits 9 rfl (some ⟨W4.heap.size, 0, none⟩) 9 _ l_5.out (by omega)).mono ?_
  rintro e W6 ⟨A6, c6, rfl, r6, s6, g⟩
  have x_6 := Lib.hid (x_5.out.on g)
  have bb_6 := bb_5.trans (g.mono bb_5.size)
  have b_6 := Lib.hid (r6)
  clear x_5 l_5 bb_5 g
  clear r6 s6
  go_wp2_with fail
  have HU := Lib.hid (unbits_any [1, 1] 2 A6 c6 9 _ b_6.out (by omega))
  rw [w_unb] at HU
  refine (HU.out).mono ?_
  rintro e W7 ⟨A7, c7, rfl, r7, s7, g⟩
  have x_7 := Lib.hid (x_6.out.on g)
  have b_7 := Lib.hid (b_6.out.on g)
  have bb_7 := bb_6.trans (g.mono bb_6.size)
  have u_7 := Lib.hid (show RL _ _ A7 9 w9 from r7)
  clear x_6 b_6 bb_6 g
  clear r7 s7 HU
  go_wp2_with fail
  have g_8 : Below W7.heap.size W7 (W7.alloc (.cells #[.int .u8 2] 5)) := below_new _ _
  have x_8 := Lib.hid (x_7.out.on g_8)
  have b_8 := Lib.hid (b_7.out.on g_8)
  have u_8 := Lib.hid (u_7.out.on g_8)
  have bb_8 := bb_7.trans (g_8.mono bb_7.size)
  have t_8 := Lib.hid (rb_lit W7 (W7.heap.size) rfl [2] 1 #[.int .u8 2] rfl rfl (by decide) (by decide))
  clear x_7 b_7 u_7 bb_7 g_8
  have hz_8 : (W7.alloc (.cells #[.int .u8 2] 5)).heap.size = W7.heap.size + 1 := by simp
  generalize W7.alloc (.cells #[.int .u8 2] 5) = W8 at *
  have HU := Lib.hid (unbits_any [2] 1 (some ⟨W7.heap.size, 0, none⟩) 1 1 _ t_8.out (by omega))
  rw [w_unbno] at HU
  refine (HU.out).mono ?_
  rintro e W9 ⟨A9, c9, rfl, r9, s9, g⟩
  have x_9 := Lib.hid (x_8.out.on g)
  have b_9 := Lib.hid (b_8.out.on g)
  have u_9 := Lib.hid (u_8.out.on g)
  have bb_9 := bb_8.trans (g.mono bb_8.size)
  clear x_8 b_8 u_8 t_8 bb_8 g
  clear r9 s9 HU
  go_wp2_with fail
  have g_10 : Below W9.heap.size W9 (W9.alloc (.cells #[.int .u8 9, .int .u8 1, .int .u8 2] 5)) := below_new _ _
  have x_10 := Lib.hid (x_9.out.on g_10)
  have b_10 := Lib.hid (b_9.out.on g_10)
  have u_10 := Lib.hid (u_9.out.on g_10)
  have bb_10 := bb_9.trans (g_10.mono bb_9.size)
  have y_10 := Lib.hid (rb_lit W9 (W9.heap.size) rfl [9, 1, 2] 3 #[.int .u8 9, .int .u8 1, .int .u8 2] rfl rfl (by decide) (by decide))
  clear x_9 b_9 u_9 bb_9 g_10
  have hz_10 : (W9.alloc (.cells #[.int .u8 9, .int .u8 1, .int .u8 2] 5)).heap.size = W9.heap.size + 1 := by simp
  generalize W9.alloc (.cells #[.int .u8 9, .int .u8 1, .int .u8 2] 5) = W10 at *
  refine (keepBytes_yes [9, 1, 2] [9, 1, 2] rfl 3 3 A2 (some ⟨W9.heap.size, 0, none⟩) c2 3 _ x_10.out y_10.out).mono ?_
  rintro e W11 ⟨rfl, g⟩
  have b_11 := Lib.hid (b_10.out.on g)
  have u_11 := Lib.hid (u_10.out.on g)
  have bb_11 := bb_10.trans (g.mono bb_10.size)
  clear x_10 b_10 u_10 y_10 bb_10 g
  go_wp2_with fail
  have g_12 : Below W11.heap.size W11 (W11.alloc (.cells #[.int .u8 1, .int .u8 1] 5)) := below_new _ _
  have b_12 := Lib.hid (b_11.out.on g_12)
  have u_12 := Lib.hid (u_11.out.on g_12)
  have bb_12 := bb_11.trans (g_12.mono bb_11.size)
  have y_12 := Lib.hid (rb_lit W11 (W11.heap.size) rfl [1, 1] 2 #[.int .u8 1, .int .u8 1] rfl rfl (by decide) (by decide))
  clear b_11 u_11 bb_11 g_12
  have hz_12 : (W11.alloc (.cells #[.int .u8 1, .int .u8 1] 5)).heap.size = W11.heap.size + 1 := by simp
  generalize W11.alloc (.cells #[.int .u8 1, .int .u8 1] 5) = W12 at *
  refine (keepBytes_yes [1, 1] [1, 1] rfl 2 2 A6 (some ⟨W11.heap.size, 0, none⟩) c6 2 _ b_12.out y_12.out).mono ?_
  rintro e W13 ⟨rfl, g⟩
  have u_13 := Lib.hid (u_12.out.on g)
  have bb_13 := bb_12.trans (g.mono bb_12.size)
  clear b_12 u_12 y_12 bb_12 g
  obtain ⟨bu, ou, rfl, _, pu8⟩ := u_13.out.at (k := 8) (by decide)
  obtain ⟨bu1, ou1, eu1, _, pu1⟩ := u_13.out.at (k := 1) (by decide)
  injection eu1 with eu1
  injection eu1 with eu2 eu3
  subst eu2 eu3
  have pu8b : W13.cell? ⟨bu, ou + 8, none⟩ = some (.bool true) := pu8
  have pu1b : W13.cell? ⟨bu, ou + 1, none⟩ = some (.bool false) := pu1
  clear pu8 pu1
  go_wp2_with fail
  have HS := Lib.hid (sum_b [] 0 none 0 W13 (RB.nil _ _ _) (by omega))
  rw [w_sum] at HS
  refine (HS.out).mono ?_
  rintro e W14 ⟨rfl, g⟩
  have u_14 := Lib.hid (u_13.out.on g)
  have bb_14 := bb_13.trans (g.mono bb_13.size)
  clear u_13 bb_13 g
  clear HS
  go_wp2_with fail
  have HP := Lib.hid (put_r [] 0 none 0 1 (-3) W14 ⟨fun _ => rfl, Nat.le_refl _, Nat.zero_le _⟩ (RB.nil _ _ _) (by omega))
  rw [w_put0] at HP
  refine (show Calls Try.prog 14 #[_, _, _] _ (OutR [] 0 _) from HP.out).mono ?_
  rintro e W15 ⟨A13, c13, rfl, r13, s13, g⟩
  have u_15 := Lib.hid (u_14.out.on g)
  have bb_15 := bb_14.trans (g.mono bb_14.size)
  clear u_14 bb_14 g
  clear r13 s13 HP
  go_wp2_with fail
  go_ret
  exact ⟨rfl, bb_15⟩
end Go.Proofs.Ytjhcjdgmhggimaa
