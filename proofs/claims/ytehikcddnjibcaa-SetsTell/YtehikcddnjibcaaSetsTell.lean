/- The law SetsTell returns true at every two sets and every integer: the program tells what the document tells. Conditions: none; nothing that was there is touched. -/
import Derived.Test.YtehikcddnjibcaaFrame
import Derived.Test.YtehikcddnjibcaaTellKit
namespace Go.Proofs.Ytehikcddnjibcaa.setsTell
open Go.ChangeShapes Go.WideShapes Go.ChangeAt Go.RowKit Go.BigFrame
set_option linter.unusedVariables false
set_option linter.unusedSimpArgs false

theorem new_two (W : World) (x y : Value) (N : Nat) (h : W.heap.size = N) : (W.alloc (.cells #[x, y] 31)).cell? ⟨N, 0, none⟩ = some x ∧ (W.alloc (.cells #[x, y] 31)).cell? ⟨N, 1, none⟩ = some y := by
  subst h
  constructor <;> simp
theorem keep_self {P : List Rg} {n : Nat} (lP : P.length = n) {A B : Option Addr} {c d : Nat} {w : World} (hP : Reads w w.heap.size 2 A n (rcells P)) (hQ : Reads w w.heap.size 2 B n (rcells P)) (hn : n ≤ 1048576) :
    Calls Try.prog 25 #[.slice A n c, .slice B n d] w fun e w' => e = .returned (.bool true) ∧ Below w.heap.size w w' := by
  have h := keep_n P P n n lP lP A B c d w hP hQ hn
  rwa [show eqL P P = true from decide_eq_true rfl] at h

set_option maxRecDepth 100000 in
set_option maxHeartbeats 4000000 in
theorem walk_small (a b : List Rg) (n m : Nat) (ha : a.length = n) (hb : b.length = m) (A B : Option Addr) (c d : Nat) (v : Int) (w : World) (hA : Shp A n c) (hB : Shp B m d) (hRa : Reads w w.heap.size 2 A n (rcells a)) (hRb : Reads w w.heap.size 2 B m (rcells b)) (h1 : n ≤ 60) (h2 : m ≤ 60) :
    Calls Try.prog 3 #[.slice A n c, .slice B m d, .int .i64 v] w fun e w' => e = .returned (.bool true) ∧ Below w.heap.size w w' := by
  obtain ⟨i0, hi0, hz0, hz1, hz2⟩ := info_parts info41
  have Ha := Lib.hid hRa
  have Hb := Lib.hid hRb
  have La := Lib.hid ha
  have Lb := Lib.hid hb
  have Sa := Lib.hid hA
  have Sb := Lib.hid hB
  clear hRa hRb ha hb hA hB
  have b0 := Below.refl w.heap.size w
  go_enter Try.func3, Try.ntmps3
  go_wp2_with fail
  refine (large_no A B n m c d w h1 h2).mono ?_
  rintro e w' ⟨rfl, rfl⟩
  go_wp2_with (at_builtin; refine wpList_append_src rfl _ _ 23 rfl w.heap.size 41 i0 _ 2 16 Try.underlying23 hi0 hz0 hz1 hz2 rfl (by decide) _ _ _ rfl (World.ownsRow_made (size := 2) w #[] 0 (Nat.le_refl _) (Nat.zero_le _) (by simp)) A n c w.heap.size (rcells a) rfl Sa.out.1 (Ha.out.alloc (Nat.le_refl _) _) (rcells_one a) ?k3 ?k4 ?k5 ?_)
  case k3 => first | omega | (unfold maxLen; omega)
  case k4 => omega
  case k5 => simp
  first | (intro Ap cp w1 hown hnn hgrow) | (rename_i Ap cp w1 hown hnn hgrow)
  have g1 : Below w.heap.size w w1 := below_grown (below_new _ _) (by simp) (World.ownsRow_made (size := 2) w #[] 0 (Nat.le_refl _) (Nat.zero_le _) (by simp)) hgrow
  try simp only [Nat.zero_add, List.nil_append] at hown ⊢
  have Sp_ := Lib.hid (own_shp hown)
  have Hp_n := Lib.hid (Reads.of_own hown)
  clear hown hnn hgrow
  have Ha_1 := Lib.hid (reads_on Ha.out g1)
  have Hb_1 := Lib.hid (reads_on Hb.out g1)
  have b_1 := b0.trans (g1.mono b0.size)
  clear g1 Ha Hb b0
  go_wp2_with (at_builtin; refine wpList_append_src rfl _ _ 23 rfl w1.heap.size 41 i0 _ 2 16 Try.underlying23 hi0 hz0 hz1 hz2 rfl (by decide) _ _ _ rfl (World.ownsRow_made (size := 2) w1 #[] 0 (Nat.le_refl _) (Nat.zero_le _) (by simp)) B m d w1.heap.size (rcells b) rfl Sb.out.1 (Hb_1.out.alloc (Nat.le_refl _) _) (rcells_one b) ?k3 ?k4 ?k5 ?_)
  case k3 => first | omega | (unfold maxLen; omega)
  case k4 => omega
  case k5 => simp
  first | (intro Aq cq w2 hown hnn hgrow) | (rename_i Aq cq w2 hown hnn hgrow)
  have g2 : Below w1.heap.size w1 w2 := below_grown (below_new _ _) (by simp) (World.ownsRow_made (size := 2) w1 #[] 0 (Nat.le_refl _) (Nat.zero_le _) (by simp)) hgrow
  try simp only [Nat.zero_add, List.nil_append] at hown ⊢
  have Sq := Lib.hid (own_shp hown)
  have Hq_n := Lib.hid (Reads.of_own hown)
  clear hown hnn hgrow
  have Ha_2 := Lib.hid (reads_on Ha_1.out g2)
  have Hb_2 := Lib.hid (reads_on Hb_1.out g2)
  have Hp_2 := Lib.hid (reads_on Hp_n.out g2)
  have b_2 := b_1.trans (g2.mono b_1.size)
  clear g2 Ha_1 Hb_1 Hp_n b_1
  go_wp2_with (at_builtin; refine wpList_append_named rfl _ _ 22 23 rfl w2.heap.size 41 41 i0 _ 2 16 Try.underlying22 Try.underlying23 hi0 hz0 hz1 hz2 rfl (by decide) _ _ _ rfl (World.ownsRow_made (size := 2) w2 #[] 0 (Nat.le_refl _) (Nat.zero_le _) (by simp)) A n c w2.heap.size (rcells a) rfl Sa.out.1 (Ha_2.out.alloc (Nat.le_refl _) _) (rcells_one a) ?k3 ?k4 ?k5 ?_)
  case k3 => first | omega | (unfold maxLen; omega)
  case k4 => omega
  case k5 => simp
  first | (intro Ax cx w3 hown hnn hgrow) | (rename_i Ax cx w3 hown hnn hgrow)
  have g3 : Below w2.heap.size w2 w3 := below_grown (below_new _ _) (by simp) (World.ownsRow_made (size := 2) w2 #[] 0 (Nat.le_refl _) (Nat.zero_le _) (by simp)) hgrow
  try simp only [Nat.zero_add, List.nil_append] at hown ⊢
  have Sx := Lib.hid (own_shp hown)
  have Hx_n := Lib.hid (Reads.of_own hown)
  clear hown hnn hgrow
  have Ha_3 := Lib.hid (reads_on Ha_2.out g3)
  have Hb_3 := Lib.hid (reads_on Hb_2.out g3)
  have Hp_3 := Lib.hid (reads_on Hp_2.out g3)
  have Hq_3 := Lib.hid (reads_on Hq_n.out g3)
  have b_3 := b_2.trans (g3.mono b_2.size)
  clear g3 Ha_2 Hb_2 Hp_2 Hq_n b_2
  go_wp2_with fail
  refine (of_P a n La.out Ax cx _ Sx.out Hx_n.out (by omega)).mono ?_
  rintro e w4 ⟨sC, kC, AC, cC, okC, rfl, lC, mC, shC, spC, rC, g4⟩
  have Ha_4 := Lib.hid (reads_on Ha_3.out g4)
  have Hb_4 := Lib.hid (reads_on Hb_3.out g4)
  have Hp_4 := Lib.hid (reads_on Hp_3.out g4)
  have Hq_4 := Lib.hid (reads_on Hq_3.out g4)
  have Hx_4 := Lib.hid (reads_on Hx_n.out g4)
  have b_4 := b_3.trans (g4.mono b_3.size)
  clear g4 Ha_3 Hb_3 Hp_3 Hq_3 Hx_n b_3
  have LC := Lib.hid lC
  have SC := Lib.hid shC
  have PC := Lib.hid spC
  have HC_n := Lib.hid rC
  clear lC shC spC rC
  go_wp2_with fail
  refine (union_P a b n m La.out Lb.out Ap Aq cp cq _ Sp_.out Sq.out Hp_4.out Hq_4.out (by omega) (by omega)).mono ?_
  rintro e w5 ⟨sD, kD, AD, cD, okD, rfl, lD, mD, shD, spD, rD, g5⟩
  have Ha_5 := Lib.hid (reads_on Ha_4.out g5)
  have Hb_5 := Lib.hid (reads_on Hb_4.out g5)
  have Hp_5 := Lib.hid (reads_on Hp_4.out g5)
  have Hq_5 := Lib.hid (reads_on Hq_4.out g5)
  have Hx_5 := Lib.hid (reads_on Hx_4.out g5)
  have HC_5 := Lib.hid (reads_on HC_n.out g5)
  have b_5 := b_4.trans (g5.mono b_4.size)
  clear g5 Ha_4 Hb_4 Hp_4 Hq_4 Hx_4 HC_n b_4
  have LD := Lib.hid lD
  have SD := Lib.hid shD
  have PD := Lib.hid spD
  have HD_n := Lib.hid rD
  clear lD shD spD rD
  go_wp2_with fail
  refine (both_P a b n m La.out Lb.out Ap Aq cp cq _ Sp_.out Sq.out Hp_5.out Hq_5.out (by omega) (by omega)).mono ?_
  rintro e w6 ⟨sE, kE, AE, cE, okE, rfl, lE, mE, shE, spE, rE, g6⟩
  have Ha_6 := Lib.hid (reads_on Ha_5.out g6)
  have Hb_6 := Lib.hid (reads_on Hb_5.out g6)
  have Hp_6 := Lib.hid (reads_on Hp_5.out g6)
  have Hq_6 := Lib.hid (reads_on Hq_5.out g6)
  have Hx_6 := Lib.hid (reads_on Hx_5.out g6)
  have HC_6 := Lib.hid (reads_on HC_5.out g6)
  have HD_6 := Lib.hid (reads_on HD_n.out g6)
  have b_6 := b_5.trans (g6.mono b_5.size)
  clear g6 Ha_5 Hb_5 Hp_5 Hq_5 Hx_5 HC_5 HD_n b_5
  have LE := Lib.hid lE
  have SE := Lib.hid shE
  have PE := Lib.hid spE
  have HE_n := Lib.hid rE
  clear lE shE spE rE
  go_wp2_with fail
  refine (not_P a n La.out Ap cp _ Sp_.out Hp_6.out (by omega)).mono ?_
  rintro e w7 ⟨sF, kF, AF, cF, okF, rfl, lF, mF, shF, spF, rF, g7⟩
  have Ha_7 := Lib.hid (reads_on Ha_6.out g7)
  have Hb_7 := Lib.hid (reads_on Hb_6.out g7)
  have Hp_7 := Lib.hid (reads_on Hp_6.out g7)
  have Hq_7 := Lib.hid (reads_on Hq_6.out g7)
  have Hx_7 := Lib.hid (reads_on Hx_6.out g7)
  have HC_7 := Lib.hid (reads_on HC_6.out g7)
  have HD_7 := Lib.hid (reads_on HD_6.out g7)
  have HE_7 := Lib.hid (reads_on HE_n.out g7)
  have b_7 := b_6.trans (g7.mono b_6.size)
  clear g7 Ha_6 Hb_6 Hp_6 Hq_6 Hx_6 HC_6 HD_6 HE_n b_6
  have LF := Lib.hid lF
  have SF := Lib.hid shF
  have PF := Lib.hid spF
  have HF_n := Lib.hid rF
  clear lF shF spF rF
  go_wp2_with fail
  refine (of_R a n La.out A c _ Sa.out Ha_7.out (by omega) PC.out LC.out).mono ?_
  rintro e w8 ⟨AI, cI, rfl, shI, rI, g8⟩
  have Ha_8 := Lib.hid (reads_on Ha_7.out g8)
  have Hb_8 := Lib.hid (reads_on Hb_7.out g8)
  have Hp_8 := Lib.hid (reads_on Hp_7.out g8)
  have Hq_8 := Lib.hid (reads_on Hq_7.out g8)
  have Hx_8 := Lib.hid (reads_on Hx_7.out g8)
  have HC_8 := Lib.hid (reads_on HC_7.out g8)
  have HD_8 := Lib.hid (reads_on HD_7.out g8)
  have HE_8 := Lib.hid (reads_on HE_7.out g8)
  have HF_8 := Lib.hid (reads_on HF_n.out g8)
  have b_8 := b_7.trans (g8.mono b_7.size)
  clear g8 Ha_7 Hb_7 Hp_7 Hq_7 Hx_7 HC_7 HD_7 HE_7 HF_n b_7
  have SI := Lib.hid shI
  have HI_n := Lib.hid rI
  clear shI rI
  go_wp2_with fail
  refine (union_R a b n m La.out Lb.out A B c d _ Sa.out Sb.out Ha_8.out Hb_8.out (by omega) (by omega) PD.out LD.out).mono ?_
  rintro e w9 ⟨AJ, cJ, rfl, shJ, rJ, g9⟩
  have Ha_9 := Lib.hid (reads_on Ha_8.out g9)
  have Hb_9 := Lib.hid (reads_on Hb_8.out g9)
  have Hp_9 := Lib.hid (reads_on Hp_8.out g9)
  have Hq_9 := Lib.hid (reads_on Hq_8.out g9)
  have Hx_9 := Lib.hid (reads_on Hx_8.out g9)
  have HC_9 := Lib.hid (reads_on HC_8.out g9)
  have HD_9 := Lib.hid (reads_on HD_8.out g9)
  have HE_9 := Lib.hid (reads_on HE_8.out g9)
  have HF_9 := Lib.hid (reads_on HF_8.out g9)
  have HI_9 := Lib.hid (reads_on HI_n.out g9)
  have b_9 := b_8.trans (g9.mono b_8.size)
  clear g9 Ha_8 Hb_8 Hp_8 Hq_8 Hx_8 HC_8 HD_8 HE_8 HF_8 HI_n b_8
  have SJ := Lib.hid shJ
  have HJ_n := Lib.hid rJ
  clear shJ rJ
  go_wp2_with fail
  refine (both_R a b n m La.out Lb.out A B c d _ Sa.out Sb.out Ha_9.out Hb_9.out (by omega) (by omega) PE.out LE.out).mono ?_
  rintro e w10 ⟨AK, cK, rfl, shK, rK, g10⟩
  have Ha_10 := Lib.hid (reads_on Ha_9.out g10)
  have Hb_10 := Lib.hid (reads_on Hb_9.out g10)
  have Hp_10 := Lib.hid (reads_on Hp_9.out g10)
  have Hq_10 := Lib.hid (reads_on Hq_9.out g10)
  have Hx_10 := Lib.hid (reads_on Hx_9.out g10)
  have HC_10 := Lib.hid (reads_on HC_9.out g10)
  have HD_10 := Lib.hid (reads_on HD_9.out g10)
  have HE_10 := Lib.hid (reads_on HE_9.out g10)
  have HF_10 := Lib.hid (reads_on HF_9.out g10)
  have HI_10 := Lib.hid (reads_on HI_9.out g10)
  have HJ_10 := Lib.hid (reads_on HJ_n.out g10)
  have b_10 := b_9.trans (g10.mono b_9.size)
  clear g10 Ha_9 Hb_9 Hp_9 Hq_9 Hx_9 HC_9 HD_9 HE_9 HF_9 HI_9 HJ_n b_9
  have SK := Lib.hid shK
  have HK_n := Lib.hid rK
  clear shK rK
  go_wp2_with fail
  refine (not_R a n La.out A c _ Sa.out Ha_10.out (by omega) PF.out LF.out).mono ?_
  rintro e w11 ⟨AM, cM, rfl, shM, rM, g11⟩
  have Ha_11 := Lib.hid (reads_on Ha_10.out g11)
  have Hb_11 := Lib.hid (reads_on Hb_10.out g11)
  have Hp_11 := Lib.hid (reads_on Hp_10.out g11)
  have Hq_11 := Lib.hid (reads_on Hq_10.out g11)
  have Hx_11 := Lib.hid (reads_on Hx_10.out g11)
  have HC_11 := Lib.hid (reads_on HC_10.out g11)
  have HD_11 := Lib.hid (reads_on HD_10.out g11)
  have HE_11 := Lib.hid (reads_on HE_10.out g11)
  have HF_11 := Lib.hid (reads_on HF_10.out g11)
  have HI_11 := Lib.hid (reads_on HI_10.out g11)
  have HJ_11 := Lib.hid (reads_on HJ_10.out g11)
  have HK_11 := Lib.hid (reads_on HK_n.out g11)
  have b_11 := b_10.trans (g11.mono b_10.size)
  clear g11 Ha_10 Hb_10 Hp_10 Hq_10 Hx_10 HC_10 HD_10 HE_10 HF_10 HI_10 HJ_10 HK_n b_10
  have SM := Lib.hid shM
  have HM_n := Lib.hid rM
  clear shM rM
  go_wp2_with fail
  have g12 : Below w11.heap.size w11 ((((w11.alloc (.cells #[.slice AI kC cI, .bool okC] 31)).alloc (.cells #[.slice AJ kD cJ, .bool okD] 31)).alloc (.cells #[.slice AK kE cK, .bool okE] 31)).alloc (.cells #[.slice AM kF cM, .bool okF] 31)) := ((((below_new _ _).alloc (by simp) _).alloc (by simp; omega) _).alloc (by simp; omega) _)
  have cI0 : ((((w11.alloc (.cells #[.slice AI kC cI, .bool okC] 31)).alloc (.cells #[.slice AJ kD cJ, .bool okD] 31)).alloc (.cells #[.slice AK kE cK, .bool okE] 31)).alloc (.cells #[.slice AM kF cM, .bool okF] 31)).cell? ⟨w11.heap.size, 0, none⟩ = some (.slice AI kC cI) := cell_alloc _ (cell_alloc _ (cell_alloc _ ((new_two _ _ _ _ (by simp)).1)))
  have cI1 : ((((w11.alloc (.cells #[.slice AI kC cI, .bool okC] 31)).alloc (.cells #[.slice AJ kD cJ, .bool okD] 31)).alloc (.cells #[.slice AK kE cK, .bool okE] 31)).alloc (.cells #[.slice AM kF cM, .bool okF] 31)).cell? ⟨w11.heap.size, 1, none⟩ = some (.bool okC) := cell_alloc _ (cell_alloc _ (cell_alloc _ ((new_two _ _ _ _ (by simp)).2)))
  have cJ0 : ((((w11.alloc (.cells #[.slice AI kC cI, .bool okC] 31)).alloc (.cells #[.slice AJ kD cJ, .bool okD] 31)).alloc (.cells #[.slice AK kE cK, .bool okE] 31)).alloc (.cells #[.slice AM kF cM, .bool okF] 31)).cell? ⟨w11.heap.size + 1, 0, none⟩ = some (.slice AJ kD cJ) := cell_alloc _ (cell_alloc _ ((new_two _ _ _ _ (by simp)).1))
  have cJ1 : ((((w11.alloc (.cells #[.slice AI kC cI, .bool okC] 31)).alloc (.cells #[.slice AJ kD cJ, .bool okD] 31)).alloc (.cells #[.slice AK kE cK, .bool okE] 31)).alloc (.cells #[.slice AM kF cM, .bool okF] 31)).cell? ⟨w11.heap.size + 1, 1, none⟩ = some (.bool okD) := cell_alloc _ (cell_alloc _ ((new_two _ _ _ _ (by simp)).2))
  have cK0 : ((((w11.alloc (.cells #[.slice AI kC cI, .bool okC] 31)).alloc (.cells #[.slice AJ kD cJ, .bool okD] 31)).alloc (.cells #[.slice AK kE cK, .bool okE] 31)).alloc (.cells #[.slice AM kF cM, .bool okF] 31)).cell? ⟨w11.heap.size + 1 + 1, 0, none⟩ = some (.slice AK kE cK) := cell_alloc _ ((new_two _ _ _ _ (by simp)).1)
  have cK1 : ((((w11.alloc (.cells #[.slice AI kC cI, .bool okC] 31)).alloc (.cells #[.slice AJ kD cJ, .bool okD] 31)).alloc (.cells #[.slice AK kE cK, .bool okE] 31)).alloc (.cells #[.slice AM kF cM, .bool okF] 31)).cell? ⟨w11.heap.size + 1 + 1, 1, none⟩ = some (.bool okE) := cell_alloc _ ((new_two _ _ _ _ (by simp)).2)
  have cM0 : ((((w11.alloc (.cells #[.slice AI kC cI, .bool okC] 31)).alloc (.cells #[.slice AJ kD cJ, .bool okD] 31)).alloc (.cells #[.slice AK kE cK, .bool okE] 31)).alloc (.cells #[.slice AM kF cM, .bool okF] 31)).cell? ⟨w11.heap.size + 1 + 1 + 1, 0, none⟩ = some (.slice AM kF cM) := (new_two _ _ _ _ (by simp)).1
  have cM1 : ((((w11.alloc (.cells #[.slice AI kC cI, .bool okC] 31)).alloc (.cells #[.slice AJ kD cJ, .bool okD] 31)).alloc (.cells #[.slice AK kE cK, .bool okE] 31)).alloc (.cells #[.slice AM kF cM, .bool okF] 31)).cell? ⟨w11.heap.size + 1 + 1 + 1, 1, none⟩ = some (.bool okF) := (new_two _ _ _ _ (by simp)).2
  generalize ((((w11.alloc (.cells #[.slice AI kC cI, .bool okC] 31)).alloc (.cells #[.slice AJ kD cJ, .bool okD] 31)).alloc (.cells #[.slice AK kE cK, .bool okE] 31)).alloc (.cells #[.slice AM kF cM, .bool okF] 31)) = w12 at *
  have Ha_12 := Lib.hid (reads_on Ha_11.out g12)
  have Hb_12 := Lib.hid (reads_on Hb_11.out g12)
  have Hp_12 := Lib.hid (reads_on Hp_11.out g12)
  have Hq_12 := Lib.hid (reads_on Hq_11.out g12)
  have HC_12 := Lib.hid (reads_on HC_11.out g12)
  have HD_12 := Lib.hid (reads_on HD_11.out g12)
  have HE_12 := Lib.hid (reads_on HE_11.out g12)
  have HF_12 := Lib.hid (reads_on HF_11.out g12)
  have HI_12 := Lib.hid (reads_on HI_11.out g12)
  have HJ_12 := Lib.hid (reads_on HJ_11.out g12)
  have HK_12 := Lib.hid (reads_on HK_11.out g12)
  have HM_12 := Lib.hid (reads_on HM_n.out g12)
  have b_12 := b_11.trans (g12.mono b_11.size)
  clear g12 Ha_11 Hb_11 Hp_11 Hq_11 HC_11 HD_11 HE_11 HF_11 HI_11 HJ_11 HK_11 HM_n b_11
  have H18 := Lib.hid (fun W h => good_n n a La.out Ap cp W h (by omega))
  have H19 := Lib.hid (fun W h => refGood_n n a La.out A c W h (by omega))
  have H20 := Lib.hid (fun W h => has_n a n La.out Ap cp v W h (by omega))
  have H21 := Lib.hid (fun W h => refHas_n a n La.out A c v W h (by omega))
  have H22 := Lib.hid (fun W h => size_n a n La.out Ap cp W h (by omega))
  have H23 := Lib.hid (fun W h => refSize_n a n La.out A c W h (by omega))
  have H24 := Lib.hid (fun W h h' => same_n a b n m La.out Lb.out Ap Aq cp cq W h h' (by omega))
  have H25 := Lib.hid (fun W h h' => keep_n a b n m La.out Lb.out A B c d W h h' (by omega))
  have H26 := Lib.hid (fun W h h' => less_n a b n m La.out Lb.out Ap Aq cp cq W h h' (by omega) (by omega))
  have H27 := Lib.hid (fun W h h' => refLess_n a b n m La.out Lb.out A B c d W h h' (by omega) (by omega))
  clear PC PD PE PF
  generalize (if goodB a then sizeL a else 0) = xs at *
  generalize goodB a = xg at *
  generalize hasB a v = xh at *
  generalize eqL a b = xe at *
  generalize lessL a b = xl at *
  refine (H18.out _ Hp_12.out).mono ?_
  rintro e w13 ⟨rfl, g13⟩
  have Ha_13 := Lib.hid (reads_on Ha_12.out g13)
  have Hb_13 := Lib.hid (reads_on Hb_12.out g13)
  have Hp_13 := Lib.hid (reads_on Hp_12.out g13)
  have Hq_13 := Lib.hid (reads_on Hq_12.out g13)
  have HC_13 := Lib.hid (reads_on HC_12.out g13)
  have HD_13 := Lib.hid (reads_on HD_12.out g13)
  have HE_13 := Lib.hid (reads_on HE_12.out g13)
  have HF_13 := Lib.hid (reads_on HF_12.out g13)
  have HI_13 := Lib.hid (reads_on HI_12.out g13)
  have HJ_13 := Lib.hid (reads_on HJ_12.out g13)
  have HK_13 := Lib.hid (reads_on HK_12.out g13)
  have HM_13 := Lib.hid (reads_on HM_12.out g13)
  have cI0_13 := kept_cell g13 cI0
  have cI1_13 := kept_cell g13 cI1
  have cJ0_13 := kept_cell g13 cJ0
  have cJ1_13 := kept_cell g13 cJ1
  have cK0_13 := kept_cell g13 cK0
  have cK1_13 := kept_cell g13 cK1
  have cM0_13 := kept_cell g13 cM0
  have cM1_13 := kept_cell g13 cM1
  have b_13 := b_12.trans (g13.mono b_12.size)
  clear g13 Ha_12 Hb_12 Hp_12 Hq_12 HC_12 HD_12 HE_12 HF_12 HI_12 HJ_12 HK_12 HM_12 cI0 cI1 cJ0 cJ1 cK0 cK1 cM0 cM1 b_12
  go_wp2_with fail
  refine (H19.out _ Ha_13.out).mono ?_
  rintro e w14 ⟨rfl, g14⟩
  have Ha_14 := Lib.hid (reads_on Ha_13.out g14)
  have Hb_14 := Lib.hid (reads_on Hb_13.out g14)
  have Hp_14 := Lib.hid (reads_on Hp_13.out g14)
  have Hq_14 := Lib.hid (reads_on Hq_13.out g14)
  have HC_14 := Lib.hid (reads_on HC_13.out g14)
  have HD_14 := Lib.hid (reads_on HD_13.out g14)
  have HE_14 := Lib.hid (reads_on HE_13.out g14)
  have HF_14 := Lib.hid (reads_on HF_13.out g14)
  have HI_14 := Lib.hid (reads_on HI_13.out g14)
  have HJ_14 := Lib.hid (reads_on HJ_13.out g14)
  have HK_14 := Lib.hid (reads_on HK_13.out g14)
  have HM_14 := Lib.hid (reads_on HM_13.out g14)
  have cI0_14 := kept_cell g14 cI0_13
  have cI1_14 := kept_cell g14 cI1_13
  have cJ0_14 := kept_cell g14 cJ0_13
  have cJ1_14 := kept_cell g14 cJ1_13
  have cK0_14 := kept_cell g14 cK0_13
  have cK1_14 := kept_cell g14 cK1_13
  have cM0_14 := kept_cell g14 cM0_13
  have cM1_14 := kept_cell g14 cM1_13
  have b_14 := b_13.trans (g14.mono b_13.size)
  clear g14 Ha_13 Hb_13 Hp_13 Hq_13 HC_13 HD_13 HE_13 HF_13 HI_13 HJ_13 HK_13 HM_13 cI0_13 cI1_13 cJ0_13 cJ1_13 cK0_13 cK1_13 cM0_13 cM1_13 b_13
  go_wp2_with fail
  refine (H20.out _ Hp_14.out).mono ?_
  rintro e w15 ⟨rfl, g15⟩
  have Ha_15 := Lib.hid (reads_on Ha_14.out g15)
  have Hb_15 := Lib.hid (reads_on Hb_14.out g15)
  have Hp_15 := Lib.hid (reads_on Hp_14.out g15)
  have Hq_15 := Lib.hid (reads_on Hq_14.out g15)
  have HC_15 := Lib.hid (reads_on HC_14.out g15)
  have HD_15 := Lib.hid (reads_on HD_14.out g15)
  have HE_15 := Lib.hid (reads_on HE_14.out g15)
  have HF_15 := Lib.hid (reads_on HF_14.out g15)
  have HI_15 := Lib.hid (reads_on HI_14.out g15)
  have HJ_15 := Lib.hid (reads_on HJ_14.out g15)
  have HK_15 := Lib.hid (reads_on HK_14.out g15)
  have HM_15 := Lib.hid (reads_on HM_14.out g15)
  have cI0_15 := kept_cell g15 cI0_14
  have cI1_15 := kept_cell g15 cI1_14
  have cJ0_15 := kept_cell g15 cJ0_14
  have cJ1_15 := kept_cell g15 cJ1_14
  have cK0_15 := kept_cell g15 cK0_14
  have cK1_15 := kept_cell g15 cK1_14
  have cM0_15 := kept_cell g15 cM0_14
  have cM1_15 := kept_cell g15 cM1_14
  have b_15 := b_14.trans (g15.mono b_14.size)
  clear g15 Ha_14 Hb_14 Hp_14 Hq_14 HC_14 HD_14 HE_14 HF_14 HI_14 HJ_14 HK_14 HM_14 cI0_14 cI1_14 cJ0_14 cJ1_14 cK0_14 cK1_14 cM0_14 cM1_14 b_14
  go_wp2_with fail
  refine (H21.out _ Ha_15.out).mono ?_
  rintro e w16 ⟨rfl, g16⟩
  have Ha_16 := Lib.hid (reads_on Ha_15.out g16)
  have Hb_16 := Lib.hid (reads_on Hb_15.out g16)
  have Hp_16 := Lib.hid (reads_on Hp_15.out g16)
  have Hq_16 := Lib.hid (reads_on Hq_15.out g16)
  have HC_16 := Lib.hid (reads_on HC_15.out g16)
  have HD_16 := Lib.hid (reads_on HD_15.out g16)
  have HE_16 := Lib.hid (reads_on HE_15.out g16)
  have HF_16 := Lib.hid (reads_on HF_15.out g16)
  have HI_16 := Lib.hid (reads_on HI_15.out g16)
  have HJ_16 := Lib.hid (reads_on HJ_15.out g16)
  have HK_16 := Lib.hid (reads_on HK_15.out g16)
  have HM_16 := Lib.hid (reads_on HM_15.out g16)
  have cI0_16 := kept_cell g16 cI0_15
  have cI1_16 := kept_cell g16 cI1_15
  have cJ0_16 := kept_cell g16 cJ0_15
  have cJ1_16 := kept_cell g16 cJ1_15
  have cK0_16 := kept_cell g16 cK0_15
  have cK1_16 := kept_cell g16 cK1_15
  have cM0_16 := kept_cell g16 cM0_15
  have cM1_16 := kept_cell g16 cM1_15
  have b_16 := b_15.trans (g16.mono b_15.size)
  clear g16 Ha_15 Hb_15 Hp_15 Hq_15 HC_15 HD_15 HE_15 HF_15 HI_15 HJ_15 HK_15 HM_15 cI0_15 cI1_15 cJ0_15 cJ1_15 cK0_15 cK1_15 cM0_15 cM1_15 b_15
  go_wp2_with fail
  refine (H22.out _ Hp_16.out).mono ?_
  rintro e w17 ⟨rfl, g17⟩
  have Ha_17 := Lib.hid (reads_on Ha_16.out g17)
  have Hb_17 := Lib.hid (reads_on Hb_16.out g17)
  have Hp_17 := Lib.hid (reads_on Hp_16.out g17)
  have Hq_17 := Lib.hid (reads_on Hq_16.out g17)
  have HC_17 := Lib.hid (reads_on HC_16.out g17)
  have HD_17 := Lib.hid (reads_on HD_16.out g17)
  have HE_17 := Lib.hid (reads_on HE_16.out g17)
  have HF_17 := Lib.hid (reads_on HF_16.out g17)
  have HI_17 := Lib.hid (reads_on HI_16.out g17)
  have HJ_17 := Lib.hid (reads_on HJ_16.out g17)
  have HK_17 := Lib.hid (reads_on HK_16.out g17)
  have HM_17 := Lib.hid (reads_on HM_16.out g17)
  have cI0_17 := kept_cell g17 cI0_16
  have cI1_17 := kept_cell g17 cI1_16
  have cJ0_17 := kept_cell g17 cJ0_16
  have cJ1_17 := kept_cell g17 cJ1_16
  have cK0_17 := kept_cell g17 cK0_16
  have cK1_17 := kept_cell g17 cK1_16
  have cM0_17 := kept_cell g17 cM0_16
  have cM1_17 := kept_cell g17 cM1_16
  have b_17 := b_16.trans (g17.mono b_16.size)
  clear g17 Ha_16 Hb_16 Hp_16 Hq_16 HC_16 HD_16 HE_16 HF_16 HI_16 HJ_16 HK_16 HM_16 cI0_16 cI1_16 cJ0_16 cJ1_16 cK0_16 cK1_16 cM0_16 cM1_16 b_16
  go_wp2_with fail
  refine (H23.out _ Ha_17.out).mono ?_
  rintro e w18 ⟨rfl, g18⟩
  have Ha_18 := Lib.hid (reads_on Ha_17.out g18)
  have Hb_18 := Lib.hid (reads_on Hb_17.out g18)
  have Hp_18 := Lib.hid (reads_on Hp_17.out g18)
  have Hq_18 := Lib.hid (reads_on Hq_17.out g18)
  have HC_18 := Lib.hid (reads_on HC_17.out g18)
  have HD_18 := Lib.hid (reads_on HD_17.out g18)
  have HE_18 := Lib.hid (reads_on HE_17.out g18)
  have HF_18 := Lib.hid (reads_on HF_17.out g18)
  have HI_18 := Lib.hid (reads_on HI_17.out g18)
  have HJ_18 := Lib.hid (reads_on HJ_17.out g18)
  have HK_18 := Lib.hid (reads_on HK_17.out g18)
  have HM_18 := Lib.hid (reads_on HM_17.out g18)
  have cI0_18 := kept_cell g18 cI0_17
  have cI1_18 := kept_cell g18 cI1_17
  have cJ0_18 := kept_cell g18 cJ0_17
  have cJ1_18 := kept_cell g18 cJ1_17
  have cK0_18 := kept_cell g18 cK0_17
  have cK1_18 := kept_cell g18 cK1_17
  have cM0_18 := kept_cell g18 cM0_17
  have cM1_18 := kept_cell g18 cM1_17
  have b_18 := b_17.trans (g18.mono b_17.size)
  clear g18 Ha_17 Hb_17 Hp_17 Hq_17 HC_17 HD_17 HE_17 HF_17 HI_17 HJ_17 HK_17 HM_17 cI0_17 cI1_17 cJ0_17 cJ1_17 cK0_17 cK1_17 cM0_17 cM1_17 b_17
  go_wp2_with fail
  refine (H24.out _ Hp_18.out Hq_18.out).mono ?_
  rintro e w19 ⟨rfl, g19⟩
  have Ha_19 := Lib.hid (reads_on Ha_18.out g19)
  have Hb_19 := Lib.hid (reads_on Hb_18.out g19)
  have Hp_19 := Lib.hid (reads_on Hp_18.out g19)
  have Hq_19 := Lib.hid (reads_on Hq_18.out g19)
  have HC_19 := Lib.hid (reads_on HC_18.out g19)
  have HD_19 := Lib.hid (reads_on HD_18.out g19)
  have HE_19 := Lib.hid (reads_on HE_18.out g19)
  have HF_19 := Lib.hid (reads_on HF_18.out g19)
  have HI_19 := Lib.hid (reads_on HI_18.out g19)
  have HJ_19 := Lib.hid (reads_on HJ_18.out g19)
  have HK_19 := Lib.hid (reads_on HK_18.out g19)
  have HM_19 := Lib.hid (reads_on HM_18.out g19)
  have cI0_19 := kept_cell g19 cI0_18
  have cI1_19 := kept_cell g19 cI1_18
  have cJ0_19 := kept_cell g19 cJ0_18
  have cJ1_19 := kept_cell g19 cJ1_18
  have cK0_19 := kept_cell g19 cK0_18
  have cK1_19 := kept_cell g19 cK1_18
  have cM0_19 := kept_cell g19 cM0_18
  have cM1_19 := kept_cell g19 cM1_18
  have b_19 := b_18.trans (g19.mono b_18.size)
  clear g19 Ha_18 Hb_18 Hp_18 Hq_18 HC_18 HD_18 HE_18 HF_18 HI_18 HJ_18 HK_18 HM_18 cI0_18 cI1_18 cJ0_18 cJ1_18 cK0_18 cK1_18 cM0_18 cM1_18 b_18
  go_wp2_with fail
  refine (H25.out _ Ha_19.out Hb_19.out).mono ?_
  rintro e w20 ⟨rfl, g20⟩
  have Ha_20 := Lib.hid (reads_on Ha_19.out g20)
  have Hb_20 := Lib.hid (reads_on Hb_19.out g20)
  have Hp_20 := Lib.hid (reads_on Hp_19.out g20)
  have Hq_20 := Lib.hid (reads_on Hq_19.out g20)
  have HC_20 := Lib.hid (reads_on HC_19.out g20)
  have HD_20 := Lib.hid (reads_on HD_19.out g20)
  have HE_20 := Lib.hid (reads_on HE_19.out g20)
  have HF_20 := Lib.hid (reads_on HF_19.out g20)
  have HI_20 := Lib.hid (reads_on HI_19.out g20)
  have HJ_20 := Lib.hid (reads_on HJ_19.out g20)
  have HK_20 := Lib.hid (reads_on HK_19.out g20)
  have HM_20 := Lib.hid (reads_on HM_19.out g20)
  have cI0_20 := kept_cell g20 cI0_19
  have cI1_20 := kept_cell g20 cI1_19
  have cJ0_20 := kept_cell g20 cJ0_19
  have cJ1_20 := kept_cell g20 cJ1_19
  have cK0_20 := kept_cell g20 cK0_19
  have cK1_20 := kept_cell g20 cK1_19
  have cM0_20 := kept_cell g20 cM0_19
  have cM1_20 := kept_cell g20 cM1_19
  have b_20 := b_19.trans (g20.mono b_19.size)
  clear g20 Ha_19 Hb_19 Hp_19 Hq_19 HC_19 HD_19 HE_19 HF_19 HI_19 HJ_19 HK_19 HM_19 cI0_19 cI1_19 cJ0_19 cJ1_19 cK0_19 cK1_19 cM0_19 cM1_19 b_19
  go_wp2_with fail
  refine (H26.out _ Hp_20.out Hq_20.out).mono ?_
  rintro e w21 ⟨rfl, g21⟩
  have Ha_21 := Lib.hid (reads_on Ha_20.out g21)
  have Hb_21 := Lib.hid (reads_on Hb_20.out g21)
  have Hp_21 := Lib.hid (reads_on Hp_20.out g21)
  have Hq_21 := Lib.hid (reads_on Hq_20.out g21)
  have HC_21 := Lib.hid (reads_on HC_20.out g21)
  have HD_21 := Lib.hid (reads_on HD_20.out g21)
  have HE_21 := Lib.hid (reads_on HE_20.out g21)
  have HF_21 := Lib.hid (reads_on HF_20.out g21)
  have HI_21 := Lib.hid (reads_on HI_20.out g21)
  have HJ_21 := Lib.hid (reads_on HJ_20.out g21)
  have HK_21 := Lib.hid (reads_on HK_20.out g21)
  have HM_21 := Lib.hid (reads_on HM_20.out g21)
  have cI0_21 := kept_cell g21 cI0_20
  have cI1_21 := kept_cell g21 cI1_20
  have cJ0_21 := kept_cell g21 cJ0_20
  have cJ1_21 := kept_cell g21 cJ1_20
  have cK0_21 := kept_cell g21 cK0_20
  have cK1_21 := kept_cell g21 cK1_20
  have cM0_21 := kept_cell g21 cM0_20
  have cM1_21 := kept_cell g21 cM1_20
  have b_21 := b_20.trans (g21.mono b_20.size)
  clear g21 Ha_20 Hb_20 Hp_20 Hq_20 HC_20 HD_20 HE_20 HF_20 HI_20 HJ_20 HK_20 HM_20 cI0_20 cI1_20 cJ0_20 cJ1_20 cK0_20 cK1_20 cM0_20 cM1_20 b_20
  go_wp2_with fail
  refine (H27.out _ Ha_21.out Hb_21.out).mono ?_
  rintro e w22 ⟨rfl, g22⟩
  have Ha_22 := Lib.hid (reads_on Ha_21.out g22)
  have Hb_22 := Lib.hid (reads_on Hb_21.out g22)
  have Hp_22 := Lib.hid (reads_on Hp_21.out g22)
  have Hq_22 := Lib.hid (reads_on Hq_21.out g22)
  have HC_22 := Lib.hid (reads_on HC_21.out g22)
  have HD_22 := Lib.hid (reads_on HD_21.out g22)
  have HE_22 := Lib.hid (reads_on HE_21.out g22)
  have HF_22 := Lib.hid (reads_on HF_21.out g22)
  have HI_22 := Lib.hid (reads_on HI_21.out g22)
  have HJ_22 := Lib.hid (reads_on HJ_21.out g22)
  have HK_22 := Lib.hid (reads_on HK_21.out g22)
  have HM_22 := Lib.hid (reads_on HM_21.out g22)
  have cI0_22 := kept_cell g22 cI0_21
  have cI1_22 := kept_cell g22 cI1_21
  have cJ0_22 := kept_cell g22 cJ0_21
  have cJ1_22 := kept_cell g22 cJ1_21
  have cK0_22 := kept_cell g22 cK0_21
  have cK1_22 := kept_cell g22 cK1_21
  have cM0_22 := kept_cell g22 cM0_21
  have cM1_22 := kept_cell g22 cM1_21
  have b_22 := b_21.trans (g22.mono b_21.size)
  clear g22 Ha_21 Hb_21 Hp_21 Hq_21 HC_21 HD_21 HE_21 HF_21 HI_21 HJ_21 HK_21 HM_21 cI0_21 cI1_21 cJ0_21 cJ1_21 cK0_21 cK1_21 cM0_21 cM1_21 b_21
  go_wp2_with fail
  refine (keep_self LC.out HC_22.out HI_22.out (by omega)).mono ?_
  rintro e w23 ⟨rfl, g23⟩
  have Ha_23 := Lib.hid (reads_on Ha_22.out g23)
  have Hb_23 := Lib.hid (reads_on Hb_22.out g23)
  have Hp_23 := Lib.hid (reads_on Hp_22.out g23)
  have Hq_23 := Lib.hid (reads_on Hq_22.out g23)
  have HC_23 := Lib.hid (reads_on HC_22.out g23)
  have HD_23 := Lib.hid (reads_on HD_22.out g23)
  have HE_23 := Lib.hid (reads_on HE_22.out g23)
  have HF_23 := Lib.hid (reads_on HF_22.out g23)
  have HI_23 := Lib.hid (reads_on HI_22.out g23)
  have HJ_23 := Lib.hid (reads_on HJ_22.out g23)
  have HK_23 := Lib.hid (reads_on HK_22.out g23)
  have HM_23 := Lib.hid (reads_on HM_22.out g23)
  have cI0_23 := kept_cell g23 cI0_22
  have cI1_23 := kept_cell g23 cI1_22
  have cJ0_23 := kept_cell g23 cJ0_22
  have cJ1_23 := kept_cell g23 cJ1_22
  have cK0_23 := kept_cell g23 cK0_22
  have cK1_23 := kept_cell g23 cK1_22
  have cM0_23 := kept_cell g23 cM0_22
  have cM1_23 := kept_cell g23 cM1_22
  have b_23 := b_22.trans (g23.mono b_22.size)
  clear g23 Ha_22 Hb_22 Hp_22 Hq_22 HC_22 HD_22 HE_22 HF_22 HI_22 HJ_22 HK_22 HM_22 cI0_22 cI1_22 cJ0_22 cJ1_22 cK0_22 cK1_22 cM0_22 cM1_22 b_22
  go_wp2_with fail
  refine (keep_self LD.out HD_23.out HJ_23.out (by omega)).mono ?_
  rintro e w24 ⟨rfl, g24⟩
  have Ha_24 := Lib.hid (reads_on Ha_23.out g24)
  have Hb_24 := Lib.hid (reads_on Hb_23.out g24)
  have Hp_24 := Lib.hid (reads_on Hp_23.out g24)
  have Hq_24 := Lib.hid (reads_on Hq_23.out g24)
  have HC_24 := Lib.hid (reads_on HC_23.out g24)
  have HD_24 := Lib.hid (reads_on HD_23.out g24)
  have HE_24 := Lib.hid (reads_on HE_23.out g24)
  have HF_24 := Lib.hid (reads_on HF_23.out g24)
  have HI_24 := Lib.hid (reads_on HI_23.out g24)
  have HJ_24 := Lib.hid (reads_on HJ_23.out g24)
  have HK_24 := Lib.hid (reads_on HK_23.out g24)
  have HM_24 := Lib.hid (reads_on HM_23.out g24)
  have cI0_24 := kept_cell g24 cI0_23
  have cI1_24 := kept_cell g24 cI1_23
  have cJ0_24 := kept_cell g24 cJ0_23
  have cJ1_24 := kept_cell g24 cJ1_23
  have cK0_24 := kept_cell g24 cK0_23
  have cK1_24 := kept_cell g24 cK1_23
  have cM0_24 := kept_cell g24 cM0_23
  have cM1_24 := kept_cell g24 cM1_23
  have b_24 := b_23.trans (g24.mono b_23.size)
  clear g24 Ha_23 Hb_23 Hp_23 Hq_23 HC_23 HD_23 HE_23 HF_23 HI_23 HJ_23 HK_23 HM_23 cI0_23 cI1_23 cJ0_23 cJ1_23 cK0_23 cK1_23 cM0_23 cM1_23 b_23
  go_wp2_with fail
  refine (keep_self LE.out HE_24.out HK_24.out (by omega)).mono ?_
  rintro e w25 ⟨rfl, g25⟩
  have Ha_25 := Lib.hid (reads_on Ha_24.out g25)
  have Hb_25 := Lib.hid (reads_on Hb_24.out g25)
  have Hp_25 := Lib.hid (reads_on Hp_24.out g25)
  have Hq_25 := Lib.hid (reads_on Hq_24.out g25)
  have HC_25 := Lib.hid (reads_on HC_24.out g25)
  have HD_25 := Lib.hid (reads_on HD_24.out g25)
  have HE_25 := Lib.hid (reads_on HE_24.out g25)
  have HF_25 := Lib.hid (reads_on HF_24.out g25)
  have HI_25 := Lib.hid (reads_on HI_24.out g25)
  have HJ_25 := Lib.hid (reads_on HJ_24.out g25)
  have HK_25 := Lib.hid (reads_on HK_24.out g25)
  have HM_25 := Lib.hid (reads_on HM_24.out g25)
  have cI0_25 := kept_cell g25 cI0_24
  have cI1_25 := kept_cell g25 cI1_24
  have cJ0_25 := kept_cell g25 cJ0_24
  have cJ1_25 := kept_cell g25 cJ1_24
  have cK0_25 := kept_cell g25 cK0_24
  have cK1_25 := kept_cell g25 cK1_24
  have cM0_25 := kept_cell g25 cM0_24
  have cM1_25 := kept_cell g25 cM1_24
  have b_25 := b_24.trans (g25.mono b_24.size)
  clear g25 Ha_24 Hb_24 Hp_24 Hq_24 HC_24 HD_24 HE_24 HF_24 HI_24 HJ_24 HK_24 HM_24 cI0_24 cI1_24 cJ0_24 cJ1_24 cK0_24 cK1_24 cM0_24 cM1_24 b_24
  go_wp2_with fail
  refine (keep_self LF.out HF_25.out HM_25.out (by omega)).mono ?_
  rintro e w26 ⟨rfl, g26⟩
  have Ha_26 := Lib.hid (reads_on Ha_25.out g26)
  have Hb_26 := Lib.hid (reads_on Hb_25.out g26)
  have Hp_26 := Lib.hid (reads_on Hp_25.out g26)
  have Hq_26 := Lib.hid (reads_on Hq_25.out g26)
  have HC_26 := Lib.hid (reads_on HC_25.out g26)
  have HD_26 := Lib.hid (reads_on HD_25.out g26)
  have HE_26 := Lib.hid (reads_on HE_25.out g26)
  have HF_26 := Lib.hid (reads_on HF_25.out g26)
  have HI_26 := Lib.hid (reads_on HI_25.out g26)
  have HJ_26 := Lib.hid (reads_on HJ_25.out g26)
  have HK_26 := Lib.hid (reads_on HK_25.out g26)
  have HM_26 := Lib.hid (reads_on HM_25.out g26)
  have cI0_26 := kept_cell g26 cI0_25
  have cI1_26 := kept_cell g26 cI1_25
  have cJ0_26 := kept_cell g26 cJ0_25
  have cJ1_26 := kept_cell g26 cJ1_25
  have cK0_26 := kept_cell g26 cK0_25
  have cK1_26 := kept_cell g26 cK1_25
  have cM0_26 := kept_cell g26 cM0_25
  have cM1_26 := kept_cell g26 cM1_25
  have b_26 := b_25.trans (g26.mono b_25.size)
  clear g26 Ha_25 Hb_25 Hp_25 Hq_25 HC_25 HD_25 HE_25 HF_25 HI_25 HJ_25 HK_25 HM_25 cI0_25 cI1_25 cJ0_25 cJ1_25 cK0_25 cK1_25 cM0_25 cM1_25 b_25
  go_wp2_with fail
  refine (keep_self La.out Hp_26.out Ha_26.out (by omega)).mono ?_
  rintro e w27 ⟨rfl, g27⟩
  have Ha_27 := Lib.hid (reads_on Ha_26.out g27)
  have Hb_27 := Lib.hid (reads_on Hb_26.out g27)
  have Hp_27 := Lib.hid (reads_on Hp_26.out g27)
  have Hq_27 := Lib.hid (reads_on Hq_26.out g27)
  have HC_27 := Lib.hid (reads_on HC_26.out g27)
  have HD_27 := Lib.hid (reads_on HD_26.out g27)
  have HE_27 := Lib.hid (reads_on HE_26.out g27)
  have HF_27 := Lib.hid (reads_on HF_26.out g27)
  have HI_27 := Lib.hid (reads_on HI_26.out g27)
  have HJ_27 := Lib.hid (reads_on HJ_26.out g27)
  have HK_27 := Lib.hid (reads_on HK_26.out g27)
  have HM_27 := Lib.hid (reads_on HM_26.out g27)
  have cI0_27 := kept_cell g27 cI0_26
  have cI1_27 := kept_cell g27 cI1_26
  have cJ0_27 := kept_cell g27 cJ0_26
  have cJ1_27 := kept_cell g27 cJ1_26
  have cK0_27 := kept_cell g27 cK0_26
  have cK1_27 := kept_cell g27 cK1_26
  have cM0_27 := kept_cell g27 cM0_26
  have cM1_27 := kept_cell g27 cM1_26
  have b_27 := b_26.trans (g27.mono b_26.size)
  clear g27 Ha_26 Hb_26 Hp_26 Hq_26 HC_26 HD_26 HE_26 HF_26 HI_26 HJ_26 HK_26 HM_26 cI0_26 cI1_26 cJ0_26 cJ1_26 cK0_26 cK1_26 cM0_26 cM1_26 b_26
  go_wp2_with fail
  refine (keep_self Lb.out Hq_27.out Hb_27.out (by omega)).mono ?_
  rintro e w28 ⟨rfl, g28⟩
  have Ha_28 := Lib.hid (reads_on Ha_27.out g28)
  have Hb_28 := Lib.hid (reads_on Hb_27.out g28)
  have Hp_28 := Lib.hid (reads_on Hp_27.out g28)
  have Hq_28 := Lib.hid (reads_on Hq_27.out g28)
  have HC_28 := Lib.hid (reads_on HC_27.out g28)
  have HD_28 := Lib.hid (reads_on HD_27.out g28)
  have HE_28 := Lib.hid (reads_on HE_27.out g28)
  have HF_28 := Lib.hid (reads_on HF_27.out g28)
  have HI_28 := Lib.hid (reads_on HI_27.out g28)
  have HJ_28 := Lib.hid (reads_on HJ_27.out g28)
  have HK_28 := Lib.hid (reads_on HK_27.out g28)
  have HM_28 := Lib.hid (reads_on HM_27.out g28)
  have cI0_28 := kept_cell g28 cI0_27
  have cI1_28 := kept_cell g28 cI1_27
  have cJ0_28 := kept_cell g28 cJ0_27
  have cJ1_28 := kept_cell g28 cJ1_27
  have cK0_28 := kept_cell g28 cK0_27
  have cK1_28 := kept_cell g28 cK1_27
  have cM0_28 := kept_cell g28 cM0_27
  have cM1_28 := kept_cell g28 cM1_27
  have b_28 := b_27.trans (g28.mono b_27.size)
  clear g28 Ha_27 Hb_27 Hp_27 Hq_27 HC_27 HD_27 HE_27 HF_27 HI_27 HJ_27 HK_27 HM_27 cI0_27 cI1_27 cJ0_27 cJ1_27 cK0_27 cK1_27 cM0_27 cM1_27 b_27
  go_wp2_with fail
  refine (wakes_any _).mono ?_
  rintro e w29 ⟨rfl, g29⟩
  have Ha_29 := Lib.hid (reads_on Ha_28.out g29)
  have Hb_29 := Lib.hid (reads_on Hb_28.out g29)
  have Hp_29 := Lib.hid (reads_on Hp_28.out g29)
  have Hq_29 := Lib.hid (reads_on Hq_28.out g29)
  have HC_29 := Lib.hid (reads_on HC_28.out g29)
  have HD_29 := Lib.hid (reads_on HD_28.out g29)
  have HE_29 := Lib.hid (reads_on HE_28.out g29)
  have HF_29 := Lib.hid (reads_on HF_28.out g29)
  have HI_29 := Lib.hid (reads_on HI_28.out g29)
  have HJ_29 := Lib.hid (reads_on HJ_28.out g29)
  have HK_29 := Lib.hid (reads_on HK_28.out g29)
  have HM_29 := Lib.hid (reads_on HM_28.out g29)
  have cI0_29 := kept_cell g29 cI0_28
  have cI1_29 := kept_cell g29 cI1_28
  have cJ0_29 := kept_cell g29 cJ0_28
  have cJ1_29 := kept_cell g29 cJ1_28
  have cK0_29 := kept_cell g29 cK0_28
  have cK1_29 := kept_cell g29 cK1_28
  have cM0_29 := kept_cell g29 cM0_28
  have cM1_29 := kept_cell g29 cM1_28
  have b_29 := b_28.trans (g29.mono b_28.size)
  clear g29 Ha_28 Hb_28 Hp_28 Hq_28 HC_28 HD_28 HE_28 HF_28 HI_28 HJ_28 HK_28 HM_28 cI0_28 cI1_28 cJ0_28 cJ1_28 cK0_28 cK1_28 cM0_28 cM1_28 b_28
  go_wp2_with fail
  go_ret
  exact ⟨rfl, b_29⟩
theorem walk_large (a b : List Rg) (n m : Nat) (ha : a.length = n) (hb : b.length = m) (A B : Option Addr) (c d : Nat) (v : Int) (w : World) (hA : Shp A n c) (hB : Shp B m d) (hRa : Reads w w.heap.size 2 A n (rcells a)) (hRb : Reads w w.heap.size 2 B m (rcells b)) (h : 60 < n ∨ 60 < m) :
    Calls Try.prog 3 #[.slice A n c, .slice B m d, .int .i64 v] w fun e w' => e = .returned (.bool true) ∧ Below w.heap.size w w' := by
  clear hRa hRb ha hb hA hB
  go_enter Try.func3, Try.ntmps3
  go_wp2_with fail
  refine (large_yes A B n m c d w h).mono ?_
  rintro e w' ⟨rfl, rfl⟩
  go_wp2_with fail
  refine (wakes_any _).mono ?_
  rintro e w1 ⟨rfl, g1⟩
  go_wp2_with fail
  go_ret
  exact ⟨rfl, g1⟩

theorem walk (a b : List Rg) (n m : Nat) (ha : a.length = n) (hb : b.length = m) (A B : Option Addr) (c d : Nat) (v : Int) (w : World) (hA : Shp A n c) (hB : Shp B m d) (hRa : Reads w w.heap.size 2 A n (rcells a)) (hRb : Reads w w.heap.size 2 B m (rcells b)) :
    Calls Try.prog 3 #[.slice A n c, .slice B m d, .int .i64 v] w fun e w' => e = .returned (.bool true) ∧ Below w.heap.size w w' := by
  by_cases h1 : n ≤ 60
  · by_cases h2 : m ≤ 60
    · exact walk_small a b n m ha hb A B c d v w hA hB hRa hRb h1 h2
    · exact walk_large a b n m ha hb A B c d v w hA hB hRa hRb (.inr (by omega))
  · exact walk_large a b n m ha hb A B c d v w hA hB hRa hRb (.inl (by omega))

/-! From the walk to the row. -/
theorem contract (H : Type) (enc : TypeId × Value → H) (W : World) (base : Nat) (args : Array Value) (ds gs : List (DataW H)) (before : List MemPlace)
    (hval0 : ∀ (j : Nat) t v, Try.f3.params[j]? = some t → args[j]? = some v → Value.okWide Try.prog W .any base t v)
    (hW : DataW.Whole enc Try.prog Try.f3.params.toList Rows.setsTellSpec.vars false W args.toList ds gs before) :
    Calls Try.prog 3 args W fun e W' => ∃ v, e = .returned v ∧ Rows.setsTellSpec.post enc Try.prog Try.f3 false true false false W args v W' := by
  have hval : ∀ (j : Nat) t v, Try.f3.params[j]? = some t → args[j]? = some v → Value.okWide Try.prog W .any base t v := hval0
  have hW' := hW
  obtain ⟨p, q, hA0, hV, rfl, hfz, hnd⟩ := hW
  have hA : DataW.TrodAll enc Try.prog W 0 (fun _ => true) true Try.f3.params.toList args.toList ds p := hA0
  rw [Try.params3] at hA hval
  obtain ⟨v0, vs0, d0, ds0, p0, q0, hargs, rfl, rfl, h0, r0⟩ := trodAll_cons hA
  obtain ⟨v1, vs1, d1, ds1, p1, q1, rfl, rfl, rfl, h1, r1⟩ := trodAll_cons r0
  obtain ⟨v2, vs2, d2, ds2, p2, q2, rfl, rfl, rfl, h2, r2⟩ := trodAll_cons r1
  obtain ⟨rfl, rfl, rfl⟩ := trodAll_nil r2
  obtain rfl : args = #[v0, v1, v2] := by cases args; simp_all
  obtain ⟨rfl, rfl⟩ := trodVars_none hV
  obtain ⟨a0, len0, cap0, rfl⟩ := okWide_slice Try.underlying23 (hval 0 23 v0 rfl rfl)
  have k0 := h0
  have lt0 : ∀ x ∈ p0, x.block < W.heap.size := by obtain ⟨m, hm⟩ := k0; exact DataW.trod_lt m _ _ _ hm
  obtain ⟨l0, hl0, hs0, hr0⟩ : ∃ l, l.length = len0 ∧ Shp a0 len0 cap0 ∧ Reads W W.heap.size 2 a0 len0 (rcells l) := by
    obtain ⟨fuel, hf⟩ := h0
    exact open_set Try.underlying23 (by simpa [Value.cells] using hf)
  obtain ⟨a1, len1, cap1, rfl⟩ := okWide_slice Try.underlying23 (hval 1 23 v1 rfl rfl)
  have k1 := h1
  have lt1 : ∀ x ∈ p1, x.block < W.heap.size := by obtain ⟨m, hm⟩ := k1; exact DataW.trod_lt m _ _ _ hm
  obtain ⟨l1, hl1, hs1, hr1⟩ : ∃ l, l.length = len1 ∧ Shp a1 len1 cap1 ∧ Reads W W.heap.size 2 a1 len1 (rcells l) := by
    obtain ⟨fuel, hf⟩ := h1
    exact open_set Try.underlying23 (by simpa [Value.cells] using hf)
  obtain ⟨a2, rfl, rfl, rfl, w2⟩ := open_int Try.underlying3 (hval 2 3 v2 rfl rfl) h2
  clear hA0 hval0
  refine (walk l0 l1 len0 len1 hl0 hl1 a0 a1 cap0 cap1 a2 W hs0 hs1 hr0 hr1).mono fun e W' ⟨he, bel⟩ => ?_
  subst he
  exact ⟨_, rfl, _, _, _, [], _, [], hW', trodAll_mk1 (shut_bool Try.underlying4 _), (trodAll_cons_mk (Below.trod laidOut (by kernel_rfl) (of_decide_eq_true (by kernel_rfl)) k0 bel lt0) (trodAll_cons_mk (Below.trod laidOut (by kernel_rfl) (of_decide_eq_true (by kernel_rfl)) k1 bel lt1) (trodAll_cons_mk (shut_int Try.underlying3 w2) trodAll_mk0))), rfl, bel.frame _, fun h => by cases h⟩

set_option maxRecDepth 100000 in
theorem lifted (os : Os) (started : os.Started) (H : Type) (enc : TypeId × Value → H) :
    ReturnsInHanded {} Try.checked os 3 .any (Rows.setsTellSpec.pre6 enc Try.prog Try.f3 Rows.setsTellRow.domain false) (Rows.setsTellSpec.post enc Try.prog Try.f3 false true false false) := by
  refine returnsInHanded_of_change (C := Try.checked) own started (by kernel_rfl) Try.func3
    (ChangeSpec.witness6 (enc := enc) (C := Try.checked) false ⟨#[], #[.slice none 0 0, .slice none 0 0, .int .i64 0], []⟩ 8 (by kernel_rfl) (by kernel_rfl) (by kernel_rfl) (by kernel_rfl)) ?_
  intro W base args ds gs before hval hW _ _
  exact contract H enc W base args ds gs before hval hW

theorem over : Rows.setsTellRow.holds Try.pinned (OpenSpec.ofChange Rows.setsTellSpec) :=
  OpenClaim.holds_of_wide 3 Try.f3 rfl rfl rfl rfl rfl rfl rfl ⟨rfl, rfl, rfl, rfl, rfl⟩ rfl rfl rfl rfl rfl (by kernel_rfl) Try.func3 (by kernel_rfl)
    (of_decide_eq_true (by kernel_rfl)) (by unfold Func.isWrapper; first | (rw [if_pos (by decide +kernel)]; kernel_rfl) | (rw [if_neg (by decide +kernel)]; exact ⟨rfl, rfl⟩))
    (fun os started H enc _ => lifted os started H enc)
end Go.Proofs.Ytehikcddnjibcaa.setsTell

namespace Go.Proofs.Ytehikcddnjibcaa
/-- The given statement, under a short name. -/
theorem setsTell_holds : Rows.SetsTellSaid := setsTell.over
#print axioms setsTell_holds
end Go.Proofs.Ytehikcddnjibcaa
