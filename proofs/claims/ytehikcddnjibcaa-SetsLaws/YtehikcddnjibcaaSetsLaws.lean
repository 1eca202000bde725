/- The law SetsLaws returns true at every two sets: union and what is in both are the same both ways; with itself a set is itself; with nothing it is itself, and nothing; what is in neither is what is not in the union. Conditions: none; nothing that was there before the call is changed. -/
import Derived.Test.YtehikcddnjibcaaFrame
namespace Go.Proofs.Ytehikcddnjibcaa.setsLaws
open Go.ChangeShapes Go.WideShapes Go.ChangeAt Go.RowKit Go.BigFrame
set_option linter.unusedVariables false
set_option linter.unusedSimpArgs false
set_option maxRecDepth 100000 in
set_option maxHeartbeats 1000000 in
theorem walk_large (a b : List Rg) (n m : Nat) (ha : a.length = n) (hb : b.length = m) (A B : Option Addr) (c d : Nat) (w : World) (hA : Shp A n c) (hB : Shp B m d) (hRa : Reads w w.heap.size 2 A n (rcells a)) (hRb : Reads w w.heap.size 2 B m (rcells b)) (h : 60 < n ∨ 60 < m) :
    Calls Try.prog 6 #[.slice A n c, .slice B m d] w fun e w' => e = .returned (.bool true) ∧ Below w.heap.size w w' := by
  clear hRa hRb
  go_enter Try.func6, Try.ntmps6
  go_wp2_with fail
  refine (large_yes A B n m c d _ h).mono ?_
  rintro e w1 ⟨rfl, rfl⟩
  go_wp2_with fail
  refine (wakes_any _).mono ?_
  rintro e w2 ⟨rfl, b2⟩
  go_wp2_with fail
  go_ret
  exact ⟨rfl, b2⟩
set_option maxRecDepth 100000 in
set_option maxHeartbeats 1000000 in
theorem walk_bad_a (a b : List Rg) (n m : Nat) (ha : a.length = n) (hb : b.length = m) (A B : Option Addr) (c d : Nat) (w : World) (hA : Shp A n c) (hB : Shp B m d) (hRa : Reads w w.heap.size 2 A n (rcells a)) (hRb : Reads w w.heap.size 2 B m (rcells b)) (h1 : n ≤ 60) (h2 : m ≤ 60) (h : goodB a = false) :
    Calls Try.prog 6 #[.slice A n c, .slice B m d] w fun e w' => e = .returned (.bool true) ∧ Below w.heap.size w w' := by
  have Ha_0 := Lib.hid hRa
  have Hb_0 := Lib.hid hRb
  have La := Lib.hid ha
  have Lb := Lib.hid hb
  have Sa := Lib.hid hA
  have Sb := Lib.hid hB
  clear hRa hRb ha hb hA hB
  have b0 : Below w.heap.size w w := Below.refl _ _
  go_enter Try.func6, Try.ntmps6
  go_wp2_with fail
  refine (large_no A B n m c d _ h1 h2).mono ?_
  rintro e w1 ⟨rfl, rfl⟩
  go_wp2_with fail
  refine (refGood_no La.out Ha_0.out (by omega) h).mono ?_
  rintro e w1 ⟨rfl, g1⟩
  have Ha_1 := Lib.hid (reads_on Ha_0.out g1)
  have Hb_1 := Lib.hid (reads_on Hb_0.out g1)
  have b1 := b0.trans (g1.mono b0.size)
  clear g1 Ha_0 Hb_0 b0
  go_wp2_with fail
  refine (wakes_any _).mono ?_
  rintro e w2 ⟨rfl, g2⟩
  have Ha_2 := Lib.hid (reads_on Ha_1.out g2)
  have Hb_2 := Lib.hid (reads_on Hb_1.out g2)
  have b2 := b1.trans (g2.mono b1.size)
  clear g2 Ha_1 Hb_1 b1
  go_wp2_with fail
  go_ret
  exact ⟨rfl, b2⟩

set_option maxRecDepth 100000 in
set_option maxHeartbeats 1000000 in
theorem walk_bad_b (a b : List Rg) (n m : Nat) (ha : a.length = n) (hb : b.length = m) (A B : Option Addr) (c d : Nat) (w : World) (hA : Shp A n c) (hB : Shp B m d) (hRa : Reads w w.heap.size 2 A n (rcells a)) (hRb : Reads w w.heap.size 2 B m (rcells b)) (h1 : n ≤ 60) (h2 : m ≤ 60) (ga : Gd (-1) a) (h : goodB b = false) :
    Calls Try.prog 6 #[.slice A n c, .slice B m d] w fun e w' => e = .returned (.bool true) ∧ Below w.heap.size w w' := by
  have Ha_0 := Lib.hid hRa
  have Hb_0 := Lib.hid hRb
  have La := Lib.hid ha
  have Lb := Lib.hid hb
  have Sa := Lib.hid hA
  have Sb := Lib.hid hB
  clear hRa hRb ha hb hA hB
  have b0 : Below w.heap.size w w := Below.refl _ _
  go_enter Try.func6, Try.ntmps6
  go_wp2_with fail
  refine (large_no A B n m c d _ h1 h2).mono ?_
  rintro e w1 ⟨rfl, rfl⟩
  go_wp2_with fail
  refine (refGood_yes La.out Ha_0.out (by omega) ga).mono ?_
  rintro e w1 ⟨rfl, g1⟩
  have Ha_1 := Lib.hid (reads_on Ha_0.out g1)
  have Hb_1 := Lib.hid (reads_on Hb_0.out g1)
  have b1 := b0.trans (g1.mono b0.size)
  clear g1 Ha_0 Hb_0 b0
  go_wp2_with fail
  refine (refGood_no Lb.out Hb_1.out (by omega) h).mono ?_
  rintro e w2 ⟨rfl, g2⟩
  have Ha_2 := Lib.hid (reads_on Ha_1.out g2)
  have Hb_2 := Lib.hid (reads_on Hb_1.out g2)
  have b2 := b1.trans (g2.mono b1.size)
  clear g2 Ha_1 Hb_1 b1
  go_wp2_with fail
  refine (wakes_any _).mono ?_
  rintro e w3 ⟨rfl, g3⟩
  have Ha_3 := Lib.hid (reads_on Ha_2.out g3)
  have Hb_3 := Lib.hid (reads_on Hb_2.out g3)
  have b3 := b2.trans (g3.mono b2.size)
  clear g3 Ha_2 Hb_2 b2
  go_wp2_with fail
  go_ret
  exact ⟨rfl, b3⟩

set_option maxHeartbeats 4000000 in
set_option maxRecDepth 100000 in
theorem walk_good (a b : List Rg) (n m : Nat) (ha : a.length = n) (hb : b.length = m) (A B : Option Addr) (c d : Nat) (w : World) (hA : Shp A n c) (hB : Shp B m d) (hRa : Reads w w.heap.size 2 A n (rcells a)) (hRb : Reads w w.heap.size 2 B m (rcells b)) (h1 : n ≤ 60) (h2 : m ≤ 60) (ga : Gd (-1) a) (gb : Gd (-1) b) :
    Calls Try.prog 6 #[.slice A n c, .slice B m d] w fun e w' => e = .returned (.bool true) ∧ Below w.heap.size w w' := by
  have Ha_0 := Lib.hid hRa
  have Hb_0 := Lib.hid hRb
  have La := Lib.hid ha
  have Lb := Lib.hid hb
  have Sa := Lib.hid hA
  have Sb := Lib.hid hB
  clear hRa hRb ha hb hA hB
  have Ga := Lib.hid ga
  have Gb := Lib.hid gb
  clear ga gb
  have b0 : Below w.heap.size w w := Below.refl _ _
  go_enter Try.func6, Try.ntmps6
  go_wp2_with fail
  refine (large_no A B n m c d _ h1 h2).mono ?_
  rintro e w1 ⟨rfl, rfl⟩
  go_wp2_with fail
  refine (refGood_yes La.out Ha_0.out (by omega) Ga.out).mono ?_
  rintro e w1 ⟨rfl, g1⟩
  have Ha_1 := Lib.hid (reads_on Ha_0.out g1)
  have Hb_1 := Lib.hid (reads_on Hb_0.out g1)
  have b1 := b0.trans (g1.mono b0.size)
  clear g1 Ha_0 Hb_0 b0
  go_wp2_with fail
  refine (refGood_yes Lb.out Hb_1.out (by omega) Gb.out).mono ?_
  rintro e w2 ⟨rfl, g2⟩
  have Ha_2 := Lib.hid (reads_on Ha_1.out g2)
  have Hb_2 := Lib.hid (reads_on Hb_1.out g2)
  have b2 := b1.trans (g2.mono b1.size)
  clear g2 Ha_1 Hb_1 b1
  go_wp2_with fail
  refine (union_N La.out Lb.out Sa.out Sb.out Ha_2.out Hb_2.out (by omega) (by omega) Ga.out Gb.out).mono ?_
  rintro e w3 ⟨sU, nU, AU, cU, rfl, l3, mU, p3, i3, r3, g3⟩
  have Ha_3 := Lib.hid (reads_on Ha_2.out g3)
  have Hb_3 := Lib.hid (reads_on Hb_2.out g3)
  have b3 := b2.trans (g3.mono b2.size)
  have HU_3 := Lib.hid r3
  have SU := Lib.hid p3
  have LU := Lib.hid l3
  have IU := Lib.hid i3
  clear g3 Ha_2 Hb_2 b2 r3 l3 i3 p3
  go_wp2_with fail
  refine (union_N Lb.out La.out Sb.out Sa.out Hb_3.out Ha_3.out (by omega) (by omega) Gb.out Ga.out).mono ?_
  rintro e w4 ⟨sV, nV, AV, cV, rfl, l4, mV, p4, i4, r4, g4⟩
  have Ha_4 := Lib.hid (reads_on Ha_3.out g4)
  have Hb_4 := Lib.hid (reads_on Hb_3.out g4)
  have HU_4 := Lib.hid (reads_on HU_3.out g4)
  have b4 := b3.trans (g4.mono b3.size)
  have HV_4 := Lib.hid r4
  have SV := Lib.hid p4
  have LV := Lib.hid l4
  have IV := Lib.hid i4
  clear g4 Ha_3 Hb_3 HU_3 b3 r4 l4 i4 p4
  go_wp2_with fail
  refine (both_N La.out Lb.out Sa.out Sb.out Ha_4.out Hb_4.out (by omega) (by omega) Ga.out Gb.out).mono ?_
  rintro e w5 ⟨sM, nM, AM, cM, rfl, l5, mM, p5, i5, r5, g5⟩
  have Ha_5 := Lib.hid (reads_on Ha_4.out g5)
  have Hb_5 := Lib.hid (reads_on Hb_4.out g5)
  have HU_5 := Lib.hid (reads_on HU_4.out g5)
  have HV_5 := Lib.hid (reads_on HV_4.out g5)
  have b5 := b4.trans (g5.mono b4.size)
  have HM_5 := Lib.hid r5
  have SM := Lib.hid p5
  have LM := Lib.hid l5
  have IM := Lib.hid i5
  clear g5 Ha_4 Hb_4 HU_4 HV_4 b4 r5 l5 i5 p5
  go_wp2_with fail
  refine (both_N Lb.out La.out Sb.out Sa.out Hb_5.out Ha_5.out (by omega) (by omega) Gb.out Ga.out).mono ?_
  rintro e w6 ⟨sN, nN, AN, cN, rfl, l6, mN, p6, i6, r6, g6⟩
  have Ha_6 := Lib.hid (reads_on Ha_5.out g6)
  have Hb_6 := Lib.hid (reads_on Hb_5.out g6)
  have HU_6 := Lib.hid (reads_on HU_5.out g6)
  have HV_6 := Lib.hid (reads_on HV_5.out g6)
  have HM_6 := Lib.hid (reads_on HM_5.out g6)
  have b6 := b5.trans (g6.mono b5.size)
  have HN_6 := Lib.hid r6
  have SN := Lib.hid p6
  have LN := Lib.hid l6
  have IN := Lib.hid i6
  clear g6 Ha_5 Hb_5 HU_5 HV_5 HM_5 b5 r6 l6 i6 p6
  go_wp2_with fail
  refine (union_N La.out La.out Sa.out Sa.out Ha_6.out Ha_6.out (by omega) (by omega) Ga.out Ga.out).mono ?_
  rintro e w7 ⟨sP, nP, AP, cP, rfl, l7, mP, p7, i7, r7, g7⟩
  have Ha_7 := Lib.hid (reads_on Ha_6.out g7)
  have Hb_7 := Lib.hid (reads_on Hb_6.out g7)
  have HU_7 := Lib.hid (reads_on HU_6.out g7)
  have HV_7 := Lib.hid (reads_on HV_6.out g7)
  have HM_7 := Lib.hid (reads_on HM_6.out g7)
  have HN_7 := Lib.hid (reads_on HN_6.out g7)
  have b7 := b6.trans (g7.mono b6.size)
  have HP_7 := Lib.hid r7
  have SP := Lib.hid p7
  have LP := Lib.hid l7
  have IP := Lib.hid i7
  clear g7 Ha_6 Hb_6 HU_6 HV_6 HM_6 HN_6 b6 r7 l7 i7 p7
  go_wp2_with fail
  refine (both_N La.out (show ([] : List Rg).length = 0 from rfl) Sa.out shp_nil Ha_7.out (reads_nil _) (by omega) (by omega) Ga.out (show Gd (-1) [] from trivial)).mono ?_
  rintro e w8 ⟨sZ, nZ, AZ, cZ, rfl, l8, mZ, p8, i8, r8, g8⟩
  have Ha_8 := Lib.hid (reads_on Ha_7.out g8)
  have Hb_8 := Lib.hid (reads_on Hb_7.out g8)
  have HU_8 := Lib.hid (reads_on HU_7.out g8)
  have HV_8 := Lib.hid (reads_on HV_7.out g8)
  have HM_8 := Lib.hid (reads_on HM_7.out g8)
  have HN_8 := Lib.hid (reads_on HN_7.out g8)
  have HP_8 := Lib.hid (reads_on HP_7.out g8)
  have b8 := b7.trans (g8.mono b7.size)
  have HZ_8 := Lib.hid r8
  have SZ := Lib.hid p8
  have LZ := Lib.hid l8
  have IZ := Lib.hid i8
  clear g8 Ha_7 Hb_7 HU_7 HV_7 HM_7 HN_7 HP_7 b7 r8 l8 i8 p8
  have hO : nZ = 0 := by
    have e : sZ = [] := IZ.out.uniq (IsSet.self (a := []) trivial) (fun v _ => by simp [In_nil])
    rw [← LZ.out, e]; rfl
  subst hO
  go_wp2_with fail
  refine (union_N (show ([] : List Rg).length = 0 from rfl) La.out shp_nil Sa.out (reads_nil _) Ha_8.out (by omega) (by omega) (show Gd (-1) [] from trivial) Ga.out).mono ?_
  rintro e w9 ⟨sE, nE, AE, cE, rfl, l9, mE, p9, i9, r9, g9⟩
  have Ha_9 := Lib.hid (reads_on Ha_8.out g9)
  have Hb_9 := Lib.hid (reads_on Hb_8.out g9)
  have HU_9 := Lib.hid (reads_on HU_8.out g9)
  have HV_9 := Lib.hid (reads_on HV_8.out g9)
  have HM_9 := Lib.hid (reads_on HM_8.out g9)
  have HN_9 := Lib.hid (reads_on HN_8.out g9)
  have HP_9 := Lib.hid (reads_on HP_8.out g9)
  have HZ_9 := Lib.hid (reads_on HZ_8.out g9)
  have b9 := b8.trans (g9.mono b8.size)
  have HE_9 := Lib.hid r9
  have SE := Lib.hid p9
  have LE := Lib.hid l9
  have IE := Lib.hid i9
  clear g9 Ha_8 Hb_8 HU_8 HV_8 HM_8 HN_8 HP_8 HZ_8 b8 r9 l9 i9 p9
  go_wp2_with fail
  refine (not_N La.out Ha_9.out (by omega) Ga.out).mono ?_
  rintro e w10 ⟨sI, nI, AI, cI, rfl, l10, mI, p10, i10, r10, g10⟩
  have Ha_10 := Lib.hid (reads_on Ha_9.out g10)
  have Hb_10 := Lib.hid (reads_on Hb_9.out g10)
  have HU_10 := Lib.hid (reads_on HU_9.out g10)
  have HV_10 := Lib.hid (reads_on HV_9.out g10)
  have HM_10 := Lib.hid (reads_on HM_9.out g10)
  have HN_10 := Lib.hid (reads_on HN_9.out g10)
  have HP_10 := Lib.hid (reads_on HP_9.out g10)
  have HZ_10 := Lib.hid (reads_on HZ_9.out g10)
  have HE_10 := Lib.hid (reads_on HE_9.out g10)
  have b10 := b9.trans (g10.mono b9.size)
  have HI_10 := Lib.hid r10
  have SI := Lib.hid p10
  have LI := Lib.hid l10
  have II := Lib.hid i10
  clear g10 Ha_9 Hb_9 HU_9 HV_9 HM_9 HN_9 HP_9 HZ_9 HE_9 b9 r10 l10 i10 p10
  go_wp2_with fail
  refine (not_N Lb.out Hb_10.out (by omega) Gb.out).mono ?_
  rintro e w11 ⟨sJ, nJ, AJ, cJ, rfl, l11, mJ, p11, i11, r11, g11⟩
  have Ha_11 := Lib.hid (reads_on Ha_10.out g11)
  have Hb_11 := Lib.hid (reads_on Hb_10.out g11)
  have HU_11 := Lib.hid (reads_on HU_10.out g11)
  have HV_11 := Lib.hid (reads_on HV_10.out g11)
  have HM_11 := Lib.hid (reads_on HM_10.out g11)
  have HN_11 := Lib.hid (reads_on HN_10.out g11)
  have HP_11 := Lib.hid (reads_on HP_10.out g11)
  have HZ_11 := Lib.hid (reads_on HZ_10.out g11)
  have HE_11 := Lib.hid (reads_on HE_10.out g11)
  have HI_11 := Lib.hid (reads_on HI_10.out g11)
  have b11 := b10.trans (g11.mono b10.size)
  have HJ_11 := Lib.hid r11
  have SJ := Lib.hid p11
  have LJ := Lib.hid l11
  have IJ := Lib.hid i11
  clear g11 Ha_10 Hb_10 HU_10 HV_10 HM_10 HN_10 HP_10 HZ_10 HE_10 HI_10 b10 r11 l11 i11 p11
  go_wp2_with fail
  refine (both_N LI.out LJ.out SI.out SJ.out HI_11.out HJ_11.out (by omega) (by omega) II.out.1 IJ.out.1).mono ?_
  rintro e w12 ⟨sK, nK, AK, cK, rfl, l12, mK, p12, i12, r12, g12⟩
  have Ha_12 := Lib.hid (reads_on Ha_11.out g12)
  have Hb_12 := Lib.hid (reads_on Hb_11.out g12)
  have HU_12 := Lib.hid (reads_on HU_11.out g12)
  have HV_12 := Lib.hid (reads_on HV_11.out g12)
  have HM_12 := Lib.hid (reads_on HM_11.out g12)
  have HN_12 := Lib.hid (reads_on HN_11.out g12)
  have HP_12 := Lib.hid (reads_on HP_11.out g12)
  have HZ_12 := Lib.hid (reads_on HZ_11.out g12)
  have HE_12 := Lib.hid (reads_on HE_11.out g12)
  have HI_12 := Lib.hid (reads_on HI_11.out g12)
  have HJ_12 := Lib.hid (reads_on HJ_11.out g12)
  have b12 := b11.trans (g12.mono b11.size)
  have HK_12 := Lib.hid r12
  have SK := Lib.hid p12
  have LK := Lib.hid l12
  have IK := Lib.hid i12
  clear g12 Ha_11 Hb_11 HU_11 HV_11 HM_11 HN_11 HP_11 HZ_11 HE_11 HI_11 HJ_11 b11 r12 l12 i12 p12
  go_wp2_with fail
  refine (not_N LU.out HU_12.out (by omega) IU.out.1).mono ?_
  rintro e w13 ⟨sQ, nQ, AQ, cQ, rfl, l13, mQ, p13, i13, r13, g13⟩
  have Ha_13 := Lib.hid (reads_on Ha_12.out g13)
  have Hb_13 := Lib.hid (reads_on Hb_12.out g13)
  have HU_13 := Lib.hid (reads_on HU_12.out g13)
  have HV_13 := Lib.hid (reads_on HV_12.out g13)
  have HM_13 := Lib.hid (reads_on HM_12.out g13)
  have HN_13 := Lib.hid (reads_on HN_12.out g13)
  have HP_13 := Lib.hid (reads_on HP_12.out g13)
  have HZ_13 := Lib.hid (reads_on HZ_12.out g13)
  have HE_13 := Lib.hid (reads_on HE_12.out g13)
  have HI_13 := Lib.hid (reads_on HI_12.out g13)
  have HJ_13 := Lib.hid (reads_on HJ_12.out g13)
  have HK_13 := Lib.hid (reads_on HK_12.out g13)
  have b13 := b12.trans (g13.mono b12.size)
  have HQ_13 := Lib.hid r13
  have SQ := Lib.hid p13
  have LQ := Lib.hid l13
  have IQ := Lib.hid i13
  clear g13 Ha_12 Hb_12 HU_12 HV_12 HM_12 HN_12 HP_12 HZ_12 HE_12 HI_12 HJ_12 HK_12 b12 r13 l13 i13 p13
  go_wp2_with fail
  refine (same_yes LU.out LV.out HU_13.out HV_13.out (by omega) (IU.out.uniq IV.out (fun v _ => by rw [In_app, In_app]; exact Or.comm))).mono ?_
  rintro e w14 ⟨rfl, g14⟩
  have Ha_14 := Lib.hid (reads_on Ha_13.out g14)
  have Hb_14 := Lib.hid (reads_on Hb_13.out g14)
  have HU_14 := Lib.hid (reads_on HU_13.out g14)
  have HV_14 := Lib.hid (reads_on HV_13.out g14)
  have HM_14 := Lib.hid (reads_on HM_13.out g14)
  have HN_14 := Lib.hid (reads_on HN_13.out g14)
  have HP_14 := Lib.hid (reads_on HP_13.out g14)
  have HZ_14 := Lib.hid (reads_on HZ_13.out g14)
  have HE_14 := Lib.hid (reads_on HE_13.out g14)
  have HI_14 := Lib.hid (reads_on HI_13.out g14)
  have HJ_14 := Lib.hid (reads_on HJ_13.out g14)
  have HK_14 := Lib.hid (reads_on HK_13.out g14)
  have HQ_14 := Lib.hid (reads_on HQ_13.out g14)
  have b14 := b13.trans (g14.mono b13.size)
  clear g14 Ha_13 Hb_13 HU_13 HV_13 HM_13 HN_13 HP_13 HZ_13 HE_13 HI_13 HJ_13 HK_13 HQ_13 b13
  go_wp2_with fail
  refine (same_yes LM.out LN.out HM_14.out HN_14.out (by omega) (IM.out.uniq IN.out (fun v _ => And.comm))).mono ?_
  rintro e w15 ⟨rfl, g15⟩
  have Ha_15 := Lib.hid (reads_on Ha_14.out g15)
  have Hb_15 := Lib.hid (reads_on Hb_14.out g15)
  have HU_15 := Lib.hid (reads_on HU_14.out g15)
  have HV_15 := Lib.hid (reads_on HV_14.out g15)
  have HM_15 := Lib.hid (reads_on HM_14.out g15)
  have HN_15 := Lib.hid (reads_on HN_14.out g15)
  have HP_15 := Lib.hid (reads_on HP_14.out g15)
  have HZ_15 := Lib.hid (reads_on HZ_14.out g15)
  have HE_15 := Lib.hid (reads_on HE_14.out g15)
  have HI_15 := Lib.hid (reads_on HI_14.out g15)
  have HJ_15 := Lib.hid (reads_on HJ_14.out g15)
  have HK_15 := Lib.hid (reads_on HK_14.out g15)
  have HQ_15 := Lib.hid (reads_on HQ_14.out g15)
  have b15 := b14.trans (g15.mono b14.size)
  clear g15 Ha_14 Hb_14 HU_14 HV_14 HM_14 HN_14 HP_14 HZ_14 HE_14 HI_14 HJ_14 HK_14 HQ_14 b14
  go_wp2_with fail
  refine (same_yes LP.out La.out HP_15.out Ha_15.out (by omega) (IP.out.uniq (IsSet.self Ga.out) (fun v _ => by rw [In_app]; exact or_self_iff))).mono ?_
  rintro e w16 ⟨rfl, g16⟩
  have Ha_16 := Lib.hid (reads_on Ha_15.out g16)
  have Hb_16 := Lib.hid (reads_on Hb_15.out g16)
  have HU_16 := Lib.hid (reads_on HU_15.out g16)
  have HV_16 := Lib.hid (reads_on HV_15.out g16)
  have HM_16 := Lib.hid (reads_on HM_15.out g16)
  have HN_16 := Lib.hid (reads_on HN_15.out g16)
  have HP_16 := Lib.hid (reads_on HP_15.out g16)
  have HZ_16 := Lib.hid (reads_on HZ_15.out g16)
  have HE_16 := Lib.hid (reads_on HE_15.out g16)
  have HI_16 := Lib.hid (reads_on HI_15.out g16)
  have HJ_16 := Lib.hid (reads_on HJ_15.out g16)
  have HK_16 := Lib.hid (reads_on HK_15.out g16)
  have HQ_16 := Lib.hid (reads_on HQ_15.out g16)
  have b16 := b15.trans (g16.mono b15.size)
  clear g16 Ha_15 Hb_15 HU_15 HV_15 HM_15 HN_15 HP_15 HZ_15 HE_15 HI_15 HJ_15 HK_15 HQ_15 b15
  go_wp2_with fail
  refine (same_yes LE.out La.out HE_16.out Ha_16.out (by omega) (IE.out.uniq (IsSet.self Ga.out) (fun v _ => by rw [List.nil_append]))).mono ?_
  rintro e w17 ⟨rfl, g17⟩
  have Ha_17 := Lib.hid (reads_on Ha_16.out g17)
  have Hb_17 := Lib.hid (reads_on Hb_16.out g17)
  have HU_17 := Lib.hid (reads_on HU_16.out g17)
  have HV_17 := Lib.hid (reads_on HV_16.out g17)
  have HM_17 := Lib.hid (reads_on HM_16.out g17)
  have HN_17 := Lib.hid (reads_on HN_16.out g17)
  have HP_17 := Lib.hid (reads_on HP_16.out g17)
  have HZ_17 := Lib.hid (reads_on HZ_16.out g17)
  have HE_17 := Lib.hid (reads_on HE_16.out g17)
  have HI_17 := Lib.hid (reads_on HI_16.out g17)
  have HJ_17 := Lib.hid (reads_on HJ_16.out g17)
  have HK_17 := Lib.hid (reads_on HK_16.out g17)
  have HQ_17 := Lib.hid (reads_on HQ_16.out g17)
  have b17 := b16.trans (g17.mono b16.size)
  clear g17 Ha_16 Hb_16 HU_16 HV_16 HM_16 HN_16 HP_16 HZ_16 HE_16 HI_16 HJ_16 HK_16 HQ_16 b16
  go_wp2_with fail
  refine (same_yes LK.out LQ.out HK_17.out HQ_17.out (by omega) (IK.out.uniq IQ.out (fun v hv => by rw [II.out.2 v hv, IJ.out.2 v hv, IU.out.2 v hv, In_app]; exact not_or.symm))).mono ?_
  rintro e w18 ⟨rfl, g18⟩
  have Ha_18 := Lib.hid (reads_on Ha_17.out g18)
  have Hb_18 := Lib.hid (reads_on Hb_17.out g18)
  have HU_18 := Lib.hid (reads_on HU_17.out g18)
  have HV_18 := Lib.hid (reads_on HV_17.out g18)
  have HM_18 := Lib.hid (reads_on HM_17.out g18)
  have HN_18 := Lib.hid (reads_on HN_17.out g18)
  have HP_18 := Lib.hid (reads_on HP_17.out g18)
  have HZ_18 := Lib.hid (reads_on HZ_17.out g18)
  have HE_18 := Lib.hid (reads_on HE_17.out g18)
  have HI_18 := Lib.hid (reads_on HI_17.out g18)
  have HJ_18 := Lib.hid (reads_on HJ_17.out g18)
  have HK_18 := Lib.hid (reads_on HK_17.out g18)
  have HQ_18 := Lib.hid (reads_on HQ_17.out g18)
  have b18 := b17.trans (g18.mono b17.size)
  clear g18 Ha_17 Hb_17 HU_17 HV_17 HM_17 HN_17 HP_17 HZ_17 HE_17 HI_17 HJ_17 HK_17 HQ_17 b17
  go_wp2_with fail
  refine (wakes_any _).mono ?_
  rintro e w19 ⟨rfl, g19⟩
  have Ha_19 := Lib.hid (reads_on Ha_18.out g19)
  have Hb_19 := Lib.hid (reads_on Hb_18.out g19)
  have HU_19 := Lib.hid (reads_on HU_18.out g19)
  have HV_19 := Lib.hid (reads_on HV_18.out g19)
  have HM_19 := Lib.hid (reads_on HM_18.out g19)
  have HN_19 := Lib.hid (reads_on HN_18.out g19)
  have HP_19 := Lib.hid (reads_on HP_18.out g19)
  have HZ_19 := Lib.hid (reads_on HZ_18.out g19)
  have HE_19 := Lib.hid (reads_on HE_18.out g19)
  have HI_19 := Lib.hid (reads_on HI_18.out g19)
  have HJ_19 := Lib.hid (reads_on HJ_18.out g19)
  have HK_19 := Lib.hid (reads_on HK_18.out g19)
  have HQ_19 := Lib.hid (reads_on HQ_18.out g19)
  have b19 := b18.trans (g19.mono b18.size)
  clear g19 Ha_18 Hb_18 HU_18 HV_18 HM_18 HN_18 HP_18 HZ_18 HE_18 HI_18 HJ_18 HK_18 HQ_18 b18
  go_wp2_with fail
  go_ret
  exact ⟨rfl, b19⟩

theorem walk (a b : List Rg) (n m : Nat) (ha : a.length = n) (hb : b.length = m) (A B : Option Addr) (c d : Nat) (w : World) (hA : Shp A n c) (hB : Shp B m d) (hRa : Reads w w.heap.size 2 A n (rcells a)) (hRb : Reads w w.heap.size 2 B m (rcells b)) : Calls Try.prog 6 #[.slice A n c, .slice B m d] w fun e w' => e = .returned (.bool true) ∧ Below w.heap.size w w' := by
  by_cases h1 : n ≤ 60
  · by_cases h2 : m ≤ 60
    · cases ga : goodB a
      · exact walk_bad_a a b n m ha hb A B c d w hA hB hRa hRb h1 h2 ga
      · cases gb : goodB b
        · exact walk_bad_b a b n m ha hb A B c d w hA hB hRa hRb h1 h2 ((goodB_iff a).1 ga) gb
        · exact walk_good a b n m ha hb A B c d w hA hB hRa hRb h1 h2 ((goodB_iff a).1 ga) ((goodB_iff b).1 gb)
    · exact walk_large a b n m ha hb A B c d w hA hB hRa hRb (.inr (by omega))
  · exact walk_large a b n m ha hb A B c d w hA hB hRa hRb (.inl (by omega))

/-! From the walk to the row. -/
theorem contract (H : Type) (enc : TypeId × Value → H) (W : World) (base : Nat) (args : Array Value) (ds gs : List (DataW H)) (before : List MemPlace)
    (hval0 : ∀ (j : Nat) t v, Try.f6.params[j]? = some t → args[j]? = some v → Value.okWide Try.prog W .any base t v)
    (hW : DataW.Whole enc Try.prog Try.f6.params.toList Rows.setsLawsSpec.vars false W args.toList ds gs before) :
    Calls Try.prog 6 args W fun e W' => ∃ v, e = .returned v ∧ Rows.setsLawsSpec.post enc Try.prog Try.f6 false true false false W args v W' := by
  have hval : ∀ (j : Nat) t v, Try.f6.params[j]? = some t → args[j]? = some v → Value.okWide Try.prog W .any base t v := hval0
  have hW' := hW
  obtain ⟨p, q, hA0, hV, rfl, hfz, hnd⟩ := hW
  have hA : DataW.TrodAll enc Try.prog W 0 (fun _ => true) true Try.f6.params.toList args.toList ds p := hA0
  rw [Try.params6] at hA hval
  obtain ⟨v0, vs0, d0, ds0, p0, q0, hargs, rfl, rfl, h0, r0⟩ := trodAll_cons hA
  obtain ⟨v1, vs1, d1, ds1, p1, q1, rfl, rfl, rfl, h1, r1⟩ := trodAll_cons r0
  obtain ⟨rfl, rfl, rfl⟩ := trodAll_nil r1
  obtain rfl : args = #[v0, v1] := by cases args; simp_all
  obtain ⟨rfl, rfl⟩ := trodVars_none hV
  obtain ⟨a0, len0, cap0, rfl⟩ := okWide_slice Try.underlying23 (hval 0 23 v0 rfl rfl)
  have k0 := h0
  have lt0 : ∀ x ∈ p0, x.block < W.heap.size := by obtain ⟨m, hm⟩ := k0; exact DataW.trod_lt m _ _ _ hm
  obtain ⟨l0, hl0, hs0, hr0⟩ : ∃ l, l.length = len0 ∧ Shp a0 len0 cap0 ∧ Reads W W.heap.size 2 a0 len0 (rcells l) := by
    obtain ⟨fuel, hf⟩ := h0
    exact open_set Try.underlying23 (by simpa [Value.cells] using hf)
  obtain ⟨a1, len1, cap1, rfl⟩ := okWide_slice Try.underlying23 (hval 1 23 v1 rfl rfl)
  have k1 := h1
  have lt1 : ∀ x ∈ p1, x.block < W.heap.size := by obtain ⟨m, hm⟩ := k1; exact DataW.trod_lt m _ _ _ hm
  obtain ⟨l1, hl1, hs1, hr1⟩ : ∃ l, l.length = len1 ∧ Shp a1 len1 cap1 ∧ Reads W W.heap.size 2 a1 len1 (rcells l) := by
    obtain ⟨fuel, hf⟩ := h1
    exact open_set Try.underlying23 (by simpa [Value.cells] using hf)
  clear hA0 hval0
  refine (walk l0 l1 len0 len1 hl0 hl1 a0 a1 cap0 cap1 W hs0 hs1 hr0 hr1).mono fun e W' ⟨he, bel⟩ => ?_
  subst he
  exact ⟨_, rfl, _, _, _, [], _, [], hW', trodAll_mk1 (shut_bool Try.underlying4 _), (trodAll_cons_mk (Below.trod laidOut (by kernel_rfl) (of_decide_eq_true (by kernel_rfl)) k0 bel lt0) (trodAll_cons_mk (Below.trod laidOut (by kernel_rfl) (of_decide_eq_true (by kernel_rfl)) k1 bel lt1) trodAll_mk0)), rfl, bel.frame _, fun h => by cases h⟩

set_option maxRecDepth 100000 in
theorem lifted (os : Os) (started : os.Started) (H : Type) (enc : TypeId × Value → H) :
    ReturnsInHanded {} Try.checked os 6 .any (Rows.setsLawsSpec.pre6 enc Try.prog Try.f6 Rows.setsLawsRow.domain false) (Rows.setsLawsSpec.post enc Try.prog Try.f6 false true false false) := by
  refine returnsInHanded_of_change (C := Try.checked) own started (by kernel_rfl) Try.func6
    (ChangeSpec.witness6 (enc := enc) (C := Try.checked) false ⟨#[], #[.slice none 0 0, .slice none 0 0], []⟩ 8 (by kernel_rfl) (by kernel_rfl) (by kernel_rfl) (by kernel_rfl)) ?_
  intro W base args ds gs before hval hW _ _
  exact contract H enc W base args ds gs before hval hW

theorem over : Rows.setsLawsRow.holds Try.pinned (OpenSpec.ofChange Rows.setsLawsSpec) :=
  OpenClaim.holds_of_wide 6 Try.f6 rfl rfl rfl rfl rfl rfl rfl ⟨rfl, rfl, rfl, rfl, rfl⟩ rfl rfl rfl rfl rfl (by kernel_rfl) Try.func6 (by kernel_rfl)
    (of_decide_eq_true (by kernel_rfl)) (by unfold Func.isWrapper; first | (rw [if_pos (by decide +kernel)]; kernel_rfl) | (rw [if_neg (by decide +kernel)]; exact ⟨rfl, rfl⟩))
    (fun os started H enc _ => lifted os started H enc)
end Go.Proofs.Ytehikcddnjibcaa.setsLaws

namespace Go.Proofs.Ytehikcddnjibcaa
/-- The given statement, under a short name. -/
theorem setsLaws_holds : Rows.SetsLawsSaid := setsLaws.over
#print axioms setsLaws_holds
end Go.Proofs.Ytehikcddnjibcaa
