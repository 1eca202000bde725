/- What the statements call beside each answer: the program's own examples. -/
import Derived.Test.YtehikcddnjibcaaBoth
import Derived.Test.YtehikcddnjibcaaWake0
namespace Go.Proofs.Ytehikcddnjibcaa
open Go.RowKit Go.BigFrame
set_option linter.unusedVariables false
set_option linter.unusedSimpArgs false

set_option maxHeartbeats 2000000 in
theorem wakes_any (w : World) : Calls Try.prog 9 #[] w fun e w' => e = .returned (.bool true) ∧ Below w.heap.size w w' := by
  have b0 : Below w.heap.size w w := Below.refl _ _
  go_enter Try.func9, Try.ntmps9
  go_wp2_with fail
  have g1 : Below w.heap.size w (w.alloc (.cells #[.int .i64 99, .int .i64 100, .int .i64 97, .int .i64 98, .int .i64 55295, .int .i64 55295, .int .i64 57344, .int .i64 57345] 41)) := below_new _ _
  have Hz_1 := Lib.hid (reads_lit w lA0 4 #[.int .i64 99, .int .i64 100, .int .i64 97, .int .i64 98, .int .i64 55295, .int .i64 55295, .int .i64 57344, .int .i64 57345] rfl rfl)
  have b1 := b0.trans (g1.mono b0.size)
  clear g1 b0
  generalize w.alloc (.cells #[.int .i64 99, .int .i64 100, .int .i64 97, .int .i64 98, .int .i64 55295, .int .i64 55295, .int .i64 57344, .int .i64 57345] 41) = w1 at *
  refine ((of_good lA0 4 rfl (some ⟨w.heap.size, 0, none⟩) 4 _ (fun h => by cases h) Hz_1.out (by omega) (by decide)).mono fun _ _ h => outIs_of h (IsSet.self gdA) setA (k := 2) rfl).mono ?_
  rintro e w2 ⟨A2, c2, rfl, s2, r2, g2⟩
  have Hz_2 := Lib.hid (reads_on Hz_1.out g2)
  have b2 := b1.trans (g2.mono b1.size)
  have Ha_2 := Lib.hid r2
  have Sa := Lib.hid s2
  clear g2 Hz_1 b1 r2 s2
  go_wp2_with fail
  refine ((not_good lA 2 rfl A2 c2 _ Ha_2.out (by omega) gdA).mono fun _ _ h => outIs_of h (IsSet.self gdB') setB (k := 3) rfl).mono ?_
  rintro e w3 ⟨A3, c3, rfl, s3, r3, g3⟩
  have Ha_3 := Lib.hid (reads_on Ha_2.out g3)
  have b3 := b2.trans (g3.mono b2.size)
  have Hb_3 := Lib.hid r3
  have Sb := Lib.hid s3
  clear g3 Ha_2 b2 r3 s3
  go_wp2_with fail
  have g4 : Below w3.heap.size w3 (w3.alloc (.cells #[.int .i64 100, .int .i64 101] 41)) := below_new _ _
  have Hy_4 := Lib.hid (reads_lit w3 lC0 1 #[.int .i64 100, .int .i64 101] rfl rfl)
  have Ha_4 := Lib.hid (reads_on Ha_3.out g4)
  have Hb_4 := Lib.hid (reads_on Hb_3.out g4)
  have b4 := b3.trans (g4.mono b3.size)
  clear g4 Ha_3 Hb_3 b3
  generalize w3.alloc (.cells #[.int .i64 100, .int .i64 101] 41) = w4 at *
  refine ((both_good lA lC0 2 1 rfl rfl A2 (some ⟨w3.heap.size, 0, none⟩) c2 1 _ Sa.out (shp_lit _ 1 (by omega)) Ha_4.out Hy_4.out (by omega) (by omega) gdA gdC0).mono fun _ _ h => outIs_of h (IsSet.self gdC) setC (k := 1) rfl).mono ?_
  rintro e w5 ⟨A5, c5, rfl, s5, r5, g5⟩
  have Ha_5 := Lib.hid (reads_on Ha_4.out g5)
  have Hb_5 := Lib.hid (reads_on Hb_4.out g5)
  have Hy_5 := Lib.hid (reads_on Hy_4.out g5)
  have b5 := b4.trans (g5.mono b4.size)
  have Hc_5 := Lib.hid r5
  have Sc := Lib.hid s5
  clear g5 Ha_4 Hb_4 Hy_4 b4 r5 s5
  go_wp2_with fail
  refine ((union_good lA lB 2 3 rfl rfl A2 A3 c2 c3 _ Sa.out.1 Sb.out.1 Ha_5.out Hb_5.out (by omega) (by omega) gdA gdB').mono fun _ _ h => outIs_of h (IsSet.self gdD) setD (k := 1) rfl).mono ?_
  rintro e w6 ⟨A6, c6, rfl, s6, r6, g6⟩
  have Ha_6 := Lib.hid (reads_on Ha_5.out g6)
  have Hb_6 := Lib.hid (reads_on Hb_5.out g6)
  have Hc_6 := Lib.hid (reads_on Hc_5.out g6)
  have b6 := b5.trans (g6.mono b5.size)
  have Hd_6 := Lib.hid r6
  have Sd := Lib.hid s6
  clear g6 Ha_5 Hb_5 Hc_5 b5 r6 s6
  go_wp2_with fail
  have g7 : Below w6.heap.size w6 (w6.alloc (.cells #[.int .i64 97, .int .i64 100, .int .i64 55295, .int .i64 57345] 41)) := below_new _ _
  have Hq_7 := Lib.hid (reads_lit w6 lA 2 #[.int .i64 97, .int .i64 100, .int .i64 55295, .int .i64 57345] rfl rfl)
  have Ha_7 := Lib.hid (reads_on Ha_6.out g7)
  have Hb_7 := Lib.hid (reads_on Hb_6.out g7)
  have Hc_7 := Lib.hid (reads_on Hc_6.out g7)
  have Hd_7 := Lib.hid (reads_on Hd_6.out g7)
  have b7 := b6.trans (g7.mono b6.size)
  clear g7 Ha_6 Hb_6 Hc_6 Hd_6 b6
  generalize w6.alloc (.cells #[.int .i64 97, .int .i64 100, .int .i64 55295, .int .i64 57345] 41) = w7 at *
  have K7 := fun W h1 h2 => keep_n lA lA 2 2 rfl rfl A2 (some ⟨w6.heap.size, 0, none⟩) c2 2 W h1 h2 (by omega)
  rw [show eqL lA lA = true from by decide] at K7
  refine (K7 _ Ha_7.out Hq_7.out).mono ?_
  rintro e w8 ⟨rfl, g8⟩
  have Ha_8 := Lib.hid (reads_on Ha_7.out g8)
  have Hb_8 := Lib.hid (reads_on Hb_7.out g8)
  have Hc_8 := Lib.hid (reads_on Hc_7.out g8)
  have Hd_8 := Lib.hid (reads_on Hd_7.out g8)
  have Hq_8 := Lib.hid (reads_on Hq_7.out g8)
  have b8 := b7.trans (g8.mono b7.size)
  clear g8 Ha_7 Hb_7 Hc_7 Hd_7 Hq_7 b7
  go_wp2_with fail
  have g9 : Below w8.heap.size w8 (w8.alloc (.cells #[.int .i64 100, .int .i64 100] 41)) := below_new _ _
  have Hq_9 := Lib.hid (reads_lit w8 lC 1 #[.int .i64 100, .int .i64 100] rfl rfl)
  have Ha_9 := Lib.hid (reads_on Ha_8.out g9)
  have Hb_9 := Lib.hid (reads_on Hb_8.out g9)
  have Hc_9 := Lib.hid (reads_on Hc_8.out g9)
  have Hd_9 := Lib.hid (reads_on Hd_8.out g9)
  have b9 := b8.trans (g9.mono b8.size)
  clear g9 Ha_8 Hb_8 Hc_8 Hd_8 b8
  generalize w8.alloc (.cells #[.int .i64 100, .int .i64 100] 41) = w9 at *
  have K9 := fun W h1 h2 => keep_n lC lC 1 1 rfl rfl A5 (some ⟨w8.heap.size, 0, none⟩) c5 1 W h1 h2 (by omega)
  rw [show eqL lC lC = true from by decide] at K9
  refine (K9 _ Hc_9.out Hq_9.out).mono ?_
  rintro e w10 ⟨rfl, g10⟩
  have Ha_10 := Lib.hid (reads_on Ha_9.out g10)
  have Hb_10 := Lib.hid (reads_on Hb_9.out g10)
  have Hc_10 := Lib.hid (reads_on Hc_9.out g10)
  have Hd_10 := Lib.hid (reads_on Hd_9.out g10)
  have Hq_10 := Lib.hid (reads_on Hq_9.out g10)
  have b10 := b9.trans (g10.mono b9.size)
  clear g10 Ha_9 Hb_9 Hc_9 Hd_9 Hq_9 b9
  go_wp2_with fail
  have g11 : Below w10.heap.size w10 (w10.alloc (.cells #[.int .i64 0, .int .i64 1114111] 41)) := below_new _ _
  have Hq_11 := Lib.hid (reads_lit w10 lD 1 #[.int .i64 0, .int .i64 1114111] rfl rfl)
  have Ha_11 := Lib.hid (reads_on Ha_10.out g11)
  have Hb_11 := Lib.hid (reads_on Hb_10.out g11)
  have Hc_11 := Lib.hid (reads_on Hc_10.out g11)
  have Hd_11 := Lib.hid (reads_on Hd_10.out g11)
  have b11 := b10.trans (g11.mono b10.size)
  clear g11 Ha_10 Hb_10 Hc_10 Hd_10 b10
  generalize w10.alloc (.cells #[.int .i64 0, .int .i64 1114111] 41) = w11 at *
  have K11 := fun W h1 h2 => keep_n lD lD 1 1 rfl rfl A6 (some ⟨w10.heap.size, 0, none⟩) c6 1 W h1 h2 (by omega)
  rw [show eqL lD lD = true from by decide] at K11
  refine (K11 _ Hd_11.out Hq_11.out).mono ?_
  rintro e w12 ⟨rfl, g12⟩
  have Ha_12 := Lib.hid (reads_on Ha_11.out g12)
  have Hb_12 := Lib.hid (reads_on Hb_11.out g12)
  have Hc_12 := Lib.hid (reads_on Hc_11.out g12)
  have Hd_12 := Lib.hid (reads_on Hd_11.out g12)
  have Hq_12 := Lib.hid (reads_on Hq_11.out g12)
  have b12 := b11.trans (g12.mono b11.size)
  clear g12 Ha_11 Hb_11 Hc_11 Hd_11 Hq_11 b11
  go_wp2_with fail
  have KS := fun W h => size_n lA 2 rfl A2 c2 W h (by omega)
  rw [show (if goodB lA = true then sizeL lA else 0) = 7 from by decide] at KS
  refine (KS _ Ha_12.out).mono ?_
  rintro e w13 ⟨rfl, g13⟩
  have Ha_13 := Lib.hid (reads_on Ha_12.out g13)
  have Hb_13 := Lib.hid (reads_on Hb_12.out g13)
  have Hc_13 := Lib.hid (reads_on Hc_12.out g13)
  have Hd_13 := Lib.hid (reads_on Hd_12.out g13)
  have b13 := b12.trans (g13.mono b12.size)
  clear g13 Ha_12 Hb_12 Hc_12 Hd_12 b12
  go_wp2_with fail
  have KH0 := fun W h => has_n lA 2 rfl A2 c2 55295 W h (by omega)
  rw [show hasB lA 55295 = true from by decide] at KH0
  refine (KH0 _ Ha_13.out).mono ?_
  rintro e w14 ⟨rfl, g14⟩
  have Ha_14 := Lib.hid (reads_on Ha_13.out g14)
  have Hb_14 := Lib.hid (reads_on Hb_13.out g14)
  have Hc_14 := Lib.hid (reads_on Hc_13.out g14)
  have Hd_14 := Lib.hid (reads_on Hd_13.out g14)
  have b14 := b13.trans (g14.mono b13.size)
  clear g14 Ha_13 Hb_13 Hc_13 Hd_13 b13
  go_wp2_with fail
  have KH1 := fun W h => has_n lA 2 rfl A2 c2 55552 W h (by omega)
  rw [show hasB lA 55552 = false from by decide] at KH1
  refine (KH1 _ Ha_14.out).mono ?_
  rintro e w15 ⟨rfl, g15⟩
  have Ha_15 := Lib.hid (reads_on Ha_14.out g15)
  have Hb_15 := Lib.hid (reads_on Hb_14.out g15)
  have Hc_15 := Lib.hid (reads_on Hc_14.out g15)
  have Hd_15 := Lib.hid (reads_on Hd_14.out g15)
  have b15 := b14.trans (g15.mono b14.size)
  clear g15 Ha_14 Hb_14 Hc_14 Hd_14 b14
  go_wp2_with fail
  have KG := fun W h => good_n 2 lA rfl A2 c2 W h (by omega)
  rw [show goodB lA = true from by decide] at KG
  refine (KG _ Ha_15.out).mono ?_
  rintro e w16 ⟨rfl, g16⟩
  have Ha_16 := Lib.hid (reads_on Ha_15.out g16)
  have Hb_16 := Lib.hid (reads_on Hb_15.out g16)
  have Hc_16 := Lib.hid (reads_on Hc_15.out g16)
  have Hd_16 := Lib.hid (reads_on Hd_15.out g16)
  have b16 := b15.trans (g16.mono b15.size)
  clear g16 Ha_15 Hb_15 Hc_15 Hd_15 b15
  go_wp2_with fail
  have g17 : Below w16.heap.size w16 (w16.alloc (.cells #[.int .i64 1, .int .i64 2, .int .i64 3, .int .i64 4] 41)) := below_new _ _
  have He_17 := Lib.hid (reads_lit w16 lE 2 #[.int .i64 1, .int .i64 2, .int .i64 3, .int .i64 4] rfl rfl)
  have Ha_17 := Lib.hid (reads_on Ha_16.out g17)
  have Hb_17 := Lib.hid (reads_on Hb_16.out g17)
  have Hc_17 := Lib.hid (reads_on Hc_16.out g17)
  have Hd_17 := Lib.hid (reads_on Hd_16.out g17)
  have b17 := b16.trans (g17.mono b16.size)
  clear g17 Ha_16 Hb_16 Hc_16 Hd_16 b16
  generalize w16.alloc (.cells #[.int .i64 1, .int .i64 2, .int .i64 3, .int .i64 4] 41) = w17 at *
  have KE := fun W h => good_n 2 lE rfl (some ⟨w16.heap.size, 0, none⟩) 2 W h (by omega)
  rw [show goodB lE = false from by decide] at KE
  refine (KE _ He_17.out).mono ?_
  rintro e w18 ⟨rfl, g18⟩
  have Ha_18 := Lib.hid (reads_on Ha_17.out g18)
  have Hb_18 := Lib.hid (reads_on Hb_17.out g18)
  have Hc_18 := Lib.hid (reads_on Hc_17.out g18)
  have Hd_18 := Lib.hid (reads_on Hd_17.out g18)
  have He_18 := Lib.hid (reads_on He_17.out g18)
  have b18 := b17.trans (g18.mono b17.size)
  clear g18 Ha_17 Hb_17 Hc_17 Hd_17 He_17 b17
  go_wp2_with fail
  have KL := fun W h1 h2 => less_n lA lC 2 1 rfl rfl A2 A5 c2 c5 W h1 h2 (by omega) (by omega)
  rw [show lessL lA lC = true from by decide] at KL
  refine (KL _ Ha_18.out Hc_18.out).mono ?_
  rintro e w19 ⟨rfl, g19⟩
  have Ha_19 := Lib.hid (reads_on Ha_18.out g19)
  have Hb_19 := Lib.hid (reads_on Hb_18.out g19)
  have Hc_19 := Lib.hid (reads_on Hc_18.out g19)
  have Hd_19 := Lib.hid (reads_on Hd_18.out g19)
  have b19 := b18.trans (g19.mono b18.size)
  clear g19 Ha_18 Hb_18 Hc_18 Hd_18 b18
  go_wp2_with fail
  have KM := fun W h1 h2 => same_n lA lA 2 2 rfl rfl A2 A2 c2 c2 W h1 h2 (by omega)
  rw [show eqL lA lA = true from by decide] at KM
  refine (KM _ Ha_19.out Ha_19.out).mono ?_
  rintro e w20 ⟨rfl, g20⟩
  have Ha_20 := Lib.hid (reads_on Ha_19.out g20)
  have Hb_20 := Lib.hid (reads_on Hb_19.out g20)
  have Hc_20 := Lib.hid (reads_on Hc_19.out g20)
  have Hd_20 := Lib.hid (reads_on Hd_19.out g20)
  have b20 := b19.trans (g20.mono b19.size)
  clear g20 Ha_19 Hb_19 Hc_19 Hd_19 b19
  go_wp2_with fail
  go_ret
  exact ⟨rfl, b20⟩
end Go.Proofs.Ytehikcddnjibcaa
