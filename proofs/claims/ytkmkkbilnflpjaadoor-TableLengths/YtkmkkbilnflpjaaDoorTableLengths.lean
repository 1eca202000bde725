/- TableLengths: for every three bytes (classes, states, bands) the program's Length tells four more for each band, one more for each state and class, a byte more of bits for each eight states, and 0 outside 0 to 255.
   Conditions: none but the row's own (the mark's variable starts as the program's text lays it). -/
import Derived.Test.YtkmkkbilnflpjaaDoorLawKit3
namespace Go.Proofs.YtkmkkbilnflpjaaDoor.tableLengths
open Go.ChangeShapes Go.WideShapes Go.ChangeAt Go.RowKit Go.Deep Go.BigFrame
set_option linter.unusedVariables false
set_option linter.unusedSimpArgs false
theorem len_c (c s k : Nat) : lenT (c + 1) s k = lenT c s k + s := by unfold lenT; rw [Nat.mul_succ]; omega
theorem len_k (c s k : Nat) : lenT c s (k + 1) = lenT c s k + 4 := by unfold lenT; omega
theorem len_s0 (c s k : Nat) (h : s % 8 = 0) : lenT c (s + 1) k = lenT c s k + c + 1 := by unfold lenT; rw [show (s + 1) * c = s * c + c from Nat.succ_mul s c]; omega
theorem len_s1 (c s k : Nat) (h : s % 8 ≠ 0) : lenT c (s + 1) k = lenT c s k + c := by unfold lenT; rw [show (s + 1) * c = s * c + c from Nat.succ_mul s c]; omega
theorem len_b (c s k : Nat) (hc : c ≤ 255) (hs : s ≤ 255) (hk : k ≤ 255) : lenT c s k ≤ 100000 := by
  have := Nat.mul_le_mul hs hc
  unfold lenT
  omega
set_option maxRecDepth 8000 in
set_option maxHeartbeats 2000000 in
theorem walk1111 (x y z : Nat) (hx : x < 256) (hy : y < 256) (hz : z < 256) (hc : x < 255) (hk : z < 255) (hs : y < 255) (hm : y % 8 = 0) (W : World) (hM : Mark W) :
    Calls Tryd.prog 8 #[.agg #[.int .u8 (x : Int), .int .u8 (y : Int), .int .u8 (z : Int)]] W fun e W' => e = .returned (.bool true) ∧ Below W.heap.size W W' := by
  have HM := Lib.hid hM
  have H0 := Lib.hid (length_is x y z _ (lenI_nat (by omega) (by omega) (by omega)))
  have hlb := len_b x y z (by omega) (by omega) (by omega)
  have H1 := Lib.hid (length_is ((x : Int) + 1) y z _ ((lenI_nat (c := x + 1) (by omega) (by omega) (by omega)).trans (len_c x y z)))
  have H2 := Lib.hid (length_is x y ((z : Int) + 1) _ ((lenI_nat (k := z + 1) (by omega) (by omega) (by omega)).trans (len_k x y z)))
  have H3 := Lib.hid (length_is x ((y : Int) + 1) z _ ((lenI_nat (s := y + 1) (by omega) (by omega) (by omega)).trans (len_s0 x y z hm)))
  have H4 := Lib.hid (length_is 0 0 0 11 rfl)
  have H5 := Lib.hid (length_is (-1) y z 0 (lenI_no (fun h => by have := h.1; revert this; decide)))
  have H6 := Lib.hid (length_is x 256 z 0 (lenI_no (fun h => by have := h.2.1; revert this; decide)))
  generalize lenT x y z = L at *
  have hmI : ((y : Int) % 8 == 0) = true := by rw [beq_iff_eq]; omega
  clear hM hm
  go_enter Tryd.func8, Tryd.ntmps8
  go_wp2_with fail
  go_quiet (fail)
  go_wp2_with fail
  have bb : Below W.heap.size W ((W.alloc (.cells #[.int .u8 (x : Int), .int .u8 (y : Int), .int .u8 (z : Int)] 56)).drewN nq) := below_drewN (below_new _ _) _
  replace HM := Lib.hid (HM.out.on bb)
  generalize (W.alloc (.cells #[.int .u8 (x : Int), .int .u8 (y : Int), .int .u8 (z : Int)] 56)).drewN nq = W1 at *
  refine (H0.out _).mono ?_
  rintro e w1 ⟨rfl, g⟩
  replace bb := bb.trans (g.mono bb.size)
  replace HM := Lib.hid (HM.out.on g)
  clear g H0
  go_wp2_with fail
  refine (H1.out _).mono ?_
  rintro e w1 ⟨rfl, g⟩
  replace bb := bb.trans (g.mono bb.size)
  replace HM := Lib.hid (HM.out.on g)
  clear g H1
  go_wp2_with fail
  refine (H2.out _).mono ?_
  rintro e w1 ⟨rfl, g⟩
  replace bb := bb.trans (g.mono bb.size)
  replace HM := Lib.hid (HM.out.on g)
  clear g H2
  go_wp2_with fail
  refine (H3.out _).mono ?_
  rintro e w1 ⟨rfl, g⟩
  replace bb := bb.trans (g.mono bb.size)
  replace HM := Lib.hid (HM.out.on g)
  clear g H3
  go_wp2_with fail
  refine (H4.out _).mono ?_
  rintro e w1 ⟨rfl, g⟩
  replace bb := bb.trans (g.mono bb.size)
  replace HM := Lib.hid (HM.out.on g)
  clear g H4
  go_wp2_with fail
  refine (H5.out _).mono ?_
  rintro e w1 ⟨rfl, g⟩
  replace bb := bb.trans (g.mono bb.size)
  replace HM := Lib.hid (HM.out.on g)
  clear g H5
  go_wp2_with fail
  refine (H6.out _).mono ?_
  rintro e w1 ⟨rfl, g⟩
  replace bb := bb.trans (g.mono bb.size)
  replace HM := Lib.hid (HM.out.on g)
  clear g H6
  go_wp2_with fail
  refine (wakes_any _ HM.out).mono ?_
  rintro e w1 ⟨rfl, g⟩
  replace bb := bb.trans (g.mono bb.size)
  clear g HM
  go_wp2_with fail
  go_ret
  exact ⟨rfl, bb⟩
set_option maxRecDepth 8000 in
set_option maxHeartbeats 2000000 in
theorem walk1110 (x y z : Nat) (hx : x < 256) (hy : y < 256) (hz : z < 256) (hc : x < 255) (hk : z < 255) (hs : y < 255) (hm : y % 8 ≠ 0) (W : World) (hM : Mark W) :
    Calls Tryd.prog 8 #[.agg #[.int .u8 (x : Int), .int .u8 (y : Int), .int .u8 (z : Int)]] W fun e W' => e = .returned (.bool true) ∧ Below W.heap.size W W' := by
  have HM := Lib.hid hM
  have H0 := Lib.hid (length_is x y z _ (lenI_nat (by omega) (by omega) (by omega)))
  have hlb := len_b x y z (by omega) (by omega) (by omega)
  have H1 := Lib.hid (length_is ((x : Int) + 1) y z _ ((lenI_nat (c := x + 1) (by omega) (by omega) (by omega)).trans (len_c x y z)))
  have H2 := Lib.hid (length_is x y ((z : Int) + 1) _ ((lenI_nat (k := z + 1) (by omega) (by omega) (by omega)).trans (len_k x y z)))
  have H3 := Lib.hid (length_is x ((y : Int) + 1) z _ ((lenI_nat (s := y + 1) (by omega) (by omega) (by omega)).trans (len_s1 x y z hm)))
  have H4 := Lib.hid (length_is 0 0 0 11 rfl)
  have H5 := Lib.hid (length_is (-1) y z 0 (lenI_no (fun h => by have := h.1; revert this; decide)))
  have H6 := Lib.hid (length_is x 256 z 0 (lenI_no (fun h => by have := h.2.1; revert this; decide)))
  generalize lenT x y z = L at *
  have hmI : ((y : Int) % 8 == 0) = false := by rw [beq_eq_false_iff_ne]; omega
  clear hM hm
  go_enter Tryd.func8, Tryd.ntmps8
  go_wp2_with fail
  go_quiet (fail)
  go_wp2_with fail
  have bb : Below W.heap.size W ((W.alloc (.cells #[.int .u8 (x : Int), .int .u8 (y : Int), .int .u8 (z : Int)] 56)).drewN nq) := below_drewN (below_new _ _) _
  replace HM := Lib.hid (HM.out.on bb)
  generalize (W.alloc (.cells #[.int .u8 (x : Int), .int .u8 (y : Int), .int .u8 (z : Int)] 56)).drewN nq = W1 at *
  refine (H0.out _).mono ?_
  rintro e w1 ⟨rfl, g⟩
  replace bb := bb.trans (g.mono bb.size)
  replace HM := Lib.hid (HM.out.on g)
  clear g H0
  go_wp2_with fail
  refine (H1.out _).mono ?_
  rintro e w1 ⟨rfl, g⟩
  replace bb := bb.trans (g.mono bb.size)
  replace HM := Lib.hid (HM.out.on g)
  clear g H1
  go_wp2_with fail
  refine (H2.out _).mono ?_
  rintro e w1 ⟨rfl, g⟩
  replace bb := bb.trans (g.mono bb.size)
  replace HM := Lib.hid (HM.out.on g)
  clear g H2
  go_wp2_with fail
  refine (H3.out _).mono ?_
  rintro e w1 ⟨rfl, g⟩
  replace bb := bb.trans (g.mono bb.size)
  replace HM := Lib.hid (HM.out.on g)
  clear g H3
  go_wp2_with fail
  refine (H4.out _).mono ?_
  rintro e w1 ⟨rfl, g⟩
  replace bb := bb.trans (g.mono bb.size)
  replace HM := Lib.hid (HM.out.on g)
  clear g H4
  go_wp2_with fail
  refine (H5.out _).mono ?_
  rintro e w1 ⟨rfl, g⟩
  replace bb := bb.trans (g.mono bb.size)
  replace HM := Lib.hid (HM.out.on g)
  clear g H5
  go_wp2_with fail
  refine (H6.out _).mono ?_
  rintro e w1 ⟨rfl, g⟩
  replace bb := bb.trans (g.mono bb.size)
  replace HM := Lib.hid (HM.out.on g)
  clear g H6
  go_wp2_with fail
  refine (wakes_any _ HM.out).mono ?_
  rintro e w1 ⟨rfl, g⟩
  replace bb := bb.trans (g.mono bb.size)
  clear g HM
  go_wp2_with fail
  go_ret
  exact ⟨rfl, bb⟩
set_option maxRecDepth 8000 in
set_option maxHeartbeats 2000000 in
theorem walk1100 (x y z : Nat) (hx : x < 256) (hy : y < 256) (hz : z < 256) (hc : x < 255) (hk : z < 255) (hs : ¬ y < 255) (hm : y % 8 ≠ 0) (W : World) (hM : Mark W) :
    Calls Tryd.prog 8 #[.agg #[.int .u8 (x : Int), .int .u8 (y : Int), .int .u8 (z : Int)]] W fun e W' => e = .returned (.bool true) ∧ Below W.heap.size W W' := by
  have HM := Lib.hid hM
  have H0 := Lib.hid (length_is x y z _ (lenI_nat (by omega) (by omega) (by omega)))
  have hlb := len_b x y z (by omega) (by omega) (by omega)
  have H1 := Lib.hid (length_is ((x : Int) + 1) y z _ ((lenI_nat (c := x + 1) (by omega) (by omega) (by omega)).trans (len_c x y z)))
  have H2 := Lib.hid (length_is x y ((z : Int) + 1) _ ((lenI_nat (k := z + 1) (by omega) (by omega) (by omega)).trans (len_k x y z)))
  have H4 := Lib.hid (length_is 0 0 0 11 rfl)
  have H5 := Lib.hid (length_is (-1) y z 0 (lenI_no (fun h => by have := h.1; revert this; decide)))
  have H6 := Lib.hid (length_is x 256 z 0 (lenI_no (fun h => by have := h.2.1; revert this; decide)))
  generalize lenT x y z = L at *
  have hmI : ((y : Int) % 8 == 0) = false := by rw [beq_eq_false_iff_ne]; omega
  clear hM hm
  go_enter Tryd.func8, Tryd.ntmps8
  go_wp2_with fail
  go_quiet (fail)
  go_wp2_with fail
  have bb : Below W.heap.size W ((W.alloc (.cells #[.int .u8 (x : Int), .int .u8 (y : Int), .int .u8 (z : Int)] 56)).drewN nq) := below_drewN (below_new _ _) _
  replace HM := Lib.hid (HM.out.on bb)
  generalize (W.alloc (.cells #[.int .u8 (x : Int), .int .u8 (y : Int), .int .u8 (z : Int)] 56)).drewN nq = W1 at *
  refine (H0.out _).mono ?_
  rintro e w1 ⟨rfl, g⟩
  replace bb := bb.trans (g.mono bb.size)
  replace HM := Lib.hid (HM.out.on g)
  clear g H0
  go_wp2_with fail
  refine (H1.out _).mono ?_
  rintro e w1 ⟨rfl, g⟩
  replace bb := bb.trans (g.mono bb.size)
  replace HM := Lib.hid (HM.out.on g)
  clear g H1
  go_wp2_with fail
  refine (H2.out _).mono ?_
  rintro e w1 ⟨rfl, g⟩
  replace bb := bb.trans (g.mono bb.size)
  replace HM := Lib.hid (HM.out.on g)
  clear g H2
  go_wp2_with fail
  refine (H4.out _).mono ?_
  rintro e w1 ⟨rfl, g⟩
  replace bb := bb.trans (g.mono bb.size)
  replace HM := Lib.hid (HM.out.on g)
  clear g H4
  go_wp2_with fail
  refine (H5.out _).mono ?_
  rintro e w1 ⟨rfl, g⟩
  replace bb := bb.trans (g.mono bb.size)
  replace HM := Lib.hid (HM.out.on g)
  clear g H5
  go_wp2_with fail
  refine (H6.out _).mono ?_
  rintro e w1 ⟨rfl, g⟩
  replace bb := bb.trans (g.mono bb.size)
  replace HM := Lib.hid (HM.out.on g)
  clear g H6
  go_wp2_with fail
  refine (wakes_any _ HM.out).mono ?_
  rintro e w1 ⟨rfl, g⟩
  replace bb := bb.trans (g.mono bb.size)
  clear g HM
  go_wp2_with fail
  go_ret
  exact ⟨rfl, bb⟩
set_option maxRecDepth 8000 in
set_option maxHeartbeats 2000000 in
theorem walk1011 (x y z : Nat) (hx : x < 256) (hy : y < 256) (hz : z < 256) (hc : x < 255) (hk : ¬ z < 255) (hs : y < 255) (hm : y % 8 = 0) (W : World) (hM : Mark W) :
    Calls Tryd.prog 8 #[.agg #[.int .u8 (x : Int), .int .u8 (y : Int), .int .u8 (z : Int)]] W fun e W' => e = .returned (.bool true) ∧ Below W.heap.size W W' := by
  have HM := Lib.hid hM
  have H0 := Lib.hid (length_is x y z _ (lenI_nat (by omega) (by omega) (by omega)))
  have hlb := len_b x y z (by omega) (by omega) (by omega)
  have H1 := Lib.hid (length_is ((x : Int) + 1) y z _ ((lenI_nat (c := x + 1) (by omega) (by omega) (by omega)).trans (len_c x y z)))
  have H3 := Lib.hid (length_is x ((y : Int) + 1) z _ ((lenI_nat (s := y + 1) (by omega) (by omega) (by omega)).trans (len_s0 x y z hm)))
  have H4 := Lib.hid (length_is 0 0 0 11 rfl)
  have H5 := Lib.hid (length_is (-1) y z 0 (lenI_no (fun h => by have := h.1; revert this; decide)))
  have H6 := Lib.hid (length_is x 256 z 0 (lenI_no (fun h => by have := h.2.1; revert this; decide)))
  generalize lenT x y z = L at *
  have hmI : ((y : Int) % 8 == 0) = true := by rw [beq_iff_eq]; omega
  clear hM hm
  go_enter Tryd.func8, Tryd.ntmps8
  go_wp2_with fail
  go_quiet (fail)
  go_wp2_with fail
  have bb : Below W.heap.size W ((W.alloc (.cells #[.int .u8 (x : Int), .int .u8 (y : Int), .int .u8 (z : Int)] 56)).drewN nq) := below_drewN (below_new _ _) _
  replace HM := Lib.hid (HM.out.on bb)
  generalize (W.alloc (.cells #[.int .u8 (x : Int), .int .u8 (y : Int), .int .u8 (z : Int)] 56)).drewN nq = W1 at *
  refine (H0.out _).mono ?_
  rintro e w1 ⟨rfl, g⟩
  replace bb := bb.trans (g.mono bb.size)
  replace HM := Lib.hid (HM.out.on g)
  clear g H0
  go_wp2_with fail
  refine (H1.out _).mono ?_
  rintro e w1 ⟨rfl, g⟩
  replace bb := bb.trans (g.mono bb.size)
  replace HM := Lib.hid (HM.out.on g)
  clear g H1
  go_wp2_with fail
  refine (H3.out _).mono ?_
  rintro e w1 ⟨rfl, g⟩
  replace bb := bb.trans (g.mono bb.size)
  replace HM := Lib.hid (HM.out.on g)
  clear g H3
  go_wp2_with fail
  refine (H4.out _).mono ?_
  rintro e w1 ⟨rfl, g⟩
  replace bb := bb.trans (g.mono bb.size)
  replace HM := Lib.hid (HM.out.on g)
  clear g H4
  go_wp2_with fail
  refine (H5.out _).mono ?_
  rintro e w1 ⟨rfl, g⟩
  replace bb := bb.trans (g.mono bb.size)
  replace HM := Lib.hid (HM.out.on g)
  clear g H5
  go_wp2_with fail
  refine (H6.out _).mono ?_
  rintro e w1 ⟨rfl, g⟩
  replace bb := bb.trans (g.mono bb.size)
  replace HM := Lib.hid (HM.out.on g)
  clear g H6
  go_wp2_with fail
  refine (wakes_any _ HM.out).mono ?_
  rintro e w1 ⟨rfl, g⟩
  replace bb := bb.trans (g.mono bb.size)
  clear g HM
  go_wp2_with fail
  go_ret
  exact ⟨rfl, bb⟩
set_option maxRecDepth 8000 in
set_option maxHeartbeats 2000000 in
theorem walk1010 (x y z : Nat) (hx : x < 256) (hy : y < 256) (hz : z < 256) (hc : x < 255) (hk : ¬ z < 255) (hs : y < 255) (hm : y % 8 ≠ 0) (W : World) (hM : Mark W) :
    Calls Tryd.prog 8 #[.agg #[.int .u8 (x : Int), .int .u8 (y : Int), .int .u8 (z : Int)]] W fun e W' => e = .returned (.bool true) ∧ Below W.heap.size W W' := by
  have HM := Lib.hid hM
  have H0 := Lib.hid (length_is x y z _ (lenI_nat (by omega) (by omega) (by omega)))
  have hlb := len_b x y z (by omega) (by omega) (by omega)
  have H1 := Lib.hid (length_is ((x : Int) + 1) y z _ ((lenI_nat (c := x + 1) (by omega) (by omega) (by omega)).trans (len_c x y z)))
  have H3 := Lib.hid (length_is x ((y : Int) + 1) z _ ((lenI_nat (s := y + 1) (by omega) (by omega) (by omega)).trans (len_s1 x y z hm)))
  have H4 := Lib.hid (length_is 0 0 0 11 rfl)
  have H5 := Lib.hid (length_is (-1) y z 0 (lenI_no (fun h => by have := h.1; revert this; decide)))
  have H6 := Lib.hid (length_is x 256 z 0 (lenI_no (fun h => by have := h.2.1; revert this; decide)))
  generalize lenT x y z = L at *
  have hmI : ((y : Int) % 8 == 0) = false := by rw [beq_eq_false_iff_ne]; omega
  clear hM hm
  go_enter Tryd.func8, Tryd.ntmps8
  go_wp2_with fail
  go_quiet (fail)
  go_wp2_with fail
  have bb : Below W.heap.size W ((W.alloc (.cells #[.int .u8 (x : Int), .int .u8 (y : Int), .int .u8 (z : Int)] 56)).drewN nq) := below_drewN (below_new _ _) _
  replace HM := Lib.hid (HM.out.on bb)
  generalize (W.alloc (.cells #[.int .u8 (x : Int), .int .u8 (y : Int), .int .u8 (z : Int)] 56)).drewN nq = W1 at *
  refine (H0.out _).mono ?_
  rintro e w1 ⟨rfl, g⟩
  replace bb := bb.trans (g.mono bb.size)
  replace HM := Lib.hid (HM.out.on g)
  clear g H0
  go_wp2_with fail
  refine (H1.out _).mono ?_
  rintro e w1 ⟨rfl, g⟩
  replace bb := bb.trans (g.mono bb.size)
  replace HM := Lib.hid (HM.out.on g)
  clear g H1
  go_wp2_with fail
  refine (H3.out _).mono ?_
  rintro e w1 ⟨rfl, g⟩
  replace bb := bb.trans (g.mono bb.size)
  replace HM := Lib.hid (HM.out.on g)
  clear g H3
  go_wp2_with fail
  refine (H4.out _).mono ?_
  rintro e w1 ⟨rfl, g⟩
  replace bb := bb.trans (g.mono bb.size)
  replace HM := Lib.hid (HM.out.on g)
  clear g H4
  go_wp2_with fail
  refine (H5.out _).mono ?_
  rintro e w1 ⟨rfl, g⟩
  replace bb := bb.trans (g.mono bb.size)
  replace HM := Lib.hid (HM.out.on g)
  clear g H5
  go_wp2_with fail
  refine (H6.out _).mono ?_
  rintro e w1 ⟨rfl, g⟩
  replace bb := bb.trans (g.mono bb.size)
  replace HM := Lib.hid (HM.out.on g)
  clear g H6
  go_wp2_with fail
  refine (wakes_any _ HM.out).mono ?_
  rintro e w1 ⟨rfl, g⟩
  replace bb := bb.trans (g.mono bb.size)
  clear g HM
  go_wp2_with fail
  go_ret
  exact ⟨rfl, bb⟩
set_option maxRecDepth 8000 in
set_option maxHeartbeats 2000000 in
theorem walk1000 (x y z : Nat) (hx : x < 256) (hy : y < 256) (hz : z < 256) (hc : x < 255) (hk : ¬ z < 255) (hs : ¬ y < 255) (hm : y % 8 ≠ 0) (W : World) (hM : Mark W) :
    Calls Tryd.prog 8 #[.agg #[.int .u8 (x : Int), .int .u8 (y : Int), .int .u8 (z : Int)]] W fun e W' => e = .returned (.bool true) ∧ Below W.heap.size W W' := by
  have HM := Lib.hid hM
  have H0 := Lib.hid (length_is x y z _ (lenI_nat (by omega) (by omega) (by omega)))
  have hlb := len_b x y z (by omega) (by omega) (by omega)
  have H1 := Lib.hid (length_is ((x : Int) + 1) y z _ ((lenI_nat (c := x + 1) (by omega) (by omega) (by omega)).trans (len_c x y z)))
  have H4 := Lib.hid (length_is 0 0 0 11 rfl)
  have H5 := Lib.hid (length_is (-1) y z 0 (lenI_no (fun h => by have := h.1; revert this; decide)))
  have H6 := Lib.hid (length_is x 256 z 0 (lenI_no (fun h => by have := h.2.1; revert this; decide)))
  generalize lenT x y z = L at *
  have hmI : ((y : Int) % 8 == 0) = false := by rw [beq_eq_false_iff_ne]; omega
  clear hM hm
  go_enter Tryd.func8, Tryd.ntmps8
  go_wp2_with fail
  go_quiet (fail)
  go_wp2_with fail
  have bb : Below W.heap.size W ((W.alloc (.cells #[.int .u8 (x : Int), .int .u8 (y : Int), .int .u8 (z : Int)] 56)).drewN nq) := below_drewN (below_new _ _) _
  replace HM := Lib.hid (HM.out.on bb)
  generalize (W.alloc (.cells #[.int .u8 (x : Int), .int .u8 (y : Int), .int .u8 (z : Int)] 56)).drewN nq = W1 at *
  refine (H0.out _).mono ?_
  rintro e w1 ⟨rfl, g⟩
  replace bb := bb.trans (g.mono bb.size)
  replace HM := Lib.hid (HM.out.on g)
  clear g H0
  go_wp2_with fail
  refine (H1.out _).mono ?_
  rintro e w1 ⟨rfl, g⟩
  replace bb := bb.trans (g.mono bb.size)
  replace HM := Lib.hid (HM.out.on g)
  clear g H1
  go_wp2_with fail
  refine (H4.out _).mono ?_
  rintro e w1 ⟨rfl, g⟩
  replace bb := bb.trans (g.mono bb.size)
  replace HM := Lib.hid (HM.out.on g)
  clear g H4
  go_wp2_with fail
  refine (H5.out _).mono ?_
  rintro e w1 ⟨rfl, g⟩
  replace bb := bb.trans (g.mono bb.size)
  replace HM := Lib.hid (HM.out.on g)
  clear g H5
  go_wp2_with fail
  refine (H6.out _).mono ?_
  rintro e w1 ⟨rfl, g⟩
  replace bb := bb.trans (g.mono bb.size)
  replace HM := Lib.hid (HM.out.on g)
  clear g H6
  go_wp2_with fail
  refine (wakes_any _ HM.out).mono ?_
  rintro e w1 ⟨rfl, g⟩
  replace bb := bb.trans (g.mono bb.size)
  clear g HM
  go_wp2_with fail
  go_ret
  exact ⟨rfl, bb⟩
set_option maxRecDepth 8000 in
set_option maxHeartbeats 2000000 in
theorem walk0111 (x y z : Nat) (hx : x < 256) (hy : y < 256) (hz : z < 256) (hc : ¬ x < 255) (hk : z < 255) (hs : y < 255) (hm : y % 8 = 0) (W : World) (hM : Mark W) :
    Calls Tryd.prog 8 #[.agg #[.int .u8 (x : Int), .int .u8 (y : Int), .int .u8 (z : Int)]] W fun e W' => e = .returned (.bool true) ∧ Below W.heap.size W W' := by
  have HM := Lib.hid hM
  have H0 := Lib.hid (length_is x y z _ (lenI_nat (by omega) (by omega) (by omega)))
  have hlb := len_b x y z (by omega) (by omega) (by omega)
  have H2 := Lib.hid (length_is x y ((z : Int) + 1) _ ((lenI_nat (k := z + 1) (by omega) (by omega) (by omega)).trans (len_k x y z)))
  have H3 := Lib.hid (length_is x ((y : Int) + 1) z _ ((lenI_nat (s := y + 1) (by omega) (by omega) (by omega)).trans (len_s0 x y z hm)))
  have H4 := Lib.hid (length_is 0 0 0 11 rfl)
  have H5 := Lib.hid (length_is (-1) y z 0 (lenI_no (fun h => by have := h.1; revert this; decide)))
  have H6 := Lib.hid (length_is x 256 z 0 (lenI_no (fun h => by have := h.2.1; revert this; decide)))
  generalize lenT x y z = L at *
  have hmI : ((y : Int) % 8 == 0) = true := by rw [beq_iff_eq]; omega
  clear hM hm
  go_enter Tryd.func8, Tryd.ntmps8
  go_wp2_with fail
  go_quiet (fail)
  go_wp2_with fail
  have bb : Below W.heap.size W ((W.alloc (.cells #[.int .u8 (x : Int), .int .u8 (y : Int), .int .u8 (z : Int)] 56)).drewN nq) := below_drewN (below_new _ _) _
  replace HM := Lib.hid (HM.out.on bb)
  generalize (W.alloc (.cells #[.int .u8 (x : Int), .int .u8 (y : Int), .int .u8 (z : Int)] 56)).drewN nq = W1 at *
  refine (H0.out _).mono ?_
  rintro e w1 ⟨rfl, g⟩
  replace bb := bb.trans (g.mono bb.size)
  replace HM := Lib.hid (HM.out.on g)
  clear g H0
  go_wp2_with fail
  refine (H2.out _).mono ?_
  rintro e w1 ⟨rfl, g⟩
  replace bb := bb.trans (g.mono bb.size)
  replace HM := Lib.hid (HM.out.on g)
  clear g H2
  go_wp2_with fail
  refine (H3.out _).mono ?_
  rintro e w1 ⟨rfl, g⟩
  replace bb := bb.trans (g.mono bb.size)
  replace HM := Lib.hid (HM.out.on g)
  clear g H3
  go_wp2_with fail
  refine (H4.out _).mono ?_
  rintro e w1 ⟨rfl, g⟩
  replace bb := bb.trans (g.mono bb.size)
  replace HM := Lib.hid (HM.out.on g)
  clear g H4
  go_wp2_with fail
  refine (H5.out _).mono ?_
  rintro e w1 ⟨rfl, g⟩
  replace bb := bb.trans (g.mono bb.size)
  replace HM := Lib.hid (HM.out.on g)
  clear g H5
  go_wp2_with fail
  refine (H6.out _).mono ?_
  rintro e w1 ⟨rfl, g⟩
  replace bb := bb.trans (g.mono bb.size)
  replace HM := Lib.hid (HM.out.on g)
  clear g H6
  go_wp2_with fail
  refine (wakes_any _ HM.out).mono ?_
  rintro e w1 ⟨rfl, g⟩
  replace bb := bb.trans (g.mono bb.size)
  clear g HM
  go_wp2_with fail
  go_ret
  exact ⟨rfl, bb⟩
set_option maxRecDepth 8000 in
set_option maxHeartbeats 2000000 in
theorem walk0110 (x y z : Nat) (hx : x < 256) (hy : y < 256) (hz : z < 256) (hc : ¬ x < 255) (hk : z < 255) (hs : y < 255) (hm : y % 8 ≠ 0) (W : World) (hM : Mark W) :
    Calls Tryd.prog 8 #[.agg #[.int .u8 (x : Int), .int .u8 (y : Int), .int .u8 (z : Int)]] W fun e W' => e = .returned (.bool true) ∧ Below W.heap.size W W' := by
  have HM := Lib.hid hM
  have H0 := Lib.hid (length_is x y z _ (lenI_nat (by omega) (by omega) (by omega)))
  have hlb := len_b x y z (by omega) (by omega) (by omega)
  have H2 := Lib.hid (length_is x y ((z : Int) + 1) _ ((lenI_nat (k := z + 1) (by omega) (by omega) (by omega)).trans (len_k x y z)))
  have H3 := Lib.hid (length_is x ((y : Int) + 1) z _ ((lenI_nat (s := y + 1) (by omega) (by omega) (by omega)).trans (len_s1 x y z hm)))
  have H4 := Lib.hid (length_is 0 0 0 11 rfl)
  have H5 := Lib.hid (length_is (-1) y z 0 (lenI_no (fun h => by have := h.1; revert this; decide)))
  have H6 := Lib.hid (length_is x 256 z 0 (lenI_no (fun h => by have := h.2.1; revert this; decide)))
  generalize lenT x y z = L at *
  have hmI : ((y : Int) % 8 == 0) = false := by rw [beq_eq_false_iff_ne]; omega
  clear hM hm
  go_enter Tryd.func8, Tryd.ntmps8
  go_wp2_with fail
  go_quiet (fail)
  go_wp2_with fail
  have bb : Below W.heap.size W ((W.alloc (.cells #[.int .u8 (x : Int), .int .u8 (y : Int), .int .u8 (z : Int)] 56)).drewN nq) := below_drewN (below_new _ _) _
  replace HM := Lib.hid (HM.out.on bb)
  generalize (W.alloc (.cells #[.int .u8 (x : Int), .int .u8 (y : Int), .int .u8 (z : Int)] 56)).drewN nq = W1 at *
  refine (H0.out _).mono ?_
  rintro e w1 ⟨rfl, g⟩
  replace bb := bb.trans (g.mono bb.size)
  replace HM := Lib.hid (HM.out.on g)
  clear g H0
  go_wp2_with fail
  refine (H2.out _).mono ?_
  rintro e w1 ⟨rfl, g⟩
  replace bb := bb.trans (g.mono bb.size)
  replace HM := Lib.hid (HM.out.on g)
  clear g H2
  go_wp2_with fail
  refine (H3.out _).mono ?_
  rintro e w1 ⟨rfl, g⟩
  replace bb := bb.trans (g.mono bb.size)
  replace HM := Lib.hid (HM.out.on g)
  clear g H3
  go_wp2_with fail
  refine (H4.out _).mono ?_
  rintro e w1 ⟨rfl, g⟩
  replace bb := bb.trans (g.mono bb.size)
  replace HM := Lib.hid (HM.out.on g)
  clear g H4
  go_wp2_with fail
  refine (H5.out _).mono ?_
  rintro e w1 ⟨rfl, g⟩
  replace bb := bb.trans (g.mono bb.size)
  replace HM := Lib.hid (HM.out.on g)
  clear g H5
  go_wp2_with fail
  refine (H6.out _).mono ?_
  rintro e w1 ⟨rfl, g⟩
  replace bb := bb.trans (g.mono bb.size)
  replace HM := Lib.hid (HM.out.on g)
  clear g H6
  go_wp2_with fail
  refine (wakes_any _ HM.out).mono ?_
  rintro e w1 ⟨rfl, g⟩
  replace bb := bb.trans (g.mono bb.size)
  clear g HM
  go_wp2_with fail
  go_ret
  exact ⟨rfl, bb⟩
set_option maxRecDepth 8000 in
set_option maxHeartbeats 2000000 in
theorem walk0100 (x y z : Nat) (hx : x < 256) (hy : y < 256) (hz : z < 256) (hc : ¬ x < 255) (hk : z < 255) (hs : ¬ y < 255) (hm : y % 8 ≠ 0) (W : World) (hM : Mark W) :
    Calls Tryd.prog 8 #[.agg #[.int .u8 (x : Int), .int .u8 (y : Int), .int .u8 (z : Int)]] W fun e W' => e = .returned (.bool true) ∧ Below W.heap.size W W' := by
  have HM := Lib.hid hM
  have H0 := Lib.hid (length_is x y z _ (lenI_nat (by omega) (by omega) (by omega)))
  have hlb := len_b x y z (by omega) (by omega) (by omega)
  have H2 := Lib.hid (length_is x y ((z : Int) + 1) _ ((lenI_nat (k := z + 1) (by omega) (by omega) (by omega)).trans (len_k x y z)))
  have H4 := Lib.hid (length_is 0 0 0 11 rfl)
  have H5 := Lib.hid (length_is (-1) y z 0 (lenI_no (fun h => by have := h.1; revert this; decide)))
  have H6 := Lib.hid (length_is x 256 z 0 (lenI_no (fun h => by have := h.2.1; revert this; decide)))
  generalize lenT x y z = L at *
  have hmI : ((y : Int) % 8 == 0) = false := by rw [beq_eq_false_iff_ne]; omega
  clear hM hm
  go_enter Tryd.func8, Tryd.ntmps8
  go_wp2_with fail
  go_quiet (fail)
  go_wp2_with fail
  have bb : Below W.heap.size W ((W.alloc (.cells #[.int .u8 (x : Int), .int .u8 (y : Int), .int .u8 (z : Int)] 56)).drewN nq) := below_drewN (below_new _ _) _
  replace HM := Lib.hid (HM.out.on bb)
  generalize (W.alloc (.cells #[.int .u8 (x : Int), .int .u8 (y : Int), .int .u8 (z : Int)] 56)).drewN nq = W1 at *
  refine (H0.out _).mono ?_
  rintro e w1 ⟨rfl, g⟩
  replace bb := bb.trans (g.mono bb.size)
  replace HM := Lib.hid (HM.out.on g)
  clear g H0
  go_wp2_with fail
  refine (H2.out _).mono ?_
  rintro e w1 ⟨rfl, g⟩
  replace bb := bb.trans (g.mono bb.size)
  replace HM := Lib.hid (HM.out.on g)
  clear g H2
  go_wp2_with fail
  refine (H4.out _).mono ?_
  rintro e w1 ⟨rfl, g⟩
  replace bb := bb.trans (g.mono bb.size)
  replace HM := Lib.hid (HM.out.on g)
  clear g H4
  go_wp2_with fail
  refine (H5.out _).mono ?_
  rintro e w1 ⟨rfl, g⟩
  replace bb := bb.trans (g.mono bb.size)
  replace HM := Lib.hid (HM.out.on g)
  clear g H5
  go_wp2_with fail
  refine (H6.out _).mono ?_
  rintro e w1 ⟨rfl, g⟩
  replace bb := bb.trans (g.mono bb.size)
  replace HM := Lib.hid (HM.out.on g)
  clear g H6
  go_wp2_with fail
  refine (wakes_any _ HM.out).mono ?_
  rintro e w1 ⟨rfl, g⟩
  replace bb := bb.trans (g.mono bb.size)
  clear g HM
  go_wp2_with fail
  go_ret
  exact ⟨rfl, bb⟩
set_option maxRecDepth 8000 in
set_option maxHeartbeats 2000000 in
theorem walk0011 (x y z : Nat) (hx : x < 256) (hy : y < 256) (hz : z < 256) (hc : ¬ x < 255) (hk : ¬ z < 255) (hs : y < 255) (hm : y % 8 = 0) (W : World) (hM : Mark W) :
    Calls Tryd.prog 8 #[.agg #[.int .u8 (x : Int), .int .u8 (y : Int), .int .u8 (z : Int)]] W fun e W' => e = .returned (.bool true) ∧ Below W.heap.size W W' := by
  have HM := Lib.hid hM
  have H0 := Lib.hid (length_is x y z _ (lenI_nat (by omega) (by omega) (by omega)))
  have hlb := len_b x y z (by omega) (by omega) (by omega)
  have H3 := Lib.hid (length_is x ((y : Int) + 1) z _ ((lenI_nat (s := y + 1) (by omega) (by omega) (by omega)).trans (len_s0 x y z hm)))
  have H4 := Lib.hid (length_is 0 0 0 11 rfl)
  have H5 := Lib.hid (length_is (-1) y z 0 (lenI_no (fun h => by have := h.1; revert this; decide)))
  have H6 := Lib.hid (length_is x 256 z 0 (lenI_no (fun h => by have := h.2.1; revert this; decide)))
  generalize lenT x y z = L at *
  have hmI : ((y : Int) % 8 == 0) = true := by rw [beq_iff_eq]; omega
  clear hM hm
  go_enter Tryd.func8, Tryd.ntmps8
  go_wp2_with fail
  go_quiet (fail)
  go_wp2_with fail
  have bb : Below W.heap.size W ((W.alloc (.cells #[.int .u8 (x : Int), .int .u8 (y : Int), .int .u8 (z : Int)] 56)).drewN nq) := below_drewN (below_new _ _) _
  replace HM := Lib.hid (HM.out.on bb)
  generalize (W.alloc (.cells #[.int .u8 (x : Int), .int .u8 (y : Int), .int .u8 (z : Int)] 56)).drewN nq = W1 at *
  refine (H0.out _).mono ?_
  rintro e w1 ⟨rfl, g⟩
  replace bb := bb.trans (g.mono bb.size)
  replace HM := Lib.hid (HM.out.on g)
  clear g H0
  go_wp2_with fail
  refine (H3.out _).mono ?_
  rintro e w1 ⟨rfl, g⟩
  replace bb := bb.trans (g.mono bb.size)
  replace HM := Lib.hid (HM.out.on g)
  clear g H3
  go_wp2_with fail
  refine (H4.out _).mono ?_
  rintro e w1 ⟨rfl, g⟩
  replace bb := bb.trans (g.mono bb.size)
  replace HM := Lib.hid (HM.out.on g)
  clear g H4
  go_wp2_with fail
  refine (H5.out _).mono ?_
  rintro e w1 ⟨rfl, g⟩
  replace bb := bb.trans (g.mono bb.size)
  replace HM := Lib.hid (HM.out.on g)
  clear g H5
  go_wp2_with fail
  refine (H6.out _).mono ?_
  rintro e w1 ⟨rfl, g⟩
  replace bb := bb.trans (g.mono bb.size)
  replace HM := Lib.hid (HM.out.on g)
  clear g H6
  go_wp2_with fail
  refine (wakes_any _ HM.out).mono ?_
  rintro e w1 ⟨rfl, g⟩
  replace bb := bb.trans (g.mono bb.size)
  clear g HM
  go_wp2_with fail
  go_ret
  exact ⟨rfl, bb⟩
set_option maxRecDepth 8000 in
set_option maxHeartbeats 2000000 in
theorem walk0010 (x y z : Nat) (hx : x < 256) (hy : y < 256) (hz : z < 256) (hc : ¬ x < 255) (hk : ¬ z < 255) (hs : y < 255) (hm : y % 8 ≠ 0) (W : World) (hM : Mark W) :
    Calls Tryd.prog 8 #[.agg #[.int .u8 (x : Int), .int .u8 (y : Int), .int .u8 (z : Int)]] W fun e W' => e = .returned (.bool true) ∧ Below W.heap.size W W' := by
  have HM := Lib.hid hM
  have H0 := Lib.hid (length_is x y z _ (lenI_nat (by omega) (by omega) (by omega)))
  have hlb := len_b x y z (by omega) (by omega) (by omega)
  have H3 := Lib.hid (length_is x ((y : Int) + 1) z _ ((lenI_nat (s := y + 1) (by omega) (by omega) (by omega)).trans (len_s1 x y z hm)))
  have H4 := Lib.hid (length_is 0 0 0 11 rfl)
  have H5 := Lib.hid (length_is (-1) y z 0 (lenI_no (fun h => by have := h.1; revert this; decide)))
  have H6 := Lib.hid (length_is x 256 z 0 (lenI_no (fun h => by have := h.2.1; revert this; decide)))
  generalize lenT x y z = L at *
  have hmI : ((y : Int) % 8 == 0) = false := by rw [beq_eq_false_iff_ne]; omega
  clear hM hm
  go_enter Tryd.func8, Tryd.ntmps8
  go_wp2_with fail
  go_quiet (fail)
  go_wp2_with fail
  have bb : Below W.heap.size W ((W.alloc (.cells #[.int .u8 (x : Int), .int .u8 (y : Int), .int .u8 (z : Int)] 56)).drewN nq) := below_drewN (below_new _ _) _
  replace HM := Lib.hid (HM.out.on bb)
  generalize (W.alloc (.cells #[.int .u8 (x : Int), .int .u8 (y : Int), .int .u8 (z : Int)] 56)).drewN nq = W1 at *
  refine (H0.out _).mono ?_
  rintro e w1 ⟨rfl, g⟩
  replace bb := bb.trans (g.mono bb.size)
  replace HM := Lib.hid (HM.out.on g)
  clear g H0
  go_wp2_with fail
  refine (H3.out _).mono ?_
  rintro e w1 ⟨rfl, g⟩
  replace bb := bb.trans (g.mono bb.size)
  replace HM := Lib.hid (HM.out.on g)
  clear g H3
  go_wp2_with fail
  refine (H4.out _).mono ?_
  rintro e w1 ⟨rfl, g⟩
  replace bb := bb.trans (g.mono bb.size)
  replace HM := Lib.hid (HM.out.on g)
  clear g H4
  go_wp2_with fail
  refine (H5.out _).mono ?_
  rintro e w1 ⟨rfl, g⟩
  replace bb := bb.trans (g.mono bb.size)
  replace HM := Lib.hid (HM.out.on g)
  clear g H5
  go_wp2_with fail
  refine (H6.out _).mono ?_
  rintro e w1 ⟨rfl, g⟩
  replace bb := bb.trans (g.mono bb.size)
  replace HM := Lib.hid (HM.out.on g)
  clear g H6
  go_wp2_with fail
  refine (wakes_any _ HM.out).mono ?_
  rintro e w1 ⟨rfl, g⟩
  replace bb := bb.trans (g.mono bb.size)
  clear g HM
  go_wp2_with fail
  go_ret
  exact ⟨rfl, bb⟩
set_option maxRecDepth 8000 in
set_option maxHeartbeats 2000000 in
theorem walk0000 (x y z : Nat) (hx : x < 256) (hy : y < 256) (hz : z < 256) (hc : ¬ x < 255) (hk : ¬ z < 255) (hs : ¬ y < 255) (hm : y % 8 ≠ 0) (W : World) (hM : Mark W) :
    Calls Tryd.prog 8 #[.agg #[.int .u8 (x : Int), .int .u8 (y : Int), .int .u8 (z : Int)]] W fun e W' => e = .returned (.bool true) ∧ Below W.heap.size W W' := by
  have HM := Lib.hid hM
  have H0 := Lib.hid (length_is x y z _ (lenI_nat (by omega) (by omega) (by omega)))
  have hlb := len_b x y z (by omega) (by omega) (by omega)
  have H4 := Lib.hid (length_is 0 0 0 11 rfl)
  have H5 := Lib.hid (length_is (-1) y z 0 (lenI_no (fun h => by have := h.1; revert this; decide)))
  have H6 := Lib.hid (length_is x 256 z 0 (lenI_no (fun h => by have := h.2.1; revert this; decide)))
  generalize lenT x y z = L at *
  have hmI : ((y : Int) % 8 == 0) = false := by rw [beq_eq_false_iff_ne]; omega
  clear hM hm
  go_enter Tryd.func8, Tryd.ntmps8
  go_wp2_with fail
  go_quiet (fail)
  go_wp2_with fail
  have bb : Below W.heap.size W ((W.alloc (.cells #[.int .u8 (x : Int), .int .u8 (y : Int), .int .u8 (z : Int)] 56)).drewN nq) := below_drewN (below_new _ _) _
  replace HM := Lib.hid (HM.out.on bb)
  generalize (W.alloc (.cells #[.int .u8 (x : Int), .int .u8 (y : Int), .int .u8 (z : Int)] 56)).drewN nq = W1 at *
  refine (H0.out _).mono ?_
  rintro e w1 ⟨rfl, g⟩
  replace bb := bb.trans (g.mono bb.size)
  replace HM := Lib.hid (HM.out.on g)
  clear g H0
  go_wp2_with fail
  refine (H4.out _).mono ?_
  rintro e w1 ⟨rfl, g⟩
  replace bb := bb.trans (g.mono bb.size)
  replace HM := Lib.hid (HM.out.on g)
  clear g H4
  go_wp2_with fail
  refine (H5.out _).mono ?_
  rintro e w1 ⟨rfl, g⟩
  replace bb := bb.trans (g.mono bb.size)
  replace HM := Lib.hid (HM.out.on g)
  clear g H5
  go_wp2_with fail
  refine (H6.out _).mono ?_
  rintro e w1 ⟨rfl, g⟩
  replace bb := bb.trans (g.mono bb.size)
  replace HM := Lib.hid (HM.out.on g)
  clear g H6
  go_wp2_with fail
  refine (wakes_any _ HM.out).mono ?_
  rintro e w1 ⟨rfl, g⟩
  replace bb := bb.trans (g.mono bb.size)
  clear g HM
  go_wp2_with fail
  go_ret
  exact ⟨rfl, bb⟩
theorem walk (x y z : Nat) (hx : x < 256) (hy : y < 256) (hz : z < 256) (W : World) (hM : Mark W) :
    Calls Tryd.prog 8 #[.agg #[.int .u8 (x : Int), .int .u8 (y : Int), .int .u8 (z : Int)]] W fun e W' => e = .returned (.bool true) ∧ Below W.heap.size W W' := by
  have hc : x < 255 ∨ ¬ x < 255 := by omega
  have hk : z < 255 ∨ ¬ z < 255 := by omega
  have hs : y < 255 ∨ ¬ y < 255 := by omega
  have hm : y % 8 = 0 ∨ y % 8 ≠ 0 := by omega
  rcases hc with hc | hc <;> rcases hk with hk | hk <;> rcases hs with hs | hs <;> rcases hm with hm | hm
  · exact walk1111 x y z hx hy hz hc hk hs hm W hM
  · exact walk1110 x y z hx hy hz hc hk hs hm W hM
  · omega
  · exact walk1100 x y z hx hy hz hc hk hs hm W hM
  · exact walk1011 x y z hx hy hz hc hk hs hm W hM
  · exact walk1010 x y z hx hy hz hc hk hs hm W hM
  · omega
  · exact walk1000 x y z hx hy hz hc hk hs hm W hM
  · exact walk0111 x y z hx hy hz hc hk hs hm W hM
  · exact walk0110 x y z hx hy hz hc hk hs hm W hM
  · omega
  · exact walk0100 x y z hx hy hz hc hk hs hm W hM
  · exact walk0011 x y z hx hy hz hc hk hs hm W hM
  · exact walk0010 x y z hx hy hz hc hk hs hm W hM
  · omega
  · exact walk0000 x y z hx hy hz hc hk hs hm W hM

/-! From the walk to the row and its card. -/
set_option maxRecDepth 100000 in
theorem contract (H : Type) (enc : TypeId × Value → H) (W : World) (base : Nat) (args : Array Value) (ds gs : List (DataW H)) (before : List MemPlace)
    (hval0 : ∀ (j : Nat) t v, Tryd.f8.params[j]? = some t → args[j]? = some v → Value.okWide Tryd.prog W .any base t v)
    (hW : DataW.Whole enc Tryd.prog Tryd.f8.params.toList Rows.tableLengthsSpec.vars false W args.toList ds gs before) (hL : laidMetH Tryd.prog Rows.tableLengthsRow.laid W) :
    Calls Tryd.prog 8 args W fun e W' => ∃ v, e = .returned v ∧ Rows.tableLengthsSpec.post enc Tryd.prog Tryd.f8 false true false false W args v W' := by
  have hval : ∀ (j : Nat) t v, Tryd.f8.params[j]? = some t → args[j]? = some v → Value.okWide Tryd.prog W .any base t v := hval0
  have hW' := hW
  obtain ⟨p, q, hA0, hV, rfl, hfz, hnd⟩ := hW
  have hA : DataW.TrodAll enc Tryd.prog W 0 (fun _ => true) true Tryd.f8.params.toList args.toList ds p := hA0
  rw [Tryd.params8] at hA hval
  obtain ⟨v0, vs0, d0, ds0, p0, q0, hargs, rfl, rfl, h0, r0⟩ := trodAll_cons hA
  obtain ⟨rfl, rfl, rfl⟩ := trodAll_nil r0
  obtain rfl : args = #[v0] := by cases args; simp_all
  obtain ⟨rfl, rfl⟩ := trodVars_none hV
  obtain ⟨cs0, rfl⟩ := okWide_arr Tryd.underlying56 (hval 0 56 v0 rfl rfl)
  have k0 := h0
  have lt0 : ∀ x ∈ p0, x.block < W.heap.size := by obtain ⟨m, hm⟩ := k0; exact DataW.trod_lt m _ _ _ hm
  obtain ⟨x0_0, x0_1, x0_2, e0, bx0_0, bx0_1, bx0_2⟩ : ∃ x0_0 x0_1 x0_2 : Nat, cs0.toList = [.int .u8 (x0_0 : Int), .int .u8 (x0_1 : Int), .int .u8 (x0_2 : Int)] ∧ x0_0 < 256 ∧ x0_1 < 256 ∧ x0_2 < 256 := by
    obtain ⟨fuel, hf⟩ := h0
    exact open_y3 (by simpa [Value.cells] using hf)
  obtain rfl : cs0 = #[.int .u8 (x0_0 : Int), .int .u8 (x0_1 : Int), .int .u8 (x0_2 : Int)] := by cases cs0; simp_all
  clear hA0 hval0
  refine (walk x0_0 x0_1 x0_2 bx0_0 bx0_1 bx0_2 W (mark_of_laid hL)).mono fun e W' ⟨he, bel⟩ => ?_
  subst he
  exact ⟨_, rfl, _, _, _, [], _, [], hW', trodAll_mk1 (shut_bool Tryd.underlying4 _), (trodAll_cons_mk (Below.trod laidOut (by kernel_rfl) (of_decide_eq_true (by kernel_rfl)) k0 bel lt0) trodAll_mk0), rfl, bel.frame _, fun h => by cases h⟩

theorem laid_met (os : Os) : laidMet Tryd.prog Rows.tableLengthsRow.laid ((laidWorld os).forCall (fun _ _ => 0) ⟨#[], #[.agg #[.int .u8 0, .int .u8 0, .int .u8 0]], []⟩).memory :=
  laidMet_of_run' 8 (by kernel_rfl) (by kernel_rfl)
theorem reads (os : Os) {H : Type} (enc : TypeId × Value → H) : ∃ places, DataW.whole enc Tryd.prog ((laidWorld os).forCall (fun _ _ => 0) ⟨#[], #[.agg #[.int .u8 0, .int .u8 0, .int .u8 0]], []⟩).memory Tryd.f8.params.toList Rows.tableLengthsSpec.vars false (#[.agg #[.int .u8 0, .int .u8 0, .int .u8 0]] : Array Value).toList 8 = some ([.agg [.lit (.int .u8 0), .lit (.int .u8 0), .lit (.int .u8 0)]], [], places) :=
  ⟨[], by kernel_rfl⟩

set_option maxRecDepth 100000 in
theorem lifted (os : Os) (started : os.Started) (H : Type) (enc : TypeId × Value → H) (F : Stop.Interp) :
    ReturnsInHanded {} Tryd.checked os 8 .any ((OpenSpec.ofChange Rows.tableLengthsSpec).preRow enc Tryd.prog Tryd.f8 Rows.tableLengthsRow.domain false Rows.tableLengthsRow.laid) (((OpenSpec.ofChange Rows.tableLengthsSpec).at F).post enc Tryd.prog Tryd.f8 false true false false) := by
  obtain ⟨places, hx⟩ := reads os enc
  refine returnsInHanded_of_row (C := Tryd.checked) (s := OpenSpec.ofChange Rows.tableLengthsSpec) own started (by kernel_rfl) Tryd.func8
    (witness_row_at (enc := enc) (C := Tryd.checked) false (laidWorld os) #[.agg #[.int .u8 0, .int .u8 0, .int .u8 0]] rfl (by kernel_rfl) (by kernel_rfl) (by kernel_rfl)
      (OpenSpec.preRow_of_cond 8 hx (by kernel_rfl) (fun k hk => by cases hk) (by kernel_rfl) (laid_met os))) ?_
  intro W base args ds gs before hval hW _ _ _ hL _ _
  exact contract H enc W base args ds gs before hval hW hL

set_option maxRecDepth 100000 in
theorem said : Rows.TableLengthsSaid :=
  OpenClaim.holds_of_cond 8 Tryd.f8 rfl rfl rfl rfl rfl rfl rfl ⟨rfl, rfl, rfl, rfl, rfl⟩ rfl rfl rfl rfl rfl (by kernel_rfl) Tryd.func8 (by kernel_rfl)
    (of_decide_eq_true (by kernel_rfl)) (by unfold Func.isWrapper; first | (rw [if_pos (by decide +kernel)]; kernel_rfl) | (rw [if_neg (by decide +kernel)]; exact ⟨rfl, rfl⟩))
    (fun os started H enc _ F => by rw [OpenClaim.pre_eq_preRow]; exact lifted os started H enc F)

theorem plain (f : FuncId) (fn : Func) (hf : Tryd.pinned.checked.prog.funcNamed Rows.tableLengthsRow.func = some f) (hfn : Tryd.pinned.checked.prog.funcs[f]? = some fn) :
    false = Tryd.pinned.checked.prog.looks [] ∧ ∀ (j : Nat) t, fn.params[j]? = some t → Tryd.pinned.checked.prog.wantsStandIn t = false := by
  obtain rfl : f = 8 := Option.some.inj ((show Tryd.prog.funcNamed Rows.tableLengthsRow.func = some 8 by kernel_rfl).symm.trans hf) |>.symm
  obtain rfl : fn = Tryd.f8 := (Option.some.inj (Tryd.func8.symm.trans hfn)).symm
  refine ⟨by kernel_rfl, fun j t ht => ?_⟩
  rw [Tryd.params8] at ht
  have hm : t ∈ [56] := by simpa using Array.mem_of_getElem? ht
  have hall : ([56].all fun u => !Tryd.prog.wantsStandIn u) = true := by kernel_rfl
  exact (show Tryd.prog.wantsStandIn t = false by simpa using List.all_eq_true.1 hall t hm)

theorem card : Rows.TableLengthsCardSaid :=
  Claim7.holds_tied_plain_at .later [] _ _ _ _ said (fun _ h => by cases h) (by kernel_rfl) (fun _ h => by cases h) tableLengths_row_tie rfl ⟨rfl, rfl⟩ (by kernel_rfl) rfl plain (by kernel_rfl)
end Go.Proofs.YtkmkkbilnflpjaaDoor.tableLengths

namespace Go.Proofs.YtkmkkbilnflpjaaDoor
/-- The given statement, under a short name. -/
theorem tableLengths_holds : Rows.TableLengthsCardSaid := tableLengths.card
#print axioms tableLengths_holds
end Go.Proofs.YtkmkkbilnflpjaaDoor
