/- TableBack: Decode of Encode's bytes is the table wherever its counts may be and else says so; bytes that Decode takes are Encode's of what it tells; one byte of Encode's bytes turned is told by the mark or the sum.
   Conditions: none but the row's own (the mark's variable starts as the program's text lays it). -/
import Derived.Test.YtkmkkbilnflpjaaDoorLawKit3
import Derived.Deep.Cut
namespace Go.Proofs.YtkmkkbilnflpjaaDoor.tableBack
open Go.ChangeShapes Go.WideShapes Go.ChangeAt Go.RowKit Go.Deep Go.BigFrame
set_option linter.unusedVariables false
set_option linter.unusedSimpArgs false
set_option maxRecDepth 8000 in
set_option maxHeartbeats 4000000 in
theorem walk_no (T : TV) (l : List Nat) (nb : Nat) (Ab : Option Addr) (cb : Nat) (x0 x1 : Nat) (W : World) (hT : T.ok W) (hM : Mark W) (hB : RB W W.heap.size Ab nb l) (hBs : Shp Ab nb cb) (hx0 : x0 < 65536) (hx1 : x1 < 65536) (hMay : ¬ MayT T.tb) :
    Calls Tryd.prog 4 #[T.v, .slice Ab nb cb, .agg #[.int .u16 (x0 : Int), .int .u16 (x1 : Int)]] W fun e W' => e = .returned (.bool true) ∧ Below W.heap.size W W' := by
  obtain ⟨i0, hi0, hz0, hz1, hz2⟩ := info_parts info5
  have HLg := Lib.hid (fun V (g : Below W.heap.size W V) => large_any T V (hT.on g))
  obtain ⟨L2, L1, L3⟩ := tb_len T hT
  obtain ⟨cl, a1, n1, c1, bd, a2, n2, c2, hs, a3, n3, c3, br⟩ := T
  simp only [TV.v] at *
  try simp only [] at L1 L2 L3
  have HT := Lib.hid hT
  have HM := Lib.hid hM
  have HB := Lib.hid hB
  have HBs := Lib.hid hBs
  have HBl := Lib.hid hB.2.2
  have hnb63 : nb ≤ 9223372036854775807 := by have := hBs.2; unfold maxLen at this; omega
  clear hB hBs
  clear hT hM
  go_enter Tryd.func4, Tryd.ntmps4
  go_wp2_with fail
  have p0 : ((W.alloc (.cells #[.int .i64 cl, .slice a1 n1 c1, .slice a2 n2 c2, .slice a3 n3 c3] 26)).alloc (.cells #[.int .u16 (x0 : Int), .int .u16 (x1 : Int)] 44)).cell? ⟨W.heap.size, 0, none⟩ = some (.int .i64 cl) := by simp
  have p1 : ((W.alloc (.cells #[.int .i64 cl, .slice a1 n1 c1, .slice a2 n2 c2, .slice a3 n3 c3] 26)).alloc (.cells #[.int .u16 (x0 : Int), .int .u16 (x1 : Int)] 44)).cell? ⟨W.heap.size, 1, none⟩ = some (.slice a1 n1 c1) := by simp
  have p2 : ((W.alloc (.cells #[.int .i64 cl, .slice a1 n1 c1, .slice a2 n2 c2, .slice a3 n3 c3] 26)).alloc (.cells #[.int .u16 (x0 : Int), .int .u16 (x1 : Int)] 44)).cell? ⟨W.heap.size, 2, none⟩ = some (.slice a2 n2 c2) := by simp
  have p3 : ((W.alloc (.cells #[.int .i64 cl, .slice a1 n1 c1, .slice a2 n2 c2, .slice a3 n3 c3] 26)).alloc (.cells #[.int .u16 (x0 : Int), .int .u16 (x1 : Int)] 44)).cell? ⟨W.heap.size, 3, none⟩ = some (.slice a3 n3 c3) := by simp
  have r0 : ((W.alloc (.cells #[.int .i64 cl, .slice a1 n1 c1, .slice a2 n2 c2, .slice a3 n3 c3] 26)).alloc (.cells #[.int .u16 (x0 : Int), .int .u16 (x1 : Int)] 44)).cell? ⟨W.heap.size + 1, 0, none⟩ = some (.int .u16 (x0 : Int)) := by simp
  have r1 : ((W.alloc (.cells #[.int .i64 cl, .slice a1 n1 c1, .slice a2 n2 c2, .slice a3 n3 c3] 26)).alloc (.cells #[.int .u16 (x0 : Int), .int .u16 (x1 : Int)] 44)).cell? ⟨W.heap.size + 1, 1, none⟩ = some (.int .u16 (x1 : Int)) := by simp
  have bb : Below W.heap.size W ((W.alloc (.cells #[.int .i64 cl, .slice a1 n1 c1, .slice a2 n2 c2, .slice a3 n3 c3] 26)).alloc (.cells #[.int .u16 (x0 : Int), .int .u16 (x1 : Int)] 44)) := (below_new _ _).trans ((below_new _ _).mono (by simp))
  replace HT := Lib.hid (HT.out.on bb)
  replace HM := Lib.hid (HM.out.on bb)
  replace HB := Lib.hid (HB.out.on bb)
  generalize ((W.alloc (.cells #[.int .i64 cl, .slice a1 n1 c1, .slice a2 n2 c2, .slice a3 n3 c3] 26)).alloc (.cells #[.int .u16 (x0 : Int), .int .u16 (x1 : Int)] 44)) = W0 at *
  refine (HLg.out _ bb).mono ?_
  rintro e w1 ⟨q, rfl, g, hq⟩
  have HQ := Lib.hid hq
  clear hq HLg
  replace p0 := kept_cell g p0
  replace p1 := kept_cell g p1
  replace p2 := kept_cell g p2
  replace p3 := kept_cell g p3
  replace r0 := kept_cell g r0
  replace r1 := kept_cell g r1
  replace HT := Lib.hid (HT.out.on g)
  replace HM := Lib.hid (HM.out.on g)
  replace HB := Lib.hid (HB.out.on g)
  replace bb := bb.trans (g.mono bb.size)
  clear g
  cases q
  case true =>
    clear HQ
    go_wp2_with fail
    refine (wakes_any _ HM.out).mono ?_
    rintro e w9 ⟨rfl, g⟩
    replace bb := bb.trans (g.mono bb.size)
    clear g HM
    go_wp2_with fail
    go_ret
    exact ⟨rfl, bb⟩
  have hS := HQ.out rfl
  clear HQ
  by_cases hn2 : 2000 < nb
  case pos =>
    go_wp2_with fail
    refine (wakes_any _ HM.out).mono ?_
    rintro e w9 ⟨rfl, g⟩
    replace bb := bb.trans (g.mono bb.size)
    clear g HM
    go_wp2_with fail
    go_ret
    exact ⟨rfl, bb⟩
  go_wp2_with fail
  have HEn := Lib.hid (fun V hV hMV => encode_no ⟨cl, a1, n1, c1, bd, a2, n2, c2, hs, a3, n3, c3, br⟩ (encR_no hMay) V hV hS hMV)
  clear hMay hS
  simp only [TV.v] at HEn
  refine (HEn.out _ HT.out HM.out).mono ?_
  rintro e w2 ⟨A9, c9, rfl, g⟩
  replace p0 := kept_cell g p0
  replace p1 := kept_cell g p1
  replace p2 := kept_cell g p2
  replace p3 := kept_cell g p3
  replace r0 := kept_cell g r0
  replace r1 := kept_cell g r1
  replace HT := Lib.hid (HT.out.on g)
  replace HM := Lib.hid (HM.out.on g)
  replace HB := Lib.hid (HB.out.on g)
  replace bb := bb.trans (g.mono bb.size)
  clear g
  clear HEn
  go_wp2_with fail
  cases hE : errT l with
  | zero =>
    obtain ⟨hIl, hSl⟩ := dec_small HBl.out hE
    have HD := Lib.hid (decode_is l 0 (decT l) (by rw [hE]; rfl) (decR_yes hE) nb Ab cb w2 HB.out HBs.out (by omega) HM.out)
    have HIl := Lib.hid hIl
    have HSl := Lib.hid hSl
    clear hE hIl hSl
    refine HD.out.mono ?_
    rintro e w20 ⟨⟨k5, va5, vn5, vc5, vb5, na5, nn5, nc5, nh5, ba5, bn5, bc5, bb5⟩, rfl, ok5, tb5, g⟩
    clear HD
    simp only [TV.v]
    replace p0 := kept_cell g p0
    replace p1 := kept_cell g p1
    replace p2 := kept_cell g p2
    replace p3 := kept_cell g p3
    replace r0 := kept_cell g r0
    replace r1 := kept_cell g r1
    replace HT := Lib.hid (HT.out.on g)
    replace HM := Lib.hid (HM.out.on g)
    replace HB := Lib.hid (HB.out.on g)
    replace bb := bb.trans (g.mono bb.size)
    clear g
    have HV := Lib.hid ok5
    have HVt := Lib.hid tb5
    clear ok5 tb5
    have g := below_new w20 (.cells #[.int .i64 k5, .slice va5 vn5 vc5, .slice na5 nn5 nc5, .slice ba5 bn5 bc5] 26)
    replace p0 := kept_cell g p0
    replace p1 := kept_cell g p1
    replace p2 := kept_cell g p2
    replace p3 := kept_cell g p3
    replace r0 := kept_cell g r0
    replace r1 := kept_cell g r1
    replace HT := Lib.hid (HT.out.on g)
    replace HM := Lib.hid (HM.out.on g)
    replace HB := Lib.hid (HB.out.on g)
    replace HV := Lib.hid (HV.out.on g)
    replace bb := bb.trans (g.mono bb.size)
    clear g
    have HEn : Hid (Calls Tryd.prog 12 #[.agg #[.int .i64 k5, .slice va5 vn5 vc5, .slice na5 nn5 nc5, .slice ba5 bn5 bc5]] (w20.alloc (.cells #[.int .i64 k5, .slice va5 vn5 vc5, .slice na5 nn5 nc5, .slice ba5 bn5 bc5] 26)) fun e w' => ∃ (A : Option Addr) (c : Nat), e = .returned (.tuple #[.slice A nb c, .bool true]) ∧ RB w' w'.heap.size A nb l ∧ Shp A nb c ∧ Below (w20.alloc (.cells #[.int .i64 k5, .slice va5 vn5 vc5, .slice na5 nn5 nc5, .slice ba5 bn5 bc5] 26)).heap.size (w20.alloc (.cells #[.int .i64 k5, .slice va5 vn5 vc5, .slice na5 nn5 nc5, .slice ba5 bn5 bc5] 26)) w') := Lib.hid (encode_is ⟨k5, va5, vn5, vc5, vb5, na5, nn5, nc5, nh5, ba5, bn5, bc5, bb5⟩ l nb (by rw [HVt.out]; exact encR_yes HIl.out) HB.out.1 _ HV.out (by rw [HVt.out]; exact HSl.out) HM.out)
    go_wp2_with fail
    generalize (w20.alloc (.cells #[.int .i64 k5, .slice va5 vn5 vc5, .slice na5 nn5 nc5, .slice ba5 bn5 bc5] 26)) = w21 at *
    refine HEn.out.mono ?_
    rintro e w22 ⟨A6, c6, rfl, r6, s6, g⟩
    clear HEn HV
    replace p0 := kept_cell g p0
    replace p1 := kept_cell g p1
    replace p2 := kept_cell g p2
    replace p3 := kept_cell g p3
    replace r0 := kept_cell g r0
    replace r1 := kept_cell g r1
    replace HT := Lib.hid (HT.out.on g)
    replace HM := Lib.hid (HM.out.on g)
    replace HB := Lib.hid (HB.out.on g)
    replace bb := bb.trans (g.mono bb.size)
    clear g
    have HKb := Lib.hid (keepBytes_yes l l rfl nb nb A6 Ab c6 cb w22 r6 HB.out)
    clear r6 s6
    go_wp2_with fail
    refine HKb.out.mono ?_
    rintro e w23 ⟨rfl, g⟩
    clear HKb
    replace p0 := kept_cell g p0
    replace p1 := kept_cell g p1
    replace p2 := kept_cell g p2
    replace p3 := kept_cell g p3
    replace r0 := kept_cell g r0
    replace r1 := kept_cell g r1
    replace HT := Lib.hid (HT.out.on g)
    replace HM := Lib.hid (HM.out.on g)
    replace HB := Lib.hid (HB.out.on g)
    replace bb := bb.trans (g.mono bb.size)
    clear g
    go_wp2_with fail
    refine (wakes_any _ HM.out).mono ?_
    rintro e w9 ⟨rfl, g⟩
    replace bb := bb.trans (g.mono bb.size)
    clear g HM
    go_wp2_with fail
    go_ret
    exact ⟨rfl, bb⟩
  | succ er =>
    have HD := Lib.hid (decode_is l ((er + 1 : Nat) : Int) zeroT (by rw [hE]) (decR_no (by rw [hE]; omega)) nb Ab cb w2 HB.out HBs.out (by omega) HM.out)
    clear hE
    refine HD.out.mono ?_
    rintro e w20 ⟨⟨k5, va5, vn5, vc5, vb5, na5, nn5, nc5, nh5, ba5, bn5, bc5, bb5⟩, rfl, ok5, tb5, g⟩
    clear HD
    obtain ⟨z1, z2⟩ := zeroT_parts tb5 ok5
    simp only [] at z1 z2
    subst z1 z2
    clear ok5 tb5
    simp only [TV.v]
    replace p0 := kept_cell g p0
    replace p1 := kept_cell g p1
    replace p2 := kept_cell g p2
    replace p3 := kept_cell g p3
    replace r0 := kept_cell g r0
    replace r1 := kept_cell g r1
    replace HT := Lib.hid (HT.out.on g)
    replace HM := Lib.hid (HM.out.on g)
    replace HB := Lib.hid (HB.out.on g)
    replace bb := bb.trans (g.mono bb.size)
    clear g
    have hne : (((er + 1 : Nat) : Int) != 0) = true := by rw [bne_iff_ne]; omega
    have hne2 : ((er : Int) + 1 != 0) = true := by rw [bne_iff_ne]; omega
    have g := below_new w20 (.cells #[.int .i64 0, .slice va5 vn5 vc5, .slice na5 0 nc5, .slice ba5 bn5 bc5] 26)
    replace p0 := kept_cell g p0
    replace p1 := kept_cell g p1
    replace p2 := kept_cell g p2
    replace p3 := kept_cell g p3
    replace r0 := kept_cell g r0
    replace r1 := kept_cell g r1
    replace HT := Lib.hid (HT.out.on g)
    replace HM := Lib.hid (HM.out.on g)
    replace HB := Lib.hid (HB.out.on g)
    replace bb := bb.trans (g.mono bb.size)
    clear g
    go_wp2_with fail
    refine (wakes_any _ HM.out).mono ?_
    rintro e w9 ⟨rfl, g⟩
    replace bb := bb.trans (g.mono bb.size)
    clear g HM
    go_wp2_with fail
    go_ret
    exact ⟨rfl, bb⟩
set_option maxRecDepth 8000 in
set_option maxHeartbeats 4000000 in
theorem walk_ok (T : TV) (l : List Nat) (nb : Nat) (Ab : Option Addr) (cb : Nat) (x0 x1 : Nat) (W : World) (hT : T.ok W) (hM : Mark W) (hB : RB W W.heap.size Ab nb l) (hBs : Shp Ab nb cb) (hx0 : x0 < 65536) (hx1 : x1 < 65536) (hMay : MayT T.tb) (g1 : T.cl ≤ 8) (g2 : T.n2 ≤ 5) (g3 : 1 ≤ T.n1) (g4 : T.n1 ≤ 60) :
    Calls Tryd.prog 4 #[T.v, .slice Ab nb cb, .agg #[.int .u16 (x0 : Int), .int .u16 (x1 : Int)]] W fun e W' => e = .returned (.bool true) ∧ Below W.heap.size W W' := by
  obtain ⟨i0, hi0, hz0, hz1, hz2⟩ := info_parts info5
  have HLg := Lib.hid (fun V (g : Below W.heap.size W V) => large_any T V (hT.on g))
  obtain ⟨L2, L1, L3⟩ := tb_len T hT
  obtain ⟨cl, a1, n1, c1, bd, a2, n2, c2, hs, a3, n3, c3, br⟩ := T
  simp only [TV.v] at *
  try simp only [] at L1 L2 L3
  have HT := Lib.hid hT
  have HM := Lib.hid hM
  have HB := Lib.hid hB
  have HBs := Lib.hid hBs
  have HBl := Lib.hid hB.2.2
  have hnb63 : nb ≤ 9223372036854775807 := by have := hBs.2; unfold maxLen at this; omega
  clear hB hBs
  clear hT hM
  go_enter Tryd.func4, Tryd.ntmps4
  go_wp2_with fail
  have p0 : ((W.alloc (.cells #[.int .i64 cl, .slice a1 n1 c1, .slice a2 n2 c2, .slice a3 n3 c3] 26)).alloc (.cells #[.int .u16 (x0 : Int), .int .u16 (x1 : Int)] 44)).cell? ⟨W.heap.size, 0, none⟩ = some (.int .i64 cl) := by simp
  have p1 : ((W.alloc (.cells #[.int .i64 cl, .slice a1 n1 c1, .slice a2 n2 c2, .slice a3 n3 c3] 26)).alloc (.cells #[.int .u16 (x0 : Int), .int .u16 (x1 : Int)] 44)).cell? ⟨W.heap.size, 1, none⟩ = some (.slice a1 n1 c1) := by simp
  have p2 : ((W.alloc (.cells #[.int .i64 cl, .slice a1 n1 c1, .slice a2 n2 c2, .slice a3 n3 c3] 26)).alloc (.cells #[.int .u16 (x0 : Int), .int .u16 (x1 : Int)] 44)).cell? ⟨W.heap.size, 2, none⟩ = some (.slice a2 n2 c2) := by simp
  have p3 : ((W.alloc (.cells #[.int .i64 cl, .slice a1 n1 c1, .slice a2 n2 c2, .slice a3 n3 c3] 26)).alloc (.cells #[.int .u16 (x0 : Int), .int .u16 (x1 : Int)] 44)).cell? ⟨W.heap.size, 3, none⟩ = some (.slice a3 n3 c3) := by simp
  have r0 : ((W.alloc (.cells #[.int .i64 cl, .slice a1 n1 c1, .slice a2 n2 c2, .slice a3 n3 c3] 26)).alloc (.cells #[.int .u16 (x0 : Int), .int .u16 (x1 : Int)] 44)).cell? ⟨W.heap.size + 1, 0, none⟩ = some (.int .u16 (x0 : Int)) := by simp
  have r1 : ((W.alloc (.cells #[.int .i64 cl, .slice a1 n1 c1, .slice a2 n2 c2, .slice a3 n3 c3] 26)).alloc (.cells #[.int .u16 (x0 : Int), .int .u16 (x1 : Int)] 44)).cell? ⟨W.heap.size + 1, 1, none⟩ = some (.int .u16 (x1 : Int)) := by simp
  have bb : Below W.heap.size W ((W.alloc (.cells #[.int .i64 cl, .slice a1 n1 c1, .slice a2 n2 c2, .slice a3 n3 c3] 26)).alloc (.cells #[.int .u16 (x0 : Int), .int .u16 (x1 : Int)] 44)) := (below_new _ _).trans ((below_new _ _).mono (by simp))
  replace HT := Lib.hid (HT.out.on bb)
  replace HM := Lib.hid (HM.out.on bb)
  replace HB := Lib.hid (HB.out.on bb)
  generalize ((W.alloc (.cells #[.int .i64 cl, .slice a1 n1 c1, .slice a2 n2 c2, .slice a3 n3 c3] 26)).alloc (.cells #[.int .u16 (x0 : Int), .int .u16 (x1 : Int)] 44)) = W0 at *
  refine (HLg.out _ bb).mono ?_
  rintro e w1 ⟨q, rfl, g, hq⟩
  have HQ := Lib.hid hq
  clear hq HLg
  replace p0 := kept_cell g p0
  replace p1 := kept_cell g p1
  replace p2 := kept_cell g p2
  replace p3 := kept_cell g p3
  replace r0 := kept_cell g r0
  replace r1 := kept_cell g r1
  replace HT := Lib.hid (HT.out.on g)
  replace HM := Lib.hid (HM.out.on g)
  replace HB := Lib.hid (HB.out.on g)
  replace bb := bb.trans (g.mono bb.size)
  clear g
  cases q
  case true =>
    clear HQ
    go_wp2_with fail
    refine (wakes_any _ HM.out).mono ?_
    rintro e w9 ⟨rfl, g⟩
    replace bb := bb.trans (g.mono bb.size)
    clear g HM
    go_wp2_with fail
    go_ret
    exact ⟨rfl, bb⟩
  have hS := HQ.out rfl
  clear HQ
  by_cases hn2 : 2000 < nb
  case pos =>
    go_wp2_with fail
    refine (wakes_any _ HM.out).mono ?_
    rintro e w9 ⟨rfl, g⟩
    replace bb := bb.trans (g.mono bb.size)
    clear g HM
    go_wp2_with fail
    go_ret
    exact ⟨rfl, bb⟩
  go_wp2_with fail
  obtain ⟨b, hIs, hEnc⟩ := encR_may hMay
  obtain ⟨y, hy, hbX, hbl, hb8, hb5, hXl⟩ := enc_facts hS hIs
  have HEn := Lib.hid (fun V hV hMV => encode_is ⟨cl, a1, n1, c1, bd, a2, n2, c2, hs, a3, n3, c3, br⟩ b b.length hEnc rfl V hV hS hMV)
  simp only [TV.v] at HEn
  have HIs := Lib.hid hIs
  have hc1 : 1 ≤ cl := hMay.c1
  have hn1 : 1 ≤ n2 := by have := hMay.n1; omega
  have HMay := Lib.hid hMay
  clear hIs hEnc hMay
  have hEr := (err_enc HIs.out).1
  have hDt := (err_enc HIs.out).2
  have hLn := enc_len HIs.out
  obtain ⟨cn, rfl⟩ := Int.eq_ofNat_of_zero_le (show 0 ≤ cl by omega)
  have HLt0 : Hid (∀ z ∈ b, z < 256) := Lib.hid (by rw [hbX]; exact seal_lt hXl)
  generalize hnbx : b.length = bn at *
  have HBn := Lib.hid hnbx
  have HTurn := Lib.hid (fun i y hi hy hne => err_turn HIs.out i y hi hy hne)
  have hl0 : lenI (cn : Int) (n2 : Int) (n1 : Int) = bn := by
    have k2 := HMay.out.n2
    have k1 := HMay.out.k1
    have kc := HMay.out.c2
    rw [lenI_nat (by simp only [TV.tb] at kc; omega) (by omega) (by omega), hLn, L2, L1]
    rfl
  have HLen := Lib.hid (length_is (cn : Int) n2 n1 bn hl0)
  have hb11 : 11 ≤ bn := by omega
  have hbb : ((bn : Int) != (bn : Int)) = false := by simp
  rw [if_pos ⟨g1, by omega, by omega, by omega⟩] at hEr
  have HEr := Lib.hid hEr
  have HDt := Lib.hid hDt
  have HSs := Lib.hid hS
  clear hbX hXl hy hbl hb8 hnbx hEr hDt hLn hl0 hS
  refine (HEn.out _ HT.out HM.out).mono ?_
  rintro e w2 ⟨A2, cc2, rfl, r2, s2, g⟩
  clear HEn
  replace p0 := kept_cell g p0
  replace p1 := kept_cell g p1
  replace p2 := kept_cell g p2
  replace p3 := kept_cell g p3
  replace r0 := kept_cell g r0
  replace r1 := kept_cell g r1
  replace HT := Lib.hid (HT.out.on g)
  replace HM := Lib.hid (HM.out.on g)
  replace HB := Lib.hid (HB.out.on g)
  replace bb := bb.trans (g.mono bb.size)
  clear g
  have HR := Lib.hid r2
  have HSp := Lib.hid s2
  clear r2 s2
  go_wp2_with fail
  refine (HLen.out _).mono ?_
  rintro e w3 ⟨rfl, g⟩
  clear HLen
  replace p0 := kept_cell g p0
  replace p1 := kept_cell g p1
  replace p2 := kept_cell g p2
  replace p3 := kept_cell g p3
  replace r0 := kept_cell g r0
  replace r1 := kept_cell g r1
  replace HT := Lib.hid (HT.out.on g)
  replace HM := Lib.hid (HM.out.on g)
  replace HB := Lib.hid (HB.out.on g)
  replace HR := Lib.hid (HR.out.on g)
  replace bb := bb.trans (g.mono bb.size)
  clear g
  go_wp2_with fail
  have HD := Lib.hid (decode_is b 0 (decT b) (by rw [HEr.out]; rfl) (decR_yes HEr.out) bn A2 cc2 w3 HR.out HSp.out (by omega) HM.out)
  refine HD.out.mono ?_
  rintro e w4 ⟨⟨k4, va4, vn4, vc4, vb4, na4, nn4, nc4, nh4, ba4, bn4, bc4, bb4⟩, rfl, ok4, tb4, g⟩
  clear HD
  simp only [TV.v]
  replace p0 := kept_cell g p0
  replace p1 := kept_cell g p1
  replace p2 := kept_cell g p2
  replace p3 := kept_cell g p3
  replace r0 := kept_cell g r0
  replace r1 := kept_cell g r1
  replace HT := Lib.hid (HT.out.on g)
  replace HM := Lib.hid (HM.out.on g)
  replace HB := Lib.hid (HB.out.on g)
  replace HR := Lib.hid (HR.out.on g)
  replace bb := bb.trans (g.mono bb.size)
  clear g
  have HV := Lib.hid ok4
  have HVt := Lib.hid tb4
  clear ok4 tb4
  have u0 : (w4.alloc (.cells #[.int .i64 k4, .slice va4 vn4 vc4, .slice na4 nn4 nc4, .slice ba4 bn4 bc4] 26)).cell? ⟨w4.heap.size, 0, none⟩ = some (.int .i64 k4) := by simp
  have u1 : (w4.alloc (.cells #[.int .i64 k4, .slice va4 vn4 vc4, .slice na4 nn4 nc4, .slice ba4 bn4 bc4] 26)).cell? ⟨w4.heap.size, 1, none⟩ = some (.slice va4 vn4 vc4) := by simp
  have u2 : (w4.alloc (.cells #[.int .i64 k4, .slice va4 vn4 vc4, .slice na4 nn4 nc4, .slice ba4 bn4 bc4] 26)).cell? ⟨w4.heap.size, 2, none⟩ = some (.slice na4 nn4 nc4) := by simp
  have u3 : (w4.alloc (.cells #[.int .i64 k4, .slice va4 vn4 vc4, .slice na4 nn4 nc4, .slice ba4 bn4 bc4] 26)).cell? ⟨w4.heap.size, 3, none⟩ = some (.slice ba4 bn4 bc4) := by simp
  have g := below_new w4 (.cells #[.int .i64 k4, .slice va4 vn4 vc4, .slice na4 nn4 nc4, .slice ba4 bn4 bc4] 26)
  replace p0 := kept_cell g p0
  replace p1 := kept_cell g p1
  replace p2 := kept_cell g p2
  replace p3 := kept_cell g p3
  replace r0 := kept_cell g r0
  replace r1 := kept_cell g r1
  replace HT := Lib.hid (HT.out.on g)
  replace HM := Lib.hid (HM.out.on g)
  replace HB := Lib.hid (HB.out.on g)
  replace HR := Lib.hid (HR.out.on g)
  replace HV := Lib.hid (HV.out.on g)
  replace bb := bb.trans (g.mono bb.size)
  clear g
  have HKt := Lib.hid (keepTable_s ⟨(cn : Int), a1, n1, c1, bd, a2, n2, c2, hs, a3, n3, c3, br⟩ ⟨k4, va4, vn4, vc4, vb4, na4, nn4, nc4, nh4, ba4, bn4, bc4, bb4⟩ (w4.alloc (.cells #[.int .i64 k4, .slice va4 vn4 vc4, .slice na4 nn4 nc4, .slice ba4 bn4 bc4] 26)) HT.out HV.out HSs.out)
  rw [eqT_yes (by rw [HVt.out, HDt.out])] at HKt
  simp only [TV.v] at HKt
  go_wp2_with fail
  generalize (w4.alloc (.cells #[.int .i64 k4, .slice va4 vn4 vc4, .slice na4 nn4 nc4, .slice ba4 bn4 bc4] 26)) = w5 at *
  refine HKt.out.mono ?_
  rintro e w6 ⟨rfl, g⟩
  clear HKt
  replace p0 := kept_cell g p0
  replace p1 := kept_cell g p1
  replace p2 := kept_cell g p2
  replace p3 := kept_cell g p3
  replace r0 := kept_cell g r0
  replace r1 := kept_cell g r1
  replace u0 := kept_cell g u0
  replace u1 := kept_cell g u1
  replace u2 := kept_cell g u2
  replace u3 := kept_cell g u3
  replace HT := Lib.hid (HT.out.on g)
  replace HM := Lib.hid (HM.out.on g)
  replace HB := Lib.hid (HB.out.on g)
  replace HR := Lib.hid (HR.out.on g)
  replace HV := Lib.hid (HV.out.on g)
  replace bb := bb.trans (g.mono bb.size)
  clear g
  clear u0 u1 u2 u3 HV
  clear HT
  have HMc := HM
  have HBc := HB
  have bbc := bb
  have HOm := Lib.hid (World.ownsRow_made (e := 5) (size := 1) w6 #[] 0 (Nat.le_refl _) (Nat.zero_le _) (by simp))
  have HRd := Lib.hid (HR.out.2.1.alloc (Nat.le_refl _) (.cells #[] 5))
  have HOne := Lib.hid (ycells_one (b))
  have HNil : Hid (A2 = none → cc2 = 0) := Lib.hid HSp.out.1
  have HLt := Lib.hid HR.out.2.2
  go_wp2_with (at_builtin; refine wpList_append_src rfl _ _ 27 rfl w6.heap.size 5 i0 _ 1 1 Tryd.underlying27 hi0 hz0 hz1 hz2 rfl (by decide) _ _ _ rfl HOm.out (A2) (bn) (cc2) w6.heap.size (ycells (b)) rfl HNil.out HRd.out HOne.out ?c3 ?c4 ?c5 ?_)
  case c3 => unfold maxLen; omega
  case c4 => omega
  try (case c5 => simp)
  intro A7 d7 w7 hown hnil hgrow
  have g : Below w6.heap.size w6 w7 := below_grown (below_new _ _) (by simp) HOm.out hgrow
  have HO7 : Hid (w7.ownsRow w6.heap.size 5 1 (.slice A7 (bn) d7) (bn) (ycells (b))) := Lib.hid (by simpa using hown)
  try simp only [Nat.zero_add]
  have gs := g
  clear hown hgrow hnil HOm HRd HOne HNil
  replace p0 := kept_cell g p0
  replace p1 := kept_cell g p1
  replace p2 := kept_cell g p2
  replace p3 := kept_cell g p3
  replace r0 := kept_cell g r0
  replace r1 := kept_cell g r1
  replace HM := Lib.hid (HM.out.on g)
  replace HB := Lib.hid (HB.out.on g)
  replace HR := Lib.hid (HR.out.on g)
  replace bb := bb.trans (g.mono bb.size)
  clear g
  have HR7 := Lib.hid (own_RB HO7.out HLt.out)
  have HS7 := Lib.hid (own_shp HO7.out)
  clear HLt
  obtain ⟨gg, cap, hv, _, hlt7⟩ := HO7.out.form (by omega)
  obtain ⟨rfl, rfl⟩ : A7 = some ⟨gg, 0, none⟩ ∧ d7 = cap := by injection hv with h1 h2 h3; exact ⟨h1, h3⟩
  clear hv HR7 HS7 HR HSp
  obtain ⟨k, hk⟩ : ∃ k, x0 % bn = k := ⟨_, rfl⟩
  have hkb : k < bn := by rw [← hk]; exact Nat.mod_lt _ (by omega)
  obtain ⟨r, hr⟩ : ∃ r, x1 % 255 = r := ⟨_, rfl⟩
  have hr255 : r < 255 := by omega
  obtain ⟨v, hv⟩ : ∃ v, 1 + r = v := ⟨_, rfl⟩
  have kl : k < b.length := by rw [HBn.out]; exact hkb
  have q0 := own_byteC HO7.out kl
  have f0 := HO7.out.frozenAt k
  have HSt : Hid (∀ y : Nat, (w7.setCell ⟨gg, k, none⟩ (.int .u8 (y : Int))).ownsRow w6.heap.size 5 1 (.slice (some ⟨gg, 0, none⟩) bn d7) bn (ycells (b.set k y))) := Lib.hid (fun y => by
    have h := (HO7.out.stored k (.int .u8 (y : Int))).1
    rwa [ycells_set] at h)
  have hbk := HLt0.out b[k] (List.getElem_mem kl)
  have HTn := HTurn.out k (b[k] ^^^ v) kl (xor_byte hbk (by omega)) (xor_ne (by omega))
  have HYl : Hid (∀ x ∈ b.set k (b[k] ^^^ v), x < 256) := Lib.hid (set_lt HLt0.out _ _ (xor_byte hbk (by omega)))
  generalize b[k] = bk at *
  have i1 : (x0 : Int) % (bn : Int) = (k : Int) := by omega
  have i2 : Int.tmod (x0 : Int) (bn : Int) = (k : Int) := by rw [Int.tmod_eq_emod_of_nonneg (by omega)]; exact i1
  have i3 : IntKind.i64.wrap (k : Int) = (k : Int) := by rw [IntKind.wrap_i64]; omega
  have i4 : (0 : Int) ≤ (k : Int) := by omega
  have i5 : (k : Int) < (bn : Int) := by omega
  have i6 : ¬ bn = 0 := by omega
  have i7 : (x1 : Int) % 255 = (r : Int) := by omega
  have i8 : Int.tmod (x1 : Int) 255 = (r : Int) := by rw [Int.tmod_eq_emod_of_nonneg (by omega)]; exact i7
  have i9 : IntKind.u16.wrap (r : Int) = (r : Int) := by simp [IntKind.wrap, IntKind.bits, IntKind.signed]; omega
  have i10 : IntKind.u8.wrap (r : Int) = (r : Int) := by simp [IntKind.wrap, IntKind.bits, IntKind.signed]; omega
  have i11 : IntKind.u8.wrap (1 + (r : Int)) = (v : Int) := by simp [IntKind.wrap, IntKind.bits, IntKind.signed]; omega
  have i12 : (1 : Int) + (r : Int) = (v : Int) := by omega
  have i13 : IntKind.u8.wrap (v : Int) = (v : Int) := by simp [IntKind.wrap, IntKind.bits, IntKind.signed]; omega
  have HXor := Lib.hid (xor_u8 bk v hbk (by omega))
  clear hk hr hv kl HTurn HLt0
  go_wp2_with fail
  go_region
  have HO8 : Hid ((w7.setCell ⟨gg, k, none⟩ (.int .u8 (bits .xor .u8 (bk : Int) (v : Int)))).drew.ownsRow w6.heap.size 5 1 (.slice (some ⟨gg, 0, none⟩) bn d7) bn (ycells (b.set k (bk ^^^ v)))) := Lib.hid (by
    rw [HXor.out]; exact (HSt.out (bk ^^^ v)).drew)
  have g8 : Below w6.heap.size w6 (w7.setCell ⟨gg, k, none⟩ (.int .u8 (bits .xor .u8 (bk : Int) (v : Int)))).drew := Below.drew (gs.setCell (p := ⟨gg, k, none⟩) (HO7.out.lt gg rfl).1 _)
  clear HM HB bb
  have HM := Lib.hid (HMc.out.on g8)
  have HB := Lib.hid (HBc.out.on g8)
  have bb := bbc.trans (g8.mono bbc.size)
  generalize (w7.setCell ⟨gg, k, none⟩ (.int .u8 (bits .xor .u8 (bk : Int) (v : Int)))).drew = w8 at *
  clear g8 gs HMc HBc bbc HXor HSt HO7 q0 f0 r0 r1 p0 p1 p2 p3
  have HR8 := Lib.hid (own_RB HO8.out HYl.out)
  have HS8 := Lib.hid (own_shp HO8.out)
  clear HO8 i1 i2 i3 i4 i5 i6 i7 i8 i9 i10 i11 i12 i13 HYl
  generalize b.set k (bk ^^^ v) = ys at *
  rcases HTn with hT8 | hT8
  · skip
    have HD := Lib.hid (decode_is ys 22 zeroT (by rw [hT8]; rfl) (decR_no (by rw [hT8]; decide)) bn _ _ w8 HR8.out HS8.out (by omega) HM.out)
    clear hT8 HR8 HS8
    go_wp2_with fail
    refine HD.out.mono ?_
    rintro e w9 ⟨⟨k6, va6, vn6, vc6, vb6, na6, nn6, nc6, nh6, ba6, bn6, bc6, bb6⟩, rfl, _, _, g⟩
    clear HD
    simp only [TV.v]
    replace HM := Lib.hid (HM.out.on g)
    replace HB := Lib.hid (HB.out.on g)
    replace bb := bb.trans (g.mono bb.size)
    clear g
    have g := below_new w9 (.cells #[.int .i64 k6, .slice va6 vn6 vc6, .slice na6 nn6 nc6, .slice ba6 bn6 bc6] 26)
    replace HM := Lib.hid (HM.out.on g)
    replace HB := Lib.hid (HB.out.on g)
    replace bb := bb.trans (g.mono bb.size)
    clear g
    go_wp2_with fail
    generalize (w9.alloc (.cells #[.int .i64 k6, .slice va6 vn6 vc6, .slice na6 nn6 nc6, .slice ba6 bn6 bc6] 26)) = w10 at *
    cases hE : errT l with
    | zero =>
      obtain ⟨hIl, hSl⟩ := dec_small HBl.out hE
      have HD := Lib.hid (decode_is l 0 (decT l) (by rw [hE]; rfl) (decR_yes hE) nb Ab cb w10 HB.out HBs.out (by omega) HM.out)
      have HIl := Lib.hid hIl
      have HSl := Lib.hid hSl
      clear hE hIl hSl
      refine HD.out.mono ?_
      rintro e w20 ⟨⟨k5, va5, vn5, vc5, vb5, na5, nn5, nc5, nh5, ba5, bn5, bc5, bb5⟩, rfl, ok5, tb5, g⟩
      clear HD
      simp only [TV.v]
      replace HM := Lib.hid (HM.out.on g)
      replace HB := Lib.hid (HB.out.on g)
      replace bb := bb.trans (g.mono bb.size)
      clear g
      have HV := Lib.hid ok5
      have HVt := Lib.hid tb5
      clear ok5 tb5
      have g := below_new w20 (.cells #[.int .i64 k5, .slice va5 vn5 vc5, .slice na5 nn5 nc5, .slice ba5 bn5 bc5] 26)
      replace HM := Lib.hid (HM.out.on g)
      replace HB := Lib.hid (HB.out.on g)
      replace HV := Lib.hid (HV.out.on g)
      replace bb := bb.trans (g.mono bb.size)
      clear g
      have HEn : Hid (Calls Tryd.prog 12 #[.agg #[.int .i64 k5, .slice va5 vn5 vc5, .slice na5 nn5 nc5, .slice ba5 bn5 bc5]] (w20.alloc (.cells #[.int .i64 k5, .slice va5 vn5 vc5, .slice na5 nn5 nc5, .slice ba5 bn5 bc5] 26)) fun e w' => ∃ (A : Option Addr) (c : Nat), e = .returned (.tuple #[.slice A nb c, .bool true]) ∧ RB w' w'.heap.size A nb l ∧ Shp A nb c ∧ Below (w20.alloc (.cells #[.int .i64 k5, .slice va5 vn5 vc5, .slice na5 nn5 nc5, .slice ba5 bn5 bc5] 26)).heap.size (w20.alloc (.cells #[.int .i64 k5, .slice va5 vn5 vc5, .slice na5 nn5 nc5, .slice ba5 bn5 bc5] 26)) w') := Lib.hid (encode_is ⟨k5, va5, vn5, vc5, vb5, na5, nn5, nc5, nh5, ba5, bn5, bc5, bb5⟩ l nb (by rw [HVt.out]; exact encR_yes HIl.out) HB.out.1 _ HV.out (by rw [HVt.out]; exact HSl.out) HM.out)
      go_wp2_with fail
      generalize (w20.alloc (.cells #[.int .i64 k5, .slice va5 vn5 vc5, .slice na5 nn5 nc5, .slice ba5 bn5 bc5] 26)) = w21 at *
      refine HEn.out.mono ?_
      rintro e w22 ⟨A6, c6, rfl, r6, s6, g⟩
      clear HEn HV
      replace HM := Lib.hid (HM.out.on g)
      replace HB := Lib.hid (HB.out.on g)
      replace bb := bb.trans (g.mono bb.size)
      clear g
      have HKb := Lib.hid (keepBytes_yes l l rfl nb nb A6 Ab c6 cb w22 r6 HB.out)
      clear r6 s6
      go_wp2_with fail
      refine HKb.out.mono ?_
      rintro e w23 ⟨rfl, g⟩
      clear HKb
      replace HM := Lib.hid (HM.out.on g)
      replace HB := Lib.hid (HB.out.on g)
      replace bb := bb.trans (g.mono bb.size)
      clear g
      go_wp2_with fail
      refine (wakes_any _ HM.out).mono ?_
      rintro e w9 ⟨rfl, g⟩
      replace bb := bb.trans (g.mono bb.size)
      clear g HM
      go_wp2_with fail
      go_ret
      exact ⟨rfl, bb⟩
    | succ er =>
      have HD := Lib.hid (decode_is l ((er + 1 : Nat) : Int) zeroT (by rw [hE]) (decR_no (by rw [hE]; omega)) nb Ab cb w10 HB.out HBs.out (by omega) HM.out)
      clear hE
      refine HD.out.mono ?_
      rintro e w20 ⟨⟨k5, va5, vn5, vc5, vb5, na5, nn5, nc5, nh5, ba5, bn5, bc5, bb5⟩, rfl, ok5, tb5, g⟩
      clear HD
      obtain ⟨z1, z2⟩ := zeroT_parts tb5 ok5
      simp only [] at z1 z2
      subst z1 z2
      clear ok5 tb5
      simp only [TV.v]
      replace HM := Lib.hid (HM.out.on g)
      replace HB := Lib.hid (HB.out.on g)
      replace bb := bb.trans (g.mono bb.size)
      clear g
      have hne : (((er + 1 : Nat) : Int) != 0) = true := by rw [bne_iff_ne]; omega
      have hne2 : ((er : Int) + 1 != 0) = true := by rw [bne_iff_ne]; omega
      have g := below_new w20 (.cells #[.int .i64 0, .slice va5 vn5 vc5, .slice na5 0 nc5, .slice ba5 bn5 bc5] 26)
      replace HM := Lib.hid (HM.out.on g)
      replace HB := Lib.hid (HB.out.on g)
      replace bb := bb.trans (g.mono bb.size)
      clear g
      go_wp2_with fail
      refine (wakes_any _ HM.out).mono ?_
      rintro e w9 ⟨rfl, g⟩
      replace bb := bb.trans (g.mono bb.size)
      clear g HM
      go_wp2_with fail
      go_ret
      exact ⟨rfl, bb⟩
  · skip
    have HD := Lib.hid (decode_is ys 23 zeroT (by rw [hT8]; rfl) (decR_no (by rw [hT8]; decide)) bn _ _ w8 HR8.out HS8.out (by omega) HM.out)
    clear hT8 HR8 HS8
    go_wp2_with fail
    refine HD.out.mono ?_
    rintro e w9 ⟨⟨k6, va6, vn6, vc6, vb6, na6, nn6, nc6, nh6, ba6, bn6, bc6, bb6⟩, rfl, _, _, g⟩
    clear HD
    simp only [TV.v]
    replace HM := Lib.hid (HM.out.on g)
    replace HB := Lib.hid (HB.out.on g)
    replace bb := bb.trans (g.mono bb.size)
    clear g
    have g := below_new w9 (.cells #[.int .i64 k6, .slice va6 vn6 vc6, .slice na6 nn6 nc6, .slice ba6 bn6 bc6] 26)
    replace HM := Lib.hid (HM.out.on g)
    replace HB := Lib.hid (HB.out.on g)
    replace bb := bb.trans (g.mono bb.size)
    clear g
    go_wp2_with fail
    generalize (w9.alloc (.cells #[.int .i64 k6, .slice va6 vn6 vc6, .slice na6 nn6 nc6, .slice ba6 bn6 bc6] 26)) = w10 at *
    cases hE : errT l with
    | zero =>
      obtain ⟨hIl, hSl⟩ := dec_small HBl.out hE
      have HD := Lib.hid (decode_is l 0 (decT l) (by rw [hE]; rfl) (decR_yes hE) nb Ab cb w10 HB.out HBs.out (by omega) HM.out)
      have HIl := Lib.hid hIl
      have HSl := Lib.hid hSl
      clear hE hIl hSl
      refine HD.out.mono ?_
      rintro e w20 ⟨⟨k5, va5, vn5, vc5, vb5, na5, nn5, nc5, nh5, ba5, bn5, bc5, bb5⟩, rfl, ok5, tb5, g⟩
      clear HD
      simp only [TV.v]
      replace HM := Lib.hid (HM.out.on g)
      replace HB := Lib.hid (HB.out.on g)
      replace bb := bb.trans (g.mono bb.size)
      clear g
      have HV := Lib.hid ok5
      have HVt := Lib.hid tb5
      clear ok5 tb5
      have g := below_new w20 (.cells #[.int .i64 k5, .slice va5 vn5 vc5, .slice na5 nn5 nc5, .slice ba5 bn5 bc5] 26)
      replace HM := Lib.hid (HM.out.on g)
      replace HB := Lib.hid (HB.out.on g)
      replace HV := Lib.hid (HV.out.on g)
      replace bb := bb.trans (g.mono bb.size)
      clear g
      have HEn : Hid (Calls Tryd.prog 12 #[.agg #[.int .i64 k5, .slice va5 vn5 vc5, .slice na5 nn5 nc5, .slice ba5 bn5 bc5]] (w20.alloc (.cells #[.int .i64 k5, .slice va5 vn5 vc5, .slice na5 nn5 nc5, .slice ba5 bn5 bc5] 26)) fun e w' => ∃ (A : Option Addr) (c : Nat), e = .returned (.tuple #[.slice A nb c, .bool true]) ∧ RB w' w'.heap.size A nb l ∧ Shp A nb c ∧ Below (w20.alloc (.cells #[.int .i64 k5, .slice va5 vn5 vc5, .slice na5 nn5 nc5, .slice ba5 bn5 bc5] 26)).heap.size (w20.alloc (.cells #[.int .i64 k5, .slice va5 vn5 vc5, .slice na5 nn5 nc5, .slice ba5 bn5 bc5] 26)) w') := Lib.hid (encode_is ⟨k5, va5, vn5, vc5, vb5, na5, nn5, nc5, nh5, ba5, bn5, bc5, bb5⟩ l nb (by rw [HVt.out]; exact encR_yes HIl.out) HB.out.1 _ HV.out (by rw [HVt.out]; exact HSl.out) HM.out)
      go_wp2_with fail
      generalize (w20.alloc (.cells #[.int .i64 k5, .slice va5 vn5 vc5, .slice na5 nn5 nc5, .slice ba5 bn5 bc5] 26)) = w21 at *
      refine HEn.out.mono ?_
      rintro e w22 ⟨A6, c6, rfl, r6, s6, g⟩
      clear HEn HV
      replace HM := Lib.hid (HM.out.on g)
      replace HB := Lib.hid (HB.out.on g)
      replace bb := bb.trans (g.mono bb.size)
      clear g
      have HKb := Lib.hid (keepBytes_yes l l rfl nb nb A6 Ab c6 cb w22 r6 HB.out)
      clear r6 s6
      go_wp2_with fail
      refine HKb.out.mono ?_
      rintro e w23 ⟨rfl, g⟩
      clear HKb
      replace HM := Lib.hid (HM.out.on g)
      replace HB := Lib.hid (HB.out.on g)
      replace bb := bb.trans (g.mono bb.size)
      clear g
      go_wp2_with fail
      refine (wakes_any _ HM.out).mono ?_
      rintro e w9 ⟨rfl, g⟩
      replace bb := bb.trans (g.mono bb.size)
      clear g HM
      go_wp2_with fail
      go_ret
      exact ⟨rfl, bb⟩
    | succ er =>
      have HD := Lib.hid (decode_is l ((er + 1 : Nat) : Int) zeroT (by rw [hE]) (decR_no (by rw [hE]; omega)) nb Ab cb w10 HB.out HBs.out (by omega) HM.out)
      clear hE
      refine HD.out.mono ?_
      rintro e w20 ⟨⟨k5, va5, vn5, vc5, vb5, na5, nn5, nc5, nh5, ba5, bn5, bc5, bb5⟩, rfl, ok5, tb5, g⟩
      clear HD
      obtain ⟨z1, z2⟩ := zeroT_parts tb5 ok5
      simp only [] at z1 z2
      subst z1 z2
      clear ok5 tb5
      simp only [TV.v]
      replace HM := Lib.hid (HM.out.on g)
      replace HB := Lib.hid (HB.out.on g)
      replace bb := bb.trans (g.mono bb.size)
      clear g
      have hne : (((er + 1 : Nat) : Int) != 0) = true := by rw [bne_iff_ne]; omega
      have hne2 : ((er : Int) + 1 != 0) = true := by rw [bne_iff_ne]; omega
      have g := below_new w20 (.cells #[.int .i64 0, .slice va5 vn5 vc5, .slice na5 0 nc5, .slice ba5 bn5 bc5] 26)
      replace HM := Lib.hid (HM.out.on g)
      replace HB := Lib.hid (HB.out.on g)
      replace bb := bb.trans (g.mono bb.size)
      clear g
      go_wp2_with fail
      refine (wakes_any _ HM.out).mono ?_
      rintro e w9 ⟨rfl, g⟩
      replace bb := bb.trans (g.mono bb.size)
      clear g HM
      go_wp2_with fail
      go_ret
      exact ⟨rfl, bb⟩
set_option maxRecDepth 8000 in
set_option maxHeartbeats 4000000 in
theorem walk_g1 (T : TV) (l : List Nat) (nb : Nat) (Ab : Option Addr) (cb : Nat) (x0 x1 : Nat) (W : World) (hT : T.ok W) (hM : Mark W) (hB : RB W W.heap.size Ab nb l) (hBs : Shp Ab nb cb) (hx0 : x0 < 65536) (hx1 : x1 < 65536) (hMay : MayT T.tb) (g1 : 8 < T.cl) :
    Calls Tryd.prog 4 #[T.v, .slice Ab nb cb, .agg #[.int .u16 (x0 : Int), .int .u16 (x1 : Int)]] W fun e W' => e = .returned (.bool true) ∧ Below W.heap.size W W' := by
  obtain ⟨i0, hi0, hz0, hz1, hz2⟩ := info_parts info5
  have HLg := Lib.hid (fun V (g : Below W.heap.size W V) => large_any T V (hT.on g))
  obtain ⟨L2, L1, L3⟩ := tb_len T hT
  obtain ⟨cl, a1, n1, c1, bd, a2, n2, c2, hs, a3, n3, c3, br⟩ := T
  simp only [TV.v] at *
  try simp only [] at L1 L2 L3
  have HT := Lib.hid hT
  have HM := Lib.hid hM
  have HB := Lib.hid hB
  have HBs := Lib.hid hBs
  have HBl := Lib.hid hB.2.2
  have hnb63 : nb ≤ 9223372036854775807 := by have := hBs.2; unfold maxLen at this; omega
  clear hB hBs
  clear hT hM
  go_enter Tryd.func4, Tryd.ntmps4
  go_wp2_with fail
  have p0 : ((W.alloc (.cells #[.int .i64 cl, .slice a1 n1 c1, .slice a2 n2 c2, .slice a3 n3 c3] 26)).alloc (.cells #[.int .u16 (x0 : Int), .int .u16 (x1 : Int)] 44)).cell? ⟨W.heap.size, 0, none⟩ = some (.int .i64 cl) := by simp
  have p1 : ((W.alloc (.cells #[.int .i64 cl, .slice a1 n1 c1, .slice a2 n2 c2, .slice a3 n3 c3] 26)).alloc (.cells #[.int .u16 (x0 : Int), .int .u16 (x1 : Int)] 44)).cell? ⟨W.heap.size, 1, none⟩ = some (.slice a1 n1 c1) := by simp
  have p2 : ((W.alloc (.cells #[.int .i64 cl, .slice a1 n1 c1, .slice a2 n2 c2, .slice a3 n3 c3] 26)).alloc (.cells #[.int .u16 (x0 : Int), .int .u16 (x1 : Int)] 44)).cell? ⟨W.heap.size, 2, none⟩ = some (.slice a2 n2 c2) := by simp
  have p3 : ((W.alloc (.cells #[.int .i64 cl, .slice a1 n1 c1, .slice a2 n2 c2, .slice a3 n3 c3] 26)).alloc (.cells #[.int .u16 (x0 : Int), .int .u16 (x1 : Int)] 44)).cell? ⟨W.heap.size, 3, none⟩ = some (.slice a3 n3 c3) := by simp
  have r0 : ((W.alloc (.cells #[.int .i64 cl, .slice a1 n1 c1, .slice a2 n2 c2, .slice a3 n3 c3] 26)).alloc (.cells #[.int .u16 (x0 : Int), .int .u16 (x1 : Int)] 44)).cell? ⟨W.heap.size + 1, 0, none⟩ = some (.int .u16 (x0 : Int)) := by simp
  have r1 : ((W.alloc (.cells #[.int .i64 cl, .slice a1 n1 c1, .slice a2 n2 c2, .slice a3 n3 c3] 26)).alloc (.cells #[.int .u16 (x0 : Int), .int .u16 (x1 : Int)] 44)).cell? ⟨W.heap.size + 1, 1, none⟩ = some (.int .u16 (x1 : Int)) := by simp
  have bb : Below W.heap.size W ((W.alloc (.cells #[.int .i64 cl, .slice a1 n1 c1, .slice a2 n2 c2, .slice a3 n3 c3] 26)).alloc (.cells #[.int .u16 (x0 : Int), .int .u16 (x1 : Int)] 44)) := (below_new _ _).trans ((below_new _ _).mono (by simp))
  replace HT := Lib.hid (HT.out.on bb)
  replace HM := Lib.hid (HM.out.on bb)
  replace HB := Lib.hid (HB.out.on bb)
  generalize ((W.alloc (.cells #[.int .i64 cl, .slice a1 n1 c1, .slice a2 n2 c2, .slice a3 n3 c3] 26)).alloc (.cells #[.int .u16 (x0 : Int), .int .u16 (x1 : Int)] 44)) = W0 at *
  refine (HLg.out _ bb).mono ?_
  rintro e w1 ⟨q, rfl, g, hq⟩
  have HQ := Lib.hid hq
  clear hq HLg
  replace p0 := kept_cell g p0
  replace p1 := kept_cell g p1
  replace p2 := kept_cell g p2
  replace p3 := kept_cell g p3
  replace r0 := kept_cell g r0
  replace r1 := kept_cell g r1
  replace HT := Lib.hid (HT.out.on g)
  replace HM := Lib.hid (HM.out.on g)
  replace HB := Lib.hid (HB.out.on g)
  replace bb := bb.trans (g.mono bb.size)
  clear g
  cases q
  case true =>
    clear HQ
    go_wp2_with fail
    refine (wakes_any _ HM.out).mono ?_
    rintro e w9 ⟨rfl, g⟩
    replace bb := bb.trans (g.mono bb.size)
    clear g HM
    go_wp2_with fail
    go_ret
    exact ⟨rfl, bb⟩
  have hS := HQ.out rfl
  clear HQ
  by_cases hn2 : 2000 < nb
  case pos =>
    go_wp2_with fail
    refine (wakes_any _ HM.out).mono ?_
    rintro e w9 ⟨rfl, g⟩
    replace bb := bb.trans (g.mono bb.size)
    clear g HM
    go_wp2_with fail
    go_ret
    exact ⟨rfl, bb⟩
  go_wp2_with fail
  obtain ⟨b, hIs, hEnc⟩ := encR_may hMay
  obtain ⟨y, hy, hbX, hbl, hb8, hb5, hXl⟩ := enc_facts hS hIs
  have HEn := Lib.hid (fun V hV hMV => encode_is ⟨cl, a1, n1, c1, bd, a2, n2, c2, hs, a3, n3, c3, br⟩ b b.length hEnc rfl V hV hS hMV)
  simp only [TV.v] at HEn
  have HIs := Lib.hid hIs
  have hc1 : 1 ≤ cl := hMay.c1
  have hn1 : 1 ≤ n2 := by have := hMay.n1; omega
  have HMay := Lib.hid hMay
  clear hIs hEnc hMay
  have hEr := (err_enc HIs.out).1
  have hDt := (err_enc HIs.out).2
  have hLn := enc_len HIs.out
  obtain ⟨cn, rfl⟩ := Int.eq_ofNat_of_zero_le (show 0 ≤ cl by omega)
  have HLt0 : Hid (∀ z ∈ b, z < 256) := Lib.hid (by rw [hbX]; exact seal_lt hXl)
  generalize hnbx : b.length = bn at *
  have HBn := Lib.hid hnbx
  have HTurn := Lib.hid (fun i y hi hy hne => err_turn HIs.out i y hi hy hne)
  have hl0 : lenI (cn : Int) (n2 : Int) (n1 : Int) = bn := by
    have k2 := HMay.out.n2
    have k1 := HMay.out.k1
    have kc := HMay.out.c2
    rw [lenI_nat (by simp only [TV.tb] at kc; omega) (by omega) (by omega), hLn, L2, L1]
    rfl
  have HLen := Lib.hid (length_is (cn : Int) n2 n1 bn hl0)
  have hb11 : 11 ≤ bn := by omega
  have hbb : ((bn : Int) != (bn : Int)) = false := by simp
  rw [if_neg (fun h => by have h1 := h.1; have h2 := h.2.1; have h3 := h.2.2.1; have h4 := h.2.2.2; simp only [TV.tb] at h1; omega)] at hEr
  have HEr := Lib.hid hEr
  have HDt := Lib.hid hDt
  have HSs := Lib.hid hS
  clear hbX hXl hy hbl hb8 hnbx hEr hDt hLn hl0 hS
  refine (HEn.out _ HT.out HM.out).mono ?_
  rintro e w2 ⟨A2, cc2, rfl, r2, s2, g⟩
  clear HEn
  replace p0 := kept_cell g p0
  replace p1 := kept_cell g p1
  replace p2 := kept_cell g p2
  replace p3 := kept_cell g p3
  replace r0 := kept_cell g r0
  replace r1 := kept_cell g r1
  replace HT := Lib.hid (HT.out.on g)
  replace HM := Lib.hid (HM.out.on g)
  replace HB := Lib.hid (HB.out.on g)
  replace bb := bb.trans (g.mono bb.size)
  clear g
  have HR := Lib.hid r2
  have HSp := Lib.hid s2
  clear r2 s2
  go_wp2_with fail
  refine (HLen.out _).mono ?_
  rintro e w3 ⟨rfl, g⟩
  clear HLen
  replace p0 := kept_cell g p0
  replace p1 := kept_cell g p1
  replace p2 := kept_cell g p2
  replace p3 := kept_cell g p3
  replace r0 := kept_cell g r0
  replace r1 := kept_cell g r1
  replace HT := Lib.hid (HT.out.on g)
  replace HM := Lib.hid (HM.out.on g)
  replace HB := Lib.hid (HB.out.on g)
  replace HR := Lib.hid (HR.out.on g)
  replace bb := bb.trans (g.mono bb.size)
  clear g
  go_wp2_with fail
  have HD := Lib.hid (decode_is b 24 zeroT (by rw [HEr.out]; rfl) (decR_no (by rw [HEr.out]; decide)) bn A2 cc2 w3 HR.out HSp.out (by omega) HM.out)
  refine HD.out.mono ?_
  rintro e w4 ⟨⟨k4, va4, vn4, vc4, vb4, na4, nn4, nc4, nh4, ba4, bn4, bc4, bb4⟩, rfl, ok4, tb4, g⟩
  clear HD
  simp only [TV.v]
  replace p0 := kept_cell g p0
  replace p1 := kept_cell g p1
  replace p2 := kept_cell g p2
  replace p3 := kept_cell g p3
  replace r0 := kept_cell g r0
  replace r1 := kept_cell g r1
  replace HT := Lib.hid (HT.out.on g)
  replace HM := Lib.hid (HM.out.on g)
  replace HB := Lib.hid (HB.out.on g)
  replace HR := Lib.hid (HR.out.on g)
  replace bb := bb.trans (g.mono bb.size)
  clear g
  clear ok4 tb4
  have g := below_new w4 (.cells #[.int .i64 k4, .slice va4 vn4 vc4, .slice na4 nn4 nc4, .slice ba4 bn4 bc4] 26)
  replace p0 := kept_cell g p0
  replace p1 := kept_cell g p1
  replace p2 := kept_cell g p2
  replace p3 := kept_cell g p3
  replace r0 := kept_cell g r0
  replace r1 := kept_cell g r1
  replace HT := Lib.hid (HT.out.on g)
  replace HM := Lib.hid (HM.out.on g)
  replace HB := Lib.hid (HB.out.on g)
  replace HR := Lib.hid (HR.out.on g)
  replace bb := bb.trans (g.mono bb.size)
  clear g
  go_upto_region 11 with (fail)
  generalize (w4.alloc (.cells #[.int .i64 k4, .slice va4 vn4 vc4, .slice na4 nn4 nc4, .slice ba4 bn4 bc4] 26)) = w5 at *
  clear HT
  have HMc := HM
  have HBc := HB
  have bbc := bb
  have HOm := Lib.hid (World.ownsRow_made (e := 5) (size := 1) w5 #[] 0 (Nat.le_refl _) (Nat.zero_le _) (by simp))
  have HRd := Lib.hid (HR.out.2.1.alloc (Nat.le_refl _) (.cells #[] 5))
  have HOne := Lib.hid (ycells_one (b))
  have HNil : Hid (A2 = none → cc2 = 0) := Lib.hid HSp.out.1
  have HLt := Lib.hid HR.out.2.2
  go_wp2_with (at_builtin; refine wpList_append_src rfl _ _ 27 rfl w5.heap.size 5 i0 _ 1 1 Tryd.underlying27 hi0 hz0 hz1 hz2 rfl (by decide) _ _ _ rfl HOm.out (A2) (bn) (cc2) w5.heap.size (ycells (b)) rfl HNil.out HRd.out HOne.out ?c3 ?c4 ?c5 ?_)
  case c3 => unfold maxLen; omega
  case c4 => omega
  try (case c5 => simp)
  intro A7 d7 w7 hown hnil hgrow
  have g : Below w5.heap.size w5 w7 := below_grown (below_new _ _) (by simp) HOm.out hgrow
  have HO7 : Hid (w7.ownsRow w5.heap.size 5 1 (.slice A7 (bn) d7) (bn) (ycells (b))) := Lib.hid (by simpa using hown)
  try simp only [Nat.zero_add]
  have gs := g
  clear hown hgrow hnil HOm HRd HOne HNil
  replace p0 := kept_cell g p0
  replace p1 := kept_cell g p1
  replace p2 := kept_cell g p2
  replace p3 := kept_cell g p3
  replace r0 := kept_cell g r0
  replace r1 := kept_cell g r1
  replace HM := Lib.hid (HM.out.on g)
  replace HB := Lib.hid (HB.out.on g)
  replace HR := Lib.hid (HR.out.on g)
  replace bb := bb.trans (g.mono bb.size)
  clear g
  have HR7 := Lib.hid (own_RB HO7.out HLt.out)
  have HS7 := Lib.hid (own_shp HO7.out)
  clear HLt
  obtain ⟨gg, cap, hv, _, hlt7⟩ := HO7.out.form (by omega)
  obtain ⟨rfl, rfl⟩ : A7 = some ⟨gg, 0, none⟩ ∧ d7 = cap := by injection hv with h1 h2 h3; exact ⟨h1, h3⟩
  clear hv HR7 HS7 HR HSp
  obtain ⟨k, hk⟩ : ∃ k, x0 % bn = k := ⟨_, rfl⟩
  have hkb : k < bn := by rw [← hk]; exact Nat.mod_lt _ (by omega)
  obtain ⟨r, hr⟩ : ∃ r, x1 % 255 = r := ⟨_, rfl⟩
  have hr255 : r < 255 := by omega
  obtain ⟨v, hv⟩ : ∃ v, 1 + r = v := ⟨_, rfl⟩
  have kl : k < b.length := by rw [HBn.out]; exact hkb
  have q0 := own_byteC HO7.out kl
  have f0 := HO7.out.frozenAt k
  have HSt : Hid (∀ y : Nat, (w7.setCell ⟨gg, k, none⟩ (.int .u8 (y : Int))).ownsRow w5.heap.size 5 1 (.slice (some ⟨gg, 0, none⟩) bn d7) bn (ycells (b.set k y))) := Lib.hid (fun y => by
    have h := (HO7.out.stored k (.int .u8 (y : Int))).1
    rwa [ycells_set] at h)
  have hbk := HLt0.out b[k] (List.getElem_mem kl)
  have HTn := HTurn.out k (b[k] ^^^ v) kl (xor_byte hbk (by omega)) (xor_ne (by omega))
  have HYl : Hid (∀ x ∈ b.set k (b[k] ^^^ v), x < 256) := Lib.hid (set_lt HLt0.out _ _ (xor_byte hbk (by omega)))
  generalize b[k] = bk at *
  have i1 : (x0 : Int) % (bn : Int) = (k : Int) := by omega
  have i2 : Int.tmod (x0 : Int) (bn : Int) = (k : Int) := by rw [Int.tmod_eq_emod_of_nonneg (by omega)]; exact i1
  have i3 : IntKind.i64.wrap (k : Int) = (k : Int) := by rw [IntKind.wrap_i64]; omega
  have i4 : (0 : Int) ≤ (k : Int) := by omega
  have i5 : (k : Int) < (bn : Int) := by omega
  have i6 : ¬ bn = 0 := by omega
  have i7 : (x1 : Int) % 255 = (r : Int) := by omega
  have i8 : Int.tmod (x1 : Int) 255 = (r : Int) := by rw [Int.tmod_eq_emod_of_nonneg (by omega)]; exact i7
  have i9 : IntKind.u16.wrap (r : Int) = (r : Int) := by simp [IntKind.wrap, IntKind.bits, IntKind.signed]; omega
  have i10 : IntKind.u8.wrap (r : Int) = (r : Int) := by simp [IntKind.wrap, IntKind.bits, IntKind.signed]; omega
  have i11 : IntKind.u8.wrap (1 + (r : Int)) = (v : Int) := by simp [IntKind.wrap, IntKind.bits, IntKind.signed]; omega
  have i12 : (1 : Int) + (r : Int) = (v : Int) := by omega
  have i13 : IntKind.u8.wrap (v : Int) = (v : Int) := by simp [IntKind.wrap, IntKind.bits, IntKind.signed]; omega
  have HXor := Lib.hid (xor_u8 bk v hbk (by omega))
  clear hk hr hv kl HTurn HLt0
  go_wp2_with fail
  go_region
  have HO8 : Hid ((w7.setCell ⟨gg, k, none⟩ (.int .u8 (bits .xor .u8 (bk : Int) (v : Int)))).drew.ownsRow w5.heap.size 5 1 (.slice (some ⟨gg, 0, none⟩) bn d7) bn (ycells (b.set k (bk ^^^ v)))) := Lib.hid (by
    rw [HXor.out]; exact (HSt.out (bk ^^^ v)).drew)
  have g8 : Below w5.heap.size w5 (w7.setCell ⟨gg, k, none⟩ (.int .u8 (bits .xor .u8 (bk : Int) (v : Int)))).drew := Below.drew (gs.setCell (p := ⟨gg, k, none⟩) (HO7.out.lt gg rfl).1 _)
  clear HM HB bb
  have HM := Lib.hid (HMc.out.on g8)
  have HB := Lib.hid (HBc.out.on g8)
  have bb := bbc.trans (g8.mono bbc.size)
  generalize (w7.setCell ⟨gg, k, none⟩ (.int .u8 (bits .xor .u8 (bk : Int) (v : Int)))).drew = w8 at *
  clear g8 gs HMc HBc bbc HXor HSt HO7 q0 f0 r0 r1 p0 p1 p2 p3
  have HR8 := Lib.hid (own_RB HO8.out HYl.out)
  have HS8 := Lib.hid (own_shp HO8.out)
  clear HO8 i1 i2 i3 i4 i5 i6 i7 i8 i9 i10 i11 i12 i13 HYl
  generalize b.set k (bk ^^^ v) = ys at *
  rcases HTn with hT8 | hT8
  · skip
    have HD := Lib.hid (decode_is ys 22 zeroT (by rw [hT8]; rfl) (decR_no (by rw [hT8]; decide)) bn _ _ w8 HR8.out HS8.out (by omega) HM.out)
    clear hT8 HR8 HS8
    go_wp2_with fail
    refine HD.out.mono ?_
    rintro e w9 ⟨⟨k6, va6, vn6, vc6, vb6, na6, nn6, nc6, nh6, ba6, bn6, bc6, bb6⟩, rfl, _, _, g⟩
    clear HD
    simp only [TV.v]
    replace HM := Lib.hid (HM.out.on g)
    replace HB := Lib.hid (HB.out.on g)
    replace bb := bb.trans (g.mono bb.size)
    clear g
    have g := below_new w9 (.cells #[.int .i64 k6, .slice va6 vn6 vc6, .slice na6 nn6 nc6, .slice ba6 bn6 bc6] 26)
    replace HM := Lib.hid (HM.out.on g)
    replace HB := Lib.hid (HB.out.on g)
    replace bb := bb.trans (g.mono bb.size)
    clear g
    go_wp2_with fail
    generalize (w9.alloc (.cells #[.int .i64 k6, .slice va6 vn6 vc6, .slice na6 nn6 nc6, .slice ba6 bn6 bc6] 26)) = w10 at *
    cases hE : errT l with
    | zero =>
      obtain ⟨hIl, hSl⟩ := dec_small HBl.out hE
      have HD := Lib.hid (decode_is l 0 (decT l) (by rw [hE]; rfl) (decR_yes hE) nb Ab cb w10 HB.out HBs.out (by omega) HM.out)
      have HIl := Lib.hid hIl
      have HSl := Lib.hid hSl
      clear hE hIl hSl
      refine HD.out.mono ?_
      rintro e w20 ⟨⟨k5, va5, vn5, vc5, vb5, na5, nn5, nc5, nh5, ba5, bn5, bc5, bb5⟩, rfl, ok5, tb5, g⟩
      clear HD
      simp only [TV.v]
      replace HM := Lib.hid (HM.out.on g)
      replace HB := Lib.hid (HB.out.on g)
      replace bb := bb.trans (g.mono bb.size)
      clear g
      have HV := Lib.hid ok5
      have HVt := Lib.hid tb5
      clear ok5 tb5
      have g := below_new w20 (.cells #[.int .i64 k5, .slice va5 vn5 vc5, .slice na5 nn5 nc5, .slice ba5 bn5 bc5] 26)
      replace HM := Lib.hid (HM.out.on g)
      replace HB := Lib.hid (HB.out.on g)
      replace HV := Lib.hid (HV.out.on g)
      replace bb := bb.trans (g.mono bb.size)
      clear g
      have HEn : Hid (Calls Tryd.prog 12 #[.agg #[.int .i64 k5, .slice va5 vn5 vc5, .slice na5 nn5 nc5, .slice ba5 bn5 bc5]] (w20.alloc (.cells #[.int .i64 k5, .slice va5 vn5 vc5, .slice na5 nn5 nc5, .slice ba5 bn5 bc5] 26)) fun e w' => ∃ (A : Option Addr) (c : Nat), e = .returned (.tuple #[.slice A nb c, .bool true]) ∧ RB w' w'.heap.size A nb l ∧ Shp A nb c ∧ Below (w20.alloc (.cells #[.int .i64 k5, .slice va5 vn5 vc5, .slice na5 nn5 nc5, .slice ba5 bn5 bc5] 26)).heap.size (w20.alloc (.cells #[.int .i64 k5, .slice va5 vn5 vc5, .slice na5 nn5 nc5, .slice ba5 bn5 bc5] 26)) w') := Lib.hid (encode_is ⟨k5, va5, vn5, vc5, vb5, na5, nn5, nc5, nh5, ba5, bn5, bc5, bb5⟩ l nb (by rw [HVt.out]; exact encR_yes HIl.out) HB.out.1 _ HV.out (by rw [HVt.out]; exact HSl.out) HM.out)
      go_wp2_with fail
      generalize (w20.alloc (.cells #[.int .i64 k5, .slice va5 vn5 vc5, .slice na5 nn5 nc5, .slice ba5 bn5 bc5] 26)) = w21 at *
      refine HEn.out.mono ?_
      rintro e w22 ⟨A6, c6, rfl, r6, s6, g⟩
      clear HEn HV
      replace HM := Lib.hid (HM.out.on g)
      replace HB := Lib.hid (HB.out.on g)
      replace bb := bb.trans (g.mono bb.size)
      clear g
      have HKb := Lib.hid (keepBytes_yes l l rfl nb nb A6 Ab c6 cb w22 r6 HB.out)
      clear r6 s6
      go_wp2_with fail
      refine HKb.out.mono ?_
      rintro e w23 ⟨rfl, g⟩
      clear HKb
      replace HM := Lib.hid (HM.out.on g)
      replace HB := Lib.hid (HB.out.on g)
      replace bb := bb.trans (g.mono bb.size)
      clear g
      go_wp2_with fail
      refine (wakes_any _ HM.out).mono ?_
      rintro e w9 ⟨rfl, g⟩
      replace bb := bb.trans (g.mono bb.size)
      clear g HM
      go_wp2_with fail
      go_ret
      exact ⟨rfl, bb⟩
    | succ er =>
      have HD := Lib.hid (decode_is l ((er + 1 : Nat) : Int) zeroT (by rw [hE]) (decR_no (by rw [hE]; omega)) nb Ab cb w10 HB.out HBs.out (by omega) HM.out)
      clear hE
      refine HD.out.mono ?_
      rintro e w20 ⟨⟨k5, va5, vn5, vc5, vb5, na5, nn5, nc5, nh5, ba5, bn5, bc5, bb5⟩, rfl, ok5, tb5, g⟩
      clear HD
      obtain ⟨z1, z2⟩ := zeroT_parts tb5 ok5
      simp only [] at z1 z2
      subst z1 z2
      clear ok5 tb5
      simp only [TV.v]
      replace HM := Lib.hid (HM.out.on g)
      replace HB := Lib.hid (HB.out.on g)
      replace bb := bb.trans (g.mono bb.size)
      clear g
      have hne : (((er + 1 : Nat) : Int) != 0) = true := by rw [bne_iff_ne]; omega
      have hne2 : ((er : Int) + 1 != 0) = true := by rw [bne_iff_ne]; omega
      have g := below_new w20 (.cells #[.int .i64 0, .slice va5 vn5 vc5, .slice na5 0 nc5, .slice ba5 bn5 bc5] 26)
      replace HM := Lib.hid (HM.out.on g)
      replace HB := Lib.hid (HB.out.on g)
      replace bb := bb.trans (g.mono bb.size)
      clear g
      go_wp2_with fail
      refine (wakes_any _ HM.out).mono ?_
      rintro e w9 ⟨rfl, g⟩
      replace bb := bb.trans (g.mono bb.size)
      clear g HM
      go_wp2_with fail
      go_ret
      exact ⟨rfl, bb⟩
  · skip
    have HD := Lib.hid (decode_is ys 23 zeroT (by rw [hT8]; rfl) (decR_no (by rw [hT8]; decide)) bn _ _ w8 HR8.out HS8.out (by omega) HM.out)
    clear hT8 HR8 HS8
    go_wp2_with fail
    refine HD.out.mono ?_
    rintro e w9 ⟨⟨k6, va6, vn6, vc6, vb6, na6, nn6, nc6, nh6, ba6, bn6, bc6, bb6⟩, rfl, _, _, g⟩
    clear HD
    simp only [TV.v]
    replace HM := Lib.hid (HM.out.on g)
    replace HB := Lib.hid (HB.out.on g)
    replace bb := bb.trans (g.mono bb.size)
    clear g
    have g := below_new w9 (.cells #[.int .i64 k6, .slice va6 vn6 vc6, .slice na6 nn6 nc6, .slice ba6 bn6 bc6] 26)
    replace HM := Lib.hid (HM.out.on g)
    replace HB := Lib.hid (HB.out.on g)
    replace bb := bb.trans (g.mono bb.size)
    clear g
    go_wp2_with fail
    generalize (w9.alloc (.cells #[.int .i64 k6, .slice va6 vn6 vc6, .slice na6 nn6 nc6, .slice ba6 bn6 bc6] 26)) = w10 at *
    cases hE : errT l with
    | zero =>
      obtain ⟨hIl, hSl⟩ := dec_small HBl.out hE
      have HD := Lib.hid (decode_is l 0 (decT l) (by rw [hE]; rfl) (decR_yes hE) nb Ab cb w10 HB.out HBs.out (by omega) HM.out)
      have HIl := Lib.hid hIl
      have HSl := Lib.hid hSl
      clear hE hIl hSl
      refine HD.out.mono ?_
      rintro e w20 ⟨⟨k5, va5, vn5, vc5, vb5, na5, nn5, nc5, nh5, ba5, bn5, bc5, bb5⟩, rfl, ok5, tb5, g⟩
      clear HD
      simp only [TV.v]
      replace HM := Lib.hid (HM.out.on g)
      replace HB := Lib.hid (HB.out.on g)
      replace bb := bb.trans (g.mono bb.size)
      clear g
      have HV := Lib.hid ok5
      have HVt := Lib.hid tb5
      clear ok5 tb5
      have g := below_new w20 (.cells #[.int .i64 k5, .slice va5 vn5 vc5, .slice na5 nn5 nc5, .slice ba5 bn5 bc5] 26)
      replace HM := Lib.hid (HM.out.on g)
      replace HB := Lib.hid (HB.out.on g)
      replace HV := Lib.hid (HV.out.on g)
      replace bb := bb.trans (g.mono bb.size)
      clear g
      have HEn : Hid (Calls Tryd.prog 12 #[.agg #[.int .i64 k5, .slice va5 vn5 vc5, .slice na5 nn5 nc5, .slice ba5 bn5 bc5]] (w20.alloc (.cells #[.int .i64 k5, .slice va5 vn5 vc5, .slice na5 nn5 nc5, .slice ba5 bn5 bc5] 26)) fun e w' => ∃ (A : Option Addr) (c : Nat), e = .returned (.tuple #[.slice A nb c, .bool true]) ∧ RB w' w'.heap.size A nb l ∧ Shp A nb c ∧ Below (w20.alloc (.cells #[.int .i64 k5, .slice va5 vn5 vc5, .slice na5 nn5 nc5, .slice ba5 bn5 bc5] 26)).heap.size (w20.alloc (.cells #[.int .i64 k5, .slice va5 vn5 vc5, .slice na5 nn5 nc5, .slice ba5 bn5 bc5] 26)) w') := Lib.hid (encode_is ⟨k5, va5, vn5, vc5, vb5, na5, nn5, nc5, nh5, ba5, bn5, bc5, bb5⟩ l nb (by rw [HVt.out]; exact encR_yes HIl.out) HB.out.1 _ HV.out (by rw [HVt.out]; exact HSl.out) HM.out)
      go_wp2_with fail
      generalize (w20.alloc (.cells #[.int .i64 k5, .slice va5 vn5 vc5, .slice na5 nn5 nc5, .slice ba5 bn5 bc5] 26)) = w21 at *
      refine HEn.out.mono ?_
      rintro e w22 ⟨A6, c6, rfl, r6, s6, g⟩
      clear HEn HV
      replace HM := Lib.hid (HM.out.on g)
      replace HB := Lib.hid (HB.out.on g)
      replace bb := bb.trans (g.mono bb.size)
      clear g
      have HKb := Lib.hid (keepBytes_yes l l rfl nb nb A6 Ab c6 cb w22 r6 HB.out)
      clear r6 s6
      go_wp2_with fail
      refine HKb.out.mono ?_
      rintro e w23 ⟨rfl, g⟩
      clear HKb
      replace HM := Lib.hid (HM.out.on g)
      replace HB := Lib.hid (HB.out.on g)
      replace bb := bb.trans (g.mono bb.size)
      clear g
      go_wp2_with fail
      refine (wakes_any _ HM.out).mono ?_
      rintro e w9 ⟨rfl, g⟩
      replace bb := bb.trans (g.mono bb.size)
      clear g HM
      go_wp2_with fail
      go_ret
      exact ⟨rfl, bb⟩
    | succ er =>
      have HD := Lib.hid (decode_is l ((er + 1 : Nat) : Int) zeroT (by rw [hE]) (decR_no (by rw [hE]; omega)) nb Ab cb w10 HB.out HBs.out (by omega) HM.out)
      clear hE
      refine HD.out.mono ?_
      rintro e w20 ⟨⟨k5, va5, vn5, vc5, vb5, na5, nn5, nc5, nh5, ba5, bn5, bc5, bb5⟩, rfl, ok5, tb5, g⟩
      clear HD
      obtain ⟨z1, z2⟩ := zeroT_parts tb5 ok5
      simp only [] at z1 z2
      subst z1 z2
      clear ok5 tb5
      simp only [TV.v]
      replace HM := Lib.hid (HM.out.on g)
      replace HB := Lib.hid (HB.out.on g)
      replace bb := bb.trans (g.mono bb.size)
      clear g
      have hne : (((er + 1 : Nat) : Int) != 0) = true := by rw [bne_iff_ne]; omega
      have hne2 : ((er : Int) + 1 != 0) = true := by rw [bne_iff_ne]; omega
      have g := below_new w20 (.cells #[.int .i64 0, .slice va5 vn5 vc5, .slice na5 0 nc5, .slice ba5 bn5 bc5] 26)
      replace HM := Lib.hid (HM.out.on g)
      replace HB := Lib.hid (HB.out.on g)
      replace bb := bb.trans (g.mono bb.size)
      clear g
      go_wp2_with fail
      refine (wakes_any _ HM.out).mono ?_
      rintro e w9 ⟨rfl, g⟩
      replace bb := bb.trans (g.mono bb.size)
      clear g HM
      go_wp2_with fail
      go_ret
      exact ⟨rfl, bb⟩
set_option maxRecDepth 8000 in
set_option maxHeartbeats 4000000 in
theorem walk_g2 (T : TV) (l : List Nat) (nb : Nat) (Ab : Option Addr) (cb : Nat) (x0 x1 : Nat) (W : World) (hT : T.ok W) (hM : Mark W) (hB : RB W W.heap.size Ab nb l) (hBs : Shp Ab nb cb) (hx0 : x0 < 65536) (hx1 : x1 < 65536) (hMay : MayT T.tb) (g1 : T.cl ≤ 8) (g2 : 5 < T.n2) :
    Calls Tryd.prog 4 #[T.v, .slice Ab nb cb, .agg #[.int .u16 (x0 : Int), .int .u16 (x1 : Int)]] W fun e W' => e = .returned (.bool true) ∧ Below W.heap.size W W' := by
  obtain ⟨i0, hi0, hz0, hz1, hz2⟩ := info_parts info5
  have HLg := Lib.hid (fun V (g : Below W.heap.size W V) => large_any T V (hT.on g))
  obtain ⟨L2, L1, L3⟩ := tb_len T hT
  obtain ⟨cl, a1, n1, c1, bd, a2, n2, c2, hs, a3, n3, c3, br⟩ := T
  simp only [TV.v] at *
  try simp only [] at L1 L2 L3
  have HT := Lib.hid hT
  have HM := Lib.hid hM
  have HB := Lib.hid hB
  have HBs := Lib.hid hBs
  have HBl := Lib.hid hB.2.2
  have hnb63 : nb ≤ 9223372036854775807 := by have := hBs.2; unfold maxLen at this; omega
  clear hB hBs
  clear hT hM
  go_enter Tryd.func4, Tryd.ntmps4
  go_wp2_with fail
  have p0 : ((W.alloc (.cells #[.int .i64 cl, .slice a1 n1 c1, .slice a2 n2 c2, .slice a3 n3 c3] 26)).alloc (.cells #[.int .u16 (x0 : Int), .int .u16 (x1 : Int)] 44)).cell? ⟨W.heap.size, 0, none⟩ = some (.int .i64 cl) := by simp
  have p1 : ((W.alloc (.cells #[.int .i64 cl, .slice a1 n1 c1, .slice a2 n2 c2, .slice a3 n3 c3] 26)).alloc (.cells #[.int .u16 (x0 : Int), .int .u16 (x1 : Int)] 44)).cell? ⟨W.heap.size, 1, none⟩ = some (.slice a1 n1 c1) := by simp
  have p2 : ((W.alloc (.cells #[.int .i64 cl, .slice a1 n1 c1, .slice a2 n2 c2, .slice a3 n3 c3] 26)).alloc (.cells #[.int .u16 (x0 : Int), .int .u16 (x1 : Int)] 44)).cell? ⟨W.heap.size, 2, none⟩ = some (.slice a2 n2 c2) := by simp
  have p3 : ((W.alloc (.cells #[.int .i64 cl, .slice a1 n1 c1, .slice a2 n2 c2, .slice a3 n3 c3] 26)).alloc (.cells #[.int .u16 (x0 : Int), .int .u16 (x1 : Int)] 44)).cell? ⟨W.heap.size, 3, none⟩ = some (.slice a3 n3 c3) := by simp
  have r0 : ((W.alloc (.cells #[.int .i64 cl, .slice a1 n1 c1, .slice a2 n2 c2, .slice a3 n3 c3] 26)).alloc (.cells #[.int .u16 (x0 : Int), .int .u16 (x1 : Int)] 44)).cell? ⟨W.heap.size + 1, 0, none⟩ = some (.int .u16 (x0 : Int)) := by simp
  have r1 : ((W.alloc (.cells #[.int .i64 cl, .slice a1 n1 c1, .slice a2 n2 c2, .slice a3 n3 c3] 26)).alloc (.cells #[.int .u16 (x0 : Int), .int .u16 (x1 : Int)] 44)).cell? ⟨W.heap.size + 1, 1, none⟩ = some (.int .u16 (x1 : Int)) := by simp
  have bb : Below W.heap.size W ((W.alloc (.cells #[.int .i64 cl, .slice a1 n1 c1, .slice a2 n2 c2, .slice a3 n3 c3] 26)).alloc (.cells #[.int .u16 (x0 : Int), .int .u16 (x1 : Int)] 44)) := (below_new _ _).trans ((below_new _ _).mono (by simp))
  replace HT := Lib.hid (HT.out.on bb)
  replace HM := Lib.hid (HM.out.on bb)
  replace HB := Lib.hid (HB.out.on bb)
  generalize ((W.alloc (.cells #[.int .i64 cl, .slice a1 n1 c1, .slice a2 n2 c2, .slice a3 n3 c3] 26)).alloc (.cells #[.int .u16 (x0 : Int), .int .u16 (x1 : Int)] 44)) = W0 at *
  refine (HLg.out _ bb).mono ?_
  rintro e w1 ⟨q, rfl, g, hq⟩
  have HQ := Lib.hid hq
  clear hq HLg
  replace p0 := kept_cell g p0
  replace p1 := kept_cell g p1
  replace p2 := kept_cell g p2
  replace p3 := kept_cell g p3
  replace r0 := kept_cell g r0
  replace r1 := kept_cell g r1
  replace HT := Lib.hid (HT.out.on g)
  replace HM := Lib.hid (HM.out.on g)
  replace HB := Lib.hid (HB.out.on g)
  replace bb := bb.trans (g.mono bb.size)
  clear g
  cases q
  case true =>
    clear HQ
    go_wp2_with fail
    refine (wakes_any _ HM.out).mono ?_
    rintro e w9 ⟨rfl, g⟩
    replace bb := bb.trans (g.mono bb.size)
    clear g HM
    go_wp2_with fail
    go_ret
    exact ⟨rfl, bb⟩
  have hS := HQ.out rfl
  clear HQ
  by_cases hn2 : 2000 < nb
  case pos =>
    go_wp2_with fail
    refine (wakes_any _ HM.out).mono ?_
    rintro e w9 ⟨rfl, g⟩
    replace bb := bb.trans (g.mono bb.size)
    clear g HM
    go_wp2_with fail
    go_ret
    exact ⟨rfl, bb⟩
  go_wp2_with fail
  obtain ⟨b, hIs, hEnc⟩ := encR_may hMay
  obtain ⟨y, hy, hbX, hbl, hb8, hb5, hXl⟩ := enc_facts hS hIs
  have HEn := Lib.hid (fun V hV hMV => encode_is ⟨cl, a1, n1, c1, bd, a2, n2, c2, hs, a3, n3, c3, br⟩ b b.length hEnc rfl V hV hS hMV)
  simp only [TV.v] at HEn
  have HIs := Lib.hid hIs
  have hc1 : 1 ≤ cl := hMay.c1
  have hn1 : 1 ≤ n2 := by have := hMay.n1; omega
  have HMay := Lib.hid hMay
  clear hIs hEnc hMay
  have hEr := (err_enc HIs.out).1
  have hDt := (err_enc HIs.out).2
  have hLn := enc_len HIs.out
  obtain ⟨cn, rfl⟩ := Int.eq_ofNat_of_zero_le (show 0 ≤ cl by omega)
  have HLt0 : Hid (∀ z ∈ b, z < 256) := Lib.hid (by rw [hbX]; exact seal_lt hXl)
  generalize hnbx : b.length = bn at *
  have HBn := Lib.hid hnbx
  have HTurn := Lib.hid (fun i y hi hy hne => err_turn HIs.out i y hi hy hne)
  have hl0 : lenI (cn : Int) (n2 : Int) (n1 : Int) = bn := by
    have k2 := HMay.out.n2
    have k1 := HMay.out.k1
    have kc := HMay.out.c2
    rw [lenI_nat (by simp only [TV.tb] at kc; omega) (by omega) (by omega), hLn, L2, L1]
    rfl
  have HLen := Lib.hid (length_is (cn : Int) n2 n1 bn hl0)
  have hb11 : 11 ≤ bn := by omega
  have hbb : ((bn : Int) != (bn : Int)) = false := by simp
  rw [if_neg (fun h => by have h1 := h.1; have h2 := h.2.1; have h3 := h.2.2.1; have h4 := h.2.2.2; simp only [TV.tb] at h1; omega)] at hEr
  have HEr := Lib.hid hEr
  have HDt := Lib.hid hDt
  have HSs := Lib.hid hS
  clear hbX hXl hy hbl hb8 hnbx hEr hDt hLn hl0 hS
  refine (HEn.out _ HT.out HM.out).mono ?_
  rintro e w2 ⟨A2, cc2, rfl, r2, s2, g⟩
  clear HEn
  replace p0 := kept_cell g p0
  replace p1 := kept_cell g p1
  replace p2 := kept_cell g p2
  replace p3 := kept_cell g p3
  replace r0 := kept_cell g r0
  replace r1 := kept_cell g r1
  replace HT := Lib.hid (HT.out.on g)
  replace HM := Lib.hid (HM.out.on g)
  replace HB := Lib.hid (HB.out.on g)
  replace bb := bb.trans (g.mono bb.size)
  clear g
  have HR := Lib.hid r2
  have HSp := Lib.hid s2
  clear r2 s2
  go_wp2_with fail
  refine (HLen.out _).mono ?_
  rintro e w3 ⟨rfl, g⟩
  clear HLen
  replace p0 := kept_cell g p0
  replace p1 := kept_cell g p1
  replace p2 := kept_cell g p2
  replace p3 := kept_cell g p3
  replace r0 := kept_cell g r0
  replace r1 := kept_cell g r1
  replace HT := Lib.hid (HT.out.on g)
  replace HM := Lib.hid (HM.out.on g)
  replace HB := Lib.hid (HB.out.on g)
  replace HR := Lib.hid (HR.out.on g)
  replace bb := bb.trans (g.mono bb.size)
  clear g
  go_wp2_with fail
  have HD := Lib.hid (decode_is b 24 zeroT (by rw [HEr.out]; rfl) (decR_no (by rw [HEr.out]; decide)) bn A2 cc2 w3 HR.out HSp.out (by omega) HM.out)
  refine HD.out.mono ?_
  rintro e w4 ⟨⟨k4, va4, vn4, vc4, vb4, na4, nn4, nc4, nh4, ba4, bn4, bc4, bb4⟩, rfl, ok4, tb4, g⟩
  clear HD
  simp only [TV.v]
  replace p0 := kept_cell g p0
  replace p1 := kept_cell g p1
  replace p2 := kept_cell g p2
  replace p3 := kept_cell g p3
  replace r0 := kept_cell g r0
  replace r1 := kept_cell g r1
  replace HT := Lib.hid (HT.out.on g)
  replace HM := Lib.hid (HM.out.on g)
  replace HB := Lib.hid (HB.out.on g)
  replace HR := Lib.hid (HR.out.on g)
  replace bb := bb.trans (g.mono bb.size)
  clear g
  clear ok4 tb4
  have g := below_new w4 (.cells #[.int .i64 k4, .slice va4 vn4 vc4, .slice na4 nn4 nc4, .slice ba4 bn4 bc4] 26)
  replace p0 := kept_cell g p0
  replace p1 := kept_cell g p1
  replace p2 := kept_cell g p2
  replace p3 := kept_cell g p3
  replace r0 := kept_cell g r0
  replace r1 := kept_cell g r1
  replace HT := Lib.hid (HT.out.on g)
  replace HM := Lib.hid (HM.out.on g)
  replace HB := Lib.hid (HB.out.on g)
  replace HR := Lib.hid (HR.out.on g)
  replace bb := bb.trans (g.mono bb.size)
  clear g
  go_upto_region 11 with (fail)
  generalize (w4.alloc (.cells #[.int .i64 k4, .slice va4 vn4 vc4, .slice na4 nn4 nc4, .slice ba4 bn4 bc4] 26)) = w5 at *
  clear HT
  have HMc := HM
  have HBc := HB
  have bbc := bb
  have HOm := Lib.hid (World.ownsRow_made (e := 5) (size := 1) w5 #[] 0 (Nat.le_refl _) (Nat.zero_le _) (by simp))
  have HRd := Lib.hid (HR.out.2.1.alloc (Nat.le_refl _) (.cells #[] 5))
  have HOne := Lib.hid (ycells_one (b))
  have HNil : Hid (A2 = none → cc2 = 0) := Lib.hid HSp.out.1
  have HLt := Lib.hid HR.out.2.2
  go_wp2_with (at_builtin; refine wpList_append_src rfl _ _ 27 rfl w5.heap.size 5 i0 _ 1 1 Tryd.underlying27 hi0 hz0 hz1 hz2 rfl (by decide) _ _ _ rfl HOm.out (A2) (bn) (cc2) w5.heap.size (ycells (b)) rfl HNil.out HRd.out HOne.out ?c3 ?c4 ?c5 ?_)
  case c3 => unfold maxLen; omega
  case c4 => omega
  try (case c5 => simp)
  intro A7 d7 w7 hown hnil hgrow
  have g : Below w5.heap.size w5 w7 := below_grown (below_new _ _) (by simp) HOm.out hgrow
  have HO7 : Hid (w7.ownsRow w5.heap.size 5 1 (.slice A7 (bn) d7) (bn) (ycells (b))) := Lib.hid (by simpa using hown)
  try simp only [Nat.zero_add]
  have gs := g
  clear hown hgrow hnil HOm HRd HOne HNil
  replace p0 := kept_cell g p0
  replace p1 := kept_cell g p1
  replace p2 := kept_cell g p2
  replace p3 := kept_cell g p3
  replace r0 := kept_cell g r0
  replace r1 := kept_cell g r1
  replace HM := Lib.hid (HM.out.on g)
  replace HB := Lib.hid (HB.out.on g)
  replace HR := Lib.hid (HR.out.on g)
  replace bb := bb.trans (g.mono bb.size)
  clear g
  have HR7 := Lib.hid (own_RB HO7.out HLt.out)
  have HS7 := Lib.hid (own_shp HO7.out)
  clear HLt
  obtain ⟨gg, cap, hv, _, hlt7⟩ := HO7.out.form (by omega)
  obtain ⟨rfl, rfl⟩ : A7 = some ⟨gg, 0, none⟩ ∧ d7 = cap := by injection hv with h1 h2 h3; exact ⟨h1, h3⟩
  clear hv HR7 HS7 HR HSp
  obtain ⟨k, hk⟩ : ∃ k, x0 % bn = k := ⟨_, rfl⟩
  have hkb : k < bn := by rw [← hk]; exact Nat.mod_lt _ (by omega)
  obtain ⟨r, hr⟩ : ∃ r, x1 % 255 = r := ⟨_, rfl⟩
  have hr255 : r < 255 := by omega
  obtain ⟨v, hv⟩ : ∃ v, 1 + r = v := ⟨_, rfl⟩
  have kl : k < b.length := by rw [HBn.out]; exact hkb
  have q0 := own_byteC HO7.out kl
  have f0 := HO7.out.frozenAt k
  have HSt : Hid (∀ y : Nat, (w7.setCell ⟨gg, k, none⟩ (.int .u8 (y : Int))).ownsRow w5.heap.size 5 1 (.slice (some ⟨gg, 0, none⟩) bn d7) bn (ycells (b.set k y))) := Lib.hid (fun y => by
    have h := (HO7.out.stored k (.int .u8 (y : Int))).1
    rwa [ycells_set] at h)
  have hbk := HLt0.out b[k] (List.getElem_mem kl)
  have HTn := HTurn.out k (b[k] ^^^ v) kl (xor_byte hbk (by omega)) (xor_ne (by omega))
  have HYl : Hid (∀ x ∈ b.set k (b[k] ^^^ v), x < 256) := Lib.hid (set_lt HLt0.out _ _ (xor_byte hbk (by omega)))
  generalize b[k] = bk at *
  have i1 : (x0 : Int) % (bn : Int) = (k : Int) := by omega
  have i2 : Int.tmod (x0 : Int) (bn : Int) = (k : Int) := by rw [Int.tmod_eq_emod_of_nonneg (by omega)]; exact i1
  have i3 : IntKind.i64.wrap (k : Int) = (k : Int) := by rw [IntKind.wrap_i64]; omega
  have i4 : (0 : Int) ≤ (k : Int) := by omega
  have i5 : (k : Int) < (bn : Int) := by omega
  have i6 : ¬ bn = 0 := by omega
  have i7 : (x1 : Int) % 255 = (r : Int) := by omega
  have i8 : Int.tmod (x1 : Int) 255 = (r : Int) := by rw [Int.tmod_eq_emod_of_nonneg (by omega)]; exact i7
  have i9 : IntKind.u16.wrap (r : Int) = (r : Int) := by simp [IntKind.wrap, IntKind.bits, IntKind.signed]; omega
  have i10 : IntKind.u8.wrap (r : Int) = (r : Int) := by simp [IntKind.wrap, IntKind.bits, IntKind.signed]; omega
  have i11 : IntKind.u8.wrap (1 + (r : Int)) = (v : Int) := by simp [IntKind.wrap, IntKind.bits, IntKind.signed]; omega
  have i12 : (1 : Int) + (r : Int) = (v : Int) := by omega
  have i13 : IntKind.u8.wrap (v : Int) = (v : Int) := by simp [IntKind.wrap, IntKind.bits, IntKind.signed]; omega
  have HXor := Lib.hid (xor_u8 bk v hbk (by omega))
  clear hk hr hv kl HTurn HLt0
  go_wp2_with fail
  go_region
  have HO8 : Hid ((w7.setCell ⟨gg, k, none⟩ (.int .u8 (bits .xor .u8 (bk : Int) (v : Int)))).drew.ownsRow w5.heap.size 5 1 (.slice (some ⟨gg, 0, none⟩) bn d7) bn (ycells (b.set k (bk ^^^ v)))) := Lib.hid (by
    rw [HXor.out]; exact (HSt.out (bk ^^^ v)).drew)
  have g8 : Below w5.heap.size w5 (w7.setCell ⟨gg, k, none⟩ (.int .u8 (bits .xor .u8 (bk : Int) (v : Int)))).drew := Below.drew (gs.setCell (p := ⟨gg, k, none⟩) (HO7.out.lt gg rfl).1 _)
  clear HM HB bb
  have HM := Lib.hid (HMc.out.on g8)
  have HB := Lib.hid (HBc.out.on g8)
  have bb := bbc.trans (g8.mono bbc.size)
  generalize (w7.setCell ⟨gg, k, none⟩ (.int .u8 (bits .xor .u8 (bk : Int) (v : Int)))).drew = w8 at *
  clear g8 gs HMc HBc bbc HXor HSt HO7 q0 f0 r0 r1 p0 p1 p2 p3
  have HR8 := Lib.hid (own_RB HO8.out HYl.out)
  have HS8 := Lib.hid (own_shp HO8.out)
  clear HO8 i1 i2 i3 i4 i5 i6 i7 i8 i9 i10 i11 i12 i13 HYl
  generalize b.set k (bk ^^^ v) = ys at *
  rcases HTn with hT8 | hT8
  · skip
    have HD := Lib.hid (decode_is ys 22 zeroT (by rw [hT8]; rfl) (decR_no (by rw [hT8]; decide)) bn _ _ w8 HR8.out HS8.out (by omega) HM.out)
    clear hT8 HR8 HS8
    go_wp2_with fail
    refine HD.out.mono ?_
    rintro e w9 ⟨⟨k6, va6, vn6, vc6, vb6, na6, nn6, nc6, nh6, ba6, bn6, bc6, bb6⟩, rfl, _, _, g⟩
    clear HD
    simp only [TV.v]
    replace HM := Lib.hid (HM.out.on g)
    replace HB := Lib.hid (HB.out.on g)
    replace bb := bb.trans (g.mono bb.size)
    clear g
    have g := below_new w9 (.cells #[.int .i64 k6, .slice va6 vn6 vc6, .slice na6 nn6 nc6, .slice ba6 bn6 bc6] 26)
    replace HM := Lib.hid (HM.out.on g)
    replace HB := Lib.hid (HB.out.on g)
    replace bb := bb.trans (g.mono bb.size)
    clear g
    go_wp2_with fail
    generalize (w9.alloc (.cells #[.int .i64 k6, .slice va6 vn6 vc6, .slice na6 nn6 nc6, .slice ba6 bn6 bc6] 26)) = w10 at *
    cases hE : errT l with
    | zero =>
      obtain ⟨hIl, hSl⟩ := dec_small HBl.out hE
      have HD := Lib.hid (decode_is l 0 (decT l) (by rw [hE]; rfl) (decR_yes hE) nb Ab cb w10 HB.out HBs.out (by omega) HM.out)
      have HIl := Lib.hid hIl
      have HSl := Lib.hid hSl
      clear hE hIl hSl
      refine HD.out.mono ?_
      rintro e w20 ⟨⟨k5, va5, vn5, vc5, vb5, na5, nn5, nc5, nh5, ba5, bn5, bc5, bb5⟩, rfl, ok5, tb5, g⟩
      clear HD
      simp only [TV.v]
      replace HM := Lib.hid (HM.out.on g)
      replace HB := Lib.hid (HB.out.on g)
      replace bb := bb.trans (g.mono bb.size)
      clear g
      have HV := Lib.hid ok5
      have HVt := Lib.hid tb5
      clear ok5 tb5
      have g := below_new w20 (.cells #[.int .i64 k5, .slice va5 vn5 vc5, .slice na5 nn5 nc5, .slice ba5 bn5 bc5] 26)
      replace HM := Lib.hid (HM.out.on g)
      replace HB := Lib.hid (HB.out.on g)
      replace HV := Lib.hid (HV.out.on g)
      replace bb := bb.trans (g.mono bb.size)
      clear g
      have HEn : Hid (Calls Tryd.prog 12 #[.agg #[.int .i64 k5, .slice va5 vn5 vc5, .slice na5 nn5 nc5, .slice ba5 bn5 bc5]] (w20.alloc (.cells #[.int .i64 k5, .slice va5 vn5 vc5, .slice na5 nn5 nc5, .slice ba5 bn5 bc5] 26)) fun e w' => ∃ (A : Option Addr) (c : Nat), e = .returned (.tuple #[.slice A nb c, .bool true]) ∧ RB w' w'.heap.size A nb l ∧ Shp A nb c ∧ Below (w20.alloc (.cells #[.int .i64 k5, .slice va5 vn5 vc5, .slice na5 nn5 nc5, .slice ba5 bn5 bc5] 26)).heap.size (w20.alloc (.cells #[.int .i64 k5, .slice va5 vn5 vc5, .slice na5 nn5 nc5, .slice ba5 bn5 bc5] 26)) w') := Lib.hid (encode_is ⟨k5, va5, vn5, vc5, vb5, na5, nn5, nc5, nh5, ba5, bn5, bc5, bb5⟩ l nb (by rw [HVt.out]; exact encR_yes HIl.out) HB.out.1 _ HV.out (by rw [HVt.out]; exact HSl.out) HM.out)
      go_wp2_with fail
      generalize (w20.alloc (.cells #[.int .i64 k5, .slice va5 vn5 vc5, .slice na5 nn5 nc5, .slice ba5 bn5 bc5] 26)) = w21 at *
      refine HEn.out.mono ?_
      rintro e w22 ⟨A6, c6, rfl, r6, s6, g⟩
      clear HEn HV
      replace HM := Lib.hid (HM.out.on g)
      replace HB := Lib.hid (HB.out.on g)
      replace bb := bb.trans (g.mono bb.size)
      clear g
      have HKb := Lib.hid (keepBytes_yes l l rfl nb nb A6 Ab c6 cb w22 r6 HB.out)
      clear r6 s6
      go_wp2_with fail
      refine HKb.out.mono ?_
      rintro e w23 ⟨rfl, g⟩
      clear HKb
      replace HM := Lib.hid (HM.out.on g)
      replace HB := Lib.hid (HB.out.on g)
      replace bb := bb.trans (g.mono bb.size)
      clear g
      go_wp2_with fail
      refine (wakes_any _ HM.out).mono ?_
      rintro e w9 ⟨rfl, g⟩
      replace bb := bb.trans (g.mono bb.size)
      clear g HM
      go_wp2_with fail
      go_ret
      exact ⟨rfl, bb⟩
    | succ er =>
      have HD := Lib.hid (decode_is l ((er + 1 : Nat) : Int) zeroT (by rw [hE]) (decR_no (by rw [hE]; omega)) nb Ab cb w10 HB.out HBs.out (by omega) HM.out)
      clear hE
      refine HD.out.mono ?_
      rintro e w20 ⟨⟨k5, va5, vn5, vc5, vb5, na5, nn5, nc5, nh5, ba5, bn5, bc5, bb5⟩, rfl, ok5, tb5, g⟩
      clear HD
      obtain ⟨z1, z2⟩ := zeroT_parts tb5 ok5
      simp only [] at z1 z2
      subst z1 z2
      clear ok5 tb5
      simp only [TV.v]
      replace HM := Lib.hid (HM.out.on g)
      replace HB := Lib.hid (HB.out.on g)
      replace bb := bb.trans (g.mono bb.size)
      clear g
      have hne : (((er + 1 : Nat) : Int) != 0) = true := by rw [bne_iff_ne]; omega
      have hne2 : ((er : Int) + 1 != 0) = true := by rw [bne_iff_ne]; omega
      have g := below_new w20 (.cells #[.int .i64 0, .slice va5 vn5 vc5, .slice na5 0 nc5, .slice ba5 bn5 bc5] 26)
      replace HM := Lib.hid (HM.out.on g)
      replace HB := Lib.hid (HB.out.on g)
      replace bb := bb.trans (g.mono bb.size)
      clear g
      go_wp2_with fail
      refine (wakes_any _ HM.out).mono ?_
      rintro e w9 ⟨rfl, g⟩
      replace bb := bb.trans (g.mono bb.size)
      clear g HM
      go_wp2_with fail
      go_ret
      exact ⟨rfl, bb⟩
  · skip
    have HD := Lib.hid (decode_is ys 23 zeroT (by rw [hT8]; rfl) (decR_no (by rw [hT8]; decide)) bn _ _ w8 HR8.out HS8.out (by omega) HM.out)
    clear hT8 HR8 HS8
    go_wp2_with fail
    refine HD.out.mono ?_
    rintro e w9 ⟨⟨k6, va6, vn6, vc6, vb6, na6, nn6, nc6, nh6, ba6, bn6, bc6, bb6⟩, rfl, _, _, g⟩
    clear HD
    simp only [TV.v]
    replace HM := Lib.hid (HM.out.on g)
    replace HB := Lib.hid (HB.out.on g)
    replace bb := bb.trans (g.mono bb.size)
    clear g
    have g := below_new w9 (.cells #[.int .i64 k6, .slice va6 vn6 vc6, .slice na6 nn6 nc6, .slice ba6 bn6 bc6] 26)
    replace HM := Lib.hid (HM.out.on g)
    replace HB := Lib.hid (HB.out.on g)
    replace bb := bb.trans (g.mono bb.size)
    clear g
    go_wp2_with fail
    generalize (w9.alloc (.cells #[.int .i64 k6, .slice va6 vn6 vc6, .slice na6 nn6 nc6, .slice ba6 bn6 bc6] 26)) = w10 at *
    cases hE : errT l with
    | zero =>
      obtain ⟨hIl, hSl⟩ := dec_small HBl.out hE
      have HD := Lib.hid (decode_is l 0 (decT l) (by rw [hE]; rfl) (decR_yes hE) nb Ab cb w10 HB.out HBs.out (by omega) HM.out)
      have HIl := Lib.hid hIl
      have HSl := Lib.hid hSl
      clear hE hIl hSl
      refine HD.out.mono ?_
      rintro e w20 ⟨⟨k5, va5, vn5, vc5, vb5, na5, nn5, nc5, nh5, ba5, bn5, bc5, bb5⟩, rfl, ok5, tb5, g⟩
      clear HD
      simp only [TV.v]
      replace HM := Lib.hid (HM.out.on g)
      replace HB := Lib.hid (HB.out.on g)
      replace bb := bb.trans (g.mono bb.size)
      clear g
      have HV := Lib.hid ok5
      have HVt := Lib.hid tb5
      clear ok5 tb5
      have g := below_new w20 (.cells #[.int .i64 k5, .slice va5 vn5 vc5, .slice na5 nn5 nc5, .slice ba5 bn5 bc5] 26)
      replace HM := Lib.hid (HM.out.on g)
      replace HB := Lib.hid (HB.out.on g)
      replace HV := Lib.hid (HV.out.on g)
      replace bb := bb.trans (g.mono bb.size)
      clear g
      have HEn : Hid (Calls Tryd.prog 12 #[.agg #[.int .i64 k5, .slice va5 vn5 vc5, .slice na5 nn5 nc5, .slice ba5 bn5 bc5]] (w20.alloc (.cells #[.int .i64 k5, .slice va5 vn5 vc5, .slice na5 nn5 nc5, .slice ba5 bn5 bc5] 26)) fun e w' => ∃ (A : Option Addr) (c : Nat), e = .returned (.tuple #[.slice A nb c, .bool true]) ∧ RB w' w'.heap.size A nb l ∧ Shp A nb c ∧ Below (w20.alloc (.cells #[.int .i64 k5, .slice va5 vn5 vc5, .slice na5 nn5 nc5, .slice ba5 bn5 bc5] 26)).heap.size (w20.alloc (.cells #[.int .i64 k5, .slice va5 vn5 vc5, .slice na5 nn5 nc5, .slice ba5 bn5 bc5] 26)) w') := Lib.hid (encode_is ⟨k5, va5, vn5, vc5, vb5, na5, nn5, nc5, nh5, ba5, bn5, bc5, bb5⟩ l nb (by rw [HVt.out]; exact encR_yes HIl.out) HB.out.1 _ HV.out (by rw [HVt.out]; exact HSl.out) HM.out)
      go_wp2_with fail
      generalize (w20.alloc (.cells #[.int .i64 k5, .slice va5 vn5 vc5, .slice na5 nn5 nc5, .slice ba5 bn5 bc5] 26)) = w21 at *
      refine HEn.out.mono ?_
      rintro e w22 ⟨A6, c6, rfl, r6, s6, g⟩
      clear HEn HV
      replace HM := Lib.hid (HM.out.on g)
      replace HB := Lib.hid (HB.out.on g)
      replace bb := bb.trans (g.mono bb.size)
      clear g
      have HKb := Lib.hid (keepBytes_yes l l rfl nb nb A6 Ab c6 cb w22 r6 HB.out)
      clear r6 s6
      go_wp2_with fail
      refine HKb.out.mono ?_
      rintro e w23 ⟨rfl, g⟩
      clear HKb
      replace HM := Lib.hid (HM.out.on g)
      replace HB := Lib.hid (HB.out.on g)
      replace bb := bb.trans (g.mono bb.size)
      clear g
      go_wp2_with fail
      refine (wakes_any _ HM.out).mono ?_
      rintro e w9 ⟨rfl, g⟩
      replace bb := bb.trans (g.mono bb.size)
      clear g HM
      go_wp2_with fail
      go_ret
      exact ⟨rfl, bb⟩
    | succ er =>
      have HD := Lib.hid (decode_is l ((er + 1 : Nat) : Int) zeroT (by rw [hE]) (decR_no (by rw [hE]; omega)) nb Ab cb w10 HB.out HBs.out (by omega) HM.out)
      clear hE
      refine HD.out.mono ?_
      rintro e w20 ⟨⟨k5, va5, vn5, vc5, vb5, na5, nn5, nc5, nh5, ba5, bn5, bc5, bb5⟩, rfl, ok5, tb5, g⟩
      clear HD
      obtain ⟨z1, z2⟩ := zeroT_parts tb5 ok5
      simp only [] at z1 z2
      subst z1 z2
      clear ok5 tb5
      simp only [TV.v]
      replace HM := Lib.hid (HM.out.on g)
      replace HB := Lib.hid (HB.out.on g)
      replace bb := bb.trans (g.mono bb.size)
      clear g
      have hne : (((er + 1 : Nat) : Int) != 0) = true := by rw [bne_iff_ne]; omega
      have hne2 : ((er : Int) + 1 != 0) = true := by rw [bne_iff_ne]; omega
      have g := below_new w20 (.cells #[.int .i64 0, .slice va5 vn5 vc5, .slice na5 0 nc5, .slice ba5 bn5 bc5] 26)
      replace HM := Lib.hid (HM.out.on g)
      replace HB := Lib.hid (HB.out.on g)
      replace bb := bb.trans (g.mono bb.size)
      clear g
      go_wp2_with fail
      refine (wakes_any _ HM.out).mono ?_
      rintro e w9 ⟨rfl, g⟩
      replace bb := bb.trans (g.mono bb.size)
      clear g HM
      go_wp2_with fail
      go_ret
      exact ⟨rfl, bb⟩
set_option maxRecDepth 8000 in
set_option maxHeartbeats 4000000 in
theorem walk_g3 (T : TV) (l : List Nat) (nb : Nat) (Ab : Option Addr) (cb : Nat) (x0 x1 : Nat) (W : World) (hT : T.ok W) (hM : Mark W) (hB : RB W W.heap.size Ab nb l) (hBs : Shp Ab nb cb) (hx0 : x0 < 65536) (hx1 : x1 < 65536) (hMay : MayT T.tb) (g1 : T.cl ≤ 8) (g2 : T.n2 ≤ 5) (g3 : T.n1 < 1) :
    Calls Tryd.prog 4 #[T.v, .slice Ab nb cb, .agg #[.int .u16 (x0 : Int), .int .u16 (x1 : Int)]] W fun e W' => e = .returned (.bool true) ∧ Below W.heap.size W W' := by
  obtain ⟨i0, hi0, hz0, hz1, hz2⟩ := info_parts info5
  have HLg := Lib.hid (fun V (g : Below W.heap.size W V) => large_any T V (hT.on g))
  obtain ⟨L2, L1, L3⟩ := tb_len T hT
  obtain ⟨cl, a1, n1, c1, bd, a2, n2, c2, hs, a3, n3, c3, br⟩ := T
  simp only [TV.v] at *
  try simp only [] at L1 L2 L3
  have HT := Lib.hid hT
  have HM := Lib.hid hM
  have HB := Lib.hid hB
  have HBs := Lib.hid hBs
  have HBl := Lib.hid hB.2.2
  have hnb63 : nb ≤ 9223372036854775807 := by have := hBs.2; unfold maxLen at this; omega
  clear hB hBs
  clear hT hM
  go_enter Tryd.func4, Tryd.ntmps4
  go_wp2_with fail
  have p0 : ((W.alloc (.cells #[.int .i64 cl, .slice a1 n1 c1, .slice a2 n2 c2, .slice a3 n3 c3] 26)).alloc (.cells #[.int .u16 (x0 : Int), .int .u16 (x1 : Int)] 44)).cell? ⟨W.heap.size, 0, none⟩ = some (.int .i64 cl) := by simp
  have p1 : ((W.alloc (.cells #[.int .i64 cl, .slice a1 n1 c1, .slice a2 n2 c2, .slice a3 n3 c3] 26)).alloc (.cells #[.int .u16 (x0 : Int), .int .u16 (x1 : Int)] 44)).cell? ⟨W.heap.size, 1, none⟩ = some (.slice a1 n1 c1) := by simp
  have p2 : ((W.alloc (.cells #[.int .i64 cl, .slice a1 n1 c1, .slice a2 n2 c2, .slice a3 n3 c3] 26)).alloc (.cells #[.int .u16 (x0 : Int), .int .u16 (x1 : Int)] 44)).cell? ⟨W.heap.size, 2, none⟩ = some (.slice a2 n2 c2) := by simp
  have p3 : ((W.alloc (.cells #[.int .i64 cl, .slice a1 n1 c1, .slice a2 n2 c2, .slice a3 n3 c3] 26)).alloc (.cells #[.int .u16 (x0 : Int), .int .u16 (x1 : Int)] 44)).cell? ⟨W.heap.size, 3, none⟩ = some (.slice a3 n3 c3) := by simp
  have r0 : ((W.alloc (.cells #[.int .i64 cl, .slice a1 n1 c1, .slice a2 n2 c2, .slice a3 n3 c3] 26)).alloc (.cells #[.int .u16 (x0 : Int), .int .u16 (x1 : Int)] 44)).cell? ⟨W.heap.size + 1, 0, none⟩ = some (.int .u16 (x0 : Int)) := by simp
  have r1 : ((W.alloc (.cells #[.int .i64 cl, .slice a1 n1 c1, .slice a2 n2 c2, .slice a3 n3 c3] 26)).alloc (.cells #[.int .u16 (x0 : Int), .int .u16 (x1 : Int)] 44)).cell? ⟨W.heap.size + 1, 1, none⟩ = some (.int .u16 (x1 : Int)) := by simp
  have bb : Below W.heap.size W ((W.alloc (.cells #[.int .i64 cl, .slice a1 n1 c1, .slice a2 n2 c2, .slice a3 n3 c3] 26)).alloc (.cells #[.int .u16 (x0 : Int), .int .u16 (x1 : Int)] 44)) := (below_new _ _).trans ((below_new _ _).mono (by simp))
  replace HT := Lib.hid (HT.out.on bb)
  replace HM := Lib.hid (HM.out.on bb)
  replace HB := Lib.hid (HB.out.on bb)
  generalize ((W.alloc (.cells #[.int .i64 cl, .slice a1 n1 c1, .slice a2 n2 c2, .slice a3 n3 c3] 26)).alloc (.cells #[.int .u16 (x0 : Int), .int .u16 (x1 : Int)] 44)) = W0 at *
  refine (HLg.out _ bb).mono ?_
  rintro e w1 ⟨q, rfl, g, hq⟩
  have HQ := Lib.hid hq
  clear hq HLg
  replace p0 := kept_cell g p0
  replace p1 := kept_cell g p1
  replace p2 := kept_cell g p2
  replace p3 := kept_cell g p3
  replace r0 := kept_cell g r0
  replace r1 := kept_cell g r1
  replace HT := Lib.hid (HT.out.on g)
  replace HM := Lib.hid (HM.out.on g)
  replace HB := Lib.hid (HB.out.on g)
  replace bb := bb.trans (g.mono bb.size)
  clear g
  cases q
  case true =>
    clear HQ
    go_wp2_with fail
    refine (wakes_any _ HM.out).mono ?_
    rintro e w9 ⟨rfl, g⟩
    replace bb := bb.trans (g.mono bb.size)
    clear g HM
    go_wp2_with fail
    go_ret
    exact ⟨rfl, bb⟩
  have hS := HQ.out rfl
  clear HQ
  by_cases hn2 : 2000 < nb
  case pos =>
    go_wp2_with fail
    refine (wakes_any _ HM.out).mono ?_
    rintro e w9 ⟨rfl, g⟩
    replace bb := bb.trans (g.mono bb.size)
    clear g HM
    go_wp2_with fail
    go_ret
    exact ⟨rfl, bb⟩
  go_wp2_with fail
  obtain ⟨b, hIs, hEnc⟩ := encR_may hMay
  obtain ⟨y, hy, hbX, hbl, hb8, hb5, hXl⟩ := enc_facts hS hIs
  have HEn := Lib.hid (fun V hV hMV => encode_is ⟨cl, a1, n1, c1, bd, a2, n2, c2, hs, a3, n3, c3, br⟩ b b.length hEnc rfl V hV hS hMV)
  simp only [TV.v] at HEn
  have HIs := Lib.hid hIs
  have hc1 : 1 ≤ cl := hMay.c1
  have hn1 : 1 ≤ n2 := by have := hMay.n1; omega
  have HMay := Lib.hid hMay
  clear hIs hEnc hMay
  have hEr := (err_enc HIs.out).1
  have hDt := (err_enc HIs.out).2
  have hLn := enc_len HIs.out
  obtain ⟨cn, rfl⟩ := Int.eq_ofNat_of_zero_le (show 0 ≤ cl by omega)
  have HLt0 : Hid (∀ z ∈ b, z < 256) := Lib.hid (by rw [hbX]; exact seal_lt hXl)
  generalize hnbx : b.length = bn at *
  have HBn := Lib.hid hnbx
  have HTurn := Lib.hid (fun i y hi hy hne => err_turn HIs.out i y hi hy hne)
  have hl0 : lenI (cn : Int) (n2 : Int) (n1 : Int) = bn := by
    have k2 := HMay.out.n2
    have k1 := HMay.out.k1
    have kc := HMay.out.c2
    rw [lenI_nat (by simp only [TV.tb] at kc; omega) (by omega) (by omega), hLn, L2, L1]
    rfl
  have HLen := Lib.hid (length_is (cn : Int) n2 n1 bn hl0)
  have hb11 : 11 ≤ bn := by omega
  have hbb : ((bn : Int) != (bn : Int)) = false := by simp
  rw [if_neg (fun h => by have h1 := h.1; have h2 := h.2.1; have h3 := h.2.2.1; have h4 := h.2.2.2; simp only [TV.tb] at h1; omega)] at hEr
  have HEr := Lib.hid hEr
  have HDt := Lib.hid hDt
  have HSs := Lib.hid hS
  clear hbX hXl hy hbl hb8 hnbx hEr hDt hLn hl0 hS
  refine (HEn.out _ HT.out HM.out).mono ?_
  rintro e w2 ⟨A2, cc2, rfl, r2, s2, g⟩
  clear HEn
  replace p0 := kept_cell g p0
  replace p1 := kept_cell g p1
  replace p2 := kept_cell g p2
  replace p3 := kept_cell g p3
  replace r0 := kept_cell g r0
  replace r1 := kept_cell g r1
  replace HT := Lib.hid (HT.out.on g)
  replace HM := Lib.hid (HM.out.on g)
  replace HB := Lib.hid (HB.out.on g)
  replace bb := bb.trans (g.mono bb.size)
  clear g
  have HR := Lib.hid r2
  have HSp := Lib.hid s2
  clear r2 s2
  go_wp2_with fail
  refine (HLen.out _).mono ?_
  rintro e w3 ⟨rfl, g⟩
  clear HLen
  replace p0 := kept_cell g p0
  replace p1 := kept_cell g p1
  replace p2 := kept_cell g p2
  replace p3 := kept_cell g p3
  replace r0 := kept_cell g r0
  replace r1 := kept_cell g r1
  replace HT := Lib.hid (HT.out.on g)
  replace HM := Lib.hid (HM.out.on g)
  replace HB := Lib.hid (HB.out.on g)
  replace HR := Lib.hid (HR.out.on g)
  replace bb := bb.trans (g.mono bb.size)
  clear g
  go_wp2_with fail
  have HD := Lib.hid (decode_is b 24 zeroT (by rw [HEr.out]; rfl) (decR_no (by rw [HEr.out]; decide)) bn A2 cc2 w3 HR.out HSp.out (by omega) HM.out)
  refine HD.out.mono ?_
  rintro e w4 ⟨⟨k4, va4, vn4, vc4, vb4, na4, nn4, nc4, nh4, ba4, bn4, bc4, bb4⟩, rfl, ok4, tb4, g⟩
  clear HD
  simp only [TV.v]
  replace p0 := kept_cell g p0
  replace p1 := kept_cell g p1
  replace p2 := kept_cell g p2
  replace p3 := kept_cell g p3
  replace r0 := kept_cell g r0
  replace r1 := kept_cell g r1
  replace HT := Lib.hid (HT.out.on g)
  replace HM := Lib.hid (HM.out.on g)
  replace HB := Lib.hid (HB.out.on g)
  replace HR := Lib.hid (HR.out.on g)
  replace bb := bb.trans (g.mono bb.size)
  clear g
  clear ok4 tb4
  have g := below_new w4 (.cells #[.int .i64 k4, .slice va4 vn4 vc4, .slice na4 nn4 nc4, .slice ba4 bn4 bc4] 26)
  replace p0 := kept_cell g p0
  replace p1 := kept_cell g p1
  replace p2 := kept_cell g p2
  replace p3 := kept_cell g p3
  replace r0 := kept_cell g r0
  replace r1 := kept_cell g r1
  replace HT := Lib.hid (HT.out.on g)
  replace HM := Lib.hid (HM.out.on g)
  replace HB := Lib.hid (HB.out.on g)
  replace HR := Lib.hid (HR.out.on g)
  replace bb := bb.trans (g.mono bb.size)
  clear g
  go_upto_region 11 with (fail)
  generalize (w4.alloc (.cells #[.int .i64 k4, .slice va4 vn4 vc4, .slice na4 nn4 nc4, .slice ba4 bn4 bc4] 26)) = w5 at *
  clear HT
  have HMc := HM
  have HBc := HB
  have bbc := bb
  have HOm := Lib.hid (World.ownsRow_made (e := 5) (size := 1) w5 #[] 0 (Nat.le_refl _) (Nat.zero_le _) (by simp))
  have HRd := Lib.hid (HR.out.2.1.alloc (Nat.le_refl _) (.cells #[] 5))
  have HOne := Lib.hid (ycells_one (b))
  have HNil : Hid (A2 = none → cc2 = 0) := Lib.hid HSp.out.1
  have HLt := Lib.hid HR.out.2.2
  go_wp2_with (at_builtin; refine wpList_append_src rfl _ _ 27 rfl w5.heap.size 5 i0 _ 1 1 Tryd.underlying27 hi0 hz0 hz1 hz2 rfl (by decide) _ _ _ rfl HOm.out (A2) (bn) (cc2) w5.heap.size (ycells (b)) rfl HNil.out HRd.out HOne.out ?c3 ?c4 ?c5 ?_)
  case c3 => unfold maxLen; omega
  case c4 => omega
  try (case c5 => simp)
  intro A7 d7 w7 hown hnil hgrow
  have g : Below w5.heap.size w5 w7 := below_grown (below_new _ _) (by simp) HOm.out hgrow
  have HO7 : Hid (w7.ownsRow w5.heap.size 5 1 (.slice A7 (bn) d7) (bn) (ycells (b))) := Lib.hid (by simpa using hown)
  try simp only [Nat.zero_add]
  have gs := g
  clear hown hgrow hnil HOm HRd HOne HNil
  replace p0 := kept_cell g p0
  replace p1 := kept_cell g p1
  replace p2 := kept_cell g p2
  replace p3 := kept_cell g p3
  replace r0 := kept_cell g r0
  replace r1 := kept_cell g r1
  replace HM := Lib.hid (HM.out.on g)
  replace HB := Lib.hid (HB.out.on g)
  replace HR := Lib.hid (HR.out.on g)
  replace bb := bb.trans (g.mono bb.size)
  clear g
  have HR7 := Lib.hid (own_RB HO7.out HLt.out)
  have HS7 := Lib.hid (own_shp HO7.out)
  clear HLt
  obtain ⟨gg, cap, hv, _, hlt7⟩ := HO7.out.form (by omega)
  obtain ⟨rfl, rfl⟩ : A7 = some ⟨gg, 0, none⟩ ∧ d7 = cap := by injection hv with h1 h2 h3; exact ⟨h1, h3⟩
  clear hv HR7 HS7 HR HSp
  obtain ⟨k, hk⟩ : ∃ k, x0 % bn = k := ⟨_, rfl⟩
  have hkb : k < bn := by rw [← hk]; exact Nat.mod_lt _ (by omega)
  obtain ⟨r, hr⟩ : ∃ r, x1 % 255 = r := ⟨_, rfl⟩
  have hr255 : r < 255 := by omega
  obtain ⟨v, hv⟩ : ∃ v, 1 + r = v := ⟨_, rfl⟩
  have kl : k < b.length := by rw [HBn.out]; exact hkb
  have q0 := own_byteC HO7.out kl
  have f0 := HO7.out.frozenAt k
  have HSt : Hid (∀ y : Nat, (w7.setCell ⟨gg, k, none⟩ (.int .u8 (y : Int))).ownsRow w5.heap.size 5 1 (.slice (some ⟨gg, 0, none⟩) bn d7) bn (ycells (b.set k y))) := Lib.hid (fun y => by
    have h := (HO7.out.stored k (.int .u8 (y : Int))).1
    rwa [ycells_set] at h)
  have hbk := HLt0.out b[k] (List.getElem_mem kl)
  have HTn := HTurn.out k (b[k] ^^^ v) kl (xor_byte hbk (by omega)) (xor_ne (by omega))
  have HYl : Hid (∀ x ∈ b.set k (b[k] ^^^ v), x < 256) := Lib.hid (set_lt HLt0.out _ _ (xor_byte hbk (by omega)))
  generalize b[k] = bk at *
  have i1 : (x0 : Int) % (bn : Int) = (k : Int) := by omega
  have i2 : Int.tmod (x0 : Int) (bn : Int) = (k : Int) := by rw [Int.tmod_eq_emod_of_nonneg (by omega)]; exact i1
  have i3 : IntKind.i64.wrap (k : Int) = (k : Int) := by rw [IntKind.wrap_i64]; omega
  have i4 : (0 : Int) ≤ (k : Int) := by omega
  have i5 : (k : Int) < (bn : Int) := by omega
  have i6 : ¬ bn = 0 := by omega
  have i7 : (x1 : Int) % 255 = (r : Int) := by omega
  have i8 : Int.tmod (x1 : Int) 255 = (r : Int) := by rw [Int.tmod_eq_emod_of_nonneg (by omega)]; exact i7
  have i9 : IntKind.u16.wrap (r : Int) = (r : Int) := by simp [IntKind.wrap, IntKind.bits, IntKind.signed]; omega
  have i10 : IntKind.u8.wrap (r : Int) = (r : Int) := by simp [IntKind.wrap, IntKind.bits, IntKind.signed]; omega
  have i11 : IntKind.u8.wrap (1 + (r : Int)) = (v : Int) := by simp [IntKind.wrap, IntKind.bits, IntKind.signed]; omega
  have i12 : (1 : Int) + (r : Int) = (v : Int) := by omega
  have i13 : IntKind.u8.wrap (v : Int) = (v : Int) := by simp [IntKind.wrap, IntKind.bits, IntKind.signed]; omega
  have HXor := Lib.hid (xor_u8 bk v hbk (by omega))
  clear hk hr hv kl HTurn HLt0
  go_wp2_with fail
  go_region
  have HO8 : Hid ((w7.setCell ⟨gg, k, none⟩ (.int .u8 (bits .xor .u8 (bk : Int) (v : Int)))).drew.ownsRow w5.heap.size 5 1 (.slice (some ⟨gg, 0, none⟩) bn d7) bn (ycells (b.set k (bk ^^^ v)))) := Lib.hid (by
    rw [HXor.out]; exact (HSt.out (bk ^^^ v)).drew)
  have g8 : Below w5.heap.size w5 (w7.setCell ⟨gg, k, none⟩ (.int .u8 (bits .xor .u8 (bk : Int) (v : Int)))).drew := Below.drew (gs.setCell (p := ⟨gg, k, none⟩) (HO7.out.lt gg rfl).1 _)
  clear HM HB bb
  have HM := Lib.hid (HMc.out.on g8)
  have HB := Lib.hid (HBc.out.on g8)
  have bb := bbc.trans (g8.mono bbc.size)
  generalize (w7.setCell ⟨gg, k, none⟩ (.int .u8 (bits .xor .u8 (bk : Int) (v : Int)))).drew = w8 at *
  clear g8 gs HMc HBc bbc HXor HSt HO7 q0 f0 r0 r1 p0 p1 p2 p3
  have HR8 := Lib.hid (own_RB HO8.out HYl.out)
  have HS8 := Lib.hid (own_shp HO8.out)
  clear HO8 i1 i2 i3 i4 i5 i6 i7 i8 i9 i10 i11 i12 i13 HYl
  generalize b.set k (bk ^^^ v) = ys at *
  rcases HTn with hT8 | hT8
  · skip
    have HD := Lib.hid (decode_is ys 22 zeroT (by rw [hT8]; rfl) (decR_no (by rw [hT8]; decide)) bn _ _ w8 HR8.out HS8.out (by omega) HM.out)
    clear hT8 HR8 HS8
    go_wp2_with fail
    refine HD.out.mono ?_
    rintro e w9 ⟨⟨k6, va6, vn6, vc6, vb6, na6, nn6, nc6, nh6, ba6, bn6, bc6, bb6⟩, rfl, _, _, g⟩
    clear HD
    simp only [TV.v]
    replace HM := Lib.hid (HM.out.on g)
    replace HB := Lib.hid (HB.out.on g)
    replace bb := bb.trans (g.mono bb.size)
    clear g
    have g := below_new w9 (.cells #[.int .i64 k6, .slice va6 vn6 vc6, .slice na6 nn6 nc6, .slice ba6 bn6 bc6] 26)
    replace HM := Lib.hid (HM.out.on g)
    replace HB := Lib.hid (HB.out.on g)
    replace bb := bb.trans (g.mono bb.size)
    clear g
    go_wp2_with fail
    generalize (w9.alloc (.cells #[.int .i64 k6, .slice va6 vn6 vc6, .slice na6 nn6 nc6, .slice ba6 bn6 bc6] 26)) = w10 at *
    cases hE : errT l with
    | zero =>
      obtain ⟨hIl, hSl⟩ := dec_small HBl.out hE
      have HD := Lib.hid (decode_is l 0 (decT l) (by rw [hE]; rfl) (decR_yes hE) nb Ab cb w10 HB.out HBs.out (by omega) HM.out)
      have HIl := Lib.hid hIl
      have HSl := Lib.hid hSl
      clear hE hIl hSl
      refine HD.out.mono ?_
      rintro e w20 ⟨⟨k5, va5, vn5, vc5, vb5, na5, nn5, nc5, nh5, ba5, bn5, bc5, bb5⟩, rfl, ok5, tb5, g⟩
      clear HD
      simp only [TV.v]
      replace HM := Lib.hid (HM.out.on g)
      replace HB := Lib.hid (HB.out.on g)
      replace bb := bb.trans (g.mono bb.size)
      clear g
      have HV := Lib.hid ok5
      have HVt := Lib.hid tb5
      clear ok5 tb5
      have g := below_new w20 (.cells #[.int .i64 k5, .slice va5 vn5 vc5, .slice na5 nn5 nc5, .slice ba5 bn5 bc5] 26)
      replace HM := Lib.hid (HM.out.on g)
      replace HB := Lib.hid (HB.out.on g)
      replace HV := Lib.hid (HV.out.on g)
      replace bb := bb.trans (g.mono bb.size)
      clear g
      have HEn : Hid (Calls Tryd.prog 12 #[.agg #[.int .i64 k5, .slice va5 vn5 vc5, .slice na5 nn5 nc5, .slice ba5 bn5 bc5]] (w20.alloc (.cells #[.int .i64 k5, .slice va5 vn5 vc5, .slice na5 nn5 nc5, .slice ba5 bn5 bc5] 26)) fun e w' => ∃ (A : Option Addr) (c : Nat), e = .returned (.tuple #[.slice A nb c, .bool true]) ∧ RB w' w'.heap.size A nb l ∧ Shp A nb c ∧ Below (w20.alloc (.cells #[.int .i64 k5, .slice va5 vn5 vc5, .slice na5 nn5 nc5, .slice ba5 bn5 bc5] 26)).heap.size (w20.alloc (.cells #[.int .i64 k5, .slice va5 vn5 vc5, .slice na5 nn5 nc5, .slice ba5 bn5 bc5] 26)) w') := Lib.hid (encode_is ⟨k5, va5, vn5, vc5, vb5, na5, nn5, nc5, nh5, ba5, bn5, bc5, bb5⟩ l nb (by rw [HVt.out]; exact encR_yes HIl.out) HB.out.1 _ HV.out (by rw [HVt.out]; exact HSl.out) HM.out)
      go_wp2_with fail
      generalize (w20.alloc (.cells #[.int .i64 k5, .slice va5 vn5 vc5, .slice na5 nn5 nc5, .slice ba5 bn5 bc5] 26)) = w21 at *
      refine HEn.out.mono ?_
      rintro e w22 ⟨A6, c6, rfl, r6, s6, g⟩
      clear HEn HV
      replace HM := Lib.hid (HM.out.on g)
      replace HB := Lib.hid (HB.out.on g)
      replace bb := bb.trans (g.mono bb.size)
      clear g
      have HKb := Lib.hid (keepBytes_yes l l rfl nb nb A6 Ab c6 cb w22 r6 HB.out)
      clear r6 s6
      go_wp2_with fail
      refine HKb.out.mono ?_
      rintro e w23 ⟨rfl, g⟩
      clear HKb
      replace HM := Lib.hid (HM.out.on g)
      replace HB := Lib.hid (HB.out.on g)
      replace bb := bb.trans (g.mono bb.size)
      clear g
      go_wp2_with fail
      refine (wakes_any _ HM.out).mono ?_
      rintro e w9 ⟨rfl, g⟩
      replace bb := bb.trans (g.mono bb.size)
      clear g HM
      go_wp2_with fail
      go_ret
      exact ⟨rfl, bb⟩
    | succ er =>
      have HD := Lib.hid (decode_is l ((er + 1 : Nat) : Int) zeroT (by rw [hE]) (decR_no (by rw [hE]; omega)) nb Ab cb w10 HB.out HBs.out (by omega) HM.out)
      clear hE
      refine HD.out.mono ?_
      rintro e w20 ⟨⟨k5, va5, vn5, vc5, vb5, na5, nn5, nc5, nh5, ba5, bn5, bc5, bb5⟩, rfl, ok5, tb5, g⟩
      clear HD
      obtain ⟨z1, z2⟩ := zeroT_parts tb5 ok5
      simp only [] at z1 z2
      subst z1 z2
      clear ok5 tb5
      simp only [TV.v]
      replace HM := Lib.hid (HM.out.on g)
      replace HB := Lib.hid (HB.out.on g)
      replace bb := bb.trans (g.mono bb.size)
      clear g
      have hne : (((er + 1 : Nat) : Int) != 0) = true := by rw [bne_iff_ne]; omega
      have hne2 : ((er : Int) + 1 != 0) = true := by rw [bne_iff_ne]; omega
      have g := below_new w20 (.cells #[.int .i64 0, .slice va5 vn5 vc5, .slice na5 0 nc5, .slice ba5 bn5 bc5] 26)
      replace HM := Lib.hid (HM.out.on g)
      replace HB := Lib.hid (HB.out.on g)
      replace bb := bb.trans (g.mono bb.size)
      clear g
      go_wp2_with fail
      refine (wakes_any _ HM.out).mono ?_
      rintro e w9 ⟨rfl, g⟩
      replace bb := bb.trans (g.mono bb.size)
      clear g HM
      go_wp2_with fail
      go_ret
      exact ⟨rfl, bb⟩
  · skip
    have HD := Lib.hid (decode_is ys 23 zeroT (by rw [hT8]; rfl) (decR_no (by rw [hT8]; decide)) bn _ _ w8 HR8.out HS8.out (by omega) HM.out)
    clear hT8 HR8 HS8
    go_wp2_with fail
    refine HD.out.mono ?_
    rintro e w9 ⟨⟨k6, va6, vn6, vc6, vb6, na6, nn6, nc6, nh6, ba6, bn6, bc6, bb6⟩, rfl, _, _, g⟩
    clear HD
    simp only [TV.v]
    replace HM := Lib.hid (HM.out.on g)
    replace HB := Lib.hid (HB.out.on g)
    replace bb := bb.trans (g.mono bb.size)
    clear g
    have g := below_new w9 (.cells #[.int .i64 k6, .slice va6 vn6 vc6, .slice na6 nn6 nc6, .slice ba6 bn6 bc6] 26)
    replace HM := Lib.hid (HM.out.on g)
    replace HB := Lib.hid (HB.out.on g)
    replace bb := bb.trans (g.mono bb.size)
    clear g
    go_wp2_with fail
    generalize (w9.alloc (.cells #[.int .i64 k6, .slice va6 vn6 vc6, .slice na6 nn6 nc6, .slice ba6 bn6 bc6] 26)) = w10 at *
    cases hE : errT l with
    | zero =>
      obtain ⟨hIl, hSl⟩ := dec_small HBl.out hE
      have HD := Lib.hid (decode_is l 0 (decT l) (by rw [hE]; rfl) (decR_yes hE) nb Ab cb w10 HB.out HBs.out (by omega) HM.out)
      have HIl := Lib.hid hIl
      have HSl := Lib.hid hSl
      clear hE hIl hSl
      refine HD.out.mono ?_
      rintro e w20 ⟨⟨k5, va5, vn5, vc5, vb5, na5, nn5, nc5, nh5, ba5, bn5, bc5, bb5⟩, rfl, ok5, tb5, g⟩
      clear HD
      simp only [TV.v]
      replace HM := Lib.hid (HM.out.on g)
      replace HB := Lib.hid (HB.out.on g)
      replace bb := bb.trans (g.mono bb.size)
      clear g
      have HV := Lib.hid ok5
      have HVt := Lib.hid tb5
      clear ok5 tb5
      have g := below_new w20 (.cells #[.int .i64 k5, .slice va5 vn5 vc5, .slice na5 nn5 nc5, .slice ba5 bn5 bc5] 26)
      replace HM := Lib.hid (HM.out.on g)
      replace HB := Lib.hid (HB.out.on g)
      replace HV := Lib.hid (HV.out.on g)
      replace bb := bb.trans (g.mono bb.size)
      clear g
      have HEn : Hid (Calls Tryd.prog 12 #[.agg #[.int .i64 k5, .slice va5 vn5 vc5, .slice na5 nn5 nc5, .slice ba5 bn5 bc5]] (w20.alloc (.cells #[.int .i64 k5, .slice va5 vn5 vc5, .slice na5 nn5 nc5, .slice ba5 bn5 bc5] 26)) fun e w' => ∃ (A : Option Addr) (c : Nat), e = .returned (.tuple #[.slice A nb c, .bool true]) ∧ RB w' w'.heap.size A nb l ∧ Shp A nb c ∧ Below (w20.alloc (.cells #[.int .i64 k5, .slice va5 vn5 vc5, .slice na5 nn5 nc5, .slice ba5 bn5 bc5] 26)).heap.size (w20.alloc (.cells #[.int .i64 k5, .slice va5 vn5 vc5, .slice na5 nn5 nc5, .slice ba5 bn5 bc5] 26)) w') := Lib.hid (encode_is ⟨k5, va5, vn5, vc5, vb5, na5, nn5, nc5, nh5, ba5, bn5, bc5, bb5⟩ l nb (by rw [HVt.out]; exact encR_yes HIl.out) HB.out.1 _ HV.out (by rw [HVt.out]; exact HSl.out) HM.out)
      go_wp2_with fail
      generalize (w20.alloc (.cells #[.int .i64 k5, .slice va5 vn5 vc5, .slice na5 nn5 nc5, .slice ba5 bn5 bc5] 26)) = w21 at *
      refine HEn.out.mono ?_
      rintro e w22 ⟨A6, c6, rfl, r6, s6, g⟩
      clear HEn HV
      replace HM := Lib.hid (HM.out.on g)
      replace HB := Lib.hid (HB.out.on g)
      replace bb := bb.trans (g.mono bb.size)
      clear g
      have HKb := Lib.hid (keepBytes_yes l l rfl nb nb A6 Ab c6 cb w22 r6 HB.out)
      clear r6 s6
      go_wp2_with fail
      refine HKb.out.mono ?_
      rintro e w23 ⟨rfl, g⟩
      clear HKb
      replace HM := Lib.hid (HM.out.on g)
      replace HB := Lib.hid (HB.out.on g)
      replace bb := bb.trans (g.mono bb.size)
      clear g
      go_wp2_with fail
      refine (wakes_any _ HM.out).mono ?_
      rintro e w9 ⟨rfl, g⟩
      replace bb := bb.trans (g.mono bb.size)
      clear g HM
      go_wp2_with fail
      go_ret
      exact ⟨rfl, bb⟩
    | succ er =>
      have HD := Lib.hid (decode_is l ((er + 1 : Nat) : Int) zeroT (by rw [hE]) (decR_no (by rw [hE]; omega)) nb Ab cb w10 HB.out HBs.out (by omega) HM.out)
      clear hE
      refine HD.out.mono ?_
      rintro e w20 ⟨⟨k5, va5, vn5, vc5, vb5, na5, nn5, nc5, nh5, ba5, bn5, bc5, bb5⟩, rfl, ok5, tb5, g⟩
      clear HD
      obtain ⟨z1, z2⟩ := zeroT_parts tb5 ok5
      simp only [] at z1 z2
      subst z1 z2
      clear ok5 tb5
      simp only [TV.v]
      replace HM := Lib.hid (HM.out.on g)
      replace HB := Lib.hid (HB.out.on g)
      replace bb := bb.trans (g.mono bb.size)
      clear g
      have hne : (((er + 1 : Nat) : Int) != 0) = true := by rw [bne_iff_ne]; omega
      have hne2 : ((er : Int) + 1 != 0) = true := by rw [bne_iff_ne]; omega
      have g := below_new w20 (.cells #[.int .i64 0, .slice va5 vn5 vc5, .slice na5 0 nc5, .slice ba5 bn5 bc5] 26)
      replace HM := Lib.hid (HM.out.on g)
      replace HB := Lib.hid (HB.out.on g)
      replace bb := bb.trans (g.mono bb.size)
      clear g
      go_wp2_with fail
      refine (wakes_any _ HM.out).mono ?_
      rintro e w9 ⟨rfl, g⟩
      replace bb := bb.trans (g.mono bb.size)
      clear g HM
      go_wp2_with fail
      go_ret
      exact ⟨rfl, bb⟩
set_option maxRecDepth 8000 in
set_option maxHeartbeats 4000000 in
theorem walk_g4 (T : TV) (l : List Nat) (nb : Nat) (Ab : Option Addr) (cb : Nat) (x0 x1 : Nat) (W : World) (hT : T.ok W) (hM : Mark W) (hB : RB W W.heap.size Ab nb l) (hBs : Shp Ab nb cb) (hx0 : x0 < 65536) (hx1 : x1 < 65536) (hMay : MayT T.tb) (g1 : T.cl ≤ 8) (g2 : T.n2 ≤ 5) (g3 : 1 ≤ T.n1) (g4 : 60 < T.n1) :
    Calls Tryd.prog 4 #[T.v, .slice Ab nb cb, .agg #[.int .u16 (x0 : Int), .int .u16 (x1 : Int)]] W fun e W' => e = .returned (.bool true) ∧ Below W.heap.size W W' := by
  obtain ⟨i0, hi0, hz0, hz1, hz2⟩ := info_parts info5
  have HLg := Lib.hid (fun V (g : Below W.heap.size W V) => large_any T V (hT.on g))
  obtain ⟨L2, L1, L3⟩ := tb_len T hT
  obtain ⟨cl, a1, n1, c1, bd, a2, n2, c2, hs, a3, n3, c3, br⟩ := T
  simp only [TV.v] at *
  try simp only [] at L1 L2 L3
  have HT := Lib.hid hT
  have HM := Lib.hid hM
  have HB := Lib.hid hB
  have HBs := Lib.hid hBs
  have HBl := Lib.hid hB.2.2
  have hnb63 : nb ≤ 9223372036854775807 := by have := hBs.2; unfold maxLen at this; omega
  clear hB hBs
  clear hT hM
  go_enter Tryd.func4, Tryd.ntmps4
  go_wp2_with fail
  have p0 : ((W.alloc (.cells #[.int .i64 cl, .slice a1 n1 c1, .slice a2 n2 c2, .slice a3 n3 c3] 26)).alloc (.cells #[.int .u16 (x0 : Int), .int .u16 (x1 : Int)] 44)).cell? ⟨W.heap.size, 0, none⟩ = some (.int .i64 cl) := by simp
  have p1 : ((W.alloc (.cells #[.int .i64 cl, .slice a1 n1 c1, .slice a2 n2 c2, .slice a3 n3 c3] 26)).alloc (.cells #[.int .u16 (x0 : Int), .int .u16 (x1 : Int)] 44)).cell? ⟨W.heap.size, 1, none⟩ = some (.slice a1 n1 c1) := by simp
  have p2 : ((W.alloc (.cells #[.int .i64 cl, .slice a1 n1 c1, .slice a2 n2 c2, .slice a3 n3 c3] 26)).alloc (.cells #[.int .u16 (x0 : Int), .int .u16 (x1 : Int)] 44)).cell? ⟨W.heap.size, 2, none⟩ = some (.slice a2 n2 c2) := by simp
  have p3 : ((W.alloc (.cells #[.int .i64 cl, .slice a1 n1 c1, .slice a2 n2 c2, .slice a3 n3 c3] 26)).alloc (.cells #[.int .u16 (x0 : Int), .int .u16 (x1 : Int)] 44)).cell? ⟨W.heap.size, 3, none⟩ = some (.slice a3 n3 c3) := by simp
  have r0 : ((W.alloc (.cells #[.int .i64 cl, .slice a1 n1 c1, .slice a2 n2 c2, .slice a3 n3 c3] 26)).alloc (.cells #[.int .u16 (x0 : Int), .int .u16 (x1 : Int)] 44)).cell? ⟨W.heap.size + 1, 0, none⟩ = some (.int .u16 (x0 : Int)) := by simp
  have r1 : ((W.alloc (.cells #[.int .i64 cl, .slice a1 n1 c1, .slice a2 n2 c2, .slice a3 n3 c3] 26)).alloc (.cells #[.int .u16 (x0 : Int), .int .u16 (x1 : Int)] 44)).cell? ⟨W.heap.size + 1, 1, none⟩ = some (.int .u16 (x1 : Int)) := by simp
  have bb : Below W.heap.size W ((W.alloc (.cells #[.int .i64 cl, .slice a1 n1 c1, .slice a2 n2 c2, .slice a3 n3 c3] 26)).alloc (.cells #[.int .u16 (x0 : Int), .int .u16 (x1 : Int)] 44)) := (below_new _ _).trans ((below_new _ _).mono (by simp))
  replace HT := Lib.hid (HT.out.on bb)
  replace HM := Lib.hid (HM.out.on bb)
  replace HB := Lib.hid (HB.out.on bb)
  generalize ((W.alloc (.cells #[.int .i64 cl, .slice a1 n1 c1, .slice a2 n2 c2, .slice a3 n3 c3] 26)).alloc (.cells #[.int .u16 (x0 : Int), .int .u16 (x1 : Int)] 44)) = W0 at *
  refine (HLg.out _ bb).mono ?_
  rintro e w1 ⟨q, rfl, g, hq⟩
  have HQ := Lib.hid hq
  clear hq HLg
  replace p0 := kept_cell g p0
  replace p1 := kept_cell g p1
  replace p2 := kept_cell g p2
  replace p3 := kept_cell g p3
  replace r0 := kept_cell g r0
  replace r1 := kept_cell g r1
  replace HT := Lib.hid (HT.out.on g)
  replace HM := Lib.hid (HM.out.on g)
  replace HB := Lib.hid (HB.out.on g)
  replace bb := bb.trans (g.mono bb.size)
  clear g
  cases q
  case true =>
    clear HQ
    go_wp2_with fail
    refine (wakes_any _ HM.out).mono ?_
    rintro e w9 ⟨rfl, g⟩
    replace bb := bb.trans (g.mono bb.size)
    clear g HM
    go_wp2_with fail
    go_ret
    exact ⟨rfl, bb⟩
  have hS := HQ.out rfl
  clear HQ
  by_cases hn2 : 2000 < nb
  case pos =>
    go_wp2_with fail
    refine (wakes_any _ HM.out).mono ?_
    rintro e w9 ⟨rfl, g⟩
    replace bb := bb.trans (g.mono bb.size)
    clear g HM
    go_wp2_with fail
    go_ret
    exact ⟨rfl, bb⟩
  go_wp2_with fail
  obtain ⟨b, hIs, hEnc⟩ := encR_may hMay
  obtain ⟨y, hy, hbX, hbl, hb8, hb5, hXl⟩ := enc_facts hS hIs
  have HEn := Lib.hid (fun V hV hMV => encode_is ⟨cl, a1, n1, c1, bd, a2, n2, c2, hs, a3, n3, c3, br⟩ b b.length hEnc rfl V hV hS hMV)
  simp only [TV.v] at HEn
  have HIs := Lib.hid hIs
  have hc1 : 1 ≤ cl := hMay.c1
  have hn1 : 1 ≤ n2 := by have := hMay.n1; omega
  have HMay := Lib.hid hMay
  clear hIs hEnc hMay
  have hEr := (err_enc HIs.out).1
  have hDt := (err_enc HIs.out).2
  have hLn := enc_len HIs.out
  obtain ⟨cn, rfl⟩ := Int.eq_ofNat_of_zero_le (show 0 ≤ cl by omega)
  have HLt0 : Hid (∀ z ∈ b, z < 256) := Lib.hid (by rw [hbX]; exact seal_lt hXl)
  generalize hnbx : b.length = bn at *
  have HBn := Lib.hid hnbx
  have HTurn := Lib.hid (fun i y hi hy hne => err_turn HIs.out i y hi hy hne)
  have hl0 : lenI (cn : Int) (n2 : Int) (n1 : Int) = bn := by
    have k2 := HMay.out.n2
    have k1 := HMay.out.k1
    have kc := HMay.out.c2
    rw [lenI_nat (by simp only [TV.tb] at kc; omega) (by omega) (by omega), hLn, L2, L1]
    rfl
  have HLen := Lib.hid (length_is (cn : Int) n2 n1 bn hl0)
  have hb11 : 11 ≤ bn := by omega
  have hbb : ((bn : Int) != (bn : Int)) = false := by simp
  rw [if_neg (fun h => by have h1 := h.1; have h2 := h.2.1; have h3 := h.2.2.1; have h4 := h.2.2.2; simp only [TV.tb] at h1; omega)] at hEr
  have HEr := Lib.hid hEr
  have HDt := Lib.hid hDt
  have HSs := Lib.hid hS
  clear hbX hXl hy hbl hb8 hnbx hEr hDt hLn hl0 hS
  refine (HEn.out _ HT.out HM.out).mono ?_
  rintro e w2 ⟨A2, cc2, rfl, r2, s2, g⟩
  clear HEn
  replace p0 := kept_cell g p0
  replace p1 := kept_cell g p1
  replace p2 := kept_cell g p2
  replace p3 := kept_cell g p3
  replace r0 := kept_cell g r0
  replace r1 := kept_cell g r1
  replace HT := Lib.hid (HT.out.on g)
  replace HM := Lib.hid (HM.out.on g)
  replace HB := Lib.hid (HB.out.on g)
  replace bb := bb.trans (g.mono bb.size)
  clear g
  have HR := Lib.hid r2
  have HSp := Lib.hid s2
  clear r2 s2
  go_wp2_with fail
  refine (HLen.out _).mono ?_
  rintro e w3 ⟨rfl, g⟩
  clear HLen
  replace p0 := kept_cell g p0
  replace p1 := kept_cell g p1
  replace p2 := kept_cell g p2
  replace p3 := kept_cell g p3
  replace r0 := kept_cell g r0
  replace r1 := kept_cell g r1
  replace HT := Lib.hid (HT.out.on g)
  replace HM := Lib.hid (HM.out.on g)
  replace HB := Lib.hid (HB.out.on g)
  replace HR := Lib.hid (HR.out.on g)
  replace bb := bb.trans (g.mono bb.size)
  clear g
  go_wp2_with fail
  have HD := Lib.hid (decode_is b 24 zeroT (by rw [HEr.out]; rfl) (decR_no (by rw [HEr.out]; decide)) bn A2 cc2 w3 HR.out HSp.out (by omega) HM.out)
  refine HD.out.mono ?_
  rintro e w4 ⟨⟨k4, va4, vn4, vc4, vb4, na4, nn4, nc4, nh4, ba4, bn4, bc4, bb4⟩, rfl, ok4, tb4, g⟩
  clear HD
  simp only [TV.v]
  replace p0 := kept_cell g p0
  replace p1 := kept_cell g p1
  replace p2 := kept_cell g p2
  replace p3 := kept_cell g p3
  replace r0 := kept_cell g r0
  replace r1 := kept_cell g r1
  replace HT := Lib.hid (HT.out.on g)
  replace HM := Lib.hid (HM.out.on g)
  replace HB := Lib.hid (HB.out.on g)
  replace HR := Lib.hid (HR.out.on g)
  replace bb := bb.trans (g.mono bb.size)
  clear g
  clear ok4 tb4
  have g := below_new w4 (.cells #[.int .i64 k4, .slice va4 vn4 vc4, .slice na4 nn4 nc4, .slice ba4 bn4 bc4] 26)
  replace p0 := kept_cell g p0
  replace p1 := kept_cell g p1
  replace p2 := kept_cell g p2
  replace p3 := kept_cell g p3
  replace r0 := kept_cell g r0
  replace r1 := kept_cell g r1
  replace HT := Lib.hid (HT.out.on g)
  replace HM := Lib.hid (HM.out.on g)
  replace HB := Lib.hid (HB.out.on g)
  replace HR := Lib.hid (HR.out.on g)
  replace bb := bb.trans (g.mono bb.size)
  clear g
  go_upto_region 11 with (fail)
  generalize (w4.alloc (.cells #[.int .i64 k4, .slice va4 vn4 vc4, .slice na4 nn4 nc4, .slice ba4 bn4 bc4] 26)) = w5 at *
  clear HT
  have HMc := HM
  have HBc := HB
  have bbc := bb
  have HOm := Lib.hid (World.ownsRow_made (e := 5) (size := 1) w5 #[] 0 (Nat.le_refl _) (Nat.zero_le _) (by simp))
  have HRd := Lib.hid (HR.out.2.1.alloc (Nat.le_refl _) (.cells #[] 5))
  have HOne := Lib.hid (ycells_one (b))
  have HNil : Hid (A2 = none → cc2 = 0) := Lib.hid HSp.out.1
  have HLt := Lib.hid HR.out.2.2
  go_wp2_with (at_builtin; refine wpList_append_src rfl _ _ 27 rfl w5.heap.size 5 i0 _ 1 1 Tryd.underlying27 hi0 hz0 hz1 hz2 rfl (by decide) _ _ _ rfl HOm.out (A2) (bn) (cc2) w5.heap.size (ycells (b)) rfl HNil.out HRd.out HOne.out ?c3 ?c4 ?c5 ?_)
  case c3 => unfold maxLen; omega
  case c4 => omega
  try (case c5 => simp)
  intro A7 d7 w7 hown hnil hgrow
  have g : Below w5.heap.size w5 w7 := below_grown (below_new _ _) (by simp) HOm.out hgrow
  have HO7 : Hid (w7.ownsRow w5.heap.size 5 1 (.slice A7 (bn) d7) (bn) (ycells (b))) := Lib.hid (by simpa using hown)
  try simp only [Nat.zero_add]
  have gs := g
  clear hown hgrow hnil HOm HRd HOne HNil
  replace p0 := kept_cell g p0
  replace p1 := kept_cell g p1
  replace p2 := kept_cell g p2
  replace p3 := kept_cell g p3
  replace r0 := kept_cell g r0
  replace r1 := kept_cell g r1
  replace HM := Lib.hid (HM.out.on g)
  replace HB := Lib.hid (HB.out.on g)
  replace HR := Lib.hid (HR.out.on g)
  replace bb := bb.trans (g.mono bb.size)
  clear g
  have HR7 := Lib.hid (own_RB HO7.out HLt.out)
  have HS7 := Lib.hid (own_shp HO7.out)
  clear HLt
  obtain ⟨gg, cap, hv, _, hlt7⟩ := HO7.out.form (by omega)
  obtain ⟨rfl, rfl⟩ : A7 = some ⟨gg, 0, none⟩ ∧ d7 = cap := by injection hv with h1 h2 h3; exact ⟨h1, h3⟩
  clear hv HR7 HS7 HR HSp
  obtain ⟨k, hk⟩ : ∃ k, x0 % bn = k := ⟨_, rfl⟩
  have hkb : k < bn := by rw [← hk]; exact Nat.mod_lt _ (by omega)
  obtain ⟨r, hr⟩ : ∃ r, x1 % 255 = r := ⟨_, rfl⟩
  have hr255 : r < 255 := by omega
  obtain ⟨v, hv⟩ : ∃ v, 1 + r = v := ⟨_, rfl⟩
  have kl : k < b.length := by rw [HBn.out]; exact hkb
  have q0 := own_byteC HO7.out kl
  have f0 := HO7.out.frozenAt k
  have HSt : Hid (∀ y : Nat, (w7.setCell ⟨gg, k, none⟩ (.int .u8 (y : Int))).ownsRow w5.heap.size 5 1 (.slice (some ⟨gg, 0, none⟩) bn d7) bn (ycells (b.set k y))) := Lib.hid (fun y => by
    have h := (HO7.out.stored k (.int .u8 (y : Int))).1
    rwa [ycells_set] at h)
  have hbk := HLt0.out b[k] (List.getElem_mem kl)
  have HTn := HTurn.out k (b[k] ^^^ v) kl (xor_byte hbk (by omega)) (xor_ne (by omega))
  have HYl : Hid (∀ x ∈ b.set k (b[k] ^^^ v), x < 256) := Lib.hid (set_lt HLt0.out _ _ (xor_byte hbk (by omega)))
  generalize b[k] = bk at *
  have i1 : (x0 : Int) % (bn : Int) = (k : Int) := by omega
  have i2 : Int.tmod (x0 : Int) (bn : Int) = (k : Int) := by rw [Int.tmod_eq_emod_of_nonneg (by omega)]; exact i1
  have i3 : IntKind.i64.wrap (k : Int) = (k : Int) := by rw [IntKind.wrap_i64]; omega
  have i4 : (0 : Int) ≤ (k : Int) := by omega
  have i5 : (k : Int) < (bn : Int) := by omega
  have i6 : ¬ bn = 0 := by omega
  have i7 : (x1 : Int) % 255 = (r : Int) := by omega
  have i8 : Int.tmod (x1 : Int) 255 = (r : Int) := by rw [Int.tmod_eq_emod_of_nonneg (by omega)]; exact i7
  have i9 : IntKind.u16.wrap (r : Int) = (r : Int) := by simp [IntKind.wrap, IntKind.bits, IntKind.signed]; omega
  have i10 : IntKind.u8.wrap (r : Int) = (r : Int) := by simp [IntKind.wrap, IntKind.bits, IntKind.signed]; omega
  have i11 : IntKind.u8.wrap (1 + (r : Int)) = (v : Int) := by simp [IntKind.wrap, IntKind.bits, IntKind.signed]; omega
  have i12 : (1 : Int) + (r : Int) = (v : Int) := by omega
  have i13 : IntKind.u8.wrap (v : Int) = (v : Int) := by simp [IntKind.wrap, IntKind.bits, IntKind.signed]; omega
  have HXor := Lib.hid (xor_u8 bk v hbk (by omega))
  clear hk hr hv kl HTurn HLt0
  go_wp2_with fail
  go_region
  have HO8 : Hid ((w7.setCell ⟨gg, k, none⟩ (.int .u8 (bits .xor .u8 (bk : Int) (v : Int)))).drew.ownsRow w5.heap.size 5 1 (.slice (some ⟨gg, 0, none⟩) bn d7) bn (ycells (b.set k (bk ^^^ v)))) := Lib.hid (by
    rw [HXor.out]; exact (HSt.out (bk ^^^ v)).drew)
  have g8 : Below w5.heap.size w5 (w7.setCell ⟨gg, k, none⟩ (.int .u8 (bits .xor .u8 (bk : Int) (v : Int)))).drew := Below.drew (gs.setCell (p := ⟨gg, k, none⟩) (HO7.out.lt gg rfl).1 _)
  clear HM HB bb
  have HM := Lib.hid (HMc.out.on g8)
  have HB := Lib.hid (HBc.out.on g8)
  have bb := bbc.trans (g8.mono bbc.size)
  generalize (w7.setCell ⟨gg, k, none⟩ (.int .u8 (bits .xor .u8 (bk : Int) (v : Int)))).drew = w8 at *
  clear g8 gs HMc HBc bbc HXor HSt HO7 q0 f0 r0 r1 p0 p1 p2 p3
  have HR8 := Lib.hid (own_RB HO8.out HYl.out)
  have HS8 := Lib.hid (own_shp HO8.out)
  clear HO8 i1 i2 i3 i4 i5 i6 i7 i8 i9 i10 i11 i12 i13 HYl
  generalize b.set k (bk ^^^ v) = ys at *
  rcases HTn with hT8 | hT8
  · skip
    have HD := Lib.hid (decode_is ys 22 zeroT (by rw [hT8]; rfl) (decR_no (by rw [hT8]; decide)) bn _ _ w8 HR8.out HS8.out (by omega) HM.out)
    clear hT8 HR8 HS8
    go_wp2_with fail
    refine HD.out.mono ?_
    rintro e w9 ⟨⟨k6, va6, vn6, vc6, vb6, na6, nn6, nc6, nh6, ba6, bn6, bc6, bb6⟩, rfl, _, _, g⟩
    clear HD
    simp only [TV.v]
    replace HM := Lib.hid (HM.out.on g)
    replace HB := Lib.hid (HB.out.on g)
    replace bb := bb.trans (g.mono bb.size)
    clear g
    have g := below_new w9 (.cells #[.int .i64 k6, .slice va6 vn6 vc6, .slice na6 nn6 nc6, .slice ba6 bn6 bc6] 26)
    replace HM := Lib.hid (HM.out.on g)
    replace HB := Lib.hid (HB.out.on g)
    replace bb := bb.trans (g.mono bb.size)
    clear g
    go_wp2_with fail
    generalize (w9.alloc (.cells #[.int .i64 k6, .slice va6 vn6 vc6, .slice na6 nn6 nc6, .slice ba6 bn6 bc6] 26)) = w10 at *
    cases hE : errT l with
    | zero =>
      obtain ⟨hIl, hSl⟩ := dec_small HBl.out hE
      have HD := Lib.hid (decode_is l 0 (decT l) (by rw [hE]; rfl) (decR_yes hE) nb Ab cb w10 HB.out HBs.out (by omega) HM.out)
      have HIl := Lib.hid hIl
      have HSl := Lib.hid hSl
      clear hE hIl hSl
      refine HD.out.mono ?_
      rintro e w20 ⟨⟨k5, va5, vn5, vc5, vb5, na5, nn5, nc5, nh5, ba5, bn5, bc5, bb5⟩, rfl, ok5, tb5, g⟩
      clear HD
      simp only [TV.v]
      replace HM := Lib.hid (HM.out.on g)
      replace HB := Lib.hid (HB.out.on g)
      replace bb := bb.trans (g.mono bb.size)
      clear g
      have HV := Lib.hid ok5
      have HVt := Lib.hid tb5
      clear ok5 tb5
      have g := below_new w20 (.cells #[.int .i64 k5, .slice va5 vn5 vc5, .slice na5 nn5 nc5, .slice ba5 bn5 bc5] 26)
      replace HM := Lib.hid (HM.out.on g)
      replace HB := Lib.hid (HB.out.on g)
      replace HV := Lib.hid (HV.out.on g)
      replace bb := bb.trans (g.mono bb.size)
      clear g
      have HEn : Hid (Calls Tryd.prog 12 #[.agg #[.int .i64 k5, .slice va5 vn5 vc5, .slice na5 nn5 nc5, .slice ba5 bn5 bc5]] (w20.alloc (.cells #[.int .i64 k5, .slice va5 vn5 vc5, .slice na5 nn5 nc5, .slice ba5 bn5 bc5] 26)) fun e w' => ∃ (A : Option Addr) (c : Nat), e = .returned (.tuple #[.slice A nb c, .bool true]) ∧ RB w' w'.heap.size A nb l ∧ Shp A nb c ∧ Below (w20.alloc (.cells #[.int .i64 k5, .slice va5 vn5 vc5, .slice na5 nn5 nc5, .slice ba5 bn5 bc5] 26)).heap.size (w20.alloc (.cells #[.int .i64 k5, .slice va5 vn5 vc5, .slice na5 nn5 nc5, .slice ba5 bn5 bc5] 26)) w') := Lib.hid (encode_is ⟨k5, va5, vn5, vc5, vb5, na5, nn5, nc5, nh5, ba5, bn5, bc5, bb5⟩ l nb (by rw [HVt.out]; exact encR_yes HIl.out) HB.out.1 _ HV.out (by rw [HVt.out]; exact HSl.out) HM.out)
      go_wp2_with fail
      generalize (w20.alloc (.cells #[.int .i64 k5, .slice va5 vn5 vc5, .slice na5 nn5 nc5, .slice ba5 bn5 bc5] 26)) = w21 at *
      refine HEn.out.mono ?_
      rintro e w22 ⟨A6, c6, rfl, r6, s6, g⟩
      clear HEn HV
      replace HM := Lib.hid (HM.out.on g)
      replace HB := Lib.hid (HB.out.on g)
      replace bb := bb.trans (g.mono bb.size)
      clear g
      have HKb := Lib.hid (keepBytes_yes l l rfl nb nb A6 Ab c6 cb w22 r6 HB.out)
      clear r6 s6
      go_wp2_with fail
      refine HKb.out.mono ?_
      rintro e w23 ⟨rfl, g⟩
      clear HKb
      replace HM := Lib.hid (HM.out.on g)
      replace HB := Lib.hid (HB.out.on g)
      replace bb := bb.trans (g.mono bb.size)
      clear g
      go_wp2_with fail
      refine (wakes_any _ HM.out).mono ?_
      rintro e w9 ⟨rfl, g⟩
      replace bb := bb.trans (g.mono bb.size)
      clear g HM
      go_wp2_with fail
      go_ret
      exact ⟨rfl, bb⟩
    | succ er =>
      have HD := Lib.hid (decode_is l ((er + 1 : Nat) : Int) zeroT (by rw [hE]) (decR_no (by rw [hE]; omega)) nb Ab cb w10 HB.out HBs.out (by omega) HM.out)
      clear hE
      refine HD.out.mono ?_
      rintro e w20 ⟨⟨k5, va5, vn5, vc5, vb5, na5, nn5, nc5, nh5, ba5, bn5, bc5, bb5⟩, rfl, ok5, tb5, g⟩
      clear HD
      obtain ⟨z1, z2⟩ := zeroT_parts tb5 ok5
      simp only [] at z1 z2
      subst z1 z2
      clear ok5 tb5
      simp only [TV.v]
      replace HM := Lib.hid (HM.out.on g)
      replace HB := Lib.hid (HB.out.on g)
      replace bb := bb.trans (g.mono bb.size)
      clear g
      have hne : (((er + 1 : Nat) : Int) != 0) = true := by rw [bne_iff_ne]; omega
      have hne2 : ((er : Int) + 1 != 0) = true := by rw [bne_iff_ne]; omega
      have g := below_new w20 (.cells #[.int .i64 0, .slice va5 vn5 vc5, .slice na5 0 nc5, .slice ba5 bn5 bc5] 26)
      replace HM := Lib.hid (HM.out.on g)
      replace HB := Lib.hid (HB.out.on g)
      replace bb := bb.trans (g.mono bb.size)
      clear g
      go_wp2_with fail
      refine (wakes_any _ HM.out).mono ?_
      rintro e w9 ⟨rfl, g⟩
      replace bb := bb.trans (g.mono bb.size)
      clear g HM
      go_wp2_with fail
      go_ret
      exact ⟨rfl, bb⟩
  · skip
    have HD := Lib.hid (decode_is ys 23 zeroT (by rw [hT8]; rfl) (decR_no (by rw [hT8]; decide)) bn _ _ w8 HR8.out HS8.out (by omega) HM.out)
    clear hT8 HR8 HS8
    go_wp2_with fail
    refine HD.out.mono ?_
    rintro e w9 ⟨⟨k6, va6, vn6, vc6, vb6, na6, nn6, nc6, nh6, ba6, bn6, bc6, bb6⟩, rfl, _, _, g⟩
    clear HD
    simp only [TV.v]
    replace HM := Lib.hid (HM.out.on g)
    replace HB := Lib.hid (HB.out.on g)
    replace bb := bb.trans (g.mono bb.size)
    clear g
    have g := below_new w9 (.cells #[.int .i64 k6, .slice va6 vn6 vc6, .slice na6 nn6 nc6, .slice ba6 bn6 bc6] 26)
    replace HM := Lib.hid (HM.out.on g)
    replace HB := Lib.hid (HB.out.on g)
    replace bb := bb.trans (g.mono bb.size)
    clear g
    go_wp2_with fail
    generalize (w9.alloc (.cells #[.int .i64 k6, .slice va6 vn6 vc6, .slice na6 nn6 nc6, .slice ba6 bn6 bc6] 26)) = w10 at *
    cases hE : errT l with
    | zero =>
      obtain ⟨hIl, hSl⟩ := dec_small HBl.out hE
      have HD := Lib.hid (decode_is l 0 (decT l) (by rw [hE]; rfl) (decR_yes hE) nb Ab cb w10 HB.out HBs.out (by omega) HM.out)
      have HIl := Lib.hid hIl
      have HSl := Lib.hid hSl
      clear hE hIl hSl
      refine HD.out.mono ?_
      rintro e w20 ⟨⟨k5, va5, vn5, vc5, vb5, na5, nn5, nc5, nh5, ba5, bn5, bc5, bb5⟩, rfl, ok5, tb5, g⟩
      clear HD
      simp only [TV.v]
      replace HM := Lib.hid (HM.out.on g)
      replace HB := Lib.hid (HB.out.on g)
      replace bb := bb.trans (g.mono bb.size)
      clear g
      have HV := Lib.hid ok5
      have HVt := Lib.hid tb5
      clear ok5 tb5
      have g := below_new w20 (.cells #[.int .i64 k5, .slice va5 vn5 vc5, .slice na5 nn5 nc5, .slice ba5 bn5 bc5] 26)
      replace HM := Lib.hid (HM.out.on g)
      replace HB := Lib.hid (HB.out.on g)
      replace HV := Lib.hid (HV.out.on g)
      replace bb := bb.trans (g.mono bb.size)
      clear g
      have HEn : Hid (Calls Tryd.prog 12 #[.agg #[.int .i64 k5, .slice va5 vn5 vc5, .slice na5 nn5 nc5, .slice ba5 bn5 bc5]] (w20.alloc (.cells #[.int .i64 k5, .slice va5 vn5 vc5, .slice na5 nn5 nc5, .slice ba5 bn5 bc5] 26)) fun e w' => ∃ (A : Option Addr) (c : Nat), e = .returned (.tuple #[.slice A nb c, .bool true]) ∧ RB w' w'.heap.size A nb l ∧ Shp A nb c ∧ Below (w20.alloc (.cells #[.int .i64 k5, .slice va5 vn5 vc5, .slice na5 nn5 nc5, .slice ba5 bn5 bc5] 26)).heap.size (w20.alloc (.cells #[.int .i64 k5, .slice va5 vn5 vc5, .slice na5 nn5 nc5, .slice ba5 bn5 bc5] 26)) w') := Lib.hid (encode_is ⟨k5, va5, vn5, vc5, vb5, na5, nn5, nc5, nh5, ba5, bn5, bc5, bb5⟩ l nb (by rw [HVt.out]; exact encR_yes HIl.out) HB.out.1 _ HV.out (by rw [HVt.out]; exact HSl.out) HM.out)
      go_wp2_with fail
      generalize (w20.alloc (.cells #[.int .i64 k5, .slice va5 vn5 vc5, .slice na5 nn5 nc5, .slice ba5 bn5 bc5] 26)) = w21 at *
      refine HEn.out.mono ?_
      rintro e w22 ⟨A6, c6, rfl, r6, s6, g⟩
      clear HEn HV
      replace HM := Lib.hid (HM.out.on g)
      replace HB := Lib.hid (HB.out.on g)
      replace bb := bb.trans (g.mono bb.size)
      clear g
      have HKb := Lib.hid (keepBytes_yes l l rfl nb nb A6 Ab c6 cb w22 r6 HB.out)
      clear r6 s6
      go_wp2_with fail
      refine HKb.out.mono ?_
      rintro e w23 ⟨rfl, g⟩
      clear HKb
      replace HM := Lib.hid (HM.out.on g)
      replace HB := Lib.hid (HB.out.on g)
      replace bb := bb.trans (g.mono bb.size)
      clear g
      go_wp2_with fail
      refine (wakes_any _ HM.out).mono ?_
      rintro e w9 ⟨rfl, g⟩
      replace bb := bb.trans (g.mono bb.size)
      clear g HM
      go_wp2_with fail
      go_ret
      exact ⟨rfl, bb⟩
    | succ er =>
      have HD := Lib.hid (decode_is l ((er + 1 : Nat) : Int) zeroT (by rw [hE]) (decR_no (by rw [hE]; omega)) nb Ab cb w10 HB.out HBs.out (by omega) HM.out)
      clear hE
      refine HD.out.mono ?_
      rintro e w20 ⟨⟨k5, va5, vn5, vc5, vb5, na5, nn5, nc5, nh5, ba5, bn5, bc5, bb5⟩, rfl, ok5, tb5, g⟩
      clear HD
      obtain ⟨z1, z2⟩ := zeroT_parts tb5 ok5
      simp only [] at z1 z2
      subst z1 z2
      clear ok5 tb5
      simp only [TV.v]
      replace HM := Lib.hid (HM.out.on g)
      replace HB := Lib.hid (HB.out.on g)
      replace bb := bb.trans (g.mono bb.size)
      clear g
      have hne : (((er + 1 : Nat) : Int) != 0) = true := by rw [bne_iff_ne]; omega
      have hne2 : ((er : Int) + 1 != 0) = true := by rw [bne_iff_ne]; omega
      have g := below_new w20 (.cells #[.int .i64 0, .slice va5 vn5 vc5, .slice na5 0 nc5, .slice ba5 bn5 bc5] 26)
      replace HM := Lib.hid (HM.out.on g)
      replace HB := Lib.hid (HB.out.on g)
      replace bb := bb.trans (g.mono bb.size)
      clear g
      go_wp2_with fail
      refine (wakes_any _ HM.out).mono ?_
      rintro e w9 ⟨rfl, g⟩
      replace bb := bb.trans (g.mono bb.size)
      clear g HM
      go_wp2_with fail
      go_ret
      exact ⟨rfl, bb⟩
theorem walk (T : TV) (l : List Nat) (nb : Nat) (Ab : Option Addr) (cb : Nat) (x0 x1 : Nat) (W : World) (hT : T.ok W) (hM : Mark W) (hB : RB W W.heap.size Ab nb l) (hBs : Shp Ab nb cb) (hx0 : x0 < 65536) (hx1 : x1 < 65536) :
    Calls Tryd.prog 4 #[T.v, .slice Ab nb cb, .agg #[.int .u16 (x0 : Int), .int .u16 (x1 : Int)]] W fun e W' => e = .returned (.bool true) ∧ Below W.heap.size W W' := by
  by_cases hMay : MayT T.tb
  · by_cases g1 : T.cl ≤ 8
    · by_cases g2 : T.n2 ≤ 5
      · by_cases g3 : 1 ≤ T.n1
        · by_cases g4 : T.n1 ≤ 60
          · exact walk_ok T l nb Ab cb x0 x1 W hT hM hB hBs hx0 hx1 hMay g1 g2 g3 g4
          · exact walk_g4 T l nb Ab cb x0 x1 W hT hM hB hBs hx0 hx1 hMay g1 g2 g3 (by omega)
        · exact walk_g3 T l nb Ab cb x0 x1 W hT hM hB hBs hx0 hx1 hMay g1 g2 (by omega)
      · exact walk_g2 T l nb Ab cb x0 x1 W hT hM hB hBs hx0 hx1 hMay g1 (by omega)
    · exact walk_g1 T l nb Ab cb x0 x1 W hT hM hB hBs hx0 hx1 hMay (by omega)
  · exact walk_no T l nb Ab cb x0 x1 W hT hM hB hBs hx0 hx1 hMay

/-! From the walk to the row and its card. -/
set_option maxRecDepth 100000 in
theorem contract (H : Type) (enc : TypeId × Value → H) (W : World) (base : Nat) (args : Array Value) (ds gs : List (DataW H)) (before : List MemPlace)
    (hval0 : ∀ (j : Nat) t v, Tryd.f4.params[j]? = some t → args[j]? = some v → Value.okWide Tryd.prog W .any base t v)
    (hW : DataW.Whole enc Tryd.prog Tryd.f4.params.toList Rows.tableBackSpec.vars false W args.toList ds gs before) (hL : laidMetH Tryd.prog Rows.tableBackRow.laid W) :
    Calls Tryd.prog 4 args W fun e W' => ∃ v, e = .returned v ∧ Rows.tableBackSpec.post enc Tryd.prog Tryd.f4 false true false false W args v W' := by
  have hval : ∀ (j : Nat) t v, Tryd.f4.params[j]? = some t → args[j]? = some v → Value.okWide Tryd.prog W .any base t v := hval0
  have hW' := hW
  obtain ⟨p, q, hA0, hV, rfl, hfz, hnd⟩ := hW
  have hA : DataW.TrodAll enc Tryd.prog W 0 (fun _ => true) true Tryd.f4.params.toList args.toList ds p := hA0
  rw [Tryd.params4] at hA hval
  obtain ⟨v0, vs0, d0, ds0, p0, q0, hargs, rfl, rfl, h0, r0⟩ := trodAll_cons hA
  obtain ⟨v1, vs1, d1, ds1, p1, q1, rfl, rfl, rfl, h1, r1⟩ := trodAll_cons r0
  obtain ⟨v2, vs2, d2, ds2, p2, q2, rfl, rfl, rfl, h2, r2⟩ := trodAll_cons r1
  obtain ⟨rfl, rfl, rfl⟩ := trodAll_nil r2
  obtain rfl : args = #[v0, v1, v2] := by cases args; simp_all
  obtain ⟨rfl, rfl⟩ := trodVars_none hV
  obtain ⟨cs0, rfl, _⟩ := okWide_struct Tryd.underlying26 (hval 0 26 v0 rfl rfl)
  have k0 := h0
  have lt0 : ∀ x ∈ p0, x.block < W.heap.size := by obtain ⟨m, hm⟩ := k0; exact DataW.trod_lt m _ _ _ hm
  obtain ⟨T0, e0, ok0⟩ : ∃ T : TV, cs0.toList = [.int .i64 T.cl, .slice T.a1 T.n1 T.c1, .slice T.a2 T.n2 T.c2, .slice T.a3 T.n3 T.c3] ∧ T.ok W := by
    obtain ⟨fuel, hf⟩ := h0
    exact open_table (by simpa [Value.cells] using hf)
  obtain rfl : cs0 = #[.int .i64 T0.cl, .slice T0.a1 T0.n1 T0.c1, .slice T0.a2 T0.n2 T0.c2, .slice T0.a3 T0.n3 T0.c3] := by cases cs0; simp_all
  obtain ⟨a1, len1, cap1, rfl⟩ := okWide_slice Tryd.underlying27 (hval 1 27 v1 rfl rfl)
  have k1 := h1
  have lt1 : ∀ x ∈ p1, x.block < W.heap.size := by obtain ⟨m, hm⟩ := k1; exact DataW.trod_lt m _ _ _ hm
  obtain ⟨l1, hl1, hs1, hr1⟩ : ∃ l, l.length = len1 ∧ Shp a1 len1 cap1 ∧ RB W W.heap.size a1 len1 l := by
    obtain ⟨fuel, hf⟩ := h1
    exact open_bytes (by simpa [Value.cells] using hf)
  obtain ⟨cs2, rfl⟩ := okWide_arr Tryd.underlying44 (hval 2 44 v2 rfl rfl)
  have k2 := h2
  have lt2 : ∀ x ∈ p2, x.block < W.heap.size := by obtain ⟨m, hm⟩ := k2; exact DataW.trod_lt m _ _ _ hm
  obtain ⟨x2_0, x2_1, e2, bx2_0, bx2_1⟩ : ∃ x2_0 x2_1 : Nat, cs2.toList = [.int .u16 (x2_0 : Int), .int .u16 (x2_1 : Int)] ∧ x2_0 < 65536 ∧ x2_1 < 65536 := by
    obtain ⟨fuel, hf⟩ := h2
    exact open_w2 (by simpa [Value.cells] using hf)
  obtain rfl : cs2 = #[.int .u16 (x2_0 : Int), .int .u16 (x2_1 : Int)] := by cases cs2; simp_all
  clear hA0 hval0
  refine (walk T0 l1 len1 a1 cap1 x2_0 x2_1 W ok0 (mark_of_laid hL) hr1 hs1 bx2_0 bx2_1).mono fun e W' ⟨he, bel⟩ => ?_
  subst he
  exact ⟨_, rfl, _, _, _, [], _, [], hW', trodAll_mk1 (shut_bool Tryd.underlying4 _), (trodAll_cons_mk (Below.trod laidOut (by kernel_rfl) (of_decide_eq_true (by kernel_rfl)) k0 bel lt0) (trodAll_cons_mk (Below.trod laidOut (by kernel_rfl) (of_decide_eq_true (by kernel_rfl)) k1 bel lt1) (trodAll_cons_mk (Below.trod laidOut (by kernel_rfl) (of_decide_eq_true (by kernel_rfl)) k2 bel lt2) trodAll_mk0))), rfl, bel.frame _, fun h => by cases h⟩

theorem laid_met (os : Os) : laidMet Tryd.prog Rows.tableBackRow.laid ((laidWorld os).forCall (fun _ _ => 0) ⟨#[], #[.agg #[.int .i64 0, .slice none 0 0, .slice none 0 0, .slice none 0 0], .slice none 0 0, .agg #[.int .u16 0, .int .u16 0]], []⟩).memory :=
  laidMet_of_run' 8 (by kernel_rfl) (by kernel_rfl)
theorem reads (os : Os) {H : Type} (enc : TypeId × Value → H) : ∃ places, DataW.whole enc Tryd.prog ((laidWorld os).forCall (fun _ _ => 0) ⟨#[], #[.agg #[.int .i64 0, .slice none 0 0, .slice none 0 0, .slice none 0 0], .slice none 0 0, .agg #[.int .u16 0, .int .u16 0]], []⟩).memory Tryd.f4.params.toList Rows.tableBackSpec.vars false (#[.agg #[.int .i64 0, .slice none 0 0, .slice none 0 0, .slice none 0 0], .slice none 0 0, .agg #[.int .u16 0, .int .u16 0]] : Array Value).toList 8 = some ([.agg [.lit (.int .i64 0), .nil, .nil, .nil], .nil, .agg [.lit (.int .u16 0), .lit (.int .u16 0)]], [], places) :=
  ⟨[], by kernel_rfl⟩

set_option maxRecDepth 100000 in
theorem lifted (os : Os) (started : os.Started) (H : Type) (enc : TypeId × Value → H) (F : Stop.Interp) :
    ReturnsInHanded {} Tryd.checked os 4 .any ((OpenSpec.ofChange Rows.tableBackSpec).preRow enc Tryd.prog Tryd.f4 Rows.tableBackRow.domain false Rows.tableBackRow.laid) (((OpenSpec.ofChange Rows.tableBackSpec).at F).post enc Tryd.prog Tryd.f4 false true false false) := by
  obtain ⟨places, hx⟩ := reads os enc
  refine returnsInHanded_of_row (C := Tryd.checked) (s := OpenSpec.ofChange Rows.tableBackSpec) own started (by kernel_rfl) Tryd.func4
    (witness_row_at (enc := enc) (C := Tryd.checked) false (laidWorld os) #[.agg #[.int .i64 0, .slice none 0 0, .slice none 0 0, .slice none 0 0], .slice none 0 0, .agg #[.int .u16 0, .int .u16 0]] rfl (by kernel_rfl) (by kernel_rfl) (by kernel_rfl)
      (OpenSpec.preRow_of_cond 8 hx (by kernel_rfl) (fun k hk => by cases hk) (by kernel_rfl) (laid_met os))) ?_
  intro W base args ds gs before hval hW _ _ _ hL _ _
  exact contract H enc W base args ds gs before hval hW hL

set_option maxRecDepth 100000 in
theorem said : Rows.TableBackSaid :=
  OpenClaim.holds_of_cond 4 Tryd.f4 rfl rfl rfl rfl rfl rfl rfl ⟨rfl, rfl, rfl, rfl, rfl⟩ rfl rfl rfl rfl rfl (by kernel_rfl) Tryd.func4 (by kernel_rfl)
    (of_decide_eq_true (by kernel_rfl)) (by unfold Func.isWrapper; first | (rw [if_pos (by decide +kernel)]; kernel_rfl) | (rw [if_neg (by decide +kernel)]; exact ⟨rfl, rfl⟩))
    (fun os started H enc _ F => by rw [OpenClaim.pre_eq_preRow]; exact lifted os started H enc F)

theorem plain (f : FuncId) (fn : Func) (hf : Tryd.pinned.checked.prog.funcNamed Rows.tableBackRow.func = some f) (hfn : Tryd.pinned.checked.prog.funcs[f]? = some fn) :
    false = Tryd.pinned.checked.prog.looks [] ∧ ∀ (j : Nat) t, fn.params[j]? = some t → Tryd.pinned.checked.prog.wantsStandIn t = false := by
  obtain rfl : f = 4 := Option.some.inj ((show Tryd.prog.funcNamed Rows.tableBackRow.func = some 4 by kernel_rfl).symm.trans hf) |>.symm
  obtain rfl : fn = Tryd.f4 := (Option.some.inj (Tryd.func4.symm.trans hfn)).symm
  refine ⟨by kernel_rfl, fun j t ht => ?_⟩
  rw [Tryd.params4] at ht
  have hm : t ∈ [26, 27, 44] := by simpa using Array.mem_of_getElem? ht
  have hall : ([26, 27, 44].all fun u => !Tryd.prog.wantsStandIn u) = true := by kernel_rfl
  exact (show Tryd.prog.wantsStandIn t = false by simpa using List.all_eq_true.1 hall t hm)

theorem card : Rows.TableBackCardSaid :=
  Claim7.holds_tied_plain_at .later [] _ _ _ _ said (fun _ h => by cases h) (by kernel_rfl) (fun _ h => by cases h) tableBack_row_tie rfl ⟨rfl, rfl⟩ (by kernel_rfl) rfl plain (by kernel_rfl)
end Go.Proofs.YtkmkkbilnflpjaaDoor.tableBack

namespace Go.Proofs.YtkmkkbilnflpjaaDoor
/-- The given statement, under a short name. -/
theorem tableBack_holds : Rows.TableBackCardSaid := tableBack.card
#print axioms tableBack_holds
end Go.Proofs.YtkmkkbilnflpjaaDoor
