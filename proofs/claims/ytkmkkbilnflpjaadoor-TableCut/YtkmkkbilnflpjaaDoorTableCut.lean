/- TableCut: the bytes of every table whose counts may be, cut at any place below their sum or made one byte longer and sealed anew by their sum, are refused by Decode as too short or by their counts.
   Conditions: none but the row's own (the mark's variable starts as the program's text lays it). -/
import Derived.Test.YtkmkkbilnflpjaaDoorLawKit2
namespace Go.Proofs.YtkmkkbilnflpjaaDoor.tableCut
open Go.ChangeShapes Go.WideShapes Go.ChangeAt Go.RowKit Go.Deep Go.BigFrame
set_option linter.unusedVariables false
set_option linter.unusedSimpArgs false
set_option maxRecDepth 8000 in
set_option maxHeartbeats 4000000 in
theorem walk (T : TV) (n m : Nat) (W : World) (hT : T.ok W) (hM : Mark W) (hn : n < 65536) (hm : m < 256) :
    Calls Tryd.prog 5 #[T.v, .int .u16 (n : Int), .int .u8 (m : Int)] W fun e W' => e = .returned (.bool true) ∧ Below W.heap.size W W' := by
  obtain ⟨i0, hi0, hz0, hz1, hz2⟩ := info_parts info5
  have HLg := Lib.hid (fun V (g : Below W.heap.size W V) => large_any T V (hT.on g))
  obtain ⟨L2, L1, L3⟩ := tb_len T hT
  obtain ⟨cl, a1, n1, c1, bd, a2, n2, c2, hs, a3, n3, c3, br⟩ := T
  simp only [TV.v] at *
  try simp only [] at L1 L2 L3
  have HT := Lib.hid hT
  have HM := Lib.hid hM
  clear hT hM
  go_enter Tryd.func5, Tryd.ntmps5
  go_wp2_with fail
  have p0 : (W.alloc (.cells #[.int .i64 cl, .slice a1 n1 c1, .slice a2 n2 c2, .slice a3 n3 c3] 26)).cell? ⟨W.heap.size, 0, none⟩ = some (.int .i64 cl) := by simp
  have p1 : (W.alloc (.cells #[.int .i64 cl, .slice a1 n1 c1, .slice a2 n2 c2, .slice a3 n3 c3] 26)).cell? ⟨W.heap.size, 1, none⟩ = some (.slice a1 n1 c1) := by simp
  have p2 : (W.alloc (.cells #[.int .i64 cl, .slice a1 n1 c1, .slice a2 n2 c2, .slice a3 n3 c3] 26)).cell? ⟨W.heap.size, 2, none⟩ = some (.slice a2 n2 c2) := by simp
  have p3 : (W.alloc (.cells #[.int .i64 cl, .slice a1 n1 c1, .slice a2 n2 c2, .slice a3 n3 c3] 26)).cell? ⟨W.heap.size, 3, none⟩ = some (.slice a3 n3 c3) := by simp
  have bb := below_new W (.cells #[.int .i64 cl, .slice a1 n1 c1, .slice a2 n2 c2, .slice a3 n3 c3] 26)
  replace HT := Lib.hid (HT.out.on bb)
  replace HM := Lib.hid (HM.out.on bb)
  generalize (W.alloc (.cells #[.int .i64 cl, .slice a1 n1 c1, .slice a2 n2 c2, .slice a3 n3 c3] 26)) = W0 at *
  refine (HLg.out _ bb).mono ?_
  rintro e w1 ⟨q, rfl, g, hq⟩
  have HQ := Lib.hid hq
  clear hq HLg
  replace p0 := kept_cell g p0
  replace p1 := kept_cell g p1
  replace p2 := kept_cell g p2
  replace p3 := kept_cell g p3
  replace HT := Lib.hid (HT.out.on g)
  replace HM := Lib.hid (HM.out.on g)
  replace bb := bb.trans (g.mono bb.size)
  clear g
  cases q
  case true =>
    clear HQ
    go_wp2_with fail
    refine (wakes_any _ HM.out).mono ?_
    rintro e w9 ⟨rfl, g⟩
    replace bb := bb.trans (g.mono bb.size)
    clear g HM
    go_wp2_with fail
    go_ret
    exact ⟨rfl, bb⟩
  have hS := HQ.out rfl
  clear HQ
  go_wp2_with fail
  by_cases hMay : MayT (TV.tb ⟨cl, a1, n1, c1, bd, a2, n2, c2, hs, a3, n3, c3, br⟩)
  case neg =>
    have HEn := Lib.hid (fun V hV hMV => encode_no ⟨cl, a1, n1, c1, bd, a2, n2, c2, hs, a3, n3, c3, br⟩ (encR_no hMay) V hV hS hMV)
    clear hMay hS
    simp only [TV.v] at HEn
    go_wp2_with fail
    refine (HEn.out _ HT.out HM.out).mono ?_
    rintro e w2 ⟨A9, c9, rfl, g⟩
    replace p0 := kept_cell g p0
    replace p1 := kept_cell g p1
    replace p2 := kept_cell g p2
    replace p3 := kept_cell g p3
    replace HT := Lib.hid (HT.out.on g)
    replace HM := Lib.hid (HM.out.on g)
    replace bb := bb.trans (g.mono bb.size)
    clear g
    clear HEn
    go_wp2_with fail
    refine (wakes_any _ HM.out).mono ?_
    rintro e w9 ⟨rfl, g⟩
    replace bb := bb.trans (g.mono bb.size)
    clear g HM
    go_wp2_with fail
    go_ret
    exact ⟨rfl, bb⟩
  obtain ⟨b, hIs, hEnc⟩ := encR_may hMay
  obtain ⟨y, hy, hbX, hbl, hb8, hb5, hXl⟩ := enc_facts hS hIs
  have HEn := Lib.hid (fun V hV hMV => encode_is ⟨cl, a1, n1, c1, bd, a2, n2, c2, hs, a3, n3, c3, br⟩ b b.length hEnc rfl V hV hS hMV)
  simp only [TV.v] at HEn
  have HIs := Lib.hid hIs
  have hc1 : 1 ≤ cl := hMay.c1
  have hn1 : 1 ≤ n2 := by have := hMay.n1; omega
  have HMay := Lib.hid hMay
  clear hIs hEnc hMay
  generalize hX : bodyB (TV.tb ⟨cl, a1, n1, c1, bd, a2, n2, c2, hs, a3, n3, c3, br⟩) y = X at *
  generalize hnb : b.length = nb at *
  have HX := Lib.hid hX
  have HbX := Lib.hid hbX
  have HXl := Lib.hid hXl
  have HY := Lib.hid hy
  have HXn : Hid (X.length + 4 = nb) := Lib.hid hbl
  obtain ⟨nx, hnx⟩ : ∃ nx, X.length = nx := ⟨_, rfl⟩
  have HNx := Lib.hid hnx
  have hnb4 : nx + 4 = nb := by omega
  have e4 : (nb : Int) - 4 = (nx : Int) := by omega
  have hx8 : 8 ≤ nx := by omega
  have hx5 : nx ≤ 5000 := by omega
  have hnb11 : 11 ≤ nb := by omega
  clear hX hbX hXl hy hbl hb8 hnb hnx hS
  refine (HEn.out _ HT.out HM.out).mono ?_
  rintro e w2 ⟨A2, cc2, rfl, r2, s2, g⟩
  replace p0 := kept_cell g p0
  replace p1 := kept_cell g p1
  replace p2 := kept_cell g p2
  replace p3 := kept_cell g p3
  replace HT := Lib.hid (HT.out.on g)
  replace HM := Lib.hid (HM.out.on g)
  replace bb := bb.trans (g.mono bb.size)
  clear g
  have HR := Lib.hid r2
  have HSp := Lib.hid s2
  have hcap : nb ≤ cc2 := s2.2.1
  clear r2 s2 HEn
  by_cases g1 : 8 < cl
  case pos =>
    go_wp2_with fail
    refine (wakes_any _ HM.out).mono ?_
    rintro e w9 ⟨rfl, g⟩
    replace bb := bb.trans (g.mono bb.size)
    clear g HM
    go_wp2_with fail
    go_ret
    exact ⟨rfl, bb⟩
  by_cases g2 : 5 < n2
  case pos =>
    go_wp2_with fail
    refine (wakes_any _ HM.out).mono ?_
    rintro e w9 ⟨rfl, g⟩
    replace bb := bb.trans (g.mono bb.size)
    clear g HM
    go_wp2_with fail
    go_ret
    exact ⟨rfl, bb⟩
  by_cases g3 : n1 < 1
  case pos =>
    go_wp2_with fail
    refine (wakes_any _ HM.out).mono ?_
    rintro e w9 ⟨rfl, g⟩
    replace bb := bb.trans (g.mono bb.size)
    clear g HM
    go_wp2_with fail
    go_ret
    exact ⟨rfl, bb⟩
  by_cases g4 : 60 < n1
  case pos =>
    go_wp2_with fail
    refine (wakes_any _ HM.out).mono ?_
    rintro e w9 ⟨rfl, g⟩
    replace bb := bb.trans (g.mono bb.size)
    clear g HM
    go_wp2_with fail
    go_ret
    exact ⟨rfl, bb⟩
  obtain ⟨k, hk⟩ : ∃ k, n % nx = k := ⟨_, rfl⟩
  have hkI : (n : Int) % (nx : Int) = (k : Int) := by omega
  have hkx : k < nx := by rw [← hk]; exact Nat.mod_lt _ (by omega)
  clear hk
  have HXR : Hid (RB w2 w2.heap.size A2 nx X) := Lib.hid (by
    have h := HR.out.take (k := nx) (by omega)
    have e : b.take nx = X := by rw [HbX.out, ← HNx.out, seal_take]
    rwa [e] at h)
  have HXS : Hid (Shp A2 nx cc2) := Lib.hid ⟨HSp.out.1, by omega, HSp.out.2.2⟩
  clear HR HSp
  have HKR : Hid (RB w2 w2.heap.size A2 k (X.take k)) := Lib.hid (HXR.out.take (by omega))
  have HKS : Hid (Shp A2 k cc2) := Lib.hid ⟨HXS.out.1, by omega, HXS.out.2.2⟩
  have i1 : (0 : Int) ≤ (nx : Int) := by omega
  have i2 : (nx : Int) ≤ (cc2 : Int) := by omega
  have i3 : (0 : Int) ≤ (k : Int) := by omega
  have i4 : (k : Int) ≤ (cc2 : Int) := by omega
  have i5 : ¬ nx = 0 := by omega
  have HOm := Lib.hid (World.ownsRow_made (e := 5) (size := 1) w2 #[] 0 (Nat.le_refl _) (Nat.zero_le _) (by simp))
  have HRd := Lib.hid (HKR.out.2.1.alloc (Nat.le_refl _) (.cells #[] 5))
  have HOne := Lib.hid (ycells_one (X.take k))
  have HNil : Hid (A2 = none → cc2 = 0) := Lib.hid HKS.out.1
  have HLt := Lib.hid HKR.out.2.2
  go_wp2_with (at_builtin; refine wpList_append_src rfl _ _ 27 rfl w2.heap.size 5 i0 _ 1 1 Tryd.underlying27 hi0 hz0 hz1 hz2 rfl (by decide) _ _ _ rfl HOm.out (A2) (k) (cc2) w2.heap.size (ycells (X.take k)) rfl HNil.out HRd.out HOne.out ?c3 ?c4 ?c5 ?_)
  case c3 => unfold maxLen; omega
  case c4 => omega
  case c5 => simp
  intro A3 d3 w3 hown hnil hgrow
  have g : Below w2.heap.size w2 w3 := below_grown (below_new _ _) (by simp) HOm.out hgrow
  have HO3 : Hid (w3.ownsRow w2.heap.size 5 1 (.slice A3 (k) d3) (k) (ycells (X.take k))) := Lib.hid (by simpa using hown)
  try simp only [Nat.zero_add]
  clear hown hgrow hnil HOm HRd HOne HNil
  replace p0 := kept_cell g p0
  replace p1 := kept_cell g p1
  replace p2 := kept_cell g p2
  replace p3 := kept_cell g p3
  replace HT := Lib.hid (HT.out.on g)
  replace HM := Lib.hid (HM.out.on g)
  replace HXR := Lib.hid (HXR.out.on g)
  replace bb := bb.trans (g.mono bb.size)
  clear g
  have HR3 := Lib.hid (own_RB HO3.out HLt.out)
  have HS3 := Lib.hid (own_shp HO3.out)
  clear HLt
  clear HKR HKS HO3
  have HSm := Lib.hid (refSum_any (X.take k) k A3 d3 w3 HR3.out (by omega))
  have HPt := Lib.hid (refSeal (X.take k) k A3 d3 w3 HS3.out HR3.out (by omega))
  have hsl := sumL_lt (X.take k)
  generalize sumL (X.take k) = su at *
  go_wp2_with fail
  refine HSm.out.mono ?_
  rintro e w4 ⟨rfl, rfl⟩
  go_wp2_with fail
  refine HPt.out.mono ?_
  rintro e w5 ⟨A5, c5, rfl, r5, s5, g⟩
  clear HSm HPt HS3
  clear HR3
  replace p0 := kept_cell g p0
  replace p1 := kept_cell g p1
  replace p2 := kept_cell g p2
  replace p3 := kept_cell g p3
  replace HT := Lib.hid (HT.out.on g)
  replace HM := Lib.hid (HM.out.on g)
  replace HXR := Lib.hid (HXR.out.on g)
  replace bb := bb.trans (g.mono bb.size)
  clear g
  have HR5 := Lib.hid r5
  have HS5 := Lib.hid s5
  clear r5 s5
  have HOm := Lib.hid (World.ownsRow_made (e := 5) (size := 1) w5 #[] 0 (Nat.le_refl _) (Nat.zero_le _) (by simp))
  have HRd := Lib.hid (HXR.out.2.1.alloc (Nat.le_refl _) (.cells #[] 5))
  have HOne := Lib.hid (ycells_one X)
  have HNil : Hid (A2 = none → cc2 = 0) := Lib.hid HXS.out.1
  go_wp2_with (at_builtin; refine wpList_append_src rfl _ _ 27 rfl w5.heap.size 5 i0 _ 1 1 Tryd.underlying27 hi0 hz0 hz1 hz2 rfl (by decide) _ _ _ rfl HOm.out A2 nx cc2 w5.heap.size (ycells X) rfl HNil.out HRd.out HOne.out ?c3 ?c4 ?c5 ?_)
  case c3 => unfold maxLen; omega
  case c4 => omega
  case c5 => simp
  intro A6 d6 w6 hown hnil hgrow
  have g6 : Below w5.heap.size w5 w6 := below_grown (below_new _ _) (by simp) HOm.out hgrow
  have HO6 : Hid (w6.ownsRow w5.heap.size 5 1 (.slice A6 nx d6) nx (ycells X)) := Lib.hid (by simpa using hown)
  try simp only [Nat.zero_add]
  have hs6 := g6.size
  clear hown hgrow hnil HOm HRd HOne HNil
  have HOa := Lib.hid (HO6.out.alloc (.cells #[.int .u8 (m : Int)] 5))
  have HRd := Lib.hid (reads_one w6 m)
  have HOne := Lib.hid (ycells_one [m])
  go_wp2_with (at_builtin; refine wpList_append_src rfl _ _ 27 rfl w5.heap.size 5 i0 _ 1 1 Tryd.underlying27 hi0 hz0 hz1 hz2 rfl (by decide) _ _ _ rfl HOa.out (some ⟨w6.heap.size, 0, none⟩) 1 1 (w6.heap.size + 1) (ycells [m]) rfl (fun h => by cases h) HRd.out HOne.out ?n3 ?n4 ?n5 ?_)
  case n3 => unfold maxLen; omega
  case n4 => omega
  case n5 => simp; omega
  intro A7 d7 w7 hown hnil hgrow
  have g : Below w5.heap.size w5 w7 := below_grown (g6.alloc hs6 _) (by simp; omega) HOa.out hgrow
  have HO7 : Hid (w7.ownsRow w5.heap.size 5 1 (.slice A7 (nx + 1) d7) (nx + 1) (ycells (X ++ [m]))) := Lib.hid (by rw [ycells_app]; exact hown)
  clear hown hgrow hnil HOa HRd HOne HO6 g6 hs6
  replace p0 := kept_cell g p0
  replace p1 := kept_cell g p1
  replace p2 := kept_cell g p2
  replace p3 := kept_cell g p3
  replace HT := Lib.hid (HT.out.on g)
  replace HM := Lib.hid (HM.out.on g)
  replace HXR := Lib.hid (HXR.out.on g)
  replace HR5 := Lib.hid (HR5.out.on g)
  replace bb := bb.trans (g.mono bb.size)
  clear g
  have HR7 := Lib.hid (own_RB HO7.out (app_lt HXl.out (one_lt hm)))
  have HS7 := Lib.hid (own_shp HO7.out)
  clear HO7
  have HSm := Lib.hid (refSum_any (X ++ [m]) (nx + 1) A7 d7 w7 HR7.out (by omega))
  have HPt := Lib.hid (refSeal (X ++ [m]) (nx + 1) A7 d7 w7 HS7.out HR7.out (by omega))
  have hsl2 := sumL_lt (X ++ [m])
  generalize sumL (X ++ [m]) = su2 at *
  go_wp2_with fail
  refine HSm.out.mono ?_
  rintro e w8 ⟨rfl, rfl⟩
  go_wp2_with fail
  refine HPt.out.mono ?_
  rintro e w9 ⟨A9, c9, rfl, r9, s9, g⟩
  clear HSm HPt HS7 HR7
  replace p0 := kept_cell g p0
  replace p1 := kept_cell g p1
  replace p2 := kept_cell g p2
  replace p3 := kept_cell g p3
  replace HT := Lib.hid (HT.out.on g)
  replace HM := Lib.hid (HM.out.on g)
  replace HXR := Lib.hid (HXR.out.on g)
  replace HR5 := Lib.hid (HR5.out.on g)
  replace bb := bb.trans (g.mono bb.size)
  clear g
  have HR9 := Lib.hid r9
  have HS9 := Lib.hid s9
  clear r9 s9
  have hE2 : ((errT (sealB (X ++ [m])) : Nat) : Int) = 24 := by rw [← HX.out, err_long HMay.out HY.out m]; rfl
  have HE1 := err_cut HMay.out HY.out k (by rw [HX.out, HNx.out]; exact hkx)
  rw [HX.out] at HE1
  by_cases hk7 : k < 7
  case pos =>
    have hE1 : ((errT (sealB (X.take k)) : Nat) : Int) = 21 := by rw [HE1, if_pos hk7]; rfl
    clear HE1
    have HD1 := Lib.hid (decode_is (sealB (X.take k)) 21 _ hE1 rfl (k + 4) A5 c5 _ HR5.out HS5.out (by omega) HM.out)
    have HRR := Lib.hid HR9.out
    clear hE1 HXR HXS HR5 HS5
    go_wp2_with fail
    refine HD1.out.mono ?_
    rintro e w10 ⟨⟨k2, va2, vn2, vc2, vb2, na2, nn2, nc2, nh2, ba2, bn2, bc2, bb2⟩, rfl, _, _, g⟩
    clear HD1 HRR
    simp only [TV.v]
    replace p0 := kept_cell g p0
    replace p1 := kept_cell g p1
    replace p2 := kept_cell g p2
    replace p3 := kept_cell g p3
    replace HT := Lib.hid (HT.out.on g)
    replace HM := Lib.hid (HM.out.on g)
    replace HR9 := Lib.hid (HR9.out.on g)
    replace bb := bb.trans (g.mono bb.size)
    clear g
    go_wp2_with fail
    have g := below_new w10 (.cells #[.int .i64 k2, .slice va2 vn2 vc2, .slice na2 nn2 nc2, .slice ba2 bn2 bc2] 26)
    replace p0 := kept_cell g p0
    replace p1 := kept_cell g p1
    replace p2 := kept_cell g p2
    replace p3 := kept_cell g p3
    replace HT := Lib.hid (HT.out.on g)
    replace HM := Lib.hid (HM.out.on g)
    replace HR9 := Lib.hid (HR9.out.on g)
    replace bb := bb.trans (g.mono bb.size)
    clear g
    generalize (w10.alloc (.cells #[.int .i64 k2, .slice va2 vn2 vc2, .slice na2 nn2 nc2, .slice ba2 bn2 bc2] 26)) = w11 at *
    have HD2 := Lib.hid (decode_is (sealB (X ++ [m])) 24 _ hE2 rfl (nx + 1 + 4) A9 c9 _ HR9.out HS9.out (by omega) HM.out)
    clear hE2 HR9 HS9
    refine HD2.out.mono ?_
    rintro e w12 ⟨⟨k3, va3, vn3, vc3, vb3, na3, nn3, nc3, nh3, ba3, bn3, bc3, bb3⟩, rfl, _, _, g⟩
    clear HD2
    simp only [TV.v]
    replace p0 := kept_cell g p0
    replace p1 := kept_cell g p1
    replace p2 := kept_cell g p2
    replace p3 := kept_cell g p3
    replace HT := Lib.hid (HT.out.on g)
    replace HM := Lib.hid (HM.out.on g)
    replace bb := bb.trans (g.mono bb.size)
    clear g
    have g := below_new w12 (.cells #[.int .i64 k3, .slice va3 vn3 vc3, .slice na3 nn3 nc3, .slice ba3 bn3 bc3] 26)
    replace p0 := kept_cell g p0
    replace p1 := kept_cell g p1
    replace p2 := kept_cell g p2
    replace p3 := kept_cell g p3
    replace HT := Lib.hid (HT.out.on g)
    replace HM := Lib.hid (HM.out.on g)
    replace bb := bb.trans (g.mono bb.size)
    clear g
    go_wp2_with fail
    refine (wakes_any _ HM.out).mono ?_
    rintro e w9 ⟨rfl, g⟩
    replace bb := bb.trans (g.mono bb.size)
    clear g HM
    go_wp2_with fail
    go_ret
    exact ⟨rfl, bb⟩
  have hE1 : ((errT (sealB (X.take k)) : Nat) : Int) = 24 := by rw [HE1, if_neg hk7]; rfl
  clear HE1
  have HD1 := Lib.hid (decode_is (sealB (X.take k)) 24 _ hE1 rfl (k + 4) A5 c5 _ HR5.out HS5.out (by omega) HM.out)
  have HRR := Lib.hid HR9.out
  clear hE1 HXR HXS HR5 HS5
  go_wp2_with fail
  refine HD1.out.mono ?_
  rintro e w10 ⟨⟨k2, va2, vn2, vc2, vb2, na2, nn2, nc2, nh2, ba2, bn2, bc2, bb2⟩, rfl, _, _, g⟩
  clear HD1 HRR
  simp only [TV.v]
  replace p0 := kept_cell g p0
  replace p1 := kept_cell g p1
  replace p2 := kept_cell g p2
  replace p3 := kept_cell g p3
  replace HT := Lib.hid (HT.out.on g)
  replace HM := Lib.hid (HM.out.on g)
  replace HR9 := Lib.hid (HR9.out.on g)
  replace bb := bb.trans (g.mono bb.size)
  clear g
  go_wp2_with fail
  have g := below_new w10 (.cells #[.int .i64 k2, .slice va2 vn2 vc2, .slice na2 nn2 nc2, .slice ba2 bn2 bc2] 26)
  replace p0 := kept_cell g p0
  replace p1 := kept_cell g p1
  replace p2 := kept_cell g p2
  replace p3 := kept_cell g p3
  replace HT := Lib.hid (HT.out.on g)
  replace HM := Lib.hid (HM.out.on g)
  replace HR9 := Lib.hid (HR9.out.on g)
  replace bb := bb.trans (g.mono bb.size)
  clear g
  generalize (w10.alloc (.cells #[.int .i64 k2, .slice va2 vn2 vc2, .slice na2 nn2 nc2, .slice ba2 bn2 bc2] 26)) = w11 at *
  have HD2 := Lib.hid (decode_is (sealB (X ++ [m])) 24 _ hE2 rfl (nx + 1 + 4) A9 c9 _ HR9.out HS9.out (by omega) HM.out)
  clear hE2 HR9 HS9
  refine HD2.out.mono ?_
  rintro e w12 ⟨⟨k3, va3, vn3, vc3, vb3, na3, nn3, nc3, nh3, ba3, bn3, bc3, bb3⟩, rfl, _, _, g⟩
  clear HD2
  simp only [TV.v]
  replace p0 := kept_cell g p0
  replace p1 := kept_cell g p1
  replace p2 := kept_cell g p2
  replace p3 := kept_cell g p3
  replace HT := Lib.hid (HT.out.on g)
  replace HM := Lib.hid (HM.out.on g)
  replace bb := bb.trans (g.mono bb.size)
  clear g
  have g := below_new w12 (.cells #[.int .i64 k3, .slice va3 vn3 vc3, .slice na3 nn3 nc3, .slice ba3 bn3 bc3] 26)
  replace p0 := kept_cell g p0
  replace p1 := kept_cell g p1
  replace p2 := kept_cell g p2
  replace p3 := kept_cell g p3
  replace HT := Lib.hid (HT.out.on g)
  replace HM := Lib.hid (HM.out.on g)
  replace bb := bb.trans (g.mono bb.size)
  clear g
  go_wp2_with fail
  refine (wakes_any _ HM.out).mono ?_
  rintro e w9 ⟨rfl, g⟩
  replace bb := bb.trans (g.mono bb.size)
  clear g HM
  go_wp2_with fail
  go_ret
  exact ⟨rfl, bb⟩

/-! From the walk to the row and its card. -/
set_option maxRecDepth 100000 in
theorem contract (H : Type) (enc : TypeId × Value → H) (W : World) (base : Nat) (args : Array Value) (ds gs : List (DataW H)) (before : List MemPlace)
    (hval0 : ∀ (j : Nat) t v, Tryd.f5.params[j]? = some t → args[j]? = some v → Value.okWide Tryd.prog W .any base t v)
    (hW : DataW.Whole enc Tryd.prog Tryd.f5.params.toList Rows.tableCutSpec.vars false W args.toList ds gs before) (hL : laidMetH Tryd.prog Rows.tableCutRow.laid W) :
    Calls Tryd.prog 5 args W fun e W' => ∃ v, e = .returned v ∧ Rows.tableCutSpec.post enc Tryd.prog Tryd.f5 false true false false W args v W' := by
  have hval : ∀ (j : Nat) t v, Tryd.f5.params[j]? = some t → args[j]? = some v → Value.okWide Tryd.prog W .any base t v := hval0
  have hW' := hW
  obtain ⟨p, q, hA0, hV, rfl, hfz, hnd⟩ := hW
  have hA : DataW.TrodAll enc Tryd.prog W 0 (fun _ => true) true Tryd.f5.params.toList args.toList ds p := hA0
  rw [Tryd.params5] at hA hval
  obtain ⟨v0, vs0, d0, ds0, p0, q0, hargs, rfl, rfl, h0, r0⟩ := trodAll_cons hA
  obtain ⟨v1, vs1, d1, ds1, p1, q1, rfl, rfl, rfl, h1, r1⟩ := trodAll_cons r0
  obtain ⟨v2, vs2, d2, ds2, p2, q2, rfl, rfl, rfl, h2, r2⟩ := trodAll_cons r1
  obtain ⟨rfl, rfl, rfl⟩ := trodAll_nil r2
  obtain rfl : args = #[v0, v1, v2] := by cases args; simp_all
  obtain ⟨rfl, rfl⟩ := trodVars_none hV
  obtain ⟨cs0, rfl, _⟩ := okWide_struct Tryd.underlying26 (hval 0 26 v0 rfl rfl)
  have k0 := h0
  have lt0 : ∀ x ∈ p0, x.block < W.heap.size := by obtain ⟨m, hm⟩ := k0; exact DataW.trod_lt m _ _ _ hm
  obtain ⟨T0, e0, ok0⟩ : ∃ T : TV, cs0.toList = [.int .i64 T.cl, .slice T.a1 T.n1 T.c1, .slice T.a2 T.n2 T.c2, .slice T.a3 T.n3 T.c3] ∧ T.ok W := by
    obtain ⟨fuel, hf⟩ := h0
    exact open_table (by simpa [Value.cells] using hf)
  obtain rfl : cs0 = #[.int .i64 T0.cl, .slice T0.a1 T0.n1 T0.c1, .slice T0.a2 T0.n2 T0.c2, .slice T0.a3 T0.n3 T0.c3] := by cases cs0; simp_all
  obtain ⟨z1, rfl, rfl, rfl, wf1⟩ := open_int Tryd.underlying43 (hval 1 43 v1 rfl rfl) h1
  obtain ⟨zl1, zu1⟩ := wf_u16 wf1
  obtain ⟨a1, rfl⟩ := Int.eq_ofNat_of_zero_le zl1
  obtain ⟨z2, rfl, rfl, rfl, wf2⟩ := open_int Tryd.underlying5 (hval 2 5 v2 rfl rfl) h2
  obtain ⟨zl2, zu2⟩ := wf_u8 wf2
  obtain ⟨a2, rfl⟩ := Int.eq_ofNat_of_zero_le zl2
  clear hA0 hval0
  refine (walk T0 a1 a2 W ok0 (mark_of_laid hL) (by omega) (by omega)).mono fun e W' ⟨he, bel⟩ => ?_
  subst he
  exact ⟨_, rfl, _, _, _, [], _, [], hW', trodAll_mk1 (shut_bool Tryd.underlying4 _), (trodAll_cons_mk (Below.trod laidOut (by kernel_rfl) (of_decide_eq_true (by kernel_rfl)) k0 bel lt0) (trodAll_cons_mk (shut_int Tryd.underlying43 wf1) (trodAll_cons_mk (shut_int Tryd.underlying5 wf2) trodAll_mk0))), rfl, bel.frame _, fun h => by cases h⟩

theorem laid_met (os : Os) : laidMet Tryd.prog Rows.tableCutRow.laid ((laidWorld os).forCall (fun _ _ => 0) ⟨#[], #[.agg #[.int .i64 0, .slice none 0 0, .slice none 0 0, .slice none 0 0], .int .u16 0, .int .u8 0], []⟩).memory :=
  laidMet_of_run' 8 (by kernel_rfl) (by kernel_rfl)
theorem reads (os : Os) {H : Type} (enc : TypeId × Value → H) : ∃ places, DataW.whole enc Tryd.prog ((laidWorld os).forCall (fun _ _ => 0) ⟨#[], #[.agg #[.int .i64 0, .slice none 0 0, .slice none 0 0, .slice none 0 0], .int .u16 0, .int .u8 0], []⟩).memory Tryd.f5.params.toList Rows.tableCutSpec.vars false (#[.agg #[.int .i64 0, .slice none 0 0, .slice none 0 0, .slice none 0 0], .int .u16 0, .int .u8 0] : Array Value).toList 8 = some ([.agg [.lit (.int .i64 0), .nil, .nil, .nil], .lit (.int .u16 0), .lit (.int .u8 0)], [], places) :=
  ⟨[], by kernel_rfl⟩

set_option maxRecDepth 100000 in
theorem lifted (os : Os) (started : os.Started) (H : Type) (enc : TypeId × Value → H) (F : Stop.Interp) :
    ReturnsInHanded {} Tryd.checked os 5 .any ((OpenSpec.ofChange Rows.tableCutSpec).preRow enc Tryd.prog Tryd.f5 Rows.tableCutRow.domain false Rows.tableCutRow.laid) (((OpenSpec.ofChange Rows.tableCutSpec).at F).post enc Tryd.prog Tryd.f5 false true false false) := by
  obtain ⟨places, hx⟩ := reads os enc
  refine returnsInHanded_of_row (C := Tryd.checked) (s := OpenSpec.ofChange Rows.tableCutSpec) own started (by kernel_rfl) Tryd.func5
    (witness_row_at (enc := enc) (C := Tryd.checked) false (laidWorld os) #[.agg #[.int .i64 0, .slice none 0 0, .slice none 0 0, .slice none 0 0], .int .u16 0, .int .u8 0] rfl (by kernel_rfl) (by kernel_rfl) (by kernel_rfl)
      (OpenSpec.preRow_of_cond 8 hx (by kernel_rfl) (fun k hk => by cases hk) (by kernel_rfl) (laid_met os))) ?_
  intro W base args ds gs before hval hW _ _ _ hL _ _
  exact contract H enc W base args ds gs before hval hW hL

set_option maxRecDepth 100000 in
theorem said : Rows.TableCutSaid :=
  OpenClaim.holds_of_cond 5 Tryd.f5 rfl rfl rfl rfl rfl rfl rfl ⟨rfl, rfl, rfl, rfl, rfl⟩ rfl rfl rfl rfl rfl (by kernel_rfl) Tryd.func5 (by kernel_rfl)
    (of_decide_eq_true (by kernel_rfl)) (by unfold Func.isWrapper; first | (rw [if_pos (by decide +kernel)]; kernel_rfl) | (rw [if_neg (by decide +kernel)]; exact ⟨rfl, rfl⟩))
    (fun os started H enc _ F => by rw [OpenClaim.pre_eq_preRow]; exact lifted os started H enc F)

theorem plain (f : FuncId) (fn : Func) (hf : Tryd.pinned.checked.prog.funcNamed Rows.tableCutRow.func = some f) (hfn : Tryd.pinned.checked.prog.funcs[f]? = some fn) :
    false = Tryd.pinned.checked.prog.looks [] ∧ ∀ (j : Nat) t, fn.params[j]? = some t → Tryd.pinned.checked.prog.wantsStandIn t = false := by
  obtain rfl : f = 5 := Option.some.inj ((show Tryd.prog.funcNamed Rows.tableCutRow.func = some 5 by kernel_rfl).symm.trans hf) |>.symm
  obtain rfl : fn = Tryd.f5 := (Option.some.inj (Tryd.func5.symm.trans hfn)).symm
  refine ⟨by kernel_rfl, fun j t ht => ?_⟩
  rw [Tryd.params5] at ht
  have hm : t ∈ [26, 43, 5] := by simpa using Array.mem_of_getElem? ht
  have hall : ([26, 43, 5].all fun u => !Tryd.prog.wantsStandIn u) = true := by kernel_rfl
  exact (show Tryd.prog.wantsStandIn t = false by simpa using List.all_eq_true.1 hall t hm)

theorem card : Rows.TableCutCardSaid :=
  Claim7.holds_tied_plain_at .later [] _ _ _ _ said (fun _ h => by cases h) (by kernel_rfl) (fun _ h => by cases h) tableCut_row_tie rfl ⟨rfl, rfl⟩ (by kernel_rfl) rfl plain (by kernel_rfl)
end Go.Proofs.YtkmkkbilnflpjaaDoor.tableCut

namespace Go.Proofs.YtkmkkbilnflpjaaDoor
/-- The given statement, under a short name. -/
theorem tableCut_holds : Rows.TableCutCardSaid := tableCut.card
#print axioms tableCut_holds
end Go.Proofs.YtkmkkbilnflpjaaDoor
