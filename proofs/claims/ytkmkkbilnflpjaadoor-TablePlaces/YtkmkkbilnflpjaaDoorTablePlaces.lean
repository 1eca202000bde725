/- TablePlaces: each part of every table that Encode takes stands at its place in its bytes: mark, counts, bands, states, bits, sum.
   Conditions: none but the row's own (the mark's variable starts as the program's text lays it). -/
import Derived.Test.YtkmkkbilnflpjaaDoorPMath6
import Derived.Deep.RegionHeld3
import Derived.Deep.CutRange
import Derived.BigQuiet
namespace Go.Proofs.YtkmkkbilnflpjaaDoor.tablePlaces
open Go.ChangeShapes Go.WideShapes Go.ChangeAt Go.RowKit Go.Deep Go.BigFrame
set_option linter.unusedVariables false
set_option linter.unusedSimpArgs false
set_option maxRecDepth 8000 in
set_option maxHeartbeats 4000000 in
theorem walk (T : TV)  (W : World) (hT : T.ok W) (hM : Mark W) :
    Calls Tryd.prog 6 #[T.v] W fun e W' => e = .returned (.bool true) ∧ Below W.heap.size W W' := by
  obtain ⟨i0, hi0, hz0, hz1, hz2⟩ := info_parts info5
  have HLg := Lib.hid (fun V (g : Below W.heap.size W V) => large_any T V (hT.on g))
  obtain ⟨L2, L1, L3⟩ := tb_len T hT
  obtain ⟨cl, a1, n1, c1, bd, a2, n2, c2, hs, a3, n3, c3, br⟩ := T
  simp only [TV.v] at *
  try simp only [] at L1 L2 L3
  have HT := Lib.hid hT
  have HM := Lib.hid hM
  clear hT hM
  go_enter Tryd.func6, Tryd.ntmps6
  go_wp2_with fail
  have p0 : (W.alloc (.cells #[.int .i64 cl, .slice a1 n1 c1, .slice a2 n2 c2, .slice a3 n3 c3] 26)).cell? ⟨W.heap.size, 0, none⟩ = some (.int .i64 cl) := by simp
  have p1 : (W.alloc (.cells #[.int .i64 cl, .slice a1 n1 c1, .slice a2 n2 c2, .slice a3 n3 c3] 26)).cell? ⟨W.heap.size, 1, none⟩ = some (.slice a1 n1 c1) := by simp
  have p2 : (W.alloc (.cells #[.int .i64 cl, .slice a1 n1 c1, .slice a2 n2 c2, .slice a3 n3 c3] 26)).cell? ⟨W.heap.size, 2, none⟩ = some (.slice a2 n2 c2) := by simp
  have p3 : (W.alloc (.cells #[.int .i64 cl, .slice a1 n1 c1, .slice a2 n2 c2, .slice a3 n3 c3] 26)).cell? ⟨W.heap.size, 3, none⟩ = some (.slice a3 n3 c3) := by simp
  have bb := below_new W (.cells #[.int .i64 cl, .slice a1 n1 c1, .slice a2 n2 c2, .slice a3 n3 c3] 26)
  replace HT := Lib.hid (HT.out.on bb)
  replace HM := Lib.hid (HM.out.on bb)
  generalize (W.alloc (.cells #[.int .i64 cl, .slice a1 n1 c1, .slice a2 n2 c2, .slice a3 n3 c3] 26)) = W0 at *
  refine (HLg.out _ bb).mono ?_
  rintro e w1 ⟨q, rfl, g, hq⟩
  have HQ := Lib.hid hq
  clear hq HLg
  replace p0 := kept_cell g p0
  replace p1 := kept_cell g p1
  replace p2 := kept_cell g p2
  replace p3 := kept_cell g p3
  replace HT := Lib.hid (HT.out.on g)
  replace HM := Lib.hid (HM.out.on g)
  replace bb := bb.trans (g.mono bb.size)
  clear g
  cases q
  case true =>
    clear HQ
    go_wp2_with fail
    refine (wakes_any _ HM.out).mono ?_
    rintro e w9 ⟨rfl, g⟩
    replace bb := bb.trans (g.mono bb.size)
    clear g HM
    go_wp2_with fail
    go_ret
    exact ⟨rfl, bb⟩
  have hS := HQ.out rfl
  clear HQ
  go_wp2_with fail
  by_cases hMay : MayT (TV.tb ⟨cl, a1, n1, c1, bd, a2, n2, c2, hs, a3, n3, c3, br⟩)
  case neg =>
    have HEn := Lib.hid (fun V hV hMV => encode_no ⟨cl, a1, n1, c1, bd, a2, n2, c2, hs, a3, n3, c3, br⟩ (encR_no hMay) V hV hS hMV)
    clear hMay hS
    simp only [TV.v] at HEn
    go_wp2_with fail
    refine (HEn.out _ HT.out HM.out).mono ?_
    rintro e w2 ⟨A9, c9, rfl, g⟩
    replace p0 := kept_cell g p0
    replace p1 := kept_cell g p1
    replace p2 := kept_cell g p2
    replace p3 := kept_cell g p3
    replace HT := Lib.hid (HT.out.on g)
    replace HM := Lib.hid (HM.out.on g)
    replace bb := bb.trans (g.mono bb.size)
    clear g
    clear HEn
    go_wp2_with fail
    refine (wakes_any _ HM.out).mono ?_
    rintro e w9 ⟨rfl, g⟩
    replace bb := bb.trans (g.mono bb.size)
    clear g HM
    go_wp2_with fail
    go_ret
    exact ⟨rfl, bb⟩
  obtain ⟨b, hIs, hEnc⟩ := encR_may hMay
  obtain ⟨y, hy, hbX, hbl, hb8, hb5, hXl⟩ := enc_facts hS hIs
  have HEn := Lib.hid (fun V hV hMV => encode_is ⟨cl, a1, n1, c1, bd, a2, n2, c2, hs, a3, n3, c3, br⟩ b b.length hEnc rfl V hV hS hMV)
  simp only [TV.v] at HEn
  have HIs := Lib.hid hIs
  have hc1 : 1 ≤ cl := hMay.c1
  have hn1 : 1 ≤ n2 := by have := hMay.n1; omega
  have HMay := Lib.hid hMay
  clear hIs hEnc hMay
  obtain ⟨cn, rfl⟩ := Int.eq_ofNat_of_zero_le (show 0 ≤ cl by omega)
  have hLn := enc_len HIs.out
  have kc : cn ≤ 255 := by have := HMay.out.c2; simp only [TV.tb] at this; omega
  have k2 : n2 ≤ 255 := by have := HMay.out.n2; omega
  have k1 : n1 ≤ 255 := by have := HMay.out.k1; omega
  have HK3 : Hid (n3 = n2) := Lib.hid (by have := HMay.out.b1; omega)
  have k3 : n3 ≤ 255 := by have := HMay.out.b1; omega
  have HL3' : Hid (br.length = n3) := Lib.hid L3
  have HL2' : Hid ((listsOf hs).length = n2) := Lib.hid L2
  obtain ⟨h4, h5, h6, hmk⟩ := head_at HMay.out hy
  rw [L2] at h5
  rw [L1] at h6
  rw [← hbX] at h4 h5 h6 hmk
  have hcn : (TV.tb ⟨(cn : Int), a1, n1, c1, bd, a2, n2, c2, hs, a3, n3, c3, br⟩).cl.toNat = cn := rfl
  rw [hcn] at h4
  have HBand : Hid (∀ i, (hi : i < bd.length) → ∃ a b' c d : Nat, b[7 + 4 * i]? = some a ∧ b[7 + 4 * i + 1]? = some b' ∧ b[7 + 4 * i + 2]? = some c ∧ b[7 + 4 * i + 3]? = some d ∧ a < 256 ∧ b' < 256 ∧ c < 256 ∧ d < 256 ∧ bd[i].1 = ((a * 65536 + b' * 256 + c : Nat) : Int) ∧ bd[i].2 = (d : Int)) := Lib.hid (fun i hi => by rw [hbX]; exact band_bytes HMay.out i hi)
  have HRow : Hid (∀ s c, (hs' : s < (listsOf hs).length) → c < cn → b[7 + 4 * n1 + cn * s + c]? = (rowB (listsOf hs)[s])[c]?) := Lib.hid (fun s c hs' hc => by
    have h := row_q (y := y) HMay.out s c hs' hc
    rw [L1, hcn] at h
    rw [hbX]; exact h)
  have HBit : Hid (∀ s, (hs' : s < br.length) → ∃ v : Nat, b[7 + 4 * n1 + cn * n2 + s / 8]? = some v ∧ v < 256 ∧ v.testBit (s % 8) = br[s]) := Lib.hid (fun s hs' => by
    have h := bit_byte HMay.out hy s hs'
    rw [L1, hcn, L2] at h
    rw [hbX]; exact h)
  have HNxl : Hid (∀ h ∈ hs, (h.n : Int) = (cn : Int) ∧ ∀ x ∈ h.l, byteI x) := Lib.hid (fun h hh => by
    have hq := HMay.out.nx h.l (List.mem_map.2 ⟨h, hh, rfl⟩)
    exact ⟨by rw [← (HT.out.r2.2.2 h hh).1.1]; exact hq.1, hq.2⟩)
  have HXl := Lib.hid hXl
  have hsl := sumL_lt (bodyB (TV.tb ⟨(cn : Int), a1, n1, c1, bd, a2, n2, c2, hs, a3, n3, c3, br⟩) y)
  obtain ⟨z0, z1, z2, z3, hz, hza, hzb, hzc, hzd, hzv⟩ := low_sum _ hsl
  have hq0 := sum_q (t := (TV.tb ⟨(cn : Int), a1, n1, c1, bd, a2, n2, c2, hs, a3, n3, c3, br⟩)) (y := y) 0 (by decide)
  have hq1 := sum_q (t := (TV.tb ⟨(cn : Int), a1, n1, c1, bd, a2, n2, c2, hs, a3, n3, c3, br⟩)) (y := y) 1 (by decide)
  have hq2 := sum_q (t := (TV.tb ⟨(cn : Int), a1, n1, c1, bd, a2, n2, c2, hs, a3, n3, c3, br⟩)) (y := y) 2 (by decide)
  have hq3 := sum_q (t := (TV.tb ⟨(cn : Int), a1, n1, c1, bd, a2, n2, c2, hs, a3, n3, c3, br⟩)) (y := y) 3 (by decide)
  rw [hz, ← hbX] at hq0 hq1 hq2 hq3
  have hTk : b.take (bodyB (TV.tb ⟨(cn : Int), a1, n1, c1, bd, a2, n2, c2, hs, a3, n3, c3, br⟩) y).length = bodyB (TV.tb ⟨(cn : Int), a1, n1, c1, bd, a2, n2, c2, hs, a3, n3, c3, br⟩) y := by rw [hbX, seal_take]
  obtain ⟨nx, hnx⟩ : ∃ nx, (bodyB (TV.tb ⟨(cn : Int), a1, n1, c1, bd, a2, n2, c2, hs, a3, n3, c3, br⟩) y).length = nx := ⟨_, rfl⟩
  have hbody := body_len HMay.out hy
  rw [hnx] at hbl hb8 hq0 hq1 hq2 hq3 hTk
  have hnxv : nx = 7 + 4 * n1 + cn * n2 + (n2 + 7) / 8 := by
    rw [← hnx, hbody, L1, L2, hcn]; omega
  generalize bodyB (TV.tb ⟨(cn : Int), a1, n1, c1, bd, a2, n2, c2, hs, a3, n3, c3, br⟩) y = X at *
  generalize hsu : sumL X = su at *
  have HSuX := Lib.hid hsu
  clear hsu
  have HTk := Lib.hid hTk
  have HSuV := Lib.hid hzv
  have HQ0 := Lib.hid hq0
  have HQ1 := Lib.hid hq1
  have HQ2 := Lib.hid hq2
  have HQ3 := Lib.hid hq3
  have H4 := Lib.hid h4
  have H5 := Lib.hid h5
  have H6 := Lib.hid h6
  have HMk := Lib.hid hmk
  have HNxv := Lib.hid hnxv
  have HLt0 : Hid (∀ z ∈ b, z < 256) := Lib.hid (by rw [hbX]; exact seal_lt hXl)
  generalize hnb : b.length = nb at *
  have HBn := Lib.hid hnb
  have hl0 : lenI (cn : Int) (n2 : Int) (n1 : Int) = nb := by
    rw [lenI_nat kc k2 k1, hLn, L2, L1]
    rfl
  have HLen := Lib.hid (length_is (cn : Int) n2 n1 nb hl0)
  have HL1' : Hid (bd.length = n1) := Lib.hid L1
  have hnb4 : nx + 4 = nb := by omega
  have hnb11 : 11 ≤ nb := by omega
  clear hLn h4 h5 h6 hmk hbX hXl hy hq0 hq1 hq2 hq3 hTk hbody hnxv hnb hl0 hz hzv hbl hb8 HMay HIs hcn hnx hS L1 L2 L3
  refine (HEn.out _ HT.out HM.out).mono ?_
  rintro e w2 ⟨A2, cc2, rfl, r2, s2, g⟩
  clear HEn
  replace p0 := kept_cell g p0
  replace p1 := kept_cell g p1
  replace p2 := kept_cell g p2
  replace p3 := kept_cell g p3
  replace HT := Lib.hid (HT.out.on g)
  replace HM := Lib.hid (HM.out.on g)
  replace bb := bb.trans (g.mono bb.size)
  clear g
  have HR := Lib.hid r2
  have hcap : nb ≤ cc2 := s2.2.1
  clear r2 s2
  obtain ⟨bA, oA, rfl, hbA, hcA⟩ := HR.out.all (by omega)
  have HCell : Hid (∀ (k v : Nat), b[k]? = some v → w2.cell? ⟨bA, oA + k, none⟩ = some (.int .u8 (v : Int))) := Lib.hid (fun k v hv => by
    obtain ⟨hk, e⟩ := List.getElem?_eq_some_iff.1 hv
    rw [← e]; exact hcA k hk)
  clear hcA
  have y4 := HCell.out 4 cn H4.out
  have y5 := HCell.out 5 n2 H5.out
  have y6 := HCell.out 6 n1 H6.out
  have HMR : Hid (RB w2 w2.heap.size (some ⟨bA, oA, none⟩) 4 markB) := Lib.hid (by
    have h := HR.out.take (k := 4) (by omega)
    rwa [HMk.out] at h)
  have kv := conv_mark (c := cc2) HMR.out
  have bR := Below.refl w2.heap.size w2
  have hca : Hid (∀ V, (V.cell? ⟨W.heap.size, 0, none⟩ = some (.int .i64 cn) ∧ V.cell? ⟨W.heap.size, 1, none⟩ = some (.slice a1 n1 c1) ∧ V.cell? ⟨W.heap.size, 2, none⟩ = some (.slice a2 n2 c2) ∧ V.cell? ⟨bA, oA + 4, none⟩ = some (.int .u8 cn) ∧ V.cell? ⟨bA, oA + 5, none⟩ = some (.int .u8 n2) ∧ V.cell? ⟨bA, oA + 6, none⟩ = some (.int .u8 n1) ∧ (convert 27 9 (.slice (some ⟨bA, oA, none⟩) 4 cc2)).run Tryd.prog V = .ok (.string ⟨#[66, 82, 75, 49]⟩) V ∧ Below w2.heap.size w2 V) → Calls Tryd.prog 19 #[.int .i64 cn, .int .i64 n2, .int .i64 n1] V fun e w' => e = .returned (.int .i64 (nb : Int)) ∧ (w'.cell? ⟨W.heap.size, 0, none⟩ = some (.int .i64 cn) ∧ w'.cell? ⟨W.heap.size, 1, none⟩ = some (.slice a1 n1 c1) ∧ w'.cell? ⟨W.heap.size, 2, none⟩ = some (.slice a2 n2 c2) ∧ w'.cell? ⟨bA, oA + 4, none⟩ = some (.int .u8 cn) ∧ w'.cell? ⟨bA, oA + 5, none⟩ = some (.int .u8 n2) ∧ w'.cell? ⟨bA, oA + 6, none⟩ = some (.int .u8 n1) ∧ (convert 27 9 (.slice (some ⟨bA, oA, none⟩) 4 cc2)).run Tryd.prog w' = .ok (.string ⟨#[66, 82, 75, 49]⟩) w' ∧ Below w2.heap.size w2 w')) := Lib.hid (fun V hV => (HLen.out V).mono (fun e w' h => ⟨h.1, kept_cell h.2 hV.1, kept_cell h.2 hV.2.1, kept_cell h.2 hV.2.2.1, kept_cell h.2 hV.2.2.2.1, kept_cell h.2 hV.2.2.2.2.1, kept_cell h.2 hV.2.2.2.2.2.1, conv_mark (HMR.out.on (hV.2.2.2.2.2.2.2.trans (h.2.mono hV.2.2.2.2.2.2.2.size))), hV.2.2.2.2.2.2.2.trans (h.2.mono hV.2.2.2.2.2.2.2.size)⟩))
  have kvd : (convert 27 9 (.slice (some ⟨bA, oA, none⟩) 4 cc2)).run Tryd.prog w2.drew = .ok (.string ⟨#[66, 82, 75, 49]⟩) w2.drew := conv_mark (HMR.out.on (Below.drew bR))
  have hSd : w2.drew.cell? ⟨W.heap.size, 0, none⟩ = some (.int .i64 cn) ∧ w2.drew.cell? ⟨W.heap.size, 1, none⟩ = some (.slice a1 n1 c1) ∧ w2.drew.cell? ⟨W.heap.size, 2, none⟩ = some (.slice a2 n2 c2) ∧ w2.drew.cell? ⟨bA, oA + 4, none⟩ = some (.int .u8 cn) ∧ w2.drew.cell? ⟨bA, oA + 5, none⟩ = some (.int .u8 n2) ∧ w2.drew.cell? ⟨bA, oA + 6, none⟩ = some (.int .u8 n1) ∧ (convert 27 9 (.slice (some ⟨bA, oA, none⟩) 4 cc2)).run Tryd.prog w2.drew = .ok (.string ⟨#[66, 82, 75, 49]⟩) w2.drew ∧ Below w2.heap.size w2 w2.drew := ⟨p0, p1, p2, y4, y5, y6, kvd, Below.drew bR⟩
  have HSD := Lib.hid hSd
  have i1 : ((nb : Int) != (nb : Int)) = false := by simp
  have i2 : decide ((nb : Int) < 11) = false := by simp; omega
  have i3 : decide (nb < 11) = false := by simp; omega
  have i4 : (4 : Int) ≤ (cc2 : Int) := by omega
  have i5 : 4 ≤ cc2 := by omega
  have i6 : (4 : Int) < (nb : Int) := by omega
  have i7 : (5 : Int) < (nb : Int) := by omega
  have i8 : (6 : Int) < (nb : Int) := by omega
  have j6 : 4 < nb := by omega
  have j7 : 5 < nb := by omega
  have j8 : 6 < nb := by omega
  have w0' : IntKind.i64.wrap (cn : Int) = (cn : Int) := by rw [IntKind.wrap_i64]; omega
  have w1' : IntKind.i64.wrap (n2 : Int) = (n2 : Int) := by rw [IntKind.wrap_i64]; omega
  have w2' : IntKind.i64.wrap (n1 : Int) = (n1 : Int) := by rw [IntKind.wrap_i64]; omega
  have c0' : ((cn : Int) != (cn : Int)) = false := by simp
  have c1' : ((n2 : Int) != (n2 : Int)) = false := by simp
  have c2' : ((n1 : Int) != (n1 : Int)) = false := by simp
  clear hSd kvd HMR kv y4 y5 y6
  go_upto_region 6 with (fail)
  go_cut [79] from 28 to 80 (fun v wx => v = .bool false ∧ wx.cell? ⟨W.heap.size, 0, none⟩ = some (.int .i64 cn) ∧ wx.cell? ⟨W.heap.size, 1, none⟩ = some (.slice a1 n1 c1) ∧ wx.cell? ⟨W.heap.size, 2, none⟩ = some (.slice a2 n2 c2) ∧ wx.cell? ⟨bA, oA + 4, none⟩ = some (.int .u8 cn) ∧ wx.cell? ⟨bA, oA + 5, none⟩ = some (.int .u8 n2) ∧ wx.cell? ⟨bA, oA + 6, none⟩ = some (.int .u8 n1) ∧ (convert 27 9 (.slice (some ⟨bA, oA, none⟩) 4 cc2)).run Tryd.prog wx = .ok (.string ⟨#[66, 82, 75, 49]⟩) wx ∧ Below w2.heap.size w2 wx)
  case first =>
    go_region_held3 (fun V => V.cell? ⟨W.heap.size, 0, none⟩ = some (.int .i64 cn) ∧ V.cell? ⟨W.heap.size, 1, none⟩ = some (.slice a1 n1 c1) ∧ V.cell? ⟨W.heap.size, 2, none⟩ = some (.slice a2 n2 c2) ∧ V.cell? ⟨bA, oA + 4, none⟩ = some (.int .u8 cn) ∧ V.cell? ⟨bA, oA + 5, none⟩ = some (.int .u8 n2) ∧ V.cell? ⟨bA, oA + 6, none⟩ = some (.int .u8 n1) ∧ (convert 27 9 (.slice (some ⟨bA, oA, none⟩) 4 cc2)).run Tryd.prog V = .ok (.string ⟨#[66, 82, 75, 49]⟩) V ∧ Below w2.heap.size w2 V) (with_reducible (first | assumption | exact HSD.out)) (first | (go_at_call 19; with_reducible refine Calls.mono (hca.out _ ?_) ?_; (with_reducible (first | assumption | exact HSD.out)); rintro e w3 ⟨rfl, hS3⟩))
    go_wp2_with fail
    go_meet
    exact ⟨rfl, hS3⟩
  obtain ⟨rfl, p0, p1, p2, _, _, _, _, g⟩ := hcut
  clear hca HSD HLen bR
  have HCell' : Hid (∀ (k v : Nat), b[k]? = some v → wc.cell? ⟨bA, oA + k, none⟩ = some (.int .u8 (v : Int))) := Lib.hid (fun k v hv => kept_cell g (HCell.out k v hv))
  clear HCell
  replace p3 := kept_cell g p3
  replace HT := Lib.hid (HT.out.on g)
  replace HM := Lib.hid (HM.out.on g)
  replace HR := Lib.hid (HR.out.on g)
  replace bb := bb.trans (g.mono bb.size)
  clear g
  clear i1 i2 i3 i4 i5 i6 i7 i8 j6 j7 j8 w0' w1' w2' c0' c1' c2' H4 H5 H6 HMk
  go_wp2_with fail
  go_loopw [5, 6] (fun va vi wr => ∃ (k a q : Nat), k ≤ n1 ∧ vi = .int .i64 k ∧ va = .int .i64 a ∧ Hid (a = 7 + 4 * k) ∧ a ≤ 7 + 4 * n1 ∧ wr = wc.drewN q) (fun _ i _ => n1 - (intOf i).toNat)
  case atStart => exact ⟨0, 7, 0, Nat.zero_le _, rfl, rfl, Lib.hid rfl, by omega, rfl⟩
  case round =>
    obtain ⟨k, a, q, hk, rfl, rfl, HA, ha, rfl⟩ := hrel
    by_cases hlt : k < n1
    · skip
      have kl : k < bd.length := by rw [HL1'.out]; exact hlt
      obtain ⟨ya, yb, yc, yd, qa, qb, qc, qd, la, lb, lc, ld, hF, hC⟩ := HBand.out k kl
      rw [← HA.out] at qa qb qc qd
      have m0 := HCell'.out _ _ qa
      have m1 := HCell'.out _ _ qb
      have m2 := HCell'.out _ _ qc
      have m3 := HCell'.out _ _ qd
      obtain ⟨bB, oB, rfl, _, s0, s1⟩ := HT.out.r1.at kl
      rw [hF] at s0
      rw [hC] at s1
      have han : a + 4 ≤ nb := by
        have h1 := HNxv.out
        have h2 := HA.out
        omega
      obtain ⟨F, hFv⟩ : ∃ F, ya * 65536 + yb * 256 + yc = F := ⟨_, rfl⟩
      rw [hFv] at s0
      obtain ⟨va, hva⟩ : ∃ v, ya * 65536 = v := ⟨_, rfl⟩
      obtain ⟨vb, hvb⟩ : ∃ v, yb * 256 = v := ⟨_, rfl⟩
      obtain ⟨vc, hvc⟩ : ∃ v, va + vb = v := ⟨_, rfl⟩
      have f1 : (ya : Int) * 65536 = (va : Int) := by omega
      have f2 : (yb : Int) * 256 = (vb : Int) := by omega
      have f3 : (va : Int) + (vb : Int) = (vc : Int) := by omega
      have f4 : (vc : Int) + (yc : Int) = (F : Int) := by omega
      have f5 : IntKind.i64.wrap (va : Int) = (va : Int) := by rw [IntKind.wrap_i64]; omega
      have f6 : IntKind.i64.wrap (vb : Int) = (vb : Int) := by rw [IntKind.wrap_i64]; omega
      have f7 : IntKind.i64.wrap (vc : Int) = (vc : Int) := by rw [IntKind.wrap_i64]; omega
      have f8 : IntKind.i64.wrap (F : Int) = (F : Int) := by rw [IntKind.wrap_i64]; omega
      have f9 : IntKind.i64.wrap (ya : Int) = (ya : Int) := by rw [IntKind.wrap_i64]; omega
      have f10 : IntKind.i64.wrap (yb : Int) = (yb : Int) := by rw [IntKind.wrap_i64]; omega
      have f11 : IntKind.i64.wrap (yc : Int) = (yc : Int) := by rw [IntKind.wrap_i64]; omega
      have f12 : IntKind.i64.wrap (yd : Int) = (yd : Int) := by rw [IntKind.wrap_i64]; omega
      have g1 : IntKind.i64.wrap ((a : Int) + 1) = (a : Int) + 1 := by rw [IntKind.wrap_i64]; omega
      have g2 : IntKind.i64.wrap ((a : Int) + 2) = (a : Int) + 2 := by rw [IntKind.wrap_i64]; omega
      have g3 : IntKind.i64.wrap ((a : Int) + 3) = (a : Int) + 3 := by rw [IntKind.wrap_i64]; omega
      have d0 : (0 : Int) ≤ (a : Int) := by omega
      have d1 : (a : Int) < (nb : Int) := by omega
      have d2 : (a : Int) + 1 < (nb : Int) := by omega
      have d3 : (a : Int) + 2 < (nb : Int) := by omega
      have d4 : (a : Int) + 3 < (nb : Int) := by omega
      have e0 : (0 : Int) ≤ (k : Int) := by omega
      have e1 : (k : Int) < (n1 : Int) := by omega
      have n1' : ((F : Int) != (F : Int)) = false := by simp
      have n2' : ((yd : Int) != (yd : Int)) = false := by simp
      clear hva hvb hvc hFv hF hC qa qb qc qd
      go_wp2_with fail
      go_quiet (fail)
      go_wp2_with fail
      go_roundw
      case rel => exact ⟨k + 1, a + 4, _, by omega, by go_num, by go_num, Lib.hid (by have := HA.out; omega), by have := HA.out; omega, rfl⟩
      case measure => simp [intOf]; omega
    · skip
      have HA2 : Hid (a = 7 + 4 * n1) := Lib.hid (by have := HA.out; omega)
      clear HA HBand
      have HTq := HT.out.r2
      go_wp2_with fail
      go_loopw [5, 7] (fun va vi wr => ∃ (s a q : Nat), s ≤ n2 ∧ vi = .int .i64 s ∧ va = .int .i64 a ∧ Hid (a = 7 + 4 * n1 + cn * s) ∧ a ≤ nb ∧ wr = wc.drewN q) (fun _ i _ => n2 - (intOf i).toNat)
      case atStart => exact ⟨0, a, q, Nat.zero_le _, rfl, rfl, Lib.hid (by have := HA2.out; omega), by have := HNxv.out; have := HA2.out; omega, rfl⟩
      case round =>
        clear HA2
        obtain ⟨s, a, q, hs', rfl, rfl, HA, ha, rfl⟩ := hrel
        by_cases hlt2 : s < n2
        · skip
          have sl : s < hs.length := by have := HL2'.out; rw [listsOf_len] at this; omega
          obtain ⟨bN, oN, eN, _, t0, pr, _⟩ := HTq.at sl
          obtain ⟨hxn, hxb⟩ := HNxl.out hs[s] (List.getElem_mem sl)
          have HRw : Hid (∀ c, c < cn → b[7 + 4 * n1 + cn * s + c]? = (rowB hs[s].l)[c]?) := Lib.hid (fun c hc => by
            have h := HRow.out s c (by rw [listsOf_len]; exact sl) hc
            rw [h]
            simp [listsOf])
          have HXb := Lib.hid hxb
          have HPr := Lib.hid pr
          have hpl := pr.1
          generalize hs[s] = x at *
          obtain ⟨xa, xn, xc, xs⟩ := x
          simp only [] at t0 HPr HRw HXb hxn hpl
          obtain rfl : xn = cn := by omega
          subst eN
          have HXl2 := Lib.hid hpl
          have hnxt : a + xn ≤ nb := by
            have h1 := HA.out
            have h2 := HNxv.out
            have h3 := Nat.mul_le_mul_left xn hlt2
            rw [Nat.mul_succ] at h3
            omega
          clear pr hxb hpl hxn
          go_wp2_with fail
          go_loopw [5, 8] (fun va vi wr => ∃ (c a' q : Nat), c ≤ xn ∧ vi = .int .i64 c ∧ va = .int .i64 a' ∧ Hid (a' = a + c) ∧ a' ≤ nb ∧ wr = wc.drewN q) (fun _ i _ => xn - (intOf i).toNat)
          case atStart => exact ⟨0, a, q, Nat.zero_le _, rfl, rfl, Lib.hid rfl, ha, rfl⟩
          case round =>
            obtain ⟨c, a', q, hc, rfl, rfl, HA', ha', rfl⟩ := hrel
            by_cases hlt3 : c < xn
            · skip
              have cl' : c < xs.length := by rw [HXl2.out]; exact hlt3
              obtain ⟨bX, oX, rfl, _, u0⟩ := HPr.out.at cl'
              have hby := HXb.out xs[c] (List.getElem_mem cl')
              have hbq := HRw.out c hlt3
              rw [show 7 + 4 * n1 + xn * s + c = a' by have := HA.out; have := HA'.out; omega] at hbq
              have hrb : (rowB xs)[c]? = some xs[c].toNat := by unfold rowB; rw [List.getElem?_map, List.getElem?_eq_getElem cl']; rfl
              rw [hrb] at hbq
              have m0 := HCell'.out _ _ hbq
              generalize xs[c] = v at *
              obtain ⟨v, rfl⟩ := Int.eq_ofNat_of_zero_le hby.1
              rw [Int.toNat_natCast] at m0
              have hvl : v ≤ 255 := by have := hby.2; omega
              have han : a' < nb := by have := HA'.out; omega
              have f9 : IntKind.i64.wrap (v : Int) = (v : Int) := by rw [IntKind.wrap_i64]; omega
              have d0 : (0 : Int) ≤ (a' : Int) := by omega
              have d1 : (a' : Int) < (nb : Int) := by omega
              have e0 : (0 : Int) ≤ (s : Int) := by omega
              have e1 : (s : Int) < (n2 : Int) := by omega
              have e2 : (0 : Int) ≤ (c : Int) := by omega
              have e3 : (c : Int) < (xn : Int) := by omega
              have nn' : ((v : Int) != (v : Int)) = false := by simp
              clear hby hbq hrb
              go_wp2_with fail
              go_quiet (fail)
              go_wp2_with fail
              go_roundw
              case rel => exact ⟨c + 1, a' + 1, _, by omega, by go_num, by go_num, Lib.hid (by have := HA'.out; omega), by omega, rfl⟩
              case measure => simp [intOf]; omega
            · skip
              go_wp2_with fail
              go_roundw
              case rel => exact ⟨s + 1, a', q, by omega, by go_num, rfl, Lib.hid (by have h1 := HA.out; have h2 := HA'.out; rw [Nat.mul_succ]; omega), ha', rfl⟩
              case measure => simp [intOf]; omega
        · skip
          have HA3 : Hid (a = 7 + 4 * n1 + cn * n2) := Lib.hid (by have h := HA.out; rwa [show s = n2 by omega] at h)
          clear HA HRow HNxl
          have HLq := HT.out.r3
          go_wp2_with fail
          go_loopw [9] (fun vi wr => ∃ (s q : Nat), s ≤ n3 ∧ vi = .int .i64 s ∧ wr = wc.drewN q) (fun i _ => n3 - (intOf i).toNat)
          case atStart => exact ⟨0, q, Nat.zero_le _, rfl, rfl⟩
          case round =>
            obtain ⟨s, q, hs', rfl, rfl⟩ := hrel
            by_cases hlt4 : s < n3
            · skip
              have sl : s < br.length := by rw [HL3'.out]; exact hlt4
              obtain ⟨v, qv, hv, htb⟩ := HBit.out s sl
              rw [← HA3.out] at qv
              have m0 := HCell'.out _ _ qv
              obtain ⟨bL, oL, rfl, _, u0⟩ := HLq.at sl
              have hbt := bit_test v (s % 8) hv
              rw [htb] at hbt
              generalize br[s] = bs at *
              obtain ⟨j, hj⟩ : ∃ j, s / 8 = j := ⟨_, rfl⟩
              obtain ⟨r, hr⟩ : ∃ r, s % 8 = r := ⟨_, rfl⟩
              rw [hj] at m0
              rw [hr] at hbt
              have haj : a + j < nb := by
                have h1 := HA3.out
                have h2 := HNxv.out
                have h3 := HK3.out
                omega
              have hr8 : r < 8 := by omega
              have f1 : (s : Int) / 8 = (j : Int) := by omega
              have f2 : IntKind.i64.wrap (j : Int) = (j : Int) := by rw [IntKind.wrap_i64]; omega
              have f3 : bits .and .i64 (s : Int) 7 = (r : Int) := by rw [and_i64_7 s (by omega), hr]
              have f4 : IntKind.u64.wrap (r : Int) = (r : Int) := by simp [IntKind.wrap, IntKind.bits, IntKind.signed]; omega
              have f5 : IntKind.i64.wrap ((a : Int) + (j : Int)) = (a : Int) + (j : Int) := by rw [IntKind.wrap_i64]; omega
              have d0 : (0 : Int) ≤ (a : Int) + (j : Int) := by omega
              have d1 : (a : Int) + (j : Int) < (nb : Int) := by omega
              have d2 : (0 : Int) ≤ (r : Int) := by omega
              have d3 : (r : Int) < 64 := by omega
              have d4 : ¬ (r : Int) < 0 := by omega
              have d5 : min r 8 = r := by omega
              have e0 : (0 : Int) ≤ (s : Int) := by omega
              have e1 : (s : Int) < (n3 : Int) := by omega
              have nn' : (bs != bs) = false := by simp
              have nn2 : (!bs == bs) = false := by cases bs <;> rfl
              clear hj hr htb qv
              go_wp2_with fail
              go_quiet (fail)
              go_wp2_with fail
              go_roundw
              case rel => exact ⟨s + 1, _, by omega, by go_num, rfl⟩
              case measure => simp [intOf]; omega
            · skip
              have gq : Below wc.heap.size wc (wc.drewN q) := below_drewN (Below.refl _ _) _
              have HSm := Lib.hid (refSum_any X nx (some ⟨bA, oA, none⟩) cc2 (wc.drewN q) (by
                have h := (HR.out.on gq).take (k := nx) (by omega)
                rwa [HTk.out] at h) (by omega))
              rw [HSuX.out] at HSm
              have m0 : (wc.drewN q).cell? ⟨bA, oA + nx, none⟩ = some (.int .u8 (z0 : Int)) := kept_cell gq (HCell'.out nx z0 (by have h := HQ0.out; rwa [Nat.add_zero] at h))
              have m1 : (wc.drewN q).cell? ⟨bA, oA + nx + 1, none⟩ = some (.int .u8 (z1 : Int)) := by rw [Nat.add_assoc]; exact kept_cell gq (HCell'.out (nx + 1) z1 HQ1.out)
              have m2 : (wc.drewN q).cell? ⟨bA, oA + nx + 2, none⟩ = some (.int .u8 (z2 : Int)) := by rw [Nat.add_assoc]; exact kept_cell gq (HCell'.out (nx + 2) z2 HQ2.out)
              have m3 : (wc.drewN q).cell? ⟨bA, oA + nx + 3, none⟩ = some (.int .u8 (z3 : Int)) := by rw [Nat.add_assoc]; exact kept_cell gq (HCell'.out (nx + 3) z3 HQ3.out)
              replace bb := bb.trans (gq.mono bb.size)
              replace HM := Lib.hid (HM.out.on gq)
              replace p3 := kept_cell gq p3
              have hsv := HSuV.out
              obtain ⟨v0, hv0⟩ : ∃ v, z0 * 16777216 = v := ⟨_, rfl⟩
              obtain ⟨v1, hv1⟩ : ∃ v, z1 * 65536 = v := ⟨_, rfl⟩
              obtain ⟨v2, hv2⟩ : ∃ v, z2 * 256 = v := ⟨_, rfl⟩
              obtain ⟨u1, hu1⟩ : ∃ v, v0 + v1 = v := ⟨_, rfl⟩
              obtain ⟨u2, hu2⟩ : ∃ v, u1 + v2 = v := ⟨_, rfl⟩
              have f1 : (z0 : Int) * 16777216 = (v0 : Int) := by omega
              have f2 : (z1 : Int) * 65536 = (v1 : Int) := by omega
              have f3 : (z2 : Int) * 256 = (v2 : Int) := by omega
              have f4 : (v0 : Int) + (v1 : Int) = (u1 : Int) := by omega
              have f5 : (u1 : Int) + (v2 : Int) = (u2 : Int) := by omega
              have f6 : (u2 : Int) + (z3 : Int) = (su : Int) := by omega
              have w1 : ∀ x : Nat, x < 4294967296 → IntKind.u32.wrap (x : Int) = (x : Int) := fun x hx => by simp [IntKind.wrap, IntKind.bits, IntKind.signed]; omega
              have g1 := w1 v0 (by omega)
              have g2 := w1 v1 (by omega)
              have g3 := w1 v2 (by omega)
              have g4 := w1 u1 (by omega)
              have g5 := w1 u2 (by omega)
              have g6 := w1 su (by omega)
              have g7 := w1 z0 (by omega)
              have g8 := w1 z1 (by omega)
              have g9 := w1 z2 (by omega)
              have g10 := w1 z3 (by omega)
              have q0 : (v0 : Int) % 4294967296 = (v0 : Int) := by omega
              have q1 : (v1 : Int) % 4294967296 = (v1 : Int) := by omega
              have q2 : (v2 : Int) % 4294967296 = (v2 : Int) := by omega
              have q3 : (u1 : Int) % 4294967296 = (u1 : Int) := by omega
              have q4 : (u2 : Int) % 4294967296 = (u2 : Int) := by omega
              have q5 : (su : Int) % 4294967296 = (su : Int) := by omega
              have q6 : (z0 : Int) % 4294967296 = (z0 : Int) := by omega
              have q7 : (z1 : Int) % 4294967296 = (z1 : Int) := by omega
              have q8 : (z2 : Int) % 4294967296 = (z2 : Int) := by omega
              have q9 : (z3 : Int) % 4294967296 = (z3 : Int) := by omega
              have e4 : (nb : Int) - 4 = (nx : Int) := by omega
              have d0 : (0 : Int) ≤ (nx : Int) := by omega
              have d1 : (nx : Int) ≤ (nb : Int) := by omega
              have d2 : (nx : Int) ≤ (cc2 : Int) := by omega
              have d3 : ¬ cc2 = nx := by omega
              have d4 : nx ≤ nb := by omega
              have d5 : ¬ nx = 0 := by omega
              have d6 : nb - nx = 4 := by omega
              have ee : ((su : Int) == (su : Int)) = true := by simp
              clear hsv hv0 hv1 hv2 hu1 hu2 w1 HCell' HQ0 HQ1 HQ2 HQ3 HBit HLq HTq HR HT HA3 HTk
              generalize wc.drewN q = wd at *
              go_wp2_with fail
              refine HSm.out.mono ?_
              rintro e we ⟨rfl, rfl⟩
              clear HSm
              have bR := Below.refl we.heap.size we
              have hwk : Hid (∀ V, (V.cell? ⟨bA, oA + nx, none⟩ = some (.int .u8 (z0 : Int)) ∧ V.cell? ⟨bA, oA + nx + 1, none⟩ = some (.int .u8 (z1 : Int)) ∧ V.cell? ⟨bA, oA + nx + 2, none⟩ = some (.int .u8 (z2 : Int)) ∧ V.cell? ⟨bA, oA + nx + 3, none⟩ = some (.int .u8 (z3 : Int)) ∧ Below we.heap.size we V) → Calls Tryd.prog 10 #[] V fun e w' => e = .returned (.bool true) ∧ (w'.cell? ⟨bA, oA + nx, none⟩ = some (.int .u8 (z0 : Int)) ∧ w'.cell? ⟨bA, oA + nx + 1, none⟩ = some (.int .u8 (z1 : Int)) ∧ w'.cell? ⟨bA, oA + nx + 2, none⟩ = some (.int .u8 (z2 : Int)) ∧ w'.cell? ⟨bA, oA + nx + 3, none⟩ = some (.int .u8 (z3 : Int)) ∧ Below we.heap.size we w')) := Lib.hid (fun V hV => (wakes_any V (HM.out.on hV.2.2.2.2)).mono (fun e w' h => ⟨h.1, kept_cell h.2 hV.1, kept_cell h.2 hV.2.1, kept_cell h.2 hV.2.2.1, kept_cell h.2 hV.2.2.2.1, hV.2.2.2.2.trans (h.2.mono hV.2.2.2.2.size)⟩))
              have HSD2 := Lib.hid (show we.drew.cell? ⟨bA, oA + nx, none⟩ = some (.int .u8 (z0 : Int)) ∧ we.drew.cell? ⟨bA, oA + nx + 1, none⟩ = some (.int .u8 (z1 : Int)) ∧ we.drew.cell? ⟨bA, oA + nx + 2, none⟩ = some (.int .u8 (z2 : Int)) ∧ we.drew.cell? ⟨bA, oA + nx + 3, none⟩ = some (.int .u8 (z3 : Int)) ∧ Below we.heap.size we we.drew from ⟨m0, m1, m2, m3, Below.drew bR⟩)
              go_wp2_with fail
              go_region_held3 (fun V => V.cell? ⟨bA, oA + nx, none⟩ = some (.int .u8 (z0 : Int)) ∧ V.cell? ⟨bA, oA + nx + 1, none⟩ = some (.int .u8 (z1 : Int)) ∧ V.cell? ⟨bA, oA + nx + 2, none⟩ = some (.int .u8 (z2 : Int)) ∧ V.cell? ⟨bA, oA + nx + 3, none⟩ = some (.int .u8 (z3 : Int)) ∧ Below we.heap.size we V) (with_reducible (first | assumption | exact HSD2.out)) (first | (go_at_call 10; with_reducible refine Calls.mono (hwk.out _ ?_) ?_; (with_reducible (first | assumption | exact HSD2.out)); rintro e wz ⟨rfl, hSz⟩))
              go_wp2_with fail
              go_ret
              exact ⟨rfl, bb.trans (hSz.2.2.2.2.mono bb.size)⟩

/-! From the walk to the row and its card. -/
set_option maxRecDepth 100000 in
theorem contract (H : Type) (enc : TypeId × Value → H) (W : World) (base : Nat) (args : Array Value) (ds gs : List (DataW H)) (before : List MemPlace)
    (hval0 : ∀ (j : Nat) t v, Tryd.f6.params[j]? = some t → args[j]? = some v → Value.okWide Tryd.prog W .any base t v)
    (hW : DataW.Whole enc Tryd.prog Tryd.f6.params.toList Rows.tablePlacesSpec.vars false W args.toList ds gs before) (hL : laidMetH Tryd.prog Rows.tablePlacesRow.laid W) :
    Calls Tryd.prog 6 args W fun e W' => ∃ v, e = .returned v ∧ Rows.tablePlacesSpec.post enc Tryd.prog Tryd.f6 false true false false W args v W' := by
  have hval : ∀ (j : Nat) t v, Tryd.f6.params[j]? = some t → args[j]? = some v → Value.okWide Tryd.prog W .any base t v := hval0
  have hW' := hW
  obtain ⟨p, q, hA0, hV, rfl, hfz, hnd⟩ := hW
  have hA : DataW.TrodAll enc Tryd.prog W 0 (fun _ => true) true Tryd.f6.params.toList args.toList ds p := hA0
  rw [Tryd.params6] at hA hval
  obtain ⟨v0, vs0, d0, ds0, p0, q0, hargs, rfl, rfl, h0, r0⟩ := trodAll_cons hA
  obtain ⟨rfl, rfl, rfl⟩ := trodAll_nil r0
  obtain rfl : args = #[v0] := by cases args; simp_all
  obtain ⟨rfl, rfl⟩ := trodVars_none hV
  obtain ⟨cs0, rfl, _⟩ := okWide_struct Tryd.underlying26 (hval 0 26 v0 rfl rfl)
  have k0 := h0
  have lt0 : ∀ x ∈ p0, x.block < W.heap.size := by obtain ⟨m, hm⟩ := k0; exact DataW.trod_lt m _ _ _ hm
  obtain ⟨T0, e0, ok0⟩ : ∃ T : TV, cs0.toList = [.int .i64 T.cl, .slice T.a1 T.n1 T.c1, .slice T.a2 T.n2 T.c2, .slice T.a3 T.n3 T.c3] ∧ T.ok W := by
    obtain ⟨fuel, hf⟩ := h0
    exact open_table (by simpa [Value.cells] using hf)
  obtain rfl : cs0 = #[.int .i64 T0.cl, .slice T0.a1 T0.n1 T0.c1, .slice T0.a2 T0.n2 T0.c2, .slice T0.a3 T0.n3 T0.c3] := by cases cs0; simp_all
  clear hA0 hval0
  refine (walk T0 W ok0 (mark_of_laid hL)).mono fun e W' ⟨he, bel⟩ => ?_
  subst he
  exact ⟨_, rfl, _, _, _, [], _, [], hW', trodAll_mk1 (shut_bool Tryd.underlying4 _), (trodAll_cons_mk (Below.trod laidOut (by kernel_rfl) (of_decide_eq_true (by kernel_rfl)) k0 bel lt0) trodAll_mk0), rfl, bel.frame _, fun h => by cases h⟩

theorem laid_met (os : Os) : laidMet Tryd.prog Rows.tablePlacesRow.laid ((laidWorld os).forCall (fun _ _ => 0) ⟨#[], #[.agg #[.int .i64 0, .slice none 0 0, .slice none 0 0, .slice none 0 0]], []⟩).memory :=
  laidMet_of_run' 8 (by kernel_rfl) (by kernel_rfl)
theorem reads (os : Os) {H : Type} (enc : TypeId × Value → H) : ∃ places, DataW.whole enc Tryd.prog ((laidWorld os).forCall (fun _ _ => 0) ⟨#[], #[.agg #[.int .i64 0, .slice none 0 0, .slice none 0 0, .slice none 0 0]], []⟩).memory Tryd.f6.params.toList Rows.tablePlacesSpec.vars false (#[.agg #[.int .i64 0, .slice none 0 0, .slice none 0 0, .slice none 0 0]] : Array Value).toList 8 = some ([.agg [.lit (.int .i64 0), .nil, .nil, .nil]], [], places) :=
  ⟨[], by kernel_rfl⟩

set_option maxRecDepth 100000 in
theorem lifted (os : Os) (started : os.Started) (H : Type) (enc : TypeId × Value → H) (F : Stop.Interp) :
    ReturnsInHanded {} Tryd.checked os 6 .any ((OpenSpec.ofChange Rows.tablePlacesSpec).preRow enc Tryd.prog Tryd.f6 Rows.tablePlacesRow.domain false Rows.tablePlacesRow.laid) (((OpenSpec.ofChange Rows.tablePlacesSpec).at F).post enc Tryd.prog Tryd.f6 false true false false) := by
  obtain ⟨places, hx⟩ := reads os enc
  refine returnsInHanded_of_row (C := Tryd.checked) (s := OpenSpec.ofChange Rows.tablePlacesSpec) own started (by kernel_rfl) Tryd.func6
    (witness_row_at (enc := enc) (C := Tryd.checked) false (laidWorld os) #[.agg #[.int .i64 0, .slice none 0 0, .slice none 0 0, .slice none 0 0]] rfl (by kernel_rfl) (by kernel_rfl) (by kernel_rfl)
      (OpenSpec.preRow_of_cond 8 hx (by kernel_rfl) (fun k hk => by cases hk) (by kernel_rfl) (laid_met os))) ?_
  intro W base args ds gs before hval hW _ _ _ hL _ _
  exact contract H enc W base args ds gs before hval hW hL

set_option maxRecDepth 100000 in
theorem said : Rows.TablePlacesSaid :=
  OpenClaim.holds_of_cond 6 Tryd.f6 rfl rfl rfl rfl rfl rfl rfl ⟨rfl, rfl, rfl, rfl, rfl⟩ rfl rfl rfl rfl rfl (by kernel_rfl) Tryd.func6 (by kernel_rfl)
    (of_decide_eq_true (by kernel_rfl)) (by unfold Func.isWrapper; first | (rw [if_pos (by decide +kernel)]; kernel_rfl) | (rw [if_neg (by decide +kernel)]; exact ⟨rfl, rfl⟩))
    (fun os started H enc _ F => by rw [OpenClaim.pre_eq_preRow]; exact lifted os started H enc F)

theorem plain (f : FuncId) (fn : Func) (hf : Tryd.pinned.checked.prog.funcNamed Rows.tablePlacesRow.func = some f) (hfn : Tryd.pinned.checked.prog.funcs[f]? = some fn) :
    false = Tryd.pinned.checked.prog.looks [] ∧ ∀ (j : Nat) t, fn.params[j]? = some t → Tryd.pinned.checked.prog.wantsStandIn t = false := by
  obtain rfl : f = 6 := Option.some.inj ((show Tryd.prog.funcNamed Rows.tablePlacesRow.func = some 6 by kernel_rfl).symm.trans hf) |>.symm
  obtain rfl : fn = Tryd.f6 := (Option.some.inj (Tryd.func6.symm.trans hfn)).symm
  refine ⟨by kernel_rfl, fun j t ht => ?_⟩
  rw [Tryd.params6] at ht
  have hm : t ∈ [26] := by simpa using Array.mem_of_getElem? ht
  have hall : ([26].all fun u => !Tryd.prog.wantsStandIn u) = true := by kernel_rfl
  exact (show Tryd.prog.wantsStandIn t = false by simpa using List.all_eq_true.1 hall t hm)

theorem card : Rows.TablePlacesCardSaid :=
  Claim7.holds_tied_plain_at .later [] _ _ _ _ said (fun _ h => by cases h) (by kernel_rfl) (fun _ h => by cases h) tablePlaces_row_tie rfl ⟨rfl, rfl⟩ (by kernel_rfl) rfl plain (by kernel_rfl)
end Go.Proofs.YtkmkkbilnflpjaaDoor.tablePlaces

namespace Go.Proofs.YtkmkkbilnflpjaaDoor
/-- The given statement, under a short name. -/
theorem tablePlaces_holds : Rows.TablePlacesCardSaid := tablePlaces.card
#print axioms tablePlaces_holds
end Go.Proofs.YtkmkkbilnflpjaaDoor
