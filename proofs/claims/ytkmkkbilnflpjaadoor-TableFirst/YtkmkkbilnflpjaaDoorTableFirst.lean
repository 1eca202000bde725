/- TableFirst: of bytes of a table whose counts may be that are wrong in several ways at once Decode tells the first: too short ahead of the mark, that ahead of the sum, that ahead of the counts, these ahead of the bits.
   Conditions: none but the row's own (the mark's variable starts as the program's text lays it). -/
import Derived.Test.YtkmkkbilnflpjaaDoorLawKit4
import Derived.Deep.RegionHeld3
import Derived.Deep.Cut
namespace Go.Proofs.YtkmkkbilnflpjaaDoor.tableFirst
open Go.ChangeShapes Go.WideShapes Go.ChangeAt Go.RowKit Go.Deep Go.BigFrame
set_option linter.unusedVariables false
set_option linter.unusedSimpArgs false
set_option maxRecDepth 8000 in
set_option maxHeartbeats 4000000 in
theorem walk (T : TV) (x0 x1 : Nat) (W : World) (hT : T.ok W) (hM : Mark W) (hx0 : x0 < 256) (hx1 : x1 < 256) :
    Calls Tryd.prog 7 #[T.v, .agg #[.int .u8 (x0 : Int), .int .u8 (x1 : Int)]] W fun e W' => e = .returned (.bool true) ∧ Below W.heap.size W W' := by
  obtain ⟨i0, hi0, hz0, hz1, hz2⟩ := info_parts info5
  have HLg := Lib.hid (fun V (g : Below W.heap.size W V) => large_any T V (hT.on g))
  obtain ⟨L2, L1, L3⟩ := tb_len T hT
  obtain ⟨cl, a1, n1, c1, bd, a2, n2, c2, hs, a3, n3, c3, br⟩ := T
  simp only [TV.v] at *
  try simp only [] at L1 L2 L3
  have HT := Lib.hid hT
  have HM := Lib.hid hM
  clear hT hM
  go_enter Tryd.func7, Tryd.ntmps7
  go_wp2_with fail
  have p0 : ((W.alloc (.cells #[.int .i64 cl, .slice a1 n1 c1, .slice a2 n2 c2, .slice a3 n3 c3] 26)).alloc (.cells #[.int .u8 (x0 : Int), .int .u8 (x1 : Int)] 54)).cell? ⟨W.heap.size, 0, none⟩ = some (.int .i64 cl) := by simp
  have p1 : ((W.alloc (.cells #[.int .i64 cl, .slice a1 n1 c1, .slice a2 n2 c2, .slice a3 n3 c3] 26)).alloc (.cells #[.int .u8 (x0 : Int), .int .u8 (x1 : Int)] 54)).cell? ⟨W.heap.size, 1, none⟩ = some (.slice a1 n1 c1) := by simp
  have p2 : ((W.alloc (.cells #[.int .i64 cl, .slice a1 n1 c1, .slice a2 n2 c2, .slice a3 n3 c3] 26)).alloc (.cells #[.int .u8 (x0 : Int), .int .u8 (x1 : Int)] 54)).cell? ⟨W.heap.size, 2, none⟩ = some (.slice a2 n2 c2) := by simp
  have p3 : ((W.alloc (.cells #[.int .i64 cl, .slice a1 n1 c1, .slice a2 n2 c2, .slice a3 n3 c3] 26)).alloc (.cells #[.int .u8 (x0 : Int), .int .u8 (x1 : Int)] 54)).cell? ⟨W.heap.size, 3, none⟩ = some (.slice a3 n3 c3) := by simp
  have r0 : ((W.alloc (.cells #[.int .i64 cl, .slice a1 n1 c1, .slice a2 n2 c2, .slice a3 n3 c3] 26)).alloc (.cells #[.int .u8 (x0 : Int), .int .u8 (x1 : Int)] 54)).cell? ⟨W.heap.size + 1, 0, none⟩ = some (.int .u8 (x0 : Int)) := by simp
  have r1 : ((W.alloc (.cells #[.int .i64 cl, .slice a1 n1 c1, .slice a2 n2 c2, .slice a3 n3 c3] 26)).alloc (.cells #[.int .u8 (x0 : Int), .int .u8 (x1 : Int)] 54)).cell? ⟨W.heap.size + 1, 1, none⟩ = some (.int .u8 (x1 : Int)) := by simp
  have bb : Below W.heap.size W ((W.alloc (.cells #[.int .i64 cl, .slice a1 n1 c1, .slice a2 n2 c2, .slice a3 n3 c3] 26)).alloc (.cells #[.int .u8 (x0 : Int), .int .u8 (x1 : Int)] 54)) := (below_new _ _).trans ((below_new _ _).mono (by simp))
  replace HT := Lib.hid (HT.out.on bb)
  replace HM := Lib.hid (HM.out.on bb)
  generalize ((W.alloc (.cells #[.int .i64 cl, .slice a1 n1 c1, .slice a2 n2 c2, .slice a3 n3 c3] 26)).alloc (.cells #[.int .u8 (x0 : Int), .int .u8 (x1 : Int)] 54)) = W0 at *
  refine (HLg.out _ bb).mono ?_
  rintro e w1 ⟨q, rfl, g, hq⟩
  have HQ := Lib.hid hq
  clear hq HLg
  replace p0 := kept_cell g p0
  replace p1 := kept_cell g p1
  replace p2 := kept_cell g p2
  replace p3 := kept_cell g p3
  replace r0 := kept_cell g r0
  replace r1 := kept_cell g r1
  replace HT := Lib.hid (HT.out.on g)
  replace HM := Lib.hid (HM.out.on g)
  replace bb := bb.trans (g.mono bb.size)
  clear g
  cases q
  case true =>
    clear HQ
    go_wp2_with fail
    refine (wakes_any _ HM.out).mono ?_
    rintro e w9 ⟨rfl, g⟩
    replace bb := bb.trans (g.mono bb.size)
    clear g HM
    go_wp2_with fail
    go_ret
    exact ⟨rfl, bb⟩
  have hS := HQ.out rfl
  clear HQ
  by_cases g1 : 8 < cl
  case pos =>
    go_wp2_with fail
    refine (wakes_any _ HM.out).mono ?_
    rintro e w9 ⟨rfl, g⟩
    replace bb := bb.trans (g.mono bb.size)
    clear g HM
    go_wp2_with fail
    go_ret
    exact ⟨rfl, bb⟩
  by_cases g2 : 5 < n2
  case pos =>
    go_wp2_with fail
    refine (wakes_any _ HM.out).mono ?_
    rintro e w9 ⟨rfl, g⟩
    replace bb := bb.trans (g.mono bb.size)
    clear g HM
    go_wp2_with fail
    go_ret
    exact ⟨rfl, bb⟩
  by_cases g3 : n1 < 1
  case pos =>
    go_wp2_with fail
    refine (wakes_any _ HM.out).mono ?_
    rintro e w9 ⟨rfl, g⟩
    replace bb := bb.trans (g.mono bb.size)
    clear g HM
    go_wp2_with fail
    go_ret
    exact ⟨rfl, bb⟩
  by_cases g4 : 60 < n1
  case pos =>
    go_wp2_with fail
    refine (wakes_any _ HM.out).mono ?_
    rintro e w9 ⟨rfl, g⟩
    replace bb := bb.trans (g.mono bb.size)
    clear g HM
    go_wp2_with fail
    go_ret
    exact ⟨rfl, bb⟩
  go_wp2_with fail
  by_cases hMay : MayT (TV.tb ⟨cl, a1, n1, c1, bd, a2, n2, c2, hs, a3, n3, c3, br⟩)
  case neg =>
    have HEn := Lib.hid (fun V hV hMV => encode_no ⟨cl, a1, n1, c1, bd, a2, n2, c2, hs, a3, n3, c3, br⟩ (encR_no hMay) V hV hS hMV)
    clear hMay hS
    simp only [TV.v] at HEn
    go_wp2_with fail
    refine (HEn.out _ HT.out HM.out).mono ?_
    rintro e w2 ⟨A9, c9, rfl, g⟩
    replace p0 := kept_cell g p0
    replace p1 := kept_cell g p1
    replace p2 := kept_cell g p2
    replace p3 := kept_cell g p3
    replace r0 := kept_cell g r0
    replace r1 := kept_cell g r1
    replace HT := Lib.hid (HT.out.on g)
    replace HM := Lib.hid (HM.out.on g)
    replace bb := bb.trans (g.mono bb.size)
    clear g
    clear HEn
    go_wp2_with fail
    refine (wakes_any _ HM.out).mono ?_
    rintro e w9 ⟨rfl, g⟩
    replace bb := bb.trans (g.mono bb.size)
    clear g HM
    go_wp2_with fail
    go_ret
    exact ⟨rfl, bb⟩
  obtain ⟨b, hIs, hEnc⟩ := encR_may hMay
  obtain ⟨y, hy, hbX, hbl, hb8, hb5, hXl⟩ := enc_facts hS hIs
  have HEn := Lib.hid (fun V hV hMV => encode_is ⟨cl, a1, n1, c1, bd, a2, n2, c2, hs, a3, n3, c3, br⟩ b b.length hEnc rfl V hV hS hMV)
  simp only [TV.v] at HEn
  have HIs := Lib.hid hIs
  have hc1 : 1 ≤ cl := hMay.c1
  have hn1 : 1 ≤ n2 := by have := hMay.n1; omega
  have HMay := Lib.hid hMay
  clear hIs hEnc hMay
  have hErr := (err_enc HIs.out).1
  rw [if_pos ⟨by simp only [TV.tb]; omega, by omega, by omega, by omega⟩] at hErr
  have HBey := Lib.hid (fun v hv => err_beyond HMay.out hy (by simp only [TV.tb]; omega) (by omega) (by omega) (by omega) v hv)
  have HMk : Hid ((bodyB (TV.tb ⟨cl, a1, n1, c1, bd, a2, n2, c2, hs, a3, n3, c3, br⟩) y).take 4 = markB) := Lib.hid take_mark
  have hn8 : ((n2 : Int) % 8 != 0) = true := by rw [bne_iff_ne]; omega
  generalize bodyB (TV.tb ⟨cl, a1, n1, c1, bd, a2, n2, c2, hs, a3, n3, c3, br⟩) y = X at *
  generalize hnb : b.length = nb at *
  have HE0 : Hid (errT (sealB X) = 0) := Lib.hid (by rw [← hbX]; exact hErr)
  have HbX := Lib.hid hbX
  have HXl := Lib.hid hXl
  obtain ⟨nx, hnx⟩ : ∃ nx, X.length = nx := ⟨_, rfl⟩
  have HNx := Lib.hid hnx
  have hnb4 : nx + 4 = nb := by omega
  have e4 : (nb : Int) - 4 = (nx : Int) := by omega
  have hx8 : 8 ≤ nx := by omega
  have hx5 : nx ≤ 5000 := by omega
  have hnb11 : 11 ≤ nb := by omega
  have HLt0 : Hid (∀ z ∈ b, z < 256) := Lib.hid (by rw [hbX]; exact seal_lt hXl)
  have HBn := Lib.hid hnb
  clear hErr hbX hXl hy hbl hb8 hnb hnx hS
  refine (HEn.out _ HT.out HM.out).mono ?_
  rintro e w2 ⟨A2, cc2, rfl, r2, s2, g⟩
  clear HEn
  replace p0 := kept_cell g p0
  replace p1 := kept_cell g p1
  replace p2 := kept_cell g p2
  replace p3 := kept_cell g p3
  replace r0 := kept_cell g r0
  replace r1 := kept_cell g r1
  replace HT := Lib.hid (HT.out.on g)
  replace HM := Lib.hid (HM.out.on g)
  replace bb := bb.trans (g.mono bb.size)
  clear g
  have HR := Lib.hid r2
  have HSp := Lib.hid s2
  clear r2 s2
  clear HT
  have HMc := HM
  have bbc := bb
  have r0c := r0
  have r1c := r1
  have p2c := p2
  have HOm := Lib.hid (World.ownsRow_made (e := 5) (size := 1) w2 #[] 0 (Nat.le_refl _) (Nat.zero_le _) (by simp))
  have HRd := Lib.hid (HR.out.2.1.alloc (Nat.le_refl _) (.cells #[] 5))
  have HOne := Lib.hid (ycells_one (b))
  have HNil : Hid (A2 = none → cc2 = 0) := Lib.hid HSp.out.1
  have HLt := Lib.hid HR.out.2.2
  go_wp2_with (at_builtin; refine wpList_append_src rfl _ _ 27 rfl w2.heap.size 5 i0 _ 1 1 Tryd.underlying27 hi0 hz0 hz1 hz2 rfl (by decide) _ _ _ rfl HOm.out (A2) (nb) (cc2) w2.heap.size (ycells (b)) rfl HNil.out HRd.out HOne.out ?c3 ?c4 ?c5 ?_)
  case c3 => unfold maxLen; omega
  case c4 => omega
  try (case c5 => simp)
  intro A3 d3 w3 hown hnil hgrow
  have g : Below w2.heap.size w2 w3 := below_grown (below_new _ _) (by simp) HOm.out hgrow
  have HO3 : Hid (w3.ownsRow w2.heap.size 5 1 (.slice A3 (nb) d3) (nb) (ycells (b))) := Lib.hid (by simpa using hown)
  try simp only [Nat.zero_add]
  have gs := g
  clear hown hgrow hnil HOm HRd HOne HNil
  replace p0 := kept_cell g p0
  replace p1 := kept_cell g p1
  replace p2 := kept_cell g p2
  replace p3 := kept_cell g p3
  replace r0 := kept_cell g r0
  replace r1 := kept_cell g r1
  replace HM := Lib.hid (HM.out.on g)
  replace HR := Lib.hid (HR.out.on g)
  replace bb := bb.trans (g.mono bb.size)
  clear g
  have HR3 := Lib.hid (own_RB HO3.out HLt.out)
  have HS3 := Lib.hid (own_shp HO3.out)
  clear HLt
  obtain ⟨gg, cap, hv, _, hlt7⟩ := HO3.out.form (by omega)
  obtain ⟨rfl, rfl⟩ : A3 = some ⟨gg, 0, none⟩ ∧ d3 = cap := by injection hv with h1 h2 h3; exact ⟨h1, h3⟩
  clear hv HR3 HS3 HR HSp p0 p1 p3 HIs HMay
  have hge : w2.heap.size ≤ gg := (HO3.out.lt gg rfl).1
  have hcap := (own_shp HO3.out).2.1
  rw [show ycells b = ycells (X ++ lowB (sumL X : Nat) 4) by rw [HbX.out]; rfl] at HO3
  clear HbX HLt0 HBn
  clear HM r0 r1 p2 bb
  obtain ⟨j100, hj100⟩ : ∃ j, x1 % 100 = j := ⟨_, rfl⟩
  obtain ⟨s6, hs6⟩ : ∃ s, 6 + j100 = s := ⟨_, rfl⟩
  obtain ⟨j4, hj4⟩ : ∃ j, x1 % 4 = j := ⟨_, rfl⟩
  obtain ⟨j11, hj11⟩ : ∃ j, x1 % 11 = j := ⟨_, rfl⟩
  have i100 : (x1 : Int) % 100 = (j100 : Int) := by omega
  have i6 : ((6 : Int) + (j100 : Int)) % 256 = (s6 : Int) := by omega
  have i6b : (6 : Int) + (j100 : Int) = (s6 : Int) := by omega
  have i4 : (x1 : Int) % 4 = (j4 : Int) := by omega
  have i11 : (x1 : Int) % 11 = (j11 : Int) := by omega
  have hj4l : j4 < 4 := by omega
  have hj11l : j11 < 11 := by omega
  have hs6l : 6 ≤ s6 ∧ s6 < 256 := by omega
  clear hj100 hs6 hj4 hj11
  have e5 : (nb : Int) - 5 = ((nx - 1 : Nat) : Int) := by omega
  obtain ⟨m1, hm1⟩ : ∃ m, nx - 1 = m := ⟨_, rfl⟩
  rw [hm1] at e5
  have hm1l : m1 < nx := by omega
  have e1 : (nb : Int) - 1 = ((nx + 3 : Nat) : Int) := by omega
  obtain ⟨m3, hm3⟩ : ∃ m, nx + 3 = m := ⟨_, rfl⟩
  rw [hm3] at e1
  have hm3l : m3 < nb := by omega
  have HM3 := Lib.hid hm3
  have HM1 := Lib.hid hm1
  clear hm1 hm3
  have HOL : Hid (w3.ownsRow w2.heap.size 5 1 (.slice (some ⟨gg, 0, none⟩) nb d3) nb (ycells (X ++ lowB (sumL X : Nat) 4))) := HO3
  have HLt : Hid (∀ z ∈ X ++ lowB (sumL X : Nat) 4, z < 256) := Lib.hid (app_lt HXl.out (lowB_lt _ _))
  have HZ : Hid ((X ++ lowB (sumL X : Nat) 4).take nx = X) := Lib.hid (by rw [← HNx.out, List.take_left])
  clear HO3
  generalize X ++ lowB (sumL X : Nat) 4 = L at *
  have HZx := HXl
  have HZn := HNx
  have HZe := HE0
  have HZm := HMk
  clear HE0 HMk
  have r0 := kept_cell gs r0c
  have r1 := kept_cell gs r1c
  have p2 := kept_cell gs p2c
  have HM := Lib.hid (HMc.out.on gs)
  cases hb1 : (bits .and .u8 (x0 : Int) 1 == 1)
  case false =>
    clear HBey HXl HNx
    generalize X = Z at *
    cases hb2 : (bits .and .u8 (x0 : Int) 2 == 2)
    case false =>
      have HRz : Hid (RB w3 w3.heap.size (some ⟨gg, 0, none⟩) nx Z) := Lib.hid (by
        have h := (own_RB HOL.out HLt.out).take (k := nx) (by omega)
        rwa [HZ.out] at h)
      have HSz : Hid (Shp (some (⟨gg, 0, none⟩ : Addr)) nx d3) := Lib.hid ⟨fun h => (by cases h), by have := (own_shp HOL.out).2.1; omega, (own_shp HOL.out).2.2⟩
      have hcz : nx ≤ d3 := HSz.out.2.1
      have hczI : (nx : Int) ≤ (d3 : Int) := by omega
      have ew : IntKind.i64.wrap ((nb : Int) - 4) = (nx : Int) := by rw [IntKind.wrap_i64]; omega
      have ew2 : IntKind.i64.wrap (nx : Int) = (nx : Int) := by rw [IntKind.wrap_i64]; omega
      have hsl := sumL_lt Z
      have HSum := Lib.hid (fun V (g : Below w3.heap.size w3 V) => refSum_any Z nx (some ⟨gg, 0, none⟩) d3 V (HRz.out.on g) (by omega))
      have HPut := Lib.hid (fun V (g : Below w3.heap.size w3 V) => refPut_any Z nx (some ⟨gg, 0, none⟩) d3 ((sumL Z : Nat) : Int) 4 V HSz.out.1 (HRz.out.on g) (by omega))
      have HSe : Hid (Z ++ lowB ((sumL Z : Nat) : Int) (cutN 4) = sealB Z) := Lib.hid rfl
      generalize sumL Z = su at *
      have ews : IntKind.i64.wrap (su : Int) = (su : Int) := by rw [IntKind.wrap_i64]; omega
      have bR := Below.refl w3.heap.size w3
      have hsum : Hid (∀ V, Below w3.heap.size w3 V → Calls Tryd.prog 22 #[.slice (some ⟨gg, 0, none⟩) nx d3] V fun e w' => e = .returned (.int .u32 (su : Int)) ∧ Below w3.heap.size w3 w') := Lib.hid (fun V hV => (HSum.out V hV).mono (fun e w' h => ⟨h.1, by rw [h.2]; exact hV⟩))
      have hput : Hid (∀ V, Below w3.heap.size w3 V → Calls Tryd.prog 21 #[.slice (some ⟨gg, 0, none⟩) nx d3, .int .i64 (su : Int), .int .i64 4] V fun e w' => (∃ A c, e = .returned (.slice A (nx + 4) c) ∧ w'.ownsRow w2.heap.size 5 1 (.slice A (nx + 4) c) (nx + 4) (ycells (sealB Z))) ∧ Below w3.heap.size w3 w') := Lib.hid (fun V hV => (HPut.out V hV).mono (fun e w' h => by
        obtain ⟨A, c, he, _, _, ho, hg⟩ := h
        rw [HSe.out] at ho
        exact ⟨⟨A, c, he, own_base ho (Nat.le_trans gs.size hV.size)⟩, hV.trans (hg.mono hV.size)⟩))
      clear HSum HPut HSe HRz HSz
      go_upto_region 16 with (fail)
      go_region_held3 (fun V => Below w3.heap.size w3 V) (with_reducible (first | assumption | exact bR | exact Below.drew bR)) (first | (go_at_call 22; with_reducible refine Calls.mono (hsum.out _ ?_) ?_; (first | assumption | exact bR | exact Below.drew bR); rintro e V1 ⟨rfl, b1⟩) | (go_at_call 21; with_reducible refine Calls.mono (hput.out _ ?_) ?_; (first | assumption | exact bR | exact Below.drew bR); rintro e V2 ⟨⟨A8, d8, rfl, o8⟩, b8⟩))
      clear hsum hput HOL HLt HZ hge r0 r1 p2 HM
      replace gs := gs.trans (b8.mono gs.size)
      clear b8
      obtain ⟨gg8, cap8, hv8, _, _⟩ := o8.form (by omega)
      obtain ⟨rfl, rfl⟩ : A8 = some ⟨gg8, 0, none⟩ ∧ d8 = cap8 := by injection hv8 with h1 h2 h3; exact ⟨h1, h3⟩
      have hge : w2.heap.size ≤ gg8 := (o8.lt gg8 rfl).1
      try rw [hnb4] at o8
      try rw [hnb4]
      have HOL := Lib.hid o8
      clear o8 hv8
      have HLt := Lib.hid (seal_lt HZx.out)
      have HLs : Hid (∀ w, w < 256 → (sealB Z)[m3]? ≠ some w → errT ((sealB Z).set m3 w) = 23) := Lib.hid (fun w hw hne => by
        have h := err_last Z (by rw [HZn.out]; omega) HZm.out w hw (by rw [HZn.out, HM3.out]; exact hne)
        rwa [HZn.out, HM3.out] at h)
      have HLm : Hid ((sealB Z).take 4 = markB) := Lib.hid (by unfold sealB; rw [List.take_append_of_le_length (by rw [HZn.out]; omega)]; exact HZm.out)
      have HEr := HZe
      clear HZe HZm HZn HZx
      generalize sealB Z = L at *
      have r0 := kept_cell gs r0c
      have r1 := kept_cell gs r1c
      have p2 := kept_cell gs p2c
      have HM := Lib.hid (HMc.out.on gs)
      cases hb4 : (bits .and .u8 (x0 : Int) 4 == 4)
      case false =>
        clear HLs
        cases hb8 : (bits .and .u8 (x0 : Int) 8 == 8)
        case false =>
          cases hb16 : (bits .and .u8 (x0 : Int) 16 == 16)
          case false =>
            have HRB := Lib.hid (own_RB HOL.out HLt.out)
            have HSS := Lib.hid (own_shp HOL.out)
            have HD := Lib.hid (fun V (g : Below V2.heap.size V2 V) => decode_is L 0 _ (by rw [HEr.out]; rfl) rfl nb (some ⟨gg8, 0, none⟩) d8 V (HRB.out.on g) HSS.out (by omega) (HM.out.on g))
            have bb := bbc.trans (gs.mono bbc.size)
            clear HOL
            go_wp2_with fail
            refine (HD.out _ (Below.refl _ _)).mono ?_
            rintro e w9 ⟨⟨k6, va6, vn6, vc6, vb6, na6, nn6, nc6, nh6, ba6, bn6, bc6, bb6⟩, rfl, _, _, g⟩
            replace bb := bb.trans (g.mono bb.size)
            replace HM := Lib.hid (HM.out.on g)
            clear g HD HRB HSS r0 r1 p2
            simp only [TV.v]
            have g := below_new w9 (.cells #[.int .i64 k6, .slice va6 vn6 vc6, .slice na6 nn6 nc6, .slice ba6 bn6 bc6] 26)
            replace bb := bb.trans (g.mono bb.size)
            replace HM := Lib.hid (HM.out.on g)
            clear g
            go_wp2_with fail
            refine (wakes_any _ HM.out).mono ?_
            rintro e w9 ⟨rfl, g⟩
            replace bb := bb.trans (g.mono bb.size)
            clear g HM
            go_wp2_with fail
            go_ret
            exact ⟨rfl, bb⟩
          case true =>
            have HRB := Lib.hid ((own_RB HOL.out HLt.out).take (k := j11) (by omega))
            have HSS : Hid (Shp (some (⟨gg8, 0, none⟩ : Addr)) j11 d8) := Lib.hid ⟨fun h => (by cases h), by have := (own_shp HOL.out).2.1; omega, (own_shp HOL.out).2.2⟩
            have hcp : (j11 : Int) ≤ (d8 : Int) := by have := (own_shp HOL.out).2.1; omega
            have hcp2 : j11 ≤ d8 := by omega
            have HD := Lib.hid (fun V (g : Below V2.heap.size V2 V) => decode_is (L.take j11) 21 _ (by rw [err_short (b := L.take j11) (by rw [List.length_take]; omega)]; rfl) rfl j11 (some ⟨gg8, 0, none⟩) d8 V (HRB.out.on g) HSS.out (by omega) (HM.out.on g))
            have bb := bbc.trans (gs.mono bbc.size)
            clear HOL
            go_wp2_with fail
            refine (HD.out _ (Below.refl _ _)).mono ?_
            rintro e w9 ⟨⟨k6, va6, vn6, vc6, vb6, na6, nn6, nc6, nh6, ba6, bn6, bc6, bb6⟩, rfl, _, _, g⟩
            replace bb := bb.trans (g.mono bb.size)
            replace HM := Lib.hid (HM.out.on g)
            clear g HD HRB HSS r0 r1 p2
            simp only [TV.v]
            have g := below_new w9 (.cells #[.int .i64 k6, .slice va6 vn6 vc6, .slice na6 nn6 nc6, .slice ba6 bn6 bc6] 26)
            replace bb := bb.trans (g.mono bb.size)
            replace HM := Lib.hid (HM.out.on g)
            clear g
            go_wp2_with fail
            refine (wakes_any _ HM.out).mono ?_
            rintro e w9 ⟨rfl, g⟩
            replace bb := bb.trans (g.mono bb.size)
            clear g HM
            go_wp2_with fail
            go_ret
            exact ⟨rfl, bb⟩
        case true =>
          have kl : j4 < L.length := by rw [own_lt HOL.out]; omega
          have q0 := own_byteC HOL.out kl
          have f0 := HOL.out.frozenAt j4
          have hxl := HLt.out L[j4] (List.getElem_mem kl)
          have HSt : Hid (∀ y : Nat, (V2.setCell ⟨gg8, j4, none⟩ (.int .u8 (y : Int))).ownsRow w2.heap.size 5 1 (.slice (some ⟨gg8, 0, none⟩) nb d8) nb (ycells (L.set j4 y))) := Lib.hid (fun y => by
            have h := (HOL.out.stored j4 (.int .u8 (y : Int))).1
            rwa [ycells_set] at h)
          have hEi := err_incm L (by rw [own_lt HOL.out]; omega) HLm.out j4 hj4l kl hxl
          have hinc := inc_u8 L[j4] hxl
          have hil := inc_lt L[j4]
          generalize hIv : inc L[j4] = iv at *
          generalize L[j4] = ov at *
          clear hIv
          go_upto_region 23 with (fail)
          replace HOL := Lib.hid (HSt.out iv)
          replace gs : Below w2.heap.size w2 (V2.setCell ⟨gg8, j4, none⟩ (.int .u8 (iv : Int))) := gs.setCell (p := ⟨gg8, j4, none⟩) hge _
          clear HSt q0 f0 kl r0 r1 p2 HM
          generalize V2.setCell ⟨gg8, j4, none⟩ (.int .u8 (iv : Int)) = V2m at *
          replace HLt : Hid (∀ z ∈ L.set j4 iv, z < 256) := Lib.hid (set_lt HLt.out _ _ hil)
          replace HEr := Lib.hid hEi
          clear HLm hEi
          generalize L.set j4 iv = L at *
          have r0 := kept_cell gs r0c
          have r1 := kept_cell gs r1c
          have p2 := kept_cell gs p2c
          have HM := Lib.hid (HMc.out.on gs)
          cases hb16 : (bits .and .u8 (x0 : Int) 16 == 16)
          case false =>
            have HRB := Lib.hid (own_RB HOL.out HLt.out)
            have HSS := Lib.hid (own_shp HOL.out)
            have HD := Lib.hid (fun V (g : Below V2m.heap.size V2m V) => decode_is L 22 _ (by rw [HEr.out]; rfl) rfl nb (some ⟨gg8, 0, none⟩) d8 V (HRB.out.on g) HSS.out (by omega) (HM.out.on g))
            have bb := bbc.trans (gs.mono bbc.size)
            clear HOL
            go_wp2_with fail
            refine (HD.out _ (Below.refl _ _)).mono ?_
            rintro e w9 ⟨⟨k6, va6, vn6, vc6, vb6, na6, nn6, nc6, nh6, ba6, bn6, bc6, bb6⟩, rfl, _, _, g⟩
            replace bb := bb.trans (g.mono bb.size)
            replace HM := Lib.hid (HM.out.on g)
            clear g HD HRB HSS r0 r1 p2
            simp only [TV.v]
            have g := below_new w9 (.cells #[.int .i64 k6, .slice va6 vn6 vc6, .slice na6 nn6 nc6, .slice ba6 bn6 bc6] 26)
            replace bb := bb.trans (g.mono bb.size)
            replace HM := Lib.hid (HM.out.on g)
            clear g
            go_wp2_with fail
            refine (wakes_any _ HM.out).mono ?_
            rintro e w9 ⟨rfl, g⟩
            replace bb := bb.trans (g.mono bb.size)
            clear g HM
            go_wp2_with fail
            go_ret
            exact ⟨rfl, bb⟩
          case true =>
            have HRB := Lib.hid ((own_RB HOL.out HLt.out).take (k := j11) (by omega))
            have HSS : Hid (Shp (some (⟨gg8, 0, none⟩ : Addr)) j11 d8) := Lib.hid ⟨fun h => (by cases h), by have := (own_shp HOL.out).2.1; omega, (own_shp HOL.out).2.2⟩
            have hcp : (j11 : Int) ≤ (d8 : Int) := by have := (own_shp HOL.out).2.1; omega
            have hcp2 : j11 ≤ d8 := by omega
            have HD := Lib.hid (fun V (g : Below V2m.heap.size V2m V) => decode_is (L.take j11) 21 _ (by rw [err_short (b := L.take j11) (by rw [List.length_take]; omega)]; rfl) rfl j11 (some ⟨gg8, 0, none⟩) d8 V (HRB.out.on g) HSS.out (by omega) (HM.out.on g))
            have bb := bbc.trans (gs.mono bbc.size)
            clear HOL
            go_wp2_with fail
            refine (HD.out _ (Below.refl _ _)).mono ?_
            rintro e w9 ⟨⟨k6, va6, vn6, vc6, vb6, na6, nn6, nc6, nh6, ba6, bn6, bc6, bb6⟩, rfl, _, _, g⟩
            replace bb := bb.trans (g.mono bb.size)
            replace HM := Lib.hid (HM.out.on g)
            clear g HD HRB HSS r0 r1 p2
            simp only [TV.v]
            have g := below_new w9 (.cells #[.int .i64 k6, .slice va6 vn6 vc6, .slice na6 nn6 nc6, .slice ba6 bn6 bc6] 26)
            replace bb := bb.trans (g.mono bb.size)
            replace HM := Lib.hid (HM.out.on g)
            clear g
            go_wp2_with fail
            refine (wakes_any _ HM.out).mono ?_
            rintro e w9 ⟨rfl, g⟩
            replace bb := bb.trans (g.mono bb.size)
            clear g HM
            go_wp2_with fail
            go_ret
            exact ⟨rfl, bb⟩
      case true =>
        have kl : m3 < L.length := by rw [own_lt HOL.out]; omega
        have q0 := own_byteC HOL.out kl
        have f0 := HOL.out.frozenAt m3
        have hxl := HLt.out L[m3] (List.getElem_mem kl)
        have HSt : Hid (∀ y : Nat, (V2.setCell ⟨gg8, m3, none⟩ (.int .u8 (y : Int))).ownsRow w2.heap.size 5 1 (.slice (some ⟨gg8, 0, none⟩) nb d8) nb (ycells (L.set m3 y))) := Lib.hid (fun y => by
          have h := (HOL.out.stored m3 (.int .u8 (y : Int))).1
          rwa [ycells_set] at h)
        have hEi := HLs.out (inc L[m3]) (inc_lt _) (fun e => by rw [List.getElem?_eq_getElem kl] at e; exact inc_ne hxl (Option.some.inj e).symm)
        have hinc := inc_u8 L[m3] hxl
        have hil := inc_lt L[m3]
        generalize hIv : inc L[m3] = iv at *
        generalize L[m3] = ov at *
        clear hIv
        have HLm' : Hid ((L.set m3 iv).take 4 = markB) := Lib.hid (by rw [List.take_set_of_le (by have := HM3.out; omega)]; exact HLm.out)
        go_upto_region 20 with (fail)
        replace HOL := Lib.hid (HSt.out iv)
        replace gs : Below w2.heap.size w2 (V2.setCell ⟨gg8, m3, none⟩ (.int .u8 (iv : Int))) := gs.setCell (p := ⟨gg8, m3, none⟩) hge _
        clear HSt q0 f0 kl r0 r1 p2 HM
        generalize V2.setCell ⟨gg8, m3, none⟩ (.int .u8 (iv : Int)) = V2s at *
        replace HLt : Hid (∀ z ∈ L.set m3 iv, z < 256) := Lib.hid (set_lt HLt.out _ _ hil)
        replace HEr := Lib.hid hEi
        clear HLm hEi HLs
        have HLm := HLm'
        clear HLm'
        generalize L.set m3 iv = L at *
        have r0 := kept_cell gs r0c
        have r1 := kept_cell gs r1c
        have p2 := kept_cell gs p2c
        have HM := Lib.hid (HMc.out.on gs)
        cases hb8 : (bits .and .u8 (x0 : Int) 8 == 8)
        case false =>
          cases hb16 : (bits .and .u8 (x0 : Int) 16 == 16)
          case false =>
            have HRB := Lib.hid (own_RB HOL.out HLt.out)
            have HSS := Lib.hid (own_shp HOL.out)
            have HD := Lib.hid (fun V (g : Below V2s.heap.size V2s V) => decode_is L 23 _ (by rw [HEr.out]; rfl) rfl nb (some ⟨gg8, 0, none⟩) d8 V (HRB.out.on g) HSS.out (by omega) (HM.out.on g))
            have bb := bbc.trans (gs.mono bbc.size)
            clear HOL
            go_wp2_with fail
            refine (HD.out _ (Below.refl _ _)).mono ?_
            rintro e w9 ⟨⟨k6, va6, vn6, vc6, vb6, na6, nn6, nc6, nh6, ba6, bn6, bc6, bb6⟩, rfl, _, _, g⟩
            replace bb := bb.trans (g.mono bb.size)
            replace HM := Lib.hid (HM.out.on g)
            clear g HD HRB HSS r0 r1 p2
            simp only [TV.v]
            have g := below_new w9 (.cells #[.int .i64 k6, .slice va6 vn6 vc6, .slice na6 nn6 nc6, .slice ba6 bn6 bc6] 26)
            replace bb := bb.trans (g.mono bb.size)
            replace HM := Lib.hid (HM.out.on g)
            clear g
            go_wp2_with fail
            refine (wakes_any _ HM.out).mono ?_
            rintro e w9 ⟨rfl, g⟩
            replace bb := bb.trans (g.mono bb.size)
            clear g HM
            go_wp2_with fail
            go_ret
            exact ⟨rfl, bb⟩
          case true =>
            have HRB := Lib.hid ((own_RB HOL.out HLt.out).take (k := j11) (by omega))
            have HSS : Hid (Shp (some (⟨gg8, 0, none⟩ : Addr)) j11 d8) := Lib.hid ⟨fun h => (by cases h), by have := (own_shp HOL.out).2.1; omega, (own_shp HOL.out).2.2⟩
            have hcp : (j11 : Int) ≤ (d8 : Int) := by have := (own_shp HOL.out).2.1; omega
            have hcp2 : j11 ≤ d8 := by omega
            have HD := Lib.hid (fun V (g : Below V2s.heap.size V2s V) => decode_is (L.take j11) 21 _ (by rw [err_short (b := L.take j11) (by rw [List.length_take]; omega)]; rfl) rfl j11 (some ⟨gg8, 0, none⟩) d8 V (HRB.out.on g) HSS.out (by omega) (HM.out.on g))
            have bb := bbc.trans (gs.mono bbc.size)
            clear HOL
            go_wp2_with fail
            refine (HD.out _ (Below.refl _ _)).mono ?_
            rintro e w9 ⟨⟨k6, va6, vn6, vc6, vb6, na6, nn6, nc6, nh6, ba6, bn6, bc6, bb6⟩, rfl, _, _, g⟩
            replace bb := bb.trans (g.mono bb.size)
            replace HM := Lib.hid (HM.out.on g)
            clear g HD HRB HSS r0 r1 p2
            simp only [TV.v]
            have g := below_new w9 (.cells #[.int .i64 k6, .slice va6 vn6 vc6, .slice na6 nn6 nc6, .slice ba6 bn6 bc6] 26)
            replace bb := bb.trans (g.mono bb.size)
            replace HM := Lib.hid (HM.out.on g)
            clear g
            go_wp2_with fail
            refine (wakes_any _ HM.out).mono ?_
            rintro e w9 ⟨rfl, g⟩
            replace bb := bb.trans (g.mono bb.size)
            clear g HM
            go_wp2_with fail
            go_ret
            exact ⟨rfl, bb⟩
        case true =>
          have kl : j4 < L.length := by rw [own_lt HOL.out]; omega
          have q0 := own_byteC HOL.out kl
          have f0 := HOL.out.frozenAt j4
          have hxl := HLt.out L[j4] (List.getElem_mem kl)
          have HSt : Hid (∀ y : Nat, (V2s.setCell ⟨gg8, j4, none⟩ (.int .u8 (y : Int))).ownsRow w2.heap.size 5 1 (.slice (some ⟨gg8, 0, none⟩) nb d8) nb (ycells (L.set j4 y))) := Lib.hid (fun y => by
            have h := (HOL.out.stored j4 (.int .u8 (y : Int))).1
            rwa [ycells_set] at h)
          have hEi := err_incm L (by rw [own_lt HOL.out]; omega) HLm.out j4 hj4l kl hxl
          have hinc := inc_u8 L[j4] hxl
          have hil := inc_lt L[j4]
          generalize hIv : inc L[j4] = iv at *
          generalize L[j4] = ov at *
          clear hIv
          go_upto_region 23 with (fail)
          replace HOL := Lib.hid (HSt.out iv)
          replace gs : Below w2.heap.size w2 (V2s.setCell ⟨gg8, j4, none⟩ (.int .u8 (iv : Int))) := gs.setCell (p := ⟨gg8, j4, none⟩) hge _
          clear HSt q0 f0 kl r0 r1 p2 HM
          generalize V2s.setCell ⟨gg8, j4, none⟩ (.int .u8 (iv : Int)) = V2sm at *
          replace HLt : Hid (∀ z ∈ L.set j4 iv, z < 256) := Lib.hid (set_lt HLt.out _ _ hil)
          replace HEr := Lib.hid hEi
          clear HLm hEi
          generalize L.set j4 iv = L at *
          have r0 := kept_cell gs r0c
          have r1 := kept_cell gs r1c
          have p2 := kept_cell gs p2c
          have HM := Lib.hid (HMc.out.on gs)
          cases hb16 : (bits .and .u8 (x0 : Int) 16 == 16)
          case false =>
            have HRB := Lib.hid (own_RB HOL.out HLt.out)
            have HSS := Lib.hid (own_shp HOL.out)
            have HD := Lib.hid (fun V (g : Below V2sm.heap.size V2sm V) => decode_is L 22 _ (by rw [HEr.out]; rfl) rfl nb (some ⟨gg8, 0, none⟩) d8 V (HRB.out.on g) HSS.out (by omega) (HM.out.on g))
            have bb := bbc.trans (gs.mono bbc.size)
            clear HOL
            go_wp2_with fail
            refine (HD.out _ (Below.refl _ _)).mono ?_
            rintro e w9 ⟨⟨k6, va6, vn6, vc6, vb6, na6, nn6, nc6, nh6, ba6, bn6, bc6, bb6⟩, rfl, _, _, g⟩
            replace bb := bb.trans (g.mono bb.size)
            replace HM := Lib.hid (HM.out.on g)
            clear g HD HRB HSS r0 r1 p2
            simp only [TV.v]
            have g := below_new w9 (.cells #[.int .i64 k6, .slice va6 vn6 vc6, .slice na6 nn6 nc6, .slice ba6 bn6 bc6] 26)
            replace bb := bb.trans (g.mono bb.size)
            replace HM := Lib.hid (HM.out.on g)
            clear g
            go_wp2_with fail
            refine (wakes_any _ HM.out).mono ?_
            rintro e w9 ⟨rfl, g⟩
            replace bb := bb.trans (g.mono bb.size)
            clear g HM
            go_wp2_with fail
            go_ret
            exact ⟨rfl, bb⟩
          case true =>
            have HRB := Lib.hid ((own_RB HOL.out HLt.out).take (k := j11) (by omega))
            have HSS : Hid (Shp (some (⟨gg8, 0, none⟩ : Addr)) j11 d8) := Lib.hid ⟨fun h => (by cases h), by have := (own_shp HOL.out).2.1; omega, (own_shp HOL.out).2.2⟩
            have hcp : (j11 : Int) ≤ (d8 : Int) := by have := (own_shp HOL.out).2.1; omega
            have hcp2 : j11 ≤ d8 := by omega
            have HD := Lib.hid (fun V (g : Below V2sm.heap.size V2sm V) => decode_is (L.take j11) 21 _ (by rw [err_short (b := L.take j11) (by rw [List.length_take]; omega)]; rfl) rfl j11 (some ⟨gg8, 0, none⟩) d8 V (HRB.out.on g) HSS.out (by omega) (HM.out.on g))
            have bb := bbc.trans (gs.mono bbc.size)
            clear HOL
            go_wp2_with fail
            refine (HD.out _ (Below.refl _ _)).mono ?_
            rintro e w9 ⟨⟨k6, va6, vn6, vc6, vb6, na6, nn6, nc6, nh6, ba6, bn6, bc6, bb6⟩, rfl, _, _, g⟩
            replace bb := bb.trans (g.mono bb.size)
            replace HM := Lib.hid (HM.out.on g)
            clear g HD HRB HSS r0 r1 p2
            simp only [TV.v]
            have g := below_new w9 (.cells #[.int .i64 k6, .slice va6 vn6 vc6, .slice na6 nn6 nc6, .slice ba6 bn6 bc6] 26)
            replace bb := bb.trans (g.mono bb.size)
            replace HM := Lib.hid (HM.out.on g)
            clear g
            go_wp2_with fail
            refine (wakes_any _ HM.out).mono ?_
            rintro e w9 ⟨rfl, g⟩
            replace bb := bb.trans (g.mono bb.size)
            clear g HM
            go_wp2_with fail
            go_ret
            exact ⟨rfl, bb⟩
    case true =>
      have kl : 5 < L.length := by rw [own_lt HOL.out]; omega
      have q0 := own_byteC HOL.out kl
      have f0 := HOL.out.frozenAt 5
      have hxl := HLt.out L[5] (List.getElem_mem kl)
      have HSt : Hid (∀ y : Nat, (w3.setCell ⟨gg, 5, none⟩ (.int .u8 (y : Int))).ownsRow w2.heap.size 5 1 (.slice (some ⟨gg, 0, none⟩) nb d3) nb (ycells (L.set 5 y))) := Lib.hid (fun y => by
        have h := (HOL.out.stored 5 (.int .u8 (y : Int))).1
        rwa [ycells_set] at h)
      have HZ' : Hid ((L.set 5 s6).take nx = Z.set 5 s6) := Lib.hid (by rw [set_at, HZ.out])
      have HZe' : Hid (errT (sealB (Z.set 5 s6)) = 24) := Lib.hid (err_states Z (by rw [HZn.out]; omega) HZm.out s6 hs6l.1)
      have HZm' : Hid ((Z.set 5 s6).take 4 = markB) := Lib.hid (by rw [List.take_set_of_le (by decide)]; exact HZm.out)
      have HZn' : Hid ((Z.set 5 s6).length = nx) := Lib.hid (by rw [List.length_set]; exact HZn.out)
      have HZx' : Hid (∀ z ∈ Z.set 5 s6, z < 256) := Lib.hid (set_lt HZx.out _ _ hs6l.2)
      generalize L[5] = ov at *
      go_upto_region 16 with (fail)
      replace HOL := Lib.hid (HSt.out s6)
      replace gs : Below w2.heap.size w2 (w3.setCell ⟨gg, 5, none⟩ (.int .u8 (s6 : Int))) := gs.setCell (p := ⟨gg, 5, none⟩) hge _
      clear HSt q0 f0 kl r0 r1 p2 HM
      generalize w3.setCell ⟨gg, 5, none⟩ (.int .u8 (s6 : Int)) = w3c at *
      replace HLt : Hid (∀ z ∈ L.set 5 s6, z < 256) := Lib.hid (set_lt HLt.out _ _ hs6l.2)
      clear HZ HZe HZm HZn HZx
      have HZ := HZ'
      have HZe := HZe'
      have HZm := HZm'
      have HZn := HZn'
      have HZx := HZx'
      clear HZ' HZe' HZm' HZn' HZx'
      generalize L.set 5 s6 = L at *
      generalize Z.set 5 s6 = Z at *
      have r0 := kept_cell gs r0c
      have r1 := kept_cell gs r1c
      have p2 := kept_cell gs p2c
      have HM := Lib.hid (HMc.out.on gs)
      have HRz : Hid (RB w3c w3c.heap.size (some ⟨gg, 0, none⟩) nx Z) := Lib.hid (by
        have h := (own_RB HOL.out HLt.out).take (k := nx) (by omega)
        rwa [HZ.out] at h)
      have HSz : Hid (Shp (some (⟨gg, 0, none⟩ : Addr)) nx d3) := Lib.hid ⟨fun h => (by cases h), by have := (own_shp HOL.out).2.1; omega, (own_shp HOL.out).2.2⟩
      have hcz : nx ≤ d3 := HSz.out.2.1
      have hczI : (nx : Int) ≤ (d3 : Int) := by omega
      have ew : IntKind.i64.wrap ((nb : Int) - 4) = (nx : Int) := by rw [IntKind.wrap_i64]; omega
      have ew2 : IntKind.i64.wrap (nx : Int) = (nx : Int) := by rw [IntKind.wrap_i64]; omega
      have hsl := sumL_lt Z
      have HSum := Lib.hid (fun V (g : Below w3c.heap.size w3c V) => refSum_any Z nx (some ⟨gg, 0, none⟩) d3 V (HRz.out.on g) (by omega))
      have HPut := Lib.hid (fun V (g : Below w3c.heap.size w3c V) => refPut_any Z nx (some ⟨gg, 0, none⟩) d3 ((sumL Z : Nat) : Int) 4 V HSz.out.1 (HRz.out.on g) (by omega))
      have HSe : Hid (Z ++ lowB ((sumL Z : Nat) : Int) (cutN 4) = sealB Z) := Lib.hid rfl
      generalize sumL Z = su at *
      have ews : IntKind.i64.wrap (su : Int) = (su : Int) := by rw [IntKind.wrap_i64]; omega
      have bR := Below.refl w3c.heap.size w3c
      have hsum : Hid (∀ V, Below w3c.heap.size w3c V → Calls Tryd.prog 22 #[.slice (some ⟨gg, 0, none⟩) nx d3] V fun e w' => e = .returned (.int .u32 (su : Int)) ∧ Below w3c.heap.size w3c w') := Lib.hid (fun V hV => (HSum.out V hV).mono (fun e w' h => ⟨h.1, by rw [h.2]; exact hV⟩))
      have hput : Hid (∀ V, Below w3c.heap.size w3c V → Calls Tryd.prog 21 #[.slice (some ⟨gg, 0, none⟩) nx d3, .int .i64 (su : Int), .int .i64 4] V fun e w' => (∃ A c, e = .returned (.slice A (nx + 4) c) ∧ w'.ownsRow w2.heap.size 5 1 (.slice A (nx + 4) c) (nx + 4) (ycells (sealB Z))) ∧ Below w3c.heap.size w3c w') := Lib.hid (fun V hV => (HPut.out V hV).mono (fun e w' h => by
        obtain ⟨A, c, he, _, _, ho, hg⟩ := h
        rw [HSe.out] at ho
        exact ⟨⟨A, c, he, own_base ho (Nat.le_trans gs.size hV.size)⟩, hV.trans (hg.mono hV.size)⟩))
      clear HSum HPut HSe HRz HSz
      go_upto_region 16 with (fail)
      go_region_held3 (fun V => Below w3c.heap.size w3c V) (with_reducible (first | assumption | exact bR | exact Below.drew bR)) (first | (go_at_call 22; with_reducible refine Calls.mono (hsum.out _ ?_) ?_; (first | assumption | exact bR | exact Below.drew bR); rintro e V1 ⟨rfl, b1⟩) | (go_at_call 21; with_reducible refine Calls.mono (hput.out _ ?_) ?_; (first | assumption | exact bR | exact Below.drew bR); rintro e V2 ⟨⟨A8, d8, rfl, o8⟩, b8⟩))
      clear hsum hput HOL HLt HZ hge r0 r1 p2 HM
      replace gs := gs.trans (b8.mono gs.size)
      clear b8
      obtain ⟨gg8, cap8, hv8, _, _⟩ := o8.form (by omega)
      obtain ⟨rfl, rfl⟩ : A8 = some ⟨gg8, 0, none⟩ ∧ d8 = cap8 := by injection hv8 with h1 h2 h3; exact ⟨h1, h3⟩
      have hge : w2.heap.size ≤ gg8 := (o8.lt gg8 rfl).1
      try rw [hnb4] at o8
      try rw [hnb4]
      have HOL := Lib.hid o8
      clear o8 hv8
      have HLt := Lib.hid (seal_lt HZx.out)
      have HLs : Hid (∀ w, w < 256 → (sealB Z)[m3]? ≠ some w → errT ((sealB Z).set m3 w) = 23) := Lib.hid (fun w hw hne => by
        have h := err_last Z (by rw [HZn.out]; omega) HZm.out w hw (by rw [HZn.out, HM3.out]; exact hne)
        rwa [HZn.out, HM3.out] at h)
      have HLm : Hid ((sealB Z).take 4 = markB) := Lib.hid (by unfold sealB; rw [List.take_append_of_le_length (by rw [HZn.out]; omega)]; exact HZm.out)
      have HEr := HZe
      clear HZe HZm HZn HZx
      generalize sealB Z = L at *
      have r0 := kept_cell gs r0c
      have r1 := kept_cell gs r1c
      have p2 := kept_cell gs p2c
      have HM := Lib.hid (HMc.out.on gs)
      cases hb4 : (bits .and .u8 (x0 : Int) 4 == 4)
      case false =>
        clear HLs
        cases hb8 : (bits .and .u8 (x0 : Int) 8 == 8)
        case false =>
          cases hb16 : (bits .and .u8 (x0 : Int) 16 == 16)
          case false =>
            have HRB := Lib.hid (own_RB HOL.out HLt.out)
            have HSS := Lib.hid (own_shp HOL.out)
            have HD := Lib.hid (fun V (g : Below V2.heap.size V2 V) => decode_is L 24 _ (by rw [HEr.out]; rfl) rfl nb (some ⟨gg8, 0, none⟩) d8 V (HRB.out.on g) HSS.out (by omega) (HM.out.on g))
            have bb := bbc.trans (gs.mono bbc.size)
            clear HOL
            go_wp2_with fail
            refine (HD.out _ (Below.refl _ _)).mono ?_
            rintro e w9 ⟨⟨k6, va6, vn6, vc6, vb6, na6, nn6, nc6, nh6, ba6, bn6, bc6, bb6⟩, rfl, _, _, g⟩
            replace bb := bb.trans (g.mono bb.size)
            replace HM := Lib.hid (HM.out.on g)
            clear g HD HRB HSS r0 r1 p2
            simp only [TV.v]
            have g := below_new w9 (.cells #[.int .i64 k6, .slice va6 vn6 vc6, .slice na6 nn6 nc6, .slice ba6 bn6 bc6] 26)
            replace bb := bb.trans (g.mono bb.size)
            replace HM := Lib.hid (HM.out.on g)
            clear g
            go_wp2_with fail
            refine (wakes_any _ HM.out).mono ?_
            rintro e w9 ⟨rfl, g⟩
            replace bb := bb.trans (g.mono bb.size)
            clear g HM
            go_wp2_with fail
            go_ret
            exact ⟨rfl, bb⟩
          case true =>
            have HRB := Lib.hid ((own_RB HOL.out HLt.out).take (k := j11) (by omega))
            have HSS : Hid (Shp (some (⟨gg8, 0, none⟩ : Addr)) j11 d8) := Lib.hid ⟨fun h => (by cases h), by have := (own_shp HOL.out).2.1; omega, (own_shp HOL.out).2.2⟩
            have hcp : (j11 : Int) ≤ (d8 : Int) := by have := (own_shp HOL.out).2.1; omega
            have hcp2 : j11 ≤ d8 := by omega
            have HD := Lib.hid (fun V (g : Below V2.heap.size V2 V) => decode_is (L.take j11) 21 _ (by rw [err_short (b := L.take j11) (by rw [List.length_take]; omega)]; rfl) rfl j11 (some ⟨gg8, 0, none⟩) d8 V (HRB.out.on g) HSS.out (by omega) (HM.out.on g))
            have bb := bbc.trans (gs.mono bbc.size)
            clear HOL
            go_wp2_with fail
            refine (HD.out _ (Below.refl _ _)).mono ?_
            rintro e w9 ⟨⟨k6, va6, vn6, vc6, vb6, na6, nn6, nc6, nh6, ba6, bn6, bc6, bb6⟩, rfl, _, _, g⟩
            replace bb := bb.trans (g.mono bb.size)
            replace HM := Lib.hid (HM.out.on g)
            clear g HD HRB HSS r0 r1 p2
            simp only [TV.v]
            have g := below_new w9 (.cells #[.int .i64 k6, .slice va6 vn6 vc6, .slice na6 nn6 nc6, .slice ba6 bn6 bc6] 26)
            replace bb := bb.trans (g.mono bb.size)
            replace HM := Lib.hid (HM.out.on g)
            clear g
            go_wp2_with fail
            refine (wakes_any _ HM.out).mono ?_
            rintro e w9 ⟨rfl, g⟩
            replace bb := bb.trans (g.mono bb.size)
            clear g HM
            go_wp2_with fail
            go_ret
            exact ⟨rfl, bb⟩
        case true =>
          have kl : j4 < L.length := by rw [own_lt HOL.out]; omega
          have q0 := own_byteC HOL.out kl
          have f0 := HOL.out.frozenAt j4
          have hxl := HLt.out L[j4] (List.getElem_mem kl)
          have HSt : Hid (∀ y : Nat, (V2.setCell ⟨gg8, j4, none⟩ (.int .u8 (y : Int))).ownsRow w2.heap.size 5 1 (.slice (some ⟨gg8, 0, none⟩) nb d8) nb (ycells (L.set j4 y))) := Lib.hid (fun y => by
            have h := (HOL.out.stored j4 (.int .u8 (y : Int))).1
            rwa [ycells_set] at h)
          have hEi := err_incm L (by rw [own_lt HOL.out]; omega) HLm.out j4 hj4l kl hxl
          have hinc := inc_u8 L[j4] hxl
          have hil := inc_lt L[j4]
          generalize hIv : inc L[j4] = iv at *
          generalize L[j4] = ov at *
          clear hIv
          go_upto_region 23 with (fail)
          replace HOL := Lib.hid (HSt.out iv)
          replace gs : Below w2.heap.size w2 (V2.setCell ⟨gg8, j4, none⟩ (.int .u8 (iv : Int))) := gs.setCell (p := ⟨gg8, j4, none⟩) hge _
          clear HSt q0 f0 kl r0 r1 p2 HM
          generalize V2.setCell ⟨gg8, j4, none⟩ (.int .u8 (iv : Int)) = V2m at *
          replace HLt : Hid (∀ z ∈ L.set j4 iv, z < 256) := Lib.hid (set_lt HLt.out _ _ hil)
          replace HEr := Lib.hid hEi
          clear HLm hEi
          generalize L.set j4 iv = L at *
          have r0 := kept_cell gs r0c
          have r1 := kept_cell gs r1c
          have p2 := kept_cell gs p2c
          have HM := Lib.hid (HMc.out.on gs)
          cases hb16 : (bits .and .u8 (x0 : Int) 16 == 16)
          case false =>
            have HRB := Lib.hid (own_RB HOL.out HLt.out)
            have HSS := Lib.hid (own_shp HOL.out)
            have HD := Lib.hid (fun V (g : Below V2m.heap.size V2m V) => decode_is L 22 _ (by rw [HEr.out]; rfl) rfl nb (some ⟨gg8, 0, none⟩) d8 V (HRB.out.on g) HSS.out (by omega) (HM.out.on g))
            have bb := bbc.trans (gs.mono bbc.size)
            clear HOL
            go_wp2_with fail
            refine (HD.out _ (Below.refl _ _)).mono ?_
            rintro e w9 ⟨⟨k6, va6, vn6, vc6, vb6, na6, nn6, nc6, nh6, ba6, bn6, bc6, bb6⟩, rfl, _, _, g⟩
            replace bb := bb.trans (g.mono bb.size)
            replace HM := Lib.hid (HM.out.on g)
            clear g HD HRB HSS r0 r1 p2
            simp only [TV.v]
            have g := below_new w9 (.cells #[.int .i64 k6, .slice va6 vn6 vc6, .slice na6 nn6 nc6, .slice ba6 bn6 bc6] 26)
            replace bb := bb.trans (g.mono bb.size)
            replace HM := Lib.hid (HM.out.on g)
            clear g
            go_wp2_with fail
            refine (wakes_any _ HM.out).mono ?_
            rintro e w9 ⟨rfl, g⟩
            replace bb := bb.trans (g.mono bb.size)
            clear g HM
            go_wp2_with fail
            go_ret
            exact ⟨rfl, bb⟩
          case true =>
            have HRB := Lib.hid ((own_RB HOL.out HLt.out).take (k := j11) (by omega))
            have HSS : Hid (Shp (some (⟨gg8, 0, none⟩ : Addr)) j11 d8) := Lib.hid ⟨fun h => (by cases h), by have := (own_shp HOL.out).2.1; omega, (own_shp HOL.out).2.2⟩
            have hcp : (j11 : Int) ≤ (d8 : Int) := by have := (own_shp HOL.out).2.1; omega
            have hcp2 : j11 ≤ d8 := by omega
            have HD := Lib.hid (fun V (g : Below V2m.heap.size V2m V) => decode_is (L.take j11) 21 _ (by rw [err_short (b := L.take j11) (by rw [List.length_take]; omega)]; rfl) rfl j11 (some ⟨gg8, 0, none⟩) d8 V (HRB.out.on g) HSS.out (by omega) (HM.out.on g))
            have bb := bbc.trans (gs.mono bbc.size)
            clear HOL
            go_wp2_with fail
            refine (HD.out _ (Below.refl _ _)).mono ?_
            rintro e w9 ⟨⟨k6, va6, vn6, vc6, vb6, na6, nn6, nc6, nh6, ba6, bn6, bc6, bb6⟩, rfl, _, _, g⟩
            replace bb := bb.trans (g.mono bb.size)
            replace HM := Lib.hid (HM.out.on g)
            clear g HD HRB HSS r0 r1 p2
            simp only [TV.v]
            have g := below_new w9 (.cells #[.int .i64 k6, .slice va6 vn6 vc6, .slice na6 nn6 nc6, .slice ba6 bn6 bc6] 26)
            replace bb := bb.trans (g.mono bb.size)
            replace HM := Lib.hid (HM.out.on g)
            clear g
            go_wp2_with fail
            refine (wakes_any _ HM.out).mono ?_
            rintro e w9 ⟨rfl, g⟩
            replace bb := bb.trans (g.mono bb.size)
            clear g HM
            go_wp2_with fail
            go_ret
            exact ⟨rfl, bb⟩
      case true =>
        have kl : m3 < L.length := by rw [own_lt HOL.out]; omega
        have q0 := own_byteC HOL.out kl
        have f0 := HOL.out.frozenAt m3
        have hxl := HLt.out L[m3] (List.getElem_mem kl)
        have HSt : Hid (∀ y : Nat, (V2.setCell ⟨gg8, m3, none⟩ (.int .u8 (y : Int))).ownsRow w2.heap.size 5 1 (.slice (some ⟨gg8, 0, none⟩) nb d8) nb (ycells (L.set m3 y))) := Lib.hid (fun y => by
          have h := (HOL.out.stored m3 (.int .u8 (y : Int))).1
          rwa [ycells_set] at h)
        have hEi := HLs.out (inc L[m3]) (inc_lt _) (fun e => by rw [List.getElem?_eq_getElem kl] at e; exact inc_ne hxl (Option.some.inj e).symm)
        have hinc := inc_u8 L[m3] hxl
        have hil := inc_lt L[m3]
        generalize hIv : inc L[m3] = iv at *
        generalize L[m3] = ov at *
        clear hIv
        have HLm' : Hid ((L.set m3 iv).take 4 = markB) := Lib.hid (by rw [List.take_set_of_le (by have := HM3.out; omega)]; exact HLm.out)
        go_upto_region 20 with (fail)
        replace HOL := Lib.hid (HSt.out iv)
        replace gs : Below w2.heap.size w2 (V2.setCell ⟨gg8, m3, none⟩ (.int .u8 (iv : Int))) := gs.setCell (p := ⟨gg8, m3, none⟩) hge _
        clear HSt q0 f0 kl r0 r1 p2 HM
        generalize V2.setCell ⟨gg8, m3, none⟩ (.int .u8 (iv : Int)) = V2s at *
        replace HLt : Hid (∀ z ∈ L.set m3 iv, z < 256) := Lib.hid (set_lt HLt.out _ _ hil)
        replace HEr := Lib.hid hEi
        clear HLm hEi HLs
        have HLm := HLm'
        clear HLm'
        generalize L.set m3 iv = L at *
        have r0 := kept_cell gs r0c
        have r1 := kept_cell gs r1c
        have p2 := kept_cell gs p2c
        have HM := Lib.hid (HMc.out.on gs)
        cases hb8 : (bits .and .u8 (x0 : Int) 8 == 8)
        case false =>
          cases hb16 : (bits .and .u8 (x0 : Int) 16 == 16)
          case false =>
            have HRB := Lib.hid (own_RB HOL.out HLt.out)
            have HSS := Lib.hid (own_shp HOL.out)
            have HD := Lib.hid (fun V (g : Below V2s.heap.size V2s V) => decode_is L 23 _ (by rw [HEr.out]; rfl) rfl nb (some ⟨gg8, 0, none⟩) d8 V (HRB.out.on g) HSS.out (by omega) (HM.out.on g))
            have bb := bbc.trans (gs.mono bbc.size)
            clear HOL
            go_wp2_with fail
            refine (HD.out _ (Below.refl _ _)).mono ?_
            rintro e w9 ⟨⟨k6, va6, vn6, vc6, vb6, na6, nn6, nc6, nh6, ba6, bn6, bc6, bb6⟩, rfl, _, _, g⟩
            replace bb := bb.trans (g.mono bb.size)
            replace HM := Lib.hid (HM.out.on g)
            clear g HD HRB HSS r0 r1 p2
            simp only [TV.v]
            have g := below_new w9 (.cells #[.int .i64 k6, .slice va6 vn6 vc6, .slice na6 nn6 nc6, .slice ba6 bn6 bc6] 26)
            replace bb := bb.trans (g.mono bb.size)
            replace HM := Lib.hid (HM.out.on g)
            clear g
            go_wp2_with fail
            refine (wakes_any _ HM.out).mono ?_
            rintro e w9 ⟨rfl, g⟩
            replace bb := bb.trans (g.mono bb.size)
            clear g HM
            go_wp2_with fail
            go_ret
            exact ⟨rfl, bb⟩
          case true =>
            have HRB := Lib.hid ((own_RB HOL.out HLt.out).take (k := j11) (by omega))
            have HSS : Hid (Shp (some (⟨gg8, 0, none⟩ : Addr)) j11 d8) := Lib.hid ⟨fun h => (by cases h), by have := (own_shp HOL.out).2.1; omega, (own_shp HOL.out).2.2⟩
            have hcp : (j11 : Int) ≤ (d8 : Int) := by have := (own_shp HOL.out).2.1; omega
            have hcp2 : j11 ≤ d8 := by omega
            have HD := Lib.hid (fun V (g : Below V2s.heap.size V2s V) => decode_is (L.take j11) 21 _ (by rw [err_short (b := L.take j11) (by rw [List.length_take]; omega)]; rfl) rfl j11 (some ⟨gg8, 0, none⟩) d8 V (HRB.out.on g) HSS.out (by omega) (HM.out.on g))
            have bb := bbc.trans (gs.mono bbc.size)
            clear HOL
            go_wp2_with fail
            refine (HD.out _ (Below.refl _ _)).mono ?_
            rintro e w9 ⟨⟨k6, va6, vn6, vc6, vb6, na6, nn6, nc6, nh6, ba6, bn6, bc6, bb6⟩, rfl, _, _, g⟩
            replace bb := bb.trans (g.mono bb.size)
            replace HM := Lib.hid (HM.out.on g)
            clear g HD HRB HSS r0 r1 p2
            simp only [TV.v]
            have g := below_new w9 (.cells #[.int .i64 k6, .slice va6 vn6 vc6, .slice na6 nn6 nc6, .slice ba6 bn6 bc6] 26)
            replace bb := bb.trans (g.mono bb.size)
            replace HM := Lib.hid (HM.out.on g)
            clear g
            go_wp2_with fail
            refine (wakes_any _ HM.out).mono ?_
            rintro e w9 ⟨rfl, g⟩
            replace bb := bb.trans (g.mono bb.size)
            clear g HM
            go_wp2_with fail
            go_ret
            exact ⟨rfl, bb⟩
        case true =>
          have kl : j4 < L.length := by rw [own_lt HOL.out]; omega
          have q0 := own_byteC HOL.out kl
          have f0 := HOL.out.frozenAt j4
          have hxl := HLt.out L[j4] (List.getElem_mem kl)
          have HSt : Hid (∀ y : Nat, (V2s.setCell ⟨gg8, j4, none⟩ (.int .u8 (y : Int))).ownsRow w2.heap.size 5 1 (.slice (some ⟨gg8, 0, none⟩) nb d8) nb (ycells (L.set j4 y))) := Lib.hid (fun y => by
            have h := (HOL.out.stored j4 (.int .u8 (y : Int))).1
            rwa [ycells_set] at h)
          have hEi := err_incm L (by rw [own_lt HOL.out]; omega) HLm.out j4 hj4l kl hxl
          have hinc := inc_u8 L[j4] hxl
          have hil := inc_lt L[j4]
          generalize hIv : inc L[j4] = iv at *
          generalize L[j4] = ov at *
          clear hIv
          go_upto_region 23 with (fail)
          replace HOL := Lib.hid (HSt.out iv)
          replace gs : Below w2.heap.size w2 (V2s.setCell ⟨gg8, j4, none⟩ (.int .u8 (iv : Int))) := gs.setCell (p := ⟨gg8, j4, none⟩) hge _
          clear HSt q0 f0 kl r0 r1 p2 HM
          generalize V2s.setCell ⟨gg8, j4, none⟩ (.int .u8 (iv : Int)) = V2sm at *
          replace HLt : Hid (∀ z ∈ L.set j4 iv, z < 256) := Lib.hid (set_lt HLt.out _ _ hil)
          replace HEr := Lib.hid hEi
          clear HLm hEi
          generalize L.set j4 iv = L at *
          have r0 := kept_cell gs r0c
          have r1 := kept_cell gs r1c
          have p2 := kept_cell gs p2c
          have HM := Lib.hid (HMc.out.on gs)
          cases hb16 : (bits .and .u8 (x0 : Int) 16 == 16)
          case false =>
            have HRB := Lib.hid (own_RB HOL.out HLt.out)
            have HSS := Lib.hid (own_shp HOL.out)
            have HD := Lib.hid (fun V (g : Below V2sm.heap.size V2sm V) => decode_is L 22 _ (by rw [HEr.out]; rfl) rfl nb (some ⟨gg8, 0, none⟩) d8 V (HRB.out.on g) HSS.out (by omega) (HM.out.on g))
            have bb := bbc.trans (gs.mono bbc.size)
            clear HOL
            go_wp2_with fail
            refine (HD.out _ (Below.refl _ _)).mono ?_
            rintro e w9 ⟨⟨k6, va6, vn6, vc6, vb6, na6, nn6, nc6, nh6, ba6, bn6, bc6, bb6⟩, rfl, _, _, g⟩
            replace bb := bb.trans (g.mono bb.size)
            replace HM := Lib.hid (HM.out.on g)
            clear g HD HRB HSS r0 r1 p2
            simp only [TV.v]
            have g := below_new w9 (.cells #[.int .i64 k6, .slice va6 vn6 vc6, .slice na6 nn6 nc6, .slice ba6 bn6 bc6] 26)
            replace bb := bb.trans (g.mono bb.size)
            replace HM := Lib.hid (HM.out.on g)
            clear g
            go_wp2_with fail
            refine (wakes_any _ HM.out).mono ?_
            rintro e w9 ⟨rfl, g⟩
            replace bb := bb.trans (g.mono bb.size)
            clear g HM
            go_wp2_with fail
            go_ret
            exact ⟨rfl, bb⟩
          case true =>
            have HRB := Lib.hid ((own_RB HOL.out HLt.out).take (k := j11) (by omega))
            have HSS : Hid (Shp (some (⟨gg8, 0, none⟩ : Addr)) j11 d8) := Lib.hid ⟨fun h => (by cases h), by have := (own_shp HOL.out).2.1; omega, (own_shp HOL.out).2.2⟩
            have hcp : (j11 : Int) ≤ (d8 : Int) := by have := (own_shp HOL.out).2.1; omega
            have hcp2 : j11 ≤ d8 := by omega
            have HD := Lib.hid (fun V (g : Below V2sm.heap.size V2sm V) => decode_is (L.take j11) 21 _ (by rw [err_short (b := L.take j11) (by rw [List.length_take]; omega)]; rfl) rfl j11 (some ⟨gg8, 0, none⟩) d8 V (HRB.out.on g) HSS.out (by omega) (HM.out.on g))
            have bb := bbc.trans (gs.mono bbc.size)
            clear HOL
            go_wp2_with fail
            refine (HD.out _ (Below.refl _ _)).mono ?_
            rintro e w9 ⟨⟨k6, va6, vn6, vc6, vb6, na6, nn6, nc6, nh6, ba6, bn6, bc6, bb6⟩, rfl, _, _, g⟩
            replace bb := bb.trans (g.mono bb.size)
            replace HM := Lib.hid (HM.out.on g)
            clear g HD HRB HSS r0 r1 p2
            simp only [TV.v]
            have g := below_new w9 (.cells #[.int .i64 k6, .slice va6 vn6 vc6, .slice na6 nn6 nc6, .slice ba6 bn6 bc6] 26)
            replace bb := bb.trans (g.mono bb.size)
            replace HM := Lib.hid (HM.out.on g)
            clear g
            go_wp2_with fail
            refine (wakes_any _ HM.out).mono ?_
            rintro e w9 ⟨rfl, g⟩
            replace bb := bb.trans (g.mono bb.size)
            clear g HM
            go_wp2_with fail
            go_ret
            exact ⟨rfl, bb⟩
  case true =>
    have kl : m1 < L.length := by rw [own_lt HOL.out]; omega
    have q0 := own_byteC HOL.out kl
    have f0 := HOL.out.frozenAt m1
    have hxl := HLt.out L[m1] (List.getElem_mem kl)
    have HSt : Hid (∀ y : Nat, (w3.setCell ⟨gg, m1, none⟩ (.int .u8 (y : Int))).ownsRow w2.heap.size 5 1 (.slice (some ⟨gg, 0, none⟩) nb d3) nb (ycells (L.set m1 y))) := Lib.hid (fun y => by
      have h := (HOL.out.stored m1 (.int .u8 (y : Int))).1
      rwa [ycells_set] at h)
    have hXm : m1 < X.length := by rw [HNx.out]; exact hm1l
    have hLX : L[m1] = X[m1] := by
      have h : (L.take nx)[m1]? = X[m1]? := by rw [HZ.out]
      rw [List.getElem?_take_of_lt hm1l, List.getElem?_eq_getElem kl, List.getElem?_eq_getElem hXm] at h
      exact Option.some.inj h
    have hor := or_u8b L[m1] hxl
    have hvl := or_128_lt hxl
    have hvb := or_128 L[m1]
    generalize hIv : L[m1] ||| 128 = iv at *
    generalize L[m1] = ov at *
    clear hIv hLX
    have HZ' : Hid ((L.set m1 iv).take nx = X.set m1 iv) := Lib.hid (by rw [set_at, HZ.out])
    have HZe' : Hid (errT (sealB (X.set m1 iv)) = 25) := Lib.hid (by
      have h := HBey.out iv hvb
      rwa [HNx.out, HM1.out] at h)
    have HZm' : Hid ((X.set m1 iv).take 4 = markB) := Lib.hid (by rw [List.take_set_of_le (by have := HM1.out; omega)]; exact HZm.out)
    have HZn' : Hid ((X.set m1 iv).length = nx) := Lib.hid (by rw [List.length_set]; exact HZn.out)
    have HZx' : Hid (∀ z ∈ X.set m1 iv, z < 256) := Lib.hid (set_lt HZx.out _ _ hvl)
    go_upto_region 13 with (fail)
    replace HOL := Lib.hid (HSt.out iv)
    replace gs : Below w2.heap.size w2 (w3.setCell ⟨gg, m1, none⟩ (.int .u8 (iv : Int))) := gs.setCell (p := ⟨gg, m1, none⟩) hge _
    clear HSt q0 f0 kl r0 r1 p2 HM
    generalize w3.setCell ⟨gg, m1, none⟩ (.int .u8 (iv : Int)) = w4 at *
    replace HLt : Hid (∀ z ∈ L.set m1 iv, z < 256) := Lib.hid (set_lt HLt.out _ _ hvl)
    clear HZ HZe HZm HZn HZx
    have HZ := HZ'
    have HZe := HZe'
    have HZm := HZm'
    have HZn := HZn'
    have HZx := HZx'
    clear HZ' HZe' HZm' HZn' HZx' HBey HXl HNx hXm
    generalize L.set m1 iv = L at *
    generalize X.set m1 iv = Z at *
    have r0 := kept_cell gs r0c
    have r1 := kept_cell gs r1c
    have p2 := kept_cell gs p2c
    have HM := Lib.hid (HMc.out.on gs)
    cases hb2 : (bits .and .u8 (x0 : Int) 2 == 2)
    case false =>
      have HRz : Hid (RB w4 w4.heap.size (some ⟨gg, 0, none⟩) nx Z) := Lib.hid (by
        have h := (own_RB HOL.out HLt.out).take (k := nx) (by omega)
        rwa [HZ.out] at h)
      have HSz : Hid (Shp (some (⟨gg, 0, none⟩ : Addr)) nx d3) := Lib.hid ⟨fun h => (by cases h), by have := (own_shp HOL.out).2.1; omega, (own_shp HOL.out).2.2⟩
      have hcz : nx ≤ d3 := HSz.out.2.1
      have hczI : (nx : Int) ≤ (d3 : Int) := by omega
      have ew : IntKind.i64.wrap ((nb : Int) - 4) = (nx : Int) := by rw [IntKind.wrap_i64]; omega
      have ew2 : IntKind.i64.wrap (nx : Int) = (nx : Int) := by rw [IntKind.wrap_i64]; omega
      have hsl := sumL_lt Z
      have HSum := Lib.hid (fun V (g : Below w4.heap.size w4 V) => refSum_any Z nx (some ⟨gg, 0, none⟩) d3 V (HRz.out.on g) (by omega))
      have HPut := Lib.hid (fun V (g : Below w4.heap.size w4 V) => refPut_any Z nx (some ⟨gg, 0, none⟩) d3 ((sumL Z : Nat) : Int) 4 V HSz.out.1 (HRz.out.on g) (by omega))
      have HSe : Hid (Z ++ lowB ((sumL Z : Nat) : Int) (cutN 4) = sealB Z) := Lib.hid rfl
      generalize sumL Z = su at *
      have ews : IntKind.i64.wrap (su : Int) = (su : Int) := by rw [IntKind.wrap_i64]; omega
      have bR := Below.refl w4.heap.size w4
      have hsum : Hid (∀ V, Below w4.heap.size w4 V → Calls Tryd.prog 22 #[.slice (some ⟨gg, 0, none⟩) nx d3] V fun e w' => e = .returned (.int .u32 (su : Int)) ∧ Below w4.heap.size w4 w') := Lib.hid (fun V hV => (HSum.out V hV).mono (fun e w' h => ⟨h.1, by rw [h.2]; exact hV⟩))
      have hput : Hid (∀ V, Below w4.heap.size w4 V → Calls Tryd.prog 21 #[.slice (some ⟨gg, 0, none⟩) nx d3, .int .i64 (su : Int), .int .i64 4] V fun e w' => (∃ A c, e = .returned (.slice A (nx + 4) c) ∧ w'.ownsRow w2.heap.size 5 1 (.slice A (nx + 4) c) (nx + 4) (ycells (sealB Z))) ∧ Below w4.heap.size w4 w') := Lib.hid (fun V hV => (HPut.out V hV).mono (fun e w' h => by
        obtain ⟨A, c, he, _, _, ho, hg⟩ := h
        rw [HSe.out] at ho
        exact ⟨⟨A, c, he, own_base ho (Nat.le_trans gs.size hV.size)⟩, hV.trans (hg.mono hV.size)⟩))
      clear HSum HPut HSe HRz HSz
      go_upto_region 16 with (fail)
      go_region_held3 (fun V => Below w4.heap.size w4 V) (with_reducible (first | assumption | exact bR | exact Below.drew bR)) (first | (go_at_call 22; with_reducible refine Calls.mono (hsum.out _ ?_) ?_; (first | assumption | exact bR | exact Below.drew bR); rintro e V1 ⟨rfl, b1⟩) | (go_at_call 21; with_reducible refine Calls.mono (hput.out _ ?_) ?_; (first | assumption | exact bR | exact Below.drew bR); rintro e V2 ⟨⟨A8, d8, rfl, o8⟩, b8⟩))
      clear hsum hput HOL HLt HZ hge r0 r1 p2 HM
      replace gs := gs.trans (b8.mono gs.size)
      clear b8
      obtain ⟨gg8, cap8, hv8, _, _⟩ := o8.form (by omega)
      obtain ⟨rfl, rfl⟩ : A8 = some ⟨gg8, 0, none⟩ ∧ d8 = cap8 := by injection hv8 with h1 h2 h3; exact ⟨h1, h3⟩
      have hge : w2.heap.size ≤ gg8 := (o8.lt gg8 rfl).1
      try rw [hnb4] at o8
      try rw [hnb4]
      have HOL := Lib.hid o8
      clear o8 hv8
      have HLt := Lib.hid (seal_lt HZx.out)
      have HLs : Hid (∀ w, w < 256 → (sealB Z)[m3]? ≠ some w → errT ((sealB Z).set m3 w) = 23) := Lib.hid (fun w hw hne => by
        have h := err_last Z (by rw [HZn.out]; omega) HZm.out w hw (by rw [HZn.out, HM3.out]; exact hne)
        rwa [HZn.out, HM3.out] at h)
      have HLm : Hid ((sealB Z).take 4 = markB) := Lib.hid (by unfold sealB; rw [List.take_append_of_le_length (by rw [HZn.out]; omega)]; exact HZm.out)
      have HEr := HZe
      clear HZe HZm HZn HZx
      generalize sealB Z = L at *
      have r0 := kept_cell gs r0c
      have r1 := kept_cell gs r1c
      have p2 := kept_cell gs p2c
      have HM := Lib.hid (HMc.out.on gs)
      cases hb4 : (bits .and .u8 (x0 : Int) 4 == 4)
      case false =>
        clear HLs
        cases hb8 : (bits .and .u8 (x0 : Int) 8 == 8)
        case false =>
          cases hb16 : (bits .and .u8 (x0 : Int) 16 == 16)
          case false =>
            have HRB := Lib.hid (own_RB HOL.out HLt.out)
            have HSS := Lib.hid (own_shp HOL.out)
            have HD := Lib.hid (fun V (g : Below V2.heap.size V2 V) => decode_is L 25 _ (by rw [HEr.out]; rfl) rfl nb (some ⟨gg8, 0, none⟩) d8 V (HRB.out.on g) HSS.out (by omega) (HM.out.on g))
            have bb := bbc.trans (gs.mono bbc.size)
            clear HOL
            go_wp2_with fail
            refine (HD.out _ (Below.refl _ _)).mono ?_
            rintro e w9 ⟨⟨k6, va6, vn6, vc6, vb6, na6, nn6, nc6, nh6, ba6, bn6, bc6, bb6⟩, rfl, _, _, g⟩
            replace bb := bb.trans (g.mono bb.size)
            replace HM := Lib.hid (HM.out.on g)
            clear g HD HRB HSS r0 r1 p2
            simp only [TV.v]
            have g := below_new w9 (.cells #[.int .i64 k6, .slice va6 vn6 vc6, .slice na6 nn6 nc6, .slice ba6 bn6 bc6] 26)
            replace bb := bb.trans (g.mono bb.size)
            replace HM := Lib.hid (HM.out.on g)
            clear g
            go_wp2_with fail
            refine (wakes_any _ HM.out).mono ?_
            rintro e w9 ⟨rfl, g⟩
            replace bb := bb.trans (g.mono bb.size)
            clear g HM
            go_wp2_with fail
            go_ret
            exact ⟨rfl, bb⟩
          case true =>
            have HRB := Lib.hid ((own_RB HOL.out HLt.out).take (k := j11) (by omega))
            have HSS : Hid (Shp (some (⟨gg8, 0, none⟩ : Addr)) j11 d8) := Lib.hid ⟨fun h => (by cases h), by have := (own_shp HOL.out).2.1; omega, (own_shp HOL.out).2.2⟩
            have hcp : (j11 : Int) ≤ (d8 : Int) := by have := (own_shp HOL.out).2.1; omega
            have hcp2 : j11 ≤ d8 := by omega
            have HD := Lib.hid (fun V (g : Below V2.heap.size V2 V) => decode_is (L.take j11) 21 _ (by rw [err_short (b := L.take j11) (by rw [List.length_take]; omega)]; rfl) rfl j11 (some ⟨gg8, 0, none⟩) d8 V (HRB.out.on g) HSS.out (by omega) (HM.out.on g))
            have bb := bbc.trans (gs.mono bbc.size)
            clear HOL
            go_wp2_with fail
            refine (HD.out _ (Below.refl _ _)).mono ?_
            rintro e w9 ⟨⟨k6, va6, vn6, vc6, vb6, na6, nn6, nc6, nh6, ba6, bn6, bc6, bb6⟩, rfl, _, _, g⟩
            replace bb := bb.trans (g.mono bb.size)
            replace HM := Lib.hid (HM.out.on g)
            clear g HD HRB HSS r0 r1 p2
            simp only [TV.v]
            have g := below_new w9 (.cells #[.int .i64 k6, .slice va6 vn6 vc6, .slice na6 nn6 nc6, .slice ba6 bn6 bc6] 26)
            replace bb := bb.trans (g.mono bb.size)
            replace HM := Lib.hid (HM.out.on g)
            clear g
            go_wp2_with fail
            refine (wakes_any _ HM.out).mono ?_
            rintro e w9 ⟨rfl, g⟩
            replace bb := bb.trans (g.mono bb.size)
            clear g HM
            go_wp2_with fail
            go_ret
            exact ⟨rfl, bb⟩
        case true =>
          have kl : j4 < L.length := by rw [own_lt HOL.out]; omega
          have q0 := own_byteC HOL.out kl
          have f0 := HOL.out.frozenAt j4
          have hxl := HLt.out L[j4] (List.getElem_mem kl)
          have HSt : Hid (∀ y : Nat, (V2.setCell ⟨gg8, j4, none⟩ (.int .u8 (y : Int))).ownsRow w2.heap.size 5 1 (.slice (some ⟨gg8, 0, none⟩) nb d8) nb (ycells (L.set j4 y))) := Lib.hid (fun y => by
            have h := (HOL.out.stored j4 (.int .u8 (y : Int))).1
            rwa [ycells_set] at h)
          have hEi := err_incm L (by rw [own_lt HOL.out]; omega) HLm.out j4 hj4l kl hxl
          have hinc := inc_u8 L[j4] hxl
          have hil := inc_lt L[j4]
          generalize hIv : inc L[j4] = iv at *
          generalize L[j4] = ov at *
          clear hIv
          go_upto_region 23 with (fail)
          replace HOL := Lib.hid (HSt.out iv)
          replace gs : Below w2.heap.size w2 (V2.setCell ⟨gg8, j4, none⟩ (.int .u8 (iv : Int))) := gs.setCell (p := ⟨gg8, j4, none⟩) hge _
          clear HSt q0 f0 kl r0 r1 p2 HM
          generalize V2.setCell ⟨gg8, j4, none⟩ (.int .u8 (iv : Int)) = V2m at *
          replace HLt : Hid (∀ z ∈ L.set j4 iv, z < 256) := Lib.hid (set_lt HLt.out _ _ hil)
          replace HEr := Lib.hid hEi
          clear HLm hEi
          generalize L.set j4 iv = L at *
          have r0 := kept_cell gs r0c
          have r1 := kept_cell gs r1c
          have p2 := kept_cell gs p2c
          have HM := Lib.hid (HMc.out.on gs)
          cases hb16 : (bits .and .u8 (x0 : Int) 16 == 16)
          case false =>
            have HRB := Lib.hid (own_RB HOL.out HLt.out)
            have HSS := Lib.hid (own_shp HOL.out)
            have HD := Lib.hid (fun V (g : Below V2m.heap.size V2m V) => decode_is L 22 _ (by rw [HEr.out]; rfl) rfl nb (some ⟨gg8, 0, none⟩) d8 V (HRB.out.on g) HSS.out (by omega) (HM.out.on g))
            have bb := bbc.trans (gs.mono bbc.size)
            clear HOL
            go_wp2_with fail
            refine (HD.out _ (Below.refl _ _)).mono ?_
            rintro e w9 ⟨⟨k6, va6, vn6, vc6, vb6, na6, nn6, nc6, nh6, ba6, bn6, bc6, bb6⟩, rfl, _, _, g⟩
            replace bb := bb.trans (g.mono bb.size)
            replace HM := Lib.hid (HM.out.on g)
            clear g HD HRB HSS r0 r1 p2
            simp only [TV.v]
            have g := below_new w9 (.cells #[.int .i64 k6, .slice va6 vn6 vc6, .slice na6 nn6 nc6, .slice ba6 bn6 bc6] 26)
            replace bb := bb.trans (g.mono bb.size)
            replace HM := Lib.hid (HM.out.on g)
            clear g
            go_wp2_with fail
            refine (wakes_any _ HM.out).mono ?_
            rintro e w9 ⟨rfl, g⟩
            replace bb := bb.trans (g.mono bb.size)
            clear g HM
            go_wp2_with fail
            go_ret
            exact ⟨rfl, bb⟩
          case true =>
            have HRB := Lib.hid ((own_RB HOL.out HLt.out).take (k := j11) (by omega))
            have HSS : Hid (Shp (some (⟨gg8, 0, none⟩ : Addr)) j11 d8) := Lib.hid ⟨fun h => (by cases h), by have := (own_shp HOL.out).2.1; omega, (own_shp HOL.out).2.2⟩
            have hcp : (j11 : Int) ≤ (d8 : Int) := by have := (own_shp HOL.out).2.1; omega
            have hcp2 : j11 ≤ d8 := by omega
            have HD := Lib.hid (fun V (g : Below V2m.heap.size V2m V) => decode_is (L.take j11) 21 _ (by rw [err_short (b := L.take j11) (by rw [List.length_take]; omega)]; rfl) rfl j11 (some ⟨gg8, 0, none⟩) d8 V (HRB.out.on g) HSS.out (by omega) (HM.out.on g))
            have bb := bbc.trans (gs.mono bbc.size)
            clear HOL
            go_wp2_with fail
            refine (HD.out _ (Below.refl _ _)).mono ?_
            rintro e w9 ⟨⟨k6, va6, vn6, vc6, vb6, na6, nn6, nc6, nh6, ba6, bn6, bc6, bb6⟩, rfl, _, _, g⟩
            replace bb := bb.trans (g.mono bb.size)
            replace HM := Lib.hid (HM.out.on g)
            clear g HD HRB HSS r0 r1 p2
            simp only [TV.v]
            have g := below_new w9 (.cells #[.int .i64 k6, .slice va6 vn6 vc6, .slice na6 nn6 nc6, .slice ba6 bn6 bc6] 26)
            replace bb := bb.trans (g.mono bb.size)
            replace HM := Lib.hid (HM.out.on g)
            clear g
            go_wp2_with fail
            refine (wakes_any _ HM.out).mono ?_
            rintro e w9 ⟨rfl, g⟩
            replace bb := bb.trans (g.mono bb.size)
            clear g HM
            go_wp2_with fail
            go_ret
            exact ⟨rfl, bb⟩
      case true =>
        have kl : m3 < L.length := by rw [own_lt HOL.out]; omega
        have q0 := own_byteC HOL.out kl
        have f0 := HOL.out.frozenAt m3
        have hxl := HLt.out L[m3] (List.getElem_mem kl)
        have HSt : Hid (∀ y : Nat, (V2.setCell ⟨gg8, m3, none⟩ (.int .u8 (y : Int))).ownsRow w2.heap.size 5 1 (.slice (some ⟨gg8, 0, none⟩) nb d8) nb (ycells (L.set m3 y))) := Lib.hid (fun y => by
          have h := (HOL.out.stored m3 (.int .u8 (y : Int))).1
          rwa [ycells_set] at h)
        have hEi := HLs.out (inc L[m3]) (inc_lt _) (fun e => by rw [List.getElem?_eq_getElem kl] at e; exact inc_ne hxl (Option.some.inj e).symm)
        have hinc := inc_u8 L[m3] hxl
        have hil := inc_lt L[m3]
        generalize hIv : inc L[m3] = iv at *
        generalize L[m3] = ov at *
        clear hIv
        have HLm' : Hid ((L.set m3 iv).take 4 = markB) := Lib.hid (by rw [List.take_set_of_le (by have := HM3.out; omega)]; exact HLm.out)
        go_upto_region 20 with (fail)
        replace HOL := Lib.hid (HSt.out iv)
        replace gs : Below w2.heap.size w2 (V2.setCell ⟨gg8, m3, none⟩ (.int .u8 (iv : Int))) := gs.setCell (p := ⟨gg8, m3, none⟩) hge _
        clear HSt q0 f0 kl r0 r1 p2 HM
        generalize V2.setCell ⟨gg8, m3, none⟩ (.int .u8 (iv : Int)) = V2s at *
        replace HLt : Hid (∀ z ∈ L.set m3 iv, z < 256) := Lib.hid (set_lt HLt.out _ _ hil)
        replace HEr := Lib.hid hEi
        clear HLm hEi HLs
        have HLm := HLm'
        clear HLm'
        generalize L.set m3 iv = L at *
        have r0 := kept_cell gs r0c
        have r1 := kept_cell gs r1c
        have p2 := kept_cell gs p2c
        have HM := Lib.hid (HMc.out.on gs)
        cases hb8 : (bits .and .u8 (x0 : Int) 8 == 8)
        case false =>
          cases hb16 : (bits .and .u8 (x0 : Int) 16 == 16)
          case false =>
            have HRB := Lib.hid (own_RB HOL.out HLt.out)
            have HSS := Lib.hid (own_shp HOL.out)
            have HD := Lib.hid (fun V (g : Below V2s.heap.size V2s V) => decode_is L 23 _ (by rw [HEr.out]; rfl) rfl nb (some ⟨gg8, 0, none⟩) d8 V (HRB.out.on g) HSS.out (by omega) (HM.out.on g))
            have bb := bbc.trans (gs.mono bbc.size)
            clear HOL
            go_wp2_with fail
            refine (HD.out _ (Below.refl _ _)).mono ?_
            rintro e w9 ⟨⟨k6, va6, vn6, vc6, vb6, na6, nn6, nc6, nh6, ba6, bn6, bc6, bb6⟩, rfl, _, _, g⟩
            replace bb := bb.trans (g.mono bb.size)
            replace HM := Lib.hid (HM.out.on g)
            clear g HD HRB HSS r0 r1 p2
            simp only [TV.v]
            have g := below_new w9 (.cells #[.int .i64 k6, .slice va6 vn6 vc6, .slice na6 nn6 nc6, .slice ba6 bn6 bc6] 26)
            replace bb := bb.trans (g.mono bb.size)
            replace HM := Lib.hid (HM.out.on g)
            clear g
            go_wp2_with fail
            refine (wakes_any _ HM.out).mono ?_
            rintro e w9 ⟨rfl, g⟩
            replace bb := bb.trans (g.mono bb.size)
            clear g HM
            go_wp2_with fail
            go_ret
            exact ⟨rfl, bb⟩
          case true =>
            have HRB := Lib.hid ((own_RB HOL.out HLt.out).take (k := j11) (by omega))
            have HSS : Hid (Shp (some (⟨gg8, 0, none⟩ : Addr)) j11 d8) := Lib.hid ⟨fun h => (by cases h), by have := (own_shp HOL.out).2.1; omega, (own_shp HOL.out).2.2⟩
            have hcp : (j11 : Int) ≤ (d8 : Int) := by have := (own_shp HOL.out).2.1; omega
            have hcp2 : j11 ≤ d8 := by omega
            have HD := Lib.hid (fun V (g : Below V2s.heap.size V2s V) => decode_is (L.take j11) 21 _ (by rw [err_short (b := L.take j11) (by rw [List.length_take]; omega)]; rfl) rfl j11 (some ⟨gg8, 0, none⟩) d8 V (HRB.out.on g) HSS.out (by omega) (HM.out.on g))
            have bb := bbc.trans (gs.mono bbc.size)
            clear HOL
            go_wp2_with fail
            refine (HD.out _ (Below.refl _ _)).mono ?_
            rintro e w9 ⟨⟨k6, va6, vn6, vc6, vb6, na6, nn6, nc6, nh6, ba6, bn6, bc6, bb6⟩, rfl, _, _, g⟩
            replace bb := bb.trans (g.mono bb.size)
            replace HM := Lib.hid (HM.out.on g)
            clear g HD HRB HSS r0 r1 p2
            simp only [TV.v]
            have g := below_new w9 (.cells #[.int .i64 k6, .slice va6 vn6 vc6, .slice na6 nn6 nc6, .slice ba6 bn6 bc6] 26)
            replace bb := bb.trans (g.mono bb.size)
            replace HM := Lib.hid (HM.out.on g)
            clear g
            go_wp2_with fail
            refine (wakes_any _ HM.out).mono ?_
            rintro e w9 ⟨rfl, g⟩
            replace bb := bb.trans (g.mono bb.size)
            clear g HM
            go_wp2_with fail
            go_ret
            exact ⟨rfl, bb⟩
        case true =>
          have kl : j4 < L.length := by rw [own_lt HOL.out]; omega
          have q0 := own_byteC HOL.out kl
          have f0 := HOL.out.frozenAt j4
          have hxl := HLt.out L[j4] (List.getElem_mem kl)
          have HSt : Hid (∀ y : Nat, (V2s.setCell ⟨gg8, j4, none⟩ (.int .u8 (y : Int))).ownsRow w2.heap.size 5 1 (.slice (some ⟨gg8, 0, none⟩) nb d8) nb (ycells (L.set j4 y))) := Lib.hid (fun y => by
            have h := (HOL.out.stored j4 (.int .u8 (y : Int))).1
            rwa [ycells_set] at h)
          have hEi := err_incm L (by rw [own_lt HOL.out]; omega) HLm.out j4 hj4l kl hxl
          have hinc := inc_u8 L[j4] hxl
          have hil := inc_lt L[j4]
          generalize hIv : inc L[j4] = iv at *
          generalize L[j4] = ov at *
          clear hIv
          go_upto_region 23 with (fail)
          replace HOL := Lib.hid (HSt.out iv)
          replace gs : Below w2.heap.size w2 (V2s.setCell ⟨gg8, j4, none⟩ (.int .u8 (iv : Int))) := gs.setCell (p := ⟨gg8, j4, none⟩) hge _
          clear HSt q0 f0 kl r0 r1 p2 HM
          generalize V2s.setCell ⟨gg8, j4, none⟩ (.int .u8 (iv : Int)) = V2sm at *
          replace HLt : Hid (∀ z ∈ L.set j4 iv, z < 256) := Lib.hid (set_lt HLt.out _ _ hil)
          replace HEr := Lib.hid hEi
          clear HLm hEi
          generalize L.set j4 iv = L at *
          have r0 := kept_cell gs r0c
          have r1 := kept_cell gs r1c
          have p2 := kept_cell gs p2c
          have HM := Lib.hid (HMc.out.on gs)
          cases hb16 : (bits .and .u8 (x0 : Int) 16 == 16)
          case false =>
            have HRB := Lib.hid (own_RB HOL.out HLt.out)
            have HSS := Lib.hid (own_shp HOL.out)
            have HD := Lib.hid (fun V (g : Below V2sm.heap.size V2sm V) => decode_is L 22 _ (by rw [HEr.out]; rfl) rfl nb (some ⟨gg8, 0, none⟩) d8 V (HRB.out.on g) HSS.out (by omega) (HM.out.on g))
            have bb := bbc.trans (gs.mono bbc.size)
            clear HOL
            go_wp2_with fail
            refine (HD.out _ (Below.refl _ _)).mono ?_
            rintro e w9 ⟨⟨k6, va6, vn6, vc6, vb6, na6, nn6, nc6, nh6, ba6, bn6, bc6, bb6⟩, rfl, _, _, g⟩
            replace bb := bb.trans (g.mono bb.size)
            replace HM := Lib.hid (HM.out.on g)
            clear g HD HRB HSS r0 r1 p2
            simp only [TV.v]
            have g := below_new w9 (.cells #[.int .i64 k6, .slice va6 vn6 vc6, .slice na6 nn6 nc6, .slice ba6 bn6 bc6] 26)
            replace bb := bb.trans (g.mono bb.size)
            replace HM := Lib.hid (HM.out.on g)
            clear g
            go_wp2_with fail
            refine (wakes_any _ HM.out).mono ?_
            rintro e w9 ⟨rfl, g⟩
            replace bb := bb.trans (g.mono bb.size)
            clear g HM
            go_wp2_with fail
            go_ret
            exact ⟨rfl, bb⟩
          case true =>
            have HRB := Lib.hid ((own_RB HOL.out HLt.out).take (k := j11) (by omega))
            have HSS : Hid (Shp (some (⟨gg8, 0, none⟩ : Addr)) j11 d8) := Lib.hid ⟨fun h => (by cases h), by have := (own_shp HOL.out).2.1; omega, (own_shp HOL.out).2.2⟩
            have hcp : (j11 : Int) ≤ (d8 : Int) := by have := (own_shp HOL.out).2.1; omega
            have hcp2 : j11 ≤ d8 := by omega
            have HD := Lib.hid (fun V (g : Below V2sm.heap.size V2sm V) => decode_is (L.take j11) 21 _ (by rw [err_short (b := L.take j11) (by rw [List.length_take]; omega)]; rfl) rfl j11 (some ⟨gg8, 0, none⟩) d8 V (HRB.out.on g) HSS.out (by omega) (HM.out.on g))
            have bb := bbc.trans (gs.mono bbc.size)
            clear HOL
            go_wp2_with fail
            refine (HD.out _ (Below.refl _ _)).mono ?_
            rintro e w9 ⟨⟨k6, va6, vn6, vc6, vb6, na6, nn6, nc6, nh6, ba6, bn6, bc6, bb6⟩, rfl, _, _, g⟩
            replace bb := bb.trans (g.mono bb.size)
            replace HM := Lib.hid (HM.out.on g)
            clear g HD HRB HSS r0 r1 p2
            simp only [TV.v]
            have g := below_new w9 (.cells #[.int .i64 k6, .slice va6 vn6 vc6, .slice na6 nn6 nc6, .slice ba6 bn6 bc6] 26)
            replace bb := bb.trans (g.mono bb.size)
            replace HM := Lib.hid (HM.out.on g)
            clear g
            go_wp2_with fail
            refine (wakes_any _ HM.out).mono ?_
            rintro e w9 ⟨rfl, g⟩
            replace bb := bb.trans (g.mono bb.size)
            clear g HM
            go_wp2_with fail
            go_ret
            exact ⟨rfl, bb⟩
    case true =>
      have kl : 5 < L.length := by rw [own_lt HOL.out]; omega
      have q0 := own_byteC HOL.out kl
      have f0 := HOL.out.frozenAt 5
      have hxl := HLt.out L[5] (List.getElem_mem kl)
      have HSt : Hid (∀ y : Nat, (w4.setCell ⟨gg, 5, none⟩ (.int .u8 (y : Int))).ownsRow w2.heap.size 5 1 (.slice (some ⟨gg, 0, none⟩) nb d3) nb (ycells (L.set 5 y))) := Lib.hid (fun y => by
        have h := (HOL.out.stored 5 (.int .u8 (y : Int))).1
        rwa [ycells_set] at h)
      have HZ' : Hid ((L.set 5 s6).take nx = Z.set 5 s6) := Lib.hid (by rw [set_at, HZ.out])
      have HZe' : Hid (errT (sealB (Z.set 5 s6)) = 24) := Lib.hid (err_states Z (by rw [HZn.out]; omega) HZm.out s6 hs6l.1)
      have HZm' : Hid ((Z.set 5 s6).take 4 = markB) := Lib.hid (by rw [List.take_set_of_le (by decide)]; exact HZm.out)
      have HZn' : Hid ((Z.set 5 s6).length = nx) := Lib.hid (by rw [List.length_set]; exact HZn.out)
      have HZx' : Hid (∀ z ∈ Z.set 5 s6, z < 256) := Lib.hid (set_lt HZx.out _ _ hs6l.2)
      generalize L[5] = ov at *
      go_upto_region 16 with (fail)
      replace HOL := Lib.hid (HSt.out s6)
      replace gs : Below w2.heap.size w2 (w4.setCell ⟨gg, 5, none⟩ (.int .u8 (s6 : Int))) := gs.setCell (p := ⟨gg, 5, none⟩) hge _
      clear HSt q0 f0 kl r0 r1 p2 HM
      generalize w4.setCell ⟨gg, 5, none⟩ (.int .u8 (s6 : Int)) = w4c at *
      replace HLt : Hid (∀ z ∈ L.set 5 s6, z < 256) := Lib.hid (set_lt HLt.out _ _ hs6l.2)
      clear HZ HZe HZm HZn HZx
      have HZ := HZ'
      have HZe := HZe'
      have HZm := HZm'
      have HZn := HZn'
      have HZx := HZx'
      clear HZ' HZe' HZm' HZn' HZx'
      generalize L.set 5 s6 = L at *
      generalize Z.set 5 s6 = Z at *
      have r0 := kept_cell gs r0c
      have r1 := kept_cell gs r1c
      have p2 := kept_cell gs p2c
      have HM := Lib.hid (HMc.out.on gs)
      have HRz : Hid (RB w4c w4c.heap.size (some ⟨gg, 0, none⟩) nx Z) := Lib.hid (by
        have h := (own_RB HOL.out HLt.out).take (k := nx) (by omega)
        rwa [HZ.out] at h)
      have HSz : Hid (Shp (some (⟨gg, 0, none⟩ : Addr)) nx d3) := Lib.hid ⟨fun h => (by cases h), by have := (own_shp HOL.out).2.1; omega, (own_shp HOL.out).2.2⟩
      have hcz : nx ≤ d3 := HSz.out.2.1
      have hczI : (nx : Int) ≤ (d3 : Int) := by omega
      have ew : IntKind.i64.wrap ((nb : Int) - 4) = (nx : Int) := by rw [IntKind.wrap_i64]; omega
      have ew2 : IntKind.i64.wrap (nx : Int) = (nx : Int) := by rw [IntKind.wrap_i64]; omega
      have hsl := sumL_lt Z
      have HSum := Lib.hid (fun V (g : Below w4c.heap.size w4c V) => refSum_any Z nx (some ⟨gg, 0, none⟩) d3 V (HRz.out.on g) (by omega))
      have HPut := Lib.hid (fun V (g : Below w4c.heap.size w4c V) => refPut_any Z nx (some ⟨gg, 0, none⟩) d3 ((sumL Z : Nat) : Int) 4 V HSz.out.1 (HRz.out.on g) (by omega))
      have HSe : Hid (Z ++ lowB ((sumL Z : Nat) : Int) (cutN 4) = sealB Z) := Lib.hid rfl
      generalize sumL Z = su at *
      have ews : IntKind.i64.wrap (su : Int) = (su : Int) := by rw [IntKind.wrap_i64]; omega
      have bR := Below.refl w4c.heap.size w4c
      have hsum : Hid (∀ V, Below w4c.heap.size w4c V → Calls Tryd.prog 22 #[.slice (some ⟨gg, 0, none⟩) nx d3] V fun e w' => e = .returned (.int .u32 (su : Int)) ∧ Below w4c.heap.size w4c w') := Lib.hid (fun V hV => (HSum.out V hV).mono (fun e w' h => ⟨h.1, by rw [h.2]; exact hV⟩))
      have hput : Hid (∀ V, Below w4c.heap.size w4c V → Calls Tryd.prog 21 #[.slice (some ⟨gg, 0, none⟩) nx d3, .int .i64 (su : Int), .int .i64 4] V fun e w' => (∃ A c, e = .returned (.slice A (nx + 4) c) ∧ w'.ownsRow w2.heap.size 5 1 (.slice A (nx + 4) c) (nx + 4) (ycells (sealB Z))) ∧ Below w4c.heap.size w4c w') := Lib.hid (fun V hV => (HPut.out V hV).mono (fun e w' h => by
        obtain ⟨A, c, he, _, _, ho, hg⟩ := h
        rw [HSe.out] at ho
        exact ⟨⟨A, c, he, own_base ho (Nat.le_trans gs.size hV.size)⟩, hV.trans (hg.mono hV.size)⟩))
      clear HSum HPut HSe HRz HSz
      go_upto_region 16 with (fail)
      go_region_held3 (fun V => Below w4c.heap.size w4c V) (with_reducible (first | assumption | exact bR | exact Below.drew bR)) (first | (go_at_call 22; with_reducible refine Calls.mono (hsum.out _ ?_) ?_; (first | assumption | exact bR | exact Below.drew bR); rintro e V1 ⟨rfl, b1⟩) | (go_at_call 21; with_reducible refine Calls.mono (hput.out _ ?_) ?_; (first | assumption | exact bR | exact Below.drew bR); rintro e V2 ⟨⟨A8, d8, rfl, o8⟩, b8⟩))
      clear hsum hput HOL HLt HZ hge r0 r1 p2 HM
      replace gs := gs.trans (b8.mono gs.size)
      clear b8
      obtain ⟨gg8, cap8, hv8, _, _⟩ := o8.form (by omega)
      obtain ⟨rfl, rfl⟩ : A8 = some ⟨gg8, 0, none⟩ ∧ d8 = cap8 := by injection hv8 with h1 h2 h3; exact ⟨h1, h3⟩
      have hge : w2.heap.size ≤ gg8 := (o8.lt gg8 rfl).1
      try rw [hnb4] at o8
      try rw [hnb4]
      have HOL := Lib.hid o8
      clear o8 hv8
      have HLt := Lib.hid (seal_lt HZx.out)
      have HLs : Hid (∀ w, w < 256 → (sealB Z)[m3]? ≠ some w → errT ((sealB Z).set m3 w) = 23) := Lib.hid (fun w hw hne => by
        have h := err_last Z (by rw [HZn.out]; omega) HZm.out w hw (by rw [HZn.out, HM3.out]; exact hne)
        rwa [HZn.out, HM3.out] at h)
      have HLm : Hid ((sealB Z).take 4 = markB) := Lib.hid (by unfold sealB; rw [List.take_append_of_le_length (by rw [HZn.out]; omega)]; exact HZm.out)
      have HEr := HZe
      clear HZe HZm HZn HZx
      generalize sealB Z = L at *
      have r0 := kept_cell gs r0c
      have r1 := kept_cell gs r1c
      have p2 := kept_cell gs p2c
      have HM := Lib.hid (HMc.out.on gs)
      cases hb4 : (bits .and .u8 (x0 : Int) 4 == 4)
      case false =>
        clear HLs
        cases hb8 : (bits .and .u8 (x0 : Int) 8 == 8)
        case false =>
          cases hb16 : (bits .and .u8 (x0 : Int) 16 == 16)
          case false =>
            have HRB := Lib.hid (own_RB HOL.out HLt.out)
            have HSS := Lib.hid (own_shp HOL.out)
            have HD := Lib.hid (fun V (g : Below V2.heap.size V2 V) => decode_is L 24 _ (by rw [HEr.out]; rfl) rfl nb (some ⟨gg8, 0, none⟩) d8 V (HRB.out.on g) HSS.out (by omega) (HM.out.on g))
            have bb := bbc.trans (gs.mono bbc.size)
            clear HOL
            go_wp2_with fail
            refine (HD.out _ (Below.refl _ _)).mono ?_
            rintro e w9 ⟨⟨k6, va6, vn6, vc6, vb6, na6, nn6, nc6, nh6, ba6, bn6, bc6, bb6⟩, rfl, _, _, g⟩
            replace bb := bb.trans (g.mono bb.size)
            replace HM := Lib.hid (HM.out.on g)
            clear g HD HRB HSS r0 r1 p2
            simp only [TV.v]
            have g := below_new w9 (.cells #[.int .i64 k6, .slice va6 vn6 vc6, .slice na6 nn6 nc6, .slice ba6 bn6 bc6] 26)
            replace bb := bb.trans (g.mono bb.size)
            replace HM := Lib.hid (HM.out.on g)
            clear g
            go_wp2_with fail
            refine (wakes_any _ HM.out).mono ?_
            rintro e w9 ⟨rfl, g⟩
            replace bb := bb.trans (g.mono bb.size)
            clear g HM
            go_wp2_with fail
            go_ret
            exact ⟨rfl, bb⟩
          case true =>
            have HRB := Lib.hid ((own_RB HOL.out HLt.out).take (k := j11) (by omega))
            have HSS : Hid (Shp (some (⟨gg8, 0, none⟩ : Addr)) j11 d8) := Lib.hid ⟨fun h => (by cases h), by have := (own_shp HOL.out).2.1; omega, (own_shp HOL.out).2.2⟩
            have hcp : (j11 : Int) ≤ (d8 : Int) := by have := (own_shp HOL.out).2.1; omega
            have hcp2 : j11 ≤ d8 := by omega
            have HD := Lib.hid (fun V (g : Below V2.heap.size V2 V) => decode_is (L.take j11) 21 _ (by rw [err_short (b := L.take j11) (by rw [List.length_take]; omega)]; rfl) rfl j11 (some ⟨gg8, 0, none⟩) d8 V (HRB.out.on g) HSS.out (by omega) (HM.out.on g))
            have bb := bbc.trans (gs.mono bbc.size)
            clear HOL
            go_wp2_with fail
            refine (HD.out _ (Below.refl _ _)).mono ?_
            rintro e w9 ⟨⟨k6, va6, vn6, vc6, vb6, na6, nn6, nc6, nh6, ba6, bn6, bc6, bb6⟩, rfl, _, _, g⟩
            replace bb := bb.trans (g.mono bb.size)
            replace HM := Lib.hid (HM.out.on g)
            clear g HD HRB HSS r0 r1 p2
            simp only [TV.v]
            have g := below_new w9 (.cells #[.int .i64 k6, .slice va6 vn6 vc6, .slice na6 nn6 nc6, .slice ba6 bn6 bc6] 26)
            replace bb := bb.trans (g.mono bb.size)
            replace HM := Lib.hid (HM.out.on g)
            clear g
            go_wp2_with fail
            refine (wakes_any _ HM.out).mono ?_
            rintro e w9 ⟨rfl, g⟩
            replace bb := bb.trans (g.mono bb.size)
            clear g HM
            go_wp2_with fail
            go_ret
            exact ⟨rfl, bb⟩
        case true =>
          have kl : j4 < L.length := by rw [own_lt HOL.out]; omega
          have q0 := own_byteC HOL.out kl
          have f0 := HOL.out.frozenAt j4
          have hxl := HLt.out L[j4] (List.getElem_mem kl)
          have HSt : Hid (∀ y : Nat, (V2.setCell ⟨gg8, j4, none⟩ (.int .u8 (y : Int))).ownsRow w2.heap.size 5 1 (.slice (some ⟨gg8, 0, none⟩) nb d8) nb (ycells (L.set j4 y))) := Lib.hid (fun y => by
            have h := (HOL.out.stored j4 (.int .u8 (y : Int))).1
            rwa [ycells_set] at h)
          have hEi := err_incm L (by rw [own_lt HOL.out]; omega) HLm.out j4 hj4l kl hxl
          have hinc := inc_u8 L[j4] hxl
          have hil := inc_lt L[j4]
          generalize hIv : inc L[j4] = iv at *
          generalize L[j4] = ov at *
          clear hIv
          go_upto_region 23 with (fail)
          replace HOL := Lib.hid (HSt.out iv)
          replace gs : Below w2.heap.size w2 (V2.setCell ⟨gg8, j4, none⟩ (.int .u8 (iv : Int))) := gs.setCell (p := ⟨gg8, j4, none⟩) hge _
          clear HSt q0 f0 kl r0 r1 p2 HM
          generalize V2.setCell ⟨gg8, j4, none⟩ (.int .u8 (iv : Int)) = V2m at *
          replace HLt : Hid (∀ z ∈ L.set j4 iv, z < 256) := Lib.hid (set_lt HLt.out _ _ hil)
          replace HEr := Lib.hid hEi
          clear HLm hEi
          generalize L.set j4 iv = L at *
          have r0 := kept_cell gs r0c
          have r1 := kept_cell gs r1c
          have p2 := kept_cell gs p2c
          have HM := Lib.hid (HMc.out.on gs)
          cases hb16 : (bits .and .u8 (x0 : Int) 16 == 16)
          case false =>
            have HRB := Lib.hid (own_RB HOL.out HLt.out)
            have HSS := Lib.hid (own_shp HOL.out)
            have HD := Lib.hid (fun V (g : Below V2m.heap.size V2m V) => decode_is L 22 _ (by rw [HEr.out]; rfl) rfl nb (some ⟨gg8, 0, none⟩) d8 V (HRB.out.on g) HSS.out (by omega) (HM.out.on g))
            have bb := bbc.trans (gs.mono bbc.size)
            clear HOL
            go_wp2_with fail
            refine (HD.out _ (Below.refl _ _)).mono ?_
            rintro e w9 ⟨⟨k6, va6, vn6, vc6, vb6, na6, nn6, nc6, nh6, ba6, bn6, bc6, bb6⟩, rfl, _, _, g⟩
            replace bb := bb.trans (g.mono bb.size)
            replace HM := Lib.hid (HM.out.on g)
            clear g HD HRB HSS r0 r1 p2
            simp only [TV.v]
            have g := below_new w9 (.cells #[.int .i64 k6, .slice va6 vn6 vc6, .slice na6 nn6 nc6, .slice ba6 bn6 bc6] 26)
            replace bb := bb.trans (g.mono bb.size)
            replace HM := Lib.hid (HM.out.on g)
            clear g
            go_wp2_with fail
            refine (wakes_any _ HM.out).mono ?_
            rintro e w9 ⟨rfl, g⟩
            replace bb := bb.trans (g.mono bb.size)
            clear g HM
            go_wp2_with fail
            go_ret
            exact ⟨rfl, bb⟩
          case true =>
            have HRB := Lib.hid ((own_RB HOL.out HLt.out).take (k := j11) (by omega))
            have HSS : Hid (Shp (some (⟨gg8, 0, none⟩ : Addr)) j11 d8) := Lib.hid ⟨fun h => (by cases h), by have := (own_shp HOL.out).2.1; omega, (own_shp HOL.out).2.2⟩
            have hcp : (j11 : Int) ≤ (d8 : Int) := by have := (own_shp HOL.out).2.1; omega
            have hcp2 : j11 ≤ d8 := by omega
            have HD := Lib.hid (fun V (g : Below V2m.heap.size V2m V) => decode_is (L.take j11) 21 _ (by rw [err_short (b := L.take j11) (by rw [List.length_take]; omega)]; rfl) rfl j11 (some ⟨gg8, 0, none⟩) d8 V (HRB.out.on g) HSS.out (by omega) (HM.out.on g))
            have bb := bbc.trans (gs.mono bbc.size)
            clear HOL
            go_wp2_with fail
            refine (HD.out _ (Below.refl _ _)).mono ?_
            rintro e w9 ⟨⟨k6, va6, vn6, vc6, vb6, na6, nn6, nc6, nh6, ba6, bn6, bc6, bb6⟩, rfl, _, _, g⟩
            replace bb := bb.trans (g.mono bb.size)
            replace HM := Lib.hid (HM.out.on g)
            clear g HD HRB HSS r0 r1 p2
            simp only [TV.v]
            have g := below_new w9 (.cells #[.int .i64 k6, .slice va6 vn6 vc6, .slice na6 nn6 nc6, .slice ba6 bn6 bc6] 26)
            replace bb := bb.trans (g.mono bb.size)
            replace HM := Lib.hid (HM.out.on g)
            clear g
            go_wp2_with fail
            refine (wakes_any _ HM.out).mono ?_
            rintro e w9 ⟨rfl, g⟩
            replace bb := bb.trans (g.mono bb.size)
            clear g HM
            go_wp2_with fail
            go_ret
            exact ⟨rfl, bb⟩
      case true =>
        have kl : m3 < L.length := by rw [own_lt HOL.out]; omega
        have q0 := own_byteC HOL.out kl
        have f0 := HOL.out.frozenAt m3
        have hxl := HLt.out L[m3] (List.getElem_mem kl)
        have HSt : Hid (∀ y : Nat, (V2.setCell ⟨gg8, m3, none⟩ (.int .u8 (y : Int))).ownsRow w2.heap.size 5 1 (.slice (some ⟨gg8, 0, none⟩) nb d8) nb (ycells (L.set m3 y))) := Lib.hid (fun y => by
          have h := (HOL.out.stored m3 (.int .u8 (y : Int))).1
          rwa [ycells_set] at h)
        have hEi := HLs.out (inc L[m3]) (inc_lt _) (fun e => by rw [List.getElem?_eq_getElem kl] at e; exact inc_ne hxl (Option.some.inj e).symm)
        have hinc := inc_u8 L[m3] hxl
        have hil := inc_lt L[m3]
        generalize hIv : inc L[m3] = iv at *
        generalize L[m3] = ov at *
        clear hIv
        have HLm' : Hid ((L.set m3 iv).take 4 = markB) := Lib.hid (by rw [List.take_set_of_le (by have := HM3.out; omega)]; exact HLm.out)
        go_upto_region 20 with (fail)
        replace HOL := Lib.hid (HSt.out iv)
        replace gs : Below w2.heap.size w2 (V2.setCell ⟨gg8, m3, none⟩ (.int .u8 (iv : Int))) := gs.setCell (p := ⟨gg8, m3, none⟩) hge _
        clear HSt q0 f0 kl r0 r1 p2 HM
        generalize V2.setCell ⟨gg8, m3, none⟩ (.int .u8 (iv : Int)) = V2s at *
        replace HLt : Hid (∀ z ∈ L.set m3 iv, z < 256) := Lib.hid (set_lt HLt.out _ _ hil)
        replace HEr := Lib.hid hEi
        clear HLm hEi HLs
        have HLm := HLm'
        clear HLm'
        generalize L.set m3 iv = L at *
        have r0 := kept_cell gs r0c
        have r1 := kept_cell gs r1c
        have p2 := kept_cell gs p2c
        have HM := Lib.hid (HMc.out.on gs)
        cases hb8 : (bits .and .u8 (x0 : Int) 8 == 8)
        case false =>
          cases hb16 : (bits .and .u8 (x0 : Int) 16 == 16)
          case false =>
            have HRB := Lib.hid (own_RB HOL.out HLt.out)
            have HSS := Lib.hid (own_shp HOL.out)
            have HD := Lib.hid (fun V (g : Below V2s.heap.size V2s V) => decode_is L 23 _ (by rw [HEr.out]; rfl) rfl nb (some ⟨gg8, 0, none⟩) d8 V (HRB.out.on g) HSS.out (by omega) (HM.out.on g))
            have bb := bbc.trans (gs.mono bbc.size)
            clear HOL
            go_wp2_with fail
            refine (HD.out _ (Below.refl _ _)).mono ?_
            rintro e w9 ⟨⟨k6, va6, vn6, vc6, vb6, na6, nn6, nc6, nh6, ba6, bn6, bc6, bb6⟩, rfl, _, _, g⟩
            replace bb := bb.trans (g.mono bb.size)
            replace HM := Lib.hid (HM.out.on g)
            clear g HD HRB HSS r0 r1 p2
            simp only [TV.v]
            have g := below_new w9 (.cells #[.int .i64 k6, .slice va6 vn6 vc6, .slice na6 nn6 nc6, .slice ba6 bn6 bc6] 26)
            replace bb := bb.trans (g.mono bb.size)
            replace HM := Lib.hid (HM.out.on g)
            clear g
            go_wp2_with fail
            refine (wakes_any _ HM.out).mono ?_
            rintro e w9 ⟨rfl, g⟩
            replace bb := bb.trans (g.mono bb.size)
            clear g HM
            go_wp2_with fail
            go_ret
            exact ⟨rfl, bb⟩
          case true =>
            have HRB := Lib.hid ((own_RB HOL.out HLt.out).take (k := j11) (by omega))
            have HSS : Hid (Shp (some (⟨gg8, 0, none⟩ : Addr)) j11 d8) := Lib.hid ⟨fun h => (by cases h), by have := (own_shp HOL.out).2.1; omega, (own_shp HOL.out).2.2⟩
            have hcp : (j11 : Int) ≤ (d8 : Int) := by have := (own_shp HOL.out).2.1; omega
            have hcp2 : j11 ≤ d8 := by omega
            have HD := Lib.hid (fun V (g : Below V2s.heap.size V2s V) => decode_is (L.take j11) 21 _ (by rw [err_short (b := L.take j11) (by rw [List.length_take]; omega)]; rfl) rfl j11 (some ⟨gg8, 0, none⟩) d8 V (HRB.out.on g) HSS.out (by omega) (HM.out.on g))
            have bb := bbc.trans (gs.mono bbc.size)
            clear HOL
            go_wp2_with fail
            refine (HD.out _ (Below.refl _ _)).mono ?_
            rintro e w9 ⟨⟨k6, va6, vn6, vc6, vb6, na6, nn6, nc6, nh6, ba6, bn6, bc6, bb6⟩, rfl, _, _, g⟩
            replace bb := bb.trans (g.mono bb.size)
            replace HM := Lib.hid (HM.out.on g)
            clear g HD HRB HSS r0 r1 p2
            simp only [TV.v]
            have g := below_new w9 (.cells #[.int .i64 k6, .slice va6 vn6 vc6, .slice na6 nn6 nc6, .slice ba6 bn6 bc6] 26)
            replace bb := bb.trans (g.mono bb.size)
            replace HM := Lib.hid (HM.out.on g)
            clear g
            go_wp2_with fail
            refine (wakes_any _ HM.out).mono ?_
            rintro e w9 ⟨rfl, g⟩
            replace bb := bb.trans (g.mono bb.size)
            clear g HM
            go_wp2_with fail
            go_ret
            exact ⟨rfl, bb⟩
        case true =>
          have kl : j4 < L.length := by rw [own_lt HOL.out]; omega
          have q0 := own_byteC HOL.out kl
          have f0 := HOL.out.frozenAt j4
          have hxl := HLt.out L[j4] (List.getElem_mem kl)
          have HSt : Hid (∀ y : Nat, (V2s.setCell ⟨gg8, j4, none⟩ (.int .u8 (y : Int))).ownsRow w2.heap.size 5 1 (.slice (some ⟨gg8, 0, none⟩) nb d8) nb (ycells (L.set j4 y))) := Lib.hid (fun y => by
            have h := (HOL.out.stored j4 (.int .u8 (y : Int))).1
            rwa [ycells_set] at h)
          have hEi := err_incm L (by rw [own_lt HOL.out]; omega) HLm.out j4 hj4l kl hxl
          have hinc := inc_u8 L[j4] hxl
          have hil := inc_lt L[j4]
          generalize hIv : inc L[j4] = iv at *
          generalize L[j4] = ov at *
          clear hIv
          go_upto_region 23 with (fail)
          replace HOL := Lib.hid (HSt.out iv)
          replace gs : Below w2.heap.size w2 (V2s.setCell ⟨gg8, j4, none⟩ (.int .u8 (iv : Int))) := gs.setCell (p := ⟨gg8, j4, none⟩) hge _
          clear HSt q0 f0 kl r0 r1 p2 HM
          generalize V2s.setCell ⟨gg8, j4, none⟩ (.int .u8 (iv : Int)) = V2sm at *
          replace HLt : Hid (∀ z ∈ L.set j4 iv, z < 256) := Lib.hid (set_lt HLt.out _ _ hil)
          replace HEr := Lib.hid hEi
          clear HLm hEi
          generalize L.set j4 iv = L at *
          have r0 := kept_cell gs r0c
          have r1 := kept_cell gs r1c
          have p2 := kept_cell gs p2c
          have HM := Lib.hid (HMc.out.on gs)
          cases hb16 : (bits .and .u8 (x0 : Int) 16 == 16)
          case false =>
            have HRB := Lib.hid (own_RB HOL.out HLt.out)
            have HSS := Lib.hid (own_shp HOL.out)
            have HD := Lib.hid (fun V (g : Below V2sm.heap.size V2sm V) => decode_is L 22 _ (by rw [HEr.out]; rfl) rfl nb (some ⟨gg8, 0, none⟩) d8 V (HRB.out.on g) HSS.out (by omega) (HM.out.on g))
            have bb := bbc.trans (gs.mono bbc.size)
            clear HOL
            go_wp2_with fail
            refine (HD.out _ (Below.refl _ _)).mono ?_
            rintro e w9 ⟨⟨k6, va6, vn6, vc6, vb6, na6, nn6, nc6, nh6, ba6, bn6, bc6, bb6⟩, rfl, _, _, g⟩
            replace bb := bb.trans (g.mono bb.size)
            replace HM := Lib.hid (HM.out.on g)
            clear g HD HRB HSS r0 r1 p2
            simp only [TV.v]
            have g := below_new w9 (.cells #[.int .i64 k6, .slice va6 vn6 vc6, .slice na6 nn6 nc6, .slice ba6 bn6 bc6] 26)
            replace bb := bb.trans (g.mono bb.size)
            replace HM := Lib.hid (HM.out.on g)
            clear g
            go_wp2_with fail
            refine (wakes_any _ HM.out).mono ?_
            rintro e w9 ⟨rfl, g⟩
            replace bb := bb.trans (g.mono bb.size)
            clear g HM
            go_wp2_with fail
            go_ret
            exact ⟨rfl, bb⟩
          case true =>
            have HRB := Lib.hid ((own_RB HOL.out HLt.out).take (k := j11) (by omega))
            have HSS : Hid (Shp (some (⟨gg8, 0, none⟩ : Addr)) j11 d8) := Lib.hid ⟨fun h => (by cases h), by have := (own_shp HOL.out).2.1; omega, (own_shp HOL.out).2.2⟩
            have hcp : (j11 : Int) ≤ (d8 : Int) := by have := (own_shp HOL.out).2.1; omega
            have hcp2 : j11 ≤ d8 := by omega
            have HD := Lib.hid (fun V (g : Below V2sm.heap.size V2sm V) => decode_is (L.take j11) 21 _ (by rw [err_short (b := L.take j11) (by rw [List.length_take]; omega)]; rfl) rfl j11 (some ⟨gg8, 0, none⟩) d8 V (HRB.out.on g) HSS.out (by omega) (HM.out.on g))
            have bb := bbc.trans (gs.mono bbc.size)
            clear HOL
            go_wp2_with fail
            refine (HD.out _ (Below.refl _ _)).mono ?_
            rintro e w9 ⟨⟨k6, va6, vn6, vc6, vb6, na6, nn6, nc6, nh6, ba6, bn6, bc6, bb6⟩, rfl, _, _, g⟩
            replace bb := bb.trans (g.mono bb.size)
            replace HM := Lib.hid (HM.out.on g)
            clear g HD HRB HSS r0 r1 p2
            simp only [TV.v]
            have g := below_new w9 (.cells #[.int .i64 k6, .slice va6 vn6 vc6, .slice na6 nn6 nc6, .slice ba6 bn6 bc6] 26)
            replace bb := bb.trans (g.mono bb.size)
            replace HM := Lib.hid (HM.out.on g)
            clear g
            go_wp2_with fail
            refine (wakes_any _ HM.out).mono ?_
            rintro e w9 ⟨rfl, g⟩
            replace bb := bb.trans (g.mono bb.size)
            clear g HM
            go_wp2_with fail
            go_ret
            exact ⟨rfl, bb⟩

/-! From the walk to the row and its card. -/
set_option maxRecDepth 100000 in
theorem contract (H : Type) (enc : TypeId × Value → H) (W : World) (base : Nat) (args : Array Value) (ds gs : List (DataW H)) (before : List MemPlace)
    (hval0 : ∀ (j : Nat) t v, Tryd.f7.params[j]? = some t → args[j]? = some v → Value.okWide Tryd.prog W .any base t v)
    (hW : DataW.Whole enc Tryd.prog Tryd.f7.params.toList Rows.tableFirstSpec.vars false W args.toList ds gs before) (hL : laidMetH Tryd.prog Rows.tableFirstRow.laid W) :
    Calls Tryd.prog 7 args W fun e W' => ∃ v, e = .returned v ∧ Rows.tableFirstSpec.post enc Tryd.prog Tryd.f7 false true false false W args v W' := by
  have hval : ∀ (j : Nat) t v, Tryd.f7.params[j]? = some t → args[j]? = some v → Value.okWide Tryd.prog W .any base t v := hval0
  have hW' := hW
  obtain ⟨p, q, hA0, hV, rfl, hfz, hnd⟩ := hW
  have hA : DataW.TrodAll enc Tryd.prog W 0 (fun _ => true) true Tryd.f7.params.toList args.toList ds p := hA0
  rw [Tryd.params7] at hA hval
  obtain ⟨v0, vs0, d0, ds0, p0, q0, hargs, rfl, rfl, h0, r0⟩ := trodAll_cons hA
  obtain ⟨v1, vs1, d1, ds1, p1, q1, rfl, rfl, rfl, h1, r1⟩ := trodAll_cons r0
  obtain ⟨rfl, rfl, rfl⟩ := trodAll_nil r1
  obtain rfl : args = #[v0, v1] := by cases args; simp_all
  obtain ⟨rfl, rfl⟩ := trodVars_none hV
  obtain ⟨cs0, rfl, _⟩ := okWide_struct Tryd.underlying26 (hval 0 26 v0 rfl rfl)
  have k0 := h0
  have lt0 : ∀ x ∈ p0, x.block < W.heap.size := by obtain ⟨m, hm⟩ := k0; exact DataW.trod_lt m _ _ _ hm
  obtain ⟨T0, e0, ok0⟩ : ∃ T : TV, cs0.toList = [.int .i64 T.cl, .slice T.a1 T.n1 T.c1, .slice T.a2 T.n2 T.c2, .slice T.a3 T.n3 T.c3] ∧ T.ok W := by
    obtain ⟨fuel, hf⟩ := h0
    exact open_table (by simpa [Value.cells] using hf)
  obtain rfl : cs0 = #[.int .i64 T0.cl, .slice T0.a1 T0.n1 T0.c1, .slice T0.a2 T0.n2 T0.c2, .slice T0.a3 T0.n3 T0.c3] := by cases cs0; simp_all
  obtain ⟨cs1, rfl⟩ := okWide_arr Tryd.underlying54 (hval 1 54 v1 rfl rfl)
  have k1 := h1
  have lt1 : ∀ x ∈ p1, x.block < W.heap.size := by obtain ⟨m, hm⟩ := k1; exact DataW.trod_lt m _ _ _ hm
  obtain ⟨x1_0, x1_1, e1, bx1_0, bx1_1⟩ : ∃ x1_0 x1_1 : Nat, cs1.toList = [.int .u8 (x1_0 : Int), .int .u8 (x1_1 : Int)] ∧ x1_0 < 256 ∧ x1_1 < 256 := by
    obtain ⟨fuel, hf⟩ := h1
    exact open_y2 (by simpa [Value.cells] using hf)
  obtain rfl : cs1 = #[.int .u8 (x1_0 : Int), .int .u8 (x1_1 : Int)] := by cases cs1; simp_all
  clear hA0 hval0
  refine (walk T0 x1_0 x1_1 W ok0 (mark_of_laid hL) bx1_0 bx1_1).mono fun e W' ⟨he, bel⟩ => ?_
  subst he
  exact ⟨_, rfl, _, _, _, [], _, [], hW', trodAll_mk1 (shut_bool Tryd.underlying4 _), (trodAll_cons_mk (Below.trod laidOut (by kernel_rfl) (of_decide_eq_true (by kernel_rfl)) k0 bel lt0) (trodAll_cons_mk (Below.trod laidOut (by kernel_rfl) (of_decide_eq_true (by kernel_rfl)) k1 bel lt1) trodAll_mk0)), rfl, bel.frame _, fun h => by cases h⟩

theorem laid_met (os : Os) : laidMet Tryd.prog Rows.tableFirstRow.laid ((laidWorld os).forCall (fun _ _ => 0) ⟨#[], #[.agg #[.int .i64 0, .slice none 0 0, .slice none 0 0, .slice none 0 0], .agg #[.int .u8 0, .int .u8 0]], []⟩).memory :=
  laidMet_of_run' 8 (by kernel_rfl) (by kernel_rfl)
theorem reads (os : Os) {H : Type} (enc : TypeId × Value → H) : ∃ places, DataW.whole enc Tryd.prog ((laidWorld os).forCall (fun _ _ => 0) ⟨#[], #[.agg #[.int .i64 0, .slice none 0 0, .slice none 0 0, .slice none 0 0], .agg #[.int .u8 0, .int .u8 0]], []⟩).memory Tryd.f7.params.toList Rows.tableFirstSpec.vars false (#[.agg #[.int .i64 0, .slice none 0 0, .slice none 0 0, .slice none 0 0], .agg #[.int .u8 0, .int .u8 0]] : Array Value).toList 8 = some ([.agg [.lit (.int .i64 0), .nil, .nil, .nil], .agg [.lit (.int .u8 0), .lit (.int .u8 0)]], [], places) :=
  ⟨[], by kernel_rfl⟩

set_option maxRecDepth 100000 in
theorem lifted (os : Os) (started : os.Started) (H : Type) (enc : TypeId × Value → H) (F : Stop.Interp) :
    ReturnsInHanded {} Tryd.checked os 7 .any ((OpenSpec.ofChange Rows.tableFirstSpec).preRow enc Tryd.prog Tryd.f7 Rows.tableFirstRow.domain false Rows.tableFirstRow.laid) (((OpenSpec.ofChange Rows.tableFirstSpec).at F).post enc Tryd.prog Tryd.f7 false true false false) := by
  obtain ⟨places, hx⟩ := reads os enc
  refine returnsInHanded_of_row (C := Tryd.checked) (s := OpenSpec.ofChange Rows.tableFirstSpec) own started (by kernel_rfl) Tryd.func7
    (witness_row_at (enc := enc) (C := Tryd.checked) false (laidWorld os) #[.agg #[.int .i64 0, .slice none 0 0, .slice none 0 0, .slice none 0 0], .agg #[.int .u8 0, .int .u8 0]] rfl (by kernel_rfl) (by kernel_rfl) (by kernel_rfl)
      (OpenSpec.preRow_of_cond 8 hx (by kernel_rfl) (fun k hk => by cases hk) (by kernel_rfl) (laid_met os))) ?_
  intro W base args ds gs before hval hW _ _ _ hL _ _
  exact contract H enc W base args ds gs before hval hW hL

set_option maxRecDepth 100000 in
theorem said : Rows.TableFirstSaid :=
  OpenClaim.holds_of_cond 7 Tryd.f7 rfl rfl rfl rfl rfl rfl rfl ⟨rfl, rfl, rfl, rfl, rfl⟩ rfl rfl rfl rfl rfl (by kernel_rfl) Tryd.func7 (by kernel_rfl)
    (of_decide_eq_true (by kernel_rfl)) (by unfold Func.isWrapper; first | (rw [if_pos (by decide +kernel)]; kernel_rfl) | (rw [if_neg (by decide +kernel)]; exact ⟨rfl, rfl⟩))
    (fun os started H enc _ F => by rw [OpenClaim.pre_eq_preRow]; exact lifted os started H enc F)

theorem plain (f : FuncId) (fn : Func) (hf : Tryd.pinned.checked.prog.funcNamed Rows.tableFirstRow.func = some f) (hfn : Tryd.pinned.checked.prog.funcs[f]? = some fn) :
    false = Tryd.pinned.checked.prog.looks [] ∧ ∀ (j : Nat) t, fn.params[j]? = some t → Tryd.pinned.checked.prog.wantsStandIn t = false := by
  obtain rfl : f = 7 := Option.some.inj ((show Tryd.prog.funcNamed Rows.tableFirstRow.func = some 7 by kernel_rfl).symm.trans hf) |>.symm
  obtain rfl : fn = Tryd.f7 := (Option.some.inj (Tryd.func7.symm.trans hfn)).symm
  refine ⟨by kernel_rfl, fun j t ht => ?_⟩
  rw [Tryd.params7] at ht
  have hm : t ∈ [26, 54] := by simpa using Array.mem_of_getElem? ht
  have hall : ([26, 54].all fun u => !Tryd.prog.wantsStandIn u) = true := by kernel_rfl
  exact (show Tryd.prog.wantsStandIn t = false by simpa using List.all_eq_true.1 hall t hm)

theorem card : Rows.TableFirstCardSaid :=
  Claim7.holds_tied_plain_at .later [] _ _ _ _ said (fun _ h => by cases h) (by kernel_rfl) (fun _ h => by cases h) tableFirst_row_tie rfl ⟨rfl, rfl⟩ (by kernel_rfl) rfl plain (by kernel_rfl)
end Go.Proofs.YtkmkkbilnflpjaaDoor.tableFirst

namespace Go.Proofs.YtkmkkbilnflpjaaDoor
/-- The given statement, under a short name. -/
theorem tableFirst_holds : Rows.TableFirstCardSaid := tableFirst.card
#print axioms tableFirst_holds
end Go.Proofs.YtkmkkbilnflpjaaDoor
