/- WalkBands: of every table and any two numbers: a scalar's class is that of the band that it stands in; what is no scalar has none.
   Conditions: none but the row's own. -/
import Derived.Test.YtaejfebpalmfmaaWWake
import Derived.Test.YtaejfebpalmfmaaWFrame
import Derived.Test.YtaejfebpalmfmaaRows
namespace Go.Proofs.Ytaejfebpalmfmaa.walkBands
open Go.ChangeShapes Go.WideShapes Go.ChangeAt Go.RowKit Go.Deep Go.BigFrame
set_option linter.unusedVariables false
set_option maxRecDepth 4000
set_option linter.unusedSimpArgs false

set_option maxHeartbeats 8000000 in
theorem walk (T : TV) (x y : Nat) (hx : x < 4294967296) (hy : y < 4294967296) (W : World) (hT : T.ok W) :
    Calls Try.prog 6 #[T.v, .agg #[.int .u32 (x : Int), .int .u32 (y : Int)]] W fun e W' => e = .returned (.bool true) ∧ Below W.heap.size W W' := by
  have HRT := Lib.hid (fun V (g : Below W.heap.size W V) => refTable_any T V (hT.on g))
  have HCl := Lib.hid (fun v V (g : Below W.heap.size W V) => class_any T v V (hT.on g))
  have HBd := Lib.hid (fun V (g : Below W.heap.size W V) => (hT.on g).r1)
  have HL1 : Hid (T.tb.bd.length = T.n1) := Lib.hid hT.r1.1
  have HBE : Hid (T.tb.bd = T.bd) := Lib.hid rfl
  have HCB1 : Hid (∀ v, errV T.tb = 0 → clB T.tb v = scalB v) := Lib.hid (fun v h => by unfold clB; rw [decide_eq_true h, Bool.true_and, ofB_vd (errV_ok.1 h)])
  have HCN1 : Hid (∀ v, clB T.tb v = true → clN T.tb v = ofN T.tb.bd v) := Lib.hid (fun v h => by unfold clN; rw [h]; rfl)
  have HCN0 : Hid (∀ v, clB T.tb v = false → clN T.tb v = 0) := Lib.hid (fun v h => by unfold clN; rw [h]; rfl)
  clear hT
  generalize hcb : clB T.tb = fb at *
  generalize hcn : clN T.tb = fn at *
  clear hcb hcn
  have HX := Lib.hid ((box_new W T).on (below_new _ (.cells #[.int .u32 (x : Int), .int .u32 (y : Int)] 47)))
  generalize T.tb = tt at *
  obtain ⟨cl, a1, n1, c1, bd, a2, n2, c2, hs, a3, n3, c3, br⟩ := T
  simp only [TV.v] at *
  have bb : Below W.heap.size W ((W.alloc (.cells #[.int .i64 cl, .slice a1 n1 c1, .slice a2 n2 c2, .slice a3 n3 c3] 26)).alloc (.cells #[.int .u32 (x : Int), .int .u32 (y : Int)] 47)) := below_call (below_new _ _) (below_new _ _).size (below_new _ _)
  have y0 : ((W.alloc (.cells #[.int .i64 cl, .slice a1 n1 c1, .slice a2 n2 c2, .slice a3 n3 c3] 26)).alloc (.cells #[.int .u32 (x : Int), .int .u32 (y : Int)] 47)).cell? ⟨W.heap.size + 1, 0, none⟩ = some (.int .u32 (x : Int)) := by simp
  have y1 : ((W.alloc (.cells #[.int .i64 cl, .slice a1 n1 c1, .slice a2 n2 c2, .slice a3 n3 c3] 26)).alloc (.cells #[.int .u32 (x : Int), .int .u32 (y : Int)] 47)).cell? ⟨W.heap.size + 1, 1, none⟩ = some (.int .u32 (y : Int)) := by simp
  obtain ⟨_, p0, p1, p2, p3⟩ := HX.out
  go_enter Try.func6, Try.ntmps6
  go_wp2_with fail
  generalize ((W.alloc (.cells #[.int .i64 cl, .slice a1 n1 c1, .slice a2 n2 c2, .slice a3 n3 c3] 26)).alloc (.cells #[.int .u32 (x : Int), .int .u32 (y : Int)] 47)) = V0 at *
  refine (HRT.out _ bb).mono ?_
  rintro e w1 ⟨rfl, g⟩
  replace bb := bb.trans (g.mono bb.size)
  replace HX := Lib.hid (HX.out.on g)
  replace y0 := kept_cell g y0
  replace y1 := kept_cell g y1
  clear g p0 p1 p2 p3
  obtain ⟨_, p0, p1, p2, p3⟩ := HX.out
  clear HRT
  by_cases he : errV tt = 0
  case neg =>
    have hn : (errV tt != 0) = true := by rw [bne_iff_ne]; exact he
    generalize errV tt = ev at *
    go_wp2_with fail
    refine (wakes8_any _).mono ?_
    rintro e w9 ⟨rfl, g9⟩
    replace bb := bb.trans (g9.mono bb.size)
    clear g9
    go_wp2_with fail
    go_ret
    exact ⟨rfl, bb⟩
  have HVd := Lib.hid (errV_ok.1 he)
  replace HCB1 := Lib.hid (fun v => HCB1.out v he)
  rw [he]
  clear he
  have hn1 : 1 ≤ n1 ∧ n1 ≤ 60 := by have h1 := ((cntV_iff _).1 HVd.out.cnt); have h2 := h1.k1; have h3 := h1.k2; have h4 := HL1.out; omega
  obtain ⟨hn1a, hn1b⟩ := hn1
  have hn0 : ¬ ((n1 : Int) = 0) := by omega
  have hn00 : ((n1 : Int) == 0) = false := by rw [beq_eq_false_iff_ne]; exact hn0
  obtain ⟨k, hk, hk1⟩ : ∃ k : Nat, k = x % n1 ∧ k < n1 := ⟨_, rfl, Nat.mod_lt _ (by omega)⟩
  have i1 : (x : Int) % (n1 : Int) = (k : Int) := by rw [hk]; exact (Int.natCast_emod x n1).symm
  have i2 : Int.tmod (x : Int) (n1 : Int) = (k : Int) := by rw [Int.tmod_eq_emod_of_nonneg (by omega)]; exact i1
  have kl : k < bd.length := by have := HL1.out; rw [HBE.out] at this; omega
  have HSc := Lib.hid (bands_scal HVd.out (i := k) (by have := HL1.out; omega))
  rw [HBE.out, bandAt_get kl] at HSc
  have HHere : Hid (∀ v, bd[k].1 ≤ v → (∀ hh : k + 1 < bd.length, v < bd[k + 1].1) → scalB v = true → ofN tt.bd v = bd[k].2) := Lib.hid (fun v h1 h2 h3 => by
    have := ofN_here HVd.out (k := k) (v := v) (by have := HL1.out; omega) (by rw [HBE.out, bandAt_get kl]; exact h1) (fun hh => by rw [HBE.out] at hh ⊢; rw [bandAt_get hh]; exact h2 hh) h3
    rw [this, HBE.out, bandAt_get kl])
  have HRise : Hid (∀ hh : k + 1 < bd.length, bd[k].1 < bd[k + 1].1 ∧ scalB bd[k + 1].1 = true) := Lib.hid (fun hh => by
    have h1 := bands_rise HVd.out (k + 1) (by rw [HBE.out]; exact hh) k (by omega)
    have h2 := bands_scal HVd.out (i := k + 1) (by rw [HBE.out]; exact hh)
    rw [HBE.out, bandAt_get hh] at h1 h2
    rw [bandAt_get kl] at h1
    exact ⟨h1, h2⟩)
  obtain ⟨ab, ao, hA1, _, q0, q1⟩ := (HBd.out _ bb).at kl
  subst hA1
  obtain ⟨lo, hlo⟩ : ∃ lo, bd[k].1 = lo := ⟨_, rfl⟩
  obtain ⟨kc, hkc⟩ : ∃ kc, bd[k].2 = kc := ⟨_, rfl⟩
  have hkx : bd[k] = (lo, kc) := by rw [← hlo, ← hkc]
  rw [hkx] at q0 q1 HSc HHere HRise
  simp only [] at q0 q1 HSc HHere HRise
  have hs := (scalB_iff lo).1 HSc.out
  have lo0 : 0 ≤ lo := by omega
  have lo1 : lo ≤ 1114111 := by omega
  have HM1 : Hid (fn (-1 - (y : Int)) = 0 ∧ fb (-1 - (y : Int)) = false) := Lib.hid (by
    have h : fb (-1 - (y : Int)) = false := by rw [HCB1.out]; exact scalB_not (by omega)
    exact ⟨HCN0.out _ h, h⟩)
  have HM2 : Hid (fn (1114112 + (y : Int)) = 0 ∧ fb (1114112 + (y : Int)) = false) := Lib.hid (by
    have h : fb (1114112 + (y : Int)) = false := by rw [HCB1.out]; exact scalB_not (by omega)
    exact ⟨HCN0.out _ h, h⟩)
  have hcc : (kc != kc) = false := by simp
  clear hs hlo hkc hk HSc HVd
  by_cases hk2 : k + 1 < n1
  · have hk2I : (k : Int) + 1 < (n1 : Int) := by omega
    have kl2 : k + 1 < bd.length := by have := HL1.out; rw [HBE.out] at this; omega
    obtain ⟨hr1, hr2⟩ := HRise.out kl2
    have hr3 := (scalB_iff _).1 hr2
    obtain ⟨ab', ao', hA1', _, r0, rx⟩ := (HBd.out _ bb).at kl2
    clear rx
    injection hA1' with e
    injection e with e e'
    subst e e'
    obtain ⟨nx, hnx⟩ : ∃ nx, bd[k + 1].1 = nx := ⟨_, rfl⟩
    have HHi : Hid (∀ v : Int, v ≤ nx - 1 → ∀ hh : k + 1 < bd.length, v < bd[k + 1].1) := Lib.hid (fun v h hh => by rw [hnx]; omega)
    rw [hnx] at r0 hr1 hr3
    obtain ⟨hi, hhi⟩ : ∃ hi, nx - 1 = hi := ⟨_, rfl⟩
    have hi0 : lo ≤ hi := by omega
    have hi1 : hi ≤ 1114111 := by omega
    have nx0 : 0 ≤ nx := by omega
    have nx1 : nx ≤ 1114111 := by omega
    rw [hhi] at HHi
    clear hr1 hr2 hr3 hnx kl2 HRise
    obtain ⟨m0, hm0⟩ : ∃ m0, hi - lo = m0 := ⟨_, rfl⟩
    obtain ⟨d, hd⟩ : ∃ d : Nat, m0 + 1 = (d : Int) := ⟨(m0 + 1).toNat, by omega⟩
    have hd1 : 1 ≤ d := by omega
    have hd2 : d ≤ 1114112 := by omega
    have hd0 : ((d : Int) == 0) = false := by rw [beq_eq_false_iff_ne]; omega
    have hm1 : 0 ≤ m0 := by omega
    have hm2 : m0 ≤ 1114111 := by omega
    obtain ⟨r, hr, hr1⟩ : ∃ r : Nat, r = y % d ∧ r < d := ⟨_, rfl, Nat.mod_lt _ (by omega)⟩
    have i3 : (y : Int) % (d : Int) = (r : Int) := by rw [hr]; exact (Int.natCast_emod y d).symm
    have i4 : Int.tmod (y : Int) (d : Int) = (r : Int) := by rw [Int.tmod_eq_emod_of_nonneg (by omega)]; exact i3
    obtain ⟨v, hv⟩ : ∃ v, lo + (r : Int) = v := ⟨_, rfl⟩
    have v0 : lo ≤ v := by omega
    have v1 : v ≤ hi := by omega
    have v2 : 0 ≤ v := by omega
    have v3 : v ≤ 1114111 := by omega
    have HHv : Hid (scalB v = true → ofN tt.bd v = kc) := Lib.hid (fun h => HHere.out v v0 (HHi.out v v1) h)
    clear hr hr1 HHere HHi hi0 hi1
    rcases (show v < 55296 ∨ (55296 ≤ v ∧ v ≤ 57343) ∨ 57343 < v by omega) with s0 | ⟨s0, s1⟩ | s0
    · as_aux_lemma =>
        have hsv : scalB v = true := (scalB_iff v).2 (by omega)
        have HCB : Hid (fb v = true) := Lib.hid (by rw [HCB1.out, hsv])
        have HCN : Hid (fn v = kc) := Lib.hid (by rw [HCN1.out v HCB.out, HHv.out hsv])
        have s3 : ¬ 55296 ≤ v := by omega
        clear hsv HHv HCB1 HCN1 HCN0
        have HC := Lib.hid (HCl.out v _ bb)
        rw [HCN.out, HCB.out] at HC
        go_wp2_with fail
        refine (HC.out).mono ?_
        rintro e w2 ⟨rfl, g⟩
        replace bb := bb.trans (g.mono bb.size)
        replace HX := Lib.hid (HX.out.on g)
        replace y0 := kept_cell g y0
        replace y1 := kept_cell g y1
        have g2 := g
        clear g p0 p1 p2 p3
        obtain ⟨_, p0, p1, p2, p3⟩ := HX.out
        replace q1 := kept_cell g2 q1
        clear g2
        have HN1 := Lib.hid (HCl.out (-1 - (y : Int)))
        have HN2 := Lib.hid (HCl.out (1114112 + (y : Int)))
        rw [HM1.out.1, HM1.out.2] at HN1
        rw [HM2.out.1, HM2.out.2] at HN2
        have e8 : (-1 : Int) - (y : Int) = -1 - (y : Int) := rfl
        clear HC HCN HCB HM1 HM2 e8
        go_wp2_with fail
        refine (HN1.out _ bb).mono ?_
        rintro e w3 ⟨rfl, g⟩
        replace bb := bb.trans (g.mono bb.size)
        replace HX := Lib.hid (HX.out.on g)
        replace y0 := kept_cell g y0
        replace y1 := kept_cell g y1
        clear g p0 p1 p2 p3
        obtain ⟨_, p0, p1, p2, p3⟩ := HX.out
        clear q0 q1
        go_wp2_with fail
        refine (HN2.out _ bb).mono ?_
        rintro e w4 ⟨rfl, g⟩
        replace bb := bb.trans (g.mono bb.size)
        replace HX := Lib.hid (HX.out.on g)
        replace y0 := kept_cell g y0
        replace y1 := kept_cell g y1
        clear g p0 p1 p2 p3
        obtain ⟨_, p0, p1, p2, p3⟩ := HX.out
        go_wp2_with fail
        refine (wakes8_any _).mono ?_
        rintro e w9 ⟨rfl, g9⟩
        replace bb := bb.trans (g9.mono bb.size)
        clear g9
        go_wp2_with fail
        go_ret
        exact ⟨rfl, bb⟩
    · as_aux_lemma =>
        have hsv : scalB v = false := scalB_not (by omega)
        have HCB : Hid (fb v = false) := Lib.hid (by rw [HCB1.out, hsv])
        have HCN : Hid (fn v = 0) := Lib.hid (HCN0.out v HCB.out)
        clear hsv HHv HCB1 HCN1 HCN0
        have HC := Lib.hid (HCl.out v _ bb)
        rw [HCN.out, HCB.out] at HC
        go_wp2_with fail
        refine (HC.out).mono ?_
        rintro e w2 ⟨rfl, g⟩
        replace bb := bb.trans (g.mono bb.size)
        replace HX := Lib.hid (HX.out.on g)
        replace y0 := kept_cell g y0
        replace y1 := kept_cell g y1
        have g2 := g
        clear g p0 p1 p2 p3
        obtain ⟨_, p0, p1, p2, p3⟩ := HX.out
        replace q1 := kept_cell g2 q1
        clear g2
        have HN1 := Lib.hid (HCl.out (-1 - (y : Int)))
        have HN2 := Lib.hid (HCl.out (1114112 + (y : Int)))
        rw [HM1.out.1, HM1.out.2] at HN1
        rw [HM2.out.1, HM2.out.2] at HN2
        have e8 : (-1 : Int) - (y : Int) = -1 - (y : Int) := rfl
        clear HC HCN HCB HM1 HM2 e8
        go_wp2_with fail
        refine (HN1.out _ bb).mono ?_
        rintro e w3 ⟨rfl, g⟩
        replace bb := bb.trans (g.mono bb.size)
        replace HX := Lib.hid (HX.out.on g)
        replace y0 := kept_cell g y0
        replace y1 := kept_cell g y1
        clear g p0 p1 p2 p3
        obtain ⟨_, p0, p1, p2, p3⟩ := HX.out
        clear q0 q1
        go_wp2_with fail
        refine (HN2.out _ bb).mono ?_
        rintro e w4 ⟨rfl, g⟩
        replace bb := bb.trans (g.mono bb.size)
        replace HX := Lib.hid (HX.out.on g)
        replace y0 := kept_cell g y0
        replace y1 := kept_cell g y1
        clear g p0 p1 p2 p3
        obtain ⟨_, p0, p1, p2, p3⟩ := HX.out
        go_wp2_with fail
        refine (wakes8_any _).mono ?_
        rintro e w9 ⟨rfl, g9⟩
        replace bb := bb.trans (g9.mono bb.size)
        clear g9
        go_wp2_with fail
        go_ret
        exact ⟨rfl, bb⟩
    · as_aux_lemma =>
        have hsv : scalB v = true := (scalB_iff v).2 (by omega)
        have HCB : Hid (fb v = true) := Lib.hid (by rw [HCB1.out, hsv])
        have HCN : Hid (fn v = kc) := Lib.hid (by rw [HCN1.out v HCB.out, HHv.out hsv])
        have s2 : 55296 ≤ v := by omega
        have s3 : ¬ v ≤ 57343 := by omega
        clear hsv HHv HCB1 HCN1 HCN0
        have HC := Lib.hid (HCl.out v _ bb)
        rw [HCN.out, HCB.out] at HC
        go_wp2_with fail
        refine (HC.out).mono ?_
        rintro e w2 ⟨rfl, g⟩
        replace bb := bb.trans (g.mono bb.size)
        replace HX := Lib.hid (HX.out.on g)
        replace y0 := kept_cell g y0
        replace y1 := kept_cell g y1
        have g2 := g
        clear g p0 p1 p2 p3
        obtain ⟨_, p0, p1, p2, p3⟩ := HX.out
        replace q1 := kept_cell g2 q1
        clear g2
        have HN1 := Lib.hid (HCl.out (-1 - (y : Int)))
        have HN2 := Lib.hid (HCl.out (1114112 + (y : Int)))
        rw [HM1.out.1, HM1.out.2] at HN1
        rw [HM2.out.1, HM2.out.2] at HN2
        have e8 : (-1 : Int) - (y : Int) = -1 - (y : Int) := rfl
        clear HC HCN HCB HM1 HM2 e8
        go_wp2_with fail
        refine (HN1.out _ bb).mono ?_
        rintro e w3 ⟨rfl, g⟩
        replace bb := bb.trans (g.mono bb.size)
        replace HX := Lib.hid (HX.out.on g)
        replace y0 := kept_cell g y0
        replace y1 := kept_cell g y1
        clear g p0 p1 p2 p3
        obtain ⟨_, p0, p1, p2, p3⟩ := HX.out
        clear q0 q1
        go_wp2_with fail
        refine (HN2.out _ bb).mono ?_
        rintro e w4 ⟨rfl, g⟩
        replace bb := bb.trans (g.mono bb.size)
        replace HX := Lib.hid (HX.out.on g)
        replace y0 := kept_cell g y0
        replace y1 := kept_cell g y1
        clear g p0 p1 p2 p3
        obtain ⟨_, p0, p1, p2, p3⟩ := HX.out
        go_wp2_with fail
        refine (wakes8_any _).mono ?_
        rintro e w9 ⟨rfl, g9⟩
        replace bb := bb.trans (g9.mono bb.size)
        clear g9
        go_wp2_with fail
        go_ret
        exact ⟨rfl, bb⟩
  · have hk2I : ¬ (k : Int) + 1 < (n1 : Int) := by omega
    have HHi : Hid (∀ v : Int, v ≤ 1114111 → ∀ hh : k + 1 < bd.length, v < bd[k + 1].1) := Lib.hid (fun v h hh => by have h1 := HL1.out; rw [HBE.out] at h1; omega)
    have hi0 : lo ≤ 1114111 := by omega
    have hi1 : lo ≤ 1114111 := by omega
    clear HRise
    obtain ⟨m0, hm0⟩ : ∃ m0, 1114111 - lo = m0 := ⟨_, rfl⟩
    obtain ⟨d, hd⟩ : ∃ d : Nat, m0 + 1 = (d : Int) := ⟨(m0 + 1).toNat, by omega⟩
    have hd1 : 1 ≤ d := by omega
    have hd2 : d ≤ 1114112 := by omega
    have hd0 : ((d : Int) == 0) = false := by rw [beq_eq_false_iff_ne]; omega
    have hm1 : 0 ≤ m0 := by omega
    have hm2 : m0 ≤ 1114111 := by omega
    obtain ⟨r, hr, hr1⟩ : ∃ r : Nat, r = y % d ∧ r < d := ⟨_, rfl, Nat.mod_lt _ (by omega)⟩
    have i3 : (y : Int) % (d : Int) = (r : Int) := by rw [hr]; exact (Int.natCast_emod y d).symm
    have i4 : Int.tmod (y : Int) (d : Int) = (r : Int) := by rw [Int.tmod_eq_emod_of_nonneg (by omega)]; exact i3
    obtain ⟨v, hv⟩ : ∃ v, lo + (r : Int) = v := ⟨_, rfl⟩
    have v0 : lo ≤ v := by omega
    have v1 : v ≤ 1114111 := by omega
    have v2 : 0 ≤ v := by omega
    have v3 : v ≤ 1114111 := by omega
    have HHv : Hid (scalB v = true → ofN tt.bd v = kc) := Lib.hid (fun h => HHere.out v v0 (HHi.out v v1) h)
    clear hr hr1 HHere HHi hi0 hi1
    rcases (show v < 55296 ∨ (55296 ≤ v ∧ v ≤ 57343) ∨ 57343 < v by omega) with s0 | ⟨s0, s1⟩ | s0
    · as_aux_lemma =>
        have hsv : scalB v = true := (scalB_iff v).2 (by omega)
        have HCB : Hid (fb v = true) := Lib.hid (by rw [HCB1.out, hsv])
        have HCN : Hid (fn v = kc) := Lib.hid (by rw [HCN1.out v HCB.out, HHv.out hsv])
        have s3 : ¬ 55296 ≤ v := by omega
        clear hsv HHv HCB1 HCN1 HCN0
        have HC := Lib.hid (HCl.out v _ bb)
        rw [HCN.out, HCB.out] at HC
        go_wp2_with fail
        refine (HC.out).mono ?_
        rintro e w2 ⟨rfl, g⟩
        replace bb := bb.trans (g.mono bb.size)
        replace HX := Lib.hid (HX.out.on g)
        replace y0 := kept_cell g y0
        replace y1 := kept_cell g y1
        have g2 := g
        clear g p0 p1 p2 p3
        obtain ⟨_, p0, p1, p2, p3⟩ := HX.out
        replace q1 := kept_cell g2 q1
        clear g2
        have HN1 := Lib.hid (HCl.out (-1 - (y : Int)))
        have HN2 := Lib.hid (HCl.out (1114112 + (y : Int)))
        rw [HM1.out.1, HM1.out.2] at HN1
        rw [HM2.out.1, HM2.out.2] at HN2
        have e8 : (-1 : Int) - (y : Int) = -1 - (y : Int) := rfl
        clear HC HCN HCB HM1 HM2 e8
        go_wp2_with fail
        refine (HN1.out _ bb).mono ?_
        rintro e w3 ⟨rfl, g⟩
        replace bb := bb.trans (g.mono bb.size)
        replace HX := Lib.hid (HX.out.on g)
        replace y0 := kept_cell g y0
        replace y1 := kept_cell g y1
        clear g p0 p1 p2 p3
        obtain ⟨_, p0, p1, p2, p3⟩ := HX.out
        clear q0 q1
        go_wp2_with fail
        refine (HN2.out _ bb).mono ?_
        rintro e w4 ⟨rfl, g⟩
        replace bb := bb.trans (g.mono bb.size)
        replace HX := Lib.hid (HX.out.on g)
        replace y0 := kept_cell g y0
        replace y1 := kept_cell g y1
        clear g p0 p1 p2 p3
        obtain ⟨_, p0, p1, p2, p3⟩ := HX.out
        go_wp2_with fail
        refine (wakes8_any _).mono ?_
        rintro e w9 ⟨rfl, g9⟩
        replace bb := bb.trans (g9.mono bb.size)
        clear g9
        go_wp2_with fail
        go_ret
        exact ⟨rfl, bb⟩
    · as_aux_lemma =>
        have hsv : scalB v = false := scalB_not (by omega)
        have HCB : Hid (fb v = false) := Lib.hid (by rw [HCB1.out, hsv])
        have HCN : Hid (fn v = 0) := Lib.hid (HCN0.out v HCB.out)
        clear hsv HHv HCB1 HCN1 HCN0
        have HC := Lib.hid (HCl.out v _ bb)
        rw [HCN.out, HCB.out] at HC
        go_wp2_with fail
        refine (HC.out).mono ?_
        rintro e w2 ⟨rfl, g⟩
        replace bb := bb.trans (g.mono bb.size)
        replace HX := Lib.hid (HX.out.on g)
        replace y0 := kept_cell g y0
        replace y1 := kept_cell g y1
        have g2 := g
        clear g p0 p1 p2 p3
        obtain ⟨_, p0, p1, p2, p3⟩ := HX.out
        replace q1 := kept_cell g2 q1
        clear g2
        have HN1 := Lib.hid (HCl.out (-1 - (y : Int)))
        have HN2 := Lib.hid (HCl.out (1114112 + (y : Int)))
        rw [HM1.out.1, HM1.out.2] at HN1
        rw [HM2.out.1, HM2.out.2] at HN2
        have e8 : (-1 : Int) - (y : Int) = -1 - (y : Int) := rfl
        clear HC HCN HCB HM1 HM2 e8
        go_wp2_with fail
        refine (HN1.out _ bb).mono ?_
        rintro e w3 ⟨rfl, g⟩
        replace bb := bb.trans (g.mono bb.size)
        replace HX := Lib.hid (HX.out.on g)
        replace y0 := kept_cell g y0
        replace y1 := kept_cell g y1
        clear g p0 p1 p2 p3
        obtain ⟨_, p0, p1, p2, p3⟩ := HX.out
        clear q0 q1
        go_wp2_with fail
        refine (HN2.out _ bb).mono ?_
        rintro e w4 ⟨rfl, g⟩
        replace bb := bb.trans (g.mono bb.size)
        replace HX := Lib.hid (HX.out.on g)
        replace y0 := kept_cell g y0
        replace y1 := kept_cell g y1
        clear g p0 p1 p2 p3
        obtain ⟨_, p0, p1, p2, p3⟩ := HX.out
        go_wp2_with fail
        refine (wakes8_any _).mono ?_
        rintro e w9 ⟨rfl, g9⟩
        replace bb := bb.trans (g9.mono bb.size)
        clear g9
        go_wp2_with fail
        go_ret
        exact ⟨rfl, bb⟩
    · as_aux_lemma =>
        have hsv : scalB v = true := (scalB_iff v).2 (by omega)
        have HCB : Hid (fb v = true) := Lib.hid (by rw [HCB1.out, hsv])
        have HCN : Hid (fn v = kc) := Lib.hid (by rw [HCN1.out v HCB.out, HHv.out hsv])
        have s2 : 55296 ≤ v := by omega
        have s3 : ¬ v ≤ 57343 := by omega
        clear hsv HHv HCB1 HCN1 HCN0
        have HC := Lib.hid (HCl.out v _ bb)
        rw [HCN.out, HCB.out] at HC
        go_wp2_with fail
        refine (HC.out).mono ?_
        rintro e w2 ⟨rfl, g⟩
        replace bb := bb.trans (g.mono bb.size)
        replace HX := Lib.hid (HX.out.on g)
        replace y0 := kept_cell g y0
        replace y1 := kept_cell g y1
        have g2 := g
        clear g p0 p1 p2 p3
        obtain ⟨_, p0, p1, p2, p3⟩ := HX.out
        replace q1 := kept_cell g2 q1
        clear g2
        have HN1 := Lib.hid (HCl.out (-1 - (y : Int)))
        have HN2 := Lib.hid (HCl.out (1114112 + (y : Int)))
        rw [HM1.out.1, HM1.out.2] at HN1
        rw [HM2.out.1, HM2.out.2] at HN2
        have e8 : (-1 : Int) - (y : Int) = -1 - (y : Int) := rfl
        clear HC HCN HCB HM1 HM2 e8
        go_wp2_with fail
        refine (HN1.out _ bb).mono ?_
        rintro e w3 ⟨rfl, g⟩
        replace bb := bb.trans (g.mono bb.size)
        replace HX := Lib.hid (HX.out.on g)
        replace y0 := kept_cell g y0
        replace y1 := kept_cell g y1
        clear g p0 p1 p2 p3
        obtain ⟨_, p0, p1, p2, p3⟩ := HX.out
        clear q0 q1
        go_wp2_with fail
        refine (HN2.out _ bb).mono ?_
        rintro e w4 ⟨rfl, g⟩
        replace bb := bb.trans (g.mono bb.size)
        replace HX := Lib.hid (HX.out.on g)
        replace y0 := kept_cell g y0
        replace y1 := kept_cell g y1
        clear g p0 p1 p2 p3
        obtain ⟨_, p0, p1, p2, p3⟩ := HX.out
        go_wp2_with fail
        refine (wakes8_any _).mono ?_
        rintro e w9 ⟨rfl, g9⟩
        replace bb := bb.trans (g9.mono bb.size)
        clear g9
        go_wp2_with fail
        go_ret
        exact ⟨rfl, bb⟩

/-! From the walk to the row. -/
set_option maxRecDepth 100000 in
theorem contract (H : Type) (enc : TypeId × Value → H) (W : World) (base : Nat) (args : Array Value) (ds gs : List (DataW H)) (before : List MemPlace)
    (hval0 : ∀ (j : Nat) t v, Try.f6.params[j]? = some t → args[j]? = some v → Value.okWide Try.prog W .any base t v)
    (hW : DataW.Whole enc Try.prog Try.f6.params.toList Rows.walkBandsSpec.vars false W args.toList ds gs before) :
    Calls Try.prog 6 args W fun e W' => ∃ v, e = .returned v ∧ Rows.walkBandsSpec.post enc Try.prog Try.f6 false true false false W args v W' := by
  have hval : ∀ (j : Nat) t v, Try.f6.params[j]? = some t → args[j]? = some v → Value.okWide Try.prog W .any base t v := hval0
  have hW' := hW
  obtain ⟨p, q, hA0, hV, rfl, hfz, hnd⟩ := hW
  have hA : DataW.TrodAll enc Try.prog W 0 (fun _ => true) true Try.f6.params.toList args.toList ds p := hA0
  rw [Try.params6] at hA hval
  obtain ⟨v0, vs0, d0, ds0, p0, q0, hargs, rfl, rfl, h0, r0⟩ := trodAll_cons hA
  obtain ⟨v1, vs1, d1, ds1, p1, q1, rfl, rfl, rfl, h1, r1⟩ := trodAll_cons r0
  obtain ⟨rfl, rfl, rfl⟩ := trodAll_nil r1
  obtain rfl : args = #[v0, v1] := by cases args; simp_all
  obtain ⟨rfl, rfl⟩ := trodVars_none hV
  obtain ⟨cs0, rfl, _⟩ := okWide_struct Try.underlying26 (hval 0 26 v0 rfl rfl)
  have k0 := h0
  have lt0 : ∀ x ∈ p0, x.block < W.heap.size := by obtain ⟨m, hm⟩ := k0; exact DataW.trod_lt m _ _ _ hm
  obtain ⟨T0, e0, ok0⟩ : ∃ T : TV, cs0.toList = [.int .i64 T.cl, .slice T.a1 T.n1 T.c1, .slice T.a2 T.n2 T.c2, .slice T.a3 T.n3 T.c3] ∧ T.ok W := by
    obtain ⟨fuel, hf⟩ := h0
    exact open_table (by simpa [Value.cells] using hf)
  obtain rfl : cs0 = #[.int .i64 T0.cl, .slice T0.a1 T0.n1 T0.c1, .slice T0.a2 T0.n2 T0.c2, .slice T0.a3 T0.n3 T0.c3] := by cases cs0; simp_all
  obtain ⟨cs1, rfl⟩ := okWide_arr Try.underlying47 (hval 1 47 v1 rfl rfl)
  have k1 := h1
  have lt1 : ∀ x ∈ p1, x.block < W.heap.size := by obtain ⟨m, hm⟩ := k1; exact DataW.trod_lt m _ _ _ hm
  obtain ⟨x1, y1, e1, bx1, by1⟩ : ∃ x y : Nat, cs1.toList = [.int .u32 (x : Int), .int .u32 (y : Int)] ∧ x < 4294967296 ∧ y < 4294967296 := by
    obtain ⟨fuel, hf⟩ := h1
    exact open_w2 (by simpa [Value.cells] using hf)
  obtain rfl : cs1 = #[.int .u32 (x1 : Int), .int .u32 (y1 : Int)] := by cases cs1; simp_all
  clear hA0 hval0
  refine (walk T0 x1 y1 bx1 by1 W ok0).mono fun e W' ⟨he, bel⟩ => ?_
  subst he
  exact ⟨_, rfl, _, _, _, [], _, [], hW', trodAll_mk1 (shut_bool Try.underlying4 _), (trodAll_cons_mk (Below.trod laidOut (by kernel_rfl) (of_decide_eq_true (by kernel_rfl)) k0 bel lt0) (trodAll_cons_mk (Below.trod laidOut (by kernel_rfl) (of_decide_eq_true (by kernel_rfl)) k1 bel lt1) trodAll_mk0)), rfl, bel.frame _, fun h => by cases h⟩

set_option maxRecDepth 100000 in
theorem lifted (os : Os) (started : os.Started) (H : Type) (enc : TypeId × Value → H) :
    ReturnsInHanded {} Try.checked os 6 .any (Rows.walkBandsSpec.pre6 enc Try.prog Try.f6 Rows.walkBandsRow.domain false) (Rows.walkBandsSpec.post enc Try.prog Try.f6 false true false false) := by
  refine returnsInHanded_of_change (C := Try.checked) own started (by kernel_rfl) Try.func6
    (ChangeSpec.witness6 (enc := enc) (C := Try.checked) false ⟨#[], #[.agg #[.int .i64 0, .slice none 0 0, .slice none 0 0, .slice none 0 0], .agg #[.int .u32 0, .int .u32 0]], []⟩ 8 (by kernel_rfl) (by kernel_rfl) (by kernel_rfl) (by kernel_rfl)) ?_
  intro W base args ds gs before hval hW _ _
  exact contract H enc W base args ds gs before hval hW

set_option maxRecDepth 100000 in
theorem over : Rows.walkBandsRow.holds Try.pinned (OpenSpec.ofChange Rows.walkBandsSpec) :=
  OpenClaim.holds_of_wide 6 Try.f6 rfl rfl rfl rfl rfl rfl rfl ⟨rfl, rfl, rfl, rfl, rfl⟩ rfl rfl rfl rfl rfl (by kernel_rfl) Try.func6 (by kernel_rfl)
    (of_decide_eq_true (by kernel_rfl)) (by unfold Func.isWrapper; first | (rw [if_pos (by decide +kernel)]; kernel_rfl) | (rw [if_neg (by decide +kernel)]; exact ⟨rfl, rfl⟩))
    (fun os started H enc _ => lifted os started H enc)
end Go.Proofs.Ytaejfebpalmfmaa.walkBands

namespace Go.Proofs.Ytaejfebpalmfmaa
/-- The given statement, under a short name. -/
theorem walkBands_holds : Rows.WalkBandsSaid := walkBands.over
#print axioms walkBands_holds
end Go.Proofs.Ytaejfebpalmfmaa
