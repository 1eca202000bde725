/- ValidAlike: of every table and every three of its states, a state is alike to itself, of two both ways, of three on; of a table that may be no two are alike.
   Conditions: none but the row's own (the mark's variable starts as the program's text lays it). -/
import Derived.Test.YtbiipefppangmaaDoorFrameW
import Derived.Deep.RegionHeld3
import Derived.BigQuiet
import Derived.Deep.CutRange
namespace Go.Proofs.YtbiipefppangmaaDoor.validAlike
open Go.ChangeShapes Go.WideShapes Go.ChangeAt Go.RowKit Go.Deep Go.BigFrame
set_option linter.unusedVariables false
set_option maxRecDepth 4000
set_option linter.unusedSimpArgs false

set_option maxHeartbeats 8000000 in
theorem walk (T : TV) (x y z : Nat) (hx : x < 256) (hy : y < 256) (hz : z < 256) (W : World) (hT : T.ok W) (hM : Mark W) :
    Calls Tryd.prog 6 #[T.v, .agg #[.int .u8 (x : Int), .int .u8 (y : Int), .int .u8 (z : Int)]] W fun e W' => e = .returned (.bool true) ∧ Below W.heap.size W W' := by
  have HLg := Lib.hid (fun V (g : Below W.heap.size W V) => large_any T V (hT.on g))
  have HAl : Hid (∀ (a b : Int) V, Below W.heap.size W V → Calls Tryd.prog 27 #[T.v, .int .i64 a, .int .i64 b] V fun e w' => e = .returned (.bool (alikeV T.tb a b)) ∧ Below V.heap.size V w') := Lib.hid (fun a b V g => alike_any T a b V (hT.on g))
  have HTa := Lib.hid (fun V (g : Below W.heap.size W V) => validTable_any T V (hT.on g))
  have HSy := Lib.hid (fun a b => alikeV_symm T.tb a b)
  have HTr := Lib.hid (fun a b c => @alikeV_tri T.tb a b c)
  have HSf := Lib.hid (fun a b => @alikeV_self T.tb a b)
  have hl2 : T.tb.nx.length = T.n2 := by unfold TV.tb; simp only [listsOf_len]; exact hT.r2.1
  have B2 : T.n2 ≤ 9223372036854775807 := by have := hT.s2.2; unfold maxLen at this; omega
  have HLs : Hid (errV T.tb = 0 → ∀ a b : Nat, a < T.n2 → b < T.n2 → alikeV T.tb a b = ((a : Int) == (b : Int))) := Lib.hid (fun h a b ha hb => alikeV_least (errV_ok.1 h) (by unfold stB; simp; omega) (by unfold stB; simp; omega))
  generalize alikeV T.tb = f at *
  generalize errV T.tb = ev at *
  generalize T.tb = tt at *
  have HM0 := Lib.hid hM
  clear hT hM hl2
  obtain ⟨cl, a1, n1, c1, bd, a2, n2, c2, hs, a3, n3, c3, br⟩ := T
  simp only [TV.v] at *
  have bb : Below W.heap.size W ((W.alloc (.cells #[.int .i64 cl, .slice a1 n1 c1, .slice a2 n2 c2, .slice a3 n3 c3] 26)).alloc (.cells #[.int .u8 (x : Int), .int .u8 (y : Int), .int .u8 (z : Int)] 51)) := below_call (below_new _ _) (below_new _ _).size (below_new _ _)
  have p0 : ((W.alloc (.cells #[.int .i64 cl, .slice a1 n1 c1, .slice a2 n2 c2, .slice a3 n3 c3] 26)).alloc (.cells #[.int .u8 (x : Int), .int .u8 (y : Int), .int .u8 (z : Int)] 51)).cell? ⟨W.heap.size, 0, none⟩ = some (.int .i64 cl) := by simp
  have p1 : ((W.alloc (.cells #[.int .i64 cl, .slice a1 n1 c1, .slice a2 n2 c2, .slice a3 n3 c3] 26)).alloc (.cells #[.int .u8 (x : Int), .int .u8 (y : Int), .int .u8 (z : Int)] 51)).cell? ⟨W.heap.size, 1, none⟩ = some (.slice a1 n1 c1) := by simp
  have p2 : ((W.alloc (.cells #[.int .i64 cl, .slice a1 n1 c1, .slice a2 n2 c2, .slice a3 n3 c3] 26)).alloc (.cells #[.int .u8 (x : Int), .int .u8 (y : Int), .int .u8 (z : Int)] 51)).cell? ⟨W.heap.size, 2, none⟩ = some (.slice a2 n2 c2) := by simp
  have p3 : ((W.alloc (.cells #[.int .i64 cl, .slice a1 n1 c1, .slice a2 n2 c2, .slice a3 n3 c3] 26)).alloc (.cells #[.int .u8 (x : Int), .int .u8 (y : Int), .int .u8 (z : Int)] 51)).cell? ⟨W.heap.size, 3, none⟩ = some (.slice a3 n3 c3) := by simp
  have y0 : ((W.alloc (.cells #[.int .i64 cl, .slice a1 n1 c1, .slice a2 n2 c2, .slice a3 n3 c3] 26)).alloc (.cells #[.int .u8 (x : Int), .int .u8 (y : Int), .int .u8 (z : Int)] 51)).cell? ⟨W.heap.size + 1, 0, none⟩ = some (.int .u8 (x : Int)) := by simp
  have y1 : ((W.alloc (.cells #[.int .i64 cl, .slice a1 n1 c1, .slice a2 n2 c2, .slice a3 n3 c3] 26)).alloc (.cells #[.int .u8 (x : Int), .int .u8 (y : Int), .int .u8 (z : Int)] 51)).cell? ⟨W.heap.size + 1, 1, none⟩ = some (.int .u8 (y : Int)) := by simp
  have y2 : ((W.alloc (.cells #[.int .i64 cl, .slice a1 n1 c1, .slice a2 n2 c2, .slice a3 n3 c3] 26)).alloc (.cells #[.int .u8 (x : Int), .int .u8 (y : Int), .int .u8 (z : Int)] 51)).cell? ⟨W.heap.size + 1, 2, none⟩ = some (.int .u8 (z : Int)) := by simp
  go_enter Tryd.func6, Tryd.ntmps6
  go_wp2_with fail
  generalize ((W.alloc (.cells #[.int .i64 cl, .slice a1 n1 c1, .slice a2 n2 c2, .slice a3 n3 c3] 26)).alloc (.cells #[.int .u8 (x : Int), .int .u8 (y : Int), .int .u8 (z : Int)] 51)) = V1 at *
  refine (HLg.out _ bb).mono ?_
  rintro e w1 ⟨q, rfl, g, _⟩
  replace p0 := kept_cell g p0
  replace p1 := kept_cell g p1
  replace p2 := kept_cell g p2
  replace p3 := kept_cell g p3
  replace y0 := kept_cell g y0
  replace y1 := kept_cell g y1
  replace y2 := kept_cell g y2
  replace bb := bb.trans (g.mono bb.size)
  have HM := Lib.hid (HM0.out.on bb)
  clear g HLg
  cases q
  case true =>
    go_wp2_with fail
    refine (wakesV_any _ HM.out).mono ?_
    rintro e w9 ⟨rfl, g9⟩
    replace bb := bb.trans (g9.mono bb.size)
    clear g9
    go_wp2_with fail
    go_ret
    exact ⟨rfl, bb⟩
  by_cases h0 : n2 = 0
  · subst h0
    go_wp2_with fail
    refine (wakesV_any _ HM.out).mono ?_
    rintro e w9 ⟨rfl, g9⟩
    replace bb := bb.trans (g9.mono bb.size)
    clear g9
    go_wp2_with fail
    go_ret
    exact ⟨rfl, bb⟩
  have h0' : ((n2 : Int) == 0) = false := by rw [beq_eq_false_iff_ne]; omega
  by_cases h5 : 5 < n2
  · have h5' : (5 : Int) < (n2 : Int) := by omega
    go_wp2_with fail
    refine (wakesV_any _ HM.out).mono ?_
    rintro e w9 ⟨rfl, g9⟩
    replace bb := bb.trans (g9.mono bb.size)
    clear g9
    go_wp2_with fail
    go_ret
    exact ⟨rfl, bb⟩
  have h5' : ¬ (5 : Int) < (n2 : Int) := by omega
  obtain ⟨ka, hka, hka1⟩ : ∃ k : Nat, k = x % n2 ∧ k < n2 := ⟨_, rfl, Nat.mod_lt _ (by omega)⟩
  obtain ⟨kb, hkb, hkb1⟩ : ∃ k : Nat, k = y % n2 ∧ k < n2 := ⟨_, rfl, Nat.mod_lt _ (by omega)⟩
  obtain ⟨kc, hkc, hkc1⟩ : ∃ k : Nat, k = z % n2 ∧ k < n2 := ⟨_, rfl, Nat.mod_lt _ (by omega)⟩
  have i1 : (x : Int) % (n2 : Int) = (ka : Int) := by rw [hka]; exact (Int.natCast_emod x n2).symm
  have i2 : Int.tmod (x : Int) (n2 : Int) = (ka : Int) := by rw [Int.tmod_eq_emod_of_nonneg (by omega)]; exact i1
  have i3 : (y : Int) % (n2 : Int) = (kb : Int) := by rw [hkb]; exact (Int.natCast_emod y n2).symm
  have i4 : Int.tmod (y : Int) (n2 : Int) = (kb : Int) := by rw [Int.tmod_eq_emod_of_nonneg (by omega)]; exact i3
  have i5 : (z : Int) % (n2 : Int) = (kc : Int) := by rw [hkc]; exact (Int.natCast_emod z n2).symm
  have i6 : Int.tmod (z : Int) (n2 : Int) = (kc : Int) := by rw [Int.tmod_eq_emod_of_nonneg (by omega)]; exact i5
  have w1' : IntKind.i64.wrap (ka : Int) = (ka : Int) := by rw [IntKind.wrap_i64]; omega
  have w2' : IntKind.i64.wrap (kb : Int) = (kb : Int) := by rw [IntKind.wrap_i64]; omega
  have w3' : IntKind.i64.wrap (kc : Int) = (kc : Int) := by rw [IntKind.wrap_i64]; omega
  have w4' : IntKind.i64.wrap (x : Int) = (x : Int) := by rw [IntKind.wrap_i64]; omega
  have w5' : IntKind.i64.wrap (y : Int) = (y : Int) := by rw [IntKind.wrap_i64]; omega
  have w6' : IntKind.i64.wrap (z : Int) = (z : Int) := by rw [IntKind.wrap_i64]; omega
  clear hka hkb hkc
  go_wp2_with fail
  go_quiet (fail)
  replace bb := below_drewN bb nq
  have gd := below_drewN (Below.refl w1.heap.size w1) nq
  replace p0 := kept_cell gd p0
  replace p1 := kept_cell gd p1
  replace p2 := kept_cell gd p2
  replace p3 := kept_cell gd p3
  replace HM := Lib.hid (HM.out.on gd)
  clear gd y0 y1 y2 i1 i2 i3 i4 i5 i6 w1' w2' w3' w4' w5' w6' hx hy hz
  generalize w1.drewN nq = V2 at *
  have hAB : Hid (∀ V, (V.cell? ⟨W.heap.size, 0, none⟩ = some (.int .i64 cl) ∧ V.cell? ⟨W.heap.size, 1, none⟩ = some (.slice a1 n1 c1) ∧ V.cell? ⟨W.heap.size, 2, none⟩ = some (.slice a2 n2 c2) ∧ V.cell? ⟨W.heap.size, 3, none⟩ = some (.slice a3 n3 c3) ∧ Below W.heap.size W V) → Calls Tryd.prog 27 #[.agg #[.int .i64 cl, .slice a1 n1 c1, .slice a2 n2 c2, .slice a3 n3 c3], .int .i64 ka, .int .i64 kb] V fun e w' => e = .returned (.bool (f ka kb)) ∧ Below V.heap.size V w') := Lib.hid (fun V h => HAl.out _ _ V h.2.2.2.2)
  have hBC : Hid (∀ V, (V.cell? ⟨W.heap.size, 0, none⟩ = some (.int .i64 cl) ∧ V.cell? ⟨W.heap.size, 1, none⟩ = some (.slice a1 n1 c1) ∧ V.cell? ⟨W.heap.size, 2, none⟩ = some (.slice a2 n2 c2) ∧ V.cell? ⟨W.heap.size, 3, none⟩ = some (.slice a3 n3 c3) ∧ Below W.heap.size W V) → Calls Tryd.prog 27 #[.agg #[.int .i64 cl, .slice a1 n1 c1, .slice a2 n2 c2, .slice a3 n3 c3], .int .i64 kb, .int .i64 kc] V fun e w' => e = .returned (.bool (f kb kc)) ∧ Below V.heap.size V w') := Lib.hid (fun V h => HAl.out _ _ V h.2.2.2.2)
  have hAC : Hid (∀ V, (V.cell? ⟨W.heap.size, 0, none⟩ = some (.int .i64 cl) ∧ V.cell? ⟨W.heap.size, 1, none⟩ = some (.slice a1 n1 c1) ∧ V.cell? ⟨W.heap.size, 2, none⟩ = some (.slice a2 n2 c2) ∧ V.cell? ⟨W.heap.size, 3, none⟩ = some (.slice a3 n3 c3) ∧ Below W.heap.size W V) → Calls Tryd.prog 27 #[.agg #[.int .i64 cl, .slice a1 n1 c1, .slice a2 n2 c2, .slice a3 n3 c3], .int .i64 ka, .int .i64 kc] V fun e w' => e = .returned (.bool (f ka kc)) ∧ Below V.heap.size V w') := Lib.hid (fun V h => HAl.out _ _ V h.2.2.2.2)
  have hSV : V2.cell? ⟨W.heap.size, 0, none⟩ = some (.int .i64 cl) ∧ V2.cell? ⟨W.heap.size, 1, none⟩ = some (.slice a1 n1 c1) ∧ V2.cell? ⟨W.heap.size, 2, none⟩ = some (.slice a2 n2 c2) ∧ V2.cell? ⟨W.heap.size, 3, none⟩ = some (.slice a3 n3 c3) ∧ Below W.heap.size W V2 := ⟨p0, p1, p2, p3, bb⟩
  have hSd := sOn (Below.drew (Below.refl V2.heap.size V2)) hSV
  clear p0 p1 p2 p3
  go_upto_region 5 with (fail)
  go_cut [9, 10, 11] from 45 to 56 (fun v9 v10 v11 wx => v9 = .bool (f ka kb) ∧ v10 = .bool (f kb kc) ∧ v11 = .bool (f ka kc) ∧ wx.cell? ⟨W.heap.size, 0, none⟩ = some (.int .i64 cl) ∧ wx.cell? ⟨W.heap.size, 1, none⟩ = some (.slice a1 n1 c1) ∧ wx.cell? ⟨W.heap.size, 2, none⟩ = some (.slice a2 n2 c2) ∧ wx.cell? ⟨W.heap.size, 3, none⟩ = some (.slice a3 n3 c3) ∧ Below W.heap.size W wx)
  case first =>
    go_region_held3 (fun V => V.cell? ⟨W.heap.size, 0, none⟩ = some (.int .i64 cl) ∧ V.cell? ⟨W.heap.size, 1, none⟩ = some (.slice a1 n1 c1) ∧ V.cell? ⟨W.heap.size, 2, none⟩ = some (.slice a2 n2 c2) ∧ V.cell? ⟨W.heap.size, 3, none⟩ = some (.slice a3 n3 c3) ∧ Below W.heap.size W V) (with_reducible (first | assumption | exact hSd)) (first | (go_at_call 27; with_reducible refine Calls.mono (hAB.out _ ?_) ?_; (with_reducible (first | assumption | exact hSd)); rintro e v1 ⟨rfl, g1⟩; have s1 := sOn g1 (by with_reducible (first | assumption | exact hSd))) | (go_at_call 27; with_reducible refine Calls.mono (hBC.out _ ?_) ?_; (with_reducible (first | assumption | exact hSd)); rintro e v2 ⟨rfl, g2⟩; have s2 := sOn g2 (by with_reducible (first | assumption | exact hSd))) | (go_at_call 27; with_reducible refine Calls.mono (hAC.out _ ?_) ?_; (with_reducible (first | assumption | exact hSd)); rintro e v3 ⟨rfl, g3⟩; have s3 := sOn g3 (by with_reducible (first | assumption | exact hSd))))
    all_goals (go_wp2_with fail; go_meet; exact ⟨rfl, rfl, rfl, by with_reducible assumption⟩)
  obtain ⟨rfl, rfl, rfl, p0, p1, p2, p3, bb⟩ := hcut
  replace HM := Lib.hid (HM0.out.on bb)
  clear hAB hBC hAC hSV hSd
  have HBA := Lib.hid (fun V (g : Below W.heap.size W V) => HAl.out kb ka V g)
  have HAA := Lib.hid (fun V (g : Below W.heap.size W V) => HAl.out ka ka V g)
  rw [HSy.out kb ka] at HBA
  have HT3 := Lib.hid (HTr.out ka kb kc)
  have HS3 := Lib.hid (HSf.out ka kb)
  have HL3 := Lib.hid (fun h => HLs.out h ka kb hka1 hkb1)
  clear HAl HSy HTr HSf HLs
  generalize f ka kb = fp at *
  generalize f kb kc = fq at *
  generalize f ka kc = fr at *
  generalize f ka ka = fs at *
  go_wp2_with fail
  refine (HBA.out _ bb).mono ?_
  rintro e w2 ⟨rfl, g⟩
  replace p0 := kept_cell g p0
  replace p1 := kept_cell g p1
  replace p2 := kept_cell g p2
  replace p3 := kept_cell g p3
  replace HM := Lib.hid (HM.out.on g)
  replace bb := bb.trans (g.mono bb.size)
  clear g HBA
  cases fp
  case false =>
    go_wp2_with fail
    refine (HTa.out _ bb).mono ?_
    rintro e w3 ⟨rfl, g⟩
    replace HM := Lib.hid (HM.out.on g)
    replace bb := bb.trans (g.mono bb.size)
    clear g HTa p0 p1 p2 p3
    by_cases hev : ev = 0
    · subst hev
      have hk := HL3.out (by first | rfl | trivial)
      have hk' : ((ka : Int) == (kb : Int)) = false := hk.symm
      clear hk
      go_wp2_with fail
      refine (wakesV_any _ HM.out).mono ?_
      rintro e w9 ⟨rfl, g9⟩
      replace bb := bb.trans (g9.mono bb.size)
      clear g9
      go_wp2_with fail
      go_ret
      exact ⟨rfl, bb⟩
    · have hev' : (ev != 0) = true := by rw [bne_iff_ne]; exact hev
      go_wp2_with fail
      refine (wakesV_any _ HM.out).mono ?_
      rintro e w9 ⟨rfl, g9⟩
      replace bb := bb.trans (g9.mono bb.size)
      clear g9
      go_wp2_with fail
      go_ret
      exact ⟨rfl, bb⟩
  case true =>
    cases fq
    case false =>
      go_wp2_with fail
      refine (HAA.out _ bb).mono ?_
      rintro e w4 ⟨rfl, g⟩
      replace p0 := kept_cell g p0
      replace p1 := kept_cell g p1
      replace p2 := kept_cell g p2
      replace p3 := kept_cell g p3
      replace HM := Lib.hid (HM.out.on g)
      replace bb := bb.trans (g.mono bb.size)
      clear g HAA
      obtain rfl : fs = true := HS3.out (by first | rfl | trivial)
      go_wp2_with fail
      refine (HTa.out _ bb).mono ?_
      rintro e w3 ⟨rfl, g⟩
      replace HM := Lib.hid (HM.out.on g)
      replace bb := bb.trans (g.mono bb.size)
      clear g HTa p0 p1 p2 p3
      by_cases hev : ev = 0
      · subst hev
        have hk := HL3.out (by first | rfl | trivial)
        have hk' : ((ka : Int) == (kb : Int)) = true := hk.symm
        clear hk
        go_wp2_with fail
        refine (wakesV_any _ HM.out).mono ?_
        rintro e w9 ⟨rfl, g9⟩
        replace bb := bb.trans (g9.mono bb.size)
        clear g9
        go_wp2_with fail
        go_ret
        exact ⟨rfl, bb⟩
      · have hev' : (ev != 0) = true := by rw [bne_iff_ne]; exact hev
        go_wp2_with fail
        refine (wakesV_any _ HM.out).mono ?_
        rintro e w9 ⟨rfl, g9⟩
        replace bb := bb.trans (g9.mono bb.size)
        clear g9
        go_wp2_with fail
        go_ret
        exact ⟨rfl, bb⟩
    case true =>
      obtain rfl : fr = true := HT3.out (by first | rfl | trivial) (by first | rfl | trivial)
      go_wp2_with fail
      refine (HAA.out _ bb).mono ?_
      rintro e w4 ⟨rfl, g⟩
      replace p0 := kept_cell g p0
      replace p1 := kept_cell g p1
      replace p2 := kept_cell g p2
      replace p3 := kept_cell g p3
      replace HM := Lib.hid (HM.out.on g)
      replace bb := bb.trans (g.mono bb.size)
      clear g HAA
      obtain rfl : fs = true := HS3.out (by first | rfl | trivial)
      go_wp2_with fail
      refine (HTa.out _ bb).mono ?_
      rintro e w3 ⟨rfl, g⟩
      replace HM := Lib.hid (HM.out.on g)
      replace bb := bb.trans (g.mono bb.size)
      clear g HTa p0 p1 p2 p3
      by_cases hev : ev = 0
      · subst hev
        have hk := HL3.out (by first | rfl | trivial)
        have hk' : ((ka : Int) == (kb : Int)) = true := hk.symm
        clear hk
        go_wp2_with fail
        refine (wakesV_any _ HM.out).mono ?_
        rintro e w9 ⟨rfl, g9⟩
        replace bb := bb.trans (g9.mono bb.size)
        clear g9
        go_wp2_with fail
        go_ret
        exact ⟨rfl, bb⟩
      · have hev' : (ev != 0) = true := by rw [bne_iff_ne]; exact hev
        go_wp2_with fail
        refine (wakesV_any _ HM.out).mono ?_
        rintro e w9 ⟨rfl, g9⟩
        replace bb := bb.trans (g9.mono bb.size)
        clear g9
        go_wp2_with fail
        go_ret
        exact ⟨rfl, bb⟩

/-! From the walk to the row and its card. -/
set_option maxRecDepth 100000 in
theorem contract (H : Type) (enc : TypeId × Value → H) (W : World) (base : Nat) (args : Array Value) (ds gs : List (DataW H)) (before : List MemPlace)
    (hval0 : ∀ (j : Nat) t v, Tryd.f6.params[j]? = some t → args[j]? = some v → Value.okWide Tryd.prog W .any base t v)
    (hW : DataW.Whole enc Tryd.prog Tryd.f6.params.toList Rows.validAlikeSpec.vars false W args.toList ds gs before) (hL : laidMetH Tryd.prog Rows.validAlikeRow.laid W) :
    Calls Tryd.prog 6 args W fun e W' => ∃ v, e = .returned v ∧ Rows.validAlikeSpec.post enc Tryd.prog Tryd.f6 false true false false W args v W' := by
  have hval : ∀ (j : Nat) t v, Tryd.f6.params[j]? = some t → args[j]? = some v → Value.okWide Tryd.prog W .any base t v := hval0
  have hW' := hW
  obtain ⟨p, q, hA0, hV, rfl, hfz, hnd⟩ := hW
  have hA : DataW.TrodAll enc Tryd.prog W 0 (fun _ => true) true Tryd.f6.params.toList args.toList ds p := hA0
  rw [Tryd.params6] at hA hval
  obtain ⟨v0, vs0, d0, ds0, p0, q0, hargs, rfl, rfl, h0, r0⟩ := trodAll_cons hA
  obtain ⟨v1, vs1, d1, ds1, p1, q1, rfl, rfl, rfl, h1, r1⟩ := trodAll_cons r0
  obtain ⟨rfl, rfl, rfl⟩ := trodAll_nil r1
  obtain rfl : args = #[v0, v1] := by cases args; simp_all
  obtain ⟨rfl, rfl⟩ := trodVars_none hV
  obtain ⟨cs0, rfl, _⟩ := okWide_struct Tryd.underlying26 (hval 0 26 v0 rfl rfl)
  have k0 := h0
  have lt0 : ∀ x ∈ p0, x.block < W.heap.size := by obtain ⟨m, hm⟩ := k0; exact DataW.trod_lt m _ _ _ hm
  obtain ⟨T0, e0, ok0⟩ : ∃ T : TV, cs0.toList = [.int .i64 T.cl, .slice T.a1 T.n1 T.c1, .slice T.a2 T.n2 T.c2, .slice T.a3 T.n3 T.c3] ∧ T.ok W := by
    obtain ⟨fuel, hf⟩ := h0
    exact open_table (by simpa [Value.cells] using hf)
  obtain rfl : cs0 = #[.int .i64 T0.cl, .slice T0.a1 T0.n1 T0.c1, .slice T0.a2 T0.n2 T0.c2, .slice T0.a3 T0.n3 T0.c3] := by cases cs0; simp_all
  obtain ⟨cs1, rfl⟩ := okWide_arr Tryd.underlying51 (hval 1 51 v1 rfl rfl)
  have k1 := h1
  have lt1 : ∀ x ∈ p1, x.block < W.heap.size := by obtain ⟨m, hm⟩ := k1; exact DataW.trod_lt m _ _ _ hm
  obtain ⟨x1_0, x1_1, x1_2, e1, bx1_0, bx1_1, bx1_2⟩ : ∃ x1_0 x1_1 x1_2 : Nat, cs1.toList = [.int .u8 (x1_0 : Int), .int .u8 (x1_1 : Int), .int .u8 (x1_2 : Int)] ∧ x1_0 < 256 ∧ x1_1 < 256 ∧ x1_2 < 256 := by
    obtain ⟨fuel, hf⟩ := h1
    exact open_y3 (by simpa [Value.cells] using hf)
  obtain rfl : cs1 = #[.int .u8 (x1_0 : Int), .int .u8 (x1_1 : Int), .int .u8 (x1_2 : Int)] := by cases cs1; simp_all
  clear hA0 hval0
  refine (walk T0 x1_0 x1_1 x1_2 bx1_0 bx1_1 bx1_2 W ok0 (mark_of_laid hL)).mono fun e W' ⟨he, bel⟩ => ?_
  subst he
  exact ⟨_, rfl, _, _, _, [], _, [], hW', trodAll_mk1 (shut_bool Tryd.underlying4 _), (trodAll_cons_mk (Below.trod laidOut (by kernel_rfl) (of_decide_eq_true (by kernel_rfl)) k0 bel lt0) (trodAll_cons_mk (Below.trod laidOut (by kernel_rfl) (of_decide_eq_true (by kernel_rfl)) k1 bel lt1) trodAll_mk0)), rfl, bel.frame _, fun h => by cases h⟩

theorem laid_met (os : Os) : laidMet Tryd.prog Rows.validAlikeRow.laid ((laidWorld os).forCall (fun _ _ => 0) ⟨#[], #[.agg #[.int .i64 0, .slice none 0 0, .slice none 0 0, .slice none 0 0], .agg #[.int .u8 0, .int .u8 0, .int .u8 0]], []⟩).memory :=
  laidMet_of_run' 8 (by kernel_rfl) (by kernel_rfl)
theorem reads (os : Os) {H : Type} (enc : TypeId × Value → H) : ∃ places, DataW.whole enc Tryd.prog ((laidWorld os).forCall (fun _ _ => 0) ⟨#[], #[.agg #[.int .i64 0, .slice none 0 0, .slice none 0 0, .slice none 0 0], .agg #[.int .u8 0, .int .u8 0, .int .u8 0]], []⟩).memory Tryd.f6.params.toList Rows.validAlikeSpec.vars false (#[.agg #[.int .i64 0, .slice none 0 0, .slice none 0 0, .slice none 0 0], .agg #[.int .u8 0, .int .u8 0, .int .u8 0]] : Array Value).toList 8 = some ([.agg [.lit (.int .i64 0), .nil, .nil, .nil], .agg [.lit (.int .u8 0), .lit (.int .u8 0), .lit (.int .u8 0)]], [], places) :=
  ⟨[], by kernel_rfl⟩

set_option maxRecDepth 100000 in
theorem lifted (os : Os) (started : os.Started) (H : Type) (enc : TypeId × Value → H) (F : Stop.Interp) :
    ReturnsInHanded {} Tryd.checked os 6 .any ((OpenSpec.ofChange Rows.validAlikeSpec).preRow enc Tryd.prog Tryd.f6 Rows.validAlikeRow.domain false Rows.validAlikeRow.laid) (((OpenSpec.ofChange Rows.validAlikeSpec).at F).post enc Tryd.prog Tryd.f6 false true false false) := by
  obtain ⟨places, hx⟩ := reads os enc
  refine returnsInHanded_of_row (C := Tryd.checked) (s := OpenSpec.ofChange Rows.validAlikeSpec) own started (by kernel_rfl) Tryd.func6
    (witness_row_at (enc := enc) (C := Tryd.checked) false (laidWorld os) #[.agg #[.int .i64 0, .slice none 0 0, .slice none 0 0, .slice none 0 0], .agg #[.int .u8 0, .int .u8 0, .int .u8 0]] rfl (by kernel_rfl) (by kernel_rfl) (by kernel_rfl)
      (OpenSpec.preRow_of_cond 8 hx (by kernel_rfl) (fun k hk => by cases hk) (by kernel_rfl) (laid_met os))) ?_
  intro W base args ds gs before hval hW _ _ _ hL _ _
  exact contract H enc W base args ds gs before hval hW hL

set_option maxRecDepth 100000 in
theorem said : Rows.ValidAlikeSaid :=
  OpenClaim.holds_of_cond 6 Tryd.f6 rfl rfl rfl rfl rfl rfl rfl ⟨rfl, rfl, rfl, rfl, rfl⟩ rfl rfl rfl rfl rfl (by kernel_rfl) Tryd.func6 (by kernel_rfl)
    (of_decide_eq_true (by kernel_rfl)) (by unfold Func.isWrapper; first | (rw [if_pos (by decide +kernel)]; kernel_rfl) | (rw [if_neg (by decide +kernel)]; exact ⟨rfl, rfl⟩))
    (fun os started H enc _ F => by rw [OpenClaim.pre_eq_preRow]; exact lifted os started H enc F)

theorem plain (f : FuncId) (fn : Func) (hf : Tryd.pinned.checked.prog.funcNamed Rows.validAlikeRow.func = some f) (hfn : Tryd.pinned.checked.prog.funcs[f]? = some fn) :
    false = Tryd.pinned.checked.prog.looks [] ∧ ∀ (j : Nat) t, fn.params[j]? = some t → Tryd.pinned.checked.prog.wantsStandIn t = false := by
  obtain rfl : f = 6 := Option.some.inj ((show Tryd.prog.funcNamed Rows.validAlikeRow.func = some 6 by kernel_rfl).symm.trans hf) |>.symm
  obtain rfl : fn = Tryd.f6 := (Option.some.inj (Tryd.func6.symm.trans hfn)).symm
  refine ⟨by kernel_rfl, fun j t ht => ?_⟩
  rw [Tryd.params6] at ht
  have hm : t ∈ [26, 51] := by simpa using Array.mem_of_getElem? ht
  have hall : ([26, 51].all fun u => !Tryd.prog.wantsStandIn u) = true := by kernel_rfl
  exact (show Tryd.prog.wantsStandIn t = false by simpa using List.all_eq_true.1 hall t hm)

theorem card : Rows.ValidAlikeCardSaid :=
  Claim7.holds_tied_plain_at .later [] _ _ _ _ said (fun _ h => by cases h) (by kernel_rfl) (fun _ h => by cases h) validAlike_row_tie rfl ⟨rfl, rfl⟩ (by kernel_rfl) rfl plain (by kernel_rfl)
end Go.Proofs.YtbiipefppangmaaDoor.validAlike

namespace Go.Proofs.YtbiipefppangmaaDoor
/-- The given statement, under a short name. -/
theorem validAlike_holds : Rows.ValidAlikeCardSaid := validAlike.card
#print axioms validAlike_holds
end Go.Proofs.YtbiipefppangmaaDoor
