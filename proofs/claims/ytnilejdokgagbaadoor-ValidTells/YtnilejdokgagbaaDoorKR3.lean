/- What Alike and Table of the document's valid return. -/
import Derived.Test.YtnilejdokgagbaaDoorKR1
namespace Go.Proofs.YtnilejdokgagbaaDoor
open Go.RowKit Go.BigFrame
set_option linter.unusedVariables false
set_option maxRecDepth 4000
set_option linter.unusedSimpArgs false

set_option maxHeartbeats 8000000 in
theorem refAlike_any (T : TV) (a b : Int) (w : World) (hT : T.ok w) :
    Calls Tryd.prog 23 #[T.v, .int .i64 a, .int .i64 b] w fun e w' => e = .returned (.bool (alikeV T.tb a b)) ∧ Below w.heap.size w w' := by
  have l2 : T.tb.nx.length = T.n2 := by unfold TV.tb; simp only [listsOf_len]; exact hT.r2.1
  have lr : ∀ h ∈ T.hs, (h.n : Int) = h.l.length := fun h hh => by have := (hT.r2.2.2 h hh).1.1; omega
  have mr : ∀ h ∈ T.hs, h.l ∈ T.tb.nx := fun h hh => List.mem_map.2 ⟨h, hh, rfl⟩
  have B2 : T.n2 ≤ 9223372036854775807 := by have := hT.s2.2; unfold maxLen at this; omega
  have hrow : cntV T.tb = true → ∀ h ∈ T.hs, (h.n : Int) = T.cl := fun hc h hh => (lr h hh).trans (((cntV_iff _).1 hc).rw _ (mr h hh))
  have HC1 : Hid (∀ W, Below w.heap.size w W → Calls Tryd.prog 58 #[T.v] W fun e w' => e = .returned (.bool (cntV T.tb)) ∧ Below W.heap.size W w') := Lib.hid (fun W g => refCounts_any T W (hT.on g))
  have HC2 : Hid (cntV T.tb = true → ∀ W, Below w.heap.size w W → Calls Tryd.prog 60 #[T.v] W fun e w' => e = .returned (.bool (nextB T.tb)) ∧ Below W.heap.size W w') := Lib.hid (fun h W g => refNexts_any T W (hT.on g) (by have := ((cntV_iff _).1 h).n2; omega) (fun x hx => by have h1 := hrow h x hx; have h2 := ((cntV_iff _).1 h).c2; have h3 : T.tb.cl = T.cl := rfl; omega))
  have HC4 : Hid (cntV T.tb = true → nextB T.tb = true → ∀ W, Below w.heap.size w W → Calls Tryd.prog 61 #[T.v] W (OutRq T.tb T.n2 W)) := Lib.hid (fun h hn W g => refApart_any T W (hT.on g) ((cntV_iff _).1 h) hn)
  have HNo := Lib.hid (fun h => alikeV_no (t := T.tb) (a := a) (b := b) h)
  have HSt : Hid (∀ v, stB T.tb v = (decide (0 ≤ v) && decide (v < T.n2))) := Lib.hid (fun v => by unfold stB; rw [l2])
  have HYes : Hid (cntV T.tb = true → nextB T.tb = true → ∀ a' b' : Nat, a = (a' : Int) → b = (b' : Int) → a' < T.n2 → b' < T.n2 → alikeV T.tb a b = !farB T.tb a' b') := Lib.hid (fun h1 h2 a' b' e1 e2 h3 h4 => by
    rw [e1, e2]; exact alikeV_of h1 h2 (by omega) (by omega))
  have HX := Lib.hid (box_new w T)
  have b0 := below_new w (.cells #[.int .i64 T.cl, .slice T.a1 T.n1 T.c1, .slice T.a2 T.n2 T.c2, .slice T.a3 T.n3 T.c3] 26)
  generalize alikeV T.tb a b = q at *
  generalize cntV T.tb = x1 at *
  generalize nextB T.tb = x2 at *
  generalize T.tb = t at *
  generalize stB t = st at *
  clear hT l2 lr mr hrow
  obtain ⟨cl, a1, n1, c1, bd, a2, n2, c2, hs, a3, n3, c3, br⟩ := T
  simp only [TV.v] at *
  go_enter Tryd.func23, Tryd.ntmps23
  go_wp2_with fail
  generalize w.alloc (.cells #[.int .i64 cl, .slice a1 n1 c1, .slice a2 n2 c2, .slice a3 n3 c3] 26) = W0 at *
  refine (HC1.out _ b0).mono ?_
  rintro e w1 ⟨rfl, g⟩
  have b1 := below_call b0 b0.size g
  have HX := Lib.hid (HX.out.on g)
  clear g
  obtain ⟨_, p0, p1, p2, p3⟩ := HX.out
  simp only [] at p0 p1 p2 p3
  cases x1
  case false =>
    go_wp2_with fail
    go_ret
    exact ⟨ret_bool (HNo.out (by simp)).symm, b1⟩
  go_wp2_with fail
  clear p0 p1 p2 p3
  refine (HC2.out (by first | rfl | trivial) _ b1).mono ?_
  rintro e w2 ⟨rfl, g⟩
  have b2 := below_call b1 b1.size g
  have HX := Lib.hid (HX.out.on g)
  clear g
  obtain ⟨_, p0, p1, p2, p3⟩ := HX.out
  simp only [] at p0 p1 p2 p3
  cases x2
  case false =>
    go_wp2_with fail
    go_ret
    exact ⟨ret_bool (HNo.out (by simp)).symm, b2⟩
  by_cases h1 : a < 0
  · have HR := Lib.hid (HNo.out (by rw [HSt.out a, decide_eq_false (by omega)]; simp))
    go_wp2_with fail
    go_ret
    exact ⟨ret_bool HR.out.symm, b2⟩
  by_cases h2 : b < 0
  · have HR := Lib.hid (HNo.out (by rw [HSt.out b, decide_eq_false (by omega : ¬ 0 ≤ b)]; simp))
    go_wp2_with fail
    go_ret
    exact ⟨ret_bool HR.out.symm, b2⟩
  by_cases h3 : (n2 : Int) ≤ a
  · have HR := Lib.hid (HNo.out (by rw [HSt.out a, decide_eq_false (by omega : ¬ a < (n2 : Int))]; simp))
    go_wp2_with fail
    go_ret
    exact ⟨ret_bool HR.out.symm, b2⟩
  by_cases h4 : (n2 : Int) ≤ b
  · have HR := Lib.hid (HNo.out (by rw [HSt.out b, decide_eq_false (by omega : ¬ b < (n2 : Int))]; simp))
    go_wp2_with fail
    go_ret
    exact ⟨ret_bool HR.out.symm, b2⟩
  obtain ⟨a', rfl⟩ : ∃ a' : Nat, a = (a' : Int) := ⟨a.toNat, by omega⟩
  obtain ⟨b', rfl⟩ : ∃ b' : Nat, b = (b' : Int) := ⟨b.toNat, by omega⟩
  have HR := Lib.hid (HYes.out (by first | rfl | trivial) (by first | rfl | trivial) a' b' rfl rfl (by omega) (by omega))
  go_wp2_with fail
  clear p0 p1 p2 p3
  refine (HC4.out (by first | rfl | trivial) (by first | rfl | trivial) _ b2).mono ?_
  rintro e w3 ⟨og, B, M, rfl, hQ, hf, g⟩
  have b3 := below_call b2 b2.size g
  have q0 := hQ.cellO (a := a') (by omega) (by omega)
  have q1 := hQ.cellI (a := a') (b := b') (by omega) (by omega)
  rw [hf a' (by omega) b' (by omega)] at q1
  generalize farB t a' b' = fv at *
  generalize B a' = ga at *
  clear hQ hf g
  go_wp2_with fail
  go_ret
  exact ⟨ret_bool HR.out.symm, b3⟩
set_option maxHeartbeats 16000000 in
theorem refTable_any (T : TV) (w : World) (hT : T.ok w) :
    Calls Tryd.prog 21 #[T.v] w fun e w' => e = .returned (.int .i64 (errV T.tb)) ∧ Below w.heap.size w w' := by
  have l1 : T.tb.bd.length = T.n1 := hT.r1.1
  have l2 : T.tb.nx.length = T.n2 := by unfold TV.tb; simp only [listsOf_len]; exact hT.r2.1
  have lr : ∀ h ∈ T.hs, (h.n : Int) = h.l.length := fun h hh => by have := (hT.r2.2.2 h hh).1.1; omega
  have mr : ∀ h ∈ T.hs, h.l ∈ T.tb.nx := fun h hh => List.mem_map.2 ⟨h, hh, rfl⟩
  have hrow : cntV T.tb = true → ∀ h ∈ T.hs, (h.n : Int) = T.cl := fun hc h hh => (lr h hh).trans (((cntV_iff _).1 hc).rw _ (mr h hh))
  have HC1 : Hid (∀ W, Below w.heap.size w W → Calls Tryd.prog 58 #[T.v] W fun e w' => e = .returned (.bool (cntV T.tb)) ∧ Below W.heap.size W w') := Lib.hid (fun W g => refCounts_any T W (hT.on g))
  have HC4 : Hid (cntV T.tb = true → ∀ W, Below w.heap.size w W → Calls Tryd.prog 60 #[T.v] W fun e w' => e = .returned (.bool (nextB T.tb)) ∧ Below W.heap.size W w') := Lib.hid (fun h W g => refNexts_any T W (hT.on g) (by have := ((cntV_iff _).1 h).n2; omega) (fun x hx => by have h1 := hrow h x hx; have h2 := ((cntV_iff _).1 h).c2; have h3 : T.tb.cl = T.cl := rfl; omega))
  have HC6 : Hid (cntV T.tb = true → nextB T.tb = true → ∀ W, Below w.heap.size w W → Calls Tryd.prog 61 #[T.v] W (OutRq T.tb T.n2 W)) := Lib.hid (fun h hn W g => refApart_any T W (hT.on g) ((cntV_iff _).1 h) hn)
  have HCn : Hid (cntV T.tb = true → 1 ≤ T.cl ∧ T.cl ≤ 8 ∧ 1 ≤ T.n2 ∧ T.n2 ≤ 5 ∧ T.n1 ≤ 60 ∧ ∀ h ∈ T.hs, (h.n : Int) = T.cl) := Lib.hid (fun h => by
    have hc := (cntV_iff _).1 h
    exact ⟨hc.c1, hc.c2, by have := hc.n1; omega, by have := hc.n2; omega, by have := hc.k2; omega, hrow h⟩)
  have HNv : Hid (nextB T.tb = true → ∀ h ∈ T.hs, ∀ v ∈ h.l, 0 ≤ v ∧ v < T.n2) := Lib.hid (fun h x hx v hv => by have := nextB_all h (mr x hx) hv; omega)
  have HX := Lib.hid (box_new w T)
  have b0 := below_new w (.cells #[.int .i64 T.cl, .slice T.a1 T.n1 T.c1, .slice T.a2 T.n2 T.c2, .slice T.a3 T.n3 T.c3] 26)
  have HV : Hid (errV T.tb = if cntV T.tb = false then 24 else if bandsB T.tb.bd = false then 26 else if classB T.tb = false then 27 else if nextB T.tb = false then 28 else if orderB T.tb = false then 29 else if leastB T.tb = false then 30 else if colB T.tb = false then 31 else 0) := Lib.hid rfl
  have HBn : Hid (∀ i < T.n1, okBand T.bd i = false → bandsB T.tb.bd = false) := Lib.hid (fun i hi h => bandsB_no (by rw [l1]; exact hi) h)
  have HBy : Hid ((∀ i < T.n1, okBand T.bd i = true) → bandsB T.tb.bd = true) := Lib.hid (fun h => bandsB_yes (fun i hi => h i (by rw [← l1]; exact hi)))
  have HCl : Hid (classB T.tb = (clScan T.bd 0 == some T.cl)) := Lib.hid rfl
  have HOr : Hid (orderB T.tb = ordScan (listsOf T.hs) 0 1) := Lib.hid rfl
  have HLn : Hid (∀ a < T.n2, ∀ b < a, farB T.tb a b = false → leastB T.tb = false) := Lib.hid (fun a ha b hb h => leastB_no hb (by omega) (by rw [farB_symm]; exact h))
  have HLy : Hid ((∀ a < T.n2, ∀ b < a, farB T.tb a b = true) → leastB T.tb = true) := Lib.hid (fun h => leastB_yes (fun a ha b hb => by rw [farB_symm]; exact h a (by omega) b hb))
  have HKn : Hid (∀ a < T.cl.toNat, ∀ b < a, colEq T.tb b a = true → colB T.tb = false) := Lib.hid (fun a ha b hb h => colB_no hb ha h)
  have HKy : Hid ((∀ a < T.cl.toNat, ∀ b < a, colEq T.tb b a = false) → colB T.tb = true) := Lib.hid (fun h => colB_yes h)
  have HKe : Hid (∀ a b, colEq T.tb b a = (List.range T.n2).all fun s => nxI T.tb s a == nxI T.tb s b) := Lib.hid (fun a b => by
    unfold colEq
    rw [l2]
    congr 1
    funext s
    by_cases e : nxI T.tb s b = nxI T.tb s a
    · rw [e]
    · rw [beq_eq_false_iff_ne.2 e, beq_eq_false_iff_ne.2 (Ne.symm e)])
  have HNI := Lib.hid (fun s hs c => nxI_at (T := T) (s := s) hs c)
  have HRD := Lib.hid (fun V (g : Below w.heap.size w V) => (hT.on g).r1)
  have HRN := Lib.hid (fun V (g : Below w.heap.size w V) => (hT.on g).r2)
  have L2 : T.hs.length = T.n2 := hT.r2.1
  have L1 : T.bd.length = T.n1 := hT.r1.1
  generalize errV T.tb = ev at *
  generalize bandsB T.tb.bd = x2 at *
  generalize cntV T.tb = x1 at *
  generalize classB T.tb = x3 at *
  generalize nextB T.tb = x4 at *
  generalize orderB T.tb = x5 at *
  generalize leastB T.tb = x6 at *
  generalize colB T.tb = x7 at *
  generalize colEq T.tb = ceq at *
  generalize nxI T.tb = nI at *
  generalize T.tb = t at *
  clear hT l1 l2 lr mr hrow
  obtain ⟨cl, a1, n1, c1, bd, a2, n2, c2, hs, a3, n3, c3, br⟩ := T
  simp only [TV.v] at *
  go_enter Tryd.func21, Tryd.ntmps21
  go_wp2_with fail
  generalize w.alloc (.cells #[.int .i64 cl, .slice a1 n1 c1, .slice a2 n2 c2, .slice a3 n3 c3] 26) = W0 at *
  refine (HC1.out _ b0).mono ?_
  rintro e W ⟨rfl, g⟩
  have bW := below_call b0 b0.size g
  have HX := Lib.hid (HX.out.on g)
  have hbs := bW.size
  clear g b0
  cases x1
  case false =>
    go_wp2_with fail
    go_ret
    exact ⟨ret_int64 (by rw [HV.out]; rfl), bW⟩
  obtain ⟨k1, k2, m1, m2, m3, hrw⟩ := HCn.out (by first | rfl | trivial)
  obtain ⟨K, rfl⟩ : ∃ K : Nat, cl = (K : Int) := ⟨cl.toNat, by omega⟩
  have HRw : Hid (∀ h ∈ hs, h.n = K) := Lib.hid (fun h hh => by have := hrw h hh; omega)
  clear hrw HCn HC1
  simp only [Int.toNat_natCast] at HKn HKy
  go_wp2_with fail
  go_loopw [3] (fun i wr => ∃ (k : Nat), k ≤ n1 ∧ i = .int .i64 k ∧ Hid (Below W.heap.size W wr) ∧ Hid (∀ j < k, okBand bd j = true)) (fun i _ => n1 - (intOf i).toNat)
  case atStart => exact ⟨0, Nat.zero_le _, rfl, Lib.hid (Below.refl _ _), Lib.hid (fun j hj => absurd hj (by omega))⟩
  case round =>
    obtain ⟨k, hk, rfl, HB, HE⟩ := hrel
    have HBw := Lib.hid (below_call bW hbs HB.out)
    obtain ⟨_, p0, p1, p2, p3⟩ := HX.out.on HB.out
    simp only [] at p0 p1 p2 p3
    by_cases hlt : k < n1
    · have HRW := Lib.hid (HRD.out wr HBw.out)
      have kl : k < bd.length := by omega
      have HE' : Hid (okBand bd k = true → ∀ j < k + 1, okBand bd j = true) := Lib.hid (fun h j hj => by
        rcases Nat.lt_succ_iff_lt_or_eq.1 hj with h1 | h1
        · exact HE.out j h1
        · subst h1; exact h)
      have HF : Hid (okBand bd k = false → x2 = false) := Lib.hid (fun h => HBn.out k hlt h)
      match k, hk, hlt, kl, HE', HF with
      | 0, hk, hlt, kl, HE', HF =>
        obtain ⟨b, o, hA1, hbl, q0, q1⟩ := HRW.out.at kl
        try simp only [] at hA1
        subst hA1
        have HK := Lib.hid (okBand_0 kl)
        generalize bd[0] = x at *
        obtain ⟨y0, y1⟩ := x
        simp only [Nat.zero_mul, Nat.add_zero] at q0 q1
        have HB' := Lib.hid (HB.out.trans ((below_new wr (.cells #[.int .i64 y0, .int .i64 y1] 50)).mono HB.out.size))
        by_cases hx : y0 = 0
        · subst hx
          have HO : Hid (okBand bd 0 = true) := Lib.hid (by rw [HK.out]; rfl)
          have HE2 := Lib.hid (HE'.out HO.out)
          have hs0 : scalB 0 = true := by decide
          clear HE' HF HE HK HO
          go_wp2_with fail
          go_big_quiet (first | (go_at_call 59; refine Calls.quiet_of_same (refIs_any _ _)))
          go_wp2_with fail
          go_roundw
          case rel => exact ⟨1, by omega, by go_num, Lib.hid (below_drewN HB'.out _), HE2⟩
          case measure => simp [intOf]; omega
        · have HR2 : Hid (x2 = false) := Lib.hid (HF.out (by rw [HK.out]; simp [hx]))
          have hx' : (y0 != 0) = true := by simpa using hx
          clear HE' HF HE HK
          go_wp2_with fail
          go_big_quiet (first | (go_at_call 59; refine Calls.quiet_of_same (refIs_any _ _)))
          go_wp2_with fail
          go_ret
          exact ⟨ret_int64 (by rw [HV.out, HR2.out]; rfl), below_drewN (below_call bW hbs HB'.out) _⟩
      | j + 1, hk, hlt, kl, HE', HF =>
        have kl' : j < bd.length := by omega
        obtain ⟨b, o, hA, hbl, q0, q1⟩ := HRW.out.at kl
        obtain ⟨b', o', hA', _, r0, r1⟩ := HRW.out.at kl'
        try simp only [] at hA hA'
        rw [hA] at hA'
        injection hA' with hA'
        injection hA' with hA1 hA2
        subst hA1; subst hA2; subst hA
        have HK := Lib.hid (okBand_S kl)
        generalize bd[j + 1] = x at *
        generalize bd[j] = y at *
        obtain ⟨y0, y1⟩ := x
        obtain ⟨z0, z1⟩ := y
        simp only [] at q0 q1 r0 r1 HK
        have HB' := Lib.hid (HB.out.trans ((below_new wr (.cells #[.int .i64 y0, .int .i64 y1] 50)).mono HB.out.size))
        have p1' : (wr.alloc (.cells #[.int .i64 y0, .int .i64 y1] 50)).cell? ⟨w.heap.size, 1, none⟩ = some (.slice (some ⟨b, o, none⟩) n1 c1) := kept_cell (below_new wr _) p1
        have r0' : (wr.alloc (.cells #[.int .i64 y0, .int .i64 y1] 50)).cell? ⟨b, o + j * 2, none⟩ = some (.int .i64 z0) := (World.cell?_alloc_lt wr _ _ hbl).trans r0
        have r1' : (wr.alloc (.cells #[.int .i64 y0, .int .i64 y1] 50)).cell? ⟨b, o + j * 2 + 1, none⟩ = some (.int .i64 z1) := (World.cell?_alloc_lt wr _ _ hbl).trans r1
        have hk0 : (((j + 1 : Nat) : Int) == 0) = false := by rw [beq_eq_false_iff_ne]; omega
        have hk1 : (0 : Int) < ((j + 1 : Nat) : Int) := by omega
        have hw : IntKind.i64.wrap (((j + 1 : Nat) : Int) - 1) = (j : Int) := by rw [IntKind.wrap_i64]; omega
        have hj0 : ((((j + 1 : Nat) : Int) - 1)).toNat = j := by omega
        have hk0b : ((j : Int) + 1 == 0) = false := by rw [beq_eq_false_iff_ne]; omega
        have hk1b : (0 : Int) < (j : Int) + 1 := by omega
        have hwb : IntKind.i64.wrap ((j : Int) + 1 - 1) = (j : Int) := by rw [IntKind.wrap_i64]; omega
        have hj0b : ((j : Int) + 1 - 1).toNat = j := by omega
        cases hs1 : scalB y0
        · have HR2 : Hid (x2 = false) := Lib.hid (HF.out (by rw [HK.out, hs1]; rfl))
          clear HE' HF HE HK
          go_wp2_with fail
          go_big_quiet (first | (go_at_call 59; refine Calls.quiet_of_same (refIs_any _ _)))
          go_wp2_with fail
          go_ret
          exact ⟨ret_int64 (by rw [HV.out, HR2.out]; rfl), below_drewN (below_call bW hbs HB'.out) _⟩
        · by_cases h1 : y0 ≤ z0
          · have HR2 : Hid (x2 = false) := Lib.hid (HF.out (by rw [HK.out, hs1, decide_eq_false (by omega)]; rfl))
            have h1' : decide (y0 ≤ z0) = true := decide_eq_true h1
            clear HE' HF HE HK
            go_wp2_with fail
            go_big_quiet (first | (go_at_call 59; refine Calls.quiet_of_same (refIs_any _ _)))
            go_wp2_with fail
            go_ret
            exact ⟨ret_int64 (by rw [HV.out, HR2.out]; rfl), below_drewN (below_call bW hbs HB'.out) _⟩
          · have h1' : decide (y0 ≤ z0) = false := decide_eq_false h1
            by_cases h2 : y1 = z1
            · have HR2 : Hid (x2 = false) := Lib.hid (HF.out (by rw [HK.out, hs1, h2]; simp))
              have h2' : (y1 == z1) = true := by simpa using h2
              clear HE' HF HE HK h2 h1
              go_wp2_with fail
              go_big_quiet (first | (go_at_call 59; refine Calls.quiet_of_same (refIs_any _ _)))
              go_wp2_with fail
              go_ret
              exact ⟨ret_int64 (by rw [HV.out, HR2.out]; rfl), below_drewN (below_call bW hbs HB'.out) _⟩
            · have HE2 := Lib.hid (HE'.out (by rw [HK.out, hs1, decide_eq_true (by omega)]; simpa using h2))
              have h2' : (y1 == z1) = false := by simpa using h2
              clear HE' HF HE HK h2 h1
              go_wp2_with fail
              go_big_quiet (first | (go_at_call 59; refine Calls.quiet_of_same (refIs_any _ _)))
              go_wp2_with fail
              go_roundw
              case rel => exact ⟨j + 1 + 1, by omega, by go_num, Lib.hid (below_drewN HB'.out _), HE2⟩
              case measure => simp [intOf]; omega
    · have H2 : Hid (x2 = true) := Lib.hid (HBy.out (fun i hi => HE.out i (by omega)))
      rw [H2.out] at HV
      clear HE HBn HBy
      go_wp2_with fail
      clear p0 p1 p2 p3
      rename World => wA
      go_loopw [5, 6] (fun vm vi wr => ∃ (k : Nat) (m : Int), k ≤ n1 ∧ vi = .int .i64 k ∧ vm = .int .i64 m ∧ 0 ≤ m ∧ m ≤ k ∧ Hid (Below W.heap.size W wr) ∧ Hid (clScan (bd.drop k) m = clScan bd 0)) (fun vm vi _ => n1 - (intOf vi).toNat)
      case atStart => exact ⟨0, 0, Nat.zero_le _, rfl, rfl, by omega, by omega, HB, Lib.hid rfl⟩
      case round =>
        clear HB HBw
        obtain ⟨k, m, hk, rfl, rfl, hm0, hm1, HB, HE⟩ := hrel
        have HBw := Lib.hid (below_call bW hbs HB.out)
        obtain ⟨_, p0, p1, p2, p3⟩ := HX.out.on HB.out
        simp only [] at p0 p1 p2 p3
        by_cases hlt : k < n1
        · have kl : k < bd.length := by omega
          obtain ⟨b, o, hA1, hbl, q0, q1⟩ := (HRD.out wr HBw.out).at kl
          try simp only [] at hA1
          subst hA1
          have HD : Hid (bd.drop k = bd[k] :: bd.drop (k + 1)) := Lib.hid (List.drop_eq_getElem_cons kl)
          generalize bd[k] = x at *
          obtain ⟨y0, y1⟩ := x
          simp only [] at q0 q1
          by_cases hx : 0 ≤ y1 ∧ y1 ≤ m ∧ y1 < (K : Int)
          · obtain ⟨hx0, hx1, hx2⟩ := hx
            have HE2 : Hid (clScan (bd.drop (k + 1)) (max m (y1 + 1)) = clScan bd 0) := Lib.hid (by
              rw [← HE.out, HD.out]
              conv => rhs; unfold clScan
              rw [if_pos ⟨hx0, hx1⟩])
            clear HE HD
            by_cases he : y1 = m
            · subst he
              have hmx : max y1 (y1 + 1) = y1 + 1 := by omega
              rw [hmx] at HE2
              go_wp2_with fail
              go_roundw
              case rel => exact ⟨k + 1, y1 + 1, by omega, by go_num, by first | rfl | go_num, by omega, by omega, HB, HE2⟩
              case measure => simp [intOf]; omega
            · have he' : (y1 == m) = false := by simpa using he
              have hmx : max m (y1 + 1) = m := by omega
              rw [hmx] at HE2
              clear he
              go_wp2_with fail
              go_roundw
              case rel => exact ⟨k + 1, m, by omega, by go_num, by first | rfl | go_num, by omega, by omega, HB, HE2⟩
              case measure => simp [intOf]; omega
          · have HR2 : Hid (x3 = false) := Lib.hid (by
              rw [HCl.out, ← HE.out, HD.out]
              unfold clScan
              by_cases h0 : 0 ≤ y1 ∧ y1 ≤ m
              · rw [if_pos h0]
                cases hc : clScan (bd.drop (k + 1)) (max m (y1 + 1)) with
                | none => rfl
                | some r =>
                  have := clScan_ge _ _ _ hc
                  have : ¬ (r = (K : Int)) := by omega
                  simpa using this
              · rw [if_neg h0]; rfl)
            clear HE HD
            by_cases h0 : y1 < 0
            · go_wp2_with fail
              go_ret
              exact ⟨ret_int64 (by rw [HV.out, HR2.out]; rfl), below_call bW hbs HB.out⟩
            · by_cases h3 : m < y1
              · go_wp2_with fail
                go_ret
                exact ⟨ret_int64 (by rw [HV.out, HR2.out]; rfl), below_call bW hbs HB.out⟩
              · have h4 : (K : Int) ≤ y1 := by omega
                go_wp2_with fail
                go_ret
                exact ⟨ret_int64 (by rw [HV.out, HR2.out]; rfl), below_call bW hbs HB.out⟩
        · have H3 : Hid (x3 = (m == (K : Int))) := Lib.hid (by
            rw [HCl.out, ← HE.out, List.drop_eq_nil_of_le (by omega)]
            rfl)
          clear HE HCl
          by_cases hmk : m = (K : Int)
          case neg =>
            have hmk' : (m != (K : Int)) = true := by simpa using hmk
            have H3' : Hid (x3 = false) := Lib.hid (by rw [H3.out]; simpa using hmk)
            clear hmk
            go_wp2_with fail
            go_ret
            exact ⟨ret_int64 (by rw [HV.out, H3'.out]; rfl), below_call bW hbs HB.out⟩
          subst hmk
          rw [show x3 = true by rw [H3.out]; simp] at HV
          clear H3
          go_wp2_with fail
          clear p0 p1 p2 p3
          refine (HC4.out (by first | rfl | trivial) _ HBw.out).mono ?_
          rintro e wB ⟨rfl, g⟩
          replace HB := Lib.hid (below_call HB.out HB.out.size g)
          clear g HC4 HBw
          cases x4
          case false =>
            go_wp2_with fail
            go_ret
            exact ⟨ret_int64 (by rw [HV.out]; rfl), below_call bW hbs HB.out⟩
          have HNw := Lib.hid (HNv.out (by first | rfl | trivial))
          clear HNv
          go_wp2_with fail
          go_loopw [8, 9] (fun vm vi wr => ∃ (s m : Nat), s ≤ m ∧ vi = .int .i64 s ∧ vm = .int .i64 m ∧ m ≤ n2 ∧ Hid (Below W.heap.size W wr) ∧ Hid (ordScan (listsOf (hs.drop s)) s m = ordScan (listsOf hs) 0 1)) (fun vm vi _ => n2 + 1 - (intOf vi).toNat)
          case atStart => exact ⟨0, 1, by omega, rfl, rfl, by omega, HB, Lib.hid rfl⟩
          case round =>
            clear HB
            obtain ⟨s, m, hs0, rfl, rfl, hm, HB, HE⟩ := hrel
            have HBw := Lib.hid (below_call bW hbs HB.out)
            obtain ⟨_, p0, p1, p2, p3⟩ := HX.out.on HB.out
            simp only [] at p0 p1 p2 p3
            by_cases hlt : s < m
            · have kl : s < hs.length := by omega
              have HX1 := Lib.hid (List.getElem_mem kl)
              have HD : Hid (listsOf (hs.drop s) = hs[s].l :: listsOf (hs.drop (s + 1))) := Lib.hid (by rw [List.drop_eq_getElem_cons kl]; rfl)
              have hxn := HRw.out _ HX1.out
              have HVx := Lib.hid (HNw.out _ HX1.out)
              have HRx := Lib.hid (fun V (g : Below w.heap.size w V) => (HRN.out V g).at kl)
              try simp only [] at HRx
              generalize hs[s] = x at *
              obtain ⟨xa, xn, xc, xs⟩ := x
              simp only [] at hxn HVx HD HRx
              subst hxn
              have HE1 : Hid (ordRest xs (listsOf (hs.drop (s + 1))) s m = ordScan (listsOf hs) 0 1) := Lib.hid (by rw [← HE.out, HD.out, ordScan_cons, if_neg (by omega)]; rfl)
              clear HE HD p1 p2 p3
              rename World => wC
              go_wp2_with fail
              go_loopw [8, 10] (fun vm vj wr => ∃ (j m : Nat), j ≤ xn ∧ vj = .int .i64 j ∧ vm = .int .i64 m ∧ s < m ∧ m ≤ n2 ∧ Hid (Below W.heap.size W wr) ∧ Hid (ordRest (xs.drop j) (listsOf (hs.drop (s + 1))) s m = ordScan (listsOf hs) 0 1)) (fun vm vj _ => xn - (intOf vj).toNat)
              case atStart => exact ⟨0, m, Nat.zero_le _, rfl, rfl, hlt, hm, HB, HE1⟩
              case round =>
                clear HE1 HB HBw p0
                obtain ⟨j, m, hj, rfl, rfl, hlt, hm, HB, HE⟩ := hrel
                have HBw := Lib.hid (below_call bW hbs HB.out)
                obtain ⟨_, p0, p1, p2, p3⟩ := HX.out.on HB.out
                simp only [] at p0 p1 p2 p3
                by_cases hjn : j < xn
                · obtain ⟨b, o, hA2, _, q0, qr, _⟩ := HRx.out wr HBw.out
                  subst hA2
                  have jl : j < xs.length := by have := qr.1; omega
                  obtain ⟨bb, oo, hA3, _, r0⟩ := qr.at jl
                  subst hA3
                  obtain ⟨hy0, hy1⟩ := HVx.out _ (List.getElem_mem jl)
                  have HD : Hid (xs.drop j = xs[j] :: xs.drop (j + 1)) := Lib.hid (List.drop_eq_getElem_cons jl)
                  generalize xs[j] = y at *
                  clear qr
                  by_cases hym : (m : Int) < y
                  · have HR : Hid (x5 = false) := Lib.hid (by
                      rw [HOr.out, ← HE.out, HD.out]; unfold ordRest; rw [ordRow_cons, if_pos hym])
                    clear HE HD
                    go_wp2_with fail
                    go_ret
                    exact ⟨ret_int64 (by rw [HV.out, HR.out]; rfl), below_call bW hbs HB.out⟩
                  · have HE2 : Hid (ordRest (xs.drop (j + 1)) (listsOf (hs.drop (s + 1))) s (max (m : Int) (y + 1)) = ordScan (listsOf hs) 0 1) := Lib.hid (by
                      rw [← HE.out, HD.out]; conv => rhs; unfold ordRest; rw [ordRow_cons, if_neg hym]
                      rfl)
                    clear HE HD
                    by_cases he : y = (m : Int)
                    · subst he
                      rw [show max (m : Int) ((m : Int) + 1) = ((m + 1 : Nat) : Int) by omega] at HE2
                      go_wp2_with fail
                      go_roundw
                      case rel => exact ⟨j + 1, m + 1, by omega, by go_num, by first | rfl | go_num, by omega, by omega, HB, HE2⟩
                      case measure => simp [intOf]; omega
                    · rw [show max (m : Int) (y + 1) = (m : Int) by omega] at HE2
                      have he' : (y == (m : Int)) = false := by simpa using he
                      clear he
                      go_wp2_with fail
                      go_roundw
                      case rel => exact ⟨j + 1, m, by omega, by go_num, by first | rfl | go_num, by omega, by omega, HB, HE2⟩
                      case measure => simp [intOf]; omega
                · have HE2 : Hid (ordScan (listsOf (hs.drop (s + 1))) ((s + 1 : Nat) : Int) m = ordScan (listsOf hs) 0 1) := Lib.hid (by
                    obtain ⟨_, _, _, _, _, qr, _⟩ := HRx.out wr HBw.out
                    have e : xs.drop j = [] := List.drop_eq_nil_of_le (by have := qr.1; omega)
                    rw [← HE.out, e]
                    unfold ordRest ordRow
                    rw [Int.natCast_add]; rfl)
                  clear HE HRx
                  go_wp2_with fail
                  go_roundw
                  case rel => exact ⟨s + 1, m, by omega, by go_num, by first | rfl | go_num, by omega, HB, HE2⟩
                  case measure => simp [intOf]; omega
            · obtain rfl : s = m := by omega
              by_cases hmn : s = n2
              case neg =>
                have hmn' : ((s : Int) != (n2 : Int)) = true := by rw [bne_iff_ne]; omega
                have HR : Hid (x5 = false) := Lib.hid (by
                  have kl : s < hs.length := by omega
                  rw [HOr.out, ← HE.out, List.drop_eq_getElem_cons kl]
                  show ordScan (hs[s].l :: listsOf (hs.drop (s + 1))) s s = false
                  rw [ordScan_cons, if_pos (Int.le_refl _)])
                clear HE
                go_wp2_with fail
                go_ret
                exact ⟨ret_int64 (by rw [HV.out, HR.out]; rfl), below_call bW hbs HB.out⟩
              subst hmn
              rw [show x5 = true by rw [HOr.out, ← HE.out, List.drop_eq_nil_of_le (by omega)]; rfl] at HV
              clear HE HOr
              go_wp2_with fail
              clear p0 p1 p2 p3
              refine (HC6.out (by first | rfl | trivial) (by first | rfl | trivial) _ HBw.out).mono ?_
              rintro e wD ⟨og, B, M, rfl, hQ, hf, g⟩
              replace HB := Lib.hid (below_call HB.out HB.out.size g)
              have HQ := Lib.hid hQ
              have HF := Lib.hid hf
              clear g HC6 HBw hQ hf
              go_wp2_with fail
              go_loopw [12] (fun vi wr => ∃ (a : Nat), a ≤ s ∧ vi = .int .i64 a ∧ wr = wD ∧ Hid (∀ x < a, ∀ y < x, farB t x y = true)) (fun vi _ => s - (intOf vi).toNat)
              case atStart => exact ⟨0, Nat.zero_le _, rfl, rfl, Lib.hid (fun x hx => absurd hx (by omega))⟩
              case round =>
                obtain ⟨a, ha, rfl, rfl, HE⟩ := hrel
                obtain ⟨_, p0, p1, p2, p3⟩ := HX.out.on HB.out
                simp only [] at p0 p1 p2 p3
                by_cases hlt2 : a < s
                · rename World => wE
                  go_wp2_with fail
                  go_loopw [13] (fun vi wr => ∃ (b : Nat), b ≤ a ∧ vi = .int .i64 b ∧ wr = wE ∧ Hid (∀ y < b, farB t a y = true)) (fun vi _ => a - (intOf vi).toNat)
                  case atStart => exact ⟨0, Nat.zero_le _, rfl, rfl, Lib.hid (fun x hx => absurd hx (by omega))⟩
                  case round =>
                    obtain ⟨b, hb, rfl, rfl, HEb⟩ := hrel
                    by_cases hba : b < a
                    · have q0 := HQ.out.cellO (a := a) hlt2 hlt2
                      have q1 := HQ.out.cellI (a := a) (b := b) hlt2 (by omega)
                      rw [HF.out a hlt2 b (by omega)] at q1
                      have HLx := Lib.hid (HLn.out a hlt2 b hba)
                      have HEx : Hid (farB t a b = true → ∀ y < b + 1, farB t a y = true) := Lib.hid (fun h y hy => by
                        rcases Nat.lt_succ_iff_lt_or_eq.1 hy with hy | rfl
                        · exact HEb.out y hy
                        · exact h)
                      generalize farB t a b = fv at *
                      generalize B a = ga at *
                      cases fv
                      case false =>
                        have HR := Lib.hid (HLx.out (by first | rfl | trivial))
                        go_wp2_with fail
                        go_ret
                        exact ⟨ret_int64 (by rw [HV.out, HR.out]; rfl), below_call bW hbs HB.out⟩
                      case true =>
                        have HE2 := Lib.hid (HEx.out (by first | rfl | trivial))
                        clear HEb HEx HLx
                        go_wp2_with fail
                        go_roundw
                        case rel => exact ⟨b + 1, by omega, by go_num, by first | rfl | trivial, HE2⟩
                        case measure => simp [intOf]; omega
                    · have HE2 : Hid (∀ x < a + 1, ∀ y < x, farB t x y = true) := Lib.hid (fun x hx y hy => by
                        rcases Nat.lt_succ_iff_lt_or_eq.1 hx with hx | rfl
                        · exact HE.out x hx y hy
                        · exact HEb.out y (by omega))
                      clear HE HEb
                      go_wp2_with fail
                      go_roundw
                      case rel => exact ⟨a + 1, by omega, by go_num, by first | rfl | trivial, HE2⟩
                      case measure => simp [intOf]; omega
                · rw [show x6 = true from HLy.out (fun x hx y hy => HE.out x (by omega) y hy)] at HV
                  clear HE HLn HLy HQ HF
                  go_wp2_with fail
                  clear p0 p1 p2 p3
                  go_loopw [14] (fun vi wr => ∃ (a : Nat), a ≤ K ∧ vi = .int .i64 a ∧ Hid (Below W.heap.size W wr) ∧ Hid (∀ x < a, ∀ y < x, ceq y x = false)) (fun vi _ => K - (intOf vi).toNat)
                  case atStart => exact ⟨0, Nat.zero_le _, rfl, HB, Lib.hid (fun x hx => absurd hx (by omega))⟩
                  case round =>
                    clear HB
                    obtain ⟨a, ha, rfl, HB, HE⟩ := hrel
                    obtain ⟨_, p0, p1, p2, p3⟩ := HX.out.on HB.out
                    simp only [] at p0 p1 p2 p3
                    by_cases haK : a < K
                    · rename World => wF
                      go_wp2_with fail
                      go_loopw [15] (fun vi wr => ∃ (b : Nat), b ≤ a ∧ vi = .int .i64 b ∧ Hid (Below W.heap.size W wr) ∧ Hid (∀ y < b, ceq y a = false)) (fun vi _ => a - (intOf vi).toNat)
                      case atStart => exact ⟨0, Nat.zero_le _, rfl, HB, Lib.hid (fun x hx => absurd hx (by omega))⟩
                      case round =>
                        clear HB p0 p1 p2 p3
                        obtain ⟨b, hb, rfl, HB, HEb⟩ := hrel
                        by_cases hba : b < a
                        · rename World => wG
                          go_wp2_with fail
                          go_loopw [16, 17] (fun vs vi wr => ∃ (z : Nat) (sm : Bool), z ≤ s ∧ vi = .int .i64 z ∧ vs = .bool sm ∧ Hid (sm = (List.range z).all fun i => nI i a == nI i b) ∧ Hid (Below W.heap.size W wr)) (fun _ vi _ => s - (intOf vi).toNat)
                          case atStart => exact ⟨0, true, Nat.zero_le _, rfl, rfl, Lib.hid rfl, HB⟩
                          case round =>
                            clear HB
                            obtain ⟨z, sm, hz, rfl, rfl, HSm, HB⟩ := hrel
                            have HBw := Lib.hid (below_call bW hbs HB.out)
                            obtain ⟨_, p0, p1, p2, p3⟩ := HX.out.on HB.out
                            simp only [] at p0 p1 p2 p3
                            by_cases hzs : z < s
                            · have kl : z < hs.length := by omega
                              obtain ⟨bk, o, hA2, _, q0, qr, _⟩ := (HRN.out wr HBw.out).at kl
                              try simp only [] at hA2 q0 qr
                              subst hA2
                              have hxn := HRw.out _ (List.getElem_mem kl)
                              have HIa := Lib.hid (HNI.out z kl a)
                              have HIb := Lib.hid (HNI.out z kl b)
                              try simp only [] at HIa HIb
                              generalize hs[z] = x at *
                              obtain ⟨xa, xn, xc, xs⟩ := x
                              simp only [] at hxn q0 qr HIa HIb
                              subst hxn
                              have la : a < xs.length := by have := qr.1; omega
                              have lb : b < xs.length := by have := qr.1; omega
                              rw [getD_ix la] at HIa
                              rw [getD_ix lb] at HIb
                              obtain ⟨bb, oo, hA3, _, r0⟩ := qr.at la
                              obtain ⟨bb', oo', hA4, _, r1⟩ := qr.at lb
                              rw [hA3] at hA4
                              injection hA4 with hA4
                              injection hA4 with e1 e2
                              subst e1; subst e2; subst hA3
                              have HSn : Hid (((List.range (z + 1)).all fun i => nI i a == nI i b) = (((List.range z).all fun i => nI i a == nI i b) && (nI z a == nI z b))) := Lib.hid (by rw [List.range_succ, List.all_append]; simp)
                              rw [HIa.out, HIb.out, ← HSm.out] at HSn
                              generalize xs[a] = ya at *
                              generalize xs[b] = yb at *
                              clear qr HIa HIb HSm
                              cases sm
                              case false =>
                                have HS2 : Hid (false = ((List.range (z + 1)).all fun i => nI i a == nI i b)) := Lib.hid (by rw [HSn.out]; rfl)
                                clear HSn
                                go_wp2_with fail
                                go_quiet (fail)
                                go_wp2_with fail
                                go_roundw
                                case rel => exact ⟨z + 1, _, by omega, by go_num, rfl, HS2, Lib.hid (below_drewN HB.out _)⟩
                                case measure => simp [intOf]; omega
                              case true =>
                                generalize hyy : (ya == yb) = yy at *
                                have HS2 : Hid (yy = ((List.range (z + 1)).all fun i => nI i a == nI i b)) := Lib.hid (by rw [HSn.out]; rfl)
                                clear HSn
                                cases yy
                                all_goals
                                  go_wp2_with fail
                                  go_quiet (fail)
                                  go_wp2_with fail
                                  go_roundw
                                  case rel => exact ⟨z + 1, _, by omega, by go_num, rfl, HS2, Lib.hid (below_drewN HB.out _)⟩
                                  case measure => simp [intOf]; omega
                            · obtain rfl : z = s := by omega
                              have HQe : Hid (ceq b a = sm) := Lib.hid (by rw [HKe.out, HSm.out])
                              cases sm
                              case true =>
                                have HR := Lib.hid (HKn.out a haK b hba HQe.out)
                                go_wp2_with fail
                                go_ret
                                exact ⟨ret_int64 (by rw [HV.out, HR.out]; rfl), below_call bW hbs HB.out⟩
                              case false =>
                                have HE2 : Hid (∀ y < b + 1, ceq y a = false) := Lib.hid (fun y hy => by
                                  rcases Nat.lt_succ_iff_lt_or_eq.1 hy with hy | rfl
                                  · exact HEb.out y hy
                                  · exact HQe.out)
                                clear HEb HSm HQe
                                go_wp2_with fail
                                go_roundw
                                case rel => exact ⟨b + 1, by omega, by go_num, HB, HE2⟩
                                case measure => simp [intOf]; omega
                        · have HE2 : Hid (∀ x < a + 1, ∀ y < x, ceq y x = false) := Lib.hid (fun x hx y hy => by
                            rcases Nat.lt_succ_iff_lt_or_eq.1 hx with hx | rfl
                            · exact HE.out x hx y hy
                            · exact HEb.out y (by omega))
                          clear HE HEb
                          go_wp2_with fail
                          go_roundw
                          case rel => exact ⟨a + 1, by omega, by go_num, HB, HE2⟩
                          case measure => simp [intOf]; omega
                    · rw [show x7 = true from HKy.out (fun x hx y hy => HE.out x (by omega) y hy)] at HV
                      go_wp2_with fail
                      go_ret
                      exact ⟨ret_int64 (by rw [HV.out]; rfl), below_call bW hbs HB.out⟩
end Go.Proofs.YtnilejdokgagbaaDoor

