/- ValidClasses: a table that may be whose classes are numbered otherwise may not be, unless it is the same; with a class cut in two of one column it may not be.
   Conditions: none but the row's own (the mark's variable starts as the program's text lays it). -/
import Derived.Test.YtmhfgncffkfelaaDoorClassesV
import Derived.Test.YtmhfgncffkfelaaDoorKR3
import Derived.BigRegion
import Derived.BigQuiet
import Derived.Deep.RegionHeld3
import Derived.Deep.CutRange
namespace Go.Proofs.YtmhfgncffkfelaaDoor.validClasses
open Go.ChangeShapes Go.WideShapes Go.ChangeAt Go.RowKit Go.Deep Go.BigFrame
set_option linter.unusedVariables false
set_option maxRecDepth 4000
set_option linter.unusedSimpArgs false

set_option maxHeartbeats 64000000 in
theorem walk (T : TV) (x y : Nat) (hx : x < 256) (hy : y < 256) (W : World) (hT : T.ok W) (hM : Mark W) :
    Calls Tryd.prog 5 #[T.v, .agg #[.int .u8 (x : Int), .int .u8 (y : Int)]] W fun e W' => e = .returned (.bool true) ∧ Below W.heap.size W W' := by
  obtain ⟨i0, hi0, hz0, hz1, hz2⟩ := info_parts info3
  obtain ⟨j0, hj0, hy0, hy1, hy2⟩ := info_parts info52
  have HRT := Lib.hid (fun V (g : Below W.heap.size W V) => refTable_any T V (hT.on g))
  have HOw : Hid (errV T.tb = 0 → ∀ V, Below W.heap.size W V → Calls Tryd.prog 14 #[T.v] V (OutTw T.tb V)) := Lib.hid (fun h V g => ownTableA_any T V (hT.on g) (vd_small h))
  have HL2 : Hid (T.tb.nx.length = T.n2 ∧ T.tb.br.length = T.n3 ∧ T.tb.cl = T.cl ∧ T.tb.bd.length = T.n1 ∧ T.tb.bd = T.bd) := Lib.hid ⟨by unfold TV.tb; simp only [listsOf_len]; exact hT.r2.1, hT.r3.1, rfl, hT.r1.1, rfl⟩
  have HRd : Hid (∀ V, Below W.heap.size W V → RD V V.heap.size T.a1 T.n1 T.bd) := Lib.hid (fun V g => (hT.on g).r1)
  have HM0 := Lib.hid hM
  have HX := Lib.hid ((box_new W T).on (below_new _ (.cells #[.int .u8 (x : Int), .int .u8 (y : Int)] 48)))
  clear hT hM
  have bb : Below W.heap.size W ((W.alloc (.cells #[.int .i64 T.cl, .slice T.a1 T.n1 T.c1, .slice T.a2 T.n2 T.c2, .slice T.a3 T.n3 T.c3] 26)).alloc (.cells #[.int .u8 (x : Int), .int .u8 (y : Int)] 48)) := below_call (below_new _ _) (below_new _ _).size (below_new _ _)
  have y0 : ((W.alloc (.cells #[.int .i64 T.cl, .slice T.a1 T.n1 T.c1, .slice T.a2 T.n2 T.c2, .slice T.a3 T.n3 T.c3] 26)).alloc (.cells #[.int .u8 (x : Int), .int .u8 (y : Int)] 48)).cell? ⟨W.heap.size + 1, 0, none⟩ = some (.int .u8 (x : Int)) := by simp
  have y1 : ((W.alloc (.cells #[.int .i64 T.cl, .slice T.a1 T.n1 T.c1, .slice T.a2 T.n2 T.c2, .slice T.a3 T.n3 T.c3] 26)).alloc (.cells #[.int .u8 (x : Int), .int .u8 (y : Int)] 48)).cell? ⟨W.heap.size + 1, 1, none⟩ = some (.int .u8 (y : Int)) := by simp
  generalize T.tb = tb at *
  simp only [TV.v] at *
  obtain ⟨_, p0, p1, p2, p3⟩ := HX.out
  go_enter Tryd.func5, Tryd.ntmps5
  go_wp2_with fail
  generalize (W.alloc (.cells #[.int .i64 T.cl, .slice T.a1 T.n1 T.c1, .slice T.a2 T.n2 T.c2, .slice T.a3 T.n3 T.c3] 26)).alloc (.cells #[.int .u8 (x : Int), .int .u8 (y : Int)] 48) = V0 at *
  refine (HRT.out _ bb).mono ?_
  rintro e w1 ⟨rfl, g⟩
  replace bb := bb.trans (g.mono bb.size)
  replace HX := Lib.hid (HX.out.on g)
  replace y0 := kept_cell g y0
  replace y1 := kept_cell g y1
  clear g
  clear p0 p1 p2 p3
  obtain ⟨_, p0, p1, p2, p3⟩ := HX.out
  by_cases he : errV tb = 0
  case neg =>
    have hn : (errV tb != 0) = true := by rw [bne_iff_ne]; exact he
    generalize errV tb = ev at *
    go_wp2_with fail
    refine (wakesV_any _ (HM0.out.on bb)).mono ?_
    rintro e w9 ⟨rfl, g9⟩
    have bf := bb.trans (g9.mono bb.size)
    clear g9
    go_wp2_with fail
    go_ret
    exact ⟨rfl, bf⟩
  have HVd := Lib.hid (errV_ok.1 he)
  replace HOw := Lib.hid (HOw.out he)
  rw [he]
  clear he HRT
  obtain ⟨K, hK⟩ : ∃ K : Nat, T.cl = (K : Int) := ⟨T.cl.toNat, by have h1 := (cntV_iff _).1 HVd.out.cnt; have h2 := h1.c1; have h4 := HL2.out.2.2.1; omega⟩
  have hc8 : K ≤ 8 := by have h1 := (cntV_iff _).1 HVd.out.cnt; have h3 := h1.c2; have h4 := HL2.out.2.2.1; omega
  have HKc := Lib.hid hK
  rw [hK] at p0
  by_cases hK2 : K < 2
  · have hk2I : (K : Int) < 2 := by omega
    clear hK
    go_wp2_with fail
    refine (wakesV_any _ (HM0.out.on bb)).mono ?_
    rintro e w9 ⟨rfl, g9⟩
    have bf := bb.trans (g9.mono bb.size)
    clear g9
    go_wp2_with fail
    go_ret
    exact ⟨rfl, bf⟩
  have hk2I : ¬ (K : Int) < 2 := by omega
  clear hK
  obtain ⟨a, hka, hka1⟩ : ∃ k : Nat, k = x % K ∧ k < K := ⟨_, rfl, Nat.mod_lt _ (by omega)⟩
  obtain ⟨b, hkb, hkb1⟩ : ∃ k : Nat, k = y % K ∧ k < K := ⟨_, rfl, Nat.mod_lt _ (by omega)⟩
  have i1 : (x : Int) % (K : Int) = (a : Int) := by rw [hka]; exact (Int.natCast_emod x K).symm
  have i2 : Int.tmod (x : Int) (K : Int) = (a : Int) := by rw [Int.tmod_eq_emod_of_nonneg (by omega)]; exact i1
  have i3 : (y : Int) % (K : Int) = (b : Int) := by rw [hkb]; exact (Int.natCast_emod y K).symm
  have i4 : Int.tmod (y : Int) (K : Int) = (b : Int) := by rw [Int.tmod_eq_emod_of_nonneg (by omega)]; exact i3
  have w1' : IntKind.i64.wrap (a : Int) = (a : Int) := by rw [IntKind.wrap_i64]; omega
  have w2' : IntKind.i64.wrap (b : Int) = (b : Int) := by rw [IntKind.wrap_i64]; omega
  have w4' : IntKind.i64.wrap (x : Int) = (x : Int) := by rw [IntKind.wrap_i64]; omega
  have w5' : IntKind.i64.wrap (y : Int) = (y : Int) := by rw [IntKind.wrap_i64]; omega
  have hn00 : ((K : Int) == 0) = false := by rw [beq_eq_false_iff_ne]; omega
  clear hka hkb
  go_wp2_with fail
  go_quiet (fail)
  have gd := below_drewN (Below.refl w1.heap.size w1) nq
  replace bb := bb.trans (gd.mono bb.size)
  replace HX := Lib.hid (HX.out.on gd)
  clear gd y0 y1 i1 i2 i3 i4 w1' w2' w4' w5' hx hy
  clear p0 p1 p2 p3
  generalize w1.drewN nq = w2 at *
  obtain ⟨_, p0, p1, p2, p3⟩ := HX.out
  go_wp2_with fail
  refine (HOw.out _ bb).mono ?_
  rintro e w3 ⟨U, rfl, htb, hokU, g, hown⟩
  have hst := StU.make bb HX.out g hown
  have hb1 : ∀ g, U.a1 = some ⟨g, 0, none⟩ → g < w3.heap.size := fun g1 hA => by
    have f3 : U.tb.bd.length = U.bd.length := rfl
    have f9 := ((cntV_iff _).1 HVd.out.cnt).k1
    have f8 := hokU.r1.1
    rw [htb] at f3
    obtain ⟨g', hA', _, hlt, _⟩ := hown.z1.open_ (by omega)
    rw [hA] at hA'
    injection hA' with e
    injection e with e
    omega
  have HUt := Lib.hid htb
  have hUl := hown.z2.len
  have hUr := fun h hh => (hown.z2.inn h hh).1
  have hU1 := hokU.r1.1
  clear g hown hokU p0 p1 p2 p3 bb HX htb
  simp only [TV.v]
  go_wp2_with fail
  generalize w3.alloc (.cells #[.int .i64 U.cl, .slice U.a1 U.n1 U.c1, .slice U.a2 U.n2 U.c2, .slice U.a3 U.n3 U.c3] 26) = w4 at *
  generalize w3.heap.size = gu at *
  generalize w2.heap.size = bs at *
  have HS := Lib.hid hst
  have HUn : Hid (U.n2 = T.n2 ∧ U.hs.length = T.n2 ∧ U.cl = (K : Int) ∧ U.bd = tb.bd ∧ U.n1 = T.n1 ∧ tb.bd.length = T.n1 ∧ listsOf U.hs = tb.nx ∧ U.br = tb.br) := Lib.hid (by
    have e1 : U.tb.nx.length = U.hs.length := by unfold TV.tb; simp only [listsOf_len]
    have e3 : U.tb.cl = U.cl := rfl
    have e4 : U.tb.bd = U.bd := rfl
    have e5 : U.tb.nx = listsOf U.hs := rfl
    have e6 : U.tb.br = U.br := rfl
    rw [HUt.out] at e1 e3 e4 e5 e6
    have h4 := HL2.out
    have h5 := HKc.out
    have h6 : U.bd.length = tb.bd.length := by rw [e4]
    exact ⟨by omega, by omega, by omega, e4.symm, by omega, h4.2.2.2.1, e5.symm, e6.symm⟩)
  have HRl : Hid (∀ r ∈ tb.nx, r.length = K) := Lib.hid (fun r hr => by
    have h1 := ((cntV_iff _).1 HVd.out.cnt).rw r hr
    have h2 := HL2.out.2.2.1
    have h3 := HKc.out
    omega)
  have Hb1 := Lib.hid hb1
  have HUr := Lib.hid hUr
  have hn5 : T.n2 ≤ 5 := by have h1 := ((cntV_iff _).1 HVd.out.cnt).n2; have h2 := HL2.out.1; omega
  have hn60 : T.n1 ≤ 60 := by have h1 := ((cntV_iff _).1 HVd.out.cnt).k2; have h2 := HL2.out.2.2.2.1; omega
  have hn1p : 1 ≤ T.n1 := by have h1 := ((cntV_iff _).1 HVd.out.cnt).k1; have h2 := HL2.out.2.2.2.1; omega
  clear hst hUl hUr hb1 hU1
  obtain ⟨fB, hfB⟩ : ∃ f : Rg → Rg, f = fun p => (p.1, renI a b p.2) := ⟨_, rfl⟩
  have HfB := Lib.hid hfB
  clear hfB
  have HS0 : Hid (StU W T bs gu w4 { U with bd := mapK fB tb.bd 0 }) := Lib.hid (by
    have e : ({ U with bd := mapK fB tb.bd 0 } : TV) = U := by rw [mapK_zero, ← HUn.out.2.2.2.1]
    rw [e]; exact HS.out)
  have hU1 : U.n1 = T.n1 := HUn.out.2.2.2.2.1
  have HU1 := Lib.hid hU1
  have HBl : Hid (tb.bd.length = T.n1) := Lib.hid HUn.out.2.2.2.2.2.1
  clear HS hU1
  go_wp2_with fail
  go_loopw [8] (fun vi wx => ∃ k : Nat, vi = .int .i64 k ∧ k ≤ T.n1 ∧ Hid (StU W T bs gu wx { U with bd := mapK fB tb.bd k })) (fun vi _ => T.n1 - (intOf vi).toNat)
  case atStart => exact ⟨0, rfl, Nat.zero_le _, HS0⟩
  case round =>
    clear HS0
    obtain ⟨k, rfl, hk, HS⟩ := hrel
    obtain ⟨_, u0, u1, u2, u3⟩ := HS.out.ux
    simp only [] at u0 u1 u2 u3
    rw [HU1.out] at u1
    by_cases hlt : k < T.n1
    · have hlI : (k : Int) < (T.n1 : Int) := by omega
      have kl : k < tb.bd.length := by rw [HBl.out]; exact hlt
      have kl2 : k < (mapK fB tb.bd k).length := by rw [mapK_len]; exact kl
      obtain ⟨g, hA, hf, hc, hs2⟩ := HS.out.bnd Hb1.out (k := k) kl2
      simp only [] at hA
      rw [hA] at u1
      simp only [mapK_at fB tb.bd kl kl2] at hc hs2
      have HSet := Lib.hid (fun x (h : x = fB tb.bd[k]) => mapK_set fB tb.bd kl h)
      have HSame := Lib.hid (fun (h : fB tb.bd[k] = tb.bd[k]) => mapK_same fB tb.bd kl h)
      have HS2 := Lib.hid hs2
      clear hs2 kl2
      have HF : Hid (fB tb.bd[k] = (tb.bd[k].1, renI a b tb.bd[k].2)) := Lib.hid (by rw [HfB.out])
      generalize tb.bd[k] = p at *
      obtain ⟨q1, q2⟩ := p
      simp only [] at hc HF
      by_cases h1 : q2 = (a : Int)
      · subst h1
        have e1 : ((a : Int) == (a : Int)) = true := by simp
        have HSn : Hid (StU W T bs gu (wr.setCell ⟨g, k * 2 + 1, none⟩ (.int .i64 (b : Int))) { U with bd := mapK fB tb.bd (k + 1) }) := Lib.hid (by
          have h := HS2.out (b : Int)
          simp only [HSet.out _ (show ((q1, (b : Int)) : Rg) = fB (q1, (a : Int)) by rw [HF.out, renI_a])] at h
          exact h)
        clear HSet HSame HS2 HF HS
        go_wp2_with fail
        go_roundw
        case rel => exact ⟨k + 1, by go_num, by omega, HSn⟩
        case measure => simp [intOf]; omega
      · have e1 : (q2 == (a : Int)) = false := by rw [beq_eq_false_iff_ne]; exact h1
        by_cases h2 : q2 = (b : Int)
        · subst h2
          have e2 : ((b : Int) == (b : Int)) = true := by simp
          have HSn : Hid (StU W T bs gu (wr.setCell ⟨g, k * 2 + 1, none⟩ (.int .i64 (a : Int))) { U with bd := mapK fB tb.bd (k + 1) }) := Lib.hid (by
            have h := HS2.out (a : Int)
            simp only [HSet.out _ (show ((q1, (a : Int)) : Rg) = fB (q1, (b : Int)) by rw [HF.out, renI_b])] at h
            exact h)
          clear HSet HSame HS2 HF HS h1
          go_wp2_with fail
          go_roundw
          case rel => exact ⟨k + 1, by go_num, by omega, HSn⟩
          case measure => simp [intOf]; omega
        · have e2 : (q2 == (b : Int)) = false := by rw [beq_eq_false_iff_ne]; exact h2
          have HSn : Hid (StU W T bs gu wr { U with bd := mapK fB tb.bd (k + 1) }) := Lib.hid (by
            rw [← HSame.out (by rw [HF.out, renI_o h1 h2])]
            exact HS.out)
          clear HSet HSame HS2 HF HS h1 h2
          go_wp2_with fail
          go_roundw
          case rel => exact ⟨k + 1, by go_num, by omega, HSn⟩
          case measure => simp [intOf]; omega
    · obtain rfl : k = T.n1 := by omega
      have HMa : Hid (mapK fB tb.bd T.n1 = tb.bd.map fB) := Lib.hid (mapK_all _ _ (by rw [HBl.out]; exact Nat.le_refl _))
      rw [HMa.out] at HS
      clear HMa
      obtain ⟨U1, hU1⟩ : ∃ U1 : TV, { U with bd := tb.bd.map fB } = U1 := ⟨_, rfl⟩
      have HUf : Hid (U1.cl = (K : Int) ∧ U1.n2 = T.n2 ∧ U1.hs = U.hs ∧ U1.bd = tb.bd.map fB ∧ U1.br = tb.br ∧ U1.n1 = T.n1) := Lib.hid (by
        have h := HUn.out
        subst hU1
        exact ⟨h.2.2.1, h.1, rfl, rfl, h.2.2.2.2.2.2.2, h.2.2.2.2.1⟩)
      rw [hU1] at HS
      have HLs : Hid (listsOf U1.hs = mapK (prmR a b K) tb.nx 0) := Lib.hid (by rw [mapK_zero, HUf.out.2.2.1]; exact HUn.out.2.2.2.2.2.2.1)
      have HS0 : Hid (StU W T bs gu wr { U1 with hs := U1.hs }) := HS
      have hU2 : U1.n2 = T.n2 := HUf.out.2.1
      have HU2 := Lib.hid hU2
      have HNl : Hid (tb.nx.length = T.n2) := Lib.hid HL2.out.1
      have HSw : Hid (∀ Hs : List Hi, listsOf Hs = tb.nx.map (prmR a b K) → ({ U1 with hs := Hs } : TV).tb = swapC tb a b) := Lib.hid (fun Hs h => by
        have hk : tb.cl.toNat = K := by have h1 := HL2.out.2.2.1; have h2 := HKc.out; omega
        have e1 : ({ U1 with hs := Hs } : TV).tb = { cl := U1.cl, bd := U1.bd, nx := listsOf Hs, br := U1.br } := rfl
        have h2 := HL2.out.2.2.1
        have h3 := HKc.out
        rw [e1, h, HUf.out.1, HUf.out.2.2.2.1, HUf.out.2.2.2.2.1, HfB.out]
        unfold swapC
        rw [hk, ← h3, ← h2]
        rfl)
      have HUo : Hid (U1.n1 = T.n1) := Lib.hid HUf.out.2.2.2.2.2
      clear HS hU1 hU2 HUf HU1 HBl u0 u2 u3
      go_wp2_with fail
      clear u1
      rename World => wA
      go_loopw [9] (fun vs wx => ∃ (s : Nat) (Hs : List Hi), vs = .int .i64 s ∧ s ≤ T.n2 ∧ Hid (listsOf Hs = mapK (prmR a b K) tb.nx s) ∧ Hid (StU W T bs gu wx { U1 with hs := Hs })) (fun vs _ => T.n2 - (intOf vs).toNat)
      case atStart => exact ⟨0, _, rfl, Nat.zero_le _, HLs, HS0⟩
      case round =>
        clear HLs HS0
        obtain ⟨s, Hs, rfl, hs, HLs, HS⟩ := hrel
        obtain ⟨_, u0, u1, u2, u3⟩ := HS.out.ux
        try simp only [] at u0 u1 u2 u3
        rw [HU2.out] at u2
        by_cases hlt : s < T.n2
        · have hsI : (s : Int) < (T.n2 : Int) := by omega
          have hsN : s < tb.nx.length := by rw [HNl.out]; exact hlt
          have hsH : s < Hs.length := by rw [← listsOf_len, HLs.out, mapK_len]; exact hsN
          have hrow : Hs[s].l = tb.nx[s] := by
            have h1 := listsOf_at Hs s hsH (by rw [listsOf_len]; exact hsH)
            have h2 : (listsOf Hs)[s]'(by rw [listsOf_len]; exact hsH) = tb.nx[s] := by
              rw [List.getElem_of_eq HLs.out]
              exact mapK_at _ _ hsN _
            rw [← h1, h2]
          have hlK : tb.nx[s].length = K := HRl.out _ (List.getElem_mem hsN)
          have hnK : Hs[s].n = K := by
            have h := (HS.out.ow.z2.inn _ (List.getElem_mem hsH)).1
            rw [hrow, hlK] at h
            exact h.symm
          obtain ⟨g2, g, hA2, hh, fa, fb, ca, cb, hh2, hbx2, hex, hst⟩ := HS.out.ent2 (s := s) (a := a) (b := b) hsH (by rw [hnK]; exact hka1) (by rw [hnK]; exact hkb1) (by rw [hrow, hlK]; exact hka1) (by rw [hrow, hlK]; exact hkb1)
          simp only [] at hA2
          have hA2' : U1.a2 = some ⟨g2, 0, none⟩ := hA2
          obtain ⟨hgu, hg2⟩ := HS.out.apart hsH hA2 (HS.out.rowA hsH hA2 hh) (by rw [hnK]; omega)
          rw [hA2'] at u2
          have hal : a < tb.nx[s].length := by rw [hlK]; exact hka1
          have hbl : b < tb.nx[s].length := by rw [hlK]; exact hkb1
          have ea : Hs[s].l[a]'(by rw [hrow]; exact hal) = tb.nx[s][a] := by simp only [hrow]
          have eb : Hs[s].l[b]'(by rw [hrow]; exact hbl) = tb.nx[s][b] := by simp only [hrow]
          rw [ea] at ca
          rw [eb] at cb
          rw [hnK] at hh hh2
          obtain ⟨yb, hyb⟩ := hex tb.nx[s][b]
          obtain ⟨_, v0, v1, v2, v3⟩ := hbx2 tb.nx[s][b]
          have hh3 := hh2 tb.nx[s][b]
          try simp only [] at v2
          rw [HU2.out, hA2'] at v2
          have hset := hst tb.nx[s][b] tb.nx[s][a]
          have hlist : listsOf (Hs.set s ((Hs[s].put a tb.nx[s][b]).put b tb.nx[s][a])) = mapK (prmR a b K) tb.nx (s + 1) := by
            rw [listsOf_set, HLs.out]
            refine mapK_set _ _ hsN ?_
            show ((Hs[s].l.set a tb.nx[s][b]).set b tb.nx[s][a]) = _
            rw [hrow]
            exact prmR_set hlK hal hbl
          have HLn := Lib.hid hlist
          have HSn := Lib.hid hset
          clear hlist hset hst hex hbx2 hh2 ea eb
          generalize Hs.set s ((Hs[s].put a tb.nx[s][b]).put b tb.nx[s][a]) = Hs2 at *
          generalize tb.nx[s][a] = va at *
          generalize tb.nx[s][b] = vb at *
          generalize Hs[s].c = rc at *
          clear hal hbl hnK hlK hA2 hA2' hrow HLs HS
          clear u0 u1 u3 v0 v1 v3
          have haI : (a : Int) < (K : Int) := by omega
          have hbI : (b : Int) < (K : Int) := by omega
          have hS0 : Sx gu g2 s (.slice (some ⟨g2, 0, none⟩) T.n2 U1.c2) (.slice (some ⟨g, 0, none⟩) K rc) wr := ⟨u2, hh⟩
          have hS1 := sx_dr hS0
          have hS2 := sx_st (i := a) (y := .int .i64 vb) hgu hg2 hS0
          go_wp2_with fail
          refine wp_region_held_drew (S := fun V => V.cell? ⟨gu, 2, none⟩ = some (.slice (some ⟨g2, 0, none⟩) T.n2 U1.c2) ∧ V.cell? ⟨g2, s, none⟩ = some (.slice (some ⟨g, 0, none⟩) K rc)) (by kernel_rfl) ?_ (fun hHeld => ?_)
          · exact hS1
          refine wpAnyH_take (i := 0) (oi := _) (v := ?_) rfl (by kernel_rfl) (by kernel_rfl) (by kernel_rfl) (fun _ _ _ h => h) (Or.inl ⟨by rfl, ?hy0x0⟩) (by assumption) ?hr0x0
          case hy0x0 =>
            intro w hSw
            (try dsimp only at hSw)
            go_simp
            (try with_reducible rfl)
          (try simp only [Act.put, List.setIfInBounds_toArray, List.set_cons_zero, List.set_cons_succ])
          refine wpAnyH_take (i := 1) (oi := _) (v := ?_) rfl (by kernel_rfl) (by kernel_rfl) (by kernel_rfl) (fun _ _ _ h => h) (Or.inl ⟨by rfl, ?hy1x1⟩) (by assumption) ?hr1x1
          case hy1x1 =>
            intro w hSw
            (try dsimp only at hSw)
            go_simp
            (try with_reducible rfl)
          (try simp only [Act.put, List.setIfInBounds_toArray, List.set_cons_zero, List.set_cons_succ])
          refine wpAnyH_take (i := 2) (oi := _) (v := ?_) rfl (by kernel_rfl) (by kernel_rfl) (by kernel_rfl) (fun _ _ _ h => h) (Or.inl ⟨by rfl, ?hy2x2⟩) (by assumption) ?hr2x2
          case hy2x2 =>
            intro w hSw
            (try dsimp only at hSw)
            go_simp
            (try with_reducible rfl)
          (try simp only [Act.put, List.setIfInBounds_toArray, List.set_cons_zero, List.set_cons_succ])
          refine wpAnyH_take (i := 3) (oi := _) (v := ?_) rfl (by kernel_rfl) (by kernel_rfl) (by kernel_rfl) (fun _ _ _ h => h) (Or.inl ⟨by rfl, ?hy3x3⟩) (by assumption) ?hr3x3
          case hy3x3 =>
            intro w hSw
            (try dsimp only at hSw)
            go_simp
            (try with_reducible rfl)
          (try simp only [Act.put, List.setIfInBounds_toArray, List.set_cons_zero, List.set_cons_succ])
          refine wpAnyH_take (i := 4) (oi := _) (v := ?_) rfl (by kernel_rfl) (by kernel_rfl) (by kernel_rfl) (fun _ _ _ h => h) (Or.inl ⟨by rfl, ?hy4x4⟩) (by assumption) ?hr4x4
          case hy4x4 =>
            intro w hSw
            (try dsimp only at hSw)
            go_simp
            (try with_reducible rfl)
          (try simp only [Act.put, List.setIfInBounds_toArray, List.set_cons_zero, List.set_cons_succ])
          refine wpAnyH_take (i := 5) (oi := _) (v := ?_) rfl (by kernel_rfl) (by kernel_rfl) (by kernel_rfl) (fun _ _ _ h => h) (Or.inl ⟨by rfl, ?hy5x5⟩) (by assumption) ?hr5x5
          case hy5x5 =>
            intro w hSw
            (try dsimp only at hSw)
            go_simp
            (try with_reducible rfl)
          (try simp only [Act.put, List.setIfInBounds_toArray, List.set_cons_zero, List.set_cons_succ])
          refine wpAnyH_take (i := 6) (oi := _) (v := ?_) rfl (by kernel_rfl) (by kernel_rfl) (by kernel_rfl) (fun _ _ _ h => h) (Or.inl ⟨by rfl, ?hy6x6⟩) (by assumption) ?hr6x6
          case hy6x6 =>
            intro w hSw
            (try dsimp only at hSw)
            go_simp
            (try with_reducible rfl)
          (try simp only [Act.put, List.setIfInBounds_toArray, List.set_cons_zero, List.set_cons_succ])
          refine wpAnyH_take (i := 7) (oi := _) (v := ?_) rfl (by kernel_rfl) (by kernel_rfl) (by kernel_rfl) (fun _ _ _ h => h) (Or.inl ⟨by rfl, ?hy7x7⟩) (by assumption) ?hr7x7
          case hy7x7 =>
            intro w hSw
            (try dsimp only at hSw)
            go_simp
            (try with_reducible rfl)
          (try simp only [Act.put, List.setIfInBounds_toArray, List.set_cons_zero, List.set_cons_succ])
          refine wpAnyH_take (i := 8) (oi := _) (v := ?_) rfl (by kernel_rfl) (by kernel_rfl) (by kernel_rfl) (fun _ _ _ h => h) (Or.inl ⟨by rfl, ?hy8x8⟩) (by assumption) ?hr8x8
          case hy8x8 =>
            intro w hSw
            (try dsimp only at hSw)
            go_simp
            (try with_reducible rfl)
          (try simp only [Act.put, List.setIfInBounds_toArray, List.set_cons_zero, List.set_cons_succ])
          refine wpAnyH_take (i := 9) (oi := _) (v := ?_) rfl (by kernel_rfl) (by kernel_rfl) (by kernel_rfl) (fun _ _ _ h => h) (Or.inl ⟨by rfl, ?hy9x9⟩) (by assumption) ?hr9x9
          case hy9x9 =>
            intro w hSw
            (try dsimp only at hSw)
            go_simp
            (try with_reducible rfl)
          (try simp only [Act.put, List.setIfInBounds_toArray, List.set_cons_zero, List.set_cons_succ])
          refine wpAnyH_take (i := 10) (oi := _) (v := ?_) rfl (by kernel_rfl) (by kernel_rfl) (by kernel_rfl) (fun _ _ _ h => h) (Or.inl ⟨by rfl, ?hy10x10⟩) (by assumption) ?hr10x10
          case hy10x10 =>
            intro w hSw
            (try dsimp only at hSw)
            go_simp
            (try with_reducible rfl)
          (try simp only [Act.put, List.setIfInBounds_toArray, List.set_cons_zero, List.set_cons_succ])
          refine wpAnyH_take (i := 11) (oi := _) (v := ?_) rfl (by kernel_rfl) (by kernel_rfl) (by kernel_rfl) (fun _ _ _ h => h) (Or.inl ⟨by rfl, ?hy11x11⟩) (by assumption) ?hr11x11
          case hy11x11 =>
            intro w hSw
            (try dsimp only at hSw)
            go_simp
            (try with_reducible rfl)
          (try simp only [Act.put, List.setIfInBounds_toArray, List.set_cons_zero, List.set_cons_succ])
          refine wpAnyH_take (i := 12) (oi := _) (v := ?_) rfl (by kernel_rfl) (by kernel_rfl) (by kernel_rfl) (fun _ _ _ h => h) (Or.inl ⟨by rfl, ?hy12x12⟩) (by assumption) ?hr12x12
          case hy12x12 =>
            intro w hSw
            (try dsimp only at hSw)
            go_simp
            (try with_reducible rfl)
          (try simp only [Act.put, List.setIfInBounds_toArray, List.set_cons_zero, List.set_cons_succ])
          refine wpAnyH_take (i := 13) (oi := _) (v := ?_) rfl (by kernel_rfl) (by kernel_rfl) (by kernel_rfl) (fun _ _ _ h => h) (Or.inl ⟨by rfl, ?hy13x13⟩) (by assumption) ?hr13x13
          case hy13x13 =>
            intro w hSw
            (try dsimp only at hSw)
            go_simp
            (try with_reducible rfl)
          (try simp only [Act.put, List.setIfInBounds_toArray, List.set_cons_zero, List.set_cons_succ])
          refine wpAnyH_take (i := 14) (oi := _) (v := ?_) rfl (by kernel_rfl) (by kernel_rfl) (by kernel_rfl) (fun _ _ _ h => h) (Or.inl ⟨by rfl, ?hy14x14⟩) (by assumption) ?hr14x14
          case hy14x14 =>
            intro w hSw
            (try dsimp only at hSw)
            go_simp
            (try with_reducible rfl)
          (try simp only [Act.put, List.setIfInBounds_toArray, List.set_cons_zero, List.set_cons_succ])
          refine wpAnyH_take (i := 15) (oi := _) (v := ?_) rfl (by kernel_rfl) (by kernel_rfl) (by kernel_rfl) (fun _ _ _ h => h) (Or.inl ⟨by rfl, ?hy15x15⟩) (by assumption) ?hr15x15
          case hy15x15 =>
            intro w hSw
            (try dsimp only at hSw)
            go_simp
            (try with_reducible rfl)
          (try simp only [Act.put, List.setIfInBounds_toArray, List.set_cons_zero, List.set_cons_succ])
          refine wpAnyH_take (i := 16) (oi := _) (v := ?_) rfl (by kernel_rfl) (by kernel_rfl) (by kernel_rfl) (fun _ _ _ h => h) (Or.inl ⟨by rfl, ?hy16x16⟩) (by assumption) ?hr16x16
          case hy16x16 =>
            intro w hSw
            (try dsimp only at hSw)
            go_simp
            (try with_reducible rfl)
          (try simp only [Act.put, List.setIfInBounds_toArray, List.set_cons_zero, List.set_cons_succ])
          refine wpAnyH_take (i := 17) (oi := _) (v := ?_) rfl (by kernel_rfl) (by kernel_rfl) (by kernel_rfl) (fun _ _ _ h => h) (Or.inl ⟨by rfl, ?hy17x17⟩) (by assumption) ?hr17x17
          case hy17x17 =>
            intro w hSw
            (try dsimp only at hSw)
            go_simp
            (try with_reducible rfl)
          (try simp only [Act.put, List.setIfInBounds_toArray, List.set_cons_zero, List.set_cons_succ])
          refine wpAnyH_take (i := 18) (oi := _) (v := ?_) rfl (by kernel_rfl) (by kernel_rfl) (by kernel_rfl) (fun _ _ _ h => h) (Or.inl ⟨by rfl, ?hy18x18⟩) (by assumption) ?hr18x18
          case hy18x18 =>
            intro w hSw
            (try dsimp only at hSw)
            go_simp
            (try with_reducible rfl)
          (try simp only [Act.put, List.setIfInBounds_toArray, List.set_cons_zero, List.set_cons_succ])
          refine wpAnyH_take (i := 20) (oi := _) (v := ?_) rfl (by kernel_rfl) (by kernel_rfl) (by kernel_rfl) (fun _ _ _ h => h) (Or.inl ⟨by rfl, ?hy20x19⟩) (by assumption) ?hr20x19
          case hy20x19 =>
            intro w hSw
            (try dsimp only at hSw)
            go_simp
            (try with_reducible rfl)
          (try simp only [Act.put, List.setIfInBounds_toArray, List.set_cons_zero, List.set_cons_succ])
          refine wpAnyH_take (i := 21) (oi := _) (v := ?_) rfl (by kernel_rfl) (by kernel_rfl) (by kernel_rfl) (fun _ _ _ h => h) (Or.inl ⟨by rfl, ?hy21x20⟩) (by assumption) ?hr21x20
          case hy21x20 =>
            intro w hSw
            (try dsimp only at hSw)
            go_simp
            (try with_reducible rfl)
          (try simp only [Act.put, List.setIfInBounds_toArray, List.set_cons_zero, List.set_cons_succ])
          refine wpAnyH_take (i := 22) (oi := _) (v := ?_) rfl (by kernel_rfl) (by kernel_rfl) (by kernel_rfl) (fun _ _ _ h => h) (Or.inl ⟨by rfl, ?hy22x21⟩) (by assumption) ?hr22x21
          case hy22x21 =>
            intro w hSw
            (try dsimp only at hSw)
            go_simp
            (try with_reducible rfl)
          (try simp only [Act.put, List.setIfInBounds_toArray, List.set_cons_zero, List.set_cons_succ])
          refine wpAnyH_take (i := 23) (oi := _) (v := ?_) rfl (by kernel_rfl) (by kernel_rfl) (by kernel_rfl) (fun _ _ _ h => h) (Or.inl ⟨by rfl, ?hy23x22⟩) (by assumption) ?hr23x22
          case hy23x22 =>
            intro w hSw
            (try dsimp only at hSw)
            go_simp
            (try with_reducible rfl)
          (try simp only [Act.put, List.setIfInBounds_toArray, List.set_cons_zero, List.set_cons_succ])
          refine wpAnyH_take (i := 24) (oi := _) (v := ?_) rfl (by kernel_rfl) (by kernel_rfl) (by kernel_rfl) (fun _ _ _ h => h) (Or.inl ⟨by rfl, ?hy24x23⟩) (by assumption) ?hr24x23
          case hy24x23 =>
            intro w hSw
            (try dsimp only at hSw)
            go_simp
            (try with_reducible rfl)
          (try simp only [Act.put, List.setIfInBounds_toArray, List.set_cons_zero, List.set_cons_succ])
          refine wpAnyH_take (i := 25) (oi := _) (v := ?_) rfl (by kernel_rfl) (by kernel_rfl) (by kernel_rfl) (fun _ _ _ h => h) (Or.inl ⟨by rfl, ?hy25x24⟩) (by assumption) ?hr25x24
          case hy25x24 =>
            intro w hSw
            (try dsimp only at hSw)
            go_simp
            (try with_reducible rfl)
          (try simp only [Act.put, List.setIfInBounds_toArray, List.set_cons_zero, List.set_cons_succ])
          refine wpAnyH_take (i := 26) (oi := _) (v := ?_) rfl (by kernel_rfl) (by kernel_rfl) (by kernel_rfl) (fun _ _ _ h => h) (Or.inl ⟨by rfl, ?hy26x25⟩) (by assumption) ?hr26x25
          case hy26x25 =>
            intro w hSw
            (try dsimp only at hSw)
            go_simp
            (try with_reducible rfl)
          (try simp only [Act.put, List.setIfInBounds_toArray, List.set_cons_zero, List.set_cons_succ])
          refine wpAnyH_ready (rs := [19, 27]) (by kernel_rfl) (by simp) ?_
          refine AllReadyH.cons (o := _) rfl (fun Kx hKx => ?_) ?_
          · go_simp
            refine hKx.out _ _ ?_ (fun hHeld => ?_)
            · exact hS1
            clear hKx Kx
            (try simp only [Act.put, List.setIfInBounds_toArray, List.set_cons_zero, List.set_cons_succ])
            refine wpAnyH_ready (rs := [27]) (by kernel_rfl) (by simp) ?_
            refine AllReadyH.cons (o := _) rfl (fun Kx hKx => ?_) ?_
            · go_simp
              refine hKx.out _ _ ?_ (fun hHeld => ?_)
              · exact hS1
              clear hKx Kx
              (try simp only [Act.put, List.setIfInBounds_toArray, List.set_cons_zero, List.set_cons_succ])
              refine wpAnyH_take (i := 28) (oi := _) (v := ?_) rfl (by kernel_rfl) (by kernel_rfl) (by kernel_rfl) (fun _ _ _ h => h) (Or.inl ⟨by rfl, ?hy28x26⟩) (by assumption) ?hr28x26
              case hy28x26 =>
                intro w hSw
                (try dsimp only at hSw)
                go_simp
                (try with_reducible rfl)
              (try simp only [Act.put, List.setIfInBounds_toArray, List.set_cons_zero, List.set_cons_succ])
              refine wpAnyH_ready (rs := [29]) (by kernel_rfl) (by simp) ?_
              refine AllReadyH.cons (o := _) rfl (fun Kx hKx => ?_) ?_
              · go_simp
                refine hKx.out _ _ ?_ (fun hHeld => ?_)
                · (show Sx gu g2 s _ _ _; simp only [sx_dr, sx_st, ne_eq, not_false_eq_true, hgu, hg2, hS0, hS2])
                clear hKx Kx
                (try simp only [Act.put, List.setIfInBounds_toArray, List.set_cons_zero, List.set_cons_succ])
                refine wpAnyH_take (i := 30) (oi := _) (v := ?_) rfl (by kernel_rfl) (by kernel_rfl) (by kernel_rfl) (fun _ _ _ h => h) (Or.inl ⟨by rfl, ?hy30x27⟩) (by assumption) ?hr30x27
                case hy30x27 =>
                  intro w hSw
                  (try dsimp only at hSw)
                  go_simp
                  (try with_reducible rfl)
                (try simp only [Act.put, List.setIfInBounds_toArray, List.set_cons_zero, List.set_cons_succ])
                refine wpAnyH_ready (rs := [31]) (by kernel_rfl) (by simp) ?_
                refine AllReadyH.cons (o := _) rfl (fun Kx hKx => ?_) ?_
                · go_simp
                  refine hKx.out _ _ ?_ (fun hHeld => ?_)
                  · (show Sx gu g2 s _ _ _; simp only [sx_dr, sx_st, ne_eq, not_false_eq_true, hgu, hg2, hS0, hS2])
                  clear hKx Kx
                  (try simp only [Act.put, List.setIfInBounds_toArray, List.set_cons_zero, List.set_cons_succ])
                  refine wpAnyH_done (by kernel_rfl) ?_ _
                  go_wp2_with fail
                  go_roundw
                  case rel => exact ⟨s + 1, Hs2, by go_num, by omega, HLn, Lib.hid (by first | exact HSn.out | exact HSn.out.on (Below.drew (Below.refl _ _)))⟩
                  case measure => simp [intOf]; omega
                exact AllReadyH.nil
              exact AllReadyH.nil
            exact AllReadyH.nil
          refine AllReadyH.cons (o := _) rfl (fun Kx hKx => ?_) ?_
          · go_simp
            refine hKx.out _ _ ?_ (fun hHeld => ?_)
            · exact hS1
            clear hKx Kx
            (try simp only [Act.put, List.setIfInBounds_toArray, List.set_cons_zero, List.set_cons_succ])
            refine wpAnyH_ready (rs := [19]) (by kernel_rfl) (by simp) ?_
            refine AllReadyH.cons (o := _) rfl (fun Kx hKx => ?_) ?_
            · go_simp
              refine hKx.out _ _ ?_ (fun hHeld => ?_)
              · exact hS1
              clear hKx Kx
              (try simp only [Act.put, List.setIfInBounds_toArray, List.set_cons_zero, List.set_cons_succ])
              refine wpAnyH_take (i := 28) (oi := _) (v := ?_) rfl (by kernel_rfl) (by kernel_rfl) (by kernel_rfl) (fun _ _ _ h => h) (Or.inl ⟨by rfl, ?hy28x28⟩) (by assumption) ?hr28x28
              case hy28x28 =>
                intro w hSw
                (try dsimp only at hSw)
                go_simp
                (try with_reducible rfl)
              (try simp only [Act.put, List.setIfInBounds_toArray, List.set_cons_zero, List.set_cons_succ])
              refine wpAnyH_ready (rs := [29]) (by kernel_rfl) (by simp) ?_
              refine AllReadyH.cons (o := _) rfl (fun Kx hKx => ?_) ?_
              · go_simp
                refine hKx.out _ _ ?_ (fun hHeld => ?_)
                · (show Sx gu g2 s _ _ _; simp only [sx_dr, sx_st, ne_eq, not_false_eq_true, hgu, hg2, hS0, hS2])
                clear hKx Kx
                (try simp only [Act.put, List.setIfInBounds_toArray, List.set_cons_zero, List.set_cons_succ])
                refine wpAnyH_take (i := 30) (oi := _) (v := ?_) rfl (by kernel_rfl) (by kernel_rfl) (by kernel_rfl) (fun _ _ _ h => h) (Or.inl ⟨by rfl, ?hy30x29⟩) (by assumption) ?hr30x29
                case hy30x29 =>
                  intro w hSw
                  (try dsimp only at hSw)
                  go_simp
                  (try with_reducible rfl)
                (try simp only [Act.put, List.setIfInBounds_toArray, List.set_cons_zero, List.set_cons_succ])
                refine wpAnyH_ready (rs := [31]) (by kernel_rfl) (by simp) ?_
                refine AllReadyH.cons (o := _) rfl (fun Kx hKx => ?_) ?_
                · go_simp
                  refine hKx.out _ _ ?_ (fun hHeld => ?_)
                  · (show Sx gu g2 s _ _ _; simp only [sx_dr, sx_st, ne_eq, not_false_eq_true, hgu, hg2, hS0, hS2])
                  clear hKx Kx
                  (try simp only [Act.put, List.setIfInBounds_toArray, List.set_cons_zero, List.set_cons_succ])
                  refine wpAnyH_done (by kernel_rfl) ?_ _
                  go_wp2_with fail
                  go_roundw
                  case rel => exact ⟨s + 1, Hs2, by go_num, by omega, HLn, Lib.hid (by first | exact HSn.out | exact HSn.out.on (Below.drew (Below.refl _ _)))⟩
                  case measure => simp [intOf]; omega
                exact AllReadyH.nil
              exact AllReadyH.nil
            exact AllReadyH.nil
          exact AllReadyH.nil
        · obtain rfl : s = T.n2 := by omega
          have HT2 := Lib.hid (HSw.out Hs (by rw [HLs.out]; exact mapK_all _ _ (by rw [HNl.out]; exact Nat.le_refl _)))
          have hvu := validTable_any { U1 with hs := Hs } wr HS.out.ow.ok
          rw [HT2.out] at hvu
          simp only [TV.v] at hvu
          rw [HU2.out] at hvu
          have HVu := Lib.hid hvu
          have HEr : Hid ((a = b → errV (swapC tb a b) = 0) ∧ (a ≠ b → errV (swapC tb a b) = 27)) := Lib.hid (by
            have h2 := HL2.out.2.2.1
            have h3 := HKc.out
            refine ⟨fun h => ?_, fun h => swapC_err HVd.out (by omega) (by omega) h⟩
            subst h
            rw [swapC_self HVd.out]
            exact errV_ok.2 HVd.out)
          generalize errV (swapC tb a b) = e1 at *
          clear hvu HT2 HLs HSw
          go_wp2_with fail
          refine HVu.out.mono ?_
          rintro e w8 ⟨rfl, g⟩
          replace HS := Lib.hid (HS.out.on g)
          clear g HVu u0 u1 u2 u3
          go_upto_region 17 with (fail)
          go_cut [125] from 111 to 125 (fun v125 wx => v125 = .bool false ∧ wx = w8)
          case first =>
            by_cases hab : a = b
            · subst hab
              have h0 := HEr.out.1 rfl
              subst h0
              have q1 : ((a : Int) == (a : Int)) = true := by simp
              have q2 : ((a : Int) != (a : Int)) = false := by simp
              clear HEr
              go_wp2_with fail
              go_meet
              exact ⟨by first | rfl | trivial, by first | rfl | trivial⟩
            · have q1 : ((a : Int) == (b : Int)) = false := by rw [beq_eq_false_iff_ne]; omega
              have q2 : ((a : Int) != (b : Int)) = true := by rw [bne_iff_ne]; omega
              have h27 := HEr.out.2 hab
              subst h27
              clear HEr
              go_wp2_with fail
              go_meet
              exact ⟨by first | rfl | trivial, by first | rfl | trivial⟩
          obtain ⟨rfl, rfl⟩ := hcut
          rename World => w8
          have bb := HS.out.bb
          have HX := Lib.hid HS.out.bx
          clear HS HEr HNl
          obtain ⟨_, p0, p1, p2, p3⟩ := HX.out
          rw [HKc.out] at p0
          by_cases hK8 : K < 8
          case neg =>
            have d8 : (8 : Int) ≤ (K : Int) := by omega
            go_wp2_with fail
            refine (wakesV_any _ (HM0.out.on bb)).mono ?_
            rintro e w9 ⟨rfl, g9⟩
            have bf := bb.trans (g9.mono bb.size)
            clear g9
            go_wp2_with fail
            go_ret
            exact ⟨rfl, bf⟩
          have d8 : ¬ (8 : Int) ≤ (K : Int) := by omega
          obtain ⟨N, hN⟩ : ∃ N, T.n1 = N := ⟨_, rfl⟩
          rw [hN] at p1 hn60 hn1p
          by_cases hN60 : N < 60
          case neg =>
            have d6 : (60 : Int) ≤ (N : Int) := by omega
            go_wp2_with fail
            refine (wakesV_any _ (HM0.out.on bb)).mono ?_
            rintro e w9 ⟨rfl, g9⟩
            have bf := bb.trans (g9.mono bb.size)
            clear g9
            go_wp2_with fail
            go_ret
            exact ⟨rfl, bf⟩
          have d6 : ¬ (60 : Int) ≤ (N : Int) := by omega
          obtain ⟨m, hm⟩ : ∃ m, N = m + 1 := ⟨N - 1, by omega⟩
          have hbl : T.bd.length = N := by rw [← hN]; exact (HRd.out _ bb).1
          obtain ⟨b1, o1, hA1, _, r0, r1⟩ := (HRd.out _ bb).at (k := m) (by omega)
          rw [hA1] at p1
          have HLf : Hid (bandAt tb.bd (tb.bd.length - 1) = T.bd[m]'(by omega)) := Lib.hid (by
            have h1 := HL2.out.2.2.2
            have h2 : tb.bd.length - 1 = m := by omega
            rw [h2, h1.2]
            unfold bandAt
            rw [List.getD_eq_getElem?_getD, List.getElem?_eq_getElem (by omega)]; rfl)
          generalize T.bd[m]'(by omega) = bm at *
          obtain ⟨f1, f2⟩ := bm
          simp only [] at r0 r1
          have m1 : (N : Int) - 1 = (m : Int) := by omega
          have m2 : IntKind.i64.wrap ((N : Int) - 1) = (m : Int) := by rw [IntKind.wrap_i64]; omega
          have m3 : (m : Int) < (N : Int) := by omega
          have Hm := Lib.hid hm
          clear hm
          by_cases hf1 : f1 < 1114111
          case neg =>
            have d9 : (1114111 : Int) ≤ f1 := by omega
            go_wp2_with fail
            refine (wakesV_any _ (HM0.out.on bb)).mono ?_
            rintro e w9 ⟨rfl, g9⟩
            have bf := bb.trans (g9.mono bb.size)
            clear g9
            go_wp2_with fail
            go_ret
            exact ⟨rfl, bf⟩
          have d9 : ¬ (1114111 : Int) ≤ f1 := by omega
          have hOw2 := HOw.out
          rw [HKc.out, hN, hA1] at hOw2
          have HOw2 := Lib.hid hOw2
          clear hOw2 HOw
          go_wp2_with fail
          refine (HOw2.out _ bb).mono ?_
          rintro e w9 ⟨V0, rfl, htb, hokV, g, hown⟩
          have HVf : Hid (V0.n1 = N ∧ V0.bd = tb.bd ∧ V0.cl = (K : Int) ∧ V0.n2 = T.n2 ∧ V0.hs.length = T.n2 ∧ listsOf V0.hs = tb.nx ∧ V0.br = tb.br ∧ 0 < V0.n3) := Lib.hid (by
            have e1 : V0.tb.nx.length = V0.hs.length := by unfold TV.tb; simp only [listsOf_len]
            have e3 : V0.tb.cl = V0.cl := rfl
            have e4 : V0.tb.bd = V0.bd := rfl
            have e5 : V0.tb.nx = listsOf V0.hs := rfl
            have e6 : V0.tb.br = V0.br := rfl
            rw [htb] at e1 e3 e4 e5 e6
            have h4 := HL2.out
            have h5 := HKc.out
            have h6 : V0.bd.length = tb.bd.length := by rw [e4]
            have h7 := hokV.r1.1
            have h8 := hown.z2.len
            have h9 := hokV.r3.1
            have ha : V0.br.length = tb.br.length := by rw [e6]
            have hb := ((cntV_iff _).1 HVd.out.cnt).b1
            have hc := ((cntV_iff _).1 HVd.out.cnt).n1
            exact ⟨by omega, e4.symm, by omega, by omega, by omega, e5.symm, e6.symm, by omega⟩)
          have hst := StV.make bb g hown (by have := HVf.out.1; omega) HVf.out.2.2.2.2.2.2.2
          have HAp := Lib.hid hown.ap
          have hXg := (HX.out.on g).on (below_new w9 (.cells #[.int .i64 V0.cl, .slice V0.a1 V0.n1 V0.c1, .slice V0.a2 V0.n2 V0.c2, .slice V0.a3 V0.n3 V0.c3] 26))
          have HX9 := Lib.hid hXg
          have HV := Lib.hid hst
          have hWg : W.heap.size ≠ w9.heap.size := by have := HX.out.1; have := g.size; omega
          clear g hown hokV p0 p1 p2 p3 bb HX htb hst hXg r0 r1 hA1
          simp only [TV.v]
          go_upto_region 22 with (fail)
          generalize w9.alloc (.cells #[.int .i64 V0.cl, .slice V0.a1 V0.n1 V0.c1, .slice V0.a2 V0.n2 V0.c2, .slice V0.a3 V0.n3 V0.c3] 26) = w10 at *
          generalize w9.heap.size = gv at *
          generalize w8.heap.size = bs at *
          have hm := Hm.out
          obtain ⟨_, u0, u1, u2, u3⟩ := HV.out.vx
          obtain ⟨gb, capb, hvb, _, _⟩ := HV.out.z1.form (by have := HVf.out.1; omega)
          have hAb : V0.a1 = some ⟨gb, 0, none⟩ := by injection hvb
          have hbdl : V0.bd.length = N := by rw [HVf.out.2.1, HL2.out.2.2.2.1, hN]
          obtain ⟨b2, o2, hAb', _, r0, r1⟩ := (own_RD HV.out.z1).at (k := m) (by omega)
          rw [hAb] at hAb'
          injection hAb' with hq
          injection hq with hq1 hq2
          subst hq1 hq2
          have hbm : V0.bd[m]'(by omega) = (f1, f2) := by
            have h := HLf.out
            unfold bandAt at h
            have h2 : tb.bd.length - 1 = m := by have := HL2.out.2.2.2.1; omega
            have h3 : m < tb.bd.length := by have := HL2.out.2.2.2.1; omega
            rw [h2, List.getD_eq_getElem?_getD, List.getElem?_eq_getElem h3] at h
            simp only [HVf.out.2.1]
            exact h
          rw [hbm] at r0 r1
          simp only [Nat.zero_add] at r0 r1
          have hf2 : 0 ≤ f2 ∧ f2 < (K : Int) := by
            have hcs : clScan tb.bd 0 = some tb.cl := by have := HVd.out.cls; unfold classB at this; simpa using this
            have h3 : m < V0.bd.length := by omega
            have hmem : (f1, f2) ∈ tb.bd := by rw [← HVf.out.2.1, ← hbm]; exact List.getElem_mem h3
            have h4 := clScan_mem _ _ _ hcs _ hmem
            have h5 := HL2.out.2.2.1
            have h6 := HKc.out
            simp only [] at h4
            omega
          obtain ⟨lc, hlc⟩ : ∃ lc : Nat, f2 = (lc : Int) := ⟨f2.toNat, by omega⟩
          subst hlc
          have hlcK : lc < K := by omega
          rw [HVf.out.1, hAb] at u1
          rw [HVf.out.2.2.1] at u0
          have HVN := Lib.hid HVf.out.1
          have hAbH := Lib.hid hAb
          have fz0 := HV.out.fz 0
          have k1 : IntKind.i64.wrap ((K : Int) + 1) = (K : Int) + 1 := by rw [IntKind.wrap_i64]; omega
          clear hvb hbm hf2 hbdl hm
          go_upto_region 24 with (fail)
          have HV1 := Lib.hid (HV.out.cls ((K : Int) + 1))
          have HX1 := Lib.hid (HX9.out.set (a := ⟨gv, 0, none⟩) (by simp only []; exact fun e => hWg e.symm) (.int .i64 ((K : Int) + 1)))
          clear u0 u1 u2 u3 r0 r1 fz0 HV HX9 k1 m1 m2 m3
          generalize w10.setCell ⟨gv, 0, none⟩ (.int .i64 ((K : Int) + 1)) = w11 at *
          obtain ⟨_, u0, u1, u2, u3⟩ := HV1.out.vx
          obtain ⟨_, p0, p1, p2, p3⟩ := HX1.out
          rw [HKc.out] at p0
          simp only [] at u0 u1 u2 u3
          rw [HVN.out, hAbH.out] at u1
          have gL := below_new w11 (.cells #[.int .i64 1114111, .int .i64 (K : Int)] 50)
          have HOz : Hid ((w11.alloc (.cells #[.int .i64 1114111, .int .i64 (K : Int)] 50)).ownsRow bs 50 2 (.slice (some ⟨gb, 0, none⟩) N V0.c1) N (rcells V0.bd)) := Lib.hid (by
            have h := own_below HV1.out.z1 gL
            simp only [] at h
            rw [HVN.out, hAbH.out] at h
            exact h)
          have hbs : bs ≤ (w11.alloc (.cells #[.int .i64 1114111, .int .i64 (K : Int)] 50)).heap.size := Nat.le_trans HV1.out.hg (Nat.le_of_lt (Nat.lt_of_lt_of_le HV1.out.vx.1 gL.size))
          clear gL
          go_wp2_with (at_builtin; refine wpList_append_lies _ rfl _ _ 22 rfl bs 50 j0 _ 2 16 Tryd.underlying22 hj0 hy0 hy1 hy2 rfl (by decide) _ _ _ rfl HOz.out ⟨w11.heap.size, 0, none⟩ 1 1 [.int .i64 1114111, .int .i64 (K : Int)] rfl rfl ?k1 ?k2 (by omega) ?k3 ?k4 ?k5 _ rfl ?_)
          try (case k1 => exact ⟨by simp, by simp⟩)
          case k2 => first | exact ⟨rfl, rfl⟩ | (intro u hu; simp at hu; rcases hu with rfl | rfl <;> rfl)
          case k3 => unfold maxLen; omega
          case k4 => omega
          case k5 => first | exact hbs | (simpa using hbs)
          intro g9 cap9 w12 hown9 hgrow9 hat9 hlt9
          have HVl := Lib.hid (HV1.out.on (below_new w11 (.cells #[.int .i64 1114111, .int .i64 (K : Int)] 50)))
          have hgvH : gv < w11.heap.size + 1 := by have := HV1.out.vx.1; omega
          obtain ⟨⟨_, v0, v1, v2, v3⟩, vf⟩ := HVl.out.grown hgrow9 (by have h := HVl.out.m1; simp only [] at h; rw [HVN.out, hAbH.out] at h; exact h)
          have vf1 := vf 1
          have hst := HVl.out.bnds (x := 1114111) (y := (K : Int)) (g9 := g9) (c9 := cap9) (by simp only []; rw [HVN.out, hAbH.out]; exact hgrow9) (by simp only []; rw [HVN.out]; exact hown9) (by simp only []; rw [HVN.out, hAbH.out]; exact hat9) hgvH
          simp only [] at hst
          rw [HVN.out] at hst
          have HV2 := Lib.hid hst
          clear hst vf hown9 hgrow9 hat9 HOz HVl p0 p1 p2 p3 u0 u1 u2 u3 HX1 HV1
          simp only [] at v0 v1 v2 v3
          go_wp2_with fail
          generalize w12.setCell ⟨gv, 1, none⟩ (.slice (some ⟨g9, 0, none⟩) (N + 1) cap9) = w13 at *
          clear v0 v1 v2 v3 vf1
          obtain ⟨V2, hV2⟩ : ∃ V2 : TV, { V0 with cl := (K : Int) + 1, a1 := some ⟨g9, 0, none⟩, n1 := N + 1, c1 := cap9, bd := V0.bd ++ [(1114111, (K : Int))] } = V2 := ⟨_, rfl⟩
          rw [hV2] at HV2
          obtain ⟨fA, hfA⟩ : ∃ f : List Int → List Int, f = fun r => r ++ [r.getD lc 0] := ⟨_, rfl⟩
          have HfA := Lib.hid hfA
          have HVg : Hid (V2.hs = V0.hs ∧ V2.n2 = T.n2 ∧ V2.cl = (K : Int) + 1 ∧ V2.bd = tb.bd ++ [(1114111, (K : Int))] ∧ V2.br = tb.br) := Lib.hid (by
            have h := HVf.out
            subst hV2
            exact ⟨rfl, h.2.2.2.1, rfl, by simp only [h.2.1], h.2.2.2.2.2.2.1⟩)
          have HSw3 : Hid (∀ Hs : List Hi, listsOf Hs = tb.nx.map fA → errV ({ V2 with hs := Hs } : TV).tb = 31) := Lib.hid (fun Hs h => by
            have e1 : ({ V2 with hs := Hs } : TV).tb = { cl := V2.cl, bd := V2.bd, nx := listsOf Hs, br := V2.br } := rfl
            have h2 := HL2.out.2.2.1
            have h3 := HKc.out
            have h4 := HL2.out.2.2.2.1
            have hl : lastC tb = lc := by unfold lastC; rw [HLf.out]; rfl
            have e2 : ({ V2 with hs := Hs } : TV).tb = splitC tb := by
              rw [e1, h, HVg.out.2.2.1, HVg.out.2.2.2.1, HVg.out.2.2.2.2, hfA]
              unfold splitC
              rw [hl, h2, h3]
            rw [e2]
            exact splitC_err HVd.out (by omega) (by omega) (by rw [HLf.out]; exact hf1))
          have HAp2 : Hid (Apt V2.hs) := Lib.hid (by rw [HVg.out.1]; exact HAp.out)
          have HLs2 : Hid (listsOf V2.hs = mapK fA tb.nx 0) := Lib.hid (by rw [mapK_zero, HVg.out.1]; exact HVf.out.2.2.2.2.2.1)
          have HNl2 : Hid (tb.nx.length = T.n2) := Lib.hid HL2.out.1
          have hn2 : V2.n2 = T.n2 := HVg.out.2.1
          have HN2 := Lib.hid hn2
          have HV3 : Hid (StV W bs gv w13 { V2 with hs := V2.hs }) := HV2
          clear hV2 hfA hn2 HV2 HVg HVf HAp HVN hAbH hAb HLf
          go_loopw [13] (fun vs wx => ∃ (s : Nat) (Hs : List Hi), vs = .int .i64 s ∧ s ≤ T.n2 ∧ Hid (listsOf Hs = mapK fA tb.nx s) ∧ Hid (Apt Hs) ∧ Hid (StV W bs gv wx { V2 with hs := Hs })) (fun vs _ => T.n2 - (intOf vs).toNat)
          case atStart => exact ⟨0, _, rfl, Nat.zero_le _, HLs2, HAp2, HV3⟩
          case round =>
            clear HLs2 HAp2 HV3
            obtain ⟨s, Hs, rfl, hs, HLs, HApt, HS⟩ := hrel
            obtain ⟨_, u0, u1, u2, u3⟩ := HS.out.vx
            try simp only [] at u0 u1 u2 u3
            rw [HN2.out] at u2
            by_cases hlt : s < T.n2
            · have hsI : (s : Int) < (T.n2 : Int) := by omega
              have hsN : s < tb.nx.length := by rw [HNl2.out]; exact hlt
              have hsH : s < Hs.length := by rw [← listsOf_len, HLs.out, mapK_len]; exact hsN
              have hrow : Hs[s].l = tb.nx[s] := by
                have h1 := listsOf_at Hs s hsH (by rw [listsOf_len]; exact hsH)
                have h2 : (listsOf Hs)[s]'(by rw [listsOf_len]; exact hsH) = tb.nx[s] := by
                  rw [List.getElem_of_eq HLs.out]
                  exact mapK_at _ _ hsN _
                rw [← h1, h2]
              have hlK : tb.nx[s].length = K := HRl.out _ (List.getElem_mem hsN)
              have hnK : Hs[s].n = K := by
                have h := (HS.out.z2.inn _ (List.getElem_mem hsH)).1
                rw [hrow, hlK] at h
                exact h.symm
              obtain ⟨g2, g, hA2, hA, hh, hown, hcel⟩ := HS.out.row (s := s) hsH (by rw [hnK]; omega)
              have hA2' : V2.a2 = some ⟨g2, 0, none⟩ := hA2
              rw [hA2'] at u2
              have hll : lc < tb.nx[s].length := by rw [hlK]; exact hlcK
              have ca := hcel lc (by rw [hrow]; exact hll)
              have ea : Hs[s].l[lc]'(by rw [hrow]; exact hll) = tb.nx[s][lc] := by simp only [hrow]
              rw [ea] at ca
              obtain ⟨xv, hxv⟩ : ∃ x, tb.nx[s][lc] = x := ⟨_, rfl⟩
              rw [hxv] at ca
              have hfx : Hs[s].l ++ [xv] = fA tb.nx[s] := by
                rw [HfA.out, hrow, ← hxv]
                show tb.nx[s] ++ [tb.nx[s][lc]] = tb.nx[s] ++ [tb.nx[s].getD lc 0]
                rw [List.getD_eq_getElem?_getD, List.getElem?_eq_getElem hll]; rfl
              rw [hnK] at hh
              have gL : Below wr.heap.size wr (wr.alloc (.cells #[.int .i64 xv] 3)).drew := Below.drew (below_new _ _)
              have HSl := Lib.hid (HS.out.on gL)
              have HOl : Hid ((wr.alloc (.cells #[.int .i64 xv] 3)).drew.ownsRow bs 3 1 (.slice (some ⟨g, 0, none⟩) K Hs[s].c) K (icells Hs[s].l)) := Lib.hid (by
                have h := own_below hown gL
                rw [hnK] at h
                exact h)
              have u2l := kept_cell gL u2
              have hhl := kept_cell gL hh
              have hbl : bs ≤ (wr.alloc (.cells #[.int .i64 xv] 3)).drew.heap.size := Nat.le_trans HSl.out.hg (Nat.le_of_lt HSl.out.vx.1)
              have hSH : gv < wr.heap.size := HS.out.vx.1
              have hg2v : g2 ≠ gv := fun e => HS.out.m2 (by show (Value.slice V2.a2 _ _).ownBlock = _; rw [hA2', e]; rfl)
              have HPut : Hid (∀ (w9 : World) (g9 cap9 : Nat), (wr.alloc (.cells #[.int .i64 xv] 3)).drew.grownBy w9 (Value.slice (some ⟨g, 0, none⟩) K Hs[s].c).ownBlock → w9.ownsRow bs 3 1 (.slice (some ⟨g9, 0, none⟩) (K + 1) cap9) (K + 1) (icells Hs[s].l ++ [.int .i64 xv]) → ((Value.slice (some ⟨g, 0, none⟩) K Hs[s].c).ownBlock = some g9 ∨ g9 = wr.heap.size + 1) →
                  (w9.cell? ⟨gv, 2, none⟩ = some (.slice (some ⟨g2, 0, none⟩) T.n2 V2.c2) ∧ (∃ y, w9.cell? ⟨g2, s, none⟩ = some y) ∧ w9.frozen? ⟨g2, s, none⟩ = false) ∧ ∃ Hs2, listsOf Hs2 = mapK fA tb.nx (s + 1) ∧ Apt Hs2 ∧ StV W bs gv (w9.setCell ⟨g2, s, none⟩ (.slice (some ⟨g9, 0, none⟩) (K + 1) cap9)) { V2 with hs := Hs2 }) := Lib.hid (fun w9 g9 cap9 h1 h2 h3 => by
                have hv : Hs[s].v = .slice (some ⟨g, 0, none⟩) K Hs[s].c := by unfold Hi.v; rw [hA, hnK]
                rw [← hv] at h1 h3
                obtain ⟨c1, c2, _, b0, b1, b2, b3⟩ := HSl.out.rowcell (s := s) hsH hA2 h1
                simp only [] at b2
                rw [HN2.out, hA2'] at b2
                have hr := HSl.out.rowapp (x := xv) HApt.out hsH hA2 h1 (by simp only [hnK]; exact h2) h3 (by simp)
                simp only [hnK] at hr
                refine ⟨⟨b2, ⟨_, c1⟩, c2⟩, _, ?_, hr.2, hr.1⟩
                rw [listsOf_set, HLs.out]
                exact mapK_set _ _ hsN hfx)
              have hlen : (icells Hs[s].l).length = K := by rw [icells_len, hrow, hlK]
              clear hfx hxv ea hcel hown hll hrow HSl
              generalize Hs[s].c = rc at *
              generalize icells Hs[s].l = rowc at *
              clear hA hnK hlK hsH hsN HS HLs HApt hA2 gL u0 u1 u3
              have hlcI : (lc : Int) < (K : Int) := by omega
              have hS1 : wr.drew.cell? ⟨gv, 2, none⟩ = some (.slice (some ⟨g2, 0, none⟩) T.n2 V2.c2) := u2
              go_wp2_with fail
              refine wp_region_held_drew (S := fun V => V.cell? ⟨gv, 2, none⟩ = some (.slice (some ⟨g2, 0, none⟩) T.n2 V2.c2)) (by kernel_rfl) ?_ (fun hHeld => ?_)
              · exact hS1
              refine wpAnyH_take (i := 0) (oi := _) (v := ?_) rfl (by kernel_rfl) (by kernel_rfl) (by kernel_rfl) (fun _ _ _ h => h) (Or.inl ⟨by rfl, ?hy0x30⟩) (by assumption) ?hr0x30
              case hy0x30 =>
                intro w hSw
                (try dsimp only at hSw)
                go_simp
                (try with_reducible rfl)
              (try simp only [Act.put, List.setIfInBounds_toArray, List.set_cons_zero, List.set_cons_succ])
              refine wpAnyH_take (i := 1) (oi := _) (v := ?_) rfl (by kernel_rfl) (by kernel_rfl) (by kernel_rfl) (fun _ _ _ h => h) (Or.inl ⟨by rfl, ?hy1x31⟩) (by assumption) ?hr1x31
              case hy1x31 =>
                intro w hSw
                (try dsimp only at hSw)
                go_simp
                (try with_reducible rfl)
              (try simp only [Act.put, List.setIfInBounds_toArray, List.set_cons_zero, List.set_cons_succ])
              refine wpAnyH_take (i := 2) (oi := _) (v := ?_) rfl (by kernel_rfl) (by kernel_rfl) (by kernel_rfl) (fun _ _ _ h => h) (Or.inl ⟨by rfl, ?hy2x32⟩) (by assumption) ?hr2x32
              case hy2x32 =>
                intro w hSw
                (try dsimp only at hSw)
                go_simp
                (try with_reducible rfl)
              (try simp only [Act.put, List.setIfInBounds_toArray, List.set_cons_zero, List.set_cons_succ])
              refine wpAnyH_take (i := 3) (oi := _) (v := ?_) rfl (by kernel_rfl) (by kernel_rfl) (by kernel_rfl) (fun _ _ _ h => h) (Or.inl ⟨by rfl, ?hy3x33⟩) (by assumption) ?hr3x33
              case hy3x33 =>
                intro w hSw
                (try dsimp only at hSw)
                go_simp
                (try with_reducible rfl)
              (try simp only [Act.put, List.setIfInBounds_toArray, List.set_cons_zero, List.set_cons_succ])
              refine wpAnyH_take (i := 4) (oi := _) (v := ?_) rfl (by kernel_rfl) (by kernel_rfl) (by kernel_rfl) (fun _ _ _ h => h) (Or.inl ⟨by rfl, ?hy4x34⟩) (by assumption) ?hr4x34
              case hy4x34 =>
                intro w hSw
                (try dsimp only at hSw)
                go_simp
                (try with_reducible rfl)
              (try simp only [Act.put, List.setIfInBounds_toArray, List.set_cons_zero, List.set_cons_succ])
              refine wpAnyH_take (i := 5) (oi := _) (v := ?_) rfl (by kernel_rfl) (by kernel_rfl) (by kernel_rfl) (fun _ _ _ h => h) (Or.inl ⟨by rfl, ?hy5x35⟩) (by assumption) ?hr5x35
              case hy5x35 =>
                intro w hSw
                (try dsimp only at hSw)
                go_simp
                (try with_reducible rfl)
              (try simp only [Act.put, List.setIfInBounds_toArray, List.set_cons_zero, List.set_cons_succ])
              refine wpAnyH_take (i := 6) (oi := _) (v := ?_) rfl (by kernel_rfl) (by kernel_rfl) (by kernel_rfl) (fun _ _ _ h => h) (Or.inl ⟨by rfl, ?hy6x36⟩) (by assumption) ?hr6x36
              case hy6x36 =>
                intro w hSw
                (try dsimp only at hSw)
                go_simp
                (try with_reducible rfl)
              (try simp only [Act.put, List.setIfInBounds_toArray, List.set_cons_zero, List.set_cons_succ])
              refine wpAnyH_take (i := 8) (oi := _) (v := ?_) rfl (by kernel_rfl) (by kernel_rfl) (by kernel_rfl) (fun _ _ _ h => h) (Or.inl ⟨by rfl, ?hy8x37⟩) (by assumption) ?hr8x37
              case hy8x37 =>
                intro w hSw
                (try dsimp only at hSw)
                go_simp
                (try with_reducible rfl)
              (try simp only [Act.put, List.setIfInBounds_toArray, List.set_cons_zero, List.set_cons_succ])
              refine wpAnyH_take (i := 9) (oi := _) (v := ?_) rfl (by kernel_rfl) (by kernel_rfl) (by kernel_rfl) (fun _ _ _ h => h) (Or.inl ⟨by rfl, ?hy9x38⟩) (by assumption) ?hr9x38
              case hy9x38 =>
                intro w hSw
                (try dsimp only at hSw)
                go_simp
                (try with_reducible rfl)
              (try simp only [Act.put, List.setIfInBounds_toArray, List.set_cons_zero, List.set_cons_succ])
              refine wpAnyH_take (i := 10) (oi := _) (v := ?_) rfl (by kernel_rfl) (by kernel_rfl) (by kernel_rfl) (fun _ _ _ h => h) (Or.inl ⟨by rfl, ?hy10x39⟩) (by assumption) ?hr10x39
              case hy10x39 =>
                intro w hSw
                (try dsimp only at hSw)
                go_simp
                (try with_reducible rfl)
              (try simp only [Act.put, List.setIfInBounds_toArray, List.set_cons_zero, List.set_cons_succ])
              refine wpAnyH_take (i := 11) (oi := _) (v := ?_) rfl (by kernel_rfl) (by kernel_rfl) (by kernel_rfl) (fun _ _ _ h => h) (Or.inl ⟨by rfl, ?hy11x40⟩) (by assumption) ?hr11x40
              case hy11x40 =>
                intro w hSw
                (try dsimp only at hSw)
                go_simp
                (try with_reducible rfl)
              (try simp only [Act.put, List.setIfInBounds_toArray, List.set_cons_zero, List.set_cons_succ])
              refine wpAnyH_take (i := 13) (oi := _) (v := ?_) rfl (by kernel_rfl) (by kernel_rfl) (by kernel_rfl) (fun _ _ _ h => h) (Or.inl ⟨by rfl, ?hy13x41⟩) (by assumption) ?hr13x41
              case hy13x41 =>
                intro w hSw
                (try dsimp only at hSw)
                go_simp
                (try with_reducible rfl)
              (try simp only [Act.put, List.setIfInBounds_toArray, List.set_cons_zero, List.set_cons_succ])
              refine wpAnyH_ready (rs := [7, 12]) (by kernel_rfl) (by simp) ?_
              refine AllReadyH.cons (o := _) rfl (fun Kx hKx => ?_) ?_
              · go_simp
                refine hKx.out _ _ ?_ (fun hHeld => ?_)
                · first | exact hS1 | exact u2l
                clear hKx Kx
                (try simp only [Act.put, List.setIfInBounds_toArray, List.set_cons_zero, List.set_cons_succ])
                refine wpAnyH_ready (rs := [12]) (by kernel_rfl) (by simp) ?_
                refine AllReadyH.cons (o := _) rfl (fun Kx hKx => ?_) ?_
                · go_simp
                  refine hKx.out _ _ ?_ (fun hHeld => ?_)
                  · first | exact hS1 | exact u2l
                  clear hKx Kx
                  (try simp only [Act.put, List.setIfInBounds_toArray, List.set_cons_zero, List.set_cons_succ])
                  refine wpAnyH_take (i := 14) (oi := _) (v := ?_) rfl (by kernel_rfl) (by kernel_rfl) (by kernel_rfl) (fun _ _ _ h => h) (Or.inl ⟨by rfl, ?hy14x42⟩) (by assumption) ?hr14x42
                  case hy14x42 =>
                    intro w hSw
                    (try dsimp only at hSw)
                    go_simp
                    (try with_reducible rfl)
                  (try simp only [Act.put, List.setIfInBounds_toArray, List.set_cons_zero, List.set_cons_succ])
                  refine wpAnyH_ready (rs := [15]) (by kernel_rfl) (by simp) ?_
                  refine AllReadyH.cons (o := _) rfl (fun Kx hKx => ?_) ?_
                  · go_simp
                    refine hKx.out _ _ ?_ (fun hHeld => ?_)
                    · first | exact hS1 | exact u2l
                    clear hKx Kx
                    (try simp only [Act.put, List.setIfInBounds_toArray, List.set_cons_zero, List.set_cons_succ])
                    refine wpAnyH_ready (rs := [16]) (by kernel_rfl) (by simp) ?_
                    refine AllReadyH.cons (o := _) rfl (fun Kx hKx => ?_) ?_
                    · go_simp
                      refine hKx.out _ _ ?_ (fun hHeld => ?_)
                      · first | exact hS1 | exact u2l
                      clear hKx Kx
                      (try simp only [Act.put, List.setIfInBounds_toArray, List.set_cons_zero, List.set_cons_succ])
                      refine wpAnyH_ready (rs := [17]) (by kernel_rfl) (by simp) ?_
                      refine AllReadyH.cons (o := _) rfl (fun Kx hKx => ?_) ?_
                      · refine step_append_lies _ rfl (.tmp 185) (.tmp 194) 51 rfl bs 3 i0 _ 1 8 Tryd.underlying51 hi0 hz0 hz1 hz2 rfl (by decide) (.slice (some ⟨g, 0, none⟩) K rc) K rowc (by first | rfl | simp [Act.eval, Act.put]) (by exact HOl.out) ⟨wr.heap.size, 0, none⟩ 1 1 [.int .i64 xv] (by first | rfl | simp [Act.eval, Act.put]) rfl (lit1 (by simp)) (by first | rfl | (intro u hu; simp at hu; subst hu; rfl)) (by omega) (by unfold maxLen; omega) (by omega) (by exact hbl) _ rfl ?_
                        intro g9 cap9 w14 hown9 hgrow9 hat9 hlt9
                        obtain ⟨⟨b2, ⟨yv, c1⟩, c2⟩, Hs2, hl2, hap2, hst2⟩ := HPut.out w14 g9 cap9 hgrow9 hown9 (hat9.imp id (fun q => q.trans (by simp)))
                        have HLn := Lib.hid hl2
                        have HAn := Lib.hid hap2
                        have HSn := Lib.hid hst2
                        clear hl2 hap2 hst2 hown9 hgrow9 hat9
                        refine hKx.out _ _ ?_ (fun hHeld => ?_)
                        · exact b2
                        clear hKx Kx
                        (try simp only [Act.put, List.setIfInBounds_toArray, List.set_cons_zero, List.set_cons_succ])
                        refine wpAnyH_take (i := 18) (oi := _) (v := ?_) rfl (by kernel_rfl) (by kernel_rfl) (by kernel_rfl) (fun _ _ _ h => h) (Or.inl ⟨by rfl, ?hy18x43⟩) (by assumption) ?hr18x43
                        case hy18x43 =>
                          intro w hSw
                          (try dsimp only at hSw)
                          go_simp
                          (try with_reducible rfl)
                        (try simp only [Act.put, List.setIfInBounds_toArray, List.set_cons_zero, List.set_cons_succ])
                        refine wpAnyH_ready (rs := [19]) (by kernel_rfl) (by simp) ?_
                        refine AllReadyH.cons (o := _) rfl (fun Kx hKx => ?_) ?_
                        · go_simp
                          refine hKx.out _ _ ?_ (fun hHeld => ?_)
                          · (show World.cell? _ _ = _; rw [World.cell?_setCell_far _ _ _ _ hg2v]; exact b2)
                          clear hKx Kx
                          (try simp only [Act.put, List.setIfInBounds_toArray, List.set_cons_zero, List.set_cons_succ])
                          refine wpAnyH_done (by kernel_rfl) ?_ _
                          go_wp2_with fail
                          go_roundw
                          case rel => exact ⟨s + 1, Hs2, by go_num, by omega, HLn, HAn, HSn⟩
                          case measure => simp [intOf]; omega
                        exact AllReadyH.nil
                      exact AllReadyH.nil
                    exact AllReadyH.nil
                  exact AllReadyH.nil
                exact AllReadyH.nil
              refine AllReadyH.cons (o := _) rfl (fun Kx hKx => ?_) ?_
              · go_simp
                refine hKx.out _ _ ?_ (fun hHeld => ?_)
                · first | exact hS1 | exact u2l
                clear hKx Kx
                (try simp only [Act.put, List.setIfInBounds_toArray, List.set_cons_zero, List.set_cons_succ])
                refine wpAnyH_take (i := 14) (oi := _) (v := ?_) rfl (by kernel_rfl) (by kernel_rfl) (by kernel_rfl) (fun _ _ _ h => h) (Or.inl ⟨by rfl, ?hy14x44⟩) (by assumption) ?hr14x44
                case hy14x44 =>
                  intro w hSw
                  (try dsimp only at hSw)
                  go_simp
                  (try with_reducible rfl)
                (try simp only [Act.put, List.setIfInBounds_toArray, List.set_cons_zero, List.set_cons_succ])
                refine wpAnyH_ready (rs := [7, 15]) (by kernel_rfl) (by simp) ?_
                refine AllReadyH.cons (o := _) rfl (fun Kx hKx => ?_) ?_
                · go_simp
                  refine hKx.out _ _ ?_ (fun hHeld => ?_)
                  · first | exact hS1 | exact u2l
                  clear hKx Kx
                  (try simp only [Act.put, List.setIfInBounds_toArray, List.set_cons_zero, List.set_cons_succ])
                  refine wpAnyH_ready (rs := [15]) (by kernel_rfl) (by simp) ?_
                  refine AllReadyH.cons (o := _) rfl (fun Kx hKx => ?_) ?_
                  · go_simp
                    refine hKx.out _ _ ?_ (fun hHeld => ?_)
                    · first | exact hS1 | exact u2l
                    clear hKx Kx
                    (try simp only [Act.put, List.setIfInBounds_toArray, List.set_cons_zero, List.set_cons_succ])
                    refine wpAnyH_ready (rs := [16]) (by kernel_rfl) (by simp) ?_
                    refine AllReadyH.cons (o := _) rfl (fun Kx hKx => ?_) ?_
                    · go_simp
                      refine hKx.out _ _ ?_ (fun hHeld => ?_)
                      · first | exact hS1 | exact u2l
                      clear hKx Kx
                      (try simp only [Act.put, List.setIfInBounds_toArray, List.set_cons_zero, List.set_cons_succ])
                      refine wpAnyH_ready (rs := [17]) (by kernel_rfl) (by simp) ?_
                      refine AllReadyH.cons (o := _) rfl (fun Kx hKx => ?_) ?_
                      · refine step_append_lies _ rfl (.tmp 185) (.tmp 194) 51 rfl bs 3 i0 _ 1 8 Tryd.underlying51 hi0 hz0 hz1 hz2 rfl (by decide) (.slice (some ⟨g, 0, none⟩) K rc) K rowc (by first | rfl | simp [Act.eval, Act.put]) (by exact HOl.out) ⟨wr.heap.size, 0, none⟩ 1 1 [.int .i64 xv] (by first | rfl | simp [Act.eval, Act.put]) rfl (lit1 (by simp)) (by first | rfl | (intro u hu; simp at hu; subst hu; rfl)) (by omega) (by unfold maxLen; omega) (by omega) (by exact hbl) _ rfl ?_
                        intro g9 cap9 w14 hown9 hgrow9 hat9 hlt9
                        obtain ⟨⟨b2, ⟨yv, c1⟩, c2⟩, Hs2, hl2, hap2, hst2⟩ := HPut.out w14 g9 cap9 hgrow9 hown9 (hat9.imp id (fun q => q.trans (by simp)))
                        have HLn := Lib.hid hl2
                        have HAn := Lib.hid hap2
                        have HSn := Lib.hid hst2
                        clear hl2 hap2 hst2 hown9 hgrow9 hat9
                        refine hKx.out _ _ ?_ (fun hHeld => ?_)
                        · exact b2
                        clear hKx Kx
                        (try simp only [Act.put, List.setIfInBounds_toArray, List.set_cons_zero, List.set_cons_succ])
                        refine wpAnyH_take (i := 18) (oi := _) (v := ?_) rfl (by kernel_rfl) (by kernel_rfl) (by kernel_rfl) (fun _ _ _ h => h) (Or.inl ⟨by rfl, ?hy18x45⟩) (by assumption) ?hr18x45
                        case hy18x45 =>
                          intro w hSw
                          (try dsimp only at hSw)
                          go_simp
                          (try with_reducible rfl)
                        (try simp only [Act.put, List.setIfInBounds_toArray, List.set_cons_zero, List.set_cons_succ])
                        refine wpAnyH_ready (rs := [19]) (by kernel_rfl) (by simp) ?_
                        refine AllReadyH.cons (o := _) rfl (fun Kx hKx => ?_) ?_
                        · go_simp
                          refine hKx.out _ _ ?_ (fun hHeld => ?_)
                          · (show World.cell? _ _ = _; rw [World.cell?_setCell_far _ _ _ _ hg2v]; exact b2)
                          clear hKx Kx
                          (try simp only [Act.put, List.setIfInBounds_toArray, List.set_cons_zero, List.set_cons_succ])
                          refine wpAnyH_done (by kernel_rfl) ?_ _
                          go_wp2_with fail
                          go_roundw
                          case rel => exact ⟨s + 1, Hs2, by go_num, by omega, HLn, HAn, HSn⟩
                          case measure => simp [intOf]; omega
                        exact AllReadyH.nil
                      exact AllReadyH.nil
                    exact AllReadyH.nil
                  exact AllReadyH.nil
                refine AllReadyH.cons (o := _) rfl (fun Kx hKx => ?_) ?_
                · go_simp
                  refine hKx.out _ _ ?_ (fun hHeld => ?_)
                  · first | exact hS1 | exact u2l
                  clear hKx Kx
                  (try simp only [Act.put, List.setIfInBounds_toArray, List.set_cons_zero, List.set_cons_succ])
                  refine wpAnyH_ready (rs := [7, 16]) (by kernel_rfl) (by simp) ?_
                  refine AllReadyH.cons (o := _) rfl (fun Kx hKx => ?_) ?_
                  · go_simp
                    refine hKx.out _ _ ?_ (fun hHeld => ?_)
                    · first | exact hS1 | exact u2l
                    clear hKx Kx
                    (try simp only [Act.put, List.setIfInBounds_toArray, List.set_cons_zero, List.set_cons_succ])
                    refine wpAnyH_ready (rs := [16]) (by kernel_rfl) (by simp) ?_
                    refine AllReadyH.cons (o := _) rfl (fun Kx hKx => ?_) ?_
                    · go_simp
                      refine hKx.out _ _ ?_ (fun hHeld => ?_)
                      · first | exact hS1 | exact u2l
                      clear hKx Kx
                      (try simp only [Act.put, List.setIfInBounds_toArray, List.set_cons_zero, List.set_cons_succ])
                      refine wpAnyH_ready (rs := [17]) (by kernel_rfl) (by simp) ?_
                      refine AllReadyH.cons (o := _) rfl (fun Kx hKx => ?_) ?_
                      · refine step_append_lies _ rfl (.tmp 185) (.tmp 194) 51 rfl bs 3 i0 _ 1 8 Tryd.underlying51 hi0 hz0 hz1 hz2 rfl (by decide) (.slice (some ⟨g, 0, none⟩) K rc) K rowc (by first | rfl | simp [Act.eval, Act.put]) (by exact HOl.out) ⟨wr.heap.size, 0, none⟩ 1 1 [.int .i64 xv] (by first | rfl | simp [Act.eval, Act.put]) rfl (lit1 (by simp)) (by first | rfl | (intro u hu; simp at hu; subst hu; rfl)) (by omega) (by unfold maxLen; omega) (by omega) (by exact hbl) _ rfl ?_
                        intro g9 cap9 w14 hown9 hgrow9 hat9 hlt9
                        obtain ⟨⟨b2, ⟨yv, c1⟩, c2⟩, Hs2, hl2, hap2, hst2⟩ := HPut.out w14 g9 cap9 hgrow9 hown9 (hat9.imp id (fun q => q.trans (by simp)))
                        have HLn := Lib.hid hl2
                        have HAn := Lib.hid hap2
                        have HSn := Lib.hid hst2
                        clear hl2 hap2 hst2 hown9 hgrow9 hat9
                        refine hKx.out _ _ ?_ (fun hHeld => ?_)
                        · exact b2
                        clear hKx Kx
                        (try simp only [Act.put, List.setIfInBounds_toArray, List.set_cons_zero, List.set_cons_succ])
                        refine wpAnyH_take (i := 18) (oi := _) (v := ?_) rfl (by kernel_rfl) (by kernel_rfl) (by kernel_rfl) (fun _ _ _ h => h) (Or.inl ⟨by rfl, ?hy18x46⟩) (by assumption) ?hr18x46
                        case hy18x46 =>
                          intro w hSw
                          (try dsimp only at hSw)
                          go_simp
                          (try with_reducible rfl)
                        (try simp only [Act.put, List.setIfInBounds_toArray, List.set_cons_zero, List.set_cons_succ])
                        refine wpAnyH_ready (rs := [19]) (by kernel_rfl) (by simp) ?_
                        refine AllReadyH.cons (o := _) rfl (fun Kx hKx => ?_) ?_
                        · go_simp
                          refine hKx.out _ _ ?_ (fun hHeld => ?_)
                          · (show World.cell? _ _ = _; rw [World.cell?_setCell_far _ _ _ _ hg2v]; exact b2)
                          clear hKx Kx
                          (try simp only [Act.put, List.setIfInBounds_toArray, List.set_cons_zero, List.set_cons_succ])
                          refine wpAnyH_done (by kernel_rfl) ?_ _
                          go_wp2_with fail
                          go_roundw
                          case rel => exact ⟨s + 1, Hs2, by go_num, by omega, HLn, HAn, HSn⟩
                          case measure => simp [intOf]; omega
                        exact AllReadyH.nil
                      exact AllReadyH.nil
                    exact AllReadyH.nil
                  refine AllReadyH.cons (o := _) rfl (fun Kx hKx => ?_) ?_
                  · go_simp
                    refine hKx.out _ _ ?_ (fun hHeld => ?_)
                    · first | exact hS1 | exact u2l
                    clear hKx Kx
                    (try simp only [Act.put, List.setIfInBounds_toArray, List.set_cons_zero, List.set_cons_succ])
                    refine wpAnyH_ready (rs := [7]) (by kernel_rfl) (by simp) ?_
                    refine AllReadyH.cons (o := _) rfl (fun Kx hKx => ?_) ?_
                    · go_simp
                      refine hKx.out _ _ ?_ (fun hHeld => ?_)
                      · first | exact hS1 | exact u2l
                      clear hKx Kx
                      (try simp only [Act.put, List.setIfInBounds_toArray, List.set_cons_zero, List.set_cons_succ])
                      refine wpAnyH_ready (rs := [17]) (by kernel_rfl) (by simp) ?_
                      refine AllReadyH.cons (o := _) rfl (fun Kx hKx => ?_) ?_
                      · refine step_append_lies _ rfl (.tmp 185) (.tmp 194) 51 rfl bs 3 i0 _ 1 8 Tryd.underlying51 hi0 hz0 hz1 hz2 rfl (by decide) (.slice (some ⟨g, 0, none⟩) K rc) K rowc (by first | rfl | simp [Act.eval, Act.put]) (by exact HOl.out) ⟨wr.heap.size, 0, none⟩ 1 1 [.int .i64 xv] (by first | rfl | simp [Act.eval, Act.put]) rfl (lit1 (by simp)) (by first | rfl | (intro u hu; simp at hu; subst hu; rfl)) (by omega) (by unfold maxLen; omega) (by omega) (by exact hbl) _ rfl ?_
                        intro g9 cap9 w14 hown9 hgrow9 hat9 hlt9
                        obtain ⟨⟨b2, ⟨yv, c1⟩, c2⟩, Hs2, hl2, hap2, hst2⟩ := HPut.out w14 g9 cap9 hgrow9 hown9 (hat9.imp id (fun q => q.trans (by simp)))
                        have HLn := Lib.hid hl2
                        have HAn := Lib.hid hap2
                        have HSn := Lib.hid hst2
                        clear hl2 hap2 hst2 hown9 hgrow9 hat9
                        refine hKx.out _ _ ?_ (fun hHeld => ?_)
                        · exact b2
                        clear hKx Kx
                        (try simp only [Act.put, List.setIfInBounds_toArray, List.set_cons_zero, List.set_cons_succ])
                        refine wpAnyH_take (i := 18) (oi := _) (v := ?_) rfl (by kernel_rfl) (by kernel_rfl) (by kernel_rfl) (fun _ _ _ h => h) (Or.inl ⟨by rfl, ?hy18x47⟩) (by assumption) ?hr18x47
                        case hy18x47 =>
                          intro w hSw
                          (try dsimp only at hSw)
                          go_simp
                          (try with_reducible rfl)
                        (try simp only [Act.put, List.setIfInBounds_toArray, List.set_cons_zero, List.set_cons_succ])
                        refine wpAnyH_ready (rs := [19]) (by kernel_rfl) (by simp) ?_
                        refine AllReadyH.cons (o := _) rfl (fun Kx hKx => ?_) ?_
                        · go_simp
                          refine hKx.out _ _ ?_ (fun hHeld => ?_)
                          · (show World.cell? _ _ = _; rw [World.cell?_setCell_far _ _ _ _ hg2v]; exact b2)
                          clear hKx Kx
                          (try simp only [Act.put, List.setIfInBounds_toArray, List.set_cons_zero, List.set_cons_succ])
                          refine wpAnyH_done (by kernel_rfl) ?_ _
                          go_wp2_with fail
                          go_roundw
                          case rel => exact ⟨s + 1, Hs2, by go_num, by omega, HLn, HAn, HSn⟩
                          case measure => simp [intOf]; omega
                        exact AllReadyH.nil
                      exact AllReadyH.nil
                    exact AllReadyH.nil
                  exact AllReadyH.nil
                exact AllReadyH.nil
              exact AllReadyH.nil
            · obtain rfl : s = T.n2 := by omega
              have HT3 := HSw3.out Hs (by rw [HLs.out]; exact mapK_all _ _ (by rw [HNl2.out]; exact Nat.le_refl _))
              have hvu := validTable_any { V2 with hs := Hs } wr HS.out.ok
              rw [HT3] at hvu
              simp only [TV.v] at hvu
              rw [HN2.out] at hvu
              have HVu := Lib.hid hvu
              have bb := HS.out.bb
              clear hvu HT3 HLs HApt HS HSw3
              go_wp2_with fail
              refine HVu.out.mono ?_
              rintro e w14 ⟨rfl, g⟩
              replace bb := bb.trans (g.mono bb.size)
              clear g HVu u0 u1 u2 u3
              go_wp2_with fail
              refine (wakesV_any _ (HM0.out.on bb)).mono ?_
              rintro e w9 ⟨rfl, g9⟩
              have bf := bb.trans (g9.mono bb.size)
              clear g9
              go_wp2_with fail
              go_ret
              exact ⟨rfl, bf⟩

/-! From the walk to the row and its card. -/
set_option maxRecDepth 100000 in
theorem contract (H : Type) (enc : TypeId × Value → H) (W : World) (base : Nat) (args : Array Value) (ds gs : List (DataW H)) (before : List MemPlace)
    (hval0 : ∀ (j : Nat) t v, Tryd.f5.params[j]? = some t → args[j]? = some v → Value.okWide Tryd.prog W .any base t v)
    (hW : DataW.Whole enc Tryd.prog Tryd.f5.params.toList Rows.validClassesSpec.vars false W args.toList ds gs before) (hL : laidMetH Tryd.prog Rows.validClassesRow.laid W) :
    Calls Tryd.prog 5 args W fun e W' => ∃ v, e = .returned v ∧ Rows.validClassesSpec.post enc Tryd.prog Tryd.f5 false true false false W args v W' := by
  have hval : ∀ (j : Nat) t v, Tryd.f5.params[j]? = some t → args[j]? = some v → Value.okWide Tryd.prog W .any base t v := hval0
  have hW' := hW
  obtain ⟨p, q, hA0, hV, rfl, hfz, hnd⟩ := hW
  have hA : DataW.TrodAll enc Tryd.prog W 0 (fun _ => true) true Tryd.f5.params.toList args.toList ds p := hA0
  rw [Tryd.params5] at hA hval
  obtain ⟨v0, vs0, d0, ds0, p0, q0, hargs, rfl, rfl, h0, r0⟩ := trodAll_cons hA
  obtain ⟨v1, vs1, d1, ds1, p1, q1, rfl, rfl, rfl, h1, r1⟩ := trodAll_cons r0
  obtain ⟨rfl, rfl, rfl⟩ := trodAll_nil r1
  obtain rfl : args = #[v0, v1] := by cases args; simp_all
  obtain ⟨rfl, rfl⟩ := trodVars_none hV
  obtain ⟨cs0, rfl, _⟩ := okWide_struct Tryd.underlying26 (hval 0 26 v0 rfl rfl)
  have k0 := h0
  have lt0 : ∀ x ∈ p0, x.block < W.heap.size := by obtain ⟨m, hm⟩ := k0; exact DataW.trod_lt m _ _ _ hm
  obtain ⟨T0, e0, ok0⟩ : ∃ T : TV, cs0.toList = [.int .i64 T.cl, .slice T.a1 T.n1 T.c1, .slice T.a2 T.n2 T.c2, .slice T.a3 T.n3 T.c3] ∧ T.ok W := by
    obtain ⟨fuel, hf⟩ := h0
    exact open_table (by simpa [Value.cells] using hf)
  obtain rfl : cs0 = #[.int .i64 T0.cl, .slice T0.a1 T0.n1 T0.c1, .slice T0.a2 T0.n2 T0.c2, .slice T0.a3 T0.n3 T0.c3] := by cases cs0; simp_all
  obtain ⟨cs1, rfl⟩ := okWide_arr Tryd.underlying48 (hval 1 48 v1 rfl rfl)
  have k1 := h1
  have lt1 : ∀ x ∈ p1, x.block < W.heap.size := by obtain ⟨m, hm⟩ := k1; exact DataW.trod_lt m _ _ _ hm
  obtain ⟨x1, y1, e1, bx1, by1⟩ : ∃ x y : Nat, cs1.toList = [.int .u8 (x : Int), .int .u8 (y : Int)] ∧ x < 256 ∧ y < 256 := by
    obtain ⟨fuel, hf⟩ := h1
    exact open_y2 (by simpa [Value.cells] using hf)
  obtain rfl : cs1 = #[.int .u8 (x1 : Int), .int .u8 (y1 : Int)] := by cases cs1; simp_all
  clear hA0 hval0
  refine (walk T0 x1 y1 bx1 by1 W ok0 (mark_of_laid hL)).mono fun e W' ⟨he, bel⟩ => ?_
  subst he
  exact ⟨_, rfl, _, _, _, [], _, [], hW', trodAll_mk1 (shut_bool Tryd.underlying4 _), (trodAll_cons_mk (Below.trod laidOut (by kernel_rfl) (of_decide_eq_true (by kernel_rfl)) k0 bel lt0) (trodAll_cons_mk (Below.trod laidOut (by kernel_rfl) (of_decide_eq_true (by kernel_rfl)) k1 bel lt1) trodAll_mk0)), rfl, bel.frame _, fun h => by cases h⟩

theorem laid_met (os : Os) : laidMet Tryd.prog Rows.validClassesRow.laid ((laidWorld os).forCall (fun _ _ => 0) ⟨#[], #[.agg #[.int .i64 0, .slice none 0 0, .slice none 0 0, .slice none 0 0], .agg #[.int .u8 0, .int .u8 0]], []⟩).memory :=
  laidMet_of_run' 8 (by kernel_rfl) (by kernel_rfl)
theorem reads (os : Os) {H : Type} (enc : TypeId × Value → H) : ∃ places, DataW.whole enc Tryd.prog ((laidWorld os).forCall (fun _ _ => 0) ⟨#[], #[.agg #[.int .i64 0, .slice none 0 0, .slice none 0 0, .slice none 0 0], .agg #[.int .u8 0, .int .u8 0]], []⟩).memory Tryd.f5.params.toList Rows.validClassesSpec.vars false (#[.agg #[.int .i64 0, .slice none 0 0, .slice none 0 0, .slice none 0 0], .agg #[.int .u8 0, .int .u8 0]] : Array Value).toList 8 = some ([.agg [.lit (.int .i64 0), .nil, .nil, .nil], .agg [.lit (.int .u8 0), .lit (.int .u8 0)]], [], places) :=
  ⟨[], by kernel_rfl⟩

set_option maxRecDepth 100000 in
theorem lifted (os : Os) (started : os.Started) (H : Type) (enc : TypeId × Value → H) (F : Stop.Interp) :
    ReturnsInHanded {} Tryd.checked os 5 .any ((OpenSpec.ofChange Rows.validClassesSpec).preRow enc Tryd.prog Tryd.f5 Rows.validClassesRow.domain false Rows.validClassesRow.laid) (((OpenSpec.ofChange Rows.validClassesSpec).at F).post enc Tryd.prog Tryd.f5 false true false false) := by
  obtain ⟨places, hx⟩ := reads os enc
  refine returnsInHanded_of_row (C := Tryd.checked) (s := OpenSpec.ofChange Rows.validClassesSpec) own started (by kernel_rfl) Tryd.func5
    (witness_row_at (enc := enc) (C := Tryd.checked) false (laidWorld os) #[.agg #[.int .i64 0, .slice none 0 0, .slice none 0 0, .slice none 0 0], .agg #[.int .u8 0, .int .u8 0]] rfl (by kernel_rfl) (by kernel_rfl) (by kernel_rfl)
      (OpenSpec.preRow_of_cond 8 hx (by kernel_rfl) (fun k hk => by cases hk) (by kernel_rfl) (laid_met os))) ?_
  intro W base args ds gs before hval hW _ _ _ hL _ _
  exact contract H enc W base args ds gs before hval hW hL

set_option maxRecDepth 100000 in
theorem said : Rows.ValidClassesSaid :=
  OpenClaim.holds_of_cond 5 Tryd.f5 rfl rfl rfl rfl rfl rfl rfl ⟨rfl, rfl, rfl, rfl, rfl⟩ rfl rfl rfl rfl rfl (by kernel_rfl) Tryd.func5 (by kernel_rfl)
    (of_decide_eq_true (by kernel_rfl)) (by unfold Func.isWrapper; first | (rw [if_pos (by decide +kernel)]; kernel_rfl) | (rw [if_neg (by decide +kernel)]; exact ⟨rfl, rfl⟩))
    (fun os started H enc _ F => by rw [OpenClaim.pre_eq_preRow]; exact lifted os started H enc F)

theorem plain (f : FuncId) (fn : Func) (hf : Tryd.pinned.checked.prog.funcNamed Rows.validClassesRow.func = some f) (hfn : Tryd.pinned.checked.prog.funcs[f]? = some fn) :
    false = Tryd.pinned.checked.prog.looks [] ∧ ∀ (j : Nat) t, fn.params[j]? = some t → Tryd.pinned.checked.prog.wantsStandIn t = false := by
  obtain rfl : f = 5 := Option.some.inj ((show Tryd.prog.funcNamed Rows.validClassesRow.func = some 5 by kernel_rfl).symm.trans hf) |>.symm
  obtain rfl : fn = Tryd.f5 := (Option.some.inj (Tryd.func5.symm.trans hfn)).symm
  refine ⟨by kernel_rfl, fun j t ht => ?_⟩
  rw [Tryd.params5] at ht
  have hm : t ∈ [26, 48] := by simpa using Array.mem_of_getElem? ht
  have hall : ([26, 48].all fun u => !Tryd.prog.wantsStandIn u) = true := by kernel_rfl
  exact (show Tryd.prog.wantsStandIn t = false by simpa using List.all_eq_true.1 hall t hm)

theorem card : Rows.ValidClassesCardSaid :=
  Claim7.holds_tied_plain_at .later [] _ _ _ _ said (fun _ h => by cases h) (by kernel_rfl) (fun _ h => by cases h) validClasses_row_tie rfl ⟨rfl, rfl⟩ (by kernel_rfl) rfl plain (by kernel_rfl)
end Go.Proofs.YtmhfgncffkfelaaDoor.validClasses

namespace Go.Proofs.YtmhfgncffkfelaaDoor
/-- The given statement, under a short name. -/
theorem validClasses_holds : Rows.ValidClassesCardSaid := validClasses.card
#print axioms validClasses_holds
end Go.Proofs.YtmhfgncffkfelaaDoor
