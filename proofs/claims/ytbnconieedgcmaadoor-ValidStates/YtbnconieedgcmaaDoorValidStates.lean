/- ValidStates: a table that may be whose states are numbered otherwise may not be, unless it is the same; with a state twice it may not be.
   Conditions: none but the row's own (the mark's variable starts as the program's text lays it). -/
import Derived.Test.YtbnconieedgcmaaDoorStatesV
import Derived.Test.YtbnconieedgcmaaDoorKR3
import Derived.BigRegion
import Derived.BigQuiet
import Derived.Deep.RegionHeld3
import Derived.Deep.CutRange
namespace Go.Proofs.YtbnconieedgcmaaDoor.validStates
open Go.ChangeShapes Go.WideShapes Go.ChangeAt Go.RowKit Go.Deep Go.BigFrame
set_option linter.unusedVariables false
set_option maxRecDepth 4000
set_option linter.unusedSimpArgs false

set_option maxHeartbeats 16000000 in
theorem walk (T : TV) (x y : Nat) (hx : x < 256) (hy : y < 256) (W : World) (hT : T.ok W) (hM : Mark W) :
    Calls Tryd.prog 5 #[T.v, .agg #[.int .u8 (x : Int), .int .u8 (y : Int)]] W fun e W' => e = .returned (.bool true) ∧ Below W.heap.size W W' := by
  obtain ⟨i0, hi0, hz0, hz1, hz2⟩ := info_parts info3
  obtain ⟨j0, hj0, hy0, hy1, hy2⟩ := info_parts info53
  obtain ⟨m0, hm0, hx0, hx1, hx2⟩ := info_parts info4
  have HRT := Lib.hid (fun V (g : Below W.heap.size W V) => refTable_any T V (hT.on g))
  have HVT := Lib.hid (fun V (g : Below W.heap.size W V) => validTable_any T V (hT.on g))
  have HSm : Hid (errV T.tb = 0 → Small T.tb) := Lib.hid (fun h => vd_small h)
  have HOw : Hid (errV T.tb = 0 → ∀ V, Below W.heap.size W V → Calls Tryd.prog 14 #[T.v] V (OutTw T.tb V)) := Lib.hid (fun h V g => ownTableA_any T V (hT.on g) (vd_small h))
  have HL2 : Hid (T.tb.nx.length = T.n2 ∧ T.tb.br.length = T.n3 ∧ T.tb.cl = T.cl) := Lib.hid ⟨by unfold TV.tb; simp only [listsOf_len]; exact hT.r2.1, hT.r3.1, rfl⟩
  have HM0 := Lib.hid hM
  have HX := Lib.hid ((box_new W T).on (below_new _ (.cells #[.int .u8 (x : Int), .int .u8 (y : Int)] 48)))
  clear hT hM
  have bb : Below W.heap.size W ((W.alloc (.cells #[.int .i64 T.cl, .slice T.a1 T.n1 T.c1, .slice T.a2 T.n2 T.c2, .slice T.a3 T.n3 T.c3] 26)).alloc (.cells #[.int .u8 (x : Int), .int .u8 (y : Int)] 48)) := below_call (below_new _ _) (below_new _ _).size (below_new _ _)
  have y0 : ((W.alloc (.cells #[.int .i64 T.cl, .slice T.a1 T.n1 T.c1, .slice T.a2 T.n2 T.c2, .slice T.a3 T.n3 T.c3] 26)).alloc (.cells #[.int .u8 (x : Int), .int .u8 (y : Int)] 48)).cell? ⟨W.heap.size + 1, 0, none⟩ = some (.int .u8 (x : Int)) := by simp
  have y1 : ((W.alloc (.cells #[.int .i64 T.cl, .slice T.a1 T.n1 T.c1, .slice T.a2 T.n2 T.c2, .slice T.a3 T.n3 T.c3] 26)).alloc (.cells #[.int .u8 (x : Int), .int .u8 (y : Int)] 48)).cell? ⟨W.heap.size + 1, 1, none⟩ = some (.int .u8 (y : Int)) := by simp
  generalize T.tb = tb at *
  simp only [TV.v] at *
  obtain ⟨_, p0, p1, p2, p3⟩ := HX.out
  go_enter Tryd.func5, Tryd.ntmps5
  go_wp2_with fail
  generalize (W.alloc (.cells #[.int .i64 T.cl, .slice T.a1 T.n1 T.c1, .slice T.a2 T.n2 T.c2, .slice T.a3 T.n3 T.c3] 26)).alloc (.cells #[.int .u8 (x : Int), .int .u8 (y : Int)] 48) = V0 at *
  refine (HRT.out _ bb).mono ?_
  rintro e w1 ⟨rfl, g⟩
  replace bb := bb.trans (g.mono bb.size)
  replace HX := Lib.hid (HX.out.on g)
  replace y0 := kept_cell g y0
  replace y1 := kept_cell g y1
  clear g
  clear p0 p1 p2 p3
  obtain ⟨_, p0, p1, p2, p3⟩ := HX.out
  by_cases he : errV tb = 0
  case neg =>
    have hn : (errV tb != 0) = true := by rw [bne_iff_ne]; exact he
    generalize errV tb = ev at *
    go_wp2_with fail
    refine (HVT.out _ bb).mono ?_
    rintro e w2 ⟨rfl, g⟩
    replace bb := bb.trans (g.mono bb.size)
    replace HX := Lib.hid (HX.out.on g)
    clear g
    clear p0 p1 p2 p3
    obtain ⟨_, p0, p1, p2, p3⟩ := HX.out
    go_wp2_with fail
    refine (wakesV_any _ (HM0.out.on bb)).mono ?_
    rintro e w9 ⟨rfl, g9⟩
    have bf := bb.trans (g9.mono bb.size)
    clear g9
    go_wp2_with fail
    go_ret
    exact ⟨rfl, bf⟩
  have HVd := Lib.hid (errV_ok.1 he)
  replace HOw := Lib.hid (HOw.out he)
  rw [he]
  clear he HRT HVT HSm
  have hk1 : 1 ≤ T.n2 ∧ T.n2 ≤ 5 := by have h1 := (cntV_iff _).1 HVd.out.cnt; have h2 := h1.n1; have h3 := h1.n2; have h4 := HL2.out.1; omega
  have HK3 : Hid (T.n3 = T.n2) := Lib.hid (by have h1 := (cntV_iff _).1 HVd.out.cnt; have h2 := h1.b1; have h4 := HL2.out; omega)
  obtain ⟨hk1, hk2⟩ := hk1
  have hc1 : 1 ≤ T.cl ∧ T.cl ≤ 8 := by have h1 := (cntV_iff _).1 HVd.out.cnt; have h2 := h1.c1; have h3 := h1.c2; have h4 := HL2.out.2.2; omega
  obtain ⟨hc1, hc2⟩ := hc1
  have hn00 : ((T.n2 : Int) == 0) = false := by rw [beq_eq_false_iff_ne]; omega
  obtain ⟨a, hka, hka1⟩ : ∃ k : Nat, k = x % T.n2 ∧ k < T.n2 := ⟨_, rfl, Nat.mod_lt _ (by omega)⟩
  obtain ⟨b, hkb, hkb1⟩ : ∃ k : Nat, k = y % T.n2 ∧ k < T.n2 := ⟨_, rfl, Nat.mod_lt _ (by omega)⟩
  have i1 : (x : Int) % (T.n2 : Int) = (a : Int) := by rw [hka]; exact (Int.natCast_emod x T.n2).symm
  have i2 : Int.tmod (x : Int) (T.n2 : Int) = (a : Int) := by rw [Int.tmod_eq_emod_of_nonneg (by omega)]; exact i1
  have i3 : (y : Int) % (T.n2 : Int) = (b : Int) := by rw [hkb]; exact (Int.natCast_emod y T.n2).symm
  have i4 : Int.tmod (y : Int) (T.n2 : Int) = (b : Int) := by rw [Int.tmod_eq_emod_of_nonneg (by omega)]; exact i3
  have w1' : IntKind.i64.wrap (a : Int) = (a : Int) := by rw [IntKind.wrap_i64]; omega
  have w2' : IntKind.i64.wrap (b : Int) = (b : Int) := by rw [IntKind.wrap_i64]; omega
  have w4' : IntKind.i64.wrap (x : Int) = (x : Int) := by rw [IntKind.wrap_i64]; omega
  have w5' : IntKind.i64.wrap (y : Int) = (y : Int) := by rw [IntKind.wrap_i64]; omega
  clear hka hkb
  go_wp2_with fail
  go_quiet (fail)
  have gd := below_drewN (Below.refl w1.heap.size w1) nq
  replace bb := bb.trans (gd.mono bb.size)
  replace HX := Lib.hid (HX.out.on gd)
  clear gd y0 y1 i1 i2 i3 i4 w1' w2' w4' w5' hx hy
  clear p0 p1 p2 p3
  generalize w1.drewN nq = w2 at *
  obtain ⟨_, p0, p1, p2, p3⟩ := HX.out
  go_wp2_with fail
  refine (HOw.out _ bb).mono ?_
  rintro e w3 ⟨U, rfl, htb, hokU, g, hown⟩
  have hst := StU.make bb HX.out g hown
  have HUt := Lib.hid htb
  have hUl := hown.z2.len
  have hUr := fun h hh => (hown.z2.inn h hh).1
  have hU3 := hokU.r3.1
  clear g hown hokU p0 p1 p2 p3 bb HX htb
  simp only [TV.v]
  go_wp2_with fail
  generalize w3.alloc (.cells #[.int .i64 U.cl, .slice U.a1 U.n1 U.c1, .slice U.a2 U.n2 U.c2, .slice U.a3 U.n3 U.c3] 26) = w4 at *
  generalize w3.heap.size = gu at *
  generalize w2.heap.size = bs at *
  have HS := Lib.hid hst
  have HUn : Hid (U.n2 = T.n2 ∧ U.n3 = T.n2 ∧ U.hs.length = T.n2 ∧ U.br.length = T.n2 ∧ U.cl = T.cl) := Lib.hid (by
    have e1 : U.tb.nx.length = U.hs.length := by unfold TV.tb; simp only [listsOf_len]
    have e2 : U.tb.br.length = U.br.length := rfl
    have e3 : U.tb.cl = U.cl := rfl
    rw [HUt.out] at e1 e2 e3
    have h4 := HL2.out
    have h5 := HK3.out
    exact ⟨by omega, by omega, by omega, by omega, by omega⟩)
  have haU : a < U.hs.length := by have := HUn.out; omega
  have hbU : b < U.hs.length := by have := HUn.out; omega
  have ha2 : a < U.n2 := by have := HUn.out; omega
  have hb2 : b < U.n2 := by have := HUn.out; omega
  have ha3 : a < U.n3 := by have := HUn.out; omega
  have hb3 : b < U.n3 := by have := HUn.out; omega
  have haB : a < U.br.length := by have := HUn.out; omega
  have hbB : b < U.br.length := by have := HUn.out; omega
  have ha2I : (a : Int) < (U.n2 : Int) := by omega
  have hb2I : (b : Int) < (U.n2 : Int) := by omega
  have ha3I : (a : Int) < (U.n3 : Int) := by omega
  have hb3I : (b : Int) < (U.n3 : Int) := by omega
  have HUl := Lib.hid hUl
  have HUr := Lib.hid hUr
  have HU3 := Lib.hid hU3
  clear hst hUl hUr hU3
  obtain ⟨g2, hA2, hf, ca, cb, hs6⟩ := HS.out.swap haU hbU
  obtain ⟨_, u0, u1, u2, u3⟩ := HS.out.ux
  have hA2x := hA2
  rw [hA2] at u2
  have fa := hf a
  have fb := hf b
  obtain ⟨vb, hvb⟩ := RowKit.cell?_setCell_some (p := ⟨g2, a, none⟩) (x := U.hs[b].v) cb
  have hg2u : g2 ≠ gu := by have h := HS.out.lo.b2 g2 hA2x (by omega); omega
  have u2' : (w4.setCell ⟨g2, a, none⟩ U.hs[b].v).cell? ⟨gu, 2, none⟩ = some (.slice (some ⟨g2, 0, none⟩) U.n2 U.c2) := by rw [World.cell?_setCell_far _ _ _ _ hg2u]; exact u2
  simp only [Hi.v] at ca cb hs6 hvb u2'
  have HS6 := Lib.hid hs6
  clear hs6 hf hA2 hA2x
  go_region
  as_aux_lemma =>
    have HS := Lib.hid (HS6.out.on (Below.drew (Below.refl _ _)))
    clear ca cb fa fb vb hvb u2' hg2u u0 u1 u2 u3 HS6
    generalize ((w4.setCell ⟨g2, a, none⟩ (.slice U.hs[b].a U.hs[b].n U.hs[b].c)).setCell ⟨g2, b, none⟩ (.slice U.hs[a].a U.hs[a].n U.hs[a].c)).drew = w5 at *
    generalize U.hs[a].a = qa1
    generalize U.hs[a].n = qa2
    generalize U.hs[a].c = qa3
    generalize U.hs[b].a = qb1
    generalize U.hs[b].n = qb2
    generalize U.hs[b].c = qb3
    have haB6 : a < ({ U with hs := swapH U.hs a b haU hbU } : TV).br.length := haB
    obtain ⟨g3, hA3, fa, fb, ca, cb, hs7⟩ := HS.out.brk2 (a := a) (b := b) ha3 hb3 haB6 hbB
    obtain ⟨_, u0, u1, u2, u3⟩ := HS.out.ux
    try simp only [] at hA3 ca cb hs7 u0 u1 u2 u3
    have hA3x := hA3
    rw [hA3] at u3
    obtain ⟨vb, hvb⟩ := RowKit.cell?_setCell_some (p := ⟨g3, a, none⟩) (x := .bool U.br[b]) cb
    have hg3u : g3 ≠ gu := by have h := HS.out.lo.b3 g3 hA3x (by show 0 < U.n3; omega); omega
    have u3' : (w5.setCell ⟨g3, a, none⟩ (.bool U.br[b])).cell? ⟨gu, 3, none⟩ = some (.slice (some ⟨g3, 0, none⟩) U.n3 U.c3) := by rw [World.cell?_setCell_far _ _ _ _ hg3u]; exact u3
    have HS7 := Lib.hid hs7
    clear hs7 hA3 hA3x
    go_wp2_with fail
    go_region
    as_aux_lemma =>
      have HS := Lib.hid (HS7.out.on (Below.drew (Below.refl _ _)))
      clear ca cb fa fb vb hvb u3' hg3u u0 u1 u2 u3 HS7
      generalize ((w5.setCell ⟨g3, a, none⟩ (.bool U.br[b])).setCell ⟨g3, b, none⟩ (.bool U.br[a])).drew = w6 at *
      obtain ⟨U', hU'⟩ : ∃ U' : TV, U' = { U with hs := swapH U.hs a b haU hbU, br := (U.br.set a U.br[b]).set b U.br[a] } := ⟨_, rfl⟩
      have HU : Hid (U'.cl = T.cl ∧ U'.n2 = T.n2 ∧ U'.hs.length = T.n2 ∧ listsOf U'.hs = (List.range tb.nx.length).map (fun i => tb.nx.getD (swN a b i) []) ∧ U'.br = (List.range tb.nx.length).map (fun i => tb.br.getD (swN a b i) false) ∧ U'.bd = tb.bd) := Lib.hid (by
        have h := HUn.out
        have e1 : listsOf U.hs = tb.nx := by rw [← HUt.out]; rfl
        have e2 : U.br = tb.br := by rw [← HUt.out]; rfl
        have e3 : U.bd = tb.bd := by rw [← HUt.out]; rfl
        have e4 : U.hs.length = tb.nx.length := by rw [← e1, listsOf_len]
        subst hU'
        refine ⟨by simp only []; exact h.2.2.2.2, by simp only []; exact h.1, by simp only []; rw [swapH_len]; exact h.2.2.1, ?_, ?_, e3⟩
        · simp only []
          rw [swapH_lists, e1, e4]
        · simp only []
          rw [swapB_lists _ _ _ haB hbB, e2]
          have : tb.br.length = tb.nx.length := by have h4 := HL2.out; have h5 := HK3.out; omega
          rw [this])
      rw [← hU'] at HS
      clear hU' HUl HUr HU3 HUn HUt
      obtain ⟨K, hK⟩ : ∃ K : Nat, T.cl = (K : Int) := ⟨T.cl.toNat, by omega⟩
      obtain ⟨L0, hL0⟩ : ∃ L0, L0 = (List.range tb.nx.length).map (fun i => tb.nx.getD (swN a b i) []) := ⟨_, rfl⟩
      have HL0 : Hid (L0.length = T.n2 ∧ ∀ r ∈ L0, r.length = K) := Lib.hid (by
        have h4 := HL2.out
        have hc := (cntV_iff _).1 HVd.out.cnt
        refine ⟨by rw [hL0]; simp; omega, fun r hr => ?_⟩
        rw [hL0] at hr
        obtain ⟨i, hi, rfl⟩ := List.mem_map.1 hr
        have hi' : i < tb.nx.length := by simpa using hi
        have hs : swN a b i < tb.nx.length := by unfold swN; split <;> (try split) <;> omega
        rw [List.getD_eq_getElem?_getD, List.getElem?_eq_getElem hs]
        have := hc.rw _ (List.getElem_mem hs)
        simp only [Option.getD_some]
        omega)
      have HLs : Hid (listsOf U'.hs = parL L0 a b 0 0) := Lib.hid (by rw [parL_zero, hL0]; exact HU.out.2.2.2.1)
      have HSw : Hid (∀ Hs : List Hi, listsOf Hs = parL L0 a b T.n2 0 → ({ U' with hs := Hs } : TV).tb = swapT tb a b) := Lib.hid (fun Hs h => by
        have e : listsOf Hs = L0.map fun r => r.map (renI a b) := by rw [h, ← HL0.out.1, parL_end]
        unfold TV.tb swapT
        simp only [e, HU.out.2.2.2.2.1, HU.out.2.2.2.2.2, HU.out.1, ← HL2.out.2.2, hL0, List.map_map]
        rfl)
      have HS0 : Hid (StU W T bs gu w6 { U' with hs := U'.hs }) := HS
      have hU2 : U'.n2 = T.n2 := HU.out.2.1
      have HU2 := Lib.hid hU2
      have HKc := Lib.hid hK
      have hKb : K ≤ 8 := by omega
      clear HS hL0 hU2 hK
      go_wp2_with fail
      go_loopw [9] (fun vs wr => ∃ (s : Nat) (Hs : List Hi), vs = .int .i64 s ∧ s ≤ T.n2 ∧ Hid (listsOf Hs = parL L0 a b s 0) ∧ Hid (StU W T bs gu wr { U' with hs := Hs })) (fun vs _ => T.n2 - (intOf vs).toNat)
      case atStart => exact ⟨0, _, rfl, Nat.zero_le _, HLs, HS0⟩
      case round =>
        clear HLs HS0
        obtain ⟨s, Hs, rfl, hs, HLs, HS⟩ := hrel
        by_cases hlt : s < T.n2
        · rename World => w7
          go_wp2_with fail
          go_loopw [10] (fun vc wr => ∃ (c : Nat) (Hs : List Hi), vc = .int .i64 c ∧ c ≤ K ∧ Hid (listsOf Hs = parL L0 a b s c) ∧ Hid (StU W T bs gu wr { U' with hs := Hs })) (fun vc _ => K - (intOf vc).toNat)
          case atStart => exact ⟨0, Hs, rfl, Nat.zero_le _, HLs, HS⟩
          case round =>
            clear HLs HS
            obtain ⟨c, Hs, rfl, hc, HLs, HS⟩ := hrel
            obtain ⟨_, p0, p1, p2, p3⟩ := HS.out.bx
            rw [HKc.out] at p0
            by_cases hcK : c < K
            · have hsL : s < L0.length := by have := HL0.out.1; omega
              have hcL : c < L0[s].length := by rw [HL0.out.2 _ (List.getElem_mem hsL)]; exact hcK
              have hsH : s < Hs.length := by rw [← listsOf_len, HLs.out, parL_len]; exact hsL
              obtain ⟨_, ⟨hcl, hval⟩, hput⟩ := parL_put HLs.out hsH hsL hcL
              have hn : Hs[s].l.length = Hs[s].n := (HS.out.ow.z2.inn _ (List.getElem_mem hsH)).1
              have hcn : c < Hs[s].n := by omega
              obtain ⟨g2, g, hA2, hAr, ce, fe, cv, hst⟩ := HS.out.ent (s := s) (c := c) hsH hcn hcl
              obtain ⟨_, u0, u1, u2, u3⟩ := HS.out.ux
              try simp only [] at u0 u1 u2 u3 hA2 ce cv fe hst
              rw [hA2, HU2.out] at u2
              rw [hval] at cv
              have HPut := Lib.hid hput
              have HSt := Lib.hid hst
              have HSame : Hid (renI a b L0[s][c] = L0[s][c] → listsOf Hs = parL L0 a b s (c + 1)) := Lib.hid (fun h => by rw [parL_same hsL hcL h]; exact HLs.out)
              have hrn : Hs[s].n = K := by rw [← hn]; have := HLs.out; have h2 := (parL_put HLs.out hsH hsL hcL).1; rw [h2, parR_len]; exact HL0.out.2 _ (List.getElem_mem hsL)
              rw [hrn] at ce
              have hsI : (s : Int) < (T.n2 : Int) := by omega
              have hcI : (c : Int) < (K : Int) := by omega
              generalize hev : L0[s][c] = ev at *
              clear hput hst hn hcn hrn hval hAr hA2 hev HLs p1 p2 p3
              generalize Hs[s].c = rc at *
              have fin : True := trivial
              by_cases h1 : ev = (a : Int)
              · subst h1
                have HL2' := Lib.hid (HPut.out (b : Int) (renI_a a b))
                have HS2 := Lib.hid (HSt.out (b : Int))
                have q1 : ((a : Int) == (a : Int)) = true := by simp
                clear HPut HSt HSame
                go_wp2_with fail
                go_roundw
                case rel => exact ⟨c + 1, _, by go_num, by omega, HL2', HS2⟩
                case measure => simp [intOf]; omega
              · have q1 : (ev == (a : Int)) = false := by rw [beq_eq_false_iff_ne]; exact h1
                by_cases h2 : ev = (b : Int)
                · subst h2
                  have HL2' := Lib.hid (HPut.out (a : Int) (renI_b a b))
                  have HS2 := Lib.hid (HSt.out (a : Int))
                  have q2 : ((b : Int) == (b : Int)) = true := by simp
                  clear HPut HSt HSame h1
                  go_wp2_with fail
                  go_roundw
                  case rel => exact ⟨c + 1, _, by go_num, by omega, HL2', HS2⟩
                  case measure => simp [intOf]; omega
                · have q2 : (ev == (b : Int)) = false := by rw [beq_eq_false_iff_ne]; exact h2
                  have HL2' := Lib.hid (HSame.out (renI_o h1 h2))
                  clear HPut HSt HSame h1 h2
                  go_wp2_with fail
                  go_roundw
                  case rel => exact ⟨c + 1, _, by go_num, by omega, HL2', HS⟩
                  case measure => simp [intOf]; omega
            · obtain rfl : c = K := by omega
              have HLn : Hid (listsOf Hs = parL L0 a b (s + 1) 0) := Lib.hid (by rw [HLs.out]; exact parL_row L0 a b s c HL0.out.2)
              clear HLs
              go_wp2_with fail
              go_roundw
              case rel => exact ⟨s + 1, Hs, by go_num, by omega, HLn, HS⟩
              case measure => simp [intOf]; omega
        · obtain rfl : s = T.n2 := by omega
          have HT2 := Lib.hid (HSw.out Hs HLs.out)
          have hvu := validTable_any { U' with hs := Hs } wr HS.out.ow.ok
          rw [HT2.out] at hvu
          have HVu := Lib.hid hvu
          have HEr : Hid ((a = b → errV (swapT tb a b) = 0) ∧ (a ≠ b → a ≠ 0 → b ≠ 0 → errV (swapT tb a b) = 29)) := Lib.hid (by
            have hl := HL2.out.1
            refine ⟨fun h => ?_, fun h h1 h2 => swapT_err HVd.out (by omega) (by omega) h h1 h2⟩
            subst h
            rw [swapT_self HVd.out]
            exact errV_ok.2 HVd.out)
          generalize errV (swapT tb a b) = e1 at *
          clear hvu HT2 HLs HSw HU HKc
          obtain ⟨_, u0, u1, u2, u3⟩ := HS.out.ux
          try simp only [] at u0 u1 u2 u3
          simp only [TV.v] at HVu
          go_wp2_with fail
          refine HVu.out.mono ?_
          rintro e w8 ⟨rfl, g⟩
          replace HS := Lib.hid (HS.out.on g)
          clear g HVu u0 u1 u2 u3
          go_upto_region 19 with (fail)
          go_cut [129] from 123 to 129 (fun v129 wx => v129 = .bool false ∧ wx = w8)
          case first =>
            by_cases hab : a = b
            · subst hab
              have h0 := HEr.out.1 rfl
              subst h0
              have q1 : ((a : Int) == (a : Int)) = true := by simp
              clear HEr
              go_wp2_with fail
              go_meet
              exact ⟨by first | rfl | trivial, by first | rfl | trivial⟩
            · have q1 : ((a : Int) == (b : Int)) = false := by rw [beq_eq_false_iff_ne]; omega
              clear HEr
              go_wp2_with fail
              go_meet
              exact ⟨by first | rfl | trivial, by first | rfl | trivial⟩
          obtain ⟨rfl, rfl⟩ := hcut
          go_upto_region 21 with (fail)
          go_cut [144] from 130 to 144 (fun v144 wx => v144 = .bool false ∧ wx = wc)
          case first =>
            by_cases hab : a = b
            · subst hab
              have q2 : ((a : Int) != (a : Int)) = false := by simp
              clear HEr
              go_wp2_with fail
              go_meet
              exact ⟨by first | rfl | trivial, by first | rfl | trivial⟩
            · have q2 : ((a : Int) != (b : Int)) = true := by rw [bne_iff_ne]; omega
              by_cases ha0 : a = 0
              · have q3 : ((a : Int) != 0) = false := by simp; omega
                clear HEr ha0
                go_wp2_with fail
                go_meet
                exact ⟨by first | rfl | trivial, by first | rfl | trivial⟩
              · have q3 : ((a : Int) != 0) = true := by rw [bne_iff_ne]; omega
                by_cases hb0 : b = 0
                · have q4 : ((b : Int) != 0) = false := by simp; omega
                  clear HEr hb0
                  go_wp2_with fail
                  go_meet
                  exact ⟨by first | rfl | trivial, by first | rfl | trivial⟩
                · have q4 : ((b : Int) != 0) = true := by rw [bne_iff_ne]; omega
                  have h29 := HEr.out.2 hab ha0 hb0
                  subst h29
                  clear HEr
                  go_wp2_with fail
                  go_meet
                  exact ⟨by first | rfl | trivial, by first | rfl | trivial⟩
          obtain ⟨rfl, rfl⟩ := hcut
          rename World => w8
          have bb := HS.out.bb
          replace HX := Lib.hid HS.out.bx
          clear HS HEr
          by_cases hk5 : T.n2 < 5
          case neg =>
            have hk5I : ¬ (T.n2 : Int) < 5 := by omega
            go_wp2_with fail
            refine (wakesV_any _ (HM0.out.on bb)).mono ?_
            rintro e w9 ⟨rfl, g9⟩
            have bf := bb.trans (g9.mono bb.size)
            clear g9
            go_wp2_with fail
            go_ret
            exact ⟨rfl, bf⟩
          have hk5I : (T.n2 : Int) < 5 := by omega
          obtain ⟨_, p0, p1, p2, p3⟩ := HX.out
          go_wp2_with fail
          refine (HOw.out _ bb).mono ?_
          rintro e w9 ⟨V0, rfl, htb, hokV, g, hown⟩
          have hVl : V0.n2 = T.n2 ∧ V0.n3 = T.n2 ∧ V0.hs.length = T.n2 ∧ V0.br.length = T.n2 ∧ 0 < V0.n1 := by
            have f1 : V0.tb.nx.length = V0.hs.length := by unfold TV.tb; simp only [listsOf_len]
            have f2 : V0.tb.br.length = V0.br.length := rfl
            have f3 : V0.tb.bd.length = V0.bd.length := rfl
            rw [htb] at f1 f2 f3
            have f4 := HL2.out
            have f5 := HK3.out
            have f6 := hown.z2.len
            have f7 := hokV.r3.1
            have f8 := hokV.r1.1
            have f9 := ((cntV_iff _).1 HVd.out.cnt).k1
            exact ⟨by omega, by omega, by omega, by omega, by omega⟩
          have hst := StV.make bb g hown hVl.2.2.2.2 (by omega)
          have HV := Lib.hid hst
          have HVt := Lib.hid htb
          have HVl := Lib.hid hVl
          clear hVl
          have hbs := g.size
          clear g hown hokV p0 p1 p2 p3 bb HX hst htb
          simp only [TV.v]
          go_wp2_with fail
          generalize w9.alloc (.cells #[.int .i64 V0.cl, .slice V0.a1 V0.n1 V0.c1, .slice V0.a2 V0.n2 V0.c2, .slice V0.a3 V0.n3 V0.c3] 26) = w10 at *
          generalize w9.heap.size = gv at *
          generalize w8.heap.size = bs at *
          obtain ⟨_, u0, u1, u2, u3⟩ := HV.out.vx
          have haV : a < V0.hs.length := by have := HVl.out; omega
          obtain ⟨b2, o2, hA2, _, y0, rI, sI⟩ := HV.out.z2.nest.1.at haV
          obtain ⟨g2, cap2, hf2, _, _⟩ := HV.out.z2.out.form (by have := HVl.out; omega)
          have hAv : V0.a2 = some ⟨g2, 0, none⟩ := by injection hf2
          rw [hAv] at hA2 u2
          injection hA2 with hA2
          injection hA2 with h1 h2
          subst h1 h2
          simp only [Nat.zero_add] at y0
          have HXl : Hid (V0.hs[a].l = tb.nx.getD a []) := Lib.hid (by
            rw [← HVt.out]
            unfold TV.tb
            rw [List.getD_eq_getElem?_getD, List.getElem?_eq_getElem (by rw [listsOf_len]; exact haV), listsOf_at _ _ haV]; rfl)
          have HXn : Hid (V0.hs[a].n ≤ 8) := Lib.hid (by
            have f1 := rI.1
            rw [HXl.out, List.getD_eq_getElem?_getD, List.getElem?_eq_getElem (by have := HL2.out.1; omega)] at f1
            have f2 := ((cntV_iff _).1 HVd.out.cnt).rw _ (List.getElem_mem (show a < tb.nx.length by have := HL2.out.1; omega))
            have f3 := ((cntV_iff _).1 HVd.out.cnt).c2
            simp only [Option.getD_some] at f1
            omega)
          generalize V0.hs[a] = xr at *
          obtain ⟨xa, xn, xc, xl⟩ := xr
          try simp only [] at y0 rI sI HXl HXn
          have gO : Below w10.heap.size w10 (w10.alloc (.cells #[] 3)).drew := Below.drew (below_new _ _)
          have HOm : Hid ((w10.alloc (.cells #[] 3)).drew.ownsRow w10.heap.size 3 1 (.slice (some ⟨w10.heap.size, 0, none⟩) 0 0) 0 []) := Lib.hid (World.ownsRow_made (e := 3) (size := 1) w10 #[] 0 (Nat.le_refl _) (Nat.zero_le _) (by simp))
          have HRl := Lib.hid (rI.2.below gO)
          have HSo : Hid (w10.heap.size ≤ (w10.alloc (.cells #[] 3)).drew.heap.size) := Lib.hid gO.size
          have HGo := Lib.hid gO
          have HNil : Hid (xa = none → xc = 0) := Lib.hid sI.1
          have HOne := Lib.hid (icells_one xl)
          have HLx := Lib.hid rI.1
          have hxn := HXn.out
          have haI : (a : Int) < (V0.n2 : Int) := by have := HVl.out; omega
          have haN : a < V0.n2 := by have := HVl.out; omega
          have fz2 := HV.out.fz 2
          have hgv10 : gv < w10.heap.size := HV.out.vx.1
          have HG0 := Lib.hid HV.out.hg
          have HG1 : Hid (bs ≤ w10.heap.size) := Lib.hid (Nat.le_trans HV.out.hg (Nat.le_of_lt HV.out.vx.1))
          clear gO rI sI HXn haV hf2
          have hn2 : V0.n2 ≤ 5 := by have := HVl.out; omega
          generalize hxx : V0.a2 = A2 at *
          subst hAv
          have HVa := Lib.hid hxx
          clear hxx
          go_cut [12] from 149 to 160 (fun v12 wx => v12 = .pointer (some ⟨gv, 0, none⟩) ∧ ∃ (g9 c9 : Nat) (x : Hi), x.l = xl ∧ StV W bs gv wx { V0 with a2 := some ⟨g9, 0, none⟩, n2 := V0.n2 + 1, c2 := c9, hs := V0.hs ++ [x] })
          case first => as_aux_lemma =>
            go_region_law (first
              | (refine step_append_src rfl (.tmp 151) (.tmp 156) 49 rfl w10.heap.size 3 i0 _ 1 8 Tryd.underlying49 hi0 hz0 hz1 hz2 rfl (by decide) (.slice (some ⟨w10.heap.size, 0, none⟩) 0 0) 0 [] (by first | rfl | simp [Act.eval, Act.put]) (by exact HOm.out) xa xn xc w10.heap.size (icells xl) (by first | rfl | simp [Act.eval, Act.put]) HNil.out (by exact HRl.out) HOne.out (by unfold maxLen; omega) (by omega) (by exact HSo.out) ?_; intro A3 d3 w3 hown3 hn3 hgrow3; have g3 := below_grown HGo.out HSo.out HOm.out hgrow3; have u2x := kept_cell g3 u2; have y0x := kept_cell g3 y0; have HV3 := Lib.hid (HV.out.on g3); have HO4 := Lib.hid (HV3.out.z2.out.alloc (.cells #[.slice A3 xn d3] 49)); have hb3 : bs ≤ (w3.alloc (.cells #[.slice A3 xn d3] 49)).heap.size := Nat.le_trans HG0.out (Nat.le_of_lt (Nat.lt_of_lt_of_le HV3.out.vx.1 (below_new _ _).size)); have fz3 := HV3.out.fz 2; have hgv3 : gv < w3.heap.size := HV3.out.vx.1; have u2y := kept_cell (below_new w3 (.cells #[.slice A3 xn d3] 49)) u2x; have HV4 := Lib.hid (HV3.out.on (below_new w3 (.cells #[.slice A3 xn d3] 49))); have HX3 : Hid ((w3.alloc (.cells #[.slice A3 xn d3] 49)).ownsRow bs 3 1 (.slice A3 xn d3) xn (icells xl)) := Lib.hid (own_below (own_base (by simpa using hown3) HG1.out) (below_new _ _)); have HX4 : Hid ((Value.slice A3 xn d3).ownBlock ≠ some gv) := Lib.hid (fun e => by have := (hown3.lt gv (by simpa using e)).1; omega))
              | (refine step_append_lies _ rfl (.tmp 150) (.tmp 158) 23 rfl bs 49 j0 _ 1 24 Tryd.underlying23 hj0 hy0 hy1 hy2 rfl (by decide) (.slice (some ⟨g2, 0, none⟩) V0.n2 V0.c2) V0.n2 (icellsOf V0.hs) (by first | rfl | simp [Act.eval, Act.put]) (by rw [← HVa.out]; exact HO4.out) ⟨w3.heap.size, 0, none⟩ 1 1 [.slice A3 xn d3] (by first | rfl | simp [Act.eval, Act.put]) rfl (lit1 (by simp)) (by first | rfl | (intro u hu; simp at hu; subst hu; rfl)) (by omega) (by unfold maxLen; omega) (by omega) (by exact hb3) _ rfl ?_; intro g9 cap9 w4 hown9 hgrow9 hat9 hlt9; obtain ⟨⟨_, k0, k1, k2, k3⟩, kf⟩ := HV4.out.grown hgrow9 (by rw [← HVa.out]; exact HV4.out.m2); have kf2 := kf 2))
            all_goals
              go_wp2_with fail
              go_meet
              refine ⟨rfl, g9, cap9, ⟨A3, xn, d3, xl⟩, rfl, HV4.out.next (x := ⟨A3, xn, d3, xl⟩) ⟨HLx.out, HX3.out⟩ HX4.out (by rw [HVa.out]; exact hgrow9) hown9 (by rw [HVa.out]; exact hat9) (Nat.lt_of_lt_of_le HV3.out.vx.1 (below_new _ _).size)⟩
          obtain ⟨rfl, g9, c9, x, hxl, hst⟩ := hcut
          obtain ⟨V1, hV1⟩ : ∃ V1 : TV, V1 = { V0 with a2 := some ⟨g9, 0, none⟩, n2 := V0.n2 + 1, c2 := c9, hs := V0.hs ++ [x] } := ⟨_, rfl⟩
          rw [← hV1] at hst
          have HV1 : Hid (V1.n3 = T.n2 ∧ V1.br = tb.br ∧ V1.br.length = T.n2 ∧ listsOf V1.hs = tb.nx ++ [tb.nx.getD a []] ∧ V1.bd = tb.bd ∧ V1.cl = tb.cl) := Lib.hid (by
            have f := HVl.out
            have e1 : listsOf V0.hs = tb.nx := by rw [← HVt.out]; rfl
            have e2 : V0.br = tb.br := by rw [← HVt.out]; rfl
            have e3 : V0.bd = tb.bd := by rw [← HVt.out]; rfl
            have e4 : V0.cl = tb.cl := by rw [← HVt.out]; rfl
            have e5 : listsOf (V0.hs ++ [x]) = listsOf V0.hs ++ [x.l] := by simp [listsOf]
            subst hV1
            refine ⟨f.2.1, e2, f.2.2.2.1, ?_, e3, e4⟩
            show listsOf (V0.hs ++ [x]) = _
            rw [e5, e1, hxl, HXl.out])
          have HV5 := Lib.hid hst
          clear hst hV1 hxl HV HVt HVl HXl HLx HOne HNil HOm HRl HSo HGo HG0 HG1 HVa u0 u1 u2 u3 y0 fz2
          obtain ⟨_, u0, u1, u2, u3⟩ := HV5.out.vx
          have haB1 : a < V1.br.length := by have := HV1.out; omega
          obtain ⟨b3, o3, hA3, _, y0⟩ := (own_RL HV5.out.z3).at haB1
          obtain ⟨g3, cap3, hf3, _, _⟩ := HV5.out.z3.form (by have := HV1.out; omega)
          have hAv : V1.a3 = some ⟨g3, 0, none⟩ := by injection hf3
          rw [hAv] at hA3 u3
          injection hA3 with hA3
          injection hA3 with h1 h2
          subst h1 h2
          simp only [Nat.zero_add] at y0
          have HXb : Hid (V1.br[a] = tb.br.getD a false) := Lib.hid (by
            rw [← HV1.out.2.1, List.getD_eq_getElem?_getD, List.getElem?_eq_getElem haB1]; rfl)
          generalize V1.br[a] = ba at *
          have gE : Below wc.heap.size wc (wc.alloc (.cells #[.bool ba] 4)).drew := Below.drew (below_new _ _)
          have HV6 := Lib.hid (HV5.out.on gE)
          have HO6 := Lib.hid HV6.out.z3
          have hb6 : bs ≤ (wc.alloc (.cells #[.bool ba] 4)).drew.heap.size := Nat.le_trans HV6.out.hg (Nat.le_of_lt HV6.out.vx.1)
          have HB6 := Lib.hid hb6
          have hl6 : gv < (wc.alloc (.cells #[.bool ba] 4)).drew.heap.size := HV6.out.vx.1
          have HL6 := Lib.hid hl6
          have haI3 : (a : Int) < (V1.n3 : Int) := by have := HV1.out; omega
          have haN3 : a < V1.n3 := by have := HV1.out; omega
          have hn3 : V1.n3 ≤ 5 := by have := HV1.out; omega
          have fz3 := HV5.out.fz 3
          have hgv5 : gv < wc.heap.size := HV5.out.vx.1
          clear gE hb6 hl6 hf3 haB1
          generalize hxx : V1.a3 = A3 at *
          subst hAv
          have HVa := Lib.hid hxx
          clear hxx
          go_upto_region 26 with (fail)
          go_cut [12] from 161 to 170 (fun v12 wx => v12 = .pointer (some ⟨gv, 0, none⟩) ∧ ∃ (g9 c9 : Nat), StV W bs gv wx { V1 with a3 := some ⟨g9, 0, none⟩, n3 := V1.n3 + 1, c3 := c9, br := V1.br ++ [ba] })
          case first => as_aux_lemma =>
            go_region_law (refine step_append_lies _ rfl (.tmp 162) (.tmp 168) 24 rfl bs 4 m0 _ 1 1 Tryd.underlying24 hm0 hx0 hx1 hx2 rfl (by decide) (.slice (some ⟨g3, 0, none⟩) V1.n3 V1.c3) V1.n3 (bcells V1.br) (by first | rfl | simp [Act.eval, Act.put]) (by exact HO6.out) ⟨wc.heap.size, 0, none⟩ 1 1 [.bool ba] (by first | rfl | simp [Act.eval, Act.put]) rfl (lit1 (by simp)) (by first | rfl | (intro u hu; simp at hu; subst hu; rfl)) (by omega) (by unfold maxLen; omega) (by omega) (by exact HB6.out) _ rfl ?_; intro g9 cap9 w4 hown9 hgrow9 hat9 hlt9; obtain ⟨⟨_, k0, k1, k2, k3⟩, kf⟩ := HV6.out.grown hgrow9 (by rw [← HVa.out]; exact HV6.out.m3); have kf3 := kf 3)
            all_goals
              go_wp2_with fail
              go_meet
              refine ⟨rfl, g9, cap9, HV6.out.brk (by rw [HVa.out]; exact hgrow9) hown9 (by rw [HVa.out]; exact hat9) HL6.out⟩
          obtain ⟨rfl, g10, c10, hst⟩ := hcut
          rename World => w12
          have hvu := validTable_any _ w12 hst.ok
          have htb2 : ({ V1 with a3 := some ⟨g10, 0, none⟩, n3 := V1.n3 + 1, c3 := c10, br := V1.br ++ [ba] } : TV).tb = addT tb a := by
            have f := HV1.out
            unfold TV.tb addT
            simp only [f.2.2.2.1, f.2.2.2.2.1, f.2.2.2.2.2, f.2.1, HXb.out]
          rw [htb2, addT_err HVd.out (by have := HL2.out.1; omega) (by have := HL2.out.1; omega)] at hvu
          have HVu := Lib.hid hvu
          have bb := hst.bb
          obtain ⟨_, u0, u1, u2, u3⟩ := hst.vx
          try simp only [] at u0 u1 u2 u3
          simp only [TV.v] at HVu
          clear hst hvu htb2 HV6 HO6 HB6 HL6 HV5
          go_wp2_with fail
          refine HVu.out.mono ?_
          rintro e w13 ⟨rfl, g⟩
          replace bb := bb.trans (g.mono bb.size)
          clear g HVu u0 u1 u2 u3
          go_wp2_with fail
          refine (wakesV_any _ (HM0.out.on bb)).mono ?_
          rintro e w14 ⟨rfl, g14⟩
          have bf := bb.trans (g14.mono bb.size)
          clear g14
          go_wp2_with fail
          go_ret
          exact ⟨rfl, bf⟩

/-! From the walk to the row and its card. -/
set_option maxRecDepth 100000 in
theorem contract (H : Type) (enc : TypeId × Value → H) (W : World) (base : Nat) (args : Array Value) (ds gs : List (DataW H)) (before : List MemPlace)
    (hval0 : ∀ (j : Nat) t v, Tryd.f5.params[j]? = some t → args[j]? = some v → Value.okWide Tryd.prog W .any base t v)
    (hW : DataW.Whole enc Tryd.prog Tryd.f5.params.toList Rows.validStatesSpec.vars false W args.toList ds gs before) (hL : laidMetH Tryd.prog Rows.validStatesRow.laid W) :
    Calls Tryd.prog 5 args W fun e W' => ∃ v, e = .returned v ∧ Rows.validStatesSpec.post enc Tryd.prog Tryd.f5 false true false false W args v W' := by
  have hval : ∀ (j : Nat) t v, Tryd.f5.params[j]? = some t → args[j]? = some v → Value.okWide Tryd.prog W .any base t v := hval0
  have hW' := hW
  obtain ⟨p, q, hA0, hV, rfl, hfz, hnd⟩ := hW
  have hA : DataW.TrodAll enc Tryd.prog W 0 (fun _ => true) true Tryd.f5.params.toList args.toList ds p := hA0
  rw [Tryd.params5] at hA hval
  obtain ⟨v0, vs0, d0, ds0, p0, q0, hargs, rfl, rfl, h0, r0⟩ := trodAll_cons hA
  obtain ⟨v1, vs1, d1, ds1, p1, q1, rfl, rfl, rfl, h1, r1⟩ := trodAll_cons r0
  obtain ⟨rfl, rfl, rfl⟩ := trodAll_nil r1
  obtain rfl : args = #[v0, v1] := by cases args; simp_all
  obtain ⟨rfl, rfl⟩ := trodVars_none hV
  obtain ⟨cs0, rfl, _⟩ := okWide_struct Tryd.underlying26 (hval 0 26 v0 rfl rfl)
  have k0 := h0
  have lt0 : ∀ x ∈ p0, x.block < W.heap.size := by obtain ⟨m, hm⟩ := k0; exact DataW.trod_lt m _ _ _ hm
  obtain ⟨T0, e0, ok0⟩ : ∃ T : TV, cs0.toList = [.int .i64 T.cl, .slice T.a1 T.n1 T.c1, .slice T.a2 T.n2 T.c2, .slice T.a3 T.n3 T.c3] ∧ T.ok W := by
    obtain ⟨fuel, hf⟩ := h0
    exact open_table (by simpa [Value.cells] using hf)
  obtain rfl : cs0 = #[.int .i64 T0.cl, .slice T0.a1 T0.n1 T0.c1, .slice T0.a2 T0.n2 T0.c2, .slice T0.a3 T0.n3 T0.c3] := by cases cs0; simp_all
  obtain ⟨cs1, rfl⟩ := okWide_arr Tryd.underlying48 (hval 1 48 v1 rfl rfl)
  have k1 := h1
  have lt1 : ∀ x ∈ p1, x.block < W.heap.size := by obtain ⟨m, hm⟩ := k1; exact DataW.trod_lt m _ _ _ hm
  obtain ⟨x1, y1, e1, bx1, by1⟩ : ∃ x y : Nat, cs1.toList = [.int .u8 (x : Int), .int .u8 (y : Int)] ∧ x < 256 ∧ y < 256 := by
    obtain ⟨fuel, hf⟩ := h1
    exact open_y2 (by simpa [Value.cells] using hf)
  obtain rfl : cs1 = #[.int .u8 (x1 : Int), .int .u8 (y1 : Int)] := by cases cs1; simp_all
  clear hA0 hval0
  refine (walk T0 x1 y1 bx1 by1 W ok0 (mark_of_laid hL)).mono fun e W' ⟨he, bel⟩ => ?_
  subst he
  exact ⟨_, rfl, _, _, _, [], _, [], hW', trodAll_mk1 (shut_bool Tryd.underlying4 _), (trodAll_cons_mk (Below.trod laidOut (by kernel_rfl) (of_decide_eq_true (by kernel_rfl)) k0 bel lt0) (trodAll_cons_mk (Below.trod laidOut (by kernel_rfl) (of_decide_eq_true (by kernel_rfl)) k1 bel lt1) trodAll_mk0)), rfl, bel.frame _, fun h => by cases h⟩

theorem laid_met (os : Os) : laidMet Tryd.prog Rows.validStatesRow.laid ((laidWorld os).forCall (fun _ _ => 0) ⟨#[], #[.agg #[.int .i64 0, .slice none 0 0, .slice none 0 0, .slice none 0 0], .agg #[.int .u8 0, .int .u8 0]], []⟩).memory :=
  laidMet_of_run' 8 (by kernel_rfl) (by kernel_rfl)
theorem reads (os : Os) {H : Type} (enc : TypeId × Value → H) : ∃ places, DataW.whole enc Tryd.prog ((laidWorld os).forCall (fun _ _ => 0) ⟨#[], #[.agg #[.int .i64 0, .slice none 0 0, .slice none 0 0, .slice none 0 0], .agg #[.int .u8 0, .int .u8 0]], []⟩).memory Tryd.f5.params.toList Rows.validStatesSpec.vars false (#[.agg #[.int .i64 0, .slice none 0 0, .slice none 0 0, .slice none 0 0], .agg #[.int .u8 0, .int .u8 0]] : Array Value).toList 8 = some ([.agg [.lit (.int .i64 0), .nil, .nil, .nil], .agg [.lit (.int .u8 0), .lit (.int .u8 0)]], [], places) :=
  ⟨[], by kernel_rfl⟩

set_option maxRecDepth 100000 in
theorem lifted (os : Os) (started : os.Started) (H : Type) (enc : TypeId × Value → H) (F : Stop.Interp) :
    ReturnsInHanded {} Tryd.checked os 5 .any ((OpenSpec.ofChange Rows.validStatesSpec).preRow enc Tryd.prog Tryd.f5 Rows.validStatesRow.domain false Rows.validStatesRow.laid) (((OpenSpec.ofChange Rows.validStatesSpec).at F).post enc Tryd.prog Tryd.f5 false true false false) := by
  obtain ⟨places, hx⟩ := reads os enc
  refine returnsInHanded_of_row (C := Tryd.checked) (s := OpenSpec.ofChange Rows.validStatesSpec) own started (by kernel_rfl) Tryd.func5
    (witness_row_at (enc := enc) (C := Tryd.checked) false (laidWorld os) #[.agg #[.int .i64 0, .slice none 0 0, .slice none 0 0, .slice none 0 0], .agg #[.int .u8 0, .int .u8 0]] rfl (by kernel_rfl) (by kernel_rfl) (by kernel_rfl)
      (OpenSpec.preRow_of_cond 8 hx (by kernel_rfl) (fun k hk => by cases hk) (by kernel_rfl) (laid_met os))) ?_
  intro W base args ds gs before hval hW _ _ _ hL _ _
  exact contract H enc W base args ds gs before hval hW hL

set_option maxRecDepth 100000 in
theorem said : Rows.ValidStatesSaid :=
  OpenClaim.holds_of_cond 5 Tryd.f5 rfl rfl rfl rfl rfl rfl rfl ⟨rfl, rfl, rfl, rfl, rfl⟩ rfl rfl rfl rfl rfl (by kernel_rfl) Tryd.func5 (by kernel_rfl)
    (of_decide_eq_true (by kernel_rfl)) (by unfold Func.isWrapper; first | (rw [if_pos (by decide +kernel)]; kernel_rfl) | (rw [if_neg (by decide +kernel)]; exact ⟨rfl, rfl⟩))
    (fun os started H enc _ F => by rw [OpenClaim.pre_eq_preRow]; exact lifted os started H enc F)

theorem plain (f : FuncId) (fn : Func) (hf : Tryd.pinned.checked.prog.funcNamed Rows.validStatesRow.func = some f) (hfn : Tryd.pinned.checked.prog.funcs[f]? = some fn) :
    false = Tryd.pinned.checked.prog.looks [] ∧ ∀ (j : Nat) t, fn.params[j]? = some t → Tryd.pinned.checked.prog.wantsStandIn t = false := by
  obtain rfl : f = 5 := Option.some.inj ((show Tryd.prog.funcNamed Rows.validStatesRow.func = some 5 by kernel_rfl).symm.trans hf) |>.symm
  obtain rfl : fn = Tryd.f5 := (Option.some.inj (Tryd.func5.symm.trans hfn)).symm
  refine ⟨by kernel_rfl, fun j t ht => ?_⟩
  rw [Tryd.params5] at ht
  have hm : t ∈ [26, 48] := by simpa using Array.mem_of_getElem? ht
  have hall : ([26, 48].all fun u => !Tryd.prog.wantsStandIn u) = true := by kernel_rfl
  exact (show Tryd.prog.wantsStandIn t = false by simpa using List.all_eq_true.1 hall t hm)

theorem card : Rows.ValidStatesCardSaid :=
  Claim7.holds_tied_plain_at .later [] _ _ _ _ said (fun _ h => by cases h) (by kernel_rfl) (fun _ h => by cases h) validStates_row_tie rfl ⟨rfl, rfl⟩ (by kernel_rfl) rfl plain (by kernel_rfl)
end Go.Proofs.YtbnconieedgcmaaDoor.validStates

namespace Go.Proofs.YtbnconieedgcmaaDoor
/-- The given statement, under a short name. -/
theorem validStates_holds : Rows.ValidStatesCardSaid := validStates.card
#print axioms validStates_holds
end Go.Proofs.YtbnconieedgcmaaDoor
