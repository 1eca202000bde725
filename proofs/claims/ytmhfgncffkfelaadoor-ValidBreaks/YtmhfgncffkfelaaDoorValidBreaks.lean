/- ValidBreaks: a table that may be still may be with all its breaks turned round; with one of its states' turned it may be just if no two states are alike then.
   Conditions: none but the row's own (the mark's variable starts as the program's text lays it). -/
import Derived.Test.YtmhfgncffkfelaaDoorBreaksK
import Derived.Test.YtmhfgncffkfelaaDoorKR3
import Derived.BigRegion
import Derived.BigQuiet
import Derived.Deep.RegionHeld3
import Derived.Deep.CutRange
namespace Go.Proofs.YtmhfgncffkfelaaDoor.validBreaks
open Go.ChangeShapes Go.WideShapes Go.ChangeAt Go.RowKit Go.Deep Go.BigFrame
set_option linter.unusedVariables false
set_option maxRecDepth 4000
set_option linter.unusedSimpArgs false

set_option maxHeartbeats 64000000 in
theorem walk (T : TV) (x : Nat) (hx : x < 256) (W : World) (hT : T.ok W) (hM : Mark W) :
    Calls Tryd.prog 6 #[T.v, .int .u8 (x : Int)] W fun e W' => e = .returned (.bool true) ∧ Below W.heap.size W W' := by
  have HRT := Lib.hid (fun V (g : Below W.heap.size W V) => refTable_any T V (hT.on g))
  have HOw : Hid (errV T.tb = 0 → ∀ V, Below W.heap.size W V → Calls Tryd.prog 14 #[T.v] V (OutTw T.tb V)) := Lib.hid (fun h V g => ownTableA_any T V (hT.on g) (vd_small h))
  have HM0 := Lib.hid hM
  have HX := Lib.hid (box_new W T)
  have bb := below_new W (.cells #[.int .i64 T.cl, .slice T.a1 T.n1 T.c1, .slice T.a2 T.n2 T.c2, .slice T.a3 T.n3 T.c3] 26)
  clear hT hM
  generalize T.tb = tb at *
  simp only [TV.v] at *
  obtain ⟨_, p0, p1, p2, p3⟩ := HX.out
  go_enter Tryd.func6, Tryd.ntmps6
  go_wp2_with fail
  generalize W.alloc (.cells #[.int .i64 T.cl, .slice T.a1 T.n1 T.c1, .slice T.a2 T.n2 T.c2, .slice T.a3 T.n3 T.c3] 26) = V0 at *
  refine (HRT.out _ bb).mono ?_
  rintro e w1 ⟨rfl, g⟩
  replace bb := bb.trans (g.mono bb.size)
  replace HX := Lib.hid (HX.out.on g)
  clear g HRT
  clear p0 p1 p2 p3
  obtain ⟨_, p0, p1, p2, p3⟩ := HX.out
  by_cases he : errV tb = 0
  case neg =>
    have hn : (errV tb != 0) = true := by rw [bne_iff_ne]; exact he
    generalize errV tb = ev at *
    go_wp2_with fail
    refine (wakesV_any _ (HM0.out.on bb)).mono ?_
    rintro e w9 ⟨rfl, g9⟩
    have bf := bb.trans (g9.mono bb.size)
    clear g9
    go_wp2_with fail
    go_ret
    exact ⟨rfl, bf⟩
  have HVd := Lib.hid (errV_ok.1 he)
  replace HOw := Lib.hid (HOw.out he)
  have HEr := Lib.hid he
  rw [he]
  clear he
  have hC : Hid (∀ V, (V.cell? ⟨W.heap.size, 0, none⟩ = some (.int .i64 T.cl) ∧ V.cell? ⟨W.heap.size, 1, none⟩ = some (.slice T.a1 T.n1 T.c1) ∧ V.cell? ⟨W.heap.size, 2, none⟩ = some (.slice T.a2 T.n2 T.c2) ∧ V.cell? ⟨W.heap.size, 3, none⟩ = some (.slice T.a3 T.n3 T.c3) ∧ Below W.heap.size W V) → Calls Tryd.prog 14 #[.agg #[.int .i64 T.cl, .slice T.a1 T.n1 T.c1, .slice T.a2 T.n2 T.c2, .slice T.a3 T.n3 T.c3]] V fun e w' => ∃ (U : TV) (l : Nat), l = V.heap.size ∧ e = .returned (.agg #[.int .i64 U.cl, .slice U.a1 U.n1 U.c1, .slice U.a2 U.n2 U.c2, .slice U.a3 U.n3 U.c3]) ∧ U.tb = tb ∧ Below V.heap.size V w' ∧ OwL w' l w'.heap.size U) := Lib.hid (fun V h => (HOw.out V h.2.2.2.2).mono fun e w' ⟨U, h1, h2, h3, h4, h5⟩ => ⟨U, _, rfl, h1, h2, h4, OwL.of h5 (by
      have f1 := h3.r1.1
      have f2 : U.tb.bd.length = U.bd.length := rfl
      rw [h2] at f2
      have f3 := ((cntV_iff _).1 HVd.out.cnt).k1
      omega) (by
      have f1 := h3.r3.1
      have f2 : U.tb.br.length = U.br.length := rfl
      rw [h2] at f2
      have f3 := ((cntV_iff _).1 HVd.out.cnt).b1
      have f4 := ((cntV_iff _).1 HVd.out.cnt).n1
      omega)⟩)
  have hfirst : Hid True := Lib.hid trivial
  have hSV : w1.cell? ⟨W.heap.size, 0, none⟩ = some (.int .i64 T.cl) ∧ w1.cell? ⟨W.heap.size, 1, none⟩ = some (.slice T.a1 T.n1 T.c1) ∧ w1.cell? ⟨W.heap.size, 2, none⟩ = some (.slice T.a2 T.n2 T.c2) ∧ w1.cell? ⟨W.heap.size, 3, none⟩ = some (.slice T.a3 T.n3 T.c3) ∧ Below W.heap.size W w1 := ⟨p0, p1, p2, p3, bb⟩
  have hSd : Sg W T w1 := hSV
  have hSdd := sOn (Below.drew (Below.refl w1.heap.size w1)) hSV
  have sU := hSd
  have sV := hSd
  have hG1 : W.heap.size < w1.heap.size := HX.out.1
  have hG2 : W.heap.size < w1.heap.size + 1 := by omega
  have hG3 := hG1
  have hG4 := hG2
  have hRA := res_new9 w1
  have hRB := res_snd w1
  have hW1 : W.heap.size < w1.heap.size := HX.out.1
  clear HOw p0 p1 p2 p3 HX
  go_upto_region 3 with (fail)
  go_cut [5, 6] from 17 to 20 (fun v5 v6 wx => ∃ g5 g6 l5 h5 l6 h6 X Y, v5 = .pointer (some ⟨g5, 0, none⟩) ∧ v6 = .pointer (some ⟨g6, 0, none⟩) ∧ X.tb = tb ∧ Y.tb = tb ∧ St2 W g5 g6 l5 h5 l6 h6 wx X Y)
  case first =>
    go_region_held3 (fun V => V.cell? ⟨W.heap.size, 0, none⟩ = some (.int .i64 T.cl) ∧ V.cell? ⟨W.heap.size, 1, none⟩ = some (.slice T.a1 T.n1 T.c1) ∧ V.cell? ⟨W.heap.size, 2, none⟩ = some (.slice T.a2 T.n2 T.c2) ∧ V.cell? ⟨W.heap.size, 3, none⟩ = some (.slice T.a3 T.n3 T.c3) ∧ Below W.heap.size W V) ((show Sg W T _; simp only [sg_al, sg_al2, sg_dr, sg_st, hSd, sU, sV, hG1, hG2, hG3, hG4])) (first | (go_at_call 14; clear hfirst; (with_reducible refine Calls.mono (hC.out _ ?_) ?_); (show Sg W T _; simp only [sg_al, sg_al2, sg_dr, sg_st, hSd, sU, sV, hG1, hG2, hG3, hG4]); rintro e vU ⟨⟨Ucl, Ua1, Un1, Uc1, Ubd, Ua2, Un2, Uc2, Uhs, Ua3, Un3, Uc3, Ubr⟩, l5, hl5, rfl, tU, gU, lU⟩; (try simp only []); (try simp only [World.size_alloc, World.size_drew] at hl5); have sU : Sg W T vU := (by (refine sg_on ?_ gU; show Sg W T _; simp only [sg_al, sg_al2, sg_dr, sg_st, hSd, sU, sV, hG1, hG2, hG3, hG4])); have zU := gU.size; (try simp only [World.size_alloc, World.size_drew] at zU); have hG3 : W.heap.size < vU.heap.size := (by omega); have hG4 : W.heap.size < vU.heap.size + 1 := (by omega); have hRC := res_new9 vU; have hRD := res_snd vU; (try (have rA : Res w1.heap.size vU := (by (refine Res.on ?_ gU; simp only [rs_al, rs_dr, hRA])); obtain ⟨ra, ⟨ra0, ra1, ra2, ra3⟩, rf0, rf1, rf2, rf3⟩ := rA.parts)); (try (have rB : Res (w1.heap.size + 1) vU := (by (refine Res.on ?_ gU; simp only [rs_al, rs_dr, hRB])); obtain ⟨rb, ⟨rb0, rb1, rb2, rb3⟩, rg0, rg1, rg2, rg3⟩ := rB.parts))) | (go_at_call 14; (with_reducible refine Calls.mono (hC.out _ ?_) ?_); (show Sg W T _; simp only [sg_al, sg_al2, sg_dr, sg_st, hSd, sU, sV, hG1, hG2, hG3, hG4]); rintro e vV ⟨⟨Vcl, Va1, Vn1, Vc1, Vbd, Va2, Vn2, Vc2, Vhs, Va3, Vn3, Vc3, Vbr⟩, l6, hl6, rfl, tV, gV, lV⟩; (try simp only []); (try simp only [World.size_alloc, World.size_drew] at hl6); have sV : Sg W T vV := (by (refine sg_on ?_ gV; show Sg W T _; simp only [sg_al, sg_al2, sg_dr, sg_st, hSd, sU, sV, hG1, hG2, hG3, hG4])); have zV := gV.size; (try simp only [World.size_alloc, World.size_drew] at zV); have lU2 : OwL vV l5 vU.heap.size ⟨Ucl, Ua1, Un1, Uc1, Ubd, Ua2, Un2, Uc2, Uhs, Ua3, Un3, Uc3, Ubr⟩ := (by (refine OwL.on ?_ gV; first | exact lU | simp only [ol_al, ol_dr, lU])); (try (have rA2 : Res w1.heap.size vV := (by (refine Res.on ?_ gV; simp only [rs_al, rs_dr, rA])); obtain ⟨sa, ⟨sa0, sa1, sa2, sa3⟩, sf0, sf1, sf2, sf3⟩ := rA2.parts)); (try (have rB2 : Res (w1.heap.size + 1) vV := (by (refine Res.on ?_ gV; simp only [rs_al, rs_dr, rB])); obtain ⟨sb, ⟨sb0, sb1, sb2, sb3⟩, sg0, sg1, sg2, sg3⟩ := rB2.parts)); (try (have rC2 : Res vU.heap.size vV := (by (refine Res.on ?_ gV; simp only [rs_al, rs_dr, hRC])); obtain ⟨sc, ⟨sc0, sc1, sc2, sc3⟩, sh0, sh1, sh2, sh3⟩ := rC2.parts)); (try (have rD2 : Res (vU.heap.size + 1) vV := (by (refine Res.on ?_ gV; simp only [rs_al, rs_dr, hRD])); obtain ⟨sd, ⟨sd0, sd1, sd2, sd3⟩, si0, si1, si2, si3⟩ := rD2.parts))))
    all_goals
      go_wp2_with fail
      go_meet
    · have hfin := fin_d (g5 := vV.heap.size) (g6 := vV.heap.size + 1) (X := ⟨Ucl, Ua1, Un1, Uc1, Ubd, Ua2, Un2, Uc2, Uhs, Ua3, Un3, Uc3, Ubr⟩) (Y := ⟨Vcl, Va1, Vn1, Vc1, Vbd, Va2, Vn2, Vc2, Vhs, Va3, Vn3, Vc3, Vbr⟩) sV.2.2.2.2 rfl rfl lU2 lV (by omega) (by omega) (by omega) (by omega) (by omega) (by omega) (by omega)
      exact ⟨_, _, l5, vU.heap.size, l6, vV.heap.size, ⟨Ucl, Ua1, Un1, Uc1, Ubd, Ua2, Un2, Uc2, Uhs, Ua3, Un3, Uc3, Ubr⟩, ⟨Vcl, Va1, Vn1, Vc1, Vbd, Va2, Vn2, Vc2, Vhs, Va3, Vn3, Vc3, Vbr⟩, rfl, rfl, tU, tV, hfin⟩
    · have hfin := fin_e (g5 := vV.heap.size + 1) (g6 := vV.heap.size) (X := ⟨Ucl, Ua1, Un1, Uc1, Ubd, Ua2, Un2, Uc2, Uhs, Ua3, Un3, Uc3, Ubr⟩) (Y := ⟨Vcl, Va1, Vn1, Vc1, Vbd, Va2, Vn2, Vc2, Vhs, Va3, Vn3, Vc3, Vbr⟩) sV.2.2.2.2 rfl rfl lU2 lV (by omega) (by omega) (by omega) (by omega) (by omega) (by omega) (by omega)
      exact ⟨_, _, l5, vU.heap.size, l6, vV.heap.size, ⟨Ucl, Ua1, Un1, Uc1, Ubd, Ua2, Un2, Uc2, Uhs, Ua3, Un3, Uc3, Ubr⟩, ⟨Vcl, Va1, Vn1, Vc1, Vbd, Va2, Vn2, Vc2, Vhs, Va3, Vn3, Vc3, Vbr⟩, rfl, rfl, tU, tV, hfin⟩
    · have hfin := fin_b (g5 := vU.heap.size) (g6 := vV.heap.size) (X := ⟨Ucl, Ua1, Un1, Uc1, Ubd, Ua2, Un2, Uc2, Uhs, Ua3, Un3, Uc3, Ubr⟩) (Y := ⟨Vcl, Va1, Vn1, Vc1, Vbd, Va2, Vn2, Vc2, Vhs, Va3, Vn3, Vc3, Vbr⟩) sV.2.2.2.2 rC2 rfl lU2 lV (by omega) (by omega) (by omega) (by omega) (by omega) (by omega) (by omega) (by omega)
      exact ⟨_, _, l5, vU.heap.size, l6, vV.heap.size, ⟨Ucl, Ua1, Un1, Uc1, Ubd, Ua2, Un2, Uc2, Uhs, Ua3, Un3, Uc3, Ubr⟩, ⟨Vcl, Va1, Vn1, Vc1, Vbd, Va2, Vn2, Vc2, Vhs, Va3, Vn3, Vc3, Vbr⟩, rfl, rfl, tU, tV, hfin⟩
    · have hfin := fin_a (g5 := vU.heap.size) (g6 := vU.heap.size + 1) (X := ⟨Ucl, Ua1, Un1, Uc1, Ubd, Ua2, Un2, Uc2, Uhs, Ua3, Un3, Uc3, Ubr⟩) (Y := ⟨Vcl, Va1, Vn1, Vc1, Vbd, Va2, Vn2, Vc2, Vhs, Va3, Vn3, Vc3, Vbr⟩) sV.2.2.2.2 rC2 rD2 lU2 lV (by omega) (by omega) (by omega) (by omega) (by omega) (by omega) (by omega) (by omega) (by omega) (by omega)
      exact ⟨_, _, l5, vU.heap.size, l6, vV.heap.size, ⟨Ucl, Ua1, Un1, Uc1, Ubd, Ua2, Un2, Uc2, Uhs, Ua3, Un3, Uc3, Ubr⟩, ⟨Vcl, Va1, Vn1, Vc1, Vbd, Va2, Vn2, Vc2, Vhs, Va3, Vn3, Vc3, Vbr⟩, rfl, rfl, tU, tV, hfin⟩
    · have hfin := fin_c (g5 := vV.heap.size) (g6 := vU.heap.size) (X := ⟨Ucl, Ua1, Un1, Uc1, Ubd, Ua2, Un2, Uc2, Uhs, Ua3, Un3, Uc3, Ubr⟩) (Y := ⟨Vcl, Va1, Vn1, Vc1, Vbd, Va2, Vn2, Vc2, Vhs, Va3, Vn3, Vc3, Vbr⟩) sV.2.2.2.2 rfl rC2 lU2 lV (by omega) (by omega) (by omega) (by omega) (by omega) (by omega) (by omega) (by omega)
      exact ⟨_, _, l5, vU.heap.size, l6, vV.heap.size, ⟨Ucl, Ua1, Un1, Uc1, Ubd, Ua2, Un2, Uc2, Uhs, Ua3, Un3, Uc3, Ubr⟩, ⟨Vcl, Va1, Vn1, Vc1, Vbd, Va2, Vn2, Vc2, Vhs, Va3, Vn3, Vc3, Vbr⟩, rfl, rfl, tU, tV, hfin⟩
    · have hfin := fin_a (g5 := vU.heap.size + 1) (g6 := vU.heap.size) (X := ⟨Ucl, Ua1, Un1, Uc1, Ubd, Ua2, Un2, Uc2, Uhs, Ua3, Un3, Uc3, Ubr⟩) (Y := ⟨Vcl, Va1, Vn1, Vc1, Vbd, Va2, Vn2, Vc2, Vhs, Va3, Vn3, Vc3, Vbr⟩) sV.2.2.2.2 rD2 rC2 lU2 lV (by omega) (by omega) (by omega) (by omega) (by omega) (by omega) (by omega) (by omega) (by omega) (by omega)
      exact ⟨_, _, l5, vU.heap.size, l6, vV.heap.size, ⟨Ucl, Ua1, Un1, Uc1, Ubd, Ua2, Un2, Uc2, Uhs, Ua3, Un3, Uc3, Ubr⟩, ⟨Vcl, Va1, Vn1, Vc1, Vbd, Va2, Vn2, Vc2, Vhs, Va3, Vn3, Vc3, Vbr⟩, rfl, rfl, tU, tV, hfin⟩
    · have hfin := fin_b (g5 := w1.heap.size) (g6 := vV.heap.size) (X := ⟨Ucl, Ua1, Un1, Uc1, Ubd, Ua2, Un2, Uc2, Uhs, Ua3, Un3, Uc3, Ubr⟩) (Y := ⟨Vcl, Va1, Vn1, Vc1, Vbd, Va2, Vn2, Vc2, Vhs, Va3, Vn3, Vc3, Vbr⟩) sV.2.2.2.2 rA2 rfl lU2 lV (by omega) (by omega) (by omega) (by omega) (by omega) (by omega) (by omega) (by omega)
      exact ⟨_, _, l5, vU.heap.size, l6, vV.heap.size, ⟨Ucl, Ua1, Un1, Uc1, Ubd, Ua2, Un2, Uc2, Uhs, Ua3, Un3, Uc3, Ubr⟩, ⟨Vcl, Va1, Vn1, Vc1, Vbd, Va2, Vn2, Vc2, Vhs, Va3, Vn3, Vc3, Vbr⟩, rfl, rfl, tU, tV, hfin⟩
    · have hfin := fin_a (g5 := w1.heap.size) (g6 := vU.heap.size) (X := ⟨Ucl, Ua1, Un1, Uc1, Ubd, Ua2, Un2, Uc2, Uhs, Ua3, Un3, Uc3, Ubr⟩) (Y := ⟨Vcl, Va1, Vn1, Vc1, Vbd, Va2, Vn2, Vc2, Vhs, Va3, Vn3, Vc3, Vbr⟩) sV.2.2.2.2 rA2 rC2 lU2 lV (by omega) (by omega) (by omega) (by omega) (by omega) (by omega) (by omega) (by omega) (by omega) (by omega)
      exact ⟨_, _, l5, vU.heap.size, l6, vV.heap.size, ⟨Ucl, Ua1, Un1, Uc1, Ubd, Ua2, Un2, Uc2, Uhs, Ua3, Un3, Uc3, Ubr⟩, ⟨Vcl, Va1, Vn1, Vc1, Vbd, Va2, Vn2, Vc2, Vhs, Va3, Vn3, Vc3, Vbr⟩, rfl, rfl, tU, tV, hfin⟩
    · have hfin := fin_a (g5 := w1.heap.size) (g6 := w1.heap.size + 1) (X := ⟨Ucl, Ua1, Un1, Uc1, Ubd, Ua2, Un2, Uc2, Uhs, Ua3, Un3, Uc3, Ubr⟩) (Y := ⟨Vcl, Va1, Vn1, Vc1, Vbd, Va2, Vn2, Vc2, Vhs, Va3, Vn3, Vc3, Vbr⟩) sV.2.2.2.2 rA2 rB2 lU2 lV (by omega) (by omega) (by omega) (by omega) (by omega) (by omega) (by omega) (by omega) (by omega) (by omega)
      exact ⟨_, _, l5, vU.heap.size, l6, vV.heap.size, ⟨Ucl, Ua1, Un1, Uc1, Ubd, Ua2, Un2, Uc2, Uhs, Ua3, Un3, Uc3, Ubr⟩, ⟨Vcl, Va1, Vn1, Vc1, Vbd, Va2, Vn2, Vc2, Vhs, Va3, Vn3, Vc3, Vbr⟩, rfl, rfl, tU, tV, hfin⟩
    · have hfin := fin_c (g5 := vV.heap.size) (g6 := w1.heap.size) (X := ⟨Ucl, Ua1, Un1, Uc1, Ubd, Ua2, Un2, Uc2, Uhs, Ua3, Un3, Uc3, Ubr⟩) (Y := ⟨Vcl, Va1, Vn1, Vc1, Vbd, Va2, Vn2, Vc2, Vhs, Va3, Vn3, Vc3, Vbr⟩) sV.2.2.2.2 rfl rA2 lU2 lV (by omega) (by omega) (by omega) (by omega) (by omega) (by omega) (by omega) (by omega)
      exact ⟨_, _, l5, vU.heap.size, l6, vV.heap.size, ⟨Ucl, Ua1, Un1, Uc1, Ubd, Ua2, Un2, Uc2, Uhs, Ua3, Un3, Uc3, Ubr⟩, ⟨Vcl, Va1, Vn1, Vc1, Vbd, Va2, Vn2, Vc2, Vhs, Va3, Vn3, Vc3, Vbr⟩, rfl, rfl, tU, tV, hfin⟩
    · have hfin := fin_a (g5 := vU.heap.size) (g6 := w1.heap.size) (X := ⟨Ucl, Ua1, Un1, Uc1, Ubd, Ua2, Un2, Uc2, Uhs, Ua3, Un3, Uc3, Ubr⟩) (Y := ⟨Vcl, Va1, Vn1, Vc1, Vbd, Va2, Vn2, Vc2, Vhs, Va3, Vn3, Vc3, Vbr⟩) sV.2.2.2.2 rC2 rA2 lU2 lV (by omega) (by omega) (by omega) (by omega) (by omega) (by omega) (by omega) (by omega) (by omega) (by omega)
      exact ⟨_, _, l5, vU.heap.size, l6, vV.heap.size, ⟨Ucl, Ua1, Un1, Uc1, Ubd, Ua2, Un2, Uc2, Uhs, Ua3, Un3, Uc3, Ubr⟩, ⟨Vcl, Va1, Vn1, Vc1, Vbd, Va2, Vn2, Vc2, Vhs, Va3, Vn3, Vc3, Vbr⟩, rfl, rfl, tU, tV, hfin⟩
    · have hfin := fin_a (g5 := w1.heap.size + 1) (g6 := w1.heap.size) (X := ⟨Ucl, Ua1, Un1, Uc1, Ubd, Ua2, Un2, Uc2, Uhs, Ua3, Un3, Uc3, Ubr⟩) (Y := ⟨Vcl, Va1, Vn1, Vc1, Vbd, Va2, Vn2, Vc2, Vhs, Va3, Vn3, Vc3, Vbr⟩) sV.2.2.2.2 rB2 rA2 lU2 lV (by omega) (by omega) (by omega) (by omega) (by omega) (by omega) (by omega) (by omega) (by omega) (by omega)
      exact ⟨_, _, l5, vU.heap.size, l6, vV.heap.size, ⟨Ucl, Ua1, Un1, Uc1, Ubd, Ua2, Un2, Uc2, Uhs, Ua3, Un3, Uc3, Ubr⟩, ⟨Vcl, Va1, Vn1, Vc1, Vbd, Va2, Vn2, Vc2, Vhs, Va3, Vn3, Vc3, Vbr⟩, rfl, rfl, tU, tV, hfin⟩
  obtain ⟨g5, g6, l5, h5, l6, h6, X0, Y0, rfl, rfl, tX, tY, hst⟩ := hcut
  clear hC hSV hSd hSdd hRA hRB hW1 hfirst sU sV hG1 hG2 hG3 hG4
  obtain ⟨n, hn⟩ : ∃ n, tb.br.length = n := ⟨_, rfl⟩
  obtain ⟨n2, hn2⟩ : ∃ n, tb.nx.length = n := ⟨_, rfl⟩
  have hVc := (cntV_iff tb).1 HVd.out.cnt
  have hnn : n = n2 := by rw [← hn, ← hn2]; exact hVc.b1
  have hn5 : n2 ≤ 5 := by rw [← hn2]; exact hVc.n2
  have hn1 : 1 ≤ n2 := by rw [← hn2]; exact hVc.n1
  have hX3 : X0.n3 = n := by
    have := hst.o5.ow.ok.r3.1
    have e : X0.br = tb.br := by rw [← tX]; rfl
    rw [e, hn] at this; exact this.symm
  have hY3 : Y0.n3 = n := by
    have := hst.o6.ow.ok.r3.1
    have e : Y0.br = tb.br := by rw [← tY]; rfl
    rw [e, hn] at this; exact this.symm
  have hY2 : Y0.n2 = n2 := by
    have h := hst.o6.ow.ok.r2.1
    have e : Y0.tb.nx.length = Y0.n2 := by
      show (listsOf Y0.hs).length = _
      rw [listsOf_len]
      exact h
    rw [tY, hn2] at e; exact e.symm
  have HbX : Hid (X0.br = tb.br) := Lib.hid (by rw [← tX]; rfl)
  have HbY : Hid (Y0.br = tb.br) := Lib.hid (by rw [← tY]; rfl)
  have HtX : Hid (∀ b : List Bool, ({ X0 with br := b } : TV).tb = { tb with br := b }) := Lib.hid (fun b => by rw [← tX]; rfl)
  have HtY : Hid (∀ b : List Bool, ({ Y0 with br := b } : TV).tb = { tb with br := b }) := Lib.hid (fun b => by rw [← tY]; rfl)
  obtain ⟨gx, hAx⟩ : ∃ g, X0.a3 = some ⟨g, 0, none⟩ := by
    obtain ⟨g, h, _⟩ := hst.brk (k := 0) (by omega) (by rw [HbX.out]; omega)
    exact ⟨g, h⟩
  obtain ⟨gy, hAy⟩ : ∃ g, Y0.a3 = some ⟨g, 0, none⟩ := by
    obtain ⟨g, h, _⟩ := hst.flip.brk (k := 0) (by omega) (by rw [HbY.out]; omega)
    exact ⟨g, h⟩
  have HAx := Lib.hid hAx
  have HAy := Lib.hid hAy
  have hst0 : St2 W g5 g6 l5 h5 l6 h6 wc { X0 with br := turnK tb.br 0 } Y0 := by
    have e : ({ X0 with br := turnK tb.br 0 } : TV) = X0 := by rw [turnK_zero, ← HbX.out]
    rw [e]; exact hst
  have HS0 := Lib.hid hst0
  have Hn := Lib.hid hn
  have Hn2 := Lib.hid hn2
  have Hnn := Lib.hid hnn
  have HX3 := Lib.hid hX3
  have HY3 := Lib.hid hY3
  have HY2 := Lib.hid hY2
  clear hst hst0 tX tY hVc hAx hAy hX3 hY3 hY2 hn2 hn hnn
  have hn5' : n ≤ 5 := by have := Hnn.out; omega
  have hn1' : 1 ≤ n := by have := Hnn.out; omega
  go_wp2_with fail
  go_loopw [7] (fun vi wx => ∃ k : Nat, vi = .int .i64 k ∧ k ≤ n ∧ Hid (St2 W g5 g6 l5 h5 l6 h6 wx { X0 with br := turnK tb.br k } Y0)) (fun vi _ => n - (intOf vi).toNat)
  case atStart => exact ⟨0, rfl, Nat.zero_le _, HS0⟩
  case round =>
    obtain ⟨k, rfl, hk, HS⟩ := hrel
    obtain ⟨_, p0, p1, p2, p3⟩ := HS.out.b5
    simp only [] at p0 p1 p2 p3
    rw [HAx.out, HX3.out] at p3
    by_cases hlt : k < n
    · have hlI : (k : Int) < (n : Int) := by omega
      have kl : k < tb.br.length := by rw [Hn.out]; exact hlt
      have kl2 : k < (turnK tb.br k).length := by rw [turnK_len]; exact kl
      obtain ⟨g, hA, hf, hc, hs2⟩ := HS.out.brk (k := k) (by rw [HX3.out]; exact hlt) kl2
      rw [HAx.out] at hA
      injection hA with hA
      injection hA with hA
      subst hA
      simp only [turnK_at tb.br kl kl2] at hc
      have HSn : Hid (St2 W g5 g6 l5 h5 l6 h6 (wr.setCell ⟨gx, k, none⟩ (.bool (!tb.br[k]))) { X0 with br := turnK tb.br (k + 1) } Y0) := Lib.hid (by
        have h := hs2 (!tb.br[k])
        simp only [turnK_set tb.br kl] at h
        exact h)
      clear hs2 kl2 HS
      generalize tb.br[k] = bk at *
      go_wp2_with fail
      go_region
      all_goals
        go_wp2_with fail
        go_roundw
        case rel => exact ⟨k + 1, by go_num, by omega, Lib.hid (by first | exact HSn.out | exact HSn.out.on (Below.drew (Below.refl _ _)))⟩
        case measure => simp [intOf]; omega
    · obtain rfl : k = n := by omega
      have HTa : Hid (turnK tb.br k = tb.br.map (!·)) := Lib.hid (turnK_all _ (by rw [Hn.out]; exact Nat.le_refl _))
      rw [HTa.out] at HS
      clear HTa
      obtain ⟨_, u0, u1, u2, u3⟩ := HS.out.b6
      rw [HAy.out, HY3.out] at u3
      obtain ⟨kk, hkk⟩ : ∃ m, x % k = m := ⟨_, rfl⟩
      have hkl : kk < k := by rw [← hkk]; exact Nat.mod_lt _ (by omega)
      have i1 : (x : Int) % (k : Int) = (kk : Int) := by rw [← hkk]; exact (Int.natCast_emod x k).symm
      have i2 : Int.tmod (x : Int) (k : Int) = (kk : Int) := by rw [Int.tmod_eq_emod_of_nonneg (by omega)]; exact i1
      have i3 : (0 : Int) < (k : Int) := by omega
      have i4 : (kk : Int) < (k : Int) := by omega
      have kl : kk < tb.br.length := by rw [Hn.out]; exact hkl
      obtain ⟨g, hA, hf, hc, hs2⟩ := HS.out.flip.brk (k := kk) (by rw [HY3.out]; exact hkl) (by rw [HbY.out]; exact kl)
      rw [HAy.out] at hA
      injection hA with hA
      injection hA with hA
      subst hA
      have hbE : Y0.br[kk]'(by rw [HbY.out]; exact kl) = tb.br[kk] := by
        have := HbY.out
        simp only [this]
      rw [hbE] at hc
      obtain ⟨B, hB⟩ : ∃ B, tb.br.set kk (!tb.br[kk]) = B := ⟨_, rfl⟩
      have hBl : B.length = tb.br.length := by rw [← hB]; simp
      have HSn : Hid (St2 W g5 g6 l5 h5 l6 h6 (wr.setCell ⟨gy, kk, none⟩ (.bool (!tb.br[kk]))) { X0 with br := tb.br.map (!·) } { Y0 with br := B }) := Lib.hid (by
        have h := (hs2 (!tb.br[kk])).flip
        rw [HbY.out, hB] at h
        exact h)
      have HE5 : Hid (errV ({ X0 with br := tb.br.map (!·) } : TV).tb = 0) := Lib.hid (by rw [HtX.out]; exact errV_turn HVd.out)
      have HC1 : Hid (cntV { tb with br := B } = true) := Lib.hid (by
        have := HVd.out.cnt
        rw [cntV_iff] at this ⊢
        exact ⟨this.c1, this.c2, this.n1, this.n2, this.k1, this.k2, by show B.length = _; rw [hBl]; exact this.b1, this.rw⟩)
      have HE6 : Hid (errV ({ Y0 with br := B } : TV).tb = if anyA { tb with br := B } n2 then 30 else 0) := Lib.hid (by
        have h1 := least_alike (t := { tb with br := B }) HC1.out HVd.out.nxt
        have h2 : anyA { tb with br := B } n2 = !leastB { tb with br := B } := by rw [← h1, ← Hn2.out]; rfl
        rw [HtY.out, errV_br HVd.out B hBl, h2]
        cases leastB { tb with br := B } <;> rfl)
      have HAl : Hid (∀ (a b : Nat) V, St2 W g5 g6 l5 h5 l6 h6 V { X0 with br := tb.br.map (!·) } { Y0 with br := B } → Calls Tryd.prog 29 #[.agg #[.int .i64 Y0.cl, .slice Y0.a1 Y0.n1 Y0.c1, .slice Y0.a2 Y0.n2 Y0.c2, .slice Y0.a3 Y0.n3 Y0.c3], .int .i64 (a : Int), .int .i64 (b : Int)] V fun e w' => e = .returned (.bool (alikeV { tb with br := B } a b)) ∧ Below V.heap.size V w') := Lib.hid (fun a b V h => by
        have := alike_any { Y0 with br := B } a b V h.o6.ow.ok
        rw [HtY.out] at this
        exact this)
      have HTu : Hid (∀ V, St2 W g5 g6 l5 h5 l6 h6 V { X0 with br := tb.br.map (!·) } { Y0 with br := B } → Calls Tryd.prog 27 #[.agg #[.int .i64 X0.cl, .slice X0.a1 X0.n1 X0.c1, .slice X0.a2 X0.n2 X0.c2, .slice X0.a3 X0.n3 X0.c3]] V fun e w' => e = .returned (.int .i64 0) ∧ Below V.heap.size V w') := Lib.hid (fun V h => by
        have := validTable_any { X0 with br := tb.br.map (!·) } V h.o5.ow.ok
        rw [HE5.out] at this
        exact this)
      have HTv : Hid (∀ V, St2 W g5 g6 l5 h5 l6 h6 V { X0 with br := tb.br.map (!·) } { Y0 with br := B } → Calls Tryd.prog 27 #[.agg #[.int .i64 Y0.cl, .slice Y0.a1 Y0.n1 Y0.c1, .slice Y0.a2 Y0.n2 Y0.c2, .slice Y0.a3 Y0.n3 Y0.c3]] V fun e w' => e = .returned (.int .i64 (if anyA { tb with br := B } n2 then 30 else 0)) ∧ Below V.heap.size V w') := Lib.hid (fun V h => by
        have := validTable_any { Y0 with br := B } V h.o6.ow.ok
        rw [HE6.out] at this
        exact this)
      clear hs2 HS hbE hkk hB hBl HC1 HE5 HE6 HtX HtY HVd
      generalize { tb with br := B } = t1 at *
      obtain ⟨X1, hX1⟩ : ∃ X1 : TV, { X0 with br := tb.br.map (!·) } = X1 := ⟨_, rfl⟩
      obtain ⟨Y1, hY1⟩ : ∃ Y1 : TV, { Y0 with br := B } = Y1 := ⟨_, rfl⟩
      have HX1 : Hid (X1.cl = X0.cl ∧ X1.a1 = X0.a1 ∧ X1.n1 = X0.n1 ∧ X1.c1 = X0.c1 ∧ X1.a2 = X0.a2 ∧ X1.n2 = X0.n2 ∧ X1.c2 = X0.c2 ∧ X1.a3 = X0.a3 ∧ X1.n3 = X0.n3 ∧ X1.c3 = X0.c3) := Lib.hid (by subst hX1; exact ⟨rfl, rfl, rfl, rfl, rfl, rfl, rfl, rfl, rfl, rfl⟩)
      have HY1 : Hid (Y1.cl = Y0.cl ∧ Y1.a1 = Y0.a1 ∧ Y1.n1 = Y0.n1 ∧ Y1.c1 = Y0.c1 ∧ Y1.a2 = Y0.a2 ∧ Y1.n2 = Y0.n2 ∧ Y1.c2 = Y0.c2 ∧ Y1.a3 = Y0.a3 ∧ Y1.n3 = Y0.n3 ∧ Y1.c3 = Y0.c3) := Lib.hid (by subst hY1; exact ⟨rfl, rfl, rfl, rfl, rfl, rfl, rfl, rfl, rfl, rfl⟩)
      have HB5 : Hid (∀ V, St2 W g5 g6 l5 h5 l6 h6 V X1 Y1 → Box V g5 X0) := Lib.hid (fun V h => by
        obtain ⟨e0, e1, e2, e3, e4, e5, e6, e7, e8, e9⟩ := HX1.out
        have hb := h.b5
        unfold Box at hb ⊢
        rw [e0, e1, e2, e3, e4, e5, e6, e7, e8, e9] at hb
        exact hb)
      have HB6 : Hid (∀ V, St2 W g5 g6 l5 h5 l6 h6 V X1 Y1 → Box V g6 Y0) := Lib.hid (fun V h => by
        obtain ⟨e0, e1, e2, e3, e4, e5, e6, e7, e8, e9⟩ := HY1.out
        have hb := h.b6
        unfold Box at hb ⊢
        rw [e0, e1, e2, e3, e4, e5, e6, e7, e8, e9] at hb
        exact hb)
      rw [hX1, hY1] at HSn HAl HTu HTv
      clear hX1 hY1 HX1 HY1 HbX HbY Hn Hn2 HS0
      generalize tb.br[kk] = bk at *
      go_upto_region 9 with (fail)
      go_cut [8] from 44 to 53 (fun v8 wx => v8 = .int .i64 kk ∧ St2 W g5 g6 l5 h5 l6 h6 wx X1 Y1)
      case first => as_aux_lemma =>
        go_region
        all_goals
          go_wp2_with fail
          go_meet
          exact ⟨rfl, by first | exact HSn.out | exact HSn.out.on (Below.drew (Below.refl _ _))⟩
      obtain ⟨rfl, hst⟩ := hcut
      clear p0 p1 p2 p3 u0 u1 u2 u3 hf hc HSn i1 i2 i3 i4
      have HS2 := Lib.hid hst
      clear hst
      go_wp2_with fail
      go_loopw [9, 10] (fun vq vi wx => ∃ a : Nat, vi = .int .i64 a ∧ a ≤ n2 ∧ vq = .bool (anyA t1 a) ∧ Hid (St2 W g5 g6 l5 h5 l6 h6 wx X1 Y1)) (fun _ vi _ => n2 - (intOf vi).toNat)
      case atStart => exact ⟨0, rfl, Nat.zero_le _, rfl, HS2⟩
      case round =>
        rename World => wo
        obtain ⟨a, rfl, ha, rfl, HSo⟩ := hrel
        obtain ⟨_, p0, p1, p2, p3⟩ := HB6.out _ HSo.out
        rw [HY2.out] at p2
        have HPa := Lib.hid (anyA_succ t1 a)
        generalize hqa : anyA t1 a = qa at *
        have Hqa := Lib.hid hqa
        clear hqa
        by_cases hlt2 : a < n2
        · have hlI : (a : Int) < (n2 : Int) := by omega
          go_wp2_with fail
          go_loopw [9, 11] (fun vq vi wx => ∃ b : Nat, vi = .int .i64 b ∧ b ≤ a ∧ vq = .bool (qa || anyB t1 a b) ∧ Hid (St2 W g5 g6 l5 h5 l6 h6 wx X1 Y1)) (fun _ vi _ => a - (intOf vi).toNat)
          case atStart => exact ⟨0, rfl, Nat.zero_le _, by rw [anyB_zero, Bool.or_false], HSo⟩
          case round =>
            rename World => wi
            obtain ⟨b, rfl, hb, rfl, HSi⟩ := hrel
            have HPb := Lib.hid (anyB_succ t1 a b)
            have HAc := Lib.hid (HAl.out a b _ HSi.out)
            rw [HY2.out, HY3.out] at HAc
            obtain ⟨qb, hqb⟩ : ∃ q, anyB t1 a b = q := ⟨_, rfl⟩
            rw [hqb] at HPb ⊢
            have HQB := Lib.hid hqb
            clear hqb
            generalize alikeV t1 a b = ql at *
            clear p0 p1 p2 p3
            obtain ⟨_, p0, p1, p2, p3⟩ := HB6.out _ HSi.out
            rw [HY2.out] at p2
            rw [HY3.out] at p3
            by_cases hlt3 : b < a
            · have hlJ : (b : Int) < (a : Int) := by omega
              cases hq : (qa || qb)
              case true =>
                have HE9 : Hid ((qa || anyB t1 a (b + 1)) = true) := Lib.hid (by rw [HPb.out, ← Bool.or_assoc, hq, Bool.true_or])
                clear HAc
                go_wp2_with fail
                go_roundw
                case rel => exact ⟨b + 1, by go_num, by omega, by rw [HE9.out], HSi⟩
                case measure => simp [intOf]; omega
              case false =>
                have HE9 : Hid ((qa || anyB t1 a (b + 1)) = ql) := Lib.hid (by rw [HPb.out, ← Bool.or_assoc, hq, Bool.false_or])
                go_wp2_with fail
                refine HAc.out.mono ?_
                rintro e w9 ⟨rfl, g9⟩
                have HS9 := Lib.hid (HSi.out.on g9)
                clear g9 HAc
                go_wp2_with fail
                go_roundw
                case rel => exact ⟨b + 1, by go_num, by omega, by rw [HE9.out], HS9⟩
                case measure => simp [intOf]; omega
            · obtain rfl : b = a := by omega
              clear HAc
              have HE9 : Hid (anyA t1 (b + 1) = (qa || qb)) := Lib.hid (by rw [HPa.out, HQB.out])
              go_wp2_with fail
              go_roundw
              case rel => exact ⟨b + 1, by go_num, by omega, by rw [HE9.out], HSi⟩
              case measure => simp [intOf]; omega
        · obtain rfl : a = n2 := by omega
          have HTu1 := Lib.hid (HTu.out _ HSo.out)
          rw [HX3.out] at HTu1
          have HTv1 := Lib.hid (fun V g => HTv.out V (HSo.out.on g))
          rw [Hqa.out, HY2.out, HY3.out] at HTv1
          obtain ⟨_, u0, u1, u2, u3⟩ := HB5.out _ HSo.out
          rw [HX3.out] at u3
          rw [HY3.out] at p3
          have HBo := Lib.hid HSo.out.bb
          have HB6o := Lib.hid (HB6.out _ HSo.out)
          clear HAl HTu HTv HPa HS2 HB5 Hqa
          cases qa
          all_goals
            simp only [if_true, if_false, Bool.false_eq_true] at HTv1
            go_wp2_with fail
            refine HTu1.out.mono ?_
            rintro e w7 ⟨rfl, g7⟩
            have bb7 := HBo.out.trans (g7.mono HBo.out.size)
            have hv := HTv1.out _ g7
            clear p0 p1 p2 p3 u0 u1 u2 u3 HTu1 HTv1
            obtain ⟨_, p0, p1, p2, p3⟩ := HB6o.out.on g7
            rw [HY2.out] at p2
            rw [HY3.out] at p3
            have HV := Lib.hid hv
            clear hv g7
            go_wp2_with fail
            refine HV.out.mono ?_
            rintro e w8 ⟨rfl, g8⟩
            have bb8 := bb7.trans (g8.mono bb7.size)
            clear g8 HV bb7
            go_wp2_with fail
            refine (wakesV_any _ (HM0.out.on bb8)).mono ?_
            rintro e w9 ⟨rfl, g9⟩
            have bf := bb8.trans (g9.mono bb8.size)
            clear g9
            go_wp2_with fail
            go_ret
            exact ⟨rfl, bf⟩

/-! From the walk to the row and its card. -/
set_option maxRecDepth 100000 in
theorem contract (H : Type) (enc : TypeId × Value → H) (W : World) (base : Nat) (args : Array Value) (ds gs : List (DataW H)) (before : List MemPlace)
    (hval0 : ∀ (j : Nat) t v, Tryd.f6.params[j]? = some t → args[j]? = some v → Value.okWide Tryd.prog W .any base t v)
    (hW : DataW.Whole enc Tryd.prog Tryd.f6.params.toList Rows.validBreaksSpec.vars false W args.toList ds gs before) (hL : laidMetH Tryd.prog Rows.validBreaksRow.laid W) :
    Calls Tryd.prog 6 args W fun e W' => ∃ v, e = .returned v ∧ Rows.validBreaksSpec.post enc Tryd.prog Tryd.f6 false true false false W args v W' := by
  have hval : ∀ (j : Nat) t v, Tryd.f6.params[j]? = some t → args[j]? = some v → Value.okWide Tryd.prog W .any base t v := hval0
  have hW' := hW
  obtain ⟨p, q, hA0, hV, rfl, hfz, hnd⟩ := hW
  have hA : DataW.TrodAll enc Tryd.prog W 0 (fun _ => true) true Tryd.f6.params.toList args.toList ds p := hA0
  rw [Tryd.params6] at hA hval
  obtain ⟨v0, vs0, d0, ds0, p0, q0, hargs, rfl, rfl, h0, r0⟩ := trodAll_cons hA
  obtain ⟨v1, vs1, d1, ds1, p1, q1, rfl, rfl, rfl, h1, r1⟩ := trodAll_cons r0
  obtain ⟨rfl, rfl, rfl⟩ := trodAll_nil r1
  obtain rfl : args = #[v0, v1] := by cases args; simp_all
  obtain ⟨rfl, rfl⟩ := trodVars_none hV
  obtain ⟨cs0, rfl, _⟩ := okWide_struct Tryd.underlying26 (hval 0 26 v0 rfl rfl)
  have k0 := h0
  have lt0 : ∀ x ∈ p0, x.block < W.heap.size := by obtain ⟨m, hm⟩ := k0; exact DataW.trod_lt m _ _ _ hm
  obtain ⟨T0, e0, ok0⟩ : ∃ T : TV, cs0.toList = [.int .i64 T.cl, .slice T.a1 T.n1 T.c1, .slice T.a2 T.n2 T.c2, .slice T.a3 T.n3 T.c3] ∧ T.ok W := by
    obtain ⟨fuel, hf⟩ := h0
    exact open_table (by simpa [Value.cells] using hf)
  obtain rfl : cs0 = #[.int .i64 T0.cl, .slice T0.a1 T0.n1 T0.c1, .slice T0.a2 T0.n2 T0.c2, .slice T0.a3 T0.n3 T0.c3] := by cases cs0; simp_all
  obtain ⟨z1, rfl, rfl, rfl, wf1⟩ := open_int Tryd.underlying5 (hval 1 5 v1 rfl rfl) h1
  obtain ⟨zl1, zu1⟩ := wf_u8 wf1
  obtain ⟨a1, rfl⟩ := Int.eq_ofNat_of_zero_le zl1
  clear hA0 hval0
  refine (walk T0 a1 (by omega) W ok0 (mark_of_laid hL)).mono fun e W' ⟨he, bel⟩ => ?_
  subst he
  exact ⟨_, rfl, _, _, _, [], _, [], hW', trodAll_mk1 (shut_bool Tryd.underlying4 _), (trodAll_cons_mk (Below.trod laidOut (by kernel_rfl) (of_decide_eq_true (by kernel_rfl)) k0 bel lt0) (trodAll_cons_mk (shut_int Tryd.underlying5 wf1) trodAll_mk0)), rfl, bel.frame _, fun h => by cases h⟩

theorem laid_met (os : Os) : laidMet Tryd.prog Rows.validBreaksRow.laid ((laidWorld os).forCall (fun _ _ => 0) ⟨#[], #[.agg #[.int .i64 0, .slice none 0 0, .slice none 0 0, .slice none 0 0], .int .u8 0], []⟩).memory :=
  laidMet_of_run' 8 (by kernel_rfl) (by kernel_rfl)
theorem reads (os : Os) {H : Type} (enc : TypeId × Value → H) : ∃ places, DataW.whole enc Tryd.prog ((laidWorld os).forCall (fun _ _ => 0) ⟨#[], #[.agg #[.int .i64 0, .slice none 0 0, .slice none 0 0, .slice none 0 0], .int .u8 0], []⟩).memory Tryd.f6.params.toList Rows.validBreaksSpec.vars false (#[.agg #[.int .i64 0, .slice none 0 0, .slice none 0 0, .slice none 0 0], .int .u8 0] : Array Value).toList 8 = some ([.agg [.lit (.int .i64 0), .nil, .nil, .nil], .lit (.int .u8 0)], [], places) :=
  ⟨[], by kernel_rfl⟩

set_option maxRecDepth 100000 in
theorem lifted (os : Os) (started : os.Started) (H : Type) (enc : TypeId × Value → H) (F : Stop.Interp) :
    ReturnsInHanded {} Tryd.checked os 6 .any ((OpenSpec.ofChange Rows.validBreaksSpec).preRow enc Tryd.prog Tryd.f6 Rows.validBreaksRow.domain false Rows.validBreaksRow.laid) (((OpenSpec.ofChange Rows.validBreaksSpec).at F).post enc Tryd.prog Tryd.f6 false true false false) := by
  obtain ⟨places, hx⟩ := reads os enc
  refine returnsInHanded_of_row (C := Tryd.checked) (s := OpenSpec.ofChange Rows.validBreaksSpec) own started (by kernel_rfl) Tryd.func6
    (witness_row_at (enc := enc) (C := Tryd.checked) false (laidWorld os) #[.agg #[.int .i64 0, .slice none 0 0, .slice none 0 0, .slice none 0 0], .int .u8 0] rfl (by kernel_rfl) (by kernel_rfl) (by kernel_rfl)
      (OpenSpec.preRow_of_cond 8 hx (by kernel_rfl) (fun k hk => by cases hk) (by kernel_rfl) (laid_met os))) ?_
  intro W base args ds gs before hval hW _ _ _ hL _ _
  exact contract H enc W base args ds gs before hval hW hL

set_option maxRecDepth 100000 in
theorem said : Rows.ValidBreaksSaid :=
  OpenClaim.holds_of_cond 6 Tryd.f6 rfl rfl rfl rfl rfl rfl rfl ⟨rfl, rfl, rfl, rfl, rfl⟩ rfl rfl rfl rfl rfl (by kernel_rfl) Tryd.func6 (by kernel_rfl)
    (of_decide_eq_true (by kernel_rfl)) (by unfold Func.isWrapper; first | (rw [if_pos (by decide +kernel)]; kernel_rfl) | (rw [if_neg (by decide +kernel)]; exact ⟨rfl, rfl⟩))
    (fun os started H enc _ F => by rw [OpenClaim.pre_eq_preRow]; exact lifted os started H enc F)

theorem plain (f : FuncId) (fn : Func) (hf : Tryd.pinned.checked.prog.funcNamed Rows.validBreaksRow.func = some f) (hfn : Tryd.pinned.checked.prog.funcs[f]? = some fn) :
    false = Tryd.pinned.checked.prog.looks [] ∧ ∀ (j : Nat) t, fn.params[j]? = some t → Tryd.pinned.checked.prog.wantsStandIn t = false := by
  obtain rfl : f = 6 := Option.some.inj ((show Tryd.prog.funcNamed Rows.validBreaksRow.func = some 6 by kernel_rfl).symm.trans hf) |>.symm
  obtain rfl : fn = Tryd.f6 := (Option.some.inj (Tryd.func6.symm.trans hfn)).symm
  refine ⟨by kernel_rfl, fun j t ht => ?_⟩
  rw [Tryd.params6] at ht
  have hm : t ∈ [26, 5] := by simpa using Array.mem_of_getElem? ht
  have hall : ([26, 5].all fun u => !Tryd.prog.wantsStandIn u) = true := by kernel_rfl
  exact (show Tryd.prog.wantsStandIn t = false by simpa using List.all_eq_true.1 hall t hm)

theorem card : Rows.ValidBreaksCardSaid :=
  Claim7.holds_tied_plain_at .later [] _ _ _ _ said (fun _ h => by cases h) (by kernel_rfl) (fun _ h => by cases h) validBreaks_row_tie rfl ⟨rfl, rfl⟩ (by kernel_rfl) rfl plain (by kernel_rfl)
end Go.Proofs.YtmhfgncffkfelaaDoor.validBreaks

namespace Go.Proofs.YtmhfgncffkfelaaDoor
/-- The given statement, under a short name. -/
theorem validBreaks_holds : Rows.ValidBreaksCardSaid := validBreaks.card
#print axioms validBreaks_holds
end Go.Proofs.YtmhfgncffkfelaaDoor
