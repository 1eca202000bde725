/- SeekGoes: of every table that may be and every text: from its beginning on Next goes through all breaks behind it, from its end on Prev through all ahead; at each place they say what the list of breaks says.
   Conditions: none but the row's own (the variable of lead bytes starts as the program's text lays it). -/
import Derived.Test.YtmhfgncffkfelaaDoorSkW
import Derived.Test.YtmhfgncffkfelaaDoorSkN
import Derived.Test.YtmhfgncffkfelaaDoorKR3
import Derived.Test.YtmhfgncffkfelaaDoorSTab
import Derived.BigQuiet
import Derived.Deep.CutRange
namespace Go.Proofs.YtmhfgncffkfelaaDoor.seekGoes
open Go.ChangeShapes Go.WideShapes Go.ChangeAt Go.RowKit Go.Deep Go.BigFrame
open U (Tr tcells tcell tris Tab strOf)
open Go.ChangeMaps (open_string shut_string)
set_option linter.unusedVariables false
set_option maxRecDepth 4000
set_option linter.unusedSimpArgs false

set_option maxHeartbeats 16000000 in
theorem walk (T : TV) (s : ByteArray) (W : World) (hT : T.ok W) (hTab : Tab W) :
    Calls Tryd.prog 8 #[T.v, .string s] W fun e W' => e = .returned (.bool true) ∧ Below W.heap.size W W' := by
  obtain ⟨i0, hi0, hz0, hz1, hz2⟩ := info_parts info3
  have HRT := Lib.hid (fun V (g : Below W.heap.size W V) => refTable_any T V (hT.on g))
  have HWk := Lib.hid (fun V (g : Below W.heap.size W V) => wakes10_any V (hTab.below g))
  have HOf := Lib.hid (fun (h : s.size ≤ 1000) V (g : Below W.heap.size W V) => of_any T s V (hT.on g) (by omega) (hTab.below g))
  have HIs := Lib.hid (fun (h : s.size ≤ 1000) (a : Int) (ha : -9223372036854775808 ≤ a ∧ a ≤ 9223372036854775807) V (g : Below W.heap.size W V) => is_any T s a V (hT.on g) (by omega) (hTab.below g) ha)
  have HNx := Lib.hid (fun (h : s.size ≤ 1000) (a : Int) (ha : -9223372036854775808 ≤ a ∧ a ≤ 9223372036854775807) V (g : Below W.heap.size W V) => next_any T s a V (hT.on g) (by omega) (hTab.below g) ha)
  have HPv := Lib.hid (fun (h : s.size ≤ 1000) (a : Int) (ha : -9223372036854775808 ≤ a ∧ a ≤ 9223372036854775807) V (g : Below W.heap.size W V) => prev_any T s a V (hT.on g) (by omega) (hTab.below g) ha)
  have HX := Lib.hid (box_new W T)
  have bb := below_new W (.cells #[.int .i64 T.cl, .slice T.a1 T.n1 T.c1, .slice T.a2 T.n2 T.c2, .slice T.a3 T.n3 T.c3] 26)
  clear hT hTab
  simp only [TV.v] at *
  obtain ⟨_, p0, p1, p2, p3⟩ := HX.out
  go_enter Tryd.func8, Tryd.ntmps8
  go_wp2_with fail
  generalize W.alloc (.cells #[.int .i64 T.cl, .slice T.a1 T.n1 T.c1, .slice T.a2 T.n2 T.c2, .slice T.a3 T.n3 T.c3] 26) = V0 at *
  refine (HRT.out _ bb).mono ?_
  rintro e w1 ⟨rfl, g⟩
  replace bb := bb.trans (g.mono bb.size)
  replace HX := Lib.hid (HX.out.on g)
  clear g HRT
  clear p0 p1 p2 p3
  obtain ⟨_, p0, p1, p2, p3⟩ := HX.out
  by_cases he : errV T.tb = 0
  case neg =>
    have hn : (errV T.tb != 0) = true := by rw [bne_iff_ne]; exact he
    generalize errV T.tb = ev at *
    go_wp2_with fail
    refine (HWk.out _ bb).mono ?_
    rintro e w9 ⟨rfl, g9⟩
    have bf := bb.trans (g9.mono bb.size)
    clear g9
    go_wp2_with fail
    go_ret
    exact ⟨rfl, bf⟩
  by_cases hsz : 200 < s.size
  · rw [he]
    have hszI : (200 : Int) < (s.size : Int) := by omega
    go_wp2_with fail
    refine (HWk.out _ bb).mono ?_
    rintro e w9 ⟨rfl, g9⟩
    have bf := bb.trans (g9.mono bb.size)
    clear g9
    go_wp2_with fail
    go_ret
    exact ⟨rfl, bf⟩
  have hszI : ¬ (200 : Int) < (s.size : Int) := by omega
  have hsz1 : s.size ≤ 200 := by omega
  have hs1 : s.size ≤ 1000 := by omega
  obtain ⟨L, hL⟩ : ∃ L, s.data.toList = L := ⟨_, rfl⟩
  have hLl : L.length = s.size := by rw [← hL]; exact Array.length_toList
  have HSE : Hid (∀ a : Int, 0 ≤ a → a ≤ s.size → seekE T.tb L.length a = 0) := Lib.hid (fun a h1 h2 => by rw [hLl]; exact seekE_of he h1 h2)
  have HI1 : Hid (∀ a : Int, 0 ≤ a → a ≤ s.size → ∀ V, Below W.heap.size W V → Calls Tryd.prog 32 #[.agg #[.int .i64 T.cl, .slice T.a1 T.n1 T.c1, .slice T.a2 T.n2 T.c2, .slice T.a3 T.n3 T.c3], .string s, .int .i64 a] V fun e w' => e = .returned (.tuple #[.bool ((natI (ofA T.tb L)).contains a), .int .i64 0]) ∧ Below V.heap.size V w') := Lib.hid (fun a h1 h2 V g => by
    have h := HIs.out hs1 a (by omega) V g
    rw [hL, isA_is (HSE.out a h1 h2), seekE_of he h1 h2] at h
    exact h)
  have HN1 : Hid (∀ a : Int, 0 ≤ a → a ≤ s.size → ∀ V, Below W.heap.size W V → Calls Tryd.prog 33 #[.agg #[.int .i64 T.cl, .slice T.a1 T.n1 T.c1, .slice T.a2 T.n2 T.c2, .slice T.a3 T.n3 T.c3], .string s, .int .i64 a] V fun e w' => ∃ y, e = .returned (.tuple #[.int .i64 y, .int .i64 0]) ∧ NextIs (natI (ofA T.tb L)) s.size a y ∧ Below V.heap.size V w') := Lib.hid (fun a h1 h2 V g => by
    have h := HNx.out hs1 a (by omega) V g
    have hx := nextA_is (HSE.out a h1 h2)
    rw [hL, seekE_of he h1 h2] at h
    rw [hLl] at hx
    exact h.mono fun e w' ⟨e1, e2⟩ => ⟨_, e1, hx, e2⟩)
  have HP1 : Hid (∀ a : Int, 0 ≤ a → a ≤ s.size → ∀ V, Below W.heap.size W V → Calls Tryd.prog 34 #[.agg #[.int .i64 T.cl, .slice T.a1 T.n1 T.c1, .slice T.a2 T.n2 T.c2, .slice T.a3 T.n3 T.c3], .string s, .int .i64 a] V fun e w' => ∃ y, e = .returned (.tuple #[.int .i64 y, .int .i64 0]) ∧ PrevIs (natI (ofA T.tb L)) a y ∧ Below V.heap.size V w') := Lib.hid (fun a h1 h2 V g => by
    have h := HPv.out hs1 a (by omega) V g
    have hx := prevA_is (HSE.out a h1 h2)
    rw [hL, seekE_of he h1 h2] at h
    exact h.mono fun e w' ⟨e1, e2⟩ => ⟨_, e1, hx, e2⟩)
  have HOf1 := Lib.hid (HOf.out hs1)
  unfold OutPl at HOf1
  have HO2 : ofS T.tb L = some (natI (ofA T.tb L)) := by unfold ofS; rw [if_pos he]
  rw [hL, HO2] at HOf1
  simp only [Option.getD_some, Option.isSome_some] at HOf1
  have hZb : (natI (ofA T.tb L)).length ≤ 1001 := by
    rw [natI_len, ofA_len]
    have := brN_len T.tb L
    have := nP_le L
    omega
  have HSo := Lib.hid (brk_sorted T.tb L)
  have HLe : Hid (∀ y ∈ natI (ofA T.tb L), y ≤ (s.size : Int)) := Lib.hid (by rw [← hLl]; exact brk_le T.tb L)
  have HGe := Lib.hid (natI_ge (l := ofA T.tb L))
  clear HOf HO2
  rw [he]
  clear HIs HNx HPv HSE he
  generalize natI (ofA T.tb L) = l at *
  obtain ⟨Z, hZ⟩ : ∃ Z, l.length = Z := ⟨_, rfl⟩
  rw [hZ] at HOf1 hZb
  have HZl := Lib.hid hZ
  have HUl : Hid (∀ a, (upL l a).length ≤ 1001) := Lib.hid (fun a => by have := upL_len l a; omega)
  have HDl : Hid (∀ a, (dnL l a).length ≤ 1001) := Lib.hid (fun a => by have := dnL_len l a; omega)
  clear hZ hL hLl
  obtain ⟨q0, hq0⟩ : ∃ q, l.contains 0 = q := ⟨_, rfl⟩
  have HIq := Lib.hid (HI1.out 0 (by omega) (by omega))
  rw [hq0] at HIq
  have hqa := Lib.hid hq0
  clear hq0
  obtain ⟨q1, hq1⟩ : ∃ q, l.contains (s.size : Int) = q := ⟨_, rfl⟩
  have HIr := Lib.hid (HI1.out (s.size : Int) (by omega) (by omega))
  rw [hq1] at HIr
  have hqb := Lib.hid hq1
  clear hq1 HI1
  go_wp2_with fail
  refine (HOf1.out _ bb).mono ?_
  rintro e w2 ⟨A1, c1, rfl, hown, g⟩
  replace bb := bb.trans (g.mono bb.size)
  replace HX := Lib.hid (HX.out.on g)
  have HR := Lib.hid (own_RI hown)
  clear g hown HOf1
  clear p0 p1 p2 p3
  obtain ⟨_, p0, p1, p2, p3⟩ := HX.out
  go_wp2_with fail
  refine (HIq.out _ bb).mono ?_
  rintro e w3 ⟨rfl, g⟩
  replace bb := bb.trans (g.mono bb.size)
  replace HX := Lib.hid (HX.out.on g)
  replace HR := Lib.hid (HR.out.on g)
  clear g HIq
  clear p0 p1 p2 p3
  obtain ⟨_, p0, p1, p2, p3⟩ := HX.out
  have HB3 := Lib.hid bb
  have hw3 := bb.size
  clear bb
  cases q0
  case false =>
    have HUs : Hid (upL l 0 = []) := Lib.hid (upL_no HGe.out (by simpa using hqa.out))
    clear hqa p0 p1 p2 p3
    go_wp2_with fail
    go_loopw [7, 9, 12] (fun vu va vi wx => ∃ (k u c7 : Nat) (A7 : Option Addr) (a : Int), vi = .int .i64 k ∧ va = .int .i64 a ∧ (k : Int) ≤ a ∧ 0 ≤ a ∧ a ≤ s.size ∧ vu = .slice A7 u c7 ∧ Hid ((upL l a).length = u) ∧ Hid (wx.ownsRow w3.heap.size 3 1 (.slice A7 u c7) u (icells (upL l a))) ∧ Hid (Below w3.heap.size w3 wx)) (fun _ _ vi _ => s.size + 1 - (intOf vi).toNat)
    case atStart => exact ⟨0, 0, 0, none, 0, rfl, rfl, by omega, by omega, by omega, rfl, Lib.hid (by rw [HUs.out]; rfl), Lib.hid (by rw [HUs.out]; exact World.ownsRow_nil _ _ _ _), Lib.hid (Below.refl _ _)⟩
    case round =>
      obtain ⟨k, u, c7, A7, a, rfl, rfl, hk, ha0, ha1, rfl, HLn, HO, HB⟩ := hrel
      have kd : (k : Int) ≤ (s.size : Int) := by omega
      have kd2 : k ≤ s.size := by omega
      have hul : u ≤ 1001 := by have := HUl.out a; have := HLn.out; omega
      obtain ⟨_, p0, p1, p2, p3⟩ := HX.out.on HB.out
      have bb := below_call HB3.out hw3 HB.out
      go_wp2_with fail
      refine (HN1.out a ha0 ha1 _ bb).mono ?_
      rintro e w4 ⟨y, rfl, hy, g⟩
      have HY := Lib.hid hy
      have y1 : a < y := hy.gt
      have y2 : y ≤ (s.size : Int) + 1 := hy.le
      have y3 : ¬ y ≤ a := by omega
      have HB4 := Lib.hid (below_call HB.out HB.out.size g)
      have HO4 := Lib.hid (own_below HO.out g)
      clear hy g bb HB HO p0 p1 p2 p3
      by_cases hyl : (s.size : Int) < y
      · have HUa : Hid (upL l a = l) := Lib.hid (upL_end HLe.out HY.out hyl)
        have hu : Z = u := by rw [← HLn.out, HUa.out]; exact HZl.out.symm
        subst hu
        have HU4 : Hid (RI w4 w4.heap.size A7 Z l) := Lib.hid (by have h := own_RI HO4.out; rw [HUa.out] at h; exact h)
        have HR4 := Lib.hid (HR.out.on HB4.out)
        have HX4 := Lib.hid (HX.out.on HB4.out)
        have bb4 := below_call HB3.out hw3 HB4.out
        clear HLn HO4 HB4 HB3 HX HR HUl HY y1 y2 y3
        obtain ⟨_, p0, p1, p2, p3⟩ := HX4.out
        as_aux_lemma =>
          clear HUa
          go_wp2_with fail
          refine (HIr.out _ bb4).mono ?_
          rintro e w5 ⟨rfl, g⟩
          have bb5 := below_call bb4 bb4.size g
          have HX5 := Lib.hid (HX4.out.on g)
          have HR5 := Lib.hid (HR4.out.on g)
          have HU5 := Lib.hid (HU4.out.on g)
          have HB5 := Lib.hid bb5
          have hw5 := bb5.size
          clear g HIr bb4 bb5 HX4 HR4 HU4 p0 p1 p2 p3
          cases q1
          case false =>
            have HDs : Hid (dnL l (s.size : Int) = []) := Lib.hid (dnL_no HLe.out (by simpa using hqb.out))
            clear hqb
            go_wp2_with fail
            go_loopw [8, 9, 17] (fun vu va vi wx => ∃ (k u c8 : Nat) (A8 : Option Addr) (a : Int), vi = .int .i64 k ∧ va = .int .i64 a ∧ (k : Int) + a ≤ s.size ∧ 0 ≤ a ∧ a ≤ s.size ∧ vu = .slice A8 u c8 ∧ Hid ((dnL l a).length = u) ∧ Hid (wx.ownsRow w5.heap.size 3 1 (.slice A8 u c8) u (icells (dnL l a))) ∧ Hid (A8 = none → c8 = 0) ∧ Hid (Below w5.heap.size w5 wx)) (fun _ _ vi _ => s.size + 1 - (intOf vi).toNat)
            case atStart => exact ⟨0, 0, 0, none, s.size, rfl, rfl, by omega, by omega, by omega, rfl, Lib.hid (by rw [HDs.out]; rfl), Lib.hid (by rw [HDs.out]; exact World.ownsRow_nil _ _ _ _), Lib.hid (fun _ => rfl), Lib.hid (Below.refl _ _)⟩
            case round =>
              obtain ⟨k, u, c8, A8, a, rfl, rfl, hk, ha0, ha1, rfl, HLn, HO, HNn, HB⟩ := hrel
              have kd : (k : Int) ≤ (s.size : Int) := by omega
              have kd2 : k ≤ s.size := by omega
              have hul : u ≤ 1001 := by have := HDl.out a; have := HLn.out; omega
              obtain ⟨_, p0, p1, p2, p3⟩ := HX5.out.on HB.out
              have bb := below_call HB5.out hw5 HB.out
              go_wp2_with fail
              refine (HP1.out a ha0 ha1 _ bb).mono ?_
              rintro e w6 ⟨z, rfl, hz, g⟩
              have HZ := Lib.hid hz
              have z1 : z < a := hz.lt
              have z2 : -1 ≤ z := hz.ge
              have z3 : ¬ a ≤ z := by omega
              have HB6 := Lib.hid (below_call HB.out HB.out.size g)
              have HO6 := Lib.hid (own_below HO.out g)
              clear hz g bb HB HO p0 p1 p2 p3
              by_cases hzl : z < 0
              · have HDe : Hid (dnL l a = l) := Lib.hid (dnL_end HGe.out HZ.out hzl)
                have hu : Z = u := by rw [← HLn.out, HDe.out]; exact HZl.out.symm
                subst hu
                have HRd : Hid (RI w6 w6.heap.size A8 Z l) := Lib.hid (by have h := own_RI HO6.out; rw [HDe.out] at h; exact h)
                have HRb := Lib.hid (HR5.out.on HB6.out)
                have HRu := Lib.hid (HU5.out.on HB6.out)
                have bb6 := below_call HB5.out hw5 HB6.out
                have hk1 := keepInts_n l l Z Z A7 A1 c7 c1 w6 HRu.out HRb.out (by omega)
                rw [eqX_yes rfl] at hk1
                have HK := Lib.hid hk1
                clear hk1 HO6 HB6
                go_wp2_with fail
                refine HK.out.mono ?_
                rintro e w7 ⟨rfl, g⟩
                have bb7 := below_call bb6 bb6.size g
                have HRd := Lib.hid (HRd.out.on g)
                have HRb := Lib.hid (HRb.out.on g)
                have hk2 := keepInts_n l l Z Z A8 A1 c8 c1 w7 HRd.out HRb.out (by omega)
                rw [eqX_yes rfl] at hk2
                have HK2 := Lib.hid hk2
                clear g HK bb6 hk2
                go_wp2_with fail
                refine HK2.out.mono ?_
                rintro e w8 ⟨rfl, g⟩
                have bb := below_call bb7 bb7.size g
                clear g HK2 bb7
                go_wp2_with fail
                refine (HWk.out _ bb).mono ?_
                rintro e w9 ⟨rfl, g9⟩
                have bf := bb.trans (g9.mono bb.size)
                clear g9
                go_wp2_with fail
                go_ret
                exact ⟨rfl, bf⟩
              · have hz0' : 0 ≤ z := by omega
                have HDs2 := Lib.hid (dnL_step HSo.out HZ.out hz0')
                have HOz : Hid ((w6.alloc (.cells #[.int .i64 z] 3)).ownsRow w5.heap.size 3 1 (.slice (some ⟨w6.heap.size, 0, none⟩) 1 1) 1 (icells [z])) := Lib.hid (by
                  have h := World.ownsRow_lit (e := 3) (size := 1) w6 #[.int .i64 z] 1 (base := w5.heap.size) HB6.out.size (by unfold maxLen; omega) rfl
                  exact h)
                have HRs : Hid (Reads (w6.alloc (.cells #[.int .i64 z] 3)) (w6.alloc (.cells #[.int .i64 z] 3)).heap.size 1 A8 u (icells (dnL l a))) := Lib.hid ((own_RI HO6.out).on (below_new w6 (.cells #[.int .i64 z] 3))).2
                have HOne := Lib.hid (icells_one (dnL l a))
                have HBa := Lib.hid (below_call HB6.out HB6.out.size (below_new w6 (.cells #[.int .i64 z] 3)))
                clear HO6 HB6
                go_wp2_with (at_builtin; refine wpList_append_src rfl _ _ 51 rfl w5.heap.size 3 i0 _ 1 8 Tryd.underlying51 hi0 hz0 hz1 hz2 rfl (by decide) _ _ _ rfl HOz.out A8 u c8 _ (icells (dnL l a)) rfl HNn.out HRs.out HOne.out ?n3 ?n4 ?n5 ?_)
                case n3 => unfold maxLen; omega
                case n4 => omega
                case n5 => exact HBa.out.size
                intro A9 c9 w9 hown9 hn9 hgrow9
                have HB9 : Hid (Below w5.heap.size w5 w9) := Lib.hid (below_grown HBa.out HBa.out.size HOz.out hgrow9)
                have HO9 : Hid (w9.ownsRow w5.heap.size 3 1 (.slice A9 (1 + u) c9) (1 + u) (icells (dnL l z))) := Lib.hid (by rw [HDs2.out]; simpa [icells] using hown9)
                have HN9 := Lib.hid hn9
                have HL9 : Hid ((dnL l z).length = 1 + u) := Lib.hid (by rw [HDs2.out, List.length_append, HLn.out]; rfl)
                clear hown9 hgrow9 hn9 HOz HRs HOne HBa
                go_wp2_with fail
                go_roundw
                case rel => exact ⟨k + 1, 1 + u, c9, A9, z, by go_num, rfl, by omega, by omega, by omega, by first | rfl | go_num, HL9, HO9, HN9, HB9⟩
                case measure => simp [intOf]; omega
          case true =>
            have HDs : Hid (dnL l (s.size : Int) = [(s.size : Int)]) := Lib.hid (dnL_yes HSo.out HLe.out (by simpa using hqb.out))
            clear hqb
            have HRd5 : Hid (Reads (w5.alloc (.cells #[.int .i64 (s.size : Int)] 3)) (w5.heap.size + 1) 1 (some ⟨w5.heap.size, 0, none⟩) 1 (icells [(s.size : Int)])) := Lib.hid (by
              have h := reads_int w5 (s.size : Int)
              simpa using h)
            have HOne5 := Lib.hid (icells_one [(s.size : Int)])
            have HOa : Hid ((w5.alloc (.cells #[.int .i64 (s.size : Int)] 3)).ownsRow w5.heap.size 3 1 (.slice none 0 0) 0 []) := Lib.hid (World.ownsRow_nil _ _ _ _)
            have HBa := Lib.hid (below_new w5 (.cells #[.int .i64 (s.size : Int)] 3))
            go_wp2_with (at_builtin; refine wpList_append_src rfl _ _ 51 rfl w5.heap.size 3 i0 _ 1 8 Tryd.underlying51 hi0 hz0 hz1 hz2 rfl (by decide) _ _ _ rfl HOa.out (some ⟨w5.heap.size, 0, none⟩) 1 1 (w5.heap.size + 1) (icells [(s.size : Int)]) rfl (fun h => by cases h) HRd5.out HOne5.out ?n3 ?n4 ?n5 ?_)
            case n3 => unfold maxLen; omega
            case n4 => omega
            case n5 => first | omega | (simp; omega) | simp
            intro A9 c9 w9 hown9 hn9 hgrow9
            have HB9 : Hid (Below w5.heap.size w5 w9) := Lib.hid (below_grown HBa.out HBa.out.size HOa.out hgrow9)
            have HO9 : Hid (w9.ownsRow w5.heap.size 3 1 (.slice A9 (0 + 1) c9) (0 + 1) (icells (dnL l (s.size : Int)))) := Lib.hid (by rw [HDs.out]; exact hown9)
            have HN9 := Lib.hid hn9
            clear hown9 hgrow9 hn9 HOa HRd5 HOne5 HBa
            go_wp2_with fail
            go_loopw [8, 9, 17] (fun vu va vi wx => ∃ (k u c8 : Nat) (A8 : Option Addr) (a : Int), vi = .int .i64 k ∧ va = .int .i64 a ∧ (k : Int) + a ≤ s.size ∧ 0 ≤ a ∧ a ≤ s.size ∧ vu = .slice A8 u c8 ∧ Hid ((dnL l a).length = u) ∧ Hid (wx.ownsRow w5.heap.size 3 1 (.slice A8 u c8) u (icells (dnL l a))) ∧ Hid (A8 = none → c8 = 0) ∧ Hid (Below w5.heap.size w5 wx)) (fun _ _ vi _ => s.size + 1 - (intOf vi).toNat)
            case atStart => exact ⟨0, 1, c9, A9, s.size, rfl, rfl, by omega, by omega, by omega, rfl, Lib.hid (by rw [HDs.out]; rfl), HO9, HN9, HB9⟩
            case round =>
              obtain ⟨k, u, c8, A8, a, rfl, rfl, hk, ha0, ha1, rfl, HLn, HO, HNn, HB⟩ := hrel
              have kd : (k : Int) ≤ (s.size : Int) := by omega
              have kd2 : k ≤ s.size := by omega
              have hul : u ≤ 1001 := by have := HDl.out a; have := HLn.out; omega
              obtain ⟨_, p0, p1, p2, p3⟩ := HX5.out.on HB.out
              have bb := below_call HB5.out hw5 HB.out
              go_wp2_with fail
              refine (HP1.out a ha0 ha1 _ bb).mono ?_
              rintro e w6 ⟨z, rfl, hz, g⟩
              have HZ := Lib.hid hz
              have z1 : z < a := hz.lt
              have z2 : -1 ≤ z := hz.ge
              have z3 : ¬ a ≤ z := by omega
              have HB6 := Lib.hid (below_call HB.out HB.out.size g)
              have HO6 := Lib.hid (own_below HO.out g)
              clear hz g bb HB HO p0 p1 p2 p3
              by_cases hzl : z < 0
              · have HDe : Hid (dnL l a = l) := Lib.hid (dnL_end HGe.out HZ.out hzl)
                have hu : Z = u := by rw [← HLn.out, HDe.out]; exact HZl.out.symm
                subst hu
                have HRd : Hid (RI w6 w6.heap.size A8 Z l) := Lib.hid (by have h := own_RI HO6.out; rw [HDe.out] at h; exact h)
                have HRb := Lib.hid (HR5.out.on HB6.out)
                have HRu := Lib.hid (HU5.out.on HB6.out)
                have bb6 := below_call HB5.out hw5 HB6.out
                have hk1 := keepInts_n l l Z Z A7 A1 c7 c1 w6 HRu.out HRb.out (by omega)
                rw [eqX_yes rfl] at hk1
                have HK := Lib.hid hk1
                clear hk1 HO6 HB6
                go_wp2_with fail
                refine HK.out.mono ?_
                rintro e w7 ⟨rfl, g⟩
                have bb7 := below_call bb6 bb6.size g
                have HRd := Lib.hid (HRd.out.on g)
                have HRb := Lib.hid (HRb.out.on g)
                have hk2 := keepInts_n l l Z Z A8 A1 c8 c1 w7 HRd.out HRb.out (by omega)
                rw [eqX_yes rfl] at hk2
                have HK2 := Lib.hid hk2
                clear g HK bb6 hk2
                go_wp2_with fail
                refine HK2.out.mono ?_
                rintro e w8 ⟨rfl, g⟩
                have bb := below_call bb7 bb7.size g
                clear g HK2 bb7
                go_wp2_with fail
                refine (HWk.out _ bb).mono ?_
                rintro e w9 ⟨rfl, g9⟩
                have bf := bb.trans (g9.mono bb.size)
                clear g9
                go_wp2_with fail
                go_ret
                exact ⟨rfl, bf⟩
              · have hz0' : 0 ≤ z := by omega
                have HDs2 := Lib.hid (dnL_step HSo.out HZ.out hz0')
                have HOz : Hid ((w6.alloc (.cells #[.int .i64 z] 3)).ownsRow w5.heap.size 3 1 (.slice (some ⟨w6.heap.size, 0, none⟩) 1 1) 1 (icells [z])) := Lib.hid (by
                  have h := World.ownsRow_lit (e := 3) (size := 1) w6 #[.int .i64 z] 1 (base := w5.heap.size) HB6.out.size (by unfold maxLen; omega) rfl
                  exact h)
                have HRs : Hid (Reads (w6.alloc (.cells #[.int .i64 z] 3)) (w6.alloc (.cells #[.int .i64 z] 3)).heap.size 1 A8 u (icells (dnL l a))) := Lib.hid ((own_RI HO6.out).on (below_new w6 (.cells #[.int .i64 z] 3))).2
                have HOne := Lib.hid (icells_one (dnL l a))
                have HBa := Lib.hid (below_call HB6.out HB6.out.size (below_new w6 (.cells #[.int .i64 z] 3)))
                clear HO6 HB6
                go_wp2_with (at_builtin; refine wpList_append_src rfl _ _ 51 rfl w5.heap.size 3 i0 _ 1 8 Tryd.underlying51 hi0 hz0 hz1 hz2 rfl (by decide) _ _ _ rfl HOz.out A8 u c8 _ (icells (dnL l a)) rfl HNn.out HRs.out HOne.out ?n3 ?n4 ?n5 ?_)
                case n3 => unfold maxLen; omega
                case n4 => omega
                case n5 => exact HBa.out.size
                intro A9 c9 w9 hown9 hn9 hgrow9
                have HB9 : Hid (Below w5.heap.size w5 w9) := Lib.hid (below_grown HBa.out HBa.out.size HOz.out hgrow9)
                have HO9 : Hid (w9.ownsRow w5.heap.size 3 1 (.slice A9 (1 + u) c9) (1 + u) (icells (dnL l z))) := Lib.hid (by rw [HDs2.out]; simpa [icells] using hown9)
                have HN9 := Lib.hid hn9
                have HL9 : Hid ((dnL l z).length = 1 + u) := Lib.hid (by rw [HDs2.out, List.length_append, HLn.out]; rfl)
                clear hown9 hgrow9 hn9 HOz HRs HOne HBa
                go_wp2_with fail
                go_roundw
                case rel => exact ⟨k + 1, 1 + u, c9, A9, z, by go_num, rfl, by omega, by omega, by omega, by first | rfl | go_num, HL9, HO9, HN9, HB9⟩
                case measure => simp [intOf]; omega
      · have hyl2 : y ≤ (s.size : Int) := by omega
        have HUs2 := Lib.hid (upL_step HSo.out HY.out hyl2)
        have HRd4 : Hid (Reads (w4.alloc (.cells #[.int .i64 y] 3)) (w4.heap.size + 1) 1 (some ⟨w4.heap.size, 0, none⟩) 1 (icells [y])) := Lib.hid (by
          have h := reads_int w4 y
          simpa using h)
        have HOne4 := Lib.hid (icells_one [y])
        have HOa := Lib.hid (HO4.out.alloc (.cells #[.int .i64 y] 3))
        have HBa := Lib.hid (below_call HB4.out HB4.out.size (below_new w4 (.cells #[.int .i64 y] 3)))
        clear HO4 HB4
        go_wp2_with (at_builtin; refine wpList_append_src rfl _ _ 51 rfl w3.heap.size 3 i0 _ 1 8 Tryd.underlying51 hi0 hz0 hz1 hz2 rfl (by decide) _ _ _ rfl HOa.out (some ⟨w4.heap.size, 0, none⟩) 1 1 (w4.heap.size + 1) (icells [y]) rfl (fun h => by cases h) HRd4.out HOne4.out ?n3 ?n4 ?n5 ?_)
        case n3 => unfold maxLen; omega
        case n4 => omega
        case n5 => exact HBa.out.size
        intro A9 c9 w9 hown9 hn9 hgrow9
        have HB9 : Hid (Below w3.heap.size w3 w9) := Lib.hid (below_grown HBa.out HBa.out.size HOa.out hgrow9)
        have HO9 : Hid (w9.ownsRow w3.heap.size 3 1 (.slice A9 (u + 1) c9) (u + 1) (icells (upL l y))) := Lib.hid (by rw [HUs2.out, icells_snoc']; exact hown9)
        have HL9 : Hid ((upL l y).length = u + 1) := Lib.hid (by rw [HUs2.out, List.length_append, HLn.out]; rfl)
        clear hown9 hgrow9 hn9 HOa HRd4 HOne4 HBa
        go_wp2_with fail
        go_roundw
        case rel => exact ⟨k + 1, u + 1, c9, A9, y, by go_num, rfl, by omega, by omega, hyl2, rfl, HL9, HO9, HB9⟩
        case measure => simp [intOf]; omega
  case true =>
    have HUs : Hid (upL l 0 = [0]) := Lib.hid (upL_yes HSo.out HGe.out (by simpa using hqa.out))
    clear hqa p0 p1 p2 p3
    have HRd3 : Hid (Reads (w3.alloc (.cells #[.int .i64 0] 3)) (w3.heap.size + 1) 1 (some ⟨w3.heap.size, 0, none⟩) 1 (icells [0])) := Lib.hid (by
      have h := reads_int w3 0
      simpa using h)
    have HOne3 := Lib.hid (icells_one [0])
    have HOa : Hid ((w3.alloc (.cells #[.int .i64 0] 3)).ownsRow w3.heap.size 3 1 (.slice none 0 0) 0 []) := Lib.hid (World.ownsRow_nil _ _ _ _)
    have HBa := Lib.hid (below_new w3 (.cells #[.int .i64 0] 3))
    go_wp2_with (at_builtin; refine wpList_append_src rfl _ _ 51 rfl w3.heap.size 3 i0 _ 1 8 Tryd.underlying51 hi0 hz0 hz1 hz2 rfl (by decide) _ _ _ rfl HOa.out (some ⟨w3.heap.size, 0, none⟩) 1 1 (w3.heap.size + 1) (icells [0]) rfl (fun h => by cases h) HRd3.out HOne3.out ?n3 ?n4 ?n5 ?_)
    case n3 => unfold maxLen; omega
    case n4 => omega
    case n5 => first | omega | (simp; omega) | simp
    intro A9 c9 w9 hown9 hn9 hgrow9
    have HB9 : Hid (Below w3.heap.size w3 w9) := Lib.hid (below_grown HBa.out HBa.out.size HOa.out hgrow9)
    have HO9 : Hid (w9.ownsRow w3.heap.size 3 1 (.slice A9 (0 + 1) c9) (0 + 1) (icells (upL l 0))) := Lib.hid (by rw [HUs.out]; exact hown9)
    clear hown9 hgrow9 hn9 HOa HRd3 HOne3 HBa
    go_wp2_with fail
    go_loopw [7, 9, 12] (fun vu va vi wx => ∃ (k u c7 : Nat) (A7 : Option Addr) (a : Int), vi = .int .i64 k ∧ va = .int .i64 a ∧ (k : Int) ≤ a ∧ 0 ≤ a ∧ a ≤ s.size ∧ vu = .slice A7 u c7 ∧ Hid ((upL l a).length = u) ∧ Hid (wx.ownsRow w3.heap.size 3 1 (.slice A7 u c7) u (icells (upL l a))) ∧ Hid (Below w3.heap.size w3 wx)) (fun _ _ vi _ => s.size + 1 - (intOf vi).toNat)
    case atStart => exact ⟨0, 1, c9, A9, 0, rfl, rfl, by omega, by omega, by omega, rfl, Lib.hid (by rw [HUs.out]; rfl), HO9, HB9⟩
    case round =>
      obtain ⟨k, u, c7, A7, a, rfl, rfl, hk, ha0, ha1, rfl, HLn, HO, HB⟩ := hrel
      have kd : (k : Int) ≤ (s.size : Int) := by omega
      have kd2 : k ≤ s.size := by omega
      have hul : u ≤ 1001 := by have := HUl.out a; have := HLn.out; omega
      obtain ⟨_, p0, p1, p2, p3⟩ := HX.out.on HB.out
      have bb := below_call HB3.out hw3 HB.out
      go_wp2_with fail
      refine (HN1.out a ha0 ha1 _ bb).mono ?_
      rintro e w4 ⟨y, rfl, hy, g⟩
      have HY := Lib.hid hy
      have y1 : a < y := hy.gt
      have y2 : y ≤ (s.size : Int) + 1 := hy.le
      have y3 : ¬ y ≤ a := by omega
      have HB4 := Lib.hid (below_call HB.out HB.out.size g)
      have HO4 := Lib.hid (own_below HO.out g)
      clear hy g bb HB HO p0 p1 p2 p3
      by_cases hyl : (s.size : Int) < y
      · have HUa : Hid (upL l a = l) := Lib.hid (upL_end HLe.out HY.out hyl)
        have hu : Z = u := by rw [← HLn.out, HUa.out]; exact HZl.out.symm
        subst hu
        have HU4 : Hid (RI w4 w4.heap.size A7 Z l) := Lib.hid (by have h := own_RI HO4.out; rw [HUa.out] at h; exact h)
        have HR4 := Lib.hid (HR.out.on HB4.out)
        have HX4 := Lib.hid (HX.out.on HB4.out)
        have bb4 := below_call HB3.out hw3 HB4.out
        clear HLn HO4 HB4 HB3 HX HR HUl HY y1 y2 y3
        obtain ⟨_, p0, p1, p2, p3⟩ := HX4.out
        as_aux_lemma =>
          clear HUa
          go_wp2_with fail
          refine (HIr.out _ bb4).mono ?_
          rintro e w5 ⟨rfl, g⟩
          have bb5 := below_call bb4 bb4.size g
          have HX5 := Lib.hid (HX4.out.on g)
          have HR5 := Lib.hid (HR4.out.on g)
          have HU5 := Lib.hid (HU4.out.on g)
          have HB5 := Lib.hid bb5
          have hw5 := bb5.size
          clear g HIr bb4 bb5 HX4 HR4 HU4 p0 p1 p2 p3
          cases q1
          case false =>
            have HDs : Hid (dnL l (s.size : Int) = []) := Lib.hid (dnL_no HLe.out (by simpa using hqb.out))
            clear hqb
            go_wp2_with fail
            go_loopw [8, 9, 17] (fun vu va vi wx => ∃ (k u c8 : Nat) (A8 : Option Addr) (a : Int), vi = .int .i64 k ∧ va = .int .i64 a ∧ (k : Int) + a ≤ s.size ∧ 0 ≤ a ∧ a ≤ s.size ∧ vu = .slice A8 u c8 ∧ Hid ((dnL l a).length = u) ∧ Hid (wx.ownsRow w5.heap.size 3 1 (.slice A8 u c8) u (icells (dnL l a))) ∧ Hid (A8 = none → c8 = 0) ∧ Hid (Below w5.heap.size w5 wx)) (fun _ _ vi _ => s.size + 1 - (intOf vi).toNat)
            case atStart => exact ⟨0, 0, 0, none, s.size, rfl, rfl, by omega, by omega, by omega, rfl, Lib.hid (by rw [HDs.out]; rfl), Lib.hid (by rw [HDs.out]; exact World.ownsRow_nil _ _ _ _), Lib.hid (fun _ => rfl), Lib.hid (Below.refl _ _)⟩
            case round =>
              obtain ⟨k, u, c8, A8, a, rfl, rfl, hk, ha0, ha1, rfl, HLn, HO, HNn, HB⟩ := hrel
              have kd : (k : Int) ≤ (s.size : Int) := by omega
              have kd2 : k ≤ s.size := by omega
              have hul : u ≤ 1001 := by have := HDl.out a; have := HLn.out; omega
              obtain ⟨_, p0, p1, p2, p3⟩ := HX5.out.on HB.out
              have bb := below_call HB5.out hw5 HB.out
              go_wp2_with fail
              refine (HP1.out a ha0 ha1 _ bb).mono ?_
              rintro e w6 ⟨z, rfl, hz, g⟩
              have HZ := Lib.hid hz
              have z1 : z < a := hz.lt
              have z2 : -1 ≤ z := hz.ge
              have z3 : ¬ a ≤ z := by omega
              have HB6 := Lib.hid (below_call HB.out HB.out.size g)
              have HO6 := Lib.hid (own_below HO.out g)
              clear hz g bb HB HO p0 p1 p2 p3
              by_cases hzl : z < 0
              · have HDe : Hid (dnL l a = l) := Lib.hid (dnL_end HGe.out HZ.out hzl)
                have hu : Z = u := by rw [← HLn.out, HDe.out]; exact HZl.out.symm
                subst hu
                have HRd : Hid (RI w6 w6.heap.size A8 Z l) := Lib.hid (by have h := own_RI HO6.out; rw [HDe.out] at h; exact h)
                have HRb := Lib.hid (HR5.out.on HB6.out)
                have HRu := Lib.hid (HU5.out.on HB6.out)
                have bb6 := below_call HB5.out hw5 HB6.out
                have hk1 := keepInts_n l l Z Z A7 A1 c7 c1 w6 HRu.out HRb.out (by omega)
                rw [eqX_yes rfl] at hk1
                have HK := Lib.hid hk1
                clear hk1 HO6 HB6
                go_wp2_with fail
                refine HK.out.mono ?_
                rintro e w7 ⟨rfl, g⟩
                have bb7 := below_call bb6 bb6.size g
                have HRd := Lib.hid (HRd.out.on g)
                have HRb := Lib.hid (HRb.out.on g)
                have hk2 := keepInts_n l l Z Z A8 A1 c8 c1 w7 HRd.out HRb.out (by omega)
                rw [eqX_yes rfl] at hk2
                have HK2 := Lib.hid hk2
                clear g HK bb6 hk2
                go_wp2_with fail
                refine HK2.out.mono ?_
                rintro e w8 ⟨rfl, g⟩
                have bb := below_call bb7 bb7.size g
                clear g HK2 bb7
                go_wp2_with fail
                refine (HWk.out _ bb).mono ?_
                rintro e w9 ⟨rfl, g9⟩
                have bf := bb.trans (g9.mono bb.size)
                clear g9
                go_wp2_with fail
                go_ret
                exact ⟨rfl, bf⟩
              · have hz0' : 0 ≤ z := by omega
                have HDs2 := Lib.hid (dnL_step HSo.out HZ.out hz0')
                have HOz : Hid ((w6.alloc (.cells #[.int .i64 z] 3)).ownsRow w5.heap.size 3 1 (.slice (some ⟨w6.heap.size, 0, none⟩) 1 1) 1 (icells [z])) := Lib.hid (by
                  have h := World.ownsRow_lit (e := 3) (size := 1) w6 #[.int .i64 z] 1 (base := w5.heap.size) HB6.out.size (by unfold maxLen; omega) rfl
                  exact h)
                have HRs : Hid (Reads (w6.alloc (.cells #[.int .i64 z] 3)) (w6.alloc (.cells #[.int .i64 z] 3)).heap.size 1 A8 u (icells (dnL l a))) := Lib.hid ((own_RI HO6.out).on (below_new w6 (.cells #[.int .i64 z] 3))).2
                have HOne := Lib.hid (icells_one (dnL l a))
                have HBa := Lib.hid (below_call HB6.out HB6.out.size (below_new w6 (.cells #[.int .i64 z] 3)))
                clear HO6 HB6
                go_wp2_with (at_builtin; refine wpList_append_src rfl _ _ 51 rfl w5.heap.size 3 i0 _ 1 8 Tryd.underlying51 hi0 hz0 hz1 hz2 rfl (by decide) _ _ _ rfl HOz.out A8 u c8 _ (icells (dnL l a)) rfl HNn.out HRs.out HOne.out ?n3 ?n4 ?n5 ?_)
                case n3 => unfold maxLen; omega
                case n4 => omega
                case n5 => exact HBa.out.size
                intro A9 c9 w9 hown9 hn9 hgrow9
                have HB9 : Hid (Below w5.heap.size w5 w9) := Lib.hid (below_grown HBa.out HBa.out.size HOz.out hgrow9)
                have HO9 : Hid (w9.ownsRow w5.heap.size 3 1 (.slice A9 (1 + u) c9) (1 + u) (icells (dnL l z))) := Lib.hid (by rw [HDs2.out]; simpa [icells] using hown9)
                have HN9 := Lib.hid hn9
                have HL9 : Hid ((dnL l z).length = 1 + u) := Lib.hid (by rw [HDs2.out, List.length_append, HLn.out]; rfl)
                clear hown9 hgrow9 hn9 HOz HRs HOne HBa
                go_wp2_with fail
                go_roundw
                case rel => exact ⟨k + 1, 1 + u, c9, A9, z, by go_num, rfl, by omega, by omega, by omega, by first | rfl | go_num, HL9, HO9, HN9, HB9⟩
                case measure => simp [intOf]; omega
          case true =>
            have HDs : Hid (dnL l (s.size : Int) = [(s.size : Int)]) := Lib.hid (dnL_yes HSo.out HLe.out (by simpa using hqb.out))
            clear hqb
            have HRd5 : Hid (Reads (w5.alloc (.cells #[.int .i64 (s.size : Int)] 3)) (w5.heap.size + 1) 1 (some ⟨w5.heap.size, 0, none⟩) 1 (icells [(s.size : Int)])) := Lib.hid (by
              have h := reads_int w5 (s.size : Int)
              simpa using h)
            have HOne5 := Lib.hid (icells_one [(s.size : Int)])
            have HOa : Hid ((w5.alloc (.cells #[.int .i64 (s.size : Int)] 3)).ownsRow w5.heap.size 3 1 (.slice none 0 0) 0 []) := Lib.hid (World.ownsRow_nil _ _ _ _)
            have HBa := Lib.hid (below_new w5 (.cells #[.int .i64 (s.size : Int)] 3))
            go_wp2_with (at_builtin; refine wpList_append_src rfl _ _ 51 rfl w5.heap.size 3 i0 _ 1 8 Tryd.underlying51 hi0 hz0 hz1 hz2 rfl (by decide) _ _ _ rfl HOa.out (some ⟨w5.heap.size, 0, none⟩) 1 1 (w5.heap.size + 1) (icells [(s.size : Int)]) rfl (fun h => by cases h) HRd5.out HOne5.out ?n3 ?n4 ?n5 ?_)
            case n3 => unfold maxLen; omega
            case n4 => omega
            case n5 => first | omega | (simp; omega) | simp
            intro A9 c9 w9 hown9 hn9 hgrow9
            have HB9 : Hid (Below w5.heap.size w5 w9) := Lib.hid (below_grown HBa.out HBa.out.size HOa.out hgrow9)
            have HO9 : Hid (w9.ownsRow w5.heap.size 3 1 (.slice A9 (0 + 1) c9) (0 + 1) (icells (dnL l (s.size : Int)))) := Lib.hid (by rw [HDs.out]; exact hown9)
            have HN9 := Lib.hid hn9
            clear hown9 hgrow9 hn9 HOa HRd5 HOne5 HBa
            go_wp2_with fail
            go_loopw [8, 9, 17] (fun vu va vi wx => ∃ (k u c8 : Nat) (A8 : Option Addr) (a : Int), vi = .int .i64 k ∧ va = .int .i64 a ∧ (k : Int) + a ≤ s.size ∧ 0 ≤ a ∧ a ≤ s.size ∧ vu = .slice A8 u c8 ∧ Hid ((dnL l a).length = u) ∧ Hid (wx.ownsRow w5.heap.size 3 1 (.slice A8 u c8) u (icells (dnL l a))) ∧ Hid (A8 = none → c8 = 0) ∧ Hid (Below w5.heap.size w5 wx)) (fun _ _ vi _ => s.size + 1 - (intOf vi).toNat)
            case atStart => exact ⟨0, 1, c9, A9, s.size, rfl, rfl, by omega, by omega, by omega, rfl, Lib.hid (by rw [HDs.out]; rfl), HO9, HN9, HB9⟩
            case round =>
              obtain ⟨k, u, c8, A8, a, rfl, rfl, hk, ha0, ha1, rfl, HLn, HO, HNn, HB⟩ := hrel
              have kd : (k : Int) ≤ (s.size : Int) := by omega
              have kd2 : k ≤ s.size := by omega
              have hul : u ≤ 1001 := by have := HDl.out a; have := HLn.out; omega
              obtain ⟨_, p0, p1, p2, p3⟩ := HX5.out.on HB.out
              have bb := below_call HB5.out hw5 HB.out
              go_wp2_with fail
              refine (HP1.out a ha0 ha1 _ bb).mono ?_
              rintro e w6 ⟨z, rfl, hz, g⟩
              have HZ := Lib.hid hz
              have z1 : z < a := hz.lt
              have z2 : -1 ≤ z := hz.ge
              have z3 : ¬ a ≤ z := by omega
              have HB6 := Lib.hid (below_call HB.out HB.out.size g)
              have HO6 := Lib.hid (own_below HO.out g)
              clear hz g bb HB HO p0 p1 p2 p3
              by_cases hzl : z < 0
              · have HDe : Hid (dnL l a = l) := Lib.hid (dnL_end HGe.out HZ.out hzl)
                have hu : Z = u := by rw [← HLn.out, HDe.out]; exact HZl.out.symm
                subst hu
                have HRd : Hid (RI w6 w6.heap.size A8 Z l) := Lib.hid (by have h := own_RI HO6.out; rw [HDe.out] at h; exact h)
                have HRb := Lib.hid (HR5.out.on HB6.out)
                have HRu := Lib.hid (HU5.out.on HB6.out)
                have bb6 := below_call HB5.out hw5 HB6.out
                have hk1 := keepInts_n l l Z Z A7 A1 c7 c1 w6 HRu.out HRb.out (by omega)
                rw [eqX_yes rfl] at hk1
                have HK := Lib.hid hk1
                clear hk1 HO6 HB6
                go_wp2_with fail
                refine HK.out.mono ?_
                rintro e w7 ⟨rfl, g⟩
                have bb7 := below_call bb6 bb6.size g
                have HRd := Lib.hid (HRd.out.on g)
                have HRb := Lib.hid (HRb.out.on g)
                have hk2 := keepInts_n l l Z Z A8 A1 c8 c1 w7 HRd.out HRb.out (by omega)
                rw [eqX_yes rfl] at hk2
                have HK2 := Lib.hid hk2
                clear g HK bb6 hk2
                go_wp2_with fail
                refine HK2.out.mono ?_
                rintro e w8 ⟨rfl, g⟩
                have bb := below_call bb7 bb7.size g
                clear g HK2 bb7
                go_wp2_with fail
                refine (HWk.out _ bb).mono ?_
                rintro e w9 ⟨rfl, g9⟩
                have bf := bb.trans (g9.mono bb.size)
                clear g9
                go_wp2_with fail
                go_ret
                exact ⟨rfl, bf⟩
              · have hz0' : 0 ≤ z := by omega
                have HDs2 := Lib.hid (dnL_step HSo.out HZ.out hz0')
                have HOz : Hid ((w6.alloc (.cells #[.int .i64 z] 3)).ownsRow w5.heap.size 3 1 (.slice (some ⟨w6.heap.size, 0, none⟩) 1 1) 1 (icells [z])) := Lib.hid (by
                  have h := World.ownsRow_lit (e := 3) (size := 1) w6 #[.int .i64 z] 1 (base := w5.heap.size) HB6.out.size (by unfold maxLen; omega) rfl
                  exact h)
                have HRs : Hid (Reads (w6.alloc (.cells #[.int .i64 z] 3)) (w6.alloc (.cells #[.int .i64 z] 3)).heap.size 1 A8 u (icells (dnL l a))) := Lib.hid ((own_RI HO6.out).on (below_new w6 (.cells #[.int .i64 z] 3))).2
                have HOne := Lib.hid (icells_one (dnL l a))
                have HBa := Lib.hid (below_call HB6.out HB6.out.size (below_new w6 (.cells #[.int .i64 z] 3)))
                clear HO6 HB6
                go_wp2_with (at_builtin; refine wpList_append_src rfl _ _ 51 rfl w5.heap.size 3 i0 _ 1 8 Tryd.underlying51 hi0 hz0 hz1 hz2 rfl (by decide) _ _ _ rfl HOz.out A8 u c8 _ (icells (dnL l a)) rfl HNn.out HRs.out HOne.out ?n3 ?n4 ?n5 ?_)
                case n3 => unfold maxLen; omega
                case n4 => omega
                case n5 => exact HBa.out.size
                intro A9 c9 w9 hown9 hn9 hgrow9
                have HB9 : Hid (Below w5.heap.size w5 w9) := Lib.hid (below_grown HBa.out HBa.out.size HOz.out hgrow9)
                have HO9 : Hid (w9.ownsRow w5.heap.size 3 1 (.slice A9 (1 + u) c9) (1 + u) (icells (dnL l z))) := Lib.hid (by rw [HDs2.out]; simpa [icells] using hown9)
                have HN9 := Lib.hid hn9
                have HL9 : Hid ((dnL l z).length = 1 + u) := Lib.hid (by rw [HDs2.out, List.length_append, HLn.out]; rfl)
                clear hown9 hgrow9 hn9 HOz HRs HOne HBa
                go_wp2_with fail
                go_roundw
                case rel => exact ⟨k + 1, 1 + u, c9, A9, z, by go_num, rfl, by omega, by omega, by omega, by first | rfl | go_num, HL9, HO9, HN9, HB9⟩
                case measure => simp [intOf]; omega
      · have hyl2 : y ≤ (s.size : Int) := by omega
        have HUs2 := Lib.hid (upL_step HSo.out HY.out hyl2)
        have HRd4 : Hid (Reads (w4.alloc (.cells #[.int .i64 y] 3)) (w4.heap.size + 1) 1 (some ⟨w4.heap.size, 0, none⟩) 1 (icells [y])) := Lib.hid (by
          have h := reads_int w4 y
          simpa using h)
        have HOne4 := Lib.hid (icells_one [y])
        have HOa := Lib.hid (HO4.out.alloc (.cells #[.int .i64 y] 3))
        have HBa := Lib.hid (below_call HB4.out HB4.out.size (below_new w4 (.cells #[.int .i64 y] 3)))
        clear HO4 HB4
        go_wp2_with (at_builtin; refine wpList_append_src rfl _ _ 51 rfl w3.heap.size 3 i0 _ 1 8 Tryd.underlying51 hi0 hz0 hz1 hz2 rfl (by decide) _ _ _ rfl HOa.out (some ⟨w4.heap.size, 0, none⟩) 1 1 (w4.heap.size + 1) (icells [y]) rfl (fun h => by cases h) HRd4.out HOne4.out ?n3 ?n4 ?n5 ?_)
        case n3 => unfold maxLen; omega
        case n4 => omega
        case n5 => exact HBa.out.size
        intro A9 c9 w9 hown9 hn9 hgrow9
        have HB9 : Hid (Below w3.heap.size w3 w9) := Lib.hid (below_grown HBa.out HBa.out.size HOa.out hgrow9)
        have HO9 : Hid (w9.ownsRow w3.heap.size 3 1 (.slice A9 (u + 1) c9) (u + 1) (icells (upL l y))) := Lib.hid (by rw [HUs2.out, icells_snoc']; exact hown9)
        have HL9 : Hid ((upL l y).length = u + 1) := Lib.hid (by rw [HUs2.out, List.length_append, HLn.out]; rfl)
        clear hown9 hgrow9 hn9 HOa HRd4 HOne4 HBa
        go_wp2_with fail
        go_roundw
        case rel => exact ⟨k + 1, u + 1, c9, A9, y, by go_num, rfl, by omega, by omega, hyl2, rfl, HL9, HO9, HB9⟩
        case measure => simp [intOf]; omega

/-! From the walk to the row and its card. -/
set_option maxRecDepth 100000 in
theorem contract (H : Type) (enc : TypeId × Value → H) (W : World) (base : Nat) (args : Array Value) (ds gs : List (DataW H)) (before : List MemPlace)
    (hval0 : ∀ (j : Nat) t v, Tryd.f8.params[j]? = some t → args[j]? = some v → Value.okWide Tryd.prog W .any base t v)
    (hW : DataW.Whole enc Tryd.prog Tryd.f8.params.toList Rows.seekGoesSpec.vars false W args.toList ds gs before) (hL : laidMetH Tryd.prog Rows.seekGoesRow.laid W) :
    Calls Tryd.prog 8 args W fun e W' => ∃ v, e = .returned v ∧ Rows.seekGoesSpec.post enc Tryd.prog Tryd.f8 false true false false W args v W' := by
  have hval : ∀ (j : Nat) t v, Tryd.f8.params[j]? = some t → args[j]? = some v → Value.okWide Tryd.prog W .any base t v := hval0
  have hW' := hW
  obtain ⟨p, q, hA0, hV, rfl, hfz, hnd⟩ := hW
  have hA : DataW.TrodAll enc Tryd.prog W 0 (fun _ => true) true Tryd.f8.params.toList args.toList ds p := hA0
  rw [Tryd.params8] at hA hval
  obtain ⟨v0, vs0, d0, ds0, p0, q0, hargs, rfl, rfl, h0, r0⟩ := trodAll_cons hA
  obtain ⟨v1, vs1, d1, ds1, p1, q1, rfl, rfl, rfl, h1, r1⟩ := trodAll_cons r0
  obtain ⟨rfl, rfl, rfl⟩ := trodAll_nil r1
  obtain rfl : args = #[v0, v1] := by cases args; simp_all
  obtain ⟨rfl, rfl⟩ := trodVars_none hV
  obtain ⟨cs0, rfl, _⟩ := okWide_struct Tryd.underlying26 (hval 0 26 v0 rfl rfl)
  have k0 := h0
  have lt0 : ∀ x ∈ p0, x.block < W.heap.size := by obtain ⟨m, hm⟩ := k0; exact DataW.trod_lt m _ _ _ hm
  obtain ⟨T0, e0, ok0⟩ : ∃ T : TV, cs0.toList = [.int .i64 T.cl, .slice T.a1 T.n1 T.c1, .slice T.a2 T.n2 T.c2, .slice T.a3 T.n3 T.c3] ∧ T.ok W := by
    obtain ⟨fuel, hf⟩ := h0
    exact open_table (by simpa [Value.cells] using hf)
  obtain rfl : cs0 = #[.int .i64 T0.cl, .slice T0.a1 T0.n1 T0.c1, .slice T0.a2 T0.n2 T0.c2, .slice T0.a3 T0.n3 T0.c3] := by cases cs0; simp_all
  obtain ⟨a1, rfl, rfl, rfl, z1⟩ := open_string Tryd.underlying9 (hval 1 9 v1 rfl rfl) h1
  clear hA0 hval0
  refine (walk T0 a1 W ok0 (U.tab_of_laid10 hL)).mono fun e W' ⟨he, bel⟩ => ?_
  subst he
  exact ⟨_, rfl, _, _, _, [], _, [], hW', trodAll_mk1 (shut_bool Tryd.underlying4 _), (trodAll_cons_mk (Below.trod laidOut (by kernel_rfl) (of_decide_eq_true (by kernel_rfl)) k0 bel lt0) (trodAll_cons_mk (shut_string Tryd.underlying9 z1) trodAll_mk0)), rfl, bel.frame _, fun h => by cases h⟩

theorem laid_met (os : Os) : laidMet Tryd.prog Rows.seekGoesRow.laid ((U.laidWorld os).forCall (fun _ _ => 0) ⟨#[], #[.agg #[.int .i64 0, .slice none 0 0, .slice none 0 0, .slice none 0 0], .string ByteArray.empty], []⟩).memory :=
  laidMet_of_run' 8 (by kernel_rfl) (by kernel_rfl)
theorem reads (os : Os) {H : Type} (enc : TypeId × Value → H) : ∃ places, DataW.whole enc Tryd.prog ((U.laidWorld os).forCall (fun _ _ => 0) ⟨#[], #[.agg #[.int .i64 0, .slice none 0 0, .slice none 0 0, .slice none 0 0], .string ByteArray.empty], []⟩).memory Tryd.f8.params.toList Rows.seekGoesSpec.vars false (#[.agg #[.int .i64 0, .slice none 0 0, .slice none 0 0, .slice none 0 0], .string ByteArray.empty] : Array Value).toList 8 = some ([.agg [.lit (.int .i64 0), .nil, .nil, .nil], .lit (.string [])], [], places) :=
  ⟨[], by kernel_rfl⟩

set_option maxRecDepth 100000 in
theorem lifted (os : Os) (started : os.Started) (H : Type) (enc : TypeId × Value → H) (F : Stop.Interp) :
    ReturnsInHanded {} Tryd.checked os 8 .any ((OpenSpec.ofChange Rows.seekGoesSpec).preRow enc Tryd.prog Tryd.f8 Rows.seekGoesRow.domain false Rows.seekGoesRow.laid) (((OpenSpec.ofChange Rows.seekGoesSpec).at F).post enc Tryd.prog Tryd.f8 false true false false) := by
  obtain ⟨places, hx⟩ := reads os enc
  refine returnsInHanded_of_row (C := Tryd.checked) (s := OpenSpec.ofChange Rows.seekGoesSpec) own started (by kernel_rfl) Tryd.func8
    (witness_row_at (enc := enc) (C := Tryd.checked) false (U.laidWorld os) #[.agg #[.int .i64 0, .slice none 0 0, .slice none 0 0, .slice none 0 0], .string ByteArray.empty] rfl (by kernel_rfl) (by kernel_rfl) (by kernel_rfl)
      (OpenSpec.preRow_of_cond 8 hx (by kernel_rfl) (fun k hk => by cases hk) (by kernel_rfl) (laid_met os))) ?_
  intro W base args ds gs before hval hW _ _ _ hL _ _
  exact contract H enc W base args ds gs before hval hW hL

set_option maxRecDepth 100000 in
theorem said : Rows.SeekGoesSaid :=
  OpenClaim.holds_of_cond 8 Tryd.f8 rfl rfl rfl rfl rfl rfl rfl ⟨rfl, rfl, rfl, rfl, rfl⟩ rfl rfl rfl rfl rfl (by kernel_rfl) Tryd.func8 (by kernel_rfl)
    (of_decide_eq_true (by kernel_rfl)) (by unfold Func.isWrapper; first | (rw [if_pos (by decide +kernel)]; kernel_rfl) | (rw [if_neg (by decide +kernel)]; exact ⟨rfl, rfl⟩))
    (fun os started H enc _ F => by rw [OpenClaim.pre_eq_preRow]; exact lifted os started H enc F)

theorem plain (f : FuncId) (fn : Func) (hf : Tryd.pinned.checked.prog.funcNamed Rows.seekGoesRow.func = some f) (hfn : Tryd.pinned.checked.prog.funcs[f]? = some fn) :
    false = Tryd.pinned.checked.prog.looks [] ∧ ∀ (j : Nat) t, fn.params[j]? = some t → Tryd.pinned.checked.prog.wantsStandIn t = false := by
  obtain rfl : f = 8 := Option.some.inj ((show Tryd.prog.funcNamed Rows.seekGoesRow.func = some 8 by kernel_rfl).symm.trans hf) |>.symm
  obtain rfl : fn = Tryd.f8 := (Option.some.inj (Tryd.func8.symm.trans hfn)).symm
  refine ⟨by kernel_rfl, fun j t ht => ?_⟩
  rw [Tryd.params8] at ht
  have hm : t ∈ [26, 9] := by simpa using Array.mem_of_getElem? ht
  have hall : ([26, 9].all fun u => !Tryd.prog.wantsStandIn u) = true := by kernel_rfl
  exact (show Tryd.prog.wantsStandIn t = false by simpa using List.all_eq_true.1 hall t hm)

theorem card : Rows.SeekGoesCardSaid :=
  Claim7.holds_tied_plain_at .later [] _ _ _ _ said (fun _ h => by cases h) (by kernel_rfl) (fun _ h => by cases h) seekGoes_row_tie rfl ⟨rfl, rfl⟩ (by kernel_rfl) rfl plain (by kernel_rfl)
end Go.Proofs.YtmhfgncffkfelaaDoor.seekGoes

namespace Go.Proofs.YtmhfgncffkfelaaDoor
/-- The given statement, under a short name. -/
theorem seekGoes_holds : Rows.SeekGoesCardSaid := seekGoes.card
#print axioms seekGoes_holds
end Go.Proofs.YtmhfgncffkfelaaDoor
