/- SegmentWhole: of every table that may be and every text: what is cut, one behind the other, is the text, none of it empty; breaks rise, stand where pieces begin, or at the end, and are the scalars' breaks there.
   Conditions: none but the row's own (the variable of lead bytes starts as the program's text lays it). -/
import Derived.Test.YtbnconieedgcmaaDoorKS
import Derived.Test.YtbnconieedgcmaaDoorGIllM
import Derived.Test.YtbnconieedgcmaaDoorGWholeM
import Derived.Test.YtbnconieedgcmaaDoorKFr
import Derived.Test.YtbnconieedgcmaaDoorKU2
import Derived.BigQuiet
import Derived.Deep.CutRange
namespace Go.Proofs.YtbnconieedgcmaaDoor.segmentWhole
open Go.ChangeShapes Go.WideShapes Go.ChangeAt Go.RowKit Go.Deep Go.BigFrame
open U (Tr tcells tcell tris Tab strOf)
open Go.ChangeMaps (open_string shut_string)
set_option linter.unusedVariables false
set_option maxRecDepth 4000
set_option linter.unusedSimpArgs false

set_option maxHeartbeats 16000000 in
theorem walk (T : TV) (s : ByteArray) (W : World) (hT : T.ok W) (hTab : Tab W) :
    Calls Tryd.prog 9 #[T.v, .string s] W fun e W' => e = .returned (.bool true) ∧ Below W.heap.size W W' := by
  obtain ⟨i0, hi0, hz0, hz1, hz2⟩ := info_parts info3
  have HRT := Lib.hid (fun V (g : Below W.heap.size W V) => refTable_any T V (hT.on g))
  have HWk := Lib.hid (fun V (g : Below W.heap.size W V) => wakes9_any V (hTab.below g))
  have HPc := Lib.hid (fun (h : s.size ≤ 1000) V (g : Below W.heap.size W V) => pieces_own s V (by omega) (hTab.below g))
  have HOf := Lib.hid (fun (h : s.size ≤ 1000) V (g : Below W.heap.size W V) => of_any T s V (hT.on g) (by omega) (hTab.below g))
  have HCu := Lib.hid (fun (h : s.size ≤ 1000) V (g : Below W.heap.size W V) => cut_any T s V (hT.on g) (by omega) (hTab.below g))
  have HBk := Lib.hid (fun (L : List UInt8) (n : Nat) A c V (hn : n ≤ 1000) (g : Below W.heap.size W V) (h : RI V V.heap.size A n (valsL L)) => wbreaks_any T (valsL L) n A c V (hT.on g) h (by omega))
  have HX := Lib.hid (box_new W T)
  have bb := below_new W (.cells #[.int .i64 T.cl, .slice T.a1 T.n1 T.c1, .slice T.a2 T.n2 T.c2, .slice T.a3 T.n3 T.c3] 26)
  clear hT hTab
  simp only [TV.v] at *
  obtain ⟨_, p0, p1, p2, p3⟩ := HX.out
  go_enter Tryd.func9, Tryd.ntmps9
  go_wp2_with fail
  generalize W.alloc (.cells #[.int .i64 T.cl, .slice T.a1 T.n1 T.c1, .slice T.a2 T.n2 T.c2, .slice T.a3 T.n3 T.c3] 26) = V0 at *
  refine (HRT.out _ bb).mono ?_
  rintro e w1 ⟨rfl, g⟩
  replace bb := bb.trans (g.mono bb.size)
  replace HX := Lib.hid (HX.out.on g)
  clear g HRT
  clear p0 p1 p2 p3
  obtain ⟨_, p0, p1, p2, p3⟩ := HX.out
  by_cases he : errV T.tb = 0
  case neg =>
    have hn : (errV T.tb != 0) = true := by rw [bne_iff_ne]; exact he
    generalize errV T.tb = ev at *
    go_wp2_with fail
    refine (HWk.out _ bb).mono ?_
    rintro e w9 ⟨rfl, g9⟩
    have bf := bb.trans (g9.mono bb.size)
    clear g9
    go_wp2_with fail
    go_ret
    exact ⟨rfl, bf⟩
  have HE : Hid (∀ L, ofS T.tb L = some (natI (ofA T.tb L))) := Lib.hid (fun L => by unfold ofS; rw [if_pos he])
  have HEc : Hid (∀ L, cutS T.tb L = some (cutA T.tb L)) := Lib.hid (fun L => by unfold cutS; rw [if_pos he])
  have HEb : Hid (∀ L, brW T.tb (valsL L) = some (natI (brN T.tb L))) := Lib.hid (fun L => by rw [brW_is, if_pos he]; rfl)
  rw [he]
  clear he
  by_cases hsz : 500 < s.size
  · have hszI : (500 : Int) < (s.size : Int) := by omega
    go_wp2_with fail
    refine (HWk.out _ bb).mono ?_
    rintro e w9 ⟨rfl, g9⟩
    have bf := bb.trans (g9.mono bb.size)
    clear g9
    go_wp2_with fail
    go_ret
    exact ⟨rfl, bf⟩
  have hszI : ¬ (500 : Int) < (s.size : Int) := by omega
  have hsz1 : s.size ≤ 500 := by omega
  have hsz2 : s.size ≤ 1000 := by omega
  obtain ⟨L, hL⟩ : ∃ L, s.data.toList = L := ⟨_, rfl⟩
  have hLl : L.length = s.size := by rw [← hL]; exact Array.length_toList
  have hM0 : nP L ≤ 500 := by have := nP_le L; omega
  have HPc1 := Lib.hid (HPc.out hsz2)
  have HO1 := Lib.hid (HOf.out hsz2)
  have HC1 := Lib.hid (HCu.out hsz2)
  unfold OutPl at HO1
  unfold OutSs at HC1
  rw [hL, HE.out] at HO1
  rw [hL, HEc.out] at HC1
  rw [hL] at HPc1
  simp only [Option.getD_some, Option.isSome_some, natI_len, ofA_len] at HO1 HC1
  obtain ⟨M, hM⟩ : ∃ M, nP L = M := ⟨_, rfl⟩
  rw [hM] at HPc1 hM0
  have HBk1 := Lib.hid (fun A c V (g : Below W.heap.size W V) (h : RI V V.heap.size A M (valsL L)) => HBk.out L M A c V (by omega) g h)
  unfold OutPl at HBk1
  rw [HEb.out] at HBk1
  simp only [Option.getD_some, Option.isSome_some, natI_len] at HBk1
  have HLt : Hid ((tris L).length = M) := Lib.hid (by rw [tris_len, hM])
  have HLv : Hid ((valsL L).length = M) := Lib.hid (by rw [valsL_len, hM])
  have HAe : Hid (atL L M = s.size) := Lib.hid (by rw [← hM, atL_end, hLl])
  have HQm : Hid (∀ i (h : i < (brN T.tb L).length), (brN T.tb L)[i] ≤ M) := Lib.hid (fun i h => by have := brN_le (List.getElem_mem h); omega)
  have HQs : Hid (∀ i (h : i + 1 < (brN T.tb L).length), atL L (brN T.tb L)[i] < atL L (brN T.tb L)[i + 1]) := Lib.hid (fun i h => atL_rise L (List.pairwise_iff_getElem.1 (brN_sorted T.tb L) i (i + 1) (by omega) h (by omega)) (brN_le (List.getElem_mem h)))
  have hZb : (brN T.tb L).length ≤ 501 := by have := brN_len T.tb L; omega
  have hCb : (cutA T.tb L).length ≤ 502 := by have := cutA_len T.tb L; omega
  have HCn : Hid (∀ i (h : i < (cutA T.tb L).length), (cutA T.tb L)[i] ≠ []) := Lib.hid (fun i h => cutA_ne T.tb L _ (List.getElem_mem h))
  have HCf : Hid (((cutA T.tb L).take (cutA T.tb L).length).flatten = s.data.toList) := Lib.hid (by rw [List.take_length, cutA_flat, hL])
  have HCt := Lib.hid (fun i (h : i < (cutA T.tb L).length) => flat_take (cutA T.tb L) h)
  have HCs : Hid (∀ i, ((cutA T.tb L).take i).flatten.length ≤ 500) := Lib.hid (fun i => by have := flat_le (cutA T.tb L) i; rw [cutA_flat] at this; omega)
  have HCi : Hid (∀ i (h : i < (cutA T.tb L).length), (cutA T.tb L)[i].length ≤ 500) := Lib.hid (fun i h => by have := at_le (cutA T.tb L) h; rw [cutA_flat] at this; omega)
  have HOa : Hid (∀ i (h : i < (ofA T.tb L).length) (h2 : i < (brN T.tb L).length), (ofA T.tb L)[i] = atL L (brN T.tb L)[i]) := Lib.hid (fun i h h2 => List.getElem_map _)
  have HOl : Hid ((ofA T.tb L).length = (brN T.tb L).length) := Lib.hid (ofA_len T.tb L)
  have HCc : Hid (L ≠ [] → (cutA T.tb L).length = ((ofA T.tb L).filter (inL s.size)).length + 1) := Lib.hid (fun h => by rw [← hLl]; exact cutA_count T.tb L h)
  have HC0 : Hid (L = [] → (cutA T.tb L).length = 0) := Lib.hid (fun h => by rw [h, cutA_nil]; rfl)
  have HLs := Lib.hid hL
  clear hL hM hLl HPc HOf HCu HBk HE HEc HEb
  obtain ⟨Z, hZ⟩ : ∃ Z, (brN T.tb L).length = Z := ⟨_, rfl⟩
  obtain ⟨C, hC⟩ : ∃ C, (cutA T.tb L).length = C := ⟨_, rfl⟩
  rw [hZ] at HO1 HBk1 hZb HOl
  rw [hC] at HC1 hCb HCf HCc HC0
  have HZ := Lib.hid hZ
  have HC := Lib.hid hC
  clear hZ hC
  go_wp2_with fail
  refine (HO1.out _ bb).mono ?_
  rintro e w2 ⟨A1, c1, rfl, hown, g⟩
  replace bb := bb.trans (g.mono bb.size)
  replace HX := Lib.hid (HX.out.on g)
  have HRa := Lib.hid (own_RI hown)
  clear hown g HO1
  clear p0 p1 p2 p3
  obtain ⟨_, p0, p1, p2, p3⟩ := HX.out
  go_wp2_with fail
  refine (HC1.out _ bb).mono ?_
  rintro e w3 ⟨A2, c2, rfl, hown, g⟩
  replace bb := bb.trans (g.mono bb.size)
  replace HX := Lib.hid (HX.out.on g)
  replace HRa := Lib.hid (HRa.out.on g)
  have HRc := Lib.hid (own_RS hown)
  clear hown g HC1 p0 p1 p2 p3
  have HB3 := Lib.hid bb
  clear bb
  go_wp2_with fail
  go_loopw [9, 10] (fun va vi wr => ∃ (k : Nat) (al : ByteArray), vi = .int .i64 k ∧ k ≤ C ∧ va = .string al ∧ Hid (al.data.toList = ((cutA T.tb L).take k).flatten) ∧ wr = w3) (fun _ vi _ => C - (intOf vi).toNat)
  case atStart => exact ⟨0, ⟨#[]⟩, rfl, Nat.zero_le _, rfl, Lib.hid rfl, rfl⟩
  case round =>
    obtain ⟨k, al, rfl, hk, rfl, HA, rfl⟩ := hrel
    by_cases hlt : k < C
    · have kl : k < (cutA T.tb L).length := by rw [HC.out]; exact hlt
      obtain ⟨b, o, hA2, _, q0⟩ := HRc.out.at kl
      subst hA2
      have hne := HCn.out k kl
      have HTk := Lib.hid (HCt.out k kl)
      have has : al.size ≤ 500 := by
        have h1 : al.data.toList.length = al.size := Array.length_toList
        rw [HA.out] at h1
        have := HCs.out k
        omega
      have hps : (strOf (cutA T.tb L)[k]).size ≤ 500 := by rw [U.strOf_size]; exact HCi.out k kl
      have hie : (strOf (cutA T.tb L)[k]).toList.isEmpty = false := by
        rw [ByteArray.toList_eq, U.strOf_data]
        cases h : (cutA T.tb L)[k] with
        | nil => exact absurd h hne
        | cons x y => rfl
      have HAn : Hid ((al ++ strOf (cutA T.tb L)[k]).data.toList = ((cutA T.tb L).take (k + 1)).flatten) := Lib.hid (by rw [HTk.out, ← HA.out]; simp [U.strOf_data])
      clear hne HTk HA
      generalize strOf (cutA T.tb L)[k] = pc at *
      go_wp2_with fail
      go_roundw
      case rel => exact ⟨k + 1, al ++ pc, by go_num, by omega, rfl, HAn, by trivial⟩
      case measure => simp [intOf]; omega
    · obtain rfl : k = C := by omega
      have hal : al = s := by
        have h := HA.out
        rw [HCf.out] at h
        rw [← U.strOf_of al, ← U.strOf_of s, h]
      subst hal
      have e1 : (al == al) = true := by rw [beq_toListBytes]; exact beq_self_eq_true _
      have e2 : (al.toList == al.toList) = true := beq_self_eq_true _
      have e3 : (al.data.toList == al.data.toList) = true := beq_self_eq_true _
      have bb := HB3.out
      clear HA HRc HCn HCf HCt HCs HCi
      go_wp2_with fail
      refine (HPc1.out _ bb).mono ?_
      rintro e w4 ⟨A4, c4, rfl, hown, g⟩
      replace bb := bb.trans (g.mono bb.size)
      replace HX := Lib.hid (HX.out.on g)
      replace HRa := Lib.hid (HRa.out.on g)
      have HRP := Lib.hid (own_RP hown)
      have hw4 := bb.size
      have HB4 := Lib.hid bb
      clear hown g HPc1 bb HB3
      go_wp2_with fail
      go_loopw [12, 13] (fun vs vi wr => ∃ (k c6 : Nat) (A6 : Option Addr), vi = .int .i64 k ∧ k ≤ M ∧ vs = .slice A6 k c6 ∧ Hid (wr.ownsRow w4.heap.size 3 1 (.slice A6 k c6) k (icells ((valsL L).take k))) ∧ Hid (Below w4.heap.size w4 wr)) (fun _ vi _ => M - (intOf vi).toNat)
      case atStart => exact ⟨0, 0, none, rfl, Nat.zero_le _, rfl, Lib.hid (World.ownsRow_nil _ _ _ _), Lib.hid (Below.refl _ _)⟩
      case round =>
        rename World => wx
        obtain ⟨k2, c6, A6, rfl, hk2, rfl, HO, HB⟩ := hrel
        by_cases hlt2 : k2 < M
        · have kl : k2 < (tris L).length := by have := HLt.out; omega
          obtain ⟨bb9, oo, hA, _, q0, q1, q2⟩ := (HRP.out.on HB.out).at kl
          subst hA
          have HTk := Lib.hid (vals_take9 L kl)
          generalize (tris L)[k2].v = x at *
          generalize (tris L)[k2].a = y at *
          generalize (tris L)[k2].n = z at *
          have hws := HB.out.size
          have HRd := Lib.hid (reads_int wx x)
          have HOne := Lib.hid (icells_one [x])
          have HOaa := Lib.hid (HO.out.alloc (.cells #[.int .i64 x] 3))
          have HBa := Lib.hid (HB.out.alloc hws (.cells #[.int .i64 x] 3))
          clear HO HB
          go_wp2_with (at_builtin; refine wpList_append_src rfl _ _ 49 rfl w4.heap.size 3 i0 _ 1 8 Tryd.underlying49 hi0 hz0 hz1 hz2 rfl (by decide) _ _ _ rfl HOaa.out (some ⟨wx.heap.size, 0, none⟩) 1 1 (wx.heap.size + 1) (icells [x]) rfl (fun h => by cases h) HRd.out HOne.out ?n3 ?n4 ?n5 ?_)
          case n3 => unfold maxLen; omega
          case n4 => omega
          case n5 => first | omega | (simp; omega)
          intro A9 c9 w9 hown9 hn9 hgrow9
          have HB9 : Hid (Below w4.heap.size w4 w9) := Lib.hid (below_grown HBa.out HBa.out.size HOaa.out hgrow9)
          have HO9 : Hid (w9.ownsRow w4.heap.size 3 1 (.slice A9 (k2 + 1) c9) (k2 + 1) (icells ((valsL L).take (k2 + 1)))) := Lib.hid (by rw [HTk.out, icells_snoc']; exact hown9)
          clear hown9 hgrow9 HOaa HRd HOne HBa HTk q0 q1 q2
          go_wp2_with fail
          go_roundw
          case rel => exact ⟨k2 + 1, c9, A9, by go_num, by omega, rfl, HO9, HB9⟩
          case measure => simp [intOf]; omega
        · obtain rfl : k2 = M := by omega
          have HTl : Hid ((valsL L).take k2 = valsL L) := Lib.hid (List.take_of_length_le (by rw [HLv.out]; exact Nat.le_refl _))
          rw [HTl.out] at HO
          replace HX := Lib.hid (HX.out.on HB.out)
          replace HRa := Lib.hid (HRa.out.on HB.out)
          replace HRP := Lib.hid (HRP.out.on HB.out)
          have bb := HB4.out.trans (HB.out.mono hw4)
          have HCk := Lib.hid (HBk1.out A6 c6 wx bb (own_RI HO.out))
          obtain ⟨_, p0, p1, p2, p3⟩ := HX.out
          clear HTl HO HB HB4 HBk1
          go_wp2_with fail
          refine HCk.out.mono ?_
          rintro e w5 ⟨A5, c5, rfl, hown, g⟩
          replace bb := bb.trans (g.mono bb.size)
          replace HRa := Lib.hid (HRa.out.on g)
          replace HRP := Lib.hid (HRP.out.on g)
          have HRw := Lib.hid (own_RI hown)
          have HB5 := Lib.hid bb
          have hzz : ((Z : Int) != (Z : Int)) = false := by simp
          clear hown g HCk bb p0 p1 p2 p3 HX
          go_wp2_with fail
          go_loopw [16] (fun vi wr => ∃ (i qd : Nat), vi = .int .i64 i ∧ i ≤ Z ∧ wr = w5.drewN qd) (fun vi _ => Z - (intOf vi).toNat)
          case atStart => exact ⟨0, 0, rfl, Nat.zero_le _, rfl⟩
          case round =>
            obtain ⟨i, qd, rfl, hi, rfl⟩ := hrel
            by_cases hiz : i < Z
            · have il : i < (brN T.tb L).length := by rw [HZ.out]; exact hiz
              have ia : i < (ofA T.tb L).length := by rw [HOl.out]; exact hiz
              have in1 : i < (natI (brN T.tb L)).length := by rw [natI_len]; exact il
              have in2 : i < (natI (ofA T.tb L)).length := by rw [natI_len]; exact ia
              obtain ⟨b5, o5, hA5, _, x0⟩ := HRw.out.at in1
              rw [natK_at _ il in1] at x0
              obtain ⟨b1, o1, hA1, _, y0⟩ := HRa.out.at in2
              rw [natK_at _ ia in2, HOa.out i ia il] at y0
              subst hA5 hA1
              have hqM := HQm.out i il
              have HPrev : Hid (0 < i → ∃ z : Nat, w5.cell? ⟨b1, o1 + (i - 1), none⟩ = some (.int .i64 (z : Int)) ∧ z < atL L (brN T.tb L)[i]) := Lib.hid (fun h => by
                obtain ⟨j, rfl⟩ : ∃ j, i = j + 1 := ⟨i - 1, by omega⟩
                have jl : j < (brN T.tb L).length := by omega
                have ja : j < (ofA T.tb L).length := by omega
                have jn : j < (natI (ofA T.tb L)).length := by rw [natI_len]; exact ja
                obtain ⟨b1', o1', hA1', _, z0⟩ := HRa.out.at jn
                rw [natK_at _ ja jn, HOa.out j ja jl] at z0
                injection hA1' with hA1'
                injection hA1' with h1 h2
                subst h1 h2
                exact ⟨atL L (brN T.tb L)[j], by simpa using z0, HQs.out j il⟩)
              have HEnd : Hid ((brN T.tb L)[i] = k2 → atL L (brN T.tb L)[i] = al.size) := Lib.hid (fun h => by rw [h, HAe.out])
              have HPc : Hid ((brN T.tb L)[i] < k2 → ∃ bb oo, A4 = some ⟨bb, oo, none⟩ ∧ w5.cell? ⟨bb, oo + (brN T.tb L)[i] * 3 + 1, none⟩ = some (.int .i64 ((atL L (brN T.tb L)[i] : Nat) : Int))) := Lib.hid (fun h => by
                have kl : (brN T.tb L)[i] < (tris L).length := by rw [HLt.out]; exact h
                obtain ⟨bb, oo, hA, _, r0, r1, r2⟩ := HRP.out.at kl
                rw [tris_at9 L kl] at r1
                exact ⟨bb, oo, hA, r1⟩)
              generalize hat : atL L (brN T.tb L)[i] = at_ at *
              generalize (brN T.tb L)[i] = q at *
              clear hat il ia in1 in2
              have hq0 : ¬ (q : Int) < 0 := by omega
              have hq1 : ¬ ((k2 : Int) < (q : Int)) := by omega
              have hb0 : ((at_ : Int) != (at_ : Int)) = false := by simp
              have hq0b : decide ((q : Int) < 0) = false := by simp
              have hq1b : decide ((k2 : Int) < (q : Int)) = false := by simp; omega
              by_cases hqe : q < k2
              · have hqI : (q : Int) < (k2 : Int) := by omega
                obtain ⟨b4, o4, hA4, r1⟩ := HPc.out hqe
                subst hA4
                by_cases hi0 : 0 < i
                · obtain ⟨z, z0, hz⟩ := HPrev.out hi0
                  have e1 : IntKind.i64.wrap ((i : Int) - 1) = ((i - 1 : Nat) : Int) := by rw [IntKind.wrap_i64]; omega
                  have e2 : (i : Int) - 1 = ((i - 1 : Nat) : Int) := by omega
                  have e3 : ((i - 1 : Nat) : Int) < (Z : Int) := by omega
                  have e3n : i - 1 < Z := by omega
                  have e4 : (0 : Int) < (i : Int) := by omega
                  have e5 : decide ((0 : Int) < (i : Int)) = true := by simp; omega
                  have e5n : decide (0 < i) = true := by simp; omega
                  have e6 : ¬ ((at_ : Int) ≤ (z : Int)) := by omega
                  have e6b : decide ((at_ : Int) ≤ (z : Int)) = false := by simp; omega
                  generalize i - 1 = i1 at *
                  clear HPrev HEnd HPc
                  go_wp2_with fail
                  go_quiet (fail)
                  go_wp2_with fail
                  go_roundw
                  case rel => exact ⟨i + 1, _, by go_num, by omega, rfl⟩
                  case measure => simp [intOf]; omega
                · have e4 : ¬ (0 : Int) < (i : Int) := by omega
                  have e5 : decide ((0 : Int) < (i : Int)) = false := by simp; omega
                  have e5n : decide (0 < i) = false := by simp; omega
                  clear HPrev HEnd HPc
                  go_wp2_with fail
                  go_quiet (fail)
                  go_wp2_with fail
                  go_roundw
                  case rel => exact ⟨i + 1, _, by go_num, by omega, rfl⟩
                  case measure => simp [intOf]; omega
              · have hqk : q = k2 := by omega
                have hqI : ¬ (q : Int) < (k2 : Int) := by omega
                have hav := HEnd.out hqk
                subst hav
                by_cases hi0 : 0 < i
                · obtain ⟨z, z0, hz⟩ := HPrev.out hi0
                  have e1 : IntKind.i64.wrap ((i : Int) - 1) = ((i - 1 : Nat) : Int) := by rw [IntKind.wrap_i64]; omega
                  have e2 : (i : Int) - 1 = ((i - 1 : Nat) : Int) := by omega
                  have e3 : ((i - 1 : Nat) : Int) < (Z : Int) := by omega
                  have e3n : i - 1 < Z := by omega
                  have e4 : (0 : Int) < (i : Int) := by omega
                  have e5 : decide ((0 : Int) < (i : Int)) = true := by simp; omega
                  have e5n : decide (0 < i) = true := by simp; omega
                  have e6 : ¬ ((al.size : Int) ≤ (z : Int)) := by omega
                  have e6b : decide ((al.size : Int) ≤ (z : Int)) = false := by simp; omega
                  generalize i - 1 = i1 at *
                  clear HPrev HEnd HPc
                  go_wp2_with fail
                  go_quiet (fail)
                  go_wp2_with fail
                  go_roundw
                  case rel => exact ⟨i + 1, _, by go_num, by omega, rfl⟩
                  case measure => simp [intOf]; omega
                · have e4 : ¬ (0 : Int) < (i : Int) := by omega
                  have e5 : decide ((0 : Int) < (i : Int)) = false := by simp; omega
                  have e5n : decide (0 < i) = false := by simp; omega
                  clear HPrev HEnd HPc
                  go_wp2_with fail
                  go_quiet (fail)
                  go_wp2_with fail
                  go_roundw
                  case rel => exact ⟨i + 1, _, by go_num, by omega, rfl⟩
                  case measure => simp [intOf]; omega
            · obtain rfl : i = Z := by omega
              have gd := below_drewN (Below.refl w5.heap.size w5) qd
              replace HRa := Lib.hid (HRa.out.on gd)
              have HB6 := Lib.hid (below_drewN HB5.out qd)
              clear gd HRP HRw HB5 HQs HQm
              generalize w5.drewN qd = w6 at *
              have HIl := Lib.hid (inN_le al.size (ofA T.tb L))
              have HI0 := Lib.hid (inN_zero al.size (ofA T.tb L))
              go_wp2_with fail
              go_loopw [18, 19] (fun vn vi wr => ∃ (j nn : Nat), vi = .int .i64 j ∧ j ≤ i ∧ vn = .int .i64 nn ∧ nn ≤ j ∧ Hid (inN al.size (ofA T.tb L) j = nn) ∧ wr = w6) (fun _ vi _ => i - (intOf vi).toNat)
              case atStart => exact ⟨0, 0, rfl, Nat.zero_le _, rfl, Nat.le_refl _, Lib.hid rfl, rfl⟩
              case round =>
                obtain ⟨j, nn, rfl, hj, rfl, hnj, HNn, rfl⟩ := hrel
                by_cases hjz : j < i
                · have ja : j < (ofA T.tb L).length := by rw [HOl.out]; exact hjz
                  have jn : j < (natI (ofA T.tb L)).length := by rw [natI_len]; exact ja
                  obtain ⟨b1, o1, hA1, _, y0⟩ := HRa.out.at jn
                  rw [natK_at _ ja jn] at y0
                  subst hA1
                  have HSu := Lib.hid (inN_succ al.size (ofA T.tb L) ja)
                  clear jn
                  generalize (ofA T.tb L)[j] = x at *
                  rw [HNn.out] at HSu
                  by_cases hin : 0 < x ∧ x < al.size
                  · obtain ⟨h1, h2⟩ := hin
                    have h1I : (0 : Int) < (x : Int) := by omega
                    have h2I : (x : Int) < (al.size : Int) := by omega
                    have HN2 : Hid (inN al.size (ofA T.tb L) (j + 1) = nn + 1) := Lib.hid (by
                      rw [HSu.out]; unfold inL; rw [decide_eq_true h1, decide_eq_true h2]; rfl)
                    clear HSu
                    go_wp2_with fail
                    go_roundw
                    case rel => exact ⟨j + 1, nn + 1, by go_num, by omega, by go_num, by omega, HN2, by trivial⟩
                    case measure => simp [intOf]; omega
                  · have HN2 : Hid (inN al.size (ofA T.tb L) (j + 1) = nn) := Lib.hid (by
                      rw [HSu.out]
                      have : inL al.size x = false := by
                        unfold inL
                        by_cases h : 0 < x
                        · rw [decide_eq_false (fun h2 => hin ⟨h, h2⟩), Bool.and_false]
                        · rw [decide_eq_false h, Bool.false_and]
                      rw [this]; rfl)
                    clear HSu
                    by_cases h1 : 0 < x
                    · have h1I : (0 : Int) < (x : Int) := by omega
                      have h2I : ¬ (x : Int) < (al.size : Int) := by omega
                      clear hin
                      go_wp2_with fail
                      go_roundw
                      case rel => exact ⟨j + 1, nn, by go_num, by omega, rfl, by omega, HN2, by trivial⟩
                      case measure => simp [intOf]; omega
                    · have h1I : ¬ (0 : Int) < (x : Int) := by omega
                      clear hin
                      go_wp2_with fail
                      go_roundw
                      case rel => exact ⟨j + 1, nn, by go_num, by omega, rfl, by omega, HN2, by trivial⟩
                      case measure => simp [intOf]; omega
                · obtain rfl : j = i := by omega
                  have HAll : Hid (((ofA T.tb L).filter (inL al.size)).length = nn) := Lib.hid (by rw [← HNn.out, inN_all _ _ (by rw [HOl.out]; exact Nat.le_refl _)])
                  have bb := HB6.out
                  clear HRa HB6 HNn HIl HI0
                  by_cases hem : L = []
                  · have hk0 := HC0.out hem
                    have hs0 : al = ⟨#[]⟩ := by
                      have h := HLs.out
                      rw [hem] at h
                      rw [← U.strOf_of al, h]; rfl
                    subst hs0 hk0
                    go_wp2_with fail
                    refine (HWk.out _ bb).mono ?_
                    rintro e w9 ⟨rfl, g9⟩
                    have bf := bb.trans (g9.mono bb.size)
                    clear g9
                    go_wp2_with fail
                    go_ret
                    exact ⟨rfl, bf⟩
                  · have hk1 := HCc.out hem
                    rw [HAll.out] at hk1
                    subst hk1
                    have hie : al.toList.isEmpty = false := by
                      rw [ByteArray.toList_eq, HLs.out]
                      cases h : L with
                      | nil => exact absurd h hem
                      | cons x y => rfl
                    have e7 : (((nn + 1 : Nat) : Int) == (nn : Int) + 1) = true := by rw [beq_iff_eq]; omega
                    have e8 : IntKind.i64.wrap ((nn : Int) + 1) = (nn : Int) + 1 := by rw [IntKind.wrap_i64]; omega
                    go_wp2_with fail
                    refine (HWk.out _ bb).mono ?_
                    rintro e w9 ⟨rfl, g9⟩
                    have bf := bb.trans (g9.mono bb.size)
                    clear g9
                    go_wp2_with fail
                    go_ret
                    exact ⟨rfl, bf⟩

/-! From the walk to the row and its card. -/
set_option maxRecDepth 100000 in
theorem contract (H : Type) (enc : TypeId × Value → H) (W : World) (base : Nat) (args : Array Value) (ds gs : List (DataW H)) (before : List MemPlace)
    (hval0 : ∀ (j : Nat) t v, Tryd.f9.params[j]? = some t → args[j]? = some v → Value.okWide Tryd.prog W .any base t v)
    (hW : DataW.Whole enc Tryd.prog Tryd.f9.params.toList Rows.segmentWholeSpec.vars false W args.toList ds gs before) (hL : laidMetH Tryd.prog Rows.segmentWholeRow.laid W) :
    Calls Tryd.prog 9 args W fun e W' => ∃ v, e = .returned v ∧ Rows.segmentWholeSpec.post enc Tryd.prog Tryd.f9 false true false false W args v W' := by
  have hval : ∀ (j : Nat) t v, Tryd.f9.params[j]? = some t → args[j]? = some v → Value.okWide Tryd.prog W .any base t v := hval0
  have hW' := hW
  obtain ⟨p, q, hA0, hV, rfl, hfz, hnd⟩ := hW
  have hA : DataW.TrodAll enc Tryd.prog W 0 (fun _ => true) true Tryd.f9.params.toList args.toList ds p := hA0
  rw [Tryd.params9] at hA hval
  obtain ⟨v0, vs0, d0, ds0, p0, q0, hargs, rfl, rfl, h0, r0⟩ := trodAll_cons hA
  obtain ⟨v1, vs1, d1, ds1, p1, q1, rfl, rfl, rfl, h1, r1⟩ := trodAll_cons r0
  obtain ⟨rfl, rfl, rfl⟩ := trodAll_nil r1
  obtain rfl : args = #[v0, v1] := by cases args; simp_all
  obtain ⟨rfl, rfl⟩ := trodVars_none hV
  obtain ⟨cs0, rfl, _⟩ := okWide_struct Tryd.underlying26 (hval 0 26 v0 rfl rfl)
  have k0 := h0
  have lt0 : ∀ x ∈ p0, x.block < W.heap.size := by obtain ⟨m, hm⟩ := k0; exact DataW.trod_lt m _ _ _ hm
  obtain ⟨T0, e0, ok0⟩ : ∃ T : TV, cs0.toList = [.int .i64 T.cl, .slice T.a1 T.n1 T.c1, .slice T.a2 T.n2 T.c2, .slice T.a3 T.n3 T.c3] ∧ T.ok W := by
    obtain ⟨fuel, hf⟩ := h0
    exact open_table (by simpa [Value.cells] using hf)
  obtain rfl : cs0 = #[.int .i64 T0.cl, .slice T0.a1 T0.n1 T0.c1, .slice T0.a2 T0.n2 T0.c2, .slice T0.a3 T0.n3 T0.c3] := by cases cs0; simp_all
  obtain ⟨a1, rfl, rfl, rfl, z1⟩ := open_string Tryd.underlying9 (hval 1 9 v1 rfl rfl) h1
  clear hA0 hval0
  refine (walk T0 a1 W ok0 (U.tab_of_laid hL)).mono fun e W' ⟨he, bel⟩ => ?_
  subst he
  exact ⟨_, rfl, _, _, _, [], _, [], hW', trodAll_mk1 (shut_bool Tryd.underlying4 _), (trodAll_cons_mk (Below.trod laidOut (by kernel_rfl) (of_decide_eq_true (by kernel_rfl)) k0 bel lt0) (trodAll_cons_mk (shut_string Tryd.underlying9 z1) trodAll_mk0)), rfl, bel.frame _, fun h => by cases h⟩

theorem laid_met (os : Os) : laidMet Tryd.prog Rows.segmentWholeRow.laid ((U.laidWorld os).forCall (fun _ _ => 0) ⟨#[], #[.agg #[.int .i64 0, .slice none 0 0, .slice none 0 0, .slice none 0 0], .string ByteArray.empty], []⟩).memory :=
  laidMet_of_run' 8 (by kernel_rfl) (by kernel_rfl)
theorem reads (os : Os) {H : Type} (enc : TypeId × Value → H) : ∃ places, DataW.whole enc Tryd.prog ((U.laidWorld os).forCall (fun _ _ => 0) ⟨#[], #[.agg #[.int .i64 0, .slice none 0 0, .slice none 0 0, .slice none 0 0], .string ByteArray.empty], []⟩).memory Tryd.f9.params.toList Rows.segmentWholeSpec.vars false (#[.agg #[.int .i64 0, .slice none 0 0, .slice none 0 0, .slice none 0 0], .string ByteArray.empty] : Array Value).toList 8 = some ([.agg [.lit (.int .i64 0), .nil, .nil, .nil], .lit (.string [])], [], places) :=
  ⟨[], by kernel_rfl⟩

set_option maxRecDepth 100000 in
theorem lifted (os : Os) (started : os.Started) (H : Type) (enc : TypeId × Value → H) (F : Stop.Interp) :
    ReturnsInHanded {} Tryd.checked os 9 .any ((OpenSpec.ofChange Rows.segmentWholeSpec).preRow enc Tryd.prog Tryd.f9 Rows.segmentWholeRow.domain false Rows.segmentWholeRow.laid) (((OpenSpec.ofChange Rows.segmentWholeSpec).at F).post enc Tryd.prog Tryd.f9 false true false false) := by
  obtain ⟨places, hx⟩ := reads os enc
  refine returnsInHanded_of_row (C := Tryd.checked) (s := OpenSpec.ofChange Rows.segmentWholeSpec) own started (by kernel_rfl) Tryd.func9
    (witness_row_at (enc := enc) (C := Tryd.checked) false (U.laidWorld os) #[.agg #[.int .i64 0, .slice none 0 0, .slice none 0 0, .slice none 0 0], .string ByteArray.empty] rfl (by kernel_rfl) (by kernel_rfl) (by kernel_rfl)
      (OpenSpec.preRow_of_cond 8 hx (by kernel_rfl) (fun k hk => by cases hk) (by kernel_rfl) (laid_met os))) ?_
  intro W base args ds gs before hval hW _ _ _ hL _ _
  exact contract H enc W base args ds gs before hval hW hL

set_option maxRecDepth 100000 in
theorem said : Rows.SegmentWholeSaid :=
  OpenClaim.holds_of_cond 9 Tryd.f9 rfl rfl rfl rfl rfl rfl rfl ⟨rfl, rfl, rfl, rfl, rfl⟩ rfl rfl rfl rfl rfl (by kernel_rfl) Tryd.func9 (by kernel_rfl)
    (of_decide_eq_true (by kernel_rfl)) (by unfold Func.isWrapper; first | (rw [if_pos (by decide +kernel)]; kernel_rfl) | (rw [if_neg (by decide +kernel)]; exact ⟨rfl, rfl⟩))
    (fun os started H enc _ F => by rw [OpenClaim.pre_eq_preRow]; exact lifted os started H enc F)

theorem plain (f : FuncId) (fn : Func) (hf : Tryd.pinned.checked.prog.funcNamed Rows.segmentWholeRow.func = some f) (hfn : Tryd.pinned.checked.prog.funcs[f]? = some fn) :
    false = Tryd.pinned.checked.prog.looks [] ∧ ∀ (j : Nat) t, fn.params[j]? = some t → Tryd.pinned.checked.prog.wantsStandIn t = false := by
  obtain rfl : f = 9 := Option.some.inj ((show Tryd.prog.funcNamed Rows.segmentWholeRow.func = some 9 by kernel_rfl).symm.trans hf) |>.symm
  obtain rfl : fn = Tryd.f9 := (Option.some.inj (Tryd.func9.symm.trans hfn)).symm
  refine ⟨by kernel_rfl, fun j t ht => ?_⟩
  rw [Tryd.params9] at ht
  have hm : t ∈ [26, 9] := by simpa using Array.mem_of_getElem? ht
  have hall : ([26, 9].all fun u => !Tryd.prog.wantsStandIn u) = true := by kernel_rfl
  exact (show Tryd.prog.wantsStandIn t = false by simpa using List.all_eq_true.1 hall t hm)

theorem card : Rows.SegmentWholeCardSaid :=
  Claim7.holds_tied_plain_at .later [] _ _ _ _ said (fun _ h => by cases h) (by kernel_rfl) (fun _ h => by cases h) segmentWhole_row_tie rfl ⟨rfl, rfl⟩ (by kernel_rfl) rfl plain (by kernel_rfl)
end Go.Proofs.YtbnconieedgcmaaDoor.segmentWhole

namespace Go.Proofs.YtbnconieedgcmaaDoor
/-- The given statement, under a short name. -/
theorem segmentWhole_holds : Rows.SegmentWholeCardSaid := segmentWhole.card
#print axioms segmentWhole_holds
end Go.Proofs.YtbnconieedgcmaaDoor
