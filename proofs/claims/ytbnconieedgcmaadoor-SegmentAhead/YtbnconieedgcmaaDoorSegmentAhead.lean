/- SegmentAhead: of every table and any two texts: with the second behind the first, which is well formed, the breaks within the first are the same.
   Conditions: none but the row's own (the variable of lead bytes starts as the program's text lays it). -/
import Derived.Test.YtbnconieedgcmaaDoorKS
import Derived.Test.YtbnconieedgcmaaDoorGAheadM
import Derived.Test.YtbnconieedgcmaaDoorKFr
import Derived.Test.YtbnconieedgcmaaDoorKU2
import Derived.Deep.CutRange
namespace Go.Proofs.YtbnconieedgcmaaDoor.segmentAhead
open Go.ChangeShapes Go.WideShapes Go.ChangeAt Go.RowKit Go.Deep Go.BigFrame
open U (Tr tcells tcell tris Tab strOf)
open Go.ChangeMaps (open_string shut_string)
set_option linter.unusedVariables false
set_option maxRecDepth 4000
set_option linter.unusedSimpArgs false

theorem str_sized {H : Type} {s : ByteArray} (h : ((DataW.lit (.string s.data.toList) : DataW H).weights Tryd.prog 9).all (· ≤ reachBytes) = true) : s.size ≤ 140737488355328 := by
  simp only [DataW.weights, List.all_cons, List.all_nil, Bool.and_true] at h
  have h1 := of_decide_eq_true h
  have h2 := reach_le
  have h3 : s.data.toList.length = s.size := Array.length_toList
  omega
set_option maxHeartbeats 8000000 in
theorem walk (T : TV) (s u : ByteArray) (W : World) (hT : T.ok W) (hTab : Tab W) (hs0 : s.size ≤ 140737488355328) (hu0 : u.size ≤ 140737488355328) :
    Calls Tryd.prog 11 #[T.v, .string s, .string u] W fun e W' => e = .returned (.bool true) ∧ Below W.heap.size W W' := by
  obtain ⟨i0, hi0, hz0, hz1, hz2⟩ := info_parts info3
  have HRT := Lib.hid (fun V (g : Below W.heap.size W V) => refTable_any T V (hT.on g))
  have HVl := Lib.hid (fun V (g : Below W.heap.size W V) => U.valid_any s V (by unfold maxLen; omega) (hTab.below g))
  have HWk := Lib.hid (fun V (g : Below W.heap.size W V) => wakes9_any V (hTab.below g))
  have HOf := Lib.hid (fun (x : ByteArray) (h : x.size ≤ 1000) V (g : Below W.heap.size W V) => of_any T x V (hT.on g) (by omega) (hTab.below g))
  have HLs : Hid (s.data.toList.length = s.size) := Lib.hid Array.length_toList
  have HDs : Hid ((s ++ u).data.toList = s.data.toList ++ u.data.toList) := Lib.hid (by simp)
  have HSz : Hid ((s ++ u).size = s.size + u.size) := Lib.hid (by
    have h1 : (s ++ u).data.toList.length = (s ++ u).size := Array.length_toList
    have h2 : s.data.toList.length = s.size := Array.length_toList
    have h3 : u.data.toList.length = u.size := Array.length_toList
    rw [HDs.out, List.length_append] at h1
    omega)
  have HX := Lib.hid (box_new W T)
  have bb := below_new W (.cells #[.int .i64 T.cl, .slice T.a1 T.n1 T.c1, .slice T.a2 T.n2 T.c2, .slice T.a3 T.n3 T.c3] 26)
  have w1' : IntKind.i64.wrap ((s.size : Int) + (u.size : Int)) = (s.size : Int) + (u.size : Int) := by rw [IntKind.wrap_i64]; omega
  clear hT hTab
  simp only [TV.v] at *
  obtain ⟨_, p0, p1, p2, p3⟩ := HX.out
  go_enter Tryd.func11, Tryd.ntmps11
  go_wp2_with fail
  generalize W.alloc (.cells #[.int .i64 T.cl, .slice T.a1 T.n1 T.c1, .slice T.a2 T.n2 T.c2, .slice T.a3 T.n3 T.c3] 26) = V0 at *
  refine (HRT.out _ bb).mono ?_
  rintro e w1 ⟨rfl, g⟩
  replace bb := bb.trans (g.mono bb.size)
  replace HX := Lib.hid (HX.out.on g)
  clear g HRT
  clear p0 p1 p2 p3
  obtain ⟨_, p0, p1, p2, p3⟩ := HX.out
  by_cases he : errV T.tb = 0
  case neg =>
    have hn : (errV T.tb != 0) = true := by rw [bne_iff_ne]; exact he
    generalize errV T.tb = ev at *
    go_wp2_with fail
    refine (HWk.out _ bb).mono ?_
    rintro e w9 ⟨rfl, g9⟩
    have bf := bb.trans (g9.mono bb.size)
    clear g9
    go_wp2_with fail
    go_ret
    exact ⟨rfl, bf⟩
  rw [he]
  by_cases hsz : 500 < s.size + u.size
  · have hszI : (500 : Int) < (s.size : Int) + (u.size : Int) := by omega
    go_wp2_with fail
    refine (HWk.out _ bb).mono ?_
    rintro e w9 ⟨rfl, g9⟩
    have bf := bb.trans (g9.mono bb.size)
    clear g9
    go_wp2_with fail
    go_ret
    exact ⟨rfl, bf⟩
  have hszI : ¬ (500 : Int) < (s.size : Int) + (u.size : Int) := by omega
  have hsz1 : s.size + u.size ≤ 500 := by omega
  go_wp2_with fail
  refine (HVl.out _ bb).mono ?_
  rintro e w2 ⟨rfl, g⟩
  replace bb := bb.trans (g.mono bb.size)
  replace HX := Lib.hid (HX.out.on g)
  clear g HVl
  clear p0 p1 p2 p3
  obtain ⟨_, p0, p1, p2, p3⟩ := HX.out
  by_cases hv : U.validL s.data.toList = true
  case neg =>
    have hv2 : U.validL s.data.toList = false := by simpa using hv
    rw [hv2]
    go_wp2_with fail
    refine (HWk.out _ bb).mono ?_
    rintro e w9 ⟨rfl, g9⟩
    have bf := bb.trans (g9.mono bb.size)
    clear g9
    go_wp2_with fail
    go_ret
    exact ⟨rfl, bf⟩
  rw [hv]
  have HAp : Hid ((ofA T.tb (s.data.toList ++ u.data.toList)).filter (fun x => decide (x ≤ s.size)) = ofA T.tb s.data.toList) := Lib.hid (by rw [← HLs.out]; exact ofA_app T.tb hv)
  have HO1 := Lib.hid (HOf.out s (by omega))
  have HO2 := Lib.hid (HOf.out (s ++ u) (by rw [HSz.out]; omega))
  unfold OutPl at HO1 HO2
  have HN : Hid ((ofA T.tb (s.data.toList ++ u.data.toList)).length ≤ 501) := Lib.hid (by
    have h1 := brN_len T.tb (s.data.toList ++ u.data.toList)
    have h2 := nP_le (s.data.toList ++ u.data.toList)
    have h3 : u.data.toList.length = u.size := Array.length_toList
    have h4 := HLs.out
    rw [List.length_append] at h2
    rw [ofA_len]
    omega)
  rw [HDs.out] at HO2
  have e1 : ofS T.tb s.data.toList = some (natI (ofA T.tb s.data.toList)) := by unfold ofS; rw [if_pos he]
  have e2 : ofS T.tb (s.data.toList ++ u.data.toList) = some (natI (ofA T.tb (s.data.toList ++ u.data.toList))) := by unfold ofS; rw [if_pos he]
  rw [e1] at HO1
  rw [e2] at HO2
  simp only [Option.getD_some, Option.isSome_some, natI_len] at HO1 HO2
  clear e1 e2 HOf hv HDs HSz he w1'
  have hN := HN.out
  generalize ofA T.tb (s.data.toList ++ u.data.toList) = B at *
  generalize ofA T.tb s.data.toList = R at *
  obtain ⟨nB, hnB⟩ : ∃ n, B.length = n := ⟨_, rfl⟩
  obtain ⟨nR, hnR⟩ : ∃ n, R.length = n := ⟨_, rfl⟩
  rw [hnB] at HO2 hN
  rw [hnR] at HO1
  have HnB := Lib.hid hnB
  have HnR := Lib.hid hnR
  have hnRB : nR ≤ nB := by rw [← hnR, ← HAp.out, ← hnB]; exact List.length_filter_le _ _
  clear hnB hnR HN
  go_wp2_with fail
  refine (HO1.out _ bb).mono ?_
  rintro e w3 ⟨A1, c1, rfl, hown, g⟩
  replace bb := bb.trans (g.mono bb.size)
  replace HX := Lib.hid (HX.out.on g)
  have HR1 := Lib.hid (own_RI hown)
  clear hown g HO1
  clear p0 p1 p2 p3
  obtain ⟨_, p0, p1, p2, p3⟩ := HX.out
  go_wp2_with fail
  refine (HO2.out _ bb).mono ?_
  rintro e w4 ⟨A2, c2, rfl, hown, g⟩
  replace bb := bb.trans (g.mono bb.size)
  have HR2 := Lib.hid (own_RI hown)
  replace HR1 := Lib.hid (HR1.out.on g)
  clear hown g HO2 p0 p1 p2 p3 HX
  have HB4 := Lib.hid bb
  have hw4 := bb.size
  clear bb
  go_wp2_with fail
  go_loopw [11, 12] (fun vs vi wr => ∃ (k z c8 : Nat) (A8 : Option Addr), vi = .int .i64 k ∧ k ≤ nB ∧ z ≤ k ∧ vs = .slice A8 z c8 ∧ Hid (z = (uptoA s.size (B.take k)).length) ∧ Hid (wr.ownsRow w4.heap.size 3 1 (.slice A8 z c8) z (icells (natI (uptoA s.size (B.take k))))) ∧ Hid (Below w4.heap.size w4 wr)) (fun _ vi _ => nB - (intOf vi).toNat)
  case atStart => exact ⟨0, 0, 0, none, rfl, Nat.zero_le _, Nat.le_refl _, rfl, Lib.hid rfl, Lib.hid (World.ownsRow_nil _ _ _ _), Lib.hid (Below.refl _ _)⟩
  case round =>
    obtain ⟨k, z, c8, A8, rfl, hk, hzk, rfl, HZ, HO, HB⟩ := hrel
    by_cases hlt : k < nB
    · have kB : k < B.length := by rw [HnB.out]; exact hlt
      have kI : k < (natI B).length := by rw [natI_len]; exact kB
      obtain ⟨b, o, hA, _, q0⟩ := (HR2.out.on HB.out).at kI
      rw [natK_at _ kB kI] at q0
      subst hA
      have HTk := Lib.hid (uptoA_take s.size B kB)
      generalize B[k] = x at *
      have hws := HB.out.size
      by_cases hx : x ≤ s.size
      · have hxI : (x : Int) ≤ (s.size : Int) := by omega
        have HT2 : Hid (uptoA s.size (B.take (k + 1)) = uptoA s.size (B.take k) ++ [x]) := Lib.hid (by rw [HTk.out, if_pos hx])
        have HRd := Lib.hid (reads_int wr (x : Int))
        have HOne := Lib.hid (icells_one [(x : Int)])
        have HOa := Lib.hid (HO.out.alloc (.cells #[.int .i64 (x : Int)] 3))
        have HBa := Lib.hid (HB.out.alloc hws (.cells #[.int .i64 (x : Int)] 3))
        clear HO HB HTk
        go_wp2_with (at_builtin; refine wpList_append_src rfl _ _ 49 rfl w4.heap.size 3 i0 _ 1 8 Tryd.underlying49 hi0 hz0 hz1 hz2 rfl (by decide) _ _ _ rfl HOa.out (some ⟨wr.heap.size, 0, none⟩) 1 1 (wr.heap.size + 1) (icells [(x : Int)]) rfl (fun h => by cases h) HRd.out HOne.out ?n3 ?n4 ?n5 ?_)
        case n3 => unfold maxLen; omega
        case n4 => omega
        case n5 => first | omega | (simp; omega)
        intro A9 c9 w9 hown9 hn9 hgrow9
        have HB9 : Hid (Below w4.heap.size w4 w9) := Lib.hid (below_grown HBa.out HBa.out.size HOa.out hgrow9)
        have HO9 : Hid (w9.ownsRow w4.heap.size 3 1 (.slice A9 (z + 1) c9) (z + 1) (icells (natI (uptoA s.size (B.take (k + 1)))))) := Lib.hid (by
          have e : icells (natI (uptoA s.size (B.take (k + 1)))) = icells (natI (uptoA s.size (B.take k))) ++ icells [(x : Int)] := by rw [HT2.out]; simp [natI, icells]
          rw [e]; exact hown9)
        have HZ9 : Hid (z + 1 = (uptoA s.size (B.take (k + 1))).length) := Lib.hid (by rw [HT2.out, List.length_append, ← HZ.out]; rfl)
        clear hown9 hgrow9 HOa HRd HOne HBa q0 HT2
        go_wp2_with fail
        go_roundw
        case rel => exact ⟨k + 1, z + 1, c9, A9, by go_num, by omega, by omega, rfl, HZ9, HO9, HB9⟩
        case measure => simp [intOf]; omega
      · have hxI : ¬ (x : Int) ≤ (s.size : Int) := by omega
        have HT2 : Hid (uptoA s.size (B.take (k + 1)) = uptoA s.size (B.take k)) := Lib.hid (by rw [HTk.out, if_neg hx, List.append_nil])
        clear HTk
        go_wp2_with fail
        go_roundw
        case rel => exact ⟨k + 1, z, c8, A8, by go_num, by omega, by omega, rfl, Lib.hid (by rw [HT2.out]; exact HZ.out), Lib.hid (by rw [HT2.out]; exact HO.out), HB⟩
        case measure => simp [intOf]; omega
    · obtain rfl : k = nB := by omega
      have HTl : Hid (B.take k = B) := Lib.hid (List.take_of_length_le (by rw [HnB.out]; exact Nat.le_refl _))
      have HEq : Hid (uptoA s.size B = R) := Lib.hid HAp.out
      rw [HTl.out, HEq.out] at HZ HO
      have HZ2 : Hid (z = nR) := Lib.hid (by rw [HZ.out, HnR.out])
      obtain rfl := HZ2.out
      have hk := keepInts_n (natI R) (natI R) z z A1 A8 c1 c8 wr (HR1.out.on HB.out) (own_RI HO.out) (by omega)
      rw [eqX_yes rfl] at hk
      have HK := Lib.hid hk
      have bb := HB4.out.trans (HB.out.mono hw4)
      clear hk HZ HO HB HR1 HR2 HAp HTl HEq
      go_wp2_with fail
      refine HK.out.mono ?_
      rintro e w6 ⟨rfl, g⟩
      replace bb := bb.trans (g.mono bb.size)
      clear g HK
      go_wp2_with fail
      refine (HWk.out _ bb).mono ?_
      rintro e w9 ⟨rfl, g9⟩
      have bf := bb.trans (g9.mono bb.size)
      clear g9
      go_wp2_with fail
      go_ret
      exact ⟨rfl, bf⟩

/-! From the walk to the row and its card. -/
set_option maxRecDepth 100000 in
theorem contract (H : Type) (enc : TypeId × Value → H) (W : World) (base : Nat) (args : Array Value) (ds gs : List (DataW H)) (before : List MemPlace)
    (hval0 : ∀ (j : Nat) t v, Tryd.f11.params[j]? = some t → args[j]? = some v → Value.okWide Tryd.prog W .any base t v)
    (hW : DataW.Whole enc Tryd.prog Tryd.f11.params.toList Rows.segmentAheadSpec.vars false W args.toList ds gs before) (hL : laidMetH Tryd.prog Rows.segmentAheadRow.laid W) (hZ : (DataW.weightsEach Tryd.prog (Tryd.f11.params.toList ++ (OpenSpec.ofChange Rows.segmentAheadSpec).bare.plain.varTypes Tryd.prog) (ds ++ gs)).all (· ≤ reachBytes) = true) :
    Calls Tryd.prog 11 args W fun e W' => ∃ v, e = .returned v ∧ Rows.segmentAheadSpec.post enc Tryd.prog Tryd.f11 false true false false W args v W' := by
  have hval : ∀ (j : Nat) t v, Tryd.f11.params[j]? = some t → args[j]? = some v → Value.okWide Tryd.prog W .any base t v := hval0
  have hW' := hW
  obtain ⟨p, q, hA0, hV, rfl, hfz, hnd⟩ := hW
  have hA : DataW.TrodAll enc Tryd.prog W 0 (fun _ => true) true Tryd.f11.params.toList args.toList ds p := hA0
  rw [Tryd.params11] at hA hval
  obtain ⟨v0, vs0, d0, ds0, p0, q0, hargs, rfl, rfl, h0, r0⟩ := trodAll_cons hA
  obtain ⟨v1, vs1, d1, ds1, p1, q1, rfl, rfl, rfl, h1, r1⟩ := trodAll_cons r0
  obtain ⟨v2, vs2, d2, ds2, p2, q2, rfl, rfl, rfl, h2, r2⟩ := trodAll_cons r1
  obtain ⟨rfl, rfl, rfl⟩ := trodAll_nil r2
  obtain rfl : args = #[v0, v1, v2] := by cases args; simp_all
  obtain ⟨rfl, rfl⟩ := trodVars_none hV
  have hZ1 : (DataW.weightsEach Tryd.prog [26, 9, 9] [d0, d1, d2]).all (· ≤ reachBytes) = true := by
    rw [Tryd.params11] at hZ
    exact hZ
  simp only [DataW.weightsEach, List.all_append, Bool.and_eq_true] at hZ1
  obtain ⟨hz0, hz1, hz2, _⟩ := hZ1
  clear hZ
  obtain ⟨cs0, rfl, _⟩ := okWide_struct Tryd.underlying26 (hval 0 26 v0 rfl rfl)
  have k0 := h0
  have lt0 : ∀ x ∈ p0, x.block < W.heap.size := by obtain ⟨m, hm⟩ := k0; exact DataW.trod_lt m _ _ _ hm
  obtain ⟨T0, e0, ok0⟩ : ∃ T : TV, cs0.toList = [.int .i64 T.cl, .slice T.a1 T.n1 T.c1, .slice T.a2 T.n2 T.c2, .slice T.a3 T.n3 T.c3] ∧ T.ok W := by
    obtain ⟨fuel, hf⟩ := h0
    exact open_table (by simpa [Value.cells] using hf)
  obtain rfl : cs0 = #[.int .i64 T0.cl, .slice T0.a1 T0.n1 T0.c1, .slice T0.a2 T0.n2 T0.c2, .slice T0.a3 T0.n3 T0.c3] := by cases cs0; simp_all
  obtain ⟨a1, rfl, rfl, rfl, z1⟩ := open_string Tryd.underlying9 (hval 1 9 v1 rfl rfl) h1
  have y1 : a1.size ≤ 140737488355328 := str_sized hz1
  obtain ⟨a2, rfl, rfl, rfl, z2⟩ := open_string Tryd.underlying9 (hval 2 9 v2 rfl rfl) h2
  have y2 : a2.size ≤ 140737488355328 := str_sized hz2
  clear hA0 hval0
  refine (walk T0 a1 a2 W ok0 (U.tab_of_laid hL) y1 y2).mono fun e W' ⟨he, bel⟩ => ?_
  subst he
  exact ⟨_, rfl, _, _, _, [], _, [], hW', trodAll_mk1 (shut_bool Tryd.underlying4 _), (trodAll_cons_mk (Below.trod laidOut (by kernel_rfl) (of_decide_eq_true (by kernel_rfl)) k0 bel lt0) (trodAll_cons_mk (shut_string Tryd.underlying9 z1) (trodAll_cons_mk (shut_string Tryd.underlying9 z2) trodAll_mk0))), rfl, bel.frame _, fun h => by cases h⟩

theorem laid_met (os : Os) : laidMet Tryd.prog Rows.segmentAheadRow.laid ((U.laidWorld os).forCall (fun _ _ => 0) ⟨#[], #[.agg #[.int .i64 0, .slice none 0 0, .slice none 0 0, .slice none 0 0], .string ByteArray.empty, .string ByteArray.empty], []⟩).memory :=
  laidMet_of_run' 8 (by kernel_rfl) (by kernel_rfl)
theorem reads (os : Os) {H : Type} (enc : TypeId × Value → H) : ∃ places, DataW.whole enc Tryd.prog ((U.laidWorld os).forCall (fun _ _ => 0) ⟨#[], #[.agg #[.int .i64 0, .slice none 0 0, .slice none 0 0, .slice none 0 0], .string ByteArray.empty, .string ByteArray.empty], []⟩).memory Tryd.f11.params.toList Rows.segmentAheadSpec.vars false (#[.agg #[.int .i64 0, .slice none 0 0, .slice none 0 0, .slice none 0 0], .string ByteArray.empty, .string ByteArray.empty] : Array Value).toList 8 = some ([.agg [.lit (.int .i64 0), .nil, .nil, .nil], .lit (.string []), .lit (.string [])], [], places) :=
  ⟨[], by kernel_rfl⟩

set_option maxRecDepth 100000 in
theorem lifted (os : Os) (started : os.Started) (H : Type) (enc : TypeId × Value → H) (F : Stop.Interp) :
    ReturnsInHanded {} Tryd.checked os 11 .any ((OpenSpec.ofChange Rows.segmentAheadSpec).preRow enc Tryd.prog Tryd.f11 Rows.segmentAheadRow.domain false Rows.segmentAheadRow.laid) (((OpenSpec.ofChange Rows.segmentAheadSpec).at F).post enc Tryd.prog Tryd.f11 false true false false) := by
  obtain ⟨places, hx⟩ := reads os enc
  refine returnsInHanded_of_row (C := Tryd.checked) (s := OpenSpec.ofChange Rows.segmentAheadSpec) own started (by kernel_rfl) Tryd.func11
    (witness_row_at (enc := enc) (C := Tryd.checked) false (U.laidWorld os) #[.agg #[.int .i64 0, .slice none 0 0, .slice none 0 0, .slice none 0 0], .string ByteArray.empty, .string ByteArray.empty] rfl (by kernel_rfl) (by kernel_rfl) (by kernel_rfl)
      (OpenSpec.preRow_of_cond 8 hx (by kernel_rfl) (fun k hk => by cases hk) (by kernel_rfl) (laid_met os))) ?_
  intro W base args ds gs before hval hW _ _ hZ hL _ _
  exact contract H enc W base args ds gs before hval hW hL hZ

set_option maxRecDepth 100000 in
theorem said : Rows.SegmentAheadSaid :=
  OpenClaim.holds_of_cond 11 Tryd.f11 rfl rfl rfl rfl rfl rfl rfl ⟨rfl, rfl, rfl, rfl, rfl⟩ rfl rfl rfl rfl rfl (by kernel_rfl) Tryd.func11 (by kernel_rfl)
    (of_decide_eq_true (by kernel_rfl)) (by unfold Func.isWrapper; first | (rw [if_pos (by decide +kernel)]; kernel_rfl) | (rw [if_neg (by decide +kernel)]; exact ⟨rfl, rfl⟩))
    (fun os started H enc _ F => by rw [OpenClaim.pre_eq_preRow]; exact lifted os started H enc F)

theorem plain (f : FuncId) (fn : Func) (hf : Tryd.pinned.checked.prog.funcNamed Rows.segmentAheadRow.func = some f) (hfn : Tryd.pinned.checked.prog.funcs[f]? = some fn) :
    false = Tryd.pinned.checked.prog.looks [] ∧ ∀ (j : Nat) t, fn.params[j]? = some t → Tryd.pinned.checked.prog.wantsStandIn t = false := by
  obtain rfl : f = 11 := Option.some.inj ((show Tryd.prog.funcNamed Rows.segmentAheadRow.func = some 11 by kernel_rfl).symm.trans hf) |>.symm
  obtain rfl : fn = Tryd.f11 := (Option.some.inj (Tryd.func11.symm.trans hfn)).symm
  refine ⟨by kernel_rfl, fun j t ht => ?_⟩
  rw [Tryd.params11] at ht
  have hm : t ∈ [26, 9, 9] := by simpa using Array.mem_of_getElem? ht
  have hall : ([26, 9, 9].all fun u => !Tryd.prog.wantsStandIn u) = true := by kernel_rfl
  exact (show Tryd.prog.wantsStandIn t = false by simpa using List.all_eq_true.1 hall t hm)

theorem card : Rows.SegmentAheadCardSaid :=
  Claim7.holds_tied_plain_at .later [] _ _ _ _ said (fun _ h => by cases h) (by kernel_rfl) (fun _ h => by cases h) segmentAhead_row_tie rfl ⟨rfl, rfl⟩ (by kernel_rfl) rfl plain (by kernel_rfl)
end Go.Proofs.YtbnconieedgcmaaDoor.segmentAhead

namespace Go.Proofs.YtbnconieedgcmaaDoor
/-- The given statement, under a short name. -/
theorem segmentAhead_holds : Rows.SegmentAheadCardSaid := segmentAhead.card
#print axioms segmentAhead_holds
end Go.Proofs.YtbnconieedgcmaaDoor
