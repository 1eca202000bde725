/- SegmentTells: of every table and every text: at which bytes it is broken, what stands between, or that it can't be told, as the document says.
   Conditions: none but the row's own (the variable of lead bytes starts as the program's text lays it). -/
import Derived.Test.YtbnconieedgcmaaDoorKS
import Derived.Test.YtbnconieedgcmaaDoorKRef
import Derived.Test.YtbnconieedgcmaaDoorKFr
import Derived.Test.YtbnconieedgcmaaDoorKU2
namespace Go.Proofs.YtbnconieedgcmaaDoor.segmentTells
open Go.ChangeShapes Go.WideShapes Go.ChangeAt Go.RowKit Go.Deep Go.BigFrame
open U (Tr tcells tcell tris Tab strOf)
open Go.ChangeMaps (open_string shut_string)
set_option linter.unusedVariables false
set_option maxRecDepth 4000
set_option linter.unusedSimpArgs false

set_option maxHeartbeats 8000000 in
theorem walk (T : TV) (s : ByteArray) (W : World) (hT : T.ok W) (hTab : Tab W) :
    Calls Tryd.prog 8 #[T.v, .string s] W fun e W' => e = .returned (.bool true) ∧ Below W.heap.size W W' := by
  have HLg := Lib.hid (fun V (g : Below W.heap.size W V) => large_any T V (hT.on g))
  have HWk := Lib.hid (fun V (g : Below W.heap.size W V) => wakes9_any V (hTab.below g))
  have HOf := Lib.hid (fun (h : s.size ≤ 1000) V (g : Below W.heap.size W V) => of_any T s V (hT.on g) (by omega) (hTab.below g))
  have HCu := Lib.hid (fun (h : s.size ≤ 1000) V (g : Below W.heap.size W V) => cut_any T s V (hT.on g) (by omega) (hTab.below g))
  have HRo := Lib.hid (fun (h : s.size ≤ 1000) V (g : Below W.heap.size W V) => refOf9_any T s V (hT.on g) (by omega))
  have HRc := Lib.hid (fun (h : s.size ≤ 1000) V (g : Below W.heap.size W V) => refCut_any T s V (hT.on g) (by omega))
  have HNl : Hid (s.size ≤ 1000 → ((ofS T.tb s.data.toList).getD []).length ≤ 1001 ∧ ((cutS T.tb s.data.toList).getD []).length ≤ 1002) := Lib.hid (fun h => by
    have hl : s.data.toList.length = s.size := Array.length_toList
    have h1 := brN_len T.tb s.data.toList
    have h2 := nP_le s.data.toList
    have h3 := cutsF_len s.data.toList (ofA T.tb s.data.toList ++ [s.data.toList.length]) 0
    rw [List.length_append, ofA_len, List.length_singleton] at h3
    unfold ofS cutS
    by_cases he : errV T.tb = 0
    · rw [if_pos he, if_pos he]
      simp only [Option.getD_some]
      rw [natI_len, ofA_len]
      unfold cutA
      exact ⟨by omega, by omega⟩
    · rw [if_neg he, if_neg he]; simp)
  have HX := Lib.hid (box_new W T)
  have bb := below_new W (.cells #[.int .i64 T.cl, .slice T.a1 T.n1 T.c1, .slice T.a2 T.n2 T.c2, .slice T.a3 T.n3 T.c3] 26)
  clear hT hTab
  simp only [TV.v] at *
  generalize ofS T.tb s.data.toList = r at *
  generalize cutS T.tb s.data.toList = u at *
  obtain ⟨_, p0, p1, p2, p3⟩ := HX.out
  go_enter Tryd.func8, Tryd.ntmps8
  go_wp2_with fail
  generalize W.alloc (.cells #[.int .i64 T.cl, .slice T.a1 T.n1 T.c1, .slice T.a2 T.n2 T.c2, .slice T.a3 T.n3 T.c3] 26) = V0 at *
  refine (HLg.out _ bb).mono ?_
  rintro e w1 ⟨q, rfl, g, _⟩
  replace bb := bb.trans (g.mono bb.size)
  replace HX := Lib.hid (HX.out.on g)
  clear g HLg
  clear p0 p1 p2 p3
  obtain ⟨_, p0, p1, p2, p3⟩ := HX.out
  cases q
  case true =>
    go_wp2_with fail
    refine (HWk.out _ bb).mono ?_
    rintro e w9 ⟨rfl, g9⟩
    have bf := bb.trans (g9.mono bb.size)
    clear g9
    go_wp2_with fail
    go_ret
    exact ⟨rfl, bf⟩
  by_cases hs : 1000 < s.size
  · have hsI : (1000 : Int) < (s.size : Int) := by omega
    go_wp2_with fail
    refine (HWk.out _ bb).mono ?_
    rintro e w9 ⟨rfl, g9⟩
    have bf := bb.trans (g9.mono bb.size)
    clear g9
    go_wp2_with fail
    go_ret
    exact ⟨rfl, bf⟩
  have hsI : ¬ (1000 : Int) < (s.size : Int) := by omega
  have hs1 : s.size ≤ 1000 := by omega
  obtain ⟨hn1, hn2⟩ := HNl.out hs1
  obtain ⟨R, hR⟩ : ∃ R, r.getD [] = R := ⟨_, rfl⟩
  obtain ⟨S, hS⟩ : ∃ S, u.getD [] = S := ⟨_, rfl⟩
  obtain ⟨qr, hqr⟩ : ∃ q, r.isSome = q := ⟨_, rfl⟩
  obtain ⟨qu, hqu⟩ : ∃ q, u.isSome = q := ⟨_, rfl⟩
  obtain ⟨nR, hnR⟩ : ∃ n, R.length = n := ⟨_, rfl⟩
  obtain ⟨nS, hnS⟩ : ∃ n, S.length = n := ⟨_, rfl⟩
  rw [hR, hnR] at hn1
  rw [hS, hnS] at hn2
  have HOf1 := Lib.hid (HOf.out hs1)
  have HCu1 := Lib.hid (HCu.out hs1)
  have HRo1 := Lib.hid (HRo.out hs1)
  have HRc1 := Lib.hid (HRc.out hs1)
  unfold OutPl at HOf1 HRo1
  unfold OutSs at HCu1 HRc1
  rw [hR, hqr, hnR] at HOf1 HRo1
  rw [hS, hqu, hnS] at HCu1 HRc1
  clear HOf HCu HRo HRc HNl hR hS hqr hqu hnR hnS
  go_wp2_with fail
  refine (HOf1.out _ bb).mono ?_
  rintro e w2 ⟨A1, cA1, rfl, hown, g⟩
  replace bb := bb.trans (g.mono bb.size)
  replace HX := Lib.hid (HX.out.on g)
  have HA1 := Lib.hid (own_RI hown)
  clear g hown HOf1
  clear p0 p1 p2 p3
  obtain ⟨_, p0, p1, p2, p3⟩ := HX.out
  go_wp2_with fail
  refine (HRo1.out _ bb).mono ?_
  rintro e w3 ⟨A2, cA2, rfl, hown, g⟩
  replace bb := bb.trans (g.mono bb.size)
  replace HX := Lib.hid (HX.out.on g)
  replace HA1 := Lib.hid (HA1.out.on g)
  have HA2 := Lib.hid (own_RI hown)
  clear g hown HRo1
  clear p0 p1 p2 p3
  obtain ⟨_, p0, p1, p2, p3⟩ := HX.out
  go_wp2_with fail
  refine (HCu1.out _ bb).mono ?_
  rintro e w4 ⟨A3, cA3, rfl, hown, g⟩
  replace bb := bb.trans (g.mono bb.size)
  replace HX := Lib.hid (HX.out.on g)
  replace HA1 := Lib.hid (HA1.out.on g)
  replace HA2 := Lib.hid (HA2.out.on g)
  have HA3 := Lib.hid (own_RS hown)
  clear g hown HCu1
  clear p0 p1 p2 p3
  obtain ⟨_, p0, p1, p2, p3⟩ := HX.out
  go_wp2_with fail
  refine (HRc1.out _ bb).mono ?_
  rintro e w5 ⟨A4, cA4, rfl, hown, g⟩
  replace bb := bb.trans (g.mono bb.size)
  replace HX := Lib.hid (HX.out.on g)
  replace HA1 := Lib.hid (HA1.out.on g)
  replace HA2 := Lib.hid (HA2.out.on g)
  replace HA3 := Lib.hid (HA3.out.on g)
  have HA4 := Lib.hid (own_RS hown)
  clear g hown HRc1
  clear p0 p1 p2 p3
  obtain ⟨_, p0, p1, p2, p3⟩ := HX.out
  have hk := keepInts_n R R nR nR A1 A2 cA1 cA2 w5 HA1.out HA2.out (by omega)
  rw [eqX_yes rfl] at hk
  have HK := Lib.hid hk
  have e1 : (qr == qr) = true := by cases qr <;> rfl
  have e2 : (qu == qu) = true := by cases qu <;> rfl
  clear hk
  go_wp2_with fail
  refine HK.out.mono ?_
  rintro e w6 ⟨rfl, g⟩
  replace bb := bb.trans (g.mono bb.size)
  replace HA3 := Lib.hid (HA3.out.on g)
  replace HA4 := Lib.hid (HA4.out.on g)
  clear g HK
  have hk := keepTexts_n S S nS nS A3 A4 cA3 cA4 w6 HA3.out HA4.out (by omega)
  rw [eqX_yes rfl] at hk
  have HK := Lib.hid hk
  clear hk
  go_wp2_with fail
  refine HK.out.mono ?_
  rintro e w7 ⟨rfl, g⟩
  replace bb := bb.trans (g.mono bb.size)
  clear g HK
  go_wp2_with fail
  refine (HWk.out _ bb).mono ?_
  rintro e w9 ⟨rfl, g9⟩
  have bf := bb.trans (g9.mono bb.size)
  clear g9
  go_wp2_with fail
  go_ret
  exact ⟨rfl, bf⟩

/-! From the walk to the row and its card. -/
set_option maxRecDepth 100000 in
theorem contract (H : Type) (enc : TypeId × Value → H) (W : World) (base : Nat) (args : Array Value) (ds gs : List (DataW H)) (before : List MemPlace)
    (hval0 : ∀ (j : Nat) t v, Tryd.f8.params[j]? = some t → args[j]? = some v → Value.okWide Tryd.prog W .any base t v)
    (hW : DataW.Whole enc Tryd.prog Tryd.f8.params.toList Rows.segmentTellsSpec.vars false W args.toList ds gs before) (hL : laidMetH Tryd.prog Rows.segmentTellsRow.laid W) :
    Calls Tryd.prog 8 args W fun e W' => ∃ v, e = .returned v ∧ Rows.segmentTellsSpec.post enc Tryd.prog Tryd.f8 false true false false W args v W' := by
  have hval : ∀ (j : Nat) t v, Tryd.f8.params[j]? = some t → args[j]? = some v → Value.okWide Tryd.prog W .any base t v := hval0
  have hW' := hW
  obtain ⟨p, q, hA0, hV, rfl, hfz, hnd⟩ := hW
  have hA : DataW.TrodAll enc Tryd.prog W 0 (fun _ => true) true Tryd.f8.params.toList args.toList ds p := hA0
  rw [Tryd.params8] at hA hval
  obtain ⟨v0, vs0, d0, ds0, p0, q0, hargs, rfl, rfl, h0, r0⟩ := trodAll_cons hA
  obtain ⟨v1, vs1, d1, ds1, p1, q1, rfl, rfl, rfl, h1, r1⟩ := trodAll_cons r0
  obtain ⟨rfl, rfl, rfl⟩ := trodAll_nil r1
  obtain rfl : args = #[v0, v1] := by cases args; simp_all
  obtain ⟨rfl, rfl⟩ := trodVars_none hV
  obtain ⟨cs0, rfl, _⟩ := okWide_struct Tryd.underlying26 (hval 0 26 v0 rfl rfl)
  have k0 := h0
  have lt0 : ∀ x ∈ p0, x.block < W.heap.size := by obtain ⟨m, hm⟩ := k0; exact DataW.trod_lt m _ _ _ hm
  obtain ⟨T0, e0, ok0⟩ : ∃ T : TV, cs0.toList = [.int .i64 T.cl, .slice T.a1 T.n1 T.c1, .slice T.a2 T.n2 T.c2, .slice T.a3 T.n3 T.c3] ∧ T.ok W := by
    obtain ⟨fuel, hf⟩ := h0
    exact open_table (by simpa [Value.cells] using hf)
  obtain rfl : cs0 = #[.int .i64 T0.cl, .slice T0.a1 T0.n1 T0.c1, .slice T0.a2 T0.n2 T0.c2, .slice T0.a3 T0.n3 T0.c3] := by cases cs0; simp_all
  obtain ⟨a1, rfl, rfl, rfl, z1⟩ := open_string Tryd.underlying9 (hval 1 9 v1 rfl rfl) h1
  clear hA0 hval0
  refine (walk T0 a1 W ok0 (U.tab_of_laid hL)).mono fun e W' ⟨he, bel⟩ => ?_
  subst he
  exact ⟨_, rfl, _, _, _, [], _, [], hW', trodAll_mk1 (shut_bool Tryd.underlying4 _), (trodAll_cons_mk (Below.trod laidOut (by kernel_rfl) (of_decide_eq_true (by kernel_rfl)) k0 bel lt0) (trodAll_cons_mk (shut_string Tryd.underlying9 z1) trodAll_mk0)), rfl, bel.frame _, fun h => by cases h⟩

theorem laid_met (os : Os) : laidMet Tryd.prog Rows.segmentTellsRow.laid ((U.laidWorld os).forCall (fun _ _ => 0) ⟨#[], #[.agg #[.int .i64 0, .slice none 0 0, .slice none 0 0, .slice none 0 0], .string ByteArray.empty], []⟩).memory :=
  laidMet_of_run' 8 (by kernel_rfl) (by kernel_rfl)
theorem reads (os : Os) {H : Type} (enc : TypeId × Value → H) : ∃ places, DataW.whole enc Tryd.prog ((U.laidWorld os).forCall (fun _ _ => 0) ⟨#[], #[.agg #[.int .i64 0, .slice none 0 0, .slice none 0 0, .slice none 0 0], .string ByteArray.empty], []⟩).memory Tryd.f8.params.toList Rows.segmentTellsSpec.vars false (#[.agg #[.int .i64 0, .slice none 0 0, .slice none 0 0, .slice none 0 0], .string ByteArray.empty] : Array Value).toList 8 = some ([.agg [.lit (.int .i64 0), .nil, .nil, .nil], .lit (.string [])], [], places) :=
  ⟨[], by kernel_rfl⟩

set_option maxRecDepth 100000 in
theorem lifted (os : Os) (started : os.Started) (H : Type) (enc : TypeId × Value → H) (F : Stop.Interp) :
    ReturnsInHanded {} Tryd.checked os 8 .any ((OpenSpec.ofChange Rows.segmentTellsSpec).preRow enc Tryd.prog Tryd.f8 Rows.segmentTellsRow.domain false Rows.segmentTellsRow.laid) (((OpenSpec.ofChange Rows.segmentTellsSpec).at F).post enc Tryd.prog Tryd.f8 false true false false) := by
  obtain ⟨places, hx⟩ := reads os enc
  refine returnsInHanded_of_row (C := Tryd.checked) (s := OpenSpec.ofChange Rows.segmentTellsSpec) own started (by kernel_rfl) Tryd.func8
    (witness_row_at (enc := enc) (C := Tryd.checked) false (U.laidWorld os) #[.agg #[.int .i64 0, .slice none 0 0, .slice none 0 0, .slice none 0 0], .string ByteArray.empty] rfl (by kernel_rfl) (by kernel_rfl) (by kernel_rfl)
      (OpenSpec.preRow_of_cond 8 hx (by kernel_rfl) (fun k hk => by cases hk) (by kernel_rfl) (laid_met os))) ?_
  intro W base args ds gs before hval hW _ _ _ hL _ _
  exact contract H enc W base args ds gs before hval hW hL

set_option maxRecDepth 100000 in
theorem said : Rows.SegmentTellsSaid :=
  OpenClaim.holds_of_cond 8 Tryd.f8 rfl rfl rfl rfl rfl rfl rfl ⟨rfl, rfl, rfl, rfl, rfl⟩ rfl rfl rfl rfl rfl (by kernel_rfl) Tryd.func8 (by kernel_rfl)
    (of_decide_eq_true (by kernel_rfl)) (by unfold Func.isWrapper; first | (rw [if_pos (by decide +kernel)]; kernel_rfl) | (rw [if_neg (by decide +kernel)]; exact ⟨rfl, rfl⟩))
    (fun os started H enc _ F => by rw [OpenClaim.pre_eq_preRow]; exact lifted os started H enc F)

theorem plain (f : FuncId) (fn : Func) (hf : Tryd.pinned.checked.prog.funcNamed Rows.segmentTellsRow.func = some f) (hfn : Tryd.pinned.checked.prog.funcs[f]? = some fn) :
    false = Tryd.pinned.checked.prog.looks [] ∧ ∀ (j : Nat) t, fn.params[j]? = some t → Tryd.pinned.checked.prog.wantsStandIn t = false := by
  obtain rfl : f = 8 := Option.some.inj ((show Tryd.prog.funcNamed Rows.segmentTellsRow.func = some 8 by kernel_rfl).symm.trans hf) |>.symm
  obtain rfl : fn = Tryd.f8 := (Option.some.inj (Tryd.func8.symm.trans hfn)).symm
  refine ⟨by kernel_rfl, fun j t ht => ?_⟩
  rw [Tryd.params8] at ht
  have hm : t ∈ [26, 9] := by simpa using Array.mem_of_getElem? ht
  have hall : ([26, 9].all fun u => !Tryd.prog.wantsStandIn u) = true := by kernel_rfl
  exact (show Tryd.prog.wantsStandIn t = false by simpa using List.all_eq_true.1 hall t hm)

theorem card : Rows.SegmentTellsCardSaid :=
  Claim7.holds_tied_plain_at .later [] _ _ _ _ said (fun _ h => by cases h) (by kernel_rfl) (fun _ h => by cases h) segmentTells_row_tie rfl ⟨rfl, rfl⟩ (by kernel_rfl) rfl plain (by kernel_rfl)
end Go.Proofs.YtbnconieedgcmaaDoor.segmentTells

namespace Go.Proofs.YtbnconieedgcmaaDoor
/-- The given statement, under a short name. -/
theorem segmentTells_holds : Rows.SegmentTellsCardSaid := segmentTells.card
#print axioms segmentTells_holds
end Go.Proofs.YtbnconieedgcmaaDoor
