/- SeekTells: of every table, every text and every place: whether there is a break, the next one, the one ahead, or why that cannot be told, as the document says.
   Conditions: none but the row's own (the variable of lead bytes starts as the program's text lays it). -/
import Derived.Test.YtmhfgncffkfelaaDoorSkR
import Derived.Test.YtmhfgncffkfelaaDoorSkW
import Derived.Test.YtmhfgncffkfelaaDoorSTab
namespace Go.Proofs.YtmhfgncffkfelaaDoor.seekTells
open Go.ChangeShapes Go.WideShapes Go.ChangeAt Go.RowKit Go.Deep Go.BigFrame
open U (Tr tcells tcell tris Tab strOf)
open Go.ChangeMaps (open_string shut_string)
set_option linter.unusedVariables false
set_option maxRecDepth 4000
set_option linter.unusedSimpArgs false

set_option maxHeartbeats 8000000 in
theorem walk (T : TV) (s : ByteArray) (a : Int) (W : World) (hT : T.ok W) (hTab : Tab W) (ha : -9223372036854775808 ≤ a ∧ a ≤ 9223372036854775807) :
    Calls Tryd.prog 7 #[T.v, .string s, .int .i64 a] W fun e W' => e = .returned (.bool true) ∧ Below W.heap.size W W' := by
  have HLg := Lib.hid (fun V (g : Below W.heap.size W V) => large_any T V (hT.on g))
  have HWk := Lib.hid (fun V (g : Below W.heap.size W V) => wakes10_any V (hTab.below g))
  have HIs := Lib.hid (fun (h : s.size ≤ 1000) V (g : Below W.heap.size W V) => is_any T s a V (hT.on g) (by omega) (hTab.below g) ha)
  have HNx := Lib.hid (fun (h : s.size ≤ 1000) V (g : Below W.heap.size W V) => next_any T s a V (hT.on g) (by omega) (hTab.below g) ha)
  have HPv := Lib.hid (fun (h : s.size ≤ 1000) V (g : Below W.heap.size W V) => prev_any T s a V (hT.on g) (by omega) (hTab.below g) ha)
  have HAt := Lib.hid (fun (h : s.size ≤ 1000) V (g : Below W.heap.size W V) => refAt_any T s a V (hT.on g) (by omega) ha)
  have HX := Lib.hid (box_new W T)
  have bb := below_new W (.cells #[.int .i64 T.cl, .slice T.a1 T.n1 T.c1, .slice T.a2 T.n2 T.c2, .slice T.a3 T.n3 T.c3] 26)
  clear hT hTab
  simp only [TV.v] at *
  obtain ⟨_, p0, p1, p2, p3⟩ := HX.out
  go_enter Tryd.func7, Tryd.ntmps7
  go_wp2_with fail
  generalize W.alloc (.cells #[.int .i64 T.cl, .slice T.a1 T.n1 T.c1, .slice T.a2 T.n2 T.c2, .slice T.a3 T.n3 T.c3] 26) = V0 at *
  refine (HLg.out _ bb).mono ?_
  rintro e w1 ⟨q, rfl, g, _⟩
  replace bb := bb.trans (g.mono bb.size)
  replace HX := Lib.hid (HX.out.on g)
  clear g HLg
  clear p0 p1 p2 p3
  obtain ⟨_, p0, p1, p2, p3⟩ := HX.out
  cases q
  case true =>
    go_wp2_with fail
    refine (HWk.out _ bb).mono ?_
    rintro e w9 ⟨rfl, g9⟩
    have bf := bb.trans (g9.mono bb.size)
    clear g9
    go_wp2_with fail
    go_ret
    exact ⟨rfl, bf⟩
  by_cases hs : 1000 < s.size
  · have hsI : (1000 : Int) < (s.size : Int) := by omega
    go_wp2_with fail
    refine (HWk.out _ bb).mono ?_
    rintro e w9 ⟨rfl, g9⟩
    have bf := bb.trans (g9.mono bb.size)
    clear g9
    go_wp2_with fail
    go_ret
    exact ⟨rfl, bf⟩
  have hsI : ¬ (1000 : Int) < (s.size : Int) := by omega
  have hs1 : s.size ≤ 1000 := by omega
  have HI1 := Lib.hid (HIs.out hs1)
  have HN1 := Lib.hid (HNx.out hs1)
  have HP1 := Lib.hid (HPv.out hs1)
  clear HIs HNx HPv
  have HA1 := Lib.hid (HAt.out hs1)
  clear HAt
  obtain ⟨L, hL⟩ : ∃ L, s.data.toList = L := ⟨_, rfl⟩
  rw [hL] at HI1 HN1 HP1 HA1
  obtain ⟨qi, hqi⟩ : ∃ q, isA T.tb L a = q := ⟨_, rfl⟩
  obtain ⟨qn, hqn⟩ : ∃ q, nextA T.tb L a = q := ⟨_, rfl⟩
  obtain ⟨qp, hqp⟩ : ∃ q, prevA T.tb L a = q := ⟨_, rfl⟩
  obtain ⟨qe, hqe⟩ : ∃ q, seekE T.tb s.size a = q := ⟨_, rfl⟩
  rw [hqi, hqe] at HI1
  rw [hqn, hqe] at HN1
  rw [hqp, hqe] at HP1
  rw [hqi, hqn, hqp, hqe] at HA1
  clear hL hqi hqn hqp hqe
  have e0 : (qi == qi) = true := by cases qi <;> rfl
  have e1 : (qn == qn) = true := by simp
  have e2 : (qp == qp) = true := by simp
  have e3 : (qe == qe) = true := by simp
  go_wp2_with fail
  refine (HI1.out _ bb).mono ?_
  rintro e w2 ⟨rfl, g⟩
  replace bb := bb.trans (g.mono bb.size)
  replace HX := Lib.hid (HX.out.on g)
  clear g HI1
  clear p0 p1 p2 p3
  obtain ⟨_, p0, p1, p2, p3⟩ := HX.out
  go_wp2_with fail
  refine (HN1.out _ bb).mono ?_
  rintro e w3 ⟨rfl, g⟩
  replace bb := bb.trans (g.mono bb.size)
  replace HX := Lib.hid (HX.out.on g)
  clear g HN1
  clear p0 p1 p2 p3
  obtain ⟨_, p0, p1, p2, p3⟩ := HX.out
  go_wp2_with fail
  refine (HP1.out _ bb).mono ?_
  rintro e w4 ⟨rfl, g⟩
  replace bb := bb.trans (g.mono bb.size)
  replace HX := Lib.hid (HX.out.on g)
  clear g HP1
  clear p0 p1 p2 p3
  obtain ⟨_, p0, p1, p2, p3⟩ := HX.out
  go_wp2_with fail
  refine (HA1.out _ bb).mono ?_
  rintro e w5 ⟨rfl, g⟩
  replace bb := bb.trans (g.mono bb.size)
  clear g HA1 p0 p1 p2 p3 HX
  have bb5 := below_call bb bb.size (below_new w5 (.cells #[.bool qi, .int .i64 qn, .int .i64 qp, .int .i64 qe] 59))
  obtain ⟨_, c0, c1, c2, c3, _⟩ := gb_new w5 qi qn qp qe
  go_wp2_with fail
  refine (HWk.out _ bb5).mono ?_
  rintro e w9 ⟨rfl, g9⟩
  have bf := bb5.trans (g9.mono bb5.size)
  clear g9
  go_wp2_with fail
  go_ret
  exact ⟨rfl, bf⟩

/-! From the walk to the row and its card. -/
set_option maxRecDepth 100000 in
theorem contract (H : Type) (enc : TypeId × Value → H) (W : World) (base : Nat) (args : Array Value) (ds gs : List (DataW H)) (before : List MemPlace)
    (hval0 : ∀ (j : Nat) t v, Tryd.f7.params[j]? = some t → args[j]? = some v → Value.okWide Tryd.prog W .any base t v)
    (hW : DataW.Whole enc Tryd.prog Tryd.f7.params.toList Rows.seekTellsSpec.vars false W args.toList ds gs before) (hL : laidMetH Tryd.prog Rows.seekTellsRow.laid W) :
    Calls Tryd.prog 7 args W fun e W' => ∃ v, e = .returned v ∧ Rows.seekTellsSpec.post enc Tryd.prog Tryd.f7 false true false false W args v W' := by
  have hval : ∀ (j : Nat) t v, Tryd.f7.params[j]? = some t → args[j]? = some v → Value.okWide Tryd.prog W .any base t v := hval0
  have hW' := hW
  obtain ⟨p, q, hA0, hV, rfl, hfz, hnd⟩ := hW
  have hA : DataW.TrodAll enc Tryd.prog W 0 (fun _ => true) true Tryd.f7.params.toList args.toList ds p := hA0
  rw [Tryd.params7] at hA hval
  obtain ⟨v0, vs0, d0, ds0, p0, q0, hargs, rfl, rfl, h0, r0⟩ := trodAll_cons hA
  obtain ⟨v1, vs1, d1, ds1, p1, q1, rfl, rfl, rfl, h1, r1⟩ := trodAll_cons r0
  obtain ⟨v2, vs2, d2, ds2, p2, q2, rfl, rfl, rfl, h2, r2⟩ := trodAll_cons r1
  obtain ⟨rfl, rfl, rfl⟩ := trodAll_nil r2
  obtain rfl : args = #[v0, v1, v2] := by cases args; simp_all
  obtain ⟨rfl, rfl⟩ := trodVars_none hV
  obtain ⟨cs0, rfl, _⟩ := okWide_struct Tryd.underlying26 (hval 0 26 v0 rfl rfl)
  have k0 := h0
  have lt0 : ∀ x ∈ p0, x.block < W.heap.size := by obtain ⟨m, hm⟩ := k0; exact DataW.trod_lt m _ _ _ hm
  obtain ⟨T0, e0, ok0⟩ : ∃ T : TV, cs0.toList = [.int .i64 T.cl, .slice T.a1 T.n1 T.c1, .slice T.a2 T.n2 T.c2, .slice T.a3 T.n3 T.c3] ∧ T.ok W := by
    obtain ⟨fuel, hf⟩ := h0
    exact open_table (by simpa [Value.cells] using hf)
  obtain rfl : cs0 = #[.int .i64 T0.cl, .slice T0.a1 T0.n1 T0.c1, .slice T0.a2 T0.n2 T0.c2, .slice T0.a3 T0.n3 T0.c3] := by cases cs0; simp_all
  obtain ⟨a1, rfl, rfl, rfl, z1⟩ := open_string Tryd.underlying9 (hval 1 9 v1 rfl rfl) h1
  obtain ⟨a2, rfl, rfl, rfl, wf2⟩ := open_int Tryd.underlying3 (hval 2 3 v2 rfl rfl) h2
  have wi2 : -9223372036854775808 ≤ a2 ∧ a2 ≤ 9223372036854775807 := wf_i64b wf2
  clear hA0 hval0
  refine (walk T0 a1 a2 W ok0 (U.tab_of_laid10 hL) wi2).mono fun e W' ⟨he, bel⟩ => ?_
  subst he
  exact ⟨_, rfl, _, _, _, [], _, [], hW', trodAll_mk1 (shut_bool Tryd.underlying4 _), (trodAll_cons_mk (Below.trod laidOut (by kernel_rfl) (of_decide_eq_true (by kernel_rfl)) k0 bel lt0) (trodAll_cons_mk (shut_string Tryd.underlying9 z1) (trodAll_cons_mk (shut_int Tryd.underlying3 wf2) trodAll_mk0))), rfl, bel.frame _, fun h => by cases h⟩

theorem laid_met (os : Os) : laidMet Tryd.prog Rows.seekTellsRow.laid ((U.laidWorld os).forCall (fun _ _ => 0) ⟨#[], #[.agg #[.int .i64 0, .slice none 0 0, .slice none 0 0, .slice none 0 0], .string ByteArray.empty, .int .i64 0], []⟩).memory :=
  laidMet_of_run' 8 (by kernel_rfl) (by kernel_rfl)
theorem reads (os : Os) {H : Type} (enc : TypeId × Value → H) : ∃ places, DataW.whole enc Tryd.prog ((U.laidWorld os).forCall (fun _ _ => 0) ⟨#[], #[.agg #[.int .i64 0, .slice none 0 0, .slice none 0 0, .slice none 0 0], .string ByteArray.empty, .int .i64 0], []⟩).memory Tryd.f7.params.toList Rows.seekTellsSpec.vars false (#[.agg #[.int .i64 0, .slice none 0 0, .slice none 0 0, .slice none 0 0], .string ByteArray.empty, .int .i64 0] : Array Value).toList 8 = some ([.agg [.lit (.int .i64 0), .nil, .nil, .nil], .lit (.string []), .lit (.int .i64 0)], [], places) :=
  ⟨[], by kernel_rfl⟩

set_option maxRecDepth 100000 in
theorem lifted (os : Os) (started : os.Started) (H : Type) (enc : TypeId × Value → H) (F : Stop.Interp) :
    ReturnsInHanded {} Tryd.checked os 7 .any ((OpenSpec.ofChange Rows.seekTellsSpec).preRow enc Tryd.prog Tryd.f7 Rows.seekTellsRow.domain false Rows.seekTellsRow.laid) (((OpenSpec.ofChange Rows.seekTellsSpec).at F).post enc Tryd.prog Tryd.f7 false true false false) := by
  obtain ⟨places, hx⟩ := reads os enc
  refine returnsInHanded_of_row (C := Tryd.checked) (s := OpenSpec.ofChange Rows.seekTellsSpec) own started (by kernel_rfl) Tryd.func7
    (witness_row_at (enc := enc) (C := Tryd.checked) false (U.laidWorld os) #[.agg #[.int .i64 0, .slice none 0 0, .slice none 0 0, .slice none 0 0], .string ByteArray.empty, .int .i64 0] rfl (by kernel_rfl) (by kernel_rfl) (by kernel_rfl)
      (OpenSpec.preRow_of_cond 8 hx (by kernel_rfl) (fun k hk => by cases hk) (by kernel_rfl) (laid_met os))) ?_
  intro W base args ds gs before hval hW _ _ _ hL _ _
  exact contract H enc W base args ds gs before hval hW hL

set_option maxRecDepth 100000 in
theorem said : Rows.SeekTellsSaid :=
  OpenClaim.holds_of_cond 7 Tryd.f7 rfl rfl rfl rfl rfl rfl rfl ⟨rfl, rfl, rfl, rfl, rfl⟩ rfl rfl rfl rfl rfl (by kernel_rfl) Tryd.func7 (by kernel_rfl)
    (of_decide_eq_true (by kernel_rfl)) (by unfold Func.isWrapper; first | (rw [if_pos (by decide +kernel)]; kernel_rfl) | (rw [if_neg (by decide +kernel)]; exact ⟨rfl, rfl⟩))
    (fun os started H enc _ F => by rw [OpenClaim.pre_eq_preRow]; exact lifted os started H enc F)

theorem plain (f : FuncId) (fn : Func) (hf : Tryd.pinned.checked.prog.funcNamed Rows.seekTellsRow.func = some f) (hfn : Tryd.pinned.checked.prog.funcs[f]? = some fn) :
    false = Tryd.pinned.checked.prog.looks [] ∧ ∀ (j : Nat) t, fn.params[j]? = some t → Tryd.pinned.checked.prog.wantsStandIn t = false := by
  obtain rfl : f = 7 := Option.some.inj ((show Tryd.prog.funcNamed Rows.seekTellsRow.func = some 7 by kernel_rfl).symm.trans hf) |>.symm
  obtain rfl : fn = Tryd.f7 := (Option.some.inj (Tryd.func7.symm.trans hfn)).symm
  refine ⟨by kernel_rfl, fun j t ht => ?_⟩
  rw [Tryd.params7] at ht
  have hm : t ∈ [26, 9, 3] := by simpa using Array.mem_of_getElem? ht
  have hall : ([26, 9, 3].all fun u => !Tryd.prog.wantsStandIn u) = true := by kernel_rfl
  exact (show Tryd.prog.wantsStandIn t = false by simpa using List.all_eq_true.1 hall t hm)

theorem card : Rows.SeekTellsCardSaid :=
  Claim7.holds_tied_plain_at .later [] _ _ _ _ said (fun _ h => by cases h) (by kernel_rfl) (fun _ h => by cases h) seekTells_row_tie rfl ⟨rfl, rfl⟩ (by kernel_rfl) rfl plain (by kernel_rfl)
end Go.Proofs.YtmhfgncffkfelaaDoor.seekTells

namespace Go.Proofs.YtmhfgncffkfelaaDoor
/-- The given statement, under a short name. -/
theorem seekTells_holds : Rows.SeekTellsCardSaid := seekTells.card
#print axioms seekTells_holds
end Go.Proofs.YtmhfgncffkfelaaDoor
