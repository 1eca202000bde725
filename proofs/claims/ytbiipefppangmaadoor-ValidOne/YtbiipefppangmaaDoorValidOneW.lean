/- ValidOne: two tables that may be, of the same bands and classes, that break all rows of classes alike, are one; if not, they are told apart.
   Conditions: none but the row's own (the mark's variable starts as the program's text lays it). -/
import Derived.Test.YtbiipefppangmaaDoorRVal3
import Derived.Test.YtbiipefppangmaaDoorVOne
import Derived.Deep.RegionHeld3
import Derived.BigQuiet
import Derived.Deep.CutRange
namespace Go.Proofs.YtbiipefppangmaaDoor.validOne
open Go.ChangeShapes Go.WideShapes Go.ChangeAt Go.RowKit Go.Deep Go.BigFrame
set_option linter.unusedVariables false
set_option maxRecDepth 4000
set_option linter.unusedSimpArgs false

theorem guard43 : Tryd.prog.eqGuardType Tryd.prog.depth 43 = false := by kernel_rfl
theorem part3 (cs : Array Value) (off : Nat) (v : Value) (h : cs[off]? = some v) (W : World) : (part 3 cs off).run Tryd.prog W = .ok v W := by
  unfold part
  simp [go_sem, h]
theorem sizeOf3 (W : World) : (sizeOf 3).run Tryd.prog W = .ok 1 W := by kernel_rfl
theorem eq43 (d : Nat) (x0 x1 y0 y1 : Int) (W : World) : (Op.equalIn (d + 1 + 1) 43 (.agg #[.int .i64 x0, .int .i64 x1]) (.agg #[.int .i64 y0, .int .i64 y1])).run Tryd.prog W = .ok (x0 == y0 && x1 == y1) W := by
  rw [Op.equalIn]
  simp only [Sem.run_bind, run_underlying Tryd.underlying43, Result.andThen_ok, sizeOf3]
  rw [Std.Legacy.Range.forIn_eq_forIn_range']
  have hr : List.range' [:2].start [:2].size [:2].step = [0, 1] := by decide
  rw [hr]
  have he : ∀ (a b : Int) (w : World), (Op.equalIn (d + 1) 3 (.int .i64 a) (.int .i64 b)).run Tryd.prog w = .ok (a == b) w := fun a b w => run_equalIn_int w d 3 .i64 .i64 a b Tryd.underlying3
  simp only [List.forIn_cons, List.forIn_nil, Sem.run_bind, part3 _ _ _ (show (#[Value.int IntKind.i64 x0, Value.int IntKind.i64 x1])[0 * 1]? = some (.int .i64 x0) from rfl), part3 _ _ _ (show (#[Value.int IntKind.i64 x0, Value.int IntKind.i64 x1])[1 * 1]? = some (.int .i64 x1) from rfl), part3 _ _ _ (show (#[Value.int IntKind.i64 y0, Value.int IntKind.i64 y1])[0 * 1]? = some (.int .i64 y0) from rfl), part3 _ _ _ (show (#[Value.int IntKind.i64 y0, Value.int IntKind.i64 y1])[1 * 1]? = some (.int .i64 y1) from rfl), Result.andThen_ok, he]
  by_cases h0 : x0 = y0 <;> by_cases h1 : x1 = y1 <;> simp [go_sem, h0, h1]
theorem eql43 (x0 x1 y0 y1 : Int) (q : Bool) (hq : (x0 == y0 && x1 == y1) = q) (W : World) : (binOp .eql 43 (.agg #[.int .i64 x0, .int .i64 x1]) (.agg #[.int .i64 y0, .int .i64 y1])).run Tryd.prog W = .ok (.bool q) W := by
  rw [run_eql_struct, eq43 9998, hq]
  rfl
theorem cast_beq (a b : Nat) : ((a : Int) == (b : Int)) = (a == b) := by
  by_cases e : a = b
  · rw [e]; simp
  · rw [beq_eq_false_iff_ne.2 (show (a : Int) ≠ (b : Int) by omega), beq_eq_false_iff_ne.2 e]
theorem tv_brk {T : TV} {V : World} (hT : T.ok V) (hC : CntV T.tb) : ∃ bb ob, T.a3 = some ⟨bb, ob, none⟩ ∧ T.n3 = T.n2 ∧ ∀ a < T.n2, V.cell? ⟨bb, ob + a, none⟩ = some (.bool (brkN T.tb a)) := by
  have r3 := hT.r3
  have h3 : T.br.length = T.n3 := r3.1
  have e3 : T.n3 = T.n2 := by have := hC.b1; unfold TV.tb at this; simp only [listsOf_len] at this; have := hT.r2.1; omega
  have n1 : 1 ≤ T.n2 := by have := hC.n1; unfold TV.tb at this; simp only [listsOf_len] at this; have := hT.r2.1; omega
  obtain ⟨bb, ob, hA, _, _⟩ := r3.at (k := 0) (by omega)
  refine ⟨bb, ob, hA, e3, fun a ha => ?_⟩
  obtain ⟨bb', ob', hA', _, hc⟩ := r3.at (k := a) (by omega)
  rw [hA] at hA'
  injection hA' with hA'
  injection hA' with e1 e2
  subst e1; subst e2
  rw [hc, brkN_at]
theorem tv_nxt {T : TV} {V : World} (hT : T.ok V) (hC : CntV T.tb) (hN : nextB T.tb = true) : ∃ bb ob, T.a2 = some ⟨bb, ob, none⟩ ∧ ∀ a < T.n2, ∃ rb ro rc, V.cell? ⟨bb, ob + a, none⟩ = some (.slice (some ⟨rb, ro, none⟩) T.cl.toNat rc) ∧ ∀ c < T.cl.toNat, V.cell? ⟨rb, ro + c, none⟩ = some (.int .i64 (nxN T.tb a c : Nat)) := by
  have r2 := hT.r2
  have l2 := hT.r2.1
  have n1 : 1 ≤ T.n2 := by have := hC.n1; unfold TV.tb at this; simp only [listsOf_len] at this; omega
  obtain ⟨bb, ob, hA, _, _⟩ := r2.at (k := 0) (by omega)
  refine ⟨bb, ob, hA, fun a ha => ?_⟩
  have al : a < T.hs.length := by omega
  obtain ⟨bb', ob', hA', _, hc, hri, _⟩ := r2.at al
  rw [hA] at hA'
  injection hA' with hA'
  injection hA' with e1 e2
  subst e1; subst e2
  have hrl : (T.hs[a].l.length : Int) = T.tb.cl := hC.rw _ (List.mem_map.2 ⟨_, List.getElem_mem al, rfl⟩)
  have hrn := hri.1
  have hcl : T.tb.cl = T.cl := rfl
  have hnn : T.hs[a].n = T.cl.toNat := by omega
  have c1 := hC.c1
  obtain ⟨rb, ro, hra, _, _⟩ := hri.at (k := 0) (by omega)
  refine ⟨rb, ro, T.hs[a].c, ?_, fun c hcc => ?_⟩
  · rw [hc, hra, hnn]
  · have cl' : c < T.hs[a].l.length := by omega
    obtain ⟨rb', ro', hra', _, hcell⟩ := hri.at cl'
    rw [hra] at hra'
    injection hra' with hra'
    injection hra' with e1 e2
    subst e1; subst e2
    rw [hcell]
    have e := nxI_at (T := T) al c
    rw [getD_ix cl'] at e
    have hb := nextB_all hN (List.mem_map.2 ⟨_, List.getElem_mem al, rfl⟩) (List.getElem_mem cl')
    have : T.hs[a].l[c] = ((nxN T.tb a c : Nat) : Int) := by unfold nxN; rw [e]; omega
    rw [this]
def prI (P : List (Nat × Nat)) : List Rg := P.map fun p => ((p.1 : Int), (p.2 : Int))
theorem prI_len (P : List (Nat × Nat)) : (prI P).length = P.length := by simp [prI]
theorem prI_at (P : List (Nat × Nat)) {k : Nat} (h : k < P.length) (h' : k < (prI P).length) : (prI P)[k] = ((P[k].1 : Int), (P[k].2 : Int)) := by simp [prI]
/-- The pairs as they are met. -/
structure PI (t u : Tb) (P : List (Nat × Nat)) : Prop where
  nd : P.Nodup
  rg : ∀ p ∈ P, p.1 < t.nx.length ∧ p.2 < u.nx.length
  z : (0, 0) ∈ P
  dg : t = u → ∀ p ∈ P, p.1 = p.2
theorem PI.len {t u : Tb} {P : List (Nat × Nat)} (h : PI t u P) (h1 : t.nx.length ≤ 5) (h2 : u.nx.length ≤ 5) : P.length ≤ 25 := by
  have := nodup_le P ((List.range t.nx.length).flatMap fun a => (List.range u.nx.length).map fun b => (a, b)) h.nd (fun x hx => by obtain ⟨a, b⟩ := x; exact pairs_mem.2 (h.rg _ hx))
  rw [pairs_len] at this
  have := Nat.mul_le_mul h1 h2
  omega
theorem PI.snoc {t u : Tb} {P : List (Nat × Nat)} (h : PI t u P) {x : Nat × Nat} (hx : x ∉ P) (hr : x.1 < t.nx.length ∧ x.2 < u.nx.length) (hd : t = u → x.1 = x.2) : PI t u (P ++ [x]) :=
  ⟨by rw [List.nodup_append]; exact ⟨h.nd, by simp, fun a ha b hb e => by rw [List.mem_singleton] at hb; subst hb; subst e; exact hx ha⟩, fun p hp => by
    rcases List.mem_append.1 hp with hp | hp
    · exact h.rg p hp
    · rw [List.mem_singleton] at hp; subst hp; exact hr, by simp [h.z], fun e p hp => by
    rcases List.mem_append.1 hp with hp | hp
    · exact h.dg e p hp
    · rw [List.mem_singleton] at hp; subst hp; exact hd e⟩
theorem info43 : (Tryd.prog.info? 43).map (fun i => (i.zero, i.size, i.bytes)) = some (some (.agg #[.int .i64 0, .int .i64 0]), 2, 16) := by kernel_rfl
theorem reads_pair (w : World) (x y : Int) : Reads (w.alloc (.cells #[.int .i64 x, .int .i64 y] 43)) (w.heap.size + 1) 2 (some ⟨w.heap.size, 0, none⟩) 1 (rcells [(x, y)]) := ⟨rfl, fun _ => ⟨_, _, rfl, by omega, fun i u hu => by
  match i, hu with
  | 0, hu => simp [rcells, rcell] at hu; subst hu; simp
  | 1, hu => simp [rcells, rcell] at hu; subst hu; simp
  | i + 2, hu => simp [rcells, rcell] at hu⟩⟩

set_option maxHeartbeats 16000000 in
theorem walk (T U : TV) (W : World) (hT : T.ok W) (hU : U.ok W) (hM : Mark W) :
    Calls Tryd.prog 5 #[T.v, U.v] W fun e W' => e = .returned (.bool true) ∧ Below W.heap.size W W' := by
  obtain ⟨i0, hi0, hz0, hz1, hz2⟩ := info_parts info43
  have HRT := Lib.hid (fun V (g : Below W.heap.size W V) => refTable_any T V (hT.on g))
  have HRU := Lib.hid (fun V (g : Below W.heap.size W V) => refTable_any U V (hU.on g))
  have HVT := Lib.hid (fun V (g : Below W.heap.size W V) => validTable_any T V (hT.on g))
  have HVU := Lib.hid (fun V (g : Below W.heap.size W V) => validTable_any U V (hU.on g))
  have HKb : Hid (errV T.tb = 0 → ∀ V, Below W.heap.size W V → Calls Tryd.prog 29 #[.slice T.a1 T.n1 T.c1, .slice U.a1 U.n1 U.c1] V fun e w' => e = .returned (.bool (eqX T.bd U.bd)) ∧ Below V.heap.size V w') := Lib.hid (fun h V g => keepBands_n T.bd U.bd T.n1 U.n1 T.a1 U.a1 T.c1 U.c1 V (hT.on g).r1 (hU.on g).r1 (by have h1 := ((cntV_iff _).1 (errV_ok.1 h).cnt).k2; have h2 : T.tb.bd.length = T.n1 := hT.r1.1; omega))
  have HSa : Hid (errV T.tb = 0 → ∀ V, Below W.heap.size W V → Calls Tryd.prog 19 #[T.v, U.v] V fun e w' => e = .returned (.bool (eqT T.tb U.tb)) ∧ Below V.heap.size V w') := Lib.hid (fun h V g => same_any T U V (hT.on g) (hU.on g) (by have h1 := ((cntV_iff _).1 (errV_ok.1 h).cnt).k2; have h2 : T.tb.bd.length = T.n1 := hT.r1.1; omega) (by have h1 := ((cntV_iff _).1 (errV_ok.1 h).cnt).n2; have h2 := hT.r2.1; unfold TV.tb at h1; simp only [listsOf_len] at h1; omega) (by have h1 := ((cntV_iff _).1 (errV_ok.1 h).cnt).n2; have h3 := ((cntV_iff _).1 (errV_ok.1 h).cnt).b1; have h2 := hT.r3.1; have h4 := hT.r2.1; unfold TV.tb at h1 h3; simp only [listsOf_len] at h1 h3; omega) (fun x hx => by
    have h1 := ((cntV_iff _).1 (errV_ok.1 h).cnt).rw _ (List.mem_map.2 ⟨x, hx, rfl⟩)
    have h2 := ((cntV_iff _).1 (errV_ok.1 h).cnt).c2
    have h3 := (hT.r2.2.2 x hx).1.1
    omega))
  have HOT := Lib.hid (fun V (g : Below W.heap.size W V) => hT.on g)
  have HOU := Lib.hid (fun V (g : Below W.heap.size W V) => hU.on g)
  have lT : T.tb.nx.length = T.n2 := by unfold TV.tb; simp only [listsOf_len]; exact hT.r2.1
  have lU : U.tb.nx.length = U.n2 := by unfold TV.tb; simp only [listsOf_len]; exact hU.r2.1
  have HM0 := Lib.hid hM
  clear hT hU hM
  have HLT := Lib.hid lT
  have HLU := Lib.hid lU
  have HBt : Hid (T.tb.bd = T.bd ∧ U.tb.bd = U.bd ∧ T.tb.cl = T.cl ∧ U.tb.cl = U.cl) := Lib.hid ⟨rfl, rfl, rfl, rfl⟩
  have HBrT : Hid (∀ V, Below W.heap.size W V → CntV T.tb → ∃ bb ob, T.a3 = some ⟨bb, ob, none⟩ ∧ T.n3 = T.n2 ∧ ∀ a < T.n2, V.cell? ⟨bb, ob + a, none⟩ = some (.bool (brkN T.tb a))) := Lib.hid (fun V g h => tv_brk (HOT.out V g) h)
  have HBrU : Hid (∀ V, Below W.heap.size W V → CntV U.tb → ∃ bb ob, U.a3 = some ⟨bb, ob, none⟩ ∧ U.n3 = U.n2 ∧ ∀ a < U.n2, V.cell? ⟨bb, ob + a, none⟩ = some (.bool (brkN U.tb a))) := Lib.hid (fun V g h => tv_brk (HOU.out V g) h)
  have HNxT := Lib.hid (fun V (g : Below W.heap.size W V) h1 h2 => tv_nxt (HOT.out V g) h1 h2)
  have HNxU := Lib.hid (fun V (g : Below W.heap.size W V) h1 h2 => tv_nxt (HOU.out V g) h1 h2)
  clear HOT HOU lT lU
  generalize T.tb = tb1 at *
  generalize U.tb = tb2 at *
  have HX1 := Lib.hid ((box_new W T).on (below_new (W.alloc (.cells #[.int .i64 T.cl, .slice T.a1 T.n1 T.c1, .slice T.a2 T.n2 T.c2, .slice T.a3 T.n3 T.c3] 26)) (.cells #[.int .i64 U.cl, .slice U.a1 U.n1 U.c1, .slice U.a2 U.n2 U.c2, .slice U.a3 U.n3 U.c3] 26)))
  have HX2 : Hid (Box ((W.alloc (.cells #[.int .i64 T.cl, .slice T.a1 T.n1 T.c1, .slice T.a2 T.n2 T.c2, .slice T.a3 T.n3 T.c3] 26)).alloc (.cells #[.int .i64 U.cl, .slice U.a1 U.n1 U.c1, .slice U.a2 U.n2 U.c2, .slice U.a3 U.n3 U.c3] 26)) (W.heap.size + 1) U) := Lib.hid (by
    have h := box_new (W.alloc (.cells #[.int .i64 T.cl, .slice T.a1 T.n1 T.c1, .slice T.a2 T.n2 T.c2, .slice T.a3 T.n3 T.c3] 26)) U
    rw [show (W.alloc (.cells #[.int .i64 T.cl, .slice T.a1 T.n1 T.c1, .slice T.a2 T.n2 T.c2, .slice T.a3 T.n3 T.c3] 26)).heap.size = W.heap.size + 1 by simp] at h
    exact h)
  obtain ⟨tc, ta1, tn1, tc1, tbd, ta2, tn2, tc2, ths, ta3, tn3, tc3, tbr⟩ := T
  obtain ⟨uc, ua1, un1, uc1, ubd, ua2, un2, uc2, uhs, ua3, un3, uc3, ubr⟩ := U
  simp only [TV.v] at *
  have bb : Below W.heap.size W ((W.alloc (.cells #[.int .i64 tc, .slice ta1 tn1 tc1, .slice ta2 tn2 tc2, .slice ta3 tn3 tc3] 26)).alloc (.cells #[.int .i64 uc, .slice ua1 un1 uc1, .slice ua2 un2 uc2, .slice ua3 un3 uc3] 26)) := below_call (below_new _ _) (below_new _ _).size (below_new _ _)
  obtain ⟨_, p0, p1, p2, p3⟩ := HX1.out
  obtain ⟨_, r0, r1, r2, r3⟩ := HX2.out
  try simp only [] at p0 p1 p2 p3 r0 r1 r2 r3
  go_enter Tryd.func5, Tryd.ntmps5
  go_wp2_with fail
  generalize ((W.alloc (.cells #[.int .i64 tc, .slice ta1 tn1 tc1, .slice ta2 tn2 tc2, .slice ta3 tn3 tc3] 26)).alloc (.cells #[.int .i64 uc, .slice ua1 un1 uc1, .slice ua2 un2 uc2, .slice ua3 un3 uc3] 26)) = V0 at *
  refine (HRT.out _ bb).mono ?_
  rintro e w1 ⟨rfl, g⟩
  replace bb := bb.trans (g.mono bb.size)
  replace HX1 := Lib.hid (HX1.out.on g)
  replace HX2 := Lib.hid (HX2.out.on g)
  clear g p0 p1 p2 p3 r0 r1 r2 r3
  obtain ⟨_, p0, p1, p2, p3⟩ := HX1.out
  obtain ⟨_, r0, r1, r2, r3⟩ := HX2.out
  try simp only [] at p0 p1 p2 p3 r0 r1 r2 r3
  by_cases hv1 : errV tb1 = 0
  case neg =>
    as_aux_lemma =>
      have hn : (errV tb1 != 0) = true := by rw [bne_iff_ne]; exact hv1
      generalize errV tb1 = ev at *
      go_wp2_with fail
      have HM := Lib.hid (HM0.out.on bb)
      refine (wakesV_any _ HM.out).mono ?_
      rintro e w9 ⟨rfl, g9⟩
      replace bb := bb.trans (g9.mono bb.size)
      clear g9
      go_wp2_with fail
      go_ret
      exact ⟨rfl, bb⟩
  have HV1 := Lib.hid (errV_ok.1 hv1)
  rw [hv1] at HVT
  rw [hv1]
  go_wp2_with fail
  refine (HRU.out _ bb).mono ?_
  rintro e w2 ⟨rfl, g⟩
  replace bb := bb.trans (g.mono bb.size)
  replace HX1 := Lib.hid (HX1.out.on g)
  replace HX2 := Lib.hid (HX2.out.on g)
  clear g p0 p1 p2 p3 r0 r1 r2 r3
  obtain ⟨_, p0, p1, p2, p3⟩ := HX1.out
  obtain ⟨_, r0, r1, r2, r3⟩ := HX2.out
  try simp only [] at p0 p1 p2 p3 r0 r1 r2 r3
  by_cases hv2 : errV tb2 = 0
  case neg =>
    as_aux_lemma =>
      have hn : (errV tb2 != 0) = true := by rw [bne_iff_ne]; exact hv2
      generalize errV tb2 = ev at *
      go_wp2_with fail
      have HM := Lib.hid (HM0.out.on bb)
      refine (wakesV_any _ HM.out).mono ?_
      rintro e w9 ⟨rfl, g9⟩
      replace bb := bb.trans (g9.mono bb.size)
      clear g9
      go_wp2_with fail
      go_ret
      exact ⟨rfl, bb⟩
  have HV2 := Lib.hid (errV_ok.1 hv2)
  rw [hv2] at HVU
  rw [hv2]
  replace HKb := Lib.hid (HKb.out hv1)
  replace HSa := Lib.hid (HSa.out hv1)
  clear hv1 hv2 HRT HRU
  go_wp2_with fail
  refine (HKb.out _ bb).mono ?_
  rintro e w3 ⟨rfl, g⟩
  replace bb := bb.trans (g.mono bb.size)
  replace HX1 := Lib.hid (HX1.out.on g)
  replace HX2 := Lib.hid (HX2.out.on g)
  clear g p0 p1 p2 p3 r0 r1 r2 r3
  obtain ⟨_, p0, p1, p2, p3⟩ := HX1.out
  obtain ⟨_, r0, r1, r2, r3⟩ := HX2.out
  try simp only [] at p0 p1 p2 p3 r0 r1 r2 r3
  by_cases hbd : tbd = ubd
  case neg =>
    as_aux_lemma =>
      rw [eqX_no hbd]
      go_wp2_with fail
      have HM := Lib.hid (HM0.out.on bb)
      refine (wakesV_any _ HM.out).mono ?_
      rintro e w9 ⟨rfl, g9⟩
      replace bb := bb.trans (g9.mono bb.size)
      clear g9
      go_wp2_with fail
      go_ret
      exact ⟨rfl, bb⟩
  rw [eqX_yes hbd]
  by_cases hcc : tc = uc
  case neg =>
    as_aux_lemma =>
      have hn : (tc != uc) = true := by rw [bne_iff_ne]; exact hcc
      go_wp2_with fail
      have HM := Lib.hid (HM0.out.on bb)
      refine (wakesV_any _ HM.out).mono ?_
      rintro e w9 ⟨rfl, g9⟩
      replace bb := bb.trans (g9.mono bb.size)
      clear g9
      go_wp2_with fail
      go_ret
      exact ⟨rfl, bb⟩
  have hn : (tc != uc) = false := by simpa using hcc
  have HOne : Hid (∀ P, PI tb1 tb2 P → (∀ p ∈ P, ∀ c < tc.toNat, (nxN tb1 p.1 c, nxN tb2 p.2 c) ∈ P) → (P.all fun p => brkN tb1 p.1 == brkN tb2 p.2) = eqT tb1 tb2) := Lib.hid (fun P hP hcl => by
    obtain ⟨e1, e2, e3, e4⟩ := HBt.out
    try simp only [] at e1 e2 e3 e4
    cases hq : P.all fun p => brkN tb1 p.1 == brkN tb2 p.2 with
    | true =>
      rw [List.all_eq_true] at hq
      exact (eqT_yes (one_same HV1.out HV2.out (by rw [e1, e2, hbd]) (by rw [e3, e4, hcc]) P hP.z hP.rg (by rw [e3]; exact hcl) (fun p hp => by simpa using hq p hp))).symm
    | false =>
      by_cases e : tb1 = tb2
      · exfalso
        have : (P.all fun p => brkN tb1 p.1 == brkN tb2 p.2) = true := by
          rw [List.all_eq_true]
          intro p hp
          rw [hP.dg e p hp, e]
          simp
        rw [this] at hq; cases hq
      · exact (eqT_no e).symm)
  have c1 := (cntV_iff _).1 HV1.out.cnt
  have c2 := (cntV_iff _).1 HV2.out.cnt
  have m1 : tn2 ≤ 5 := by have h1 := c1.n2; have h2 := HLT.out; omega
  have m2 : un2 ≤ 5 := by have h1 := c2.n2; have h2 := HLU.out; omega
  have m3 : 1 ≤ tn2 := by have h1 := c1.n1; have h2 := HLT.out; omega
  have m4 : 1 ≤ un2 := by have h1 := c2.n1; have h2 := HLU.out; omega
  have hK1 : 1 ≤ tc ∧ tc ≤ 8 := by have h1 := c1.c1; have h2 := c1.c2; have h3 := HBt.out.2.2.1; omega
  replace HBrT := Lib.hid (fun V (g : Below W.heap.size W V) => HBrT.out V g c1)
  replace HBrU := Lib.hid (fun V (g : Below W.heap.size W V) => HBrU.out V g c2)
  replace HNxT := Lib.hid (fun V (g : Below W.heap.size W V) => HNxT.out V g c1 HV1.out.nxt)
  replace HNxU := Lib.hid (fun V (g : Below W.heap.size W V) => HNxU.out V g c2 HV2.out.nxt)
  try simp only [] at HBrT HBrU HNxT HNxU
  have HNl1 : Hid (∀ a c, nxN tb1 a c < tn2) := Lib.hid (fun a c => by have h := nxN_lt HV1.out.nxt (by have := c1.n1; omega) a c; have h2 := HLT.out; omega)
  have HNl2 : Hid (∀ a c, nxN tb2 a c < un2) := Lib.hid (fun a c => by have h := nxN_lt HV2.out.nxt (by have := c2.n1; omega) a c; have h2 := HLU.out; omega)
  have HPl : Hid (∀ P, PI tb1 tb2 P → P.length ≤ 25) := Lib.hid (fun P h => h.len c1.n2 c2.n2)
  have HRg : Hid (∀ P, PI tb1 tb2 P → ∀ p ∈ P, p.1 < tn2 ∧ p.2 < un2) := Lib.hid (fun P h p hp => by have h1 := h.rg p hp; have h2 := HLT.out; have h3 := HLU.out; omega)
  have HSn : Hid (∀ P x, PI tb1 tb2 P → x ∉ P → x.1 < tn2 ∧ x.2 < un2 → (tb1 = tb2 → x.1 = x.2) → PI tb1 tb2 (P ++ [x])) := Lib.hid (fun P x h hx hr hd => h.snoc hx (by have h2 := HLT.out; have h3 := HLU.out; omega) hd)
  have HP0 : Hid (PI tb1 tb2 [(0, 0)]) := Lib.hid ⟨by simp, fun p hp => by rw [List.mem_singleton] at hp; subst hp; have h2 := c1.n1; have h3 := c2.n1; exact ⟨by omega, by omega⟩, by simp, fun _ p hp => by rw [List.mem_singleton] at hp; subst hp; rfl⟩
  obtain ⟨bA, oA, hA3, e3t, _⟩ := HBrT.out w3 bb
  obtain ⟨bB, oB, hB3, e3u, _⟩ := HBrU.out w3 bb
  obtain ⟨bC, oC, hA2, _⟩ := HNxT.out w3 bb
  obtain ⟨bD, oD, hB2, _⟩ := HNxU.out w3 bb
  subst hA3 hB3 hA2 hB2 e3t e3u
  replace HBrT : Hid (∀ V, Below W.heap.size W V → ∀ a < tn3, V.cell? ⟨bA, oA + a, none⟩ = some (.bool (brkN tb1 a))) := Lib.hid (fun V g => by
    obtain ⟨b, o, h1, _, h2⟩ := HBrT.out V g
    injection h1 with h1; injection h1 with h1 h3; subst h1; subst h3; exact h2)
  replace HBrU : Hid (∀ V, Below W.heap.size W V → ∀ a < un3, V.cell? ⟨bB, oB + a, none⟩ = some (.bool (brkN tb2 a))) := Lib.hid (fun V g => by
    obtain ⟨b, o, h1, _, h2⟩ := HBrU.out V g
    injection h1 with h1; injection h1 with h1 h3; subst h1; subst h3; exact h2)
  obtain ⟨K, rfl⟩ : ∃ K : Nat, tc = (K : Int) := ⟨tc.toNat, by omega⟩
  subst hcc
  simp only [Int.toNat_natCast] at HOne HNxT HNxU
  replace HNxT : Hid (∀ V, Below W.heap.size W V → ∀ a < tn3, ∃ rb ro rc, V.cell? ⟨bC, oC + a, none⟩ = some (.slice (some ⟨rb, ro, none⟩) K rc) ∧ ∀ c < K, V.cell? ⟨rb, ro + c, none⟩ = some (.int .i64 (nxN tb1 a c : Nat))) := Lib.hid (fun V g => by
    obtain ⟨b, o, h1, h2⟩ := HNxT.out V g
    injection h1 with h1; injection h1 with h1 h3; subst h1; subst h3; exact h2)
  replace HNxU : Hid (∀ V, Below W.heap.size W V → ∀ a < un3, ∃ rb ro rc, V.cell? ⟨bD, oD + a, none⟩ = some (.slice (some ⟨rb, ro, none⟩) K rc) ∧ ∀ c < K, V.cell? ⟨rb, ro + c, none⟩ = some (.int .i64 (nxN tb2 a c : Nat))) := Lib.hid (fun V g => by
    obtain ⟨b, o, h1, h2⟩ := HNxU.out V g
    injection h1 with h1; injection h1 with h1 h3; subst h1; subst h3; exact h2)
  clear HKb c1 c2 HV1 HV2 HBt HLT HLU
  have HO0 : Hid ((w3.alloc (.cells #[.int .i64 0, .int .i64 0] 43)).ownsRow w3.heap.size 43 2 (.slice (some ⟨w3.heap.size, 0, none⟩) 1 1) 1 (rcells (prI [(0, 0)]))) := Lib.hid (World.ownsRow_lit (e := 43) (size := 2) w3 #[.int .i64 0, .int .i64 0] 1 (Nat.le_refl _) (by unfold maxLen; omega) (by decide))
  go_wp2_with fail
  have bn := below_new w3 (.cells #[.int .i64 0, .int .i64 0] 43)
  have hb3 : w3.heap.size ≤ (w3.alloc (.cells #[.int .i64 0, .int .i64 0] 43)).heap.size := bn.size
  clear p0 p1 p2 p3 r0 r1 r2 r3
  have hb0 : Below w3.heap.size w3 (w3.alloc (.cells #[.int .i64 0, .int .i64 0] 43)) := bn
  clear bn hb3
  generalize hVV : w3.alloc (.cells #[.int .i64 0, .int .i64 0] 43) = V1 at *
  clear hVV
  go_loopw [5, 6, 7] (fun vp vs vi wr => ∃ (i : Nat) (P : List (Nat × Nat)) (A : Option Addr) (c : Nat) (sm : Bool), vp = .slice A P.length c ∧ vs = .bool sm ∧ vi = .int .i64 i ∧ i ≤ P.length ∧ Hid (wr.ownsRow w3.heap.size 43 2 (.slice A P.length c) P.length (rcells (prI P))) ∧ Hid (PI tb1 tb2 P) ∧ Hid (∀ p ∈ P.take i, ∀ k < K, (nxN tb1 p.1 k, nxN tb2 p.2 k) ∈ P) ∧ Hid (sm = (P.take i).all fun p => brkN tb1 p.1 == brkN tb2 p.2) ∧ Hid (Below w3.heap.size w3 wr)) (fun _ _ vi _ => 26 - (intOf vi).toNat)
  case atStart => exact ⟨0, [(0, 0)], _, _, true, rfl, rfl, rfl, by simp, HO0, HP0, Lib.hid (by simp), Lib.hid rfl, Lib.hid hb0⟩
  case round =>
    clear HO0 HP0 hb0
    obtain ⟨i, P, A, c, sm, rfl, rfl, rfl, hi, HO, HP, HCl, HSm, HB⟩ := hrel
    have hlen := HPl.out P HP.out
    have HBw := Lib.hid (below_call bb bb.size HB.out)
    obtain ⟨_, p0, p1, p2, p3⟩ := HX1.out.on HB.out
    obtain ⟨_, r0, r1, r2, r3⟩ := HX2.out.on HB.out
    try simp only [] at p0 p1 p2 p3 r0 r1 r2 r3
    by_cases hlt : i < P.length
    · have il : i < (prI P).length := by rw [prI_len]; exact hlt
      obtain ⟨pb, po, hA, _, q0, q1⟩ := (Reads.of_own HO.out).rg il
      rw [prI_at P hlt il] at q0 q1
      try simp only [] at q0 q1
      subst hA
      have HMem := Lib.hid (List.getElem_mem hlt)
      have HTk : Hid (P.take (i + 1) = P.take i ++ [P[i]]) := Lib.hid (List.take_succ_eq_append_getElem hlt)
      obtain ⟨hra, hrb⟩ := HRg.out P HP.out _ HMem.out
      have HDg : Hid (tb1 = tb2 → P[i].1 = P[i].2) := Lib.hid (fun e => HP.out.dg e _ HMem.out)
      generalize P[i] = pp at *
      obtain ⟨a, b⟩ := pp
      try simp only [] at q0 q1 hra hrb HDg
      have y0 := HBrT.out wr HBw.out a hra
      have y1 := HBrU.out wr HBw.out b hrb
      have HSn2 : Hid (((P.take (i + 1)).all fun p => brkN tb1 p.1 == brkN tb2 p.2) = (((P.take i).all fun p => brkN tb1 p.1 == brkN tb2 p.2) && (brkN tb1 a == brkN tb2 b))) := Lib.hid (by rw [HTk.out, List.all_append]; simp)
      rw [← HSm.out] at HSn2
      have HDg2 : Hid (tb1 = tb2 → ∀ k, nxN tb1 a k = nxN tb2 b k) := Lib.hid (fun e k => by rw [HDg.out e, e])
      generalize hya : brkN tb1 a = ya at *
      generalize hyb : brkN tb2 b = yb at *
      obtain ⟨sn, hsn⟩ : ∃ sn : Bool, sn = (sm && (ya == yb)) := ⟨_, rfl⟩
      have HSn3 : Hid (sn = (P.take (i + 1)).all fun p => brkN tb1 p.1 == brkN tb2 p.2) := Lib.hid (by rw [HSn2.out, hsn])
      clear HSn2 HSm HDg hya hyb
      have hi25 : i ≤ 24 := by omega
      rename World => w4
      have key : ∀ (sn : Bool) (V : World) (nq : Nat), True := fun _ _ _ => trivial
      clear key
      go_wp2_with fail
      go_quiet (fail)
      replace HB := Lib.hid (below_drewN HB.out nq)
      replace HO := Lib.hid (own_below HO.out (below_drewN (Below.refl w4.heap.size w4) nq))
      replace y0 := kept_cell (below_drewN (Below.refl w4.heap.size w4) nq) y0
      replace y1 := kept_cell (below_drewN (Below.refl w4.heap.size w4) nq) y1
      replace p3 := kept_cell (below_drewN (Below.refl w4.heap.size w4) nq) p3
      replace r3 := kept_cell (below_drewN (Below.refl w4.heap.size w4) nq) r3
      clear HBw p0 p1 p2 r0 r1 r2 q0 q1
      generalize w4.drewN nq = w5 at *
      go_upto_region 9 with (fail)
      go_cut [6] from 56 to 69 (fun v wx => v = .bool sn ∧ ∃ m, wx = w5.drewN m)
      case first =>
        as_aux_lemma =>
          cases sm
          · subst hsn
            go_quiet (fail)
            go_wp2_with fail
            go_meet
            exact ⟨by simp, _, rfl⟩
          · subst hsn
            cases ya <;> cases yb
            all_goals
              go_quiet (fail)
              go_wp2_with fail
              go_meet
              exact ⟨by simp, _, rfl⟩
      obtain ⟨rfl, m, rfl⟩ := hcut
      replace HB := Lib.hid (below_drewN HB.out m)
      replace HO := Lib.hid (own_below HO.out (below_drewN (Below.refl w5.heap.size w5) m))
      clear y0 y1 p3 r3 hsn ya yb
      generalize w5.drewN m = w6 at *
      go_wp2_with fail
      go_loopw [5, 10] (fun vp vk wr => ∃ (k : Nat) (Q : List (Nat × Nat)) (A : Option Addr) (c : Nat), vp = .slice A Q.length c ∧ vk = .int .i64 k ∧ k ≤ K ∧ Hid (wr.ownsRow w3.heap.size 43 2 (.slice A Q.length c) Q.length (rcells (prI Q))) ∧ Hid (PI tb1 tb2 Q) ∧ Hid (∃ S, Q = P ++ S) ∧ Hid (∀ k' < k, (nxN tb1 a k', nxN tb2 b k') ∈ Q) ∧ Hid (Below w3.heap.size w3 wr)) (fun _ vk _ => K - (intOf vk).toNat)
      case atStart => exact ⟨0, P, _, _, rfl, rfl, Nat.zero_le _, HO, HP, Lib.hid ⟨[], by simp⟩, Lib.hid (fun k' hk' => absurd hk' (by omega)), HB⟩
      case round =>
        clear HO HB
        obtain ⟨k, Q, A, c, rfl, rfl, hk, HO, HPQ, HPre, HCk, HB⟩ := hrel
        have hlq := HPl.out Q HPQ.out
        have HBw := Lib.hid (below_call bb bb.size HB.out)
        obtain ⟨_, p0, p1, p2, p3⟩ := HX1.out.on HB.out
        obtain ⟨_, r0, r1, r2, r3⟩ := HX2.out.on HB.out
        try simp only [] at p0 p1 p2 p3 r0 r1 r2 r3
        by_cases hkK : k < K
        · obtain ⟨rb, ro, rc, z0, z1⟩ := HNxT.out wr HBw.out a hra
          obtain ⟨sb, so, sc, z2, z3⟩ := HNxU.out wr HBw.out b hrb
          have z1' := z1 k hkK
          have z3' := z3 k hkK
          have hx1 := HNl1.out a k
          have hx2 := HNl2.out b k
          have HDk : Hid (tb1 = tb2 → nxN tb1 a k = nxN tb2 b k) := Lib.hid (fun e => HDg2.out e k)
          have HCn : Hid (∀ Q' : List (Nat × Nat), (∀ p ∈ Q, p ∈ Q') → (nxN tb1 a k, nxN tb2 b k) ∈ Q' → ∀ k' < k + 1, (nxN tb1 a k', nxN tb2 b k') ∈ Q') := Lib.hid (fun Q' h1 h2 k' hk' => by
            rcases Nat.lt_succ_iff_lt_or_eq.1 hk' with h | rfl
            · exact h1 _ (HCk.out k' h)
            · exact h2)
          clear z1 z3 HCk
          generalize nxN tb1 a k = x at *
          generalize nxN tb2 b k = y at *
          rename World => w7
          have p2a := kept_cell (below_new w7 (.cells #[.int .i64 0, .int .i64 0] 43)) p2
          have r2a := kept_cell (below_new w7 (.cells #[.int .i64 0, .int .i64 0] 43)) r2
          have z0a := kept_cell (below_new w7 (.cells #[.int .i64 0, .int .i64 0] 43)) z0
          have z1a := kept_cell (below_new w7 (.cells #[.int .i64 0, .int .i64 0] 43)) z1'
          have z2a := kept_cell (below_new w7 (.cells #[.int .i64 0, .int .i64 0] 43)) z2
          have z3a := kept_cell (below_new w7 (.cells #[.int .i64 0, .int .i64 0] 43)) z3'
          go_wp2_with fail
          go_region
          clear p2a r2a z0a z1a z2a z3a z0 z1' z2 z3' p0 p1 p2 p3 r0 r1 r2 r3
          go_wp2_with fail
          have g8 : Below w7.heap.size w7 (w7.alloc (.cells #[.int .i64 (x : Int), .int .i64 (y : Int)] 43)).drew := Below.drew (below_new _ _)
          have s0 : (w7.alloc (.cells #[.int .i64 (x : Int), .int .i64 (y : Int)] 43)).drew.cell? ⟨w7.heap.size, 0, none⟩ = some (.int .i64 (x : Int)) := by simp
          have s1 : (w7.alloc (.cells #[.int .i64 (x : Int), .int .i64 (y : Int)] 43)).drew.cell? ⟨w7.heap.size, 1, none⟩ = some (.int .i64 (y : Int)) := by simp
          replace HB := Lib.hid (below_call HB.out HB.out.size g8)
          replace HO := Lib.hid (own_below HO.out g8)
          clear g8 HBw
          generalize (w7.alloc (.cells #[.int .i64 (x : Int), .int .i64 (y : Int)] 43)).drew = w8 at *
          go_loopw [12, 13] (fun vm vj wr => ∃ (j : Nat) (mt : Bool), vm = .bool mt ∧ vj = .int .i64 j ∧ j ≤ Q.length ∧ Hid (mt = (Q.take j).any fun p => p.1 == x && p.2 == y) ∧ Hid (Below w8.heap.size w8 wr)) (fun _ vj _ => Q.length - (intOf vj).toNat)
          case atStart => exact ⟨0, false, rfl, rfl, Nat.zero_le _, Lib.hid rfl, Lib.hid (Below.refl _ _)⟩
          case round =>
            obtain ⟨j, mt, rfl, rfl, hj, HMt, HBj⟩ := hrel
            replace s0 := kept_cell HBj.out s0
            replace s1 := kept_cell HBj.out s1
            by_cases hjl : j < Q.length
            · have jl : j < (prI Q).length := by rw [prI_len]; exact hjl
              obtain ⟨pb', po', hA, _, q0, q1⟩ := (Reads.of_own (own_below HO.out HBj.out)).rg jl
              rw [prI_at Q hjl jl] at q0 q1
              try simp only [] at q0 q1
              subst hA
              have HTj : Hid (((Q.take (j + 1)).any fun p => p.1 == x && p.2 == y) = (((Q.take j).any fun p => p.1 == x && p.2 == y) || (Q[j].1 == x && Q[j].2 == y))) := Lib.hid (by rw [List.take_succ_eq_append_getElem hjl, List.any_append]; simp)
              rw [← HMt.out] at HTj
              generalize Q[j] = qq at *
              obtain ⟨v0, v1⟩ := qq
              try simp only [] at q0 q1 HTj
              cases mt
              case true =>
                as_aux_lemma =>
                  have HM2 : Hid (true = (Q.take (j + 1)).any fun p => p.1 == x && p.2 == y) := Lib.hid (by rw [HTj.out]; rfl)
                  clear HTj HMt
                  go_wp2_with fail
                  go_quiet (fail)
                  go_wp2_with fail
                  go_roundw
                  case rel => exact ⟨j + 1, _, rfl, by go_num, by omega, HM2, Lib.hid (below_drewN HBj.out _)⟩
                  case measure => simp [intOf]; omega
              case false =>
                as_aux_lemma =>
                  obtain ⟨qv, hqv⟩ : ∃ qv : Bool, (v0 == x && v1 == y) = qv := ⟨_, rfl⟩
                  have h43 := eql43 (v0 : Int) (v1 : Int) (x : Int) (y : Int) qv (by rw [cast_beq, cast_beq]; exact hqv)
                  have hg43 := guard43
                  have HM2 : Hid (qv = (Q.take (j + 1)).any fun p => p.1 == x && p.2 == y) := Lib.hid (by rw [HTj.out, hqv]; rfl)
                  clear HTj HMt hqv
                  cases qv
                  all_goals
                    go_wp2_with fail
                    go_quiet (fail)
                    go_wp2_with fail
                    go_roundw
                    case rel => exact ⟨j + 1, _, rfl, by go_num, by omega, HM2, Lib.hid (below_drewN HBj.out _)⟩
                    case measure => simp [intOf]; omega
            · have HMa : Hid (mt = Q.any fun p => p.1 == x && p.2 == y) := Lib.hid (by
                have h := HMt.out
                rwa [List.take_of_length_le (by omega)] at h)
              clear HMt
              replace HB := Lib.hid (below_call HB.out HB.out.size HBj.out)
              replace HO := Lib.hid (own_below HO.out HBj.out)
              cases mt
              case true =>
                as_aux_lemma =>
                  have HIn : Hid ((x, y) ∈ Q) := Lib.hid (by
                    have h := HMa.out.symm
                    rw [List.any_eq_true] at h
                    obtain ⟨p, hp, e⟩ := h
                    obtain ⟨p1, p2⟩ := p
                    simp at e
                    rw [← e.1, ← e.2]; exact hp)
                  have HC2 := Lib.hid (HCn.out Q (fun p hp => hp) HIn.out)
                  clear HMa HIn HCn
                  go_wp2_with fail
                  go_roundw
                  case rel => exact ⟨k + 1, Q, _, _, rfl, by go_num, by omega, HO, HPQ, HPre, HC2, HB⟩
                  case measure => simp [intOf]; omega
              case false =>
                as_aux_lemma =>
                  have HNi : Hid ((x, y) ∉ Q) := Lib.hid (fun hin => by
                    have h := HMa.out.symm
                    rw [List.any_eq_false] at h
                    have := h _ hin
                    simp at this)
                  have HP2 := Lib.hid (HSn.out Q (x, y) HPQ.out HNi.out ⟨hx1, hx2⟩ HDk.out)
                  have hl2 := HPl.out _ HP2.out
                  have HC2 := Lib.hid (HCn.out (Q ++ [(x, y)]) (fun p hp => by simp [hp]) (by simp))
                  have HPr2 : Hid (∃ S, Q ++ [(x, y)] = P ++ S) := Lib.hid (by
                    obtain ⟨S, hS⟩ := HPre.out
                    exact ⟨S ++ [(x, y)], by rw [hS, List.append_assoc]⟩)
                  clear HMa HNi HCn HPre
                  rename World => w9
                  have HOa := Lib.hid (HO.out.alloc (.cells #[.int .i64 (x : Int), .int .i64 (y : Int)] 43))
                  have hba := HB.out.alloc HB.out.size (.cells #[.int .i64 (x : Int), .int .i64 (y : Int)] 43)
                  have HRd := Lib.hid (reads_pair w9 x y)
                  have HOn := Lib.hid (rcells_one [((x : Int), (y : Int))])
                  have hsz := HB.out.size
                  go_wp2_with (at_builtin; refine wpList_append_src rfl _ _ 49 rfl w3.heap.size 43 i0 _ 2 16 Tryd.underlying49 hi0 hz0 hz1 hz2 rfl (by decide) _ _ _ rfl HOa.out (some ⟨w9.heap.size, 0, none⟩) 1 1 (w9.heap.size + 1) (rcells [((x : Int), (y : Int))]) rfl (fun h => by cases h) HRd.out HOn.out ?n3 ?n4 ?n5 ?_)
                  case n3 => unfold maxLen; omega
                  case n4 => omega
                  case n5 => simp; omega
                  intro A8 c8 w10 hown8 hn8 hgrow8
                  have HB8 := Lib.hid (below_grown hba (by simp; omega) HOa.out hgrow8)
                  have HO8 : Hid (w10.ownsRow w3.heap.size 43 2 (.slice A8 (Q ++ [(x, y)]).length c8) (Q ++ [(x, y)]).length (rcells (prI (Q ++ [(x, y)])))) := Lib.hid (by
                    have e : prI (Q ++ [(x, y)]) = prI Q ++ [((x : Int), (y : Int))] := by simp [prI]
                    rw [e, rcells_app, List.length_append]; exact hown8)
                  clear hown8 hgrow8 HOa hba HRd HOn
                  go_wp2_with fail
                  go_roundw
                  case rel => exact ⟨k + 1, Q ++ [(x, y)], A8, c8, by simp, by go_num, by omega, HO8, HP2, HPr2, HC2, HB8⟩
                  case measure => simp [intOf]; omega
        · obtain rfl : k = K := by omega
          as_aux_lemma =>
            have HTq : Hid (Q.take (i + 1) = P.take i ++ [(a, b)] ∧ i + 1 ≤ Q.length ∧ ∀ p ∈ P, p ∈ Q) := Lib.hid (by
              obtain ⟨S, hS⟩ := HPre.out
              refine ⟨?_, ?_, fun p hp => by rw [hS]; simp [hp]⟩
              · rw [← HTk.out, hS, List.take_append_of_le_length (by omega)]
              · rw [hS, List.length_append]; omega)
            have HC2 : Hid (∀ p ∈ Q.take (i + 1), ∀ k' < k, (nxN tb1 p.1 k', nxN tb2 p.2 k') ∈ Q) := Lib.hid (fun p hp k' hk' => by
              rw [HTq.out.1] at hp
              rcases List.mem_append.1 hp with hp | hp
              · exact HTq.out.2.2 _ (HCl.out p hp k' hk')
              · rw [List.mem_singleton] at hp; subst hp; exact HCk.out k' hk')
            have HS2 : Hid (sn = (Q.take (i + 1)).all fun p => brkN tb1 p.1 == brkN tb2 p.2) := Lib.hid (by rw [HSn3.out, HTq.out.1, HTk.out])
            have hil := HTq.out.2.1
            clear HTq HCk HPre
            go_wp2_with fail
            go_roundw
            case rel => exact ⟨i + 1, Q, _, _, sn, rfl, rfl, by go_num, hil, HO, HPQ, HC2, HS2, HB⟩
            case measure => simp [intOf]; omega
    · obtain rfl : i = P.length := by omega
      as_aux_lemma =>
        have HEq : Hid (sm = eqT tb1 tb2) := Lib.hid (by
          have h1 := HSm.out
          have h2 := HCl.out
          rw [List.take_length] at h1 h2
          rw [h1]
          exact HOne.out P HP.out h2)
        clear HSm HCl HO HP
        have HBz := Lib.hid HBw.out
        go_wp2_with fail
        refine (HSa.out _ HBw.out).mono ?_
        rintro e w5 ⟨rfl, g⟩
        rw [← HEq.out]
        have hsm : (sm == sm) = true := by simp
        have p0 := kept_cell g p0
        have p1 := kept_cell g p1
        have p2 := kept_cell g p2
        have p3 := kept_cell g p3
        have r0 := kept_cell g r0
        have r1 := kept_cell g r1
        have r2 := kept_cell g r2
        have r3 := kept_cell g r3
        have bz := below_call HBw.out HBw.out.size g
        clear g
        go_wp2_with fail
        refine (HVT.out _ bz).mono ?_
        rintro e w6 ⟨rfl, g⟩
        have r0 := kept_cell g r0
        have r1 := kept_cell g r1
        have r2 := kept_cell g r2
        have r3 := kept_cell g r3
        have bz := below_call bz bz.size g
        clear g
        go_wp2_with fail
        refine (HVU.out _ bz).mono ?_
        rintro e w7 ⟨rfl, g⟩
        have bz := below_call bz bz.size g
        clear g
        go_wp2_with fail
        refine (wakesV_any _ (HM0.out.on bz)).mono ?_
        rintro e w9 ⟨rfl, g9⟩
        have bz := below_call bz bz.size g9
        go_wp2_with fail
        go_ret
        exact ⟨rfl, bz⟩
end Go.Proofs.YtbiipefppangmaaDoor.validOne
