/- WalkSteps: of every table that may be and every row of at most sixty numbers: scalars one by one lead from state to state as Next says, by their classes.
   Conditions: none but the row's own. -/
import Derived.Test.YtaejfebpalmfmaaWWake
import Derived.Test.YtaejfebpalmfmaaWFrame
import Derived.Test.YtaejfebpalmfmaaRows
import Derived.Deep.RegionHeld3
import Derived.BigQuiet
namespace Go.Proofs.Ytaejfebpalmfmaa.walkSteps
open Go.ChangeShapes Go.WideShapes Go.ChangeAt Go.RowKit Go.Deep Go.BigFrame
set_option linter.unusedVariables false
set_option maxRecDepth 4000
set_option linter.unusedSimpArgs false

theorem ri_take {w : World} {B n : Nat} {A : Option Addr} {l : List Int} (h : RI w B A n l) {k : Nat} (hk : k ≤ n) : RI w B A k (l.take k) := by
  obtain ⟨h1, h2, h3⟩ := h
  refine ⟨by rw [List.length_take]; omega, ?_, fun hn => ?_⟩
  · rw [icells_len, List.length_take]; omega
  · obtain ⟨b, o, hA, hb, hc⟩ := h3 (by omega)
    refine ⟨b, o, hA, hb, fun j u hj => hc j u ?_⟩
    unfold icells at hj ⊢
    rw [List.map_take] at hj
    rw [List.getElem?_take] at hj
    split at hj
    · exact hj
    · cases hj
theorem sOn5 {k0 b5 i5 : Nat} {u0 u1 u2 u3 u5 : Value} {w V V' : World} (g : Below V.heap.size V V') (h : V.cell? ⟨k0, 0, none⟩ = some u0 ∧ V.cell? ⟨k0, 1, none⟩ = some u1 ∧ V.cell? ⟨k0, 2, none⟩ = some u2 ∧ V.cell? ⟨k0, 3, none⟩ = some u3 ∧ V.cell? ⟨b5, i5, none⟩ = some u5 ∧ Below w.heap.size w V) :
    V'.cell? ⟨k0, 0, none⟩ = some u0 ∧ V'.cell? ⟨k0, 1, none⟩ = some u1 ∧ V'.cell? ⟨k0, 2, none⟩ = some u2 ∧ V'.cell? ⟨k0, 3, none⟩ = some u3 ∧ V'.cell? ⟨b5, i5, none⟩ = some u5 ∧ Below w.heap.size w V' :=
  ⟨kept_cell g h.1, kept_cell g h.2.1, kept_cell g h.2.2.1, kept_cell g h.2.2.2.1, kept_cell g h.2.2.2.2.1, h.2.2.2.2.2.trans (g.mono h.2.2.2.2.2.size)⟩
set_option maxHeartbeats 8000000 in
theorem walk (T : TV) (l : List Int) (n : Nat) (A : Option Addr) (c : Nat) (W : World) (hT : T.ok W) (hR : RI W W.heap.size A n l) (hS : Shp A n c) :
    Calls Try.prog 5 #[T.v, .slice A n c] W fun e W' => e = .returned (.bool true) ∧ Below W.heap.size W W' := by
  have HRT := Lib.hid (fun V (g : Below W.heap.size W V) => refTable_any T V (hT.on g))
  have HCl := Lib.hid (fun v V (g : Below W.heap.size W V) => class_any T v V (hT.on g))
  have HR := Lib.hid (fun V (g : Below W.heap.size W V) => hR.on g)
  have HSt : Hid (∀ k, k ≤ n → k ≤ 1000 → ∀ V, Below W.heap.size W V → Calls Try.prog 10 #[T.v, .slice A k c] V fun e w' => e = .returned (.tuple #[.int .i64 (stN T.tb (l.take k)), .bool (stO T.tb (l.take k))]) ∧ Below V.heap.size V w') := Lib.hid (fun k h1 h2 V g => state_any T (l.take k) k A c V (hT.on g) (ri_take (hR.on g) h1) (by omega))
  have HBr : Hid (n ≤ 1000 → ∀ V, Below W.heap.size W V → Calls Try.prog 11 #[T.v, .slice A n c] V (OutPl (brW T.tb l) V)) := Lib.hid (fun h V g => wbreaks_any T l n A c V (hT.on g) (hR.on g) (by omega))
  have HNx : Hid (errV T.tb = 0 → ∀ (s c : Nat) V, s < T.n2 → c < T.cl.toNat → Below W.heap.size W V → ∃ bb ob, T.a2 = some ⟨bb, ob, none⟩ ∧ ∃ rb ro rc, V.cell? ⟨bb, ob + s, none⟩ = some (.slice (some ⟨rb, ro, none⟩) T.cl.toNat rc) ∧ V.cell? ⟨rb, ro + c, none⟩ = some (.int .i64 (nxN T.tb s c : Nat))) := Lib.hid (fun he s c V hs hc h => by
    have hVd := errV_ok.1 he
    obtain ⟨bb, ob, hA, hn⟩ := tv_nxt (hT.on h) ((cntV_iff _).1 hVd.cnt) hVd.nxt
    obtain ⟨rb, ro, rc, h1, h2⟩ := hn s hs
    exact ⟨bb, ob, hA, rb, ro, rc, h1, h2 c hc⟩)
  have HSl : Hid (errV T.tb = 0 → ∀ l', stW T.tb l' < T.n2) := Lib.hid (fun h l' => by have := stW_lt (errV_ok.1 h) l'; unfold TV.tb at this ⊢; simp only [listsOf_len] at this; have h2 := hT.r2.1; omega)
  have HOn : Hid (errV T.tb = 0 → ∀ v, 0 ≤ ofN T.tb.bd v ∧ ofN T.tb.bd v < T.cl) := Lib.hid (fun h v => ofN_lt (errV_ok.1 h) v)
  have HLn := Lib.hid hR.1
  have hsn : n ≤ c := hS.2.1
  have hsc : c ≤ 9223372036854775807 := by have := hS.2.2; unfold maxLen at this; omega
  have HX := Lib.hid (box_new W T)
  have bb0 := below_new W (.cells #[.int .i64 T.cl, .slice T.a1 T.n1 T.c1, .slice T.a2 T.n2 T.c2, .slice T.a3 T.n3 T.c3] 26)
  clear hT hR hS
  generalize T.tb = tt at *
  obtain ⟨cl, a1, n1, c1, bd, a2, n2, c2, hs, a3, n3, c3, br⟩ := T
  simp only [TV.v] at *
  obtain ⟨_, p0, p1, p2, p3⟩ := HX.out
  try simp only [] at p0 p1 p2 p3
  go_enter Try.func5, Try.ntmps5
  go_wp2_with fail
  generalize W.alloc (.cells #[.int .i64 cl, .slice a1 n1 c1, .slice a2 n2 c2, .slice a3 n3 c3] 26) = V0 at *
  refine (HRT.out _ bb0).mono ?_
  rintro e w1 ⟨rfl, g⟩
  replace bb0 := bb0.trans (g.mono bb0.size)
  replace HX := Lib.hid (HX.out.on g)
  clear g HRT p0 p1 p2 p3
  by_cases he : errV tt = 0
  case neg =>
    have hn : (errV tt != 0) = true := by rw [bne_iff_ne]; exact he
    generalize errV tt = ev at *
    go_wp2_with fail
    refine (wakes8_any _).mono ?_
    rintro e w9 ⟨rfl, g9⟩
    have bf := bb0.trans (g9.mono bb0.size)
    clear g9
    go_wp2_with fail
    go_ret
    exact ⟨rfl, bf⟩
  have HErr := Lib.hid he
  replace HNx := Lib.hid (HNx.out he)
  replace HSl := Lib.hid (HSl.out he)
  replace HOn := Lib.hid (HOn.out he)
  have HCB : Hid (∀ v, clB tt v = ofB tt.bd v) := Lib.hid (fun v => by unfold clB; rw [decide_eq_true he]; rfl)
  have HCN : Hid (∀ v, ofB tt.bd v = true → clN tt v = ofN tt.bd v) := Lib.hid (fun v h => by unfold clN clB; rw [decide_eq_true he, h]; rfl)
  have HSO : Hid (∀ l', stO tt l' = okW tt l') := Lib.hid (fun l' => by unfold stO; rw [decide_eq_true he]; rfl)
  have HSN : Hid (∀ l', okW tt l' = true → stN tt l' = (stW tt l' : Int)) := Lib.hid (fun l' h => by unfold stN stO; rw [decide_eq_true he, h]; rfl)
  rw [he]
  clear he
  by_cases hn60 : 60 < n
  · have hn60I : (60 : Int) < (n : Int) := by omega
    go_wp2_with fail
    refine (wakes8_any _).mono ?_
    rintro e w9 ⟨rfl, g9⟩
    have bf := bb0.trans (g9.mono bb0.size)
    clear g9
    go_wp2_with fail
    go_ret
    exact ⟨rfl, bf⟩
  have hn60I : ¬ (60 : Int) < (n : Int) := by omega
  have hnm : n ≤ 60 := by omega
  replace HBr := Lib.hid (HBr.out (by omega))
  go_wp2_with fail
  go_loopw [5, 6] (fun vs vi wr => ∃ k : Nat, vi = .int .i64 k ∧ k ≤ n ∧ vs = .int .i64 (stW tt (l.take k) : Nat) ∧ Hid (okW tt (l.take k) = true) ∧ Hid (Below W.heap.size W wr) ∧ Hid (Box wr W.heap.size ⟨cl, a1, n1, c1, bd, a2, n2, c2, hs, a3, n3, c3, br⟩)) (fun _ vi _ => n - (intOf vi).toNat)
  case atStart => exact ⟨0, rfl, Nat.zero_le _, rfl, Lib.hid rfl, Lib.hid bb0, HX⟩
  case round =>
    clear HX bb0
    obtain ⟨k, rfl, hk, rfl, HK, HB, HX⟩ := hrel
    by_cases hlt : k < n
    · have kl : k < l.length := by rw [HLn.out]; exact hlt
      obtain ⟨bb, oo, hA, _, q⟩ := (HR.out _ HB.out).at kl
      have HTk : Hid (l.take (k + 1) = l.take k ++ [l[k]]) := Lib.hid (take_one kl)
      have HOk : Hid (okW tt (l.take (k + 1)) = ofB tt.bd l[k]) := Lib.hid (by rw [HTk.out, okW_snoc, HK.out, Bool.true_and])
      have HGo : Hid (stW tt (l.take (k + 1)) = stpW tt (stW tt (l.take k)) l[k]) := Lib.hid (by rw [HTk.out, stW_snoc])
      have HSx := Lib.hid (HSt.out (k + 1) (by omega) (by omega))
      rw [HSO.out, HOk.out] at HSx
      have HSN1 := Lib.hid (HSN.out (l.take (k + 1)))
      rw [HOk.out] at HSN1
      have HCx := Lib.hid (HCl.out l[k])
      rw [HCB.out] at HCx
      have HCN1 := Lib.hid (HCN.out l[k])
      have HOx := Lib.hid (HOn.out l[k])
      have HNo : Hid (ofB tt.bd l[k] = false → brW tt l = none) := Lib.hid (fun h => brW_none (okW_take_no (k := k + 1) (by rw [HOk.out]; exact h)))
      have HYes : Hid (ofB tt.bd l[k] = true → okW tt (l.take (k + 1)) = true) := Lib.hid (fun h => by rw [HOk.out]; exact h)
      have HStp : Hid (∀ cc : Nat, ofN tt.bd l[k] = (cc : Int) → stpW tt (stW tt (l.take k)) l[k] = nxN tt (stW tt (l.take k)) cc) := Lib.hid (fun cc h => by unfold stpW; rw [h]; rfl)
      have hss := HSl.out (l.take k)
      generalize stN tt (l.take (k + 1)) = sn at *
      generalize clN tt l[k] = cn at *
      generalize ofN tt.bd l[k] = on at *
      generalize ofB tt.bd l[k] = qb at *
      generalize stpW tt (stW tt (l.take k)) l[k] = s2 at *
      generalize hxx : l[k] = x at *
      clear hxx kl HTk HOk
      generalize stW tt (l.take k) = s at *
      subst hA
      obtain ⟨_, p0, p1, p2, p3⟩ := HX.out
      try simp only [] at p0 p1 p2 p3
      have e1 : IntKind.i64.wrap ((k : Int) + 1) = (k : Int) + 1 := by rw [IntKind.wrap_i64]; omega
      have e2 : (0 : Int) ≤ (k : Int) + 1 := by omega
      have e3 : (k : Int) + 1 ≤ (c : Int) := by omega
      have e4 : ((k : Int) + 1).toNat = k + 1 := by omega
      have e5 : k + 1 ≤ c := by omega
      have e6 : ¬ c = 0 := by omega
      have e7 : (k : Int) < (n : Int) := by omega
      have hS0 : wr.cell? ⟨W.heap.size, 0, none⟩ = some (.int .i64 cl) ∧ wr.cell? ⟨W.heap.size, 1, none⟩ = some (.slice a1 n1 c1) ∧ wr.cell? ⟨W.heap.size, 2, none⟩ = some (.slice a2 n2 c2) ∧ wr.cell? ⟨W.heap.size, 3, none⟩ = some (.slice a3 n3 c3) ∧ wr.cell? ⟨bb, oo + k, none⟩ = some (.int .i64 x) ∧ Below W.heap.size W wr := ⟨p0, p1, p2, p3, q, HB.out⟩
      have hS1 := sOn5 (Below.drew (Below.refl wr.heap.size wr)) hS0
      clear p0 p1 p2 p3 q
      go_wp2_with fail
      go_region_held3 (fun V => V.cell? ⟨W.heap.size, 0, none⟩ = some (.int .i64 cl) ∧ V.cell? ⟨W.heap.size, 1, none⟩ = some (.slice a1 n1 c1) ∧ V.cell? ⟨W.heap.size, 2, none⟩ = some (.slice a2 n2 c2) ∧ V.cell? ⟨W.heap.size, 3, none⟩ = some (.slice a3 n3 c3) ∧ V.cell? ⟨bb, oo + k, none⟩ = some (.int .i64 x) ∧ Below W.heap.size W V) (with_reducible (first | assumption | exact hS0 | exact hS1)) (first | (go_at_call 9; (with_reducible refine Calls.mono (HCx.out _ ?_) ?_); (first | exact hS1.2.2.2.2.2 | exact hS0.2.2.2.2.2); rintro e v1 ⟨rfl, g1⟩; have hS2 := sOn5 g1 (by with_reducible (first | assumption | exact hS1 | exact hS0))))
      have HS2 := Lib.hid hS2
      clear hS0 hS1 hS2 g1 HCx HB HX
      rename World => v2
      go_wp2_with fail
      have hS0 := HS2.out
      have hS1 := sOn5 (Below.drew (Below.refl v2.heap.size v2)) hS0
      go_region_held3 (fun V => V.cell? ⟨W.heap.size, 0, none⟩ = some (.int .i64 cl) ∧ V.cell? ⟨W.heap.size, 1, none⟩ = some (.slice a1 n1 c1) ∧ V.cell? ⟨W.heap.size, 2, none⟩ = some (.slice a2 n2 c2) ∧ V.cell? ⟨W.heap.size, 3, none⟩ = some (.slice a3 n3 c3) ∧ V.cell? ⟨bb, oo + k, none⟩ = some (.int .i64 x) ∧ Below W.heap.size W V) (with_reducible (first | assumption | exact hS0 | exact hS1)) (first | (go_at_call 10; (with_reducible refine Calls.mono (HSx.out _ ?_) ?_); (first | exact hS1.2.2.2.2.2 | exact hS0.2.2.2.2.2); rintro e v3 ⟨rfl, g3⟩; have hS3 := sOn5 g3 (by with_reducible (first | assumption | exact hS1 | exact hS0))))
      have HB := Lib.hid hS3.2.2.2.2.2
      have HX : Hid (Box v3 W.heap.size ⟨cl, a1, n1, c1, bd, a2, n2, c2, hs, a3, n3, c3, br⟩) := Lib.hid ⟨World.block_lt_of_cell? _ _ hS3.1, hS3.1, hS3.2.1, hS3.2.2.1, hS3.2.2.2.1⟩
      clear hS0 hS1 hS3 g3 HSx HS2
      obtain ⟨_, p0, p1, p2, p3⟩ := HX.out
      try simp only [] at p0 p1 p2 p3
      cases qb
      case false => as_aux_lemma =>
        have hNn := HNo.out rfl
        rw [hNn] at HBr
        have HBx := Lib.hid (HBr.out _ HB.out)
        clear HBr hNn HNo HYes HSN1 HCN1 HStp HGo
        go_wp2_with fail
        refine HBx.out.mono ?_
        rintro e v5 ⟨A5, c5, rfl, hown, g5⟩
        simp only [Option.isSome_none, Option.getD_none, List.length_nil]
        have HB5 := Lib.hid (HB.out.trans (g5.mono HB.out.size))
        clear hown g5 p0 p1 p2 p3
        go_wp2_with fail
        refine (wakes8_any _).mono ?_
        rintro e w9 ⟨rfl, g9⟩
        have bf := HB5.out.trans (g9.mono HB5.out.size)
        clear g9
        go_wp2_with fail
        go_ret
        exact ⟨rfl, bf⟩
      case true => as_aux_lemma =>
        have hKn := HYes.out rfl
        have hsn2 := HSN1.out rfl
        have HKn := Lib.hid hKn
        obtain ⟨cc, hcc⟩ : ∃ cc : Nat, on = (cc : Int) := ⟨on.toNat, by have := HOx.out; omega⟩
        have hcn := HCN1.out rfl
        have hst := HStp.out cc hcc
        have hccl : ¬ cl ≤ (cc : Int) := by have := HOx.out; omega
        have hcK : cc < cl.toNat := by omega
        subst hcc
        subst hcn
        rw [HGo.out, hst] at hsn2
        subst hsn2
        have HG2 : Hid (stW tt (l.take (k + 1)) = nxN tt s cc) := Lib.hid (by rw [HGo.out, hst])
        obtain ⟨nb, no, hA2, rb, ro, rc, r2, r3⟩ := HNx.out s cc v3 hss hcK HB.out
        replace hA2 : a2 = some ⟨nb, no, none⟩ := hA2
        subst hA2
        generalize nxN tt s cc = y at *
        generalize cl.toNat = K at *
        have hyy : ((y : Int) != (y : Int)) = false := by simp
        clear hst hKn HNo HYes HSN1 HCN1 HStp HGo HBr
        go_wp2_with fail
        go_roundw
        case rel => exact ⟨k + 1, by go_num, by omega, by rw [HG2.out], HKn, HB, HX⟩
        case measure => simp [intOf]; omega
    · obtain rfl : k = n := by omega
      go_wp2_with fail
      refine (wakes8_any _).mono ?_
      rintro e w9 ⟨rfl, g9⟩
      have bf := HB.out.trans (g9.mono HB.out.size)
      clear g9
      go_wp2_with fail
      go_ret
      exact ⟨rfl, bf⟩

/-! From the walk to the row. -/
set_option maxRecDepth 100000 in
theorem contract (H : Type) (enc : TypeId × Value → H) (W : World) (base : Nat) (args : Array Value) (ds gs : List (DataW H)) (before : List MemPlace)
    (hval0 : ∀ (j : Nat) t v, Try.f5.params[j]? = some t → args[j]? = some v → Value.okWide Try.prog W .any base t v)
    (hW : DataW.Whole enc Try.prog Try.f5.params.toList Rows.walkStepsSpec.vars false W args.toList ds gs before) :
    Calls Try.prog 5 args W fun e W' => ∃ v, e = .returned v ∧ Rows.walkStepsSpec.post enc Try.prog Try.f5 false true false false W args v W' := by
  have hval : ∀ (j : Nat) t v, Try.f5.params[j]? = some t → args[j]? = some v → Value.okWide Try.prog W .any base t v := hval0
  have hW' := hW
  obtain ⟨p, q, hA0, hV, rfl, hfz, hnd⟩ := hW
  have hA : DataW.TrodAll enc Try.prog W 0 (fun _ => true) true Try.f5.params.toList args.toList ds p := hA0
  rw [Try.params5] at hA hval
  obtain ⟨v0, vs0, d0, ds0, p0, q0, hargs, rfl, rfl, h0, r0⟩ := trodAll_cons hA
  obtain ⟨v1, vs1, d1, ds1, p1, q1, rfl, rfl, rfl, h1, r1⟩ := trodAll_cons r0
  obtain ⟨rfl, rfl, rfl⟩ := trodAll_nil r1
  obtain rfl : args = #[v0, v1] := by cases args; simp_all
  obtain ⟨rfl, rfl⟩ := trodVars_none hV
  obtain ⟨cs0, rfl, _⟩ := okWide_struct Try.underlying26 (hval 0 26 v0 rfl rfl)
  have k0 := h0
  have lt0 : ∀ x ∈ p0, x.block < W.heap.size := by obtain ⟨m, hm⟩ := k0; exact DataW.trod_lt m _ _ _ hm
  obtain ⟨T0, e0, ok0⟩ : ∃ T : TV, cs0.toList = [.int .i64 T.cl, .slice T.a1 T.n1 T.c1, .slice T.a2 T.n2 T.c2, .slice T.a3 T.n3 T.c3] ∧ T.ok W := by
    obtain ⟨fuel, hf⟩ := h0
    exact open_table (by simpa [Value.cells] using hf)
  obtain rfl : cs0 = #[.int .i64 T0.cl, .slice T0.a1 T0.n1 T0.c1, .slice T0.a2 T0.n2 T0.c2, .slice T0.a3 T0.n3 T0.c3] := by cases cs0; simp_all
  obtain ⟨a1, len1, cap1, rfl⟩ := okWide_slice Try.underlying27 (hval 1 27 v1 rfl rfl)
  have k1 := h1
  have lt1 : ∀ x ∈ p1, x.block < W.heap.size := by obtain ⟨m, hm⟩ := k1; exact DataW.trod_lt m _ _ _ hm
  obtain ⟨l1, hs1, hr1⟩ : ∃ l, Shp a1 len1 cap1 ∧ RI W W.heap.size a1 len1 l := by
    obtain ⟨fuel, hf⟩ := h1
    exact open_row (by simpa [Value.cells] using hf)
  clear hA0 hval0
  refine (walk T0 l1 len1 a1 cap1 W ok0 hr1 hs1).mono fun e W' ⟨he, bel⟩ => ?_
  subst he
  exact ⟨_, rfl, _, _, _, [], _, [], hW', trodAll_mk1 (shut_bool Try.underlying4 _), (trodAll_cons_mk (Below.trod laidOut (by kernel_rfl) (of_decide_eq_true (by kernel_rfl)) k0 bel lt0) (trodAll_cons_mk (Below.trod laidOut (by kernel_rfl) (of_decide_eq_true (by kernel_rfl)) k1 bel lt1) trodAll_mk0)), rfl, bel.frame _, fun h => by cases h⟩

set_option maxRecDepth 100000 in
theorem lifted (os : Os) (started : os.Started) (H : Type) (enc : TypeId × Value → H) :
    ReturnsInHanded {} Try.checked os 5 .any (Rows.walkStepsSpec.pre6 enc Try.prog Try.f5 Rows.walkStepsRow.domain false) (Rows.walkStepsSpec.post enc Try.prog Try.f5 false true false false) := by
  refine returnsInHanded_of_change (C := Try.checked) own started (by kernel_rfl) Try.func5
    (ChangeSpec.witness6 (enc := enc) (C := Try.checked) false ⟨#[], #[.agg #[.int .i64 0, .slice none 0 0, .slice none 0 0, .slice none 0 0], .slice none 0 0], []⟩ 8 (by kernel_rfl) (by kernel_rfl) (by kernel_rfl) (by kernel_rfl)) ?_
  intro W base args ds gs before hval hW _ _
  exact contract H enc W base args ds gs before hval hW

set_option maxRecDepth 100000 in
theorem over : Rows.walkStepsRow.holds Try.pinned (OpenSpec.ofChange Rows.walkStepsSpec) :=
  OpenClaim.holds_of_wide 5 Try.f5 rfl rfl rfl rfl rfl rfl rfl ⟨rfl, rfl, rfl, rfl, rfl⟩ rfl rfl rfl rfl rfl (by kernel_rfl) Try.func5 (by kernel_rfl)
    (of_decide_eq_true (by kernel_rfl)) (by unfold Func.isWrapper; first | (rw [if_pos (by decide +kernel)]; kernel_rfl) | (rw [if_neg (by decide +kernel)]; exact ⟨rfl, rfl⟩))
    (fun os started H enc _ => lifted os started H enc)
end Go.Proofs.Ytaejfebpalmfmaa.walkSteps

namespace Go.Proofs.Ytaejfebpalmfmaa
/-- The given statement, under a short name. -/
theorem walkSteps_holds : Rows.WalkStepsSaid := walkSteps.over
#print axioms walkSteps_holds
end Go.Proofs.Ytaejfebpalmfmaa
