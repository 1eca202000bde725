/- What begun, classOf, step and breaks of package walk return. -/
import Derived.Test.YtbnconieedgcmaaDoorOfD
import Derived.BigRegion
namespace Go.Proofs.YtbnconieedgcmaaDoor
open Go.RowKit Go.BigFrame Go.Maps
set_option linter.unusedVariables false
set_option maxRecDepth 4000
set_option linter.unusedSimpArgs false

theorem lawR : Keyed Tryd.prog 21 := int_keyed Tryd.underlying21
theorem undM : Tryd.prog.underlying 114 = some (.map 21 3) := by kernel_rfl
theorem und3i : Tryd.prog.underlying 3 = some (.int .i64) := by kernel_rfl
theorem zeroI3 (w : World) : (zeroValue 3).run Tryd.prog w = .ok (.int .i64 0) w := by kernel_rfl
/-- What a rune reads as. -/
def kr (r : Int) : Lit := .int .i32 r
def R32 (r : Int) : Prop := -2147483648 ≤ r ∧ r ≤ 2147483647
theorem kr_wf {r : Int} (h : R32 r) : (Lit.int .i32 r).wf = true := by
  obtain ⟨h1, h2⟩ := h
  simp [Lit.wf, IntKind.min, IntKind.max, IntKind.bits, IntKind.signed]
  omega
theorem kr_key {r : Int} (h : R32 r) : keyOf Tryd.prog 21 (.int .i32 r) = some (kr r) := keyOf_int_mk Tryd.underlying21 (kr_wf h)
theorem wf64 {c : Int} (h : -1000000 ≤ c ∧ c ≤ 1000000) : (Lit.int .i64 c).wf = true := WalkArith.wf_i64 (by omega)
/-- A map that holds classes of scalars. -/
structure MC (bd : List Rg) (D : DataW Unit) : Prop where
  tidy : Tidy D
  ok : ∀ r : Int, R32 r → Maps.has D (kr r) = true → ofB bd r = true ∧ ∀ z, D.atKey (kr r) z = .lit (.int .i64 (ofN bd r))
theorem MC.start (bd : List Rg) : MC bd (.map []) := ⟨tidy_empty, fun r _ h => by simp [Maps.has] at h⟩
theorem MC.put {bd : List Rg} {D : DataW Unit} (h : MC bd D) {r : Int} (hr : R32 r) (hb : ofB bd r = true) : MC bd (D.put (kr r) (.lit (.int .i64 (ofN bd r)))) := by
  have hk : WideAt.IsKeyLit (kr r) := lawR.key (kr_key hr)
  refine ⟨h.tidy.put hk _, fun x hx hh => ?_⟩
  by_cases e : x = r
  · subst e
    exact ⟨hb, fun z => atKey_put_same h.tidy.isMap hk _ z⟩
  · have hne : kr x ≠ kr r := fun e' => e (by unfold kr at e'; injection e')
    rw [has_put_other hne] at hh
    obtain ⟨h1, h2⟩ := h.ok x hx hh
    exact ⟨h1, fun z => by rw [atKey_put_other hne]; exact h2 z⟩
/-- A walker in block g whose map is block m; k bounds the map. -/
structure Wkr (base : Nat) (w : World) (T : TV) (g m k s : Nat) : Prop where
  gb : base ≤ g
  glt : g < w.heap.size
  c0 : w.cell? ⟨g, 0, none⟩ = some (.int .i64 T.cl)
  c1 : w.cell? ⟨g, 1, none⟩ = some (.slice T.a1 T.n1 T.c1)
  c2 : w.cell? ⟨g, 2, none⟩ = some (.slice T.a2 T.n2 T.c2)
  c3 : w.cell? ⟨g, 3, none⟩ = some (.slice T.a3 T.n3 T.c3)
  c4 : w.cell? ⟨g, 4, none⟩ = some (.map (some m))
  c5 : w.cell? ⟨g, 5, none⟩ = some (.int .i64 (s : Int))
  fz : w.frozen? ⟨g, 5, none⟩ = false
  mb : base ≤ m
  gm : g ≠ m
  D : ∃ D : DataW Unit, w.ownsMap Tryd.prog 21 (plainElem Tryd.prog 3) m k D ∧ MC T.bd D
theorem Wkr.on {base : Nat} {w w' : World} {T : TV} {g m k s : Nat} (h : Wkr base w T g m k s) (b : Below w.heap.size w w') : Wkr base w' T g m k s := by
  obtain ⟨D, hD, hM⟩ := h.D
  refine ⟨h.gb, Nat.lt_of_lt_of_le h.glt b.size, kept_cell b h.c0, kept_cell b h.c1, kept_cell b h.c2, kept_cell b h.c3, kept_cell b h.c4, kept_cell b h.c5, (b.frozen (p := ⟨g, 5, none⟩) h.glt).trans h.fz, h.mb, h.gm, D, ?_, hM⟩
  exact hD.kept (row := none) ⟨b.os, b.tape, b.output, b.size, fun i hi _ => b.block i hi⟩ (by simp)
theorem Wkr.more {base : Nat} {w : World} {T : TV} {g m k k' s : Nat} (h : Wkr base w T g m k s) (hk : k ≤ k') : Wkr base w T g m k' s := by
  obtain ⟨D, hD, hM⟩ := h.D
  exact ⟨h.gb, h.glt, h.c0, h.c1, h.c2, h.c3, h.c4, h.c5, h.fz, h.mb, h.gm, D, hD.mono hk, hM⟩
/-- The map was written. -/
theorem Wkr.put {base : Nat} {w w' : World} {T : TV} {g m k s : Nat} (h : Wkr base w T g m k s) {D : DataW Unit} (hD : w'.ownsMap Tryd.prog 21 (plainElem Tryd.prog 3) m (k + 1) D) (hM : MC T.bd D) (b : w.grownBy w' (some m)) : Wkr base w' T g m (k + 1) s := by
  have hb : w'.heap[g]? = w.heap[g]? := b.block g h.glt (fun e => h.gm (Option.some.inj e))
  have hc : ∀ i, w'.cell? ⟨g, i, none⟩ = w.cell? ⟨g, i, none⟩ := fun i => World.cell?_of_block (a := ⟨g, i, none⟩) hb
  exact ⟨h.gb, Nat.lt_of_lt_of_le h.glt b.size, (hc 0).trans h.c0, (hc 1).trans h.c1, (hc 2).trans h.c2, (hc 3).trans h.c3, (hc 4).trans h.c4, (hc 5).trans h.c5, (by rw [World.frozen?_of_block (a := ⟨g, 5, none⟩) hb]; exact h.fz), h.mb, h.gm, D, hD, hM⟩
/-- The state was written. -/
theorem Wkr.goes {base : Nat} {w : World} {T : TV} {g m k s : Nat} (h : Wkr base w T g m k s) (s' : Nat) : Wkr base (w.setCell ⟨g, 5, none⟩ (.int .i64 (s' : Int))) T g m k s' := by
  obtain ⟨D, hD, hM⟩ := h.D
  have hc : ∀ i u, i ≠ 5 → w.cell? ⟨g, i, none⟩ = some u → (w.setCell ⟨g, 5, none⟩ (.int .i64 (s' : Int))).cell? ⟨g, i, none⟩ = some u := fun i u hi hu => by
    exact (World.cell?_setCell_other w ⟨g, 5, none⟩ ⟨g, i, none⟩ _ (fun e => hi (by injection e with _ e2; exact e2.symm))).trans hu
  refine ⟨h.gb, by simpa using h.glt, hc 0 _ (by omega) h.c0, hc 1 _ (by omega) h.c1, hc 2 _ (by omega) h.c2, hc 3 _ (by omega) h.c3, hc 4 _ (by omega) h.c4, ?_, ?_, h.mb, h.gm, D, hD.setCell (fun e => h.gm e.symm) _, hM⟩
  · exact World.cell?_setCell_same w ⟨g, 5, none⟩ _ h.c5
  · rw [World.frozen?_setCell]; exact h.fz
/-- Rows that were laid behind the walker are as they were. -/
def KR (g m : Nat) (w w' : World) : Prop := ∀ (base : Nat) (e : TypeId) (size : Nat) (v : Value) (n : Nat) (xs : List Value), g < base → m < base → w.ownsRow base e size v n xs → w'.ownsRow base e size v n xs
theorem KR.refl (g m : Nat) (w : World) : KR g m w w := fun _ _ _ _ _ _ _ _ h => h
theorem KR.trans {g m : Nat} {w w' w'' : World} (h : KR g m w w') (k : KR g m w' w'') : KR g m w w'' := fun _ _ _ _ _ _ h1 h2 h3 => k _ _ _ _ _ _ h1 h2 (h _ _ _ _ _ _ h1 h2 h3)
theorem KR.below {g m : Nat} {w w' : World} (b : Below w.heap.size w w') : KR g m w w' := fun _ _ _ _ _ _ _ _ h => own_below h b
theorem KR.grown {g m : Nat} {w w' : World} (b : w.grownBy w' (some m)) : KR g m w w' := fun base e size v n xs h1 h2 h => h.kept b (by
  cases hv : v.ownBlock with
  | none => exact .inl rfl
  | some k => exact .inr (fun e => by injection e with e; have := (h.lt k hv).1; omega))
theorem KR.set (g m : Nat) (w : World) (i : Nat) (u : Value) : KR g m w (w.setCell ⟨g, i, none⟩ u) := fun base e size v n xs h1 h2 h => ownsRow_setCell_below h h1 u
/-- Another row was written. -/
theorem Wkr.grown {base : Nat} {w w' : World} {T : TV} {g m k s : Nat} (h : Wkr base w T g m k s) {row : Option Nat} (b : w.grownBy w' row) (hr : ∀ j, row = some j → j ≠ g ∧ j ≠ m) : Wkr base w' T g m k s := by
  obtain ⟨D, hD, hM⟩ := h.D
  have hb : w'.heap[g]? = w.heap[g]? := b.block g h.glt (fun e => (hr g e.symm).1 rfl)
  have hc : ∀ i, w'.cell? ⟨g, i, none⟩ = w.cell? ⟨g, i, none⟩ := fun i => World.cell?_of_block (a := ⟨g, i, none⟩) hb
  refine ⟨h.gb, Nat.lt_of_lt_of_le h.glt b.size, (hc 0).trans h.c0, (hc 1).trans h.c1, (hc 2).trans h.c2, (hc 3).trans h.c3, (hc 4).trans h.c4, (hc 5).trans h.c5, (by rw [World.frozen?_of_block (a := ⟨g, 5, none⟩) hb]; exact h.fz), h.mb, h.gm, D, hD.kept b (fun e => (hr m e.symm).2 rfl), hM⟩
def OutC (bs : List Rg) (v : Int) (base : Nat) (T : TV) (g m k s : Nat) (w : World) (e : Ending) (w' : World) : Prop := e = .returned (.tuple #[.int .i64 (ofN bs v), .bool (ofB bs v)]) ∧ Below base w w' ∧ Wkr base w' T g m (k + 1) s ∧ KR g m w w'
set_option maxHeartbeats 4000000 in
theorem classOf_any (base : Nat) (T : TV) (g m k s : Nat) (v : Int) (w : World) (hW : Wkr base w T g m k s) (hk : k ≤ 100000) (hOf : ∀ W, Below w.heap.size w W → Calls Tryd.prog 122 #[.slice T.a1 T.n1 T.c1, .int .i64 v] W fun e w' => e = .returned (.tuple #[.int .i64 (ofN T.bd v), .bool (ofB T.bd v)]) ∧ Below W.heap.size W w') (hc : ∀ u, -1000 ≤ ofN T.bd u ∧ ofN T.bd u ≤ 1000) (hbz : base ≤ w.heap.size) :
    Calls Tryd.prog 112 #[.pointer (some ⟨g, 0, none⟩), .int .i64 v] w (OutC T.bd v base T g m k s w) := by
  have HO := Lib.hid hOf
  have HW := Lib.hid hW
  by_cases hr : R32 v
  · have hr' := hr
    obtain ⟨h0, h1⟩ := hr'
    obtain ⟨D, hD, hM⟩ := hW.D
    have HD := Lib.hid hD
    have HM := Lib.hid hM
    have HK := Lib.hid (kr_key hr)
    have HR := Lib.hid hr
    have c0 := hW.c0
    have c1 := hW.c1
    have c4 := hW.c4
    clear hW hD hM hOf hr
    go_enter Tryd.func112, Tryd.ntmps112
    go_wp2_with (at_lookup; refine wpList_lookup_own_ok_int _ rfl _ _ 114 rfl 21 3 .i64 lawR undM und3i (zeroI3 _) m _ D rfl HD.out _ _ rfl HK.out ?_)
    intro c hat hwc
    clear hwc
    cases hh : Maps.has D (kr v)
    case true =>
      obtain ⟨h1, h2⟩ := HM.out.ok v HR.out hh
      rw [h2] at hat
      injection hat with hat
      injection hat with _ hat
      subst hat
      have HB := Lib.hid h1
      clear h1 h2 hh
      go_wp2_with fail
      go_ret2
      exact ⟨by rw [HB.out]; rfl, Below.refl _ _, HW.out.more (by omega), KR.refl _ _ _⟩
    clear hat hh
    go_wp2_with fail
    refine (HO.out _ (Below.refl _ _)).mono ?_
    rintro e w1 ⟨rfl, g1⟩
    have HW1 := Lib.hid (HW.out.on g1)
    have HD1 : Hid (w1.ownsMap Tryd.prog 21 (plainElem Tryd.prog 3) m k D) := Lib.hid (HD.out.kept (row := none) ⟨g1.os, g1.tape, g1.output, g1.size, fun i hi _ => g1.block i hi⟩ (by simp))
    have HB1 := Lib.hid ((Below.refl base w).trans (g1.mono hbz))
    have c4 := kept_cell g1 c4
    have HCc := Lib.hid (hc v)
    have HKr : Hid (KR g m w w1) := Lib.hid (KR.below g1)
    cases hb : ofB T.bd v
    case false =>
      have HBf := Lib.hid hb
      clear hb g1 hc
      go_wp2_with fail
      go_ret2
      exact ⟨by rw [HBf.out]; rfl, HB1.out, HW1.out.more (by omega), HKr.out⟩
    have HBt := Lib.hid hb
    have hel : plainElem (H := Unit) Tryd.prog 3 (.int .i64 (ofN T.bd v)) = some (.lit (.int .i64 (ofN T.bd v)), []) := plainElem_int und3i (wf64 (by have := HCc.out; omega))
    have HEl := Lib.hid hel
    clear hb g1 hc hel
    go_wp2_with (at_mapUpdate; refine wpList_mapUpdate_own _ rfl _ _ _ 114 rfl 21 3 lawR undM (plainElem (H := Unit) Tryd.prog 3) m _ D rfl HD1.out (by unfold maxLen; omega) _ _ _ rfl rfl HK.out _ [] HEl.out ?_; intro w3 hown3 hgrow3)
    have HW3 := Lib.hid (HW1.out.put hown3 (HM.out.put HR.out HBt.out) hgrow3)
    have HB3 := Lib.hid (HB1.out.grown hgrow3 (Nat.le_trans hbz HB1.out.size) (fun j hj => by cases hj; exact HW1.out.mb))
    go_ret2
    exact ⟨by rw [HBt.out]; rfl, HB3.out, HW3.out, HKr.out.trans (KR.grown hgrow3)⟩
  · have hw : (RowKit.wrap64 (RowKit.wrap32 v) != v) = true := by
      rw [bne_iff_ne]
      unfold RowKit.wrap64 RowKit.wrap32
      unfold R32 at hr
      omega
    have hb : ofB T.bd v = false := ofB_no (by
      cases e : scalB v with
      | false => rfl
      | true =>
        have := (scalB_iff v).1 e
        unfold R32 at hr
        omega)
    have hn := ofN_no hb
    have HB := Lib.hid (And.intro hb hn)
    clear hr hb hn hW hOf
    go_enter Tryd.func112, Tryd.ntmps112
    go_wp2_with fail
    go_ret2
    exact ⟨by rw [HB.out.1, HB.out.2]; rfl, Below.refl _ _, HW.out.more (by omega), KR.refl _ _ _⟩
/-- A table's parts where they lie: a break, a row of Next. -/
theorem tv_brk {T : TV} {V : World} (hT : T.ok V) (hC : CntV T.tb) : ∃ bb ob, T.a3 = some ⟨bb, ob, none⟩ ∧ T.n3 = T.n2 ∧ ∀ a < T.n2, V.cell? ⟨bb, ob + a, none⟩ = some (.bool (brkN T.tb a)) := by
  have r3 := hT.r3
  have h3 : T.br.length = T.n3 := r3.1
  have e3 : T.n3 = T.n2 := by have := hC.b1; unfold TV.tb at this; simp only [listsOf_len] at this; have := hT.r2.1; omega
  have n1 : 1 ≤ T.n2 := by have := hC.n1; unfold TV.tb at this; simp only [listsOf_len] at this; have := hT.r2.1; omega
  obtain ⟨bb, ob, hA, _, _⟩ := r3.at (k := 0) (by omega)
  refine ⟨bb, ob, hA, e3, fun a ha => ?_⟩
  obtain ⟨bb', ob', hA', _, hc⟩ := r3.at (k := a) (by omega)
  rw [hA] at hA'
  injection hA' with hA'
  injection hA' with e1 e2
  subst e1; subst e2
  rw [hc, brkN_at]
theorem tv_nxt {T : TV} {V : World} (hT : T.ok V) (hC : CntV T.tb) (hN : nextB T.tb = true) : ∃ bb ob, T.a2 = some ⟨bb, ob, none⟩ ∧ ∀ a < T.n2, ∃ rb ro rc, V.cell? ⟨bb, ob + a, none⟩ = some (.slice (some ⟨rb, ro, none⟩) T.cl.toNat rc) ∧ ∀ c < T.cl.toNat, V.cell? ⟨rb, ro + c, none⟩ = some (.int .i64 (nxN T.tb a c : Nat)) := by
  have r2 := hT.r2
  have l2 := hT.r2.1
  have n1 : 1 ≤ T.n2 := by have := hC.n1; unfold TV.tb at this; simp only [listsOf_len] at this; omega
  obtain ⟨bb, ob, hA, _, _⟩ := r2.at (k := 0) (by omega)
  refine ⟨bb, ob, hA, fun a ha => ?_⟩
  have al : a < T.hs.length := by omega
  obtain ⟨bb', ob', hA', _, hc, hri, _⟩ := r2.at al
  rw [hA] at hA'
  injection hA' with hA'
  injection hA' with e1 e2
  subst e1; subst e2
  have hrl : (T.hs[a].l.length : Int) = T.tb.cl := hC.rw _ (List.mem_map.2 ⟨_, List.getElem_mem al, rfl⟩)
  have hrn := hri.1
  have hcl : T.tb.cl = T.cl := rfl
  have hnn : T.hs[a].n = T.cl.toNat := by omega
  have c1 := hC.c1
  obtain ⟨rb, ro, hra, _, _⟩ := hri.at (k := 0) (by omega)
  refine ⟨rb, ro, T.hs[a].c, ?_, fun c hcc => ?_⟩
  · rw [hc, hra, hnn]
  · have cl' : c < T.hs[a].l.length := by omega
    obtain ⟨rb', ro', hra', _, hcell⟩ := hri.at cl'
    rw [hra] at hra'
    injection hra' with hra'
    injection hra' with e1 e2
    subst e1; subst e2
    rw [hcell]
    have e := nxI_at (T := T) al c
    rw [getD_ix cl'] at e
    have hb := nextB_all hN (List.mem_map.2 ⟨_, List.getElem_mem al, rfl⟩) (List.getElem_mem cl')
    have : T.hs[a].l[c] = ((nxN T.tb a c : Nat) : Int) := by unfold nxN; rw [e]; omega
    rw [this]
set_option maxHeartbeats 4000000 in
theorem breaks_any (base : Nat) (T : TV) (g m k s : Nat) (w : World) (hW : Wkr base w T g m k s) (hT : T.ok w) (hV : Vd T.tb) (hs : s < T.n2) :
    Calls Tryd.prog 91 #[.pointer (some ⟨g, 0, none⟩)] w fun e w' => e = .returned (.bool (brkN T.tb s)) ∧ ∃ q, w' = w.drewN q := by
  obtain ⟨bb, ob, hA, e3, hB⟩ := tv_brk hT ((cntV_iff _).1 hV.cnt)
  have hb := hB s hs
  have c3 := hW.c3
  have c5 := hW.c5
  rw [hA] at c3
  have hn : s < T.n3 := by omega
  generalize brkN T.tb s = q at *
  clear hW hT hV hB hA
  go_enter Tryd.func91, Tryd.ntmps91
  go_wp2_with fail
  go_quiet (fail)
  go_wp2_with fail
  go_ret
  exact ⟨rfl, _, rfl⟩
def OutS (b : Bool) (base : Nat) (T : TV) (g m k s s' : Nat) (w : World) (e : Ending) (w' : World) : Prop := e = .returned (.bool b) ∧ Below base w w' ∧ (∃ s2, Wkr base w' T g m k s2 ∧ (b = true → s2 = s')) ∧ KR g m w w'
/-- Of by a table's bands, wherever it is asked. -/
theorem ofT_any (T : TV) (W0 : World) (hT : T.ok W0) (hV : Vd T.tb) (v : Int) (W : World) (g : Below W0.heap.size W0 W) : Calls Tryd.prog 122 #[.slice T.a1 T.n1 T.c1, .int .i64 v] W fun e w' => e = .returned (.tuple #[.int .i64 (ofN T.bd v), .bool (ofB T.bd v)]) ∧ Below W.heap.size W w' := by
  have r1 := (hT.on g).r1
  exact of_n T.bd T.n1 r1.1 T.a1 T.c1 v W r1.2 (by have h1 := ((cntV_iff _).1 hV.cnt).k2; have h2 : T.tb.bd.length = T.n1 := hT.r1.1; omega)
set_option maxHeartbeats 4000000 in
theorem step_any (T : TV) (W0 : World) (hT : T.ok W0) (hV : Vd T.tb) (g m k s : Nat) (v : Int) (w : World) (hB : Below W0.heap.size W0 w) (hW : Wkr W0.heap.size w T g m k s) (hk : k ≤ 100000) (hs : s < T.n2) :
    Calls Tryd.prog 92 #[.pointer (some ⟨g, 0, none⟩), .int .i64 v] w (OutS (ofB T.bd v) W0.heap.size T g m (k + 1) s (stpW T.tb s v) w) := by
  have hof := fun u => ofN_lt hV u
  have hcc := ((cntV_iff _).1 hV.cnt).c2
  have hco := classOf_any W0.heap.size T g m k s v w hW hk (fun W h => ofT_any T W0 hT hV v W (hB.trans (h.mono hB.size))) (fun u => by have := hof u; have e : T.tb.bd = T.bd := rfl; rw [e] at this; omega) hB.size
  obtain ⟨hc0, hc1⟩ := hof v
  obtain ⟨c, hc⟩ : ∃ c : Nat, ofN T.tb.bd v = (c : Int) := ⟨(ofN T.tb.bd v).toNat, by omega⟩
  have hst : stpW T.tb s v = nxN T.tb s c := by unfold stpW; rw [hc]; rfl
  have hcl : T.tb.cl = T.cl := rfl
  have hcK : c < T.cl.toNat := by omega
  have HN : Hid (∀ V, Below W0.heap.size W0 V → ∃ bb ob, T.a2 = some ⟨bb, ob, none⟩ ∧ ∃ rb ro rc, V.cell? ⟨bb, ob + s, none⟩ = some (.slice (some ⟨rb, ro, none⟩) T.cl.toNat rc) ∧ V.cell? ⟨rb, ro + c, none⟩ = some (.int .i64 (nxN T.tb s c : Nat))) := Lib.hid (fun V h => by
    obtain ⟨bb, ob, hA, hn⟩ := tv_nxt (hT.on h) ((cntV_iff _).1 hV.cnt) hV.nxt
    obtain ⟨rb, ro, rc, h1, h2⟩ := hn s hs
    exact ⟨bb, ob, hA, rb, ro, rc, h1, h2 c hcK⟩)
  have HC := Lib.hid hco
  have HB := Lib.hid hB
  have HW := Lib.hid hW
  have hc' : ofN T.bd v = (c : Int) := hc
  obtain ⟨q, hq⟩ : ∃ q, ofB T.bd v = q := ⟨_, rfl⟩
  rw [hst, hq]
  have HQ := Lib.hid hq
  have HCn := Lib.hid hc'
  clear hq hc'
  clear hco hB hW hof hcc hc0 hc1 hc hst hcl hT hV
  go_enter Tryd.func92, Tryd.ntmps92
  go_wp2_with fail
  refine HC.out.mono ?_
  rintro e w1 ⟨rfl, g1, hW1, hkr⟩
  have HKr := Lib.hid hkr
  clear hkr
  rw [HCn.out, HQ.out]
  have HB1 := Lib.hid (HB.out.trans g1)
  have HG := Lib.hid g1
  have HW1 := Lib.hid hW1
  clear g1 hW1 HC HB HW HQ HCn
  cases q
  case false =>
    go_wp2_with fail
    go_ret
    exact ⟨rfl, HG.out, ⟨s, HW1.out, fun h => by cases h⟩, HKr.out⟩
  have HWn := Lib.hid (HW1.out.goes (nxN T.tb s c))
  have c2 := HW1.out.c2
  have c5 := HW1.out.c5
  have fz := HW1.out.fz
  obtain ⟨bb, ob, hA, rb, ro, rc, x1, x2⟩ := HN.out w1 HB1.out
  rw [hA] at c2
  generalize nxN T.tb s c = y at *
  have HGg := Lib.hid HW1.out.gb
  generalize hK : T.cl.toNat = K at *
  clear HN hA hK HB1 HW1
  go_wp2_with fail
  go_region
  go_wp2_with fail
  go_ret
  exact ⟨rfl, Below.drew (HG.out.setCell (p := ⟨g, 5, none⟩) HGg.out _), ⟨y, HWn.out.on (Below.drew (Below.refl _ _)), fun _ => rfl⟩, HKr.out.trans ((KR.set _ _ _ _ _).trans (KR.below (Below.drew (Below.refl _ _))))⟩
theorem store6 {w0 w : World} {B g : Nat} {o0 o1 o2 o3 o4 o5 : Value} (v0 v1 v2 v3 v4 v5 : Value) (hb : Below B w0 w) (hBg : B ≤ g) (p0 : w.cell? ⟨g, 0, none⟩ = some o0) (p1 : w.cell? ⟨g, 1, none⟩ = some o1) (p2 : w.cell? ⟨g, 2, none⟩ = some o2) (p3 : w.cell? ⟨g, 3, none⟩ = some o3) (p4 : w.cell? ⟨g, 4, none⟩ = some o4) (p5 : w.cell? ⟨g, 5, none⟩ = some o5) :
    ∃ W, W = (((((w.setCell ⟨g, 0, none⟩ v0).setCell ⟨g, 1, none⟩ v1).setCell ⟨g, 2, none⟩ v2).setCell ⟨g, 3, none⟩ v3).setCell ⟨g, 4, none⟩ v4).setCell ⟨g, 5, none⟩ v5 ∧ Below B w0 W ∧ W.heap.size = w.heap.size ∧ W.cell? ⟨g, 0, none⟩ = some v0 ∧ W.cell? ⟨g, 1, none⟩ = some v1 ∧ W.cell? ⟨g, 2, none⟩ = some v2 ∧ W.cell? ⟨g, 3, none⟩ = some v3 ∧ W.cell? ⟨g, 4, none⟩ = some v4 ∧ W.cell? ⟨g, 5, none⟩ = some v5 ∧
      (∀ a, W.frozen? a = w.frozen? a) ∧ ∀ b, b ≠ g → W.heap[b]? = w.heap[b]? := by
  refine ⟨_, rfl, (((((hb.setCell (p := ⟨g, 0, none⟩) hBg _).setCell (p := ⟨g, 1, none⟩) hBg _).setCell (p := ⟨g, 2, none⟩) hBg _).setCell (p := ⟨g, 3, none⟩) hBg _).setCell (p := ⟨g, 4, none⟩) hBg _).setCell (p := ⟨g, 5, none⟩) hBg _, by simp, ?_, ?_, ?_, ?_, ?_, ?_, fun a => by simp only [World.frozen?_setCell], fun b hne => ?_⟩
  · simp [go_sem, p0, p1, p2, p3, p4, p5]
  · simp [go_sem, p0, p1, p2, p3, p4, p5]
  · simp [go_sem, p0, p1, p2, p3, p4, p5]
  · simp [go_sem, p0, p1, p2, p3, p4, p5]
  · simp [go_sem, p0, p1, p2, p3, p4, p5]
  · simp [go_sem, p0, p1, p2, p3, p4, p5]
  · rw [RowKit.Below.heap_setCell _ _ _ _ hne, RowKit.Below.heap_setCell _ _ _ _ hne, RowKit.Below.heap_setCell _ _ _ _ hne, RowKit.Below.heap_setCell _ _ _ _ hne, RowKit.Below.heap_setCell _ _ _ _ hne, RowKit.Below.heap_setCell _ _ _ _ hne]
/-- A walker's cells in a new block, nothing yet. -/
structure Res6 (g : Nat) (w : World) : Prop where
  lt : g < w.heap.size
  c0 : w.cell? ⟨g, 0, none⟩ = some (.int .i64 0)
  c1 : w.cell? ⟨g, 1, none⟩ = some (.slice none 0 0)
  c2 : w.cell? ⟨g, 2, none⟩ = some (.slice none 0 0)
  c3 : w.cell? ⟨g, 3, none⟩ = some (.slice none 0 0)
  c4 : w.cell? ⟨g, 4, none⟩ = some (.map none)
  c5 : w.cell? ⟨g, 5, none⟩ = some (.int .i64 0)
  f0 : w.frozen? ⟨g, 0, none⟩ = false
  f1 : w.frozen? ⟨g, 1, none⟩ = false
  f2 : w.frozen? ⟨g, 2, none⟩ = false
  f3 : w.frozen? ⟨g, 3, none⟩ = false
  f4 : w.frozen? ⟨g, 4, none⟩ = false
  f5 : w.frozen? ⟨g, 5, none⟩ = false
theorem Res6.on {g : Nat} {w w' : World} (h : Res6 g w) (b : Below w.heap.size w w') : Res6 g w' :=
  ⟨Nat.lt_of_lt_of_le h.lt b.size, kept_cell b h.c0, kept_cell b h.c1, kept_cell b h.c2, kept_cell b h.c3, kept_cell b h.c4, kept_cell b h.c5, (b.frozen h.lt).trans h.f0, (b.frozen h.lt).trans h.f1, (b.frozen h.lt).trans h.f2, (b.frozen h.lt).trans h.f3, (b.frozen h.lt).trans h.f4, (b.frozen h.lt).trans h.f5⟩
theorem res6_new (w : World) : Res6 w.heap.size (w.alloc (.cells #[.int .i64 0, .slice none 0 0, .slice none 0 0, .slice none 0 0, .map none, .int .i64 0] 116)) := ⟨by simp, by simp, by simp, by simp, by simp, by simp, by simp, by simp, by simp, by simp, by simp, by simp, by simp⟩
def OutBg (T : TV) (w : World) (e : Ending) (w' : World) : Prop := ∃ m, e = .returned (.tuple #[.agg #[.int .i64 T.cl, .slice T.a1 T.n1 T.c1, .slice T.a2 T.n2 T.c2, .slice T.a3 T.n3 T.c3, .map (some m), .int .i64 0], .bool true]) ∧ w.heap.size ≤ m ∧ m < w'.heap.size ∧ w'.ownsMap Tryd.prog 21 (plainElem (H := Unit) Tryd.prog 3) m 0 (.map []) ∧ Below w.heap.size w w'
theorem infoW : (Tryd.prog.info? 116).map (fun i => (i.zero, i.size, i.bytes)) = some (some (.agg #[.int .i64 0, .slice none 0 0, .slice none 0 0, .slice none 0 0, .map none, .int .i64 0]), 6, 96) := by kernel_rfl
set_option maxHeartbeats 4000000 in
theorem begun_no (T : TV) (w : World) (hT : T.ok w) (hV : errV T.tb ≠ 0) :
    Calls Tryd.prog 90 #[T.v] w fun e w' => e = .returned (.tuple #[.agg #[.int .i64 0, .slice none 0 0, .slice none 0 0, .slice none 0 0, .map none, .int .i64 0], .bool false]) ∧ Below w.heap.size w w' := by
  obtain ⟨j0, hj0, hy0, hy1, hy2⟩ := info_parts infoW
  have HT := Lib.hid (fun W (g : Below w.heap.size w W) => validTable_any T W (hT.on g))
  have hn : (errV T.tb != 0) = true := by rw [bne_iff_ne]; exact hV
  have b0 : Below w.heap.size w ((w.alloc (.cells #[.int .i64 T.cl, .slice T.a1 T.n1 T.c1, .slice T.a2 T.n2 T.c2, .slice T.a3 T.n3 T.c3] 26)).alloc (.cells #[.int .i64 0, .slice none 0 0, .slice none 0 0, .slice none 0 0, .map none, .int .i64 0] 116)) := below_call (below_new _ _) (below_new _ _).size (below_new _ _)
  have hr := res6_new (w.alloc (.cells #[.int .i64 T.cl, .slice T.a1 T.n1 T.c1, .slice T.a2 T.n2 T.c2, .slice T.a3 T.n3 T.c3] 26))
  rw [show (w.alloc (.cells #[.int .i64 T.cl, .slice T.a1 T.n1 T.c1, .slice T.a2 T.n2 T.c2, .slice T.a3 T.n3 T.c3] 26)).heap.size = w.heap.size + 1 by simp] at hr
  generalize errV T.tb = ev at *
  clear hT hV
  obtain ⟨cl, a1, n1, c1, bd, a2, n2, c2, hs, a3, n3, c3, br⟩ := T
  simp only [TV.v] at *
  go_enter Tryd.func90, Tryd.ntmps90
  go_wp2_with fail
  generalize (w.alloc (.cells #[.int .i64 cl, .slice a1 n1 c1, .slice a2 n2 c2, .slice a3 n3 c3] 26)).alloc (.cells #[.int .i64 0, .slice none 0 0, .slice none 0 0, .slice none 0 0, .map none, .int .i64 0] 116) = V at *
  refine (HT.out V b0).mono ?_
  rintro e w1 ⟨rfl, g⟩
  have b1 := below_call b0 b0.size g
  obtain ⟨_, p0, p1, p2, p3, p4, p5, f0, f1, f2, f3, f4, f5⟩ := hr.on g
  clear g HT hr b0
  go_wp2_with fail
  obtain ⟨W9, hW9, b9, _, c0', c1', c2', c3', c4', c5', _⟩ := store6 (.int .i64 0) (.slice none 0 0) (.slice none 0 0) (.slice none 0 0) (.map none) (.int .i64 0) b1 (show w.heap.size ≤ w.heap.size + 1 by omega) p0 p1 p2 p3 p4 p5
  rw [← hW9]
  refine bodyPost_ret (v := .tuple #[.agg #[.int .i64 0, .slice none 0 0, .slice none 0 0, .slice none 0 0, .map none, .int .i64 0], .bool false]) (by simp [results, Tryd.results90, go_sem, c0', c1', c2', c3', c4', c5']) rfl ⟨rfl, b9⟩
set_option maxHeartbeats 4000000 in
theorem begun_yes (T : TV) (w : World) (hT : T.ok w) (hV : errV T.tb = 0) : Calls Tryd.prog 90 #[T.v] w (OutBg T w) := by
  obtain ⟨j0, hj0, hy0, hy1, hy2⟩ := info_parts infoW
  have HT := Lib.hid (fun W (g : Below w.heap.size w W) => validTable_any T W (hT.on g))
  rw [hV] at HT
  have b0 : Below w.heap.size w ((w.alloc (.cells #[.int .i64 T.cl, .slice T.a1 T.n1 T.c1, .slice T.a2 T.n2 T.c2, .slice T.a3 T.n3 T.c3] 26)).alloc (.cells #[.int .i64 0, .slice none 0 0, .slice none 0 0, .slice none 0 0, .map none, .int .i64 0] 116)) := below_call (below_new _ _) (below_new _ _).size (below_new _ _)
  have hr := res6_new (w.alloc (.cells #[.int .i64 T.cl, .slice T.a1 T.n1 T.c1, .slice T.a2 T.n2 T.c2, .slice T.a3 T.n3 T.c3] 26))
  rw [show (w.alloc (.cells #[.int .i64 T.cl, .slice T.a1 T.n1 T.c1, .slice T.a2 T.n2 T.c2, .slice T.a3 T.n3 T.c3] 26)).heap.size = w.heap.size + 1 by simp] at hr
  have hx := (box_new w T).on (below_new _ (.cells #[.int .i64 0, .slice none 0 0, .slice none 0 0, .slice none 0 0, .map none, .int .i64 0] 116))
  clear hT hV
  obtain ⟨cl, a1, n1, c1, bd, a2, n2, c2, hs, a3, n3, c3, br⟩ := T
  simp only [TV.v] at *
  go_enter Tryd.func90, Tryd.ntmps90
  go_wp2_with fail
  generalize (w.alloc (.cells #[.int .i64 cl, .slice a1 n1 c1, .slice a2 n2 c2, .slice a3 n3 c3] 26)).alloc (.cells #[.int .i64 0, .slice none 0 0, .slice none 0 0, .slice none 0 0, .map none, .int .i64 0] 116) = V at *
  refine (HT.out V b0).mono ?_
  rintro e w1 ⟨rfl, g⟩
  have b1 := below_call b0 b0.size g
  have hsz := (hr.on g).lt
  obtain ⟨_, q0, q1, q2, q3⟩ := hx.on g
  try simp only [] at q0 q1 q2 q3
  have bm : Below w1.heap.size w1 (w1.alloc (.map #[] 0)) := (Below.refl _ _).alloc (Nat.le_refl _) _
  have hmm : (Instr.makeMap 114 none).run Tryd.prog w1 = .ok (.map (some w1.heap.size)) (w1.alloc (.map #[] 0)) := run_makeMap _ _
  have hsz2 : w1.heap.size < (w1.alloc (.map #[] 0)).heap.size := by simp
  have b2 := below_call b1 b1.size bm
  have hown := World.ownsMap_made (H := Unit) w1 Tryd.prog 21 (plainElem (H := Unit) Tryd.prog 3)
  obtain ⟨_, p0, p1, p2, p3, p4, p5, f0, f1, f2, f3, f4, f5⟩ := (hr.on g).on bm
  have HW := Lib.hid b1.size
  generalize w1.alloc (.map #[] 0) = w2 at *
  clear g HT hr b0 hx
  go_wp2_with fail
  obtain ⟨W9, hW9, b9, hs9, c0', c1', c2', c3', c4', c5', _, hk9⟩ := store6 (.int .i64 cl) (.slice a1 n1 c1) (.slice a2 n2 c2) (.slice a3 n3 c3) (.map (some w1.heap.size)) (.int .i64 0) b2 (show w.heap.size ≤ w.heap.size + 1 by omega) p0 p1 p2 p3 p4 p5
  have hm : W9.ownsMap Tryd.prog 21 (plainElem (H := Unit) Tryd.prog 3) w1.heap.size 0 (.map []) := by
    obtain ⟨es, clock, hb, r⟩ := hown
    exact ⟨es, clock, (hk9 _ (by omega)).trans hb, r⟩
  rw [← hW9]
  refine bodyPost_ret (v := .tuple #[.agg #[.int .i64 cl, .slice a1 n1 c1, .slice a2 n2 c2, .slice a3 n3 c3, .map (some w1.heap.size), .int .i64 0], .bool true]) (by simp [results, Tryd.results90, go_sem, c0', c1', c2', c3', c4', c5']) rfl ⟨_, rfl, HW.out, by rw [hs9]; exact hsz2, hm, b9⟩
end Go.Proofs.YtbnconieedgcmaaDoor
