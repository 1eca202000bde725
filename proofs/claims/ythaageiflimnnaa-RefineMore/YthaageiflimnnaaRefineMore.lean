/- The law RefineMore returns true at all sets and every set: with a set more the parts are those, cut in two where it cuts them, and no others; with a set that is there already they are the same. Conditions: none; nothing that was there before the call is changed. -/
import Derived.Test.YthaageiflimnnaaGrpM
namespace Go.Proofs.Ythaageiflimnnaa.refineMore
open Go.ChangeShapes Go.WideShapes Go.ChangeAt Go.RowKit Go.BigFrame
set_option linter.unusedVariables false
set_option linter.unusedSimpArgs false
theorem walk (H : List Hd) (n : Nat) (A : Option Addr) (c : Nat) (s : List Rg) (m : Nat) (hs : s.length = m) (B : Option Addr) (d : Nat) (w : World) (hA : Shp A n c) (hB : Shp B m d) (hN : Nest w w.heap.size A n H) (hR : Reads w w.heap.size 2 B m (rcells s)) :
    Calls Try.prog 5 #[.slice A n c, .slice B m d] w fun e w' => e = .returned (.bool true) ∧ Below w.heap.size w w' := by
  cases hf : fairB H
  · exact walk_unfair H n A c s m hs B d w hN hR hf
  · by_cases hn : n ≤ 5
    · by_cases hm : m ≤ 40
      · cases hb : allB (setsOf H)
        · exact walk_bad H n A c s m hs B d w hN hR hf hn hm (.inl hb)
        · cases hg : goodB s
          · exact walk_bad H n A c s m hs B d w hN hR hf hn hm (.inr hg)
          · exact walk_good H n A c s m hs B d w hA hB hN hR hf hn hm ((allB_iff _).1 hb) ((goodB_iff s).1 hg)
      · exact walk_large H n A c s m hs B d w hN hR hf hn (by omega)
    · exact walk_many H n A c s m hs B d w hN hR hf (by omega)

/-! From the walk to the row. -/
set_option maxRecDepth 100000 in
theorem contract (H : Type) (enc : TypeId × Value → H) (W : World) (base : Nat) (args : Array Value) (ds gs : List (DataW H)) (before : List MemPlace)
    (hval0 : ∀ (j : Nat) t v, Try.f5.params[j]? = some t → args[j]? = some v → Value.okWide Try.prog W .any base t v)
    (hW : DataW.Whole enc Try.prog Try.f5.params.toList Rows.refineMoreSpec.vars false W args.toList ds gs before) :
    Calls Try.prog 5 args W fun e W' => ∃ v, e = .returned v ∧ Rows.refineMoreSpec.post enc Try.prog Try.f5 false true false false W args v W' := by
  have hval : ∀ (j : Nat) t v, Try.f5.params[j]? = some t → args[j]? = some v → Value.okWide Try.prog W .any base t v := hval0
  have hW' := hW
  obtain ⟨p, q, hA0, hV, rfl, hfz, hnd⟩ := hW
  have hA : DataW.TrodAll enc Try.prog W 0 (fun _ => true) true Try.f5.params.toList args.toList ds p := hA0
  rw [Try.params5] at hA hval
  obtain ⟨v0, vs0, d0, ds0, p0, q0, hargs, rfl, rfl, h0, r0⟩ := trodAll_cons hA
  obtain ⟨v1, vs1, d1, ds1, p1, q1, rfl, rfl, rfl, h1, r1⟩ := trodAll_cons r0
  obtain ⟨rfl, rfl, rfl⟩ := trodAll_nil r1
  obtain rfl : args = #[v0, v1] := by cases args; simp_all
  obtain ⟨rfl, rfl⟩ := trodVars_none hV
  obtain ⟨a0, len0, cap0, rfl⟩ := okWide_slice Try.underlying22 (hval 0 22 v0 rfl rfl)
  have k0 := h0
  have lt0 : ∀ x ∈ p0, x.block < W.heap.size := by obtain ⟨m, hm⟩ := k0; exact DataW.trod_lt m _ _ _ hm
  obtain ⟨l0, hl0, hs0, hr0⟩ : ∃ l : List Hd, l.length = len0 ∧ Shp a0 len0 cap0 ∧ Nest W W.heap.size a0 len0 l := by
    obtain ⟨fuel, hf⟩ := h0
    exact open_sets Try.underlying22 (by simpa [Value.cells] using hf)
  obtain ⟨a1, len1, cap1, rfl⟩ := okWide_slice Try.underlying48 (hval 1 48 v1 rfl rfl)
  have k1 := h1
  have lt1 : ∀ x ∈ p1, x.block < W.heap.size := by obtain ⟨m, hm⟩ := k1; exact DataW.trod_lt m _ _ _ hm
  obtain ⟨l1, hl1, hs1, hr1⟩ : ∃ l, l.length = len1 ∧ Shp a1 len1 cap1 ∧ Reads W W.heap.size 2 a1 len1 (rcells l) := by
    obtain ⟨fuel, hf⟩ := h1
    exact open_set Try.underlying48 (by simpa [Value.cells] using hf)
  clear hA0 hval0
  refine (walk l0 len0 a0 cap0 l1 len1 hl1 a1 cap1 W hs0 hs1 hr0 hr1).mono fun e W' ⟨he, bel⟩ => ?_
  subst he
  exact ⟨_, rfl, _, _, _, [], _, [], hW', trodAll_mk1 (shut_bool Try.underlying4 _), (trodAll_cons_mk (Below.trod laidOut (by kernel_rfl) (of_decide_eq_true (by kernel_rfl)) k0 bel lt0) (trodAll_cons_mk (Below.trod laidOut (by kernel_rfl) (of_decide_eq_true (by kernel_rfl)) k1 bel lt1) trodAll_mk0)), rfl, bel.frame _, fun h => by cases h⟩

set_option maxRecDepth 100000 in
theorem lifted (os : Os) (started : os.Started) (H : Type) (enc : TypeId × Value → H) :
    ReturnsInHanded {} Try.checked os 5 .any (Rows.refineMoreSpec.pre6 enc Try.prog Try.f5 Rows.refineMoreRow.domain false) (Rows.refineMoreSpec.post enc Try.prog Try.f5 false true false false) := by
  refine returnsInHanded_of_change (C := Try.checked) own started (by kernel_rfl) Try.func5
    (ChangeSpec.witness6 (enc := enc) (C := Try.checked) false ⟨#[], #[.slice none 0 0, .slice none 0 0], []⟩ 8 (by kernel_rfl) (by kernel_rfl) (by kernel_rfl) (by kernel_rfl)) ?_
  intro W base args ds gs before hval hW _ _
  exact contract H enc W base args ds gs before hval hW

set_option maxRecDepth 100000 in
theorem over : Rows.refineMoreRow.holds Try.pinned (OpenSpec.ofChange Rows.refineMoreSpec) :=
  OpenClaim.holds_of_wide 5 Try.f5 rfl rfl rfl rfl rfl rfl rfl ⟨rfl, rfl, rfl, rfl, rfl⟩ rfl rfl rfl rfl rfl (by kernel_rfl) Try.func5 (by kernel_rfl)
    (of_decide_eq_true (by kernel_rfl)) (by unfold Func.isWrapper; first | (rw [if_pos (by decide +kernel)]; kernel_rfl) | (rw [if_neg (by decide +kernel)]; exact ⟨rfl, rfl⟩))
    (fun os started H enc _ => lifted os started H enc)
end Go.Proofs.Ythaageiflimnnaa.refineMore

namespace Go.Proofs.Ythaageiflimnnaa
/-- The given statement, under a short name. -/
theorem refineMore_holds : Rows.RefineMoreSaid := refineMore.over
#print axioms refineMore_holds
end Go.Proofs.Ythaageiflimnnaa
