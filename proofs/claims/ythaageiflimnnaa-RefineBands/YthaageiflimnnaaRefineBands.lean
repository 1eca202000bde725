/- The law RefineBands returns true at all sets and numbers: bands begin at nothing, rise, change their part at each; what is from one to the next is of its part. Conditions: none; nothing that was there before the call is changed. -/
import Derived.Test.YthaageiflimnnaaGrpB2
namespace Go.Proofs.Ythaageiflimnnaa.refineBands
open Go.ChangeShapes Go.WideShapes Go.ChangeAt Go.RowKit Go.BigFrame
set_option linter.unusedVariables false
set_option linter.unusedSimpArgs false
theorem walk (H : List Hd) (n : Nat) (A : Option Addr) (c : Nat) (v : List Int) (m : Nat) (hv : v.length = m) (B : Option Addr) (d : Nat) (w : World) (hN : Nest w w.heap.size A n H) (hR : Reads w w.heap.size 1 B m (icells v)) :
    Calls Try.prog 6 #[.slice A n c, .slice B m d] w fun e w' => e = .returned (.bool true) ∧ Below w.heap.size w w' := by
  cases hf : fairB H
  · exact walk_unfair H n A c v m B d w hN hf
  · by_cases hm : m ≤ 20
    · obtain ⟨f1, f2, f3⟩ := fair_facts hf
      have hn : n ≤ 150 := by rw [← hN.1]; exact f1
      have ht : tot (setsOf H) ≤ 150 := by rw [tot_lens hN]; exact f3
      have hc := refParts_n H n A c w hN (by omega) (fun h hh => by have := f2 h hh; omega) (by omega)
      cases hb : allB (setsOf H)
      · refine walk_none H n A c v m B d w hN hf hm (hc.mono ?_)
        rintro e w' (⟨_, h⟩ | ⟨h, _⟩ | ⟨h, _⟩)
        · exact h
        · rw [hb] at h; cases h
        · rw [hb] at h; cases h
      · by_cases hx : Many (Ek (setsOf H))
        · refine walk_none H n A c v m B d w hN hf hm (hc.mono ?_)
          rintro e w' (⟨_, h⟩ | ⟨_, _, h⟩ | ⟨_, P, hP, hl, _⟩)
          · exact h
          · exact h
          · exact absurd hl (many_parts hP hx)
        · exact walk_some H n A c v m hv B d w hN hR hf hm (refParts_yes H n A c w hN (by omega) (fun h hh => by have := f2 h hh; omega) (by omega) hb hx)
    · exact walk_large H n A c v m B d w hN hf (by omega)

/-! From the walk to the row. -/
set_option maxRecDepth 100000 in
theorem contract (H : Type) (enc : TypeId × Value → H) (W : World) (base : Nat) (args : Array Value) (ds gs : List (DataW H)) (before : List MemPlace)
    (hval0 : ∀ (j : Nat) t v, Try.f6.params[j]? = some t → args[j]? = some v → Value.okWide Try.prog W .any base t v)
    (hW : DataW.Whole enc Try.prog Try.f6.params.toList Rows.refineBandsSpec.vars false W args.toList ds gs before) :
    Calls Try.prog 6 args W fun e W' => ∃ v, e = .returned v ∧ Rows.refineBandsSpec.post enc Try.prog Try.f6 false true false false W args v W' := by
  have hval : ∀ (j : Nat) t v, Try.f6.params[j]? = some t → args[j]? = some v → Value.okWide Try.prog W .any base t v := hval0
  have hW' := hW
  obtain ⟨p, q, hA0, hV, rfl, hfz, hnd⟩ := hW
  have hA : DataW.TrodAll enc Try.prog W 0 (fun _ => true) true Try.f6.params.toList args.toList ds p := hA0
  rw [Try.params6] at hA hval
  obtain ⟨v0, vs0, d0, ds0, p0, q0, hargs, rfl, rfl, h0, r0⟩ := trodAll_cons hA
  obtain ⟨v1, vs1, d1, ds1, p1, q1, rfl, rfl, rfl, h1, r1⟩ := trodAll_cons r0
  obtain ⟨rfl, rfl, rfl⟩ := trodAll_nil r1
  obtain rfl : args = #[v0, v1] := by cases args; simp_all
  obtain ⟨rfl, rfl⟩ := trodVars_none hV
  obtain ⟨a0, len0, cap0, rfl⟩ := okWide_slice Try.underlying22 (hval 0 22 v0 rfl rfl)
  have k0 := h0
  have lt0 : ∀ x ∈ p0, x.block < W.heap.size := by obtain ⟨m, hm⟩ := k0; exact DataW.trod_lt m _ _ _ hm
  obtain ⟨l0, hl0, hs0, hr0⟩ : ∃ l : List Hd, l.length = len0 ∧ Shp a0 len0 cap0 ∧ Nest W W.heap.size a0 len0 l := by
    obtain ⟨fuel, hf⟩ := h0
    exact open_sets Try.underlying22 (by simpa [Value.cells] using hf)
  obtain ⟨a1, len1, cap1, rfl⟩ := okWide_slice Try.underlying45 (hval 1 45 v1 rfl rfl)
  have k1 := h1
  have lt1 : ∀ x ∈ p1, x.block < W.heap.size := by obtain ⟨m, hm⟩ := k1; exact DataW.trod_lt m _ _ _ hm
  obtain ⟨l1, hl1, hs1, hr1⟩ : ∃ l, l.length = len1 ∧ Shp a1 len1 cap1 ∧ Reads W W.heap.size 1 a1 len1 (icells l) := by
    obtain ⟨fuel, hf⟩ := h1
    exact open_row Try.underlying45 (by simpa [Value.cells] using hf)
  clear hA0 hval0
  refine (walk l0 len0 a0 cap0 l1 len1 hl1 a1 cap1 W hr0 hr1).mono fun e W' ⟨he, bel⟩ => ?_
  subst he
  exact ⟨_, rfl, _, _, _, [], _, [], hW', trodAll_mk1 (shut_bool Try.underlying4 _), (trodAll_cons_mk (Below.trod laidOut (by kernel_rfl) (of_decide_eq_true (by kernel_rfl)) k0 bel lt0) (trodAll_cons_mk (Below.trod laidOut (by kernel_rfl) (of_decide_eq_true (by kernel_rfl)) k1 bel lt1) trodAll_mk0)), rfl, bel.frame _, fun h => by cases h⟩

set_option maxRecDepth 100000 in
theorem lifted (os : Os) (started : os.Started) (H : Type) (enc : TypeId × Value → H) :
    ReturnsInHanded {} Try.checked os 6 .any (Rows.refineBandsSpec.pre6 enc Try.prog Try.f6 Rows.refineBandsRow.domain false) (Rows.refineBandsSpec.post enc Try.prog Try.f6 false true false false) := by
  refine returnsInHanded_of_change (C := Try.checked) own started (by kernel_rfl) Try.func6
    (ChangeSpec.witness6 (enc := enc) (C := Try.checked) false ⟨#[], #[.slice none 0 0, .slice none 0 0], []⟩ 8 (by kernel_rfl) (by kernel_rfl) (by kernel_rfl) (by kernel_rfl)) ?_
  intro W base args ds gs before hval hW _ _
  exact contract H enc W base args ds gs before hval hW

set_option maxRecDepth 100000 in
theorem over : Rows.refineBandsRow.holds Try.pinned (OpenSpec.ofChange Rows.refineBandsSpec) :=
  OpenClaim.holds_of_wide 6 Try.f6 rfl rfl rfl rfl rfl rfl rfl ⟨rfl, rfl, rfl, rfl, rfl⟩ rfl rfl rfl rfl rfl (by kernel_rfl) Try.func6 (by kernel_rfl)
    (of_decide_eq_true (by kernel_rfl)) (by unfold Func.isWrapper; first | (rw [if_pos (by decide +kernel)]; kernel_rfl) | (rw [if_neg (by decide +kernel)]; exact ⟨rfl, rfl⟩))
    (fun os started H enc _ => lifted os started H enc)
end Go.Proofs.Ythaageiflimnnaa.refineBands

namespace Go.Proofs.Ythaageiflimnnaa
/-- The given statement, under a short name. -/
theorem refineBands_holds : Rows.RefineBandsSaid := refineBands.over
#print axioms refineBands_holds
end Go.Proofs.Ythaageiflimnnaa
