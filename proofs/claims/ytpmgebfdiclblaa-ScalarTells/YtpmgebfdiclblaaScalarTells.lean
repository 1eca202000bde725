/- The law ScalarTells returns true at every pair of 64-bit integers: Is, Next, Prev, Count and Index answer what the document's own functions answer. Conditions: none beyond the row's own; nothing that was there before the call is changed. -/
import Derived.Test.YtpmgebfdiclblaaRows
import Derived.WalkKit
import Derived.ProofKit
import Derived.OpenShut
import Derived.Test.YtpmgebfdiclblaaRefs
namespace Go.Proofs.Ytpmgebfdiclblaa.scalarTells
open Go.ChangeShapes Go.WideShapes Go.ChangeAt Go.RowKit
set_option linter.unusedVariables false

theorem own : ownKnob Try.prog.godebug = none := by kernel_rfl

theorem at_scalar (v : Int) (h : isB v = true) : (indexN v == refBelowN v) = true := by
  have h' : 0 ≤ v ∧ v < 55296 ∨ 57344 ≤ v ∧ v ≤ 1114111 := of_decide_eq_true h
  unfold indexN refBelowN
  rw [if_pos h, show max 0 (min v 1114112) = v by omega]
  exact beq_self_eq_true _

theorem at_none (v : Int) (h : ¬ isB v = true) : (indexN v == 0) = true := by
  unfold indexN
  rw [if_neg h]
  rfl

/-! The walk: the law returns true, and the world has at most new blocks. -/
theorem walk (a0 : Int) (a1 : Int) (w0 : (Lit.int .i64 a0).wf = true) (w1 : (Lit.int .i64 a1).wf = true) (w : World) :
    Calls Try.prog 3 #[.int .i64 a0, .int .i64 a1] w fun e w' => e = .returned (.bool true) ∧ Grown w w' := by
  by_cases c : isB a0 = true
  · have q := at_scalar a0 c
    go_enter Try.func3, Try.ntmps3
    go_wp2_with (first
      | (go_at_call 8; go_must (refine (next_any _ _).mono ?_; rintro e w' ⟨rfl, rfl⟩))
      | (go_at_call 9; go_must (refine (prev_any _ _).mono ?_; rintro e w' ⟨rfl, rfl⟩))
      | (go_at_call 10; go_must (refine (index_any _ _).mono ?_; rintro e w' ⟨rfl, rfl⟩)))
    refine (refNext_any _ _).mono ?_
    rintro e u ⟨rfl, hu⟩
    go_wp2_with fail
    refine (refPrev_any _ _).mono ?_
    rintro e u' ⟨rfl, hu'⟩
    go_wp2_with (first
      | (go_at_call 13; go_must (refine (refIs_any _ _).mono ?_; rintro e w' ⟨rfl, rfl⟩))
      | (go_at_call 14; go_must (refine (refBelow_any _ _).mono ?_; rintro e w' ⟨rfl, rfl⟩))
      | (go_at_call 15; go_must (refine (is_any _ _).mono ?_; rintro e w' ⟨rfl, rfl⟩))
      | (go_at_call 16; go_must (refine (count_any _ _ _).mono ?_; rintro e w' ⟨rfl, rfl⟩))
      | (go_at_call 17; go_must (refine (refCount_any _ _ _).mono ?_; rintro e w' ⟨rfl, rfl⟩))
      | (go_at_call 18; go_must (refine (wakes_any _).mono ?_; rintro e w' ⟨rfl, rfl⟩)))
    go_ret
    have hg := grown_trans hu hu'
    exact ⟨rfl, by repeat (first | exact hg | apply Grown.drew | apply Grown.alloc | apply Grown.setCell)⟩
  · have q := at_none a0 c
    go_enter Try.func3, Try.ntmps3
    go_wp2_with (first
      | (go_at_call 8; go_must (refine (next_any _ _).mono ?_; rintro e w' ⟨rfl, rfl⟩))
      | (go_at_call 9; go_must (refine (prev_any _ _).mono ?_; rintro e w' ⟨rfl, rfl⟩))
      | (go_at_call 10; go_must (refine (index_any _ _).mono ?_; rintro e w' ⟨rfl, rfl⟩)))
    refine (refNext_any _ _).mono ?_
    rintro e u ⟨rfl, hu⟩
    go_wp2_with fail
    refine (refPrev_any _ _).mono ?_
    rintro e u' ⟨rfl, hu'⟩
    go_wp2_with (first
      | (go_at_call 13; go_must (refine (refIs_any _ _).mono ?_; rintro e w' ⟨rfl, rfl⟩))
      | (go_at_call 14; go_must (refine (refBelow_any _ _).mono ?_; rintro e w' ⟨rfl, rfl⟩))
      | (go_at_call 15; go_must (refine (is_any _ _).mono ?_; rintro e w' ⟨rfl, rfl⟩))
      | (go_at_call 16; go_must (refine (count_any _ _ _).mono ?_; rintro e w' ⟨rfl, rfl⟩))
      | (go_at_call 17; go_must (refine (refCount_any _ _ _).mono ?_; rintro e w' ⟨rfl, rfl⟩))
      | (go_at_call 18; go_must (refine (wakes_any _).mono ?_; rintro e w' ⟨rfl, rfl⟩)))
    go_ret
    have hg := grown_trans hu hu'
    exact ⟨rfl, by repeat (first | exact hg | apply Grown.drew | apply Grown.alloc | apply Grown.setCell)⟩

/-! From the walk to the row. -/
set_option maxRecDepth 100000 in
theorem lifted (os : Os) (started : os.Started) (H : Type) (enc : TypeId × Value → H) :
    ReturnsInHanded {} Try.checked os 3 .any (Rows.scalarTellsSpec.pre6 enc Try.prog Try.f3 Rows.scalarTellsRow.domain false) (Rows.scalarTellsSpec.post enc Try.prog Try.f3 false true false false) := by
  refine returnsInHanded_of_change (C := Try.checked) own started (by kernel_rfl) Try.func3
    (ChangeSpec.witness6 (enc := enc) (C := Try.checked) false ⟨#[], #[.int .i64 0, .int .i64 0], []⟩ 8 (by kernel_rfl) (by kernel_rfl) (by kernel_rfl) (by kernel_rfl)) ?_
  intro W base args ds gs before hval0 hW hcnd _
  have hval : ∀ (j : Nat) t v, Try.f3.params[j]? = some t → args[j]? = some v → Value.okWide Try.prog W .any base t v := hval0
  have hW' := hW
  obtain ⟨p, q, hA0, hV, rfl, hfz, hnd⟩ := hW
  have hA : DataW.TrodAll enc Try.prog W 0 (fun _ => true) true Try.f3.params.toList args.toList ds p := hA0
  rw [Try.params3] at hA hval
  obtain ⟨v0, vs0, d0, ds0, p0, q0, hargs, rfl, rfl, h0, r0⟩ := trodAll_cons hA
  obtain ⟨v1, vs1, d1, ds1, p1, q1, rfl, rfl, rfl, h1, r1⟩ := trodAll_cons r0
  obtain ⟨rfl, rfl, rfl⟩ := trodAll_nil r1
  obtain rfl : args = #[v0, v1] := by cases args; simp_all
  obtain ⟨rfl, rfl⟩ := trodVars_none hV
  obtain ⟨a0, rfl, rfl, rfl, w0⟩ := open_int Try.underlying3 (hval 0 3 v0 rfl rfl) h0
  obtain ⟨a1, rfl, rfl, rfl, w1⟩ := open_int Try.underlying3 (hval 1 3 v1 rfl rfl) h1
  clear hA0 hval0
  simp only [List.append_nil] at hW'
  refine (walk a0 a1 w0 w1 W).mono fun e W' ⟨he, hg⟩ => ?_
  subst he
  exact ⟨_, rfl, post_of_same (pa := []) (pv := []) hW' (fun _ _ _ => (trodAll_cons_mk (shut_bool Try.underlying4 _) trodAll_mk0)) (fun sp _ => (trodAll_cons_mk (shut_int Try.underlying3 w0) (trodAll_cons_mk (shut_int Try.underlying3 w1) trodAll_mk0))) (fun _ _ => rfl) rfl
    (hg.frame _) hg.2.1 (ok_one (by kernel_rfl) rfl (okWide_bool_mk Try.underlying4 _))⟩

theorem over : Rows.scalarTellsRow.holds Try.pinned (OpenSpec.ofChange Rows.scalarTellsSpec) :=
  OpenClaim.holds_of_wide 3 Try.f3 rfl rfl rfl rfl rfl rfl rfl ⟨rfl, rfl, rfl, rfl, rfl⟩ rfl rfl rfl rfl rfl (by kernel_rfl) Try.func3 (by kernel_rfl)
    (of_decide_eq_true (by kernel_rfl)) (by unfold Func.isWrapper; first | (rw [if_pos (by decide +kernel)]; kernel_rfl) | (rw [if_neg (by decide +kernel)]; exact ⟨rfl, rfl⟩))
    (fun os started H enc _ => lifted os started H enc)

/-- The given statement. -/
theorem proved : Rows.ScalarTellsSaid :=
  over
end Go.Proofs.Ytpmgebfdiclblaa.scalarTells

namespace Go.Proofs.Ytpmgebfdiclblaa
/-- The given statement, under a short name. -/
theorem scalarTells_holds : Rows.ScalarTellsSaid := scalarTells.proved
#print axioms scalarTells_holds
end Go.Proofs.Ytpmgebfdiclblaa
