/- The law ScalarWalks returns true at every 64-bit integer: Next and Prev lead forth and back, nothing lies between, and the number among all goes up by one. Conditions: none beyond the row's own; nothing that was there before the call is changed. -/
import Derived.Test.YtpmgebfdiclblaaRows
import Derived.WalkKit
import Derived.ProofKit
import Derived.OpenShut
import Derived.Test.YtpmgebfdiclblaaRefs
namespace Go.Proofs.Ytpmgebfdiclblaa.scalarWalks
open Go.ChangeShapes Go.WideShapes Go.ChangeAt Go.RowKit
set_option linter.unusedVariables false

theorem own : ownKnob Try.prog.godebug = none := by kernel_rfl

theorem next_end (v : Int) (h : 1114111 ≤ v) : nextN v = 0 ∧ nextB v = false := by
  unfold nextN nextB; exact ⟨if_pos (by omega), decide_eq_false (by omega)⟩
theorem next_neg (v : Int) (h : v < 0) : nextN v = 0 ∧ nextB v = true := by
  unfold nextN nextB; exact ⟨if_pos (by omega), decide_eq_true (by omega)⟩
theorem next_gap (v : Int) (h0 : 55295 ≤ v) (h1 : v < 57344) : nextN v = 57344 ∧ nextB v = true := by
  unfold nextN nextB; exact ⟨by rw [if_neg (by omega), if_pos (by omega)], decide_eq_true (by omega)⟩
theorem next_step (v : Int) (h : 0 ≤ v ∧ v < 55295 ∨ 57344 ≤ v ∧ v < 1114111) : nextN v = v + 1 ∧ nextB v = true := by
  unfold nextN nextB; exact ⟨by rw [if_neg (by omega), if_neg (by omega)], decide_eq_true (by omega)⟩
theorem isB_yes (v : Int) (h : 0 ≤ v ∧ v < 55296 ∨ 57344 ≤ v ∧ v ≤ 1114111) : isB v = true := decide_eq_true h
theorem isB_no (v : Int) (h : v < 0 ∨ 55296 ≤ v ∧ v < 57344 ∨ 1114111 < v) : isB v = false := decide_eq_false (by omega)
theorem indexN_yes (v : Int) (h : 0 ≤ v ∧ v < 55296 ∨ 57344 ≤ v ∧ v ≤ 1114111) : indexN v = belowN v := if_pos (isB_yes v h)
theorem count_in (lo hi : Int) (h0 : 0 ≤ lo) (h : lo ≤ hi) (h1 : hi ≤ 1114111) : countN lo hi = belowN (hi + 1) - belowN lo := by
  unfold countN; rw [if_neg (by omega), show min hi 1114111 = hi by omega, show max lo 0 = lo by omega]
theorem below_step (v : Int) (h : 0 ≤ v ∧ v < 55296 ∨ 57344 ≤ v) : belowN (v + 1) = belowN v + 1 := by
  unfold belowN; split <;> (try split) <;> (try split) <;> (try split) <;> omega
theorem below_zero : belowN 0 = 0 := rfl

/-! The walk: the law returns true, and the world has at most new blocks. -/
theorem walk (a0 : Int) (w0 : (Lit.int .i64 a0).wf = true) (w : World) :
    Calls Try.prog 4 #[.int .i64 a0] w fun e w' => e = .returned (.bool true) ∧ Grown w w' := by
  by_cases c1 : 1114111 ≤ a0
  · obtain ⟨e1, e2⟩ := next_end a0 c1
    go_enter Try.func4, Try.ntmps4
    go_wp2_with (first
      | (go_at_call 8; go_must (refine (next_any _ _).mono ?_; rintro e w' ⟨rfl, rfl⟩))
      | (go_at_call 9; go_must (refine (prev_any _ _).mono ?_; rintro e w' ⟨rfl, rfl⟩))
      | (go_at_call 10; go_must (refine (index_any _ _).mono ?_; rintro e w' ⟨rfl, rfl⟩))
      | (go_at_call 15; go_must (refine (is_any _ _).mono ?_; rintro e w' ⟨rfl, rfl⟩))
      | (go_at_call 16; go_must (refine (count_any _ _ _).mono ?_; rintro e w' ⟨rfl, rfl⟩))
      | (go_at_call 18; go_must (refine (wakes_any _).mono ?_; rintro e w' ⟨rfl, rfl⟩)))
    go_ret
    exact ⟨rfl, Grown.refl _⟩
  · by_cases c2 : a0 < 0
    · obtain ⟨e1, e2⟩ := next_neg a0 c2
      have e3 : isB 0 = true := by decide
      have e4 : prevB 0 = false := by decide
      have e5 : isB a0 = false := isB_no a0 (by omega)
      go_enter Try.func4, Try.ntmps4
      go_wp2_with (first
        | (go_at_call 8; go_must (refine (next_any _ _).mono ?_; rintro e w' ⟨rfl, rfl⟩))
        | (go_at_call 9; go_must (refine (prev_any _ _).mono ?_; rintro e w' ⟨rfl, rfl⟩))
        | (go_at_call 10; go_must (refine (index_any _ _).mono ?_; rintro e w' ⟨rfl, rfl⟩))
        | (go_at_call 15; go_must (refine (is_any _ _).mono ?_; rintro e w' ⟨rfl, rfl⟩))
        | (go_at_call 16; go_must (refine (count_any _ _ _).mono ?_; rintro e w' ⟨rfl, rfl⟩))
        | (go_at_call 18; go_must (refine (wakes_any _).mono ?_; rintro e w' ⟨rfl, rfl⟩)))
      go_ret
      exact ⟨rfl, Grown.refl _⟩
    · by_cases c3 : 55295 < a0 ∧ a0 < 57344
      · obtain ⟨c4, c5⟩ := c3
        obtain ⟨e1, e2⟩ := next_gap a0 (by omega) c5
        have e3 : isB 57344 = true := by decide
        have e4 : prevB 57344 = true := by decide
        have e5 : isB a0 = false := isB_no a0 (by omega)
        have e6 : prevN 57344 = 55295 := by decide
        go_enter Try.func4, Try.ntmps4
        go_wp2_with (first
          | (go_at_call 8; go_must (refine (next_any _ _).mono ?_; rintro e w' ⟨rfl, rfl⟩))
          | (go_at_call 9; go_must (refine (prev_any _ _).mono ?_; rintro e w' ⟨rfl, rfl⟩))
          | (go_at_call 10; go_must (refine (index_any _ _).mono ?_; rintro e w' ⟨rfl, rfl⟩))
          | (go_at_call 15; go_must (refine (is_any _ _).mono ?_; rintro e w' ⟨rfl, rfl⟩))
          | (go_at_call 16; go_must (refine (count_any _ _ _).mono ?_; rintro e w' ⟨rfl, rfl⟩))
          | (go_at_call 18; go_must (refine (wakes_any _).mono ?_; rintro e w' ⟨rfl, rfl⟩)))
        go_ret
        exact ⟨rfl, Grown.refl _⟩
      · by_cases c4 : a0 = 55295
        · subst c4
          have e1 : nextN 55295 = 57344 := by decide
          have e2 : nextB 55295 = true := by decide
          have e3 : isB 57344 = true := by decide
          have e4 : prevB 57344 = true := by decide
          have e5 : isB 55295 = true := by decide
          have e6 : prevN 57344 = 55295 := by decide
          have e7 : indexN 55295 = 55295 := by decide
          have e8 : indexN 57344 = 55296 := by decide
          have e9 : countN 55295 57344 = 2 := by decide
          have e10 : countN 0 55295 = 55296 := by decide
          go_enter Try.func4, Try.ntmps4
          go_wp2_with (first
            | (go_at_call 8; go_must (refine (next_any _ _).mono ?_; rintro e w' ⟨rfl, rfl⟩))
            | (go_at_call 9; go_must (refine (prev_any _ _).mono ?_; rintro e w' ⟨rfl, rfl⟩))
            | (go_at_call 10; go_must (refine (index_any _ _).mono ?_; rintro e w' ⟨rfl, rfl⟩))
            | (go_at_call 15; go_must (refine (is_any _ _).mono ?_; rintro e w' ⟨rfl, rfl⟩))
            | (go_at_call 16; go_must (refine (count_any _ _ _).mono ?_; rintro e w' ⟨rfl, rfl⟩))
            | (go_at_call 18; go_must (refine (wakes_any _).mono ?_; rintro e w' ⟨rfl, rfl⟩)))
          go_ret
          exact ⟨rfl, Grown.refl _⟩
        · obtain ⟨e1, e2⟩ := next_step a0 (by omega)
          have e3 : isB (a0 + 1) = true := isB_yes _ (by omega)
          have e4 : prevB (a0 + 1) = true := decide_eq_true (by omega)
          have e5 : isB a0 = true := isB_yes _ (by omega)
          have e6 : prevN (a0 + 1) = a0 := by unfold prevN; rw [if_neg (by omega), if_neg (by omega), if_neg (by omega)]; omega
          have e7 : indexN a0 = belowN a0 := indexN_yes _ (by omega)
          have e8 : indexN (a0 + 1) = belowN a0 + 1 := by rw [indexN_yes _ (by omega), below_step _ (by omega)]
          have e9 : countN a0 (a0 + 1) = 2 := by rw [count_in _ _ (by omega) (by omega) (by omega), below_step (a0 + 1) (by omega), below_step a0 (by omega)]; omega
          have e10 : countN 0 a0 = belowN a0 + 1 := by rw [count_in _ _ (by omega) (by omega) (by omega), below_step a0 (by omega), below_zero]; omega
          obtain ⟨b0, b1⟩ := belowN_bd a0 (by omega) (by omega)
          clear c3 c4
          go_enter Try.func4, Try.ntmps4
          go_wp2_with (first
            | (go_at_call 8; go_must (refine (next_any _ _).mono ?_; rintro e w' ⟨rfl, rfl⟩))
            | (go_at_call 9; go_must (refine (prev_any _ _).mono ?_; rintro e w' ⟨rfl, rfl⟩))
            | (go_at_call 10; go_must (refine (index_any _ _).mono ?_; rintro e w' ⟨rfl, rfl⟩))
            | (go_at_call 15; go_must (refine (is_any _ _).mono ?_; rintro e w' ⟨rfl, rfl⟩))
            | (go_at_call 16; go_must (refine (count_any _ _ _).mono ?_; rintro e w' ⟨rfl, rfl⟩))
            | (go_at_call 18; go_must (refine (wakes_any _).mono ?_; rintro e w' ⟨rfl, rfl⟩)))
          go_ret
          exact ⟨rfl, Grown.refl _⟩

/-! From the walk to the row. -/
set_option maxRecDepth 100000 in
theorem lifted (os : Os) (started : os.Started) (H : Type) (enc : TypeId × Value → H) :
    ReturnsInHanded {} Try.checked os 4 .any (Rows.scalarWalksSpec.pre6 enc Try.prog Try.f4 Rows.scalarWalksRow.domain false) (Rows.scalarWalksSpec.post enc Try.prog Try.f4 false true false false) := by
  refine returnsInHanded_of_change (C := Try.checked) own started (by kernel_rfl) Try.func4
    (ChangeSpec.witness6 (enc := enc) (C := Try.checked) false ⟨#[], #[.int .i64 0], []⟩ 8 (by kernel_rfl) (by kernel_rfl) (by kernel_rfl) (by kernel_rfl)) ?_
  intro W base args ds gs before hval0 hW hcnd _
  have hval : ∀ (j : Nat) t v, Try.f4.params[j]? = some t → args[j]? = some v → Value.okWide Try.prog W .any base t v := hval0
  have hW' := hW
  obtain ⟨p, q, hA0, hV, rfl, hfz, hnd⟩ := hW
  have hA : DataW.TrodAll enc Try.prog W 0 (fun _ => true) true Try.f4.params.toList args.toList ds p := hA0
  rw [Try.params4] at hA hval
  obtain ⟨v0, vs0, d0, ds0, p0, q0, hargs, rfl, rfl, h0, r0⟩ := trodAll_cons hA
  obtain ⟨rfl, rfl, rfl⟩ := trodAll_nil r0
  obtain rfl : args = #[v0] := by cases args; simp_all
  obtain ⟨rfl, rfl⟩ := trodVars_none hV
  obtain ⟨a0, rfl, rfl, rfl, w0⟩ := open_int Try.underlying3 (hval 0 3 v0 rfl rfl) h0
  clear hA0 hval0
  simp only [List.append_nil] at hW'
  refine (walk a0 w0 W).mono fun e W' ⟨he, hg⟩ => ?_
  subst he
  exact ⟨_, rfl, post_of_same (pa := []) (pv := []) hW' (fun _ _ _ => (trodAll_cons_mk (shut_bool Try.underlying4 _) trodAll_mk0)) (fun sp _ => (trodAll_cons_mk (shut_int Try.underlying3 w0) trodAll_mk0)) (fun _ _ => rfl) rfl
    (hg.frame _) hg.2.1 (ok_one (by kernel_rfl) rfl (okWide_bool_mk Try.underlying4 _))⟩

theorem over : Rows.scalarWalksRow.holds Try.pinned (OpenSpec.ofChange Rows.scalarWalksSpec) :=
  OpenClaim.holds_of_wide 4 Try.f4 rfl rfl rfl rfl rfl rfl rfl ⟨rfl, rfl, rfl, rfl, rfl⟩ rfl rfl rfl rfl rfl (by kernel_rfl) Try.func4 (by kernel_rfl)
    (of_decide_eq_true (by kernel_rfl)) (by unfold Func.isWrapper; first | (rw [if_pos (by decide +kernel)]; kernel_rfl) | (rw [if_neg (by decide +kernel)]; exact ⟨rfl, rfl⟩))
    (fun os started H enc _ => lifted os started H enc)

/-- The given statement. -/
theorem proved : Rows.ScalarWalksSaid :=
  over
end Go.Proofs.Ytpmgebfdiclblaa.scalarWalks

namespace Go.Proofs.Ytpmgebfdiclblaa
/-- The given statement, under a short name. -/
theorem scalarWalks_holds : Rows.ScalarWalksSaid := scalarWalks.proved
#print axioms scalarWalks_holds
end Go.Proofs.Ytpmgebfdiclblaa
