/- The law ScalarIndex returns true at every 64-bit integer and every byte of steps: Index is how many scalars are below, and goes up by one at each step of Next. Conditions: none beyond the row's own; nothing that was there before the call is changed. -/
import Derived.Test.YtpmgebfdiclblaaRows
import Derived.WalkKit
import Derived.ProofKit
import Derived.OpenShut
import Derived.LoopTactic
import Derived.Test.YtpmgebfdiclblaaRefs
namespace Go.Proofs.Ytpmgebfdiclblaa.scalarIndex
open Go.ChangeShapes Go.WideShapes Go.ChangeAt Go.RowKit
set_option linter.unusedVariables false

theorem own : ownKnob Try.prog.godebug = none := by kernel_rfl

theorem isB_of (v : Int) (h : isB v = true) : 0 ≤ v ∧ v < 55296 ∨ 57344 ≤ v ∧ v ≤ 1114111 := of_decide_eq_true h
theorem index_none (v : Int) (h : isB v = false) : indexN v = 0 := if_neg (by rw [h]; decide)
theorem index_bd (v : Int) : 0 ≤ indexN v ∧ indexN v ≤ 1112064 := by
  unfold indexN
  split
  · have h' := isB_of v ‹_›
    exact belowN_bd v (by omega) (by omega)
  · omega
theorem next_is (v : Int) (h : isB v = true) (k : v < 1114111) : isB (nextN v) = true ∧ indexN (nextN v) = indexN v + 1 := by
  have h' := isB_of v h
  have e : isB (nextN v) = true := by
    unfold nextN
    split
    · omega
    · split
      · rfl
      · exact decide_eq_true (by omega)
  refine ⟨e, ?_⟩
  unfold indexN
  rw [if_pos e, if_pos h]
  unfold nextN belowN; split <;> (try split) <;> (try split) <;> (try split) <;> (try split) <;> (try split) <;> omega
theorem index_count (v : Int) (h : isB v = true) (k : 0 < v) : indexN v = countN 0 (v - 1) := by
  have h' := isB_of v h
  unfold indexN countN
  rw [if_pos h, if_neg (by omega), show min (v - 1) 1114111 + 1 = v by omega, show max (0 : Int) 0 = 0 by omega]
  show belowN v = belowN v - 0
  omega

theorem walk_none (v s : Int) (h : isB v = false) (w : World) :
    Calls Try.prog 7 #[.int .i64 v, .int .u8 s] w fun e w' => e = .returned (.bool true) ∧ Grown w w' := by
  have e1 := index_none v h
  go_enter Try.func7, Try.ntmps7
  go_wp2_with (first
    | (go_at_call 8; go_must (refine (next_any _ _).mono ?_; rintro e w' ⟨rfl, rfl⟩))
    | (go_at_call 9; go_must (refine (prev_any _ _).mono ?_; rintro e w' ⟨rfl, rfl⟩))
    | (go_at_call 10; go_must (refine (index_any _ _).mono ?_; rintro e w' ⟨rfl, rfl⟩))
    | (go_at_call 15; go_must (refine (is_any _ _).mono ?_; rintro e w' ⟨rfl, rfl⟩))
    | (go_at_call 16; go_must (refine (count_any _ _ _).mono ?_; rintro e w' ⟨rfl, rfl⟩))
    | (go_at_call 18; go_must (refine (wakes_any _).mono ?_; rintro e w' ⟨rfl, rfl⟩)))
  go_ret
  exact ⟨rfl, Grown.refl _⟩

set_option maxHeartbeats 400000 in
theorem walk_some (v s : Int) (h : isB v = true) (s0 : 0 ≤ s) (s1 : s ≤ 255) (w : World) :
    Calls Try.prog 7 #[.int .i64 v, .int .u8 s] w fun e w' => e = .returned (.bool true) ∧ Grown w w' := by
  obtain ⟨i0, i1⟩ := index_bd v
  have hv := Lib.hid (isB_of v h)
  go_enter Try.func7, Try.ntmps7
  go_wp2_with (first
  | (go_at_call 8; go_must (refine (next_any _ _).mono ?_; rintro e w' ⟨rfl, rfl⟩))
  | (go_at_call 10; go_must (refine (index_any _ _).mono ?_; rintro e w' ⟨rfl, rfl⟩))
  | (go_at_call 15; go_must (refine (is_any _ _).mono ?_; rintro e w' ⟨rfl, rfl⟩))
  | (go_at_call 16; go_must (refine (count_any _ _ _).mono ?_; rintro e w' ⟨rfl, rfl⟩))
  | (go_at_call 18; go_must (refine (wakes_any _).mono ?_; rintro e w' ⟨rfl, rfl⟩)))
  go_loop [7, 8] (fun a b => ∃ (j : Int) (k : Nat), k ≤ 20 ∧ isB j = true ∧ Hid (indexN j = indexN v + k) ∧ a = .int .i64 j ∧ b = .int .i64 k) (fun _ b => 20 - (intOf b).toNat)
  case atStart => exact ⟨v, 0, by omega, h, Lib.hid (by simp), rfl, rfl⟩
  case round =>
    obtain ⟨j, k, hk, hj, H, rfl, rfl⟩ := hrel
    by_cases hlt : (k : Int) < s % 20
    · have hk20 : k < 20 := by omega
      by_cases hm : j < 1114111
      · have f1 : nextB j = true := decide_eq_true hm
        obtain ⟨f2, f3⟩ := next_is j hj hm
        have F3 : Hid (indexN (nextN j) = indexN v + ↑(k + 1)) := Lib.hid (by rw [f3, H.out]; omega)
        have f4 : (indexN (nextN j) != indexN v + ↑k + 1) = false := by rw [f3, H.out]; simp
        clear f3
        go_wp2_with (first
        | (go_at_call 8; go_must (refine (next_any _ _).mono ?_; rintro e w' ⟨rfl, rfl⟩))
        | (go_at_call 10; go_must (refine (index_any _ _).mono ?_; rintro e w' ⟨rfl, rfl⟩))
        | (go_at_call 15; go_must (refine (is_any _ _).mono ?_; rintro e w' ⟨rfl, rfl⟩))
        | (go_at_call 16; go_must (refine (count_any _ _ _).mono ?_; rintro e w' ⟨rfl, rfl⟩))
        | (go_at_call 18; go_must (refine (wakes_any _).mono ?_; rintro e w' ⟨rfl, rfl⟩)))
        go_round
        case rel => exact ⟨nextN j, k + 1, by omega, f2, F3, rfl, by go_num⟩
        case measure => simp [intOf]; omega
      · have f1 : nextB j = false := decide_eq_false hm
        have f2 : (j == 1114111) = true := by have := isB_of j hj; rw [beq_iff_eq]; omega
        go_wp2_with (first
        | (go_at_call 8; go_must (refine (next_any _ _).mono ?_; rintro e w' ⟨rfl, rfl⟩))
        | (go_at_call 10; go_must (refine (index_any _ _).mono ?_; rintro e w' ⟨rfl, rfl⟩))
        | (go_at_call 15; go_must (refine (is_any _ _).mono ?_; rintro e w' ⟨rfl, rfl⟩))
        | (go_at_call 16; go_must (refine (count_any _ _ _).mono ?_; rintro e w' ⟨rfl, rfl⟩))
        | (go_at_call 18; go_must (refine (wakes_any _).mono ?_; rintro e w' ⟨rfl, rfl⟩)))
        go_ret
        exact ⟨rfl, Grown.refl _⟩
    · by_cases hz : v = 0
      · have e1 : (v == 0) = true := by rw [beq_iff_eq]; exact hz
        have e2 : (indexN v == 0) = true := by rw [hz]; rfl
        clear hz
        go_wp2_with (first
        | (go_at_call 8; go_must (refine (next_any _ _).mono ?_; rintro e w' ⟨rfl, rfl⟩))
        | (go_at_call 10; go_must (refine (index_any _ _).mono ?_; rintro e w' ⟨rfl, rfl⟩))
        | (go_at_call 15; go_must (refine (is_any _ _).mono ?_; rintro e w' ⟨rfl, rfl⟩))
        | (go_at_call 16; go_must (refine (count_any _ _ _).mono ?_; rintro e w' ⟨rfl, rfl⟩))
        | (go_at_call 18; go_must (refine (wakes_any _).mono ?_; rintro e w' ⟨rfl, rfl⟩)))
        go_ret
        exact ⟨rfl, Grown.refl _⟩
      · have v0 : 0 < v := by have := hv.out; omega
        have v1 : v ≤ 1114111 := by have := hv.out; omega
        have e1 : (v == 0) = false := by rw [beq_eq_false_iff_ne]; exact hz
        have e2 : (indexN v == countN 0 (v - 1)) = true := by rw [← index_count v h v0]; exact beq_self_eq_true _
        clear hz
        go_wp2_with (first
        | (go_at_call 8; go_must (refine (next_any _ _).mono ?_; rintro e w' ⟨rfl, rfl⟩))
        | (go_at_call 10; go_must (refine (index_any _ _).mono ?_; rintro e w' ⟨rfl, rfl⟩))
        | (go_at_call 15; go_must (refine (is_any _ _).mono ?_; rintro e w' ⟨rfl, rfl⟩))
        | (go_at_call 16; go_must (refine (count_any _ _ _).mono ?_; rintro e w' ⟨rfl, rfl⟩))
        | (go_at_call 18; go_must (refine (wakes_any _).mono ?_; rintro e w' ⟨rfl, rfl⟩)))
        go_ret
        exact ⟨rfl, Grown.refl _⟩

/-! The walk: the law returns true, and the world has at most new blocks. -/
theorem walk (a0 : Int) (a1 : Int) (w0 : (Lit.int .i64 a0).wf = true) (w1 : (Lit.int .u8 a1).wf = true) (w : World) :
    Calls Try.prog 7 #[.int .i64 a0, .int .u8 a1] w fun e w' => e = .returned (.bool true) ∧ Grown w w' := by
  obtain ⟨s0, s1⟩ := bounds_u8 w1
  by_cases b : isB a0 = true
  · exact walk_some a0 a1 b s0 s1 w
  · exact walk_none a0 a1 (by simpa using b) w

/-! From the walk to the row. -/
set_option maxRecDepth 100000 in
theorem lifted (os : Os) (started : os.Started) (H : Type) (enc : TypeId × Value → H) :
    ReturnsInHanded {} Try.checked os 7 .any (Rows.scalarIndexSpec.pre6 enc Try.prog Try.f7 Rows.scalarIndexRow.domain false) (Rows.scalarIndexSpec.post enc Try.prog Try.f7 false true false false) := by
  refine returnsInHanded_of_change (C := Try.checked) own started (by kernel_rfl) Try.func7
    (ChangeSpec.witness6 (enc := enc) (C := Try.checked) false ⟨#[], #[.int .i64 0, .int .u8 0], []⟩ 8 (by kernel_rfl) (by kernel_rfl) (by kernel_rfl) (by kernel_rfl)) ?_
  intro W base args ds gs before hval0 hW hcnd _
  have hval : ∀ (j : Nat) t v, Try.f7.params[j]? = some t → args[j]? = some v → Value.okWide Try.prog W .any base t v := hval0
  have hW' := hW
  obtain ⟨p, q, hA0, hV, rfl, hfz, hnd⟩ := hW
  have hA : DataW.TrodAll enc Try.prog W 0 (fun _ => true) true Try.f7.params.toList args.toList ds p := hA0
  rw [Try.params7] at hA hval
  obtain ⟨v0, vs0, d0, ds0, p0, q0, hargs, rfl, rfl, h0, r0⟩ := trodAll_cons hA
  obtain ⟨v1, vs1, d1, ds1, p1, q1, rfl, rfl, rfl, h1, r1⟩ := trodAll_cons r0
  obtain ⟨rfl, rfl, rfl⟩ := trodAll_nil r1
  obtain rfl : args = #[v0, v1] := by cases args; simp_all
  obtain ⟨rfl, rfl⟩ := trodVars_none hV
  obtain ⟨a0, rfl, rfl, rfl, w0⟩ := open_int Try.underlying3 (hval 0 3 v0 rfl rfl) h0
  obtain ⟨a1, rfl, rfl, rfl, w1⟩ := open_int Try.underlying5 (hval 1 5 v1 rfl rfl) h1
  clear hA0 hval0
  simp only [List.append_nil] at hW'
  refine (walk a0 a1 w0 w1 W).mono fun e W' ⟨he, hg⟩ => ?_
  subst he
  exact ⟨_, rfl, post_of_same (pa := []) (pv := []) hW' (fun _ _ _ => (trodAll_cons_mk (shut_bool Try.underlying4 _) trodAll_mk0)) (fun sp _ => (trodAll_cons_mk (shut_int Try.underlying3 w0) (trodAll_cons_mk (shut_int Try.underlying5 w1) trodAll_mk0))) (fun _ _ => rfl) rfl
    (hg.frame _) hg.2.1 (ok_one (by kernel_rfl) rfl (okWide_bool_mk Try.underlying4 _))⟩

theorem over : Rows.scalarIndexRow.holds Try.pinned (OpenSpec.ofChange Rows.scalarIndexSpec) :=
  OpenClaim.holds_of_wide 7 Try.f7 rfl rfl rfl rfl rfl rfl rfl ⟨rfl, rfl, rfl, rfl, rfl⟩ rfl rfl rfl rfl rfl (by kernel_rfl) Try.func7 (by kernel_rfl)
    (of_decide_eq_true (by kernel_rfl)) (by unfold Func.isWrapper; first | (rw [if_pos (by decide +kernel)]; kernel_rfl) | (rw [if_neg (by decide +kernel)]; exact ⟨rfl, rfl⟩))
    (fun os started H enc _ => lifted os started H enc)

/-- The given statement. -/
theorem proved : Rows.ScalarIndexSaid :=
  over
end Go.Proofs.Ytpmgebfdiclblaa.scalarIndex

namespace Go.Proofs.Ytpmgebfdiclblaa
/-- The given statement, under a short name. -/
theorem scalarIndex_holds : Rows.ScalarIndexSaid := scalarIndex.proved
#print axioms scalarIndex_holds
end Go.Proofs.Ytpmgebfdiclblaa
