/- What counts and nexts of the document's valid return. -/
import Derived.Test.YtbnconieedgcmaaDoorValA
namespace Go.Proofs.YtbnconieedgcmaaDoor
open Go.RowKit Go.BigFrame
set_option linter.unusedVariables false
set_option maxRecDepth 4000
set_option linter.unusedSimpArgs false

set_option maxHeartbeats 4000000 in
theorem refCounts_any (T : TV) (w : World) (hT : T.ok w) :
    Calls Tryd.prog 76 #[T.v] w fun e w' => e = .returned (.bool (cntV T.tb)) ∧ Below w.heap.size w w' := by
  obtain ⟨cl, a1, n1, c1, bd, a2, n2, c2, hs, a3, n3, c3, br⟩ := T
  simp only [TV.v] at *
  have B1 : n1 ≤ 9223372036854775807 := by have := hT.s1.2; unfold maxLen at this; simp only [] at this; omega
  have B2 : n2 ≤ 9223372036854775807 := by have := hT.s2.2; unfold maxLen at this; simp only [] at this; omega
  have B3 : n3 ≤ 9223372036854775807 := by have := hT.s3.2; unfold maxLen at this; simp only [] at this; omega
  have BR : Hid (∀ h ∈ hs, h.n ≤ 9223372036854775807) := Lib.hid (fun h hh => by
    have := (hT.r2.2.2 h hh).2.2
    unfold maxLen at this
    omega)
  have L1 : bd.length = n1 := hT.r1.1
  have L2 : hs.length = n2 := hT.r2.1
  have L3 : br.length = n3 := hT.r3.1
  have HC := Lib.hid (cntV_iff (TV.tb ⟨cl, a1, n1, c1, bd, a2, n2, c2, hs, a3, n3, c3, br⟩))
  have HF : Hid (¬ CntV (TV.tb ⟨cl, a1, n1, c1, bd, a2, n2, c2, hs, a3, n3, c3, br⟩) → cntV (TV.tb ⟨cl, a1, n1, c1, bd, a2, n2, c2, hs, a3, n3, c3, br⟩) = false) := Lib.hid (fun h => by
    cases hb : cntV (TV.tb ⟨cl, a1, n1, c1, bd, a2, n2, c2, hs, a3, n3, c3, br⟩) with
    | false => rfl
    | true => exact absurd (HC.out.1 hb) h)
  have HP : Hid (CntV (TV.tb ⟨cl, a1, n1, c1, bd, a2, n2, c2, hs, a3, n3, c3, br⟩) ↔ ((1 ≤ cl ∧ cl ≤ 8 ∧ 1 ≤ (n2 : Int) ∧ (n2 : Int) ≤ 5 ∧ (n3 : Int) = n2 ∧ 1 ≤ (n1 : Int) ∧ (n1 : Int) ≤ 60) ∧ ∀ h ∈ hs, (h.n : Int) = cl)) := Lib.hid (by
    have e : ∀ h ∈ hs, h.l.length = h.n := fun h hh => (hT.r2.2.2 h hh).1.1
    constructor
    · rintro ⟨a, b, c, d, e1, f, g, r⟩
      simp only [TV.tb, listsOf_len] at a b c d e1 f g r
      refine ⟨⟨a, b, by omega, by omega, by omega, by omega, by omega⟩, fun h hh => ?_⟩
      have := r h.l (List.mem_map.2 ⟨h, hh, rfl⟩)
      rw [e h hh] at this
      exact this
    · rintro ⟨⟨a, b, c, d, i, f, g⟩, r⟩
      refine ⟨a, b, ?_, ?_, ?_, ?_, ?_, ?_⟩ <;> simp only [TV.tb, listsOf_len] <;> try omega
      intro r' hr'
      obtain ⟨h, hh, rfl⟩ := List.mem_map.1 hr'
      rw [e h hh]
      exact r h hh)
  have HN := Lib.hid (hT.r2.on (below_new w (.cells #[.int .i64 cl, .slice a1 n1 c1, .slice a2 n2 c2, .slice a3 n3 c3] 26)))
  have HX := Lib.hid (box_new w ⟨cl, a1, n1, c1, bd, a2, n2, c2, hs, a3, n3, c3, br⟩)
  have HE1 : Hid (((((((decide (cl ≥ 1) && decide (cl ≤ 8)) && decide ((n2 : Int) ≥ 1)) && decide ((n2 : Int) ≤ 5)) && ((n3 : Int) == (n2 : Int))) && decide ((n1 : Int) ≥ 1)) && decide ((n1 : Int) ≤ 60)) = true ↔ (1 ≤ cl ∧ cl ≤ 8 ∧ 1 ≤ (n2 : Int) ∧ (n2 : Int) ≤ 5 ∧ (n3 : Int) = n2 ∧ 1 ≤ (n1 : Int) ∧ (n1 : Int) ≤ 60)) := Lib.hid (by simp [and_assoc])
  clear hT L1 L2 L3
  go_enter Tryd.func76, Tryd.ntmps76
  go_wp2_with fail
  have b0 := below_new w (.cells #[.int .i64 cl, .slice a1 n1 c1, .slice a2 n2 c2, .slice a3 n3 c3] 26)
  generalize w.alloc (.cells #[.int .i64 cl, .slice a1 n1 c1, .slice a2 n2 c2, .slice a3 n3 c3] 26) = W at *
  go_loopw [4] (fun i wr => ∃ (k : Nat), k ≤ n2 ∧ i = .int .i64 k ∧ Hid (Below W.heap.size W wr) ∧ Hid (∀ h ∈ hs.take k, (h.n : Int) = cl)) (fun i _ => n2 - (intOf i).toNat)
  case atStart => exact ⟨0, Nat.zero_le _, rfl, Lib.hid (Below.refl _ _), Lib.hid (by simp)⟩
  case round =>
    obtain ⟨k, hk, rfl, HB, HE⟩ := hrel
    obtain ⟨_, p0, p1, p2, p3⟩ := HX.out.on HB.out
    simp only [] at p0 p1 p2 p3
    by_cases hlt : k < n2
    · have kl : k < hs.length := by rw [HN.out.1]; exact hlt
      obtain ⟨b, o, rfl, _, q0, _, _⟩ := (HN.out.on HB.out).at kl
      have HXm := Lib.hid (List.getElem_mem kl)
      have HT : Hid (∀ h ∈ hs.take (k + 1), h ∈ hs.take k ∨ h = hs[k]) := Lib.hid (fun h hh => by
        rw [List.take_succ_eq_append_getElem kl] at hh
        rcases List.mem_append.1 hh with h1 | h1
        · exact .inl h1
        · exact .inr (List.mem_singleton.1 h1))
      have hxb := BR.out _ HXm.out
      generalize hs[k] = x at *
      obtain ⟨xa, xn, xc, xs⟩ := x
      simp only [] at q0 hxb
      by_cases hx : (xn : Int) = cl
      · have hx' : ((xn : Int) != cl) = false := by simpa using hx
        have HE' : Hid (∀ h ∈ hs.take (k + 1), (h.n : Int) = cl) := Lib.hid (fun h hh => by
          rcases HT.out h hh with h1 | h1
          · exact HE.out h h1
          · subst h1; exact hx)
        clear hx HE HT HXm
        go_wp2_with fail
        go_quiet (fail)
        go_wp2_with fail
        go_roundw
        case rel => exact ⟨k + 1, by omega, by go_num, Lib.hid (below_drewN HB.out _), HE'⟩
        case measure => simp [intOf]; omega
      · have hx' : ((xn : Int) != cl) = true := by simpa using hx
        have HR := Lib.hid (HF.out (fun h => hx ((HP.out.1 h).2 _ HXm.out)))
        clear hx HE HT HXm
        go_wp2_with fail
        go_quiet (fail)
        go_wp2_with fail
        go_ret
        exact ⟨ret_bool HR.out.symm, below_drewN (below_call b0 b0.size HB.out) _⟩
    · have HR : Hid ((((((((decide (cl ≥ 1) && decide (cl ≤ 8)) && decide ((n2 : Int) ≥ 1)) && decide ((n2 : Int) ≤ 5)) && ((n3 : Int) == (n2 : Int))) && decide ((n1 : Int) ≥ 1)) && decide ((n1 : Int) ≤ 60))) = cntV (TV.tb ⟨cl, a1, n1, c1, bd, a2, n2, c2, hs, a3, n3, c3, br⟩)) := Lib.hid (by
        have h := HE.out
        rw [List.take_of_length_le (by rw [HN.out.1]; omega)] at h
        rw [Bool.eq_iff_iff, HE1.out, HC.out, HP.out]
        exact ⟨fun a => ⟨a, h⟩, fun a => a.1⟩)
      by_cases q1 : 1 ≤ cl
      case neg =>
        have HQ : Hid (cntV (TV.tb ⟨cl, a1, n1, c1, bd, a2, n2, c2, hs, a3, n3, c3, br⟩) = false) := Lib.hid (HF.out (fun h => q1 (HP.out.1 h).1.1))
        go_wp2_with fail
        go_ret
        exact ⟨ret_bool HQ.out.symm, below_call b0 b0.size HB.out⟩
      by_cases q2 : cl ≤ 8
      case neg =>
        have HQ : Hid (cntV (TV.tb ⟨cl, a1, n1, c1, bd, a2, n2, c2, hs, a3, n3, c3, br⟩) = false) := Lib.hid (HF.out (fun h => q2 (HP.out.1 h).1.2.1))
        go_wp2_with fail
        go_ret
        exact ⟨ret_bool HQ.out.symm, below_call b0 b0.size HB.out⟩
      by_cases q3 : 1 ≤ (n2 : Int)
      case neg =>
        have HQ : Hid (cntV (TV.tb ⟨cl, a1, n1, c1, bd, a2, n2, c2, hs, a3, n3, c3, br⟩) = false) := Lib.hid (HF.out (fun h => q3 (HP.out.1 h).1.2.2.1))
        go_wp2_with fail
        go_ret
        exact ⟨ret_bool HQ.out.symm, below_call b0 b0.size HB.out⟩
      by_cases q4 : (n2 : Int) ≤ 5
      case neg =>
        have HQ : Hid (cntV (TV.tb ⟨cl, a1, n1, c1, bd, a2, n2, c2, hs, a3, n3, c3, br⟩) = false) := Lib.hid (HF.out (fun h => q4 (HP.out.1 h).1.2.2.2.1))
        go_wp2_with fail
        go_ret
        exact ⟨ret_bool HQ.out.symm, below_call b0 b0.size HB.out⟩
      by_cases q5 : (n3 : Int) = (n2 : Int)
      case neg =>
        have HQ : Hid (cntV (TV.tb ⟨cl, a1, n1, c1, bd, a2, n2, c2, hs, a3, n3, c3, br⟩) = false) := Lib.hid (HF.out (fun h => q5 (HP.out.1 h).1.2.2.2.2.1))
        have q5' : ((n3 : Int) == (n2 : Int)) = false := by simpa using q5
        go_wp2_with fail
        go_ret
        exact ⟨ret_bool HQ.out.symm, below_call b0 b0.size HB.out⟩
      have q5' : ((n3 : Int) == (n2 : Int)) = true := by simpa using q5
      by_cases q6 : 1 ≤ (n1 : Int)
      case neg =>
        have HQ : Hid (cntV (TV.tb ⟨cl, a1, n1, c1, bd, a2, n2, c2, hs, a3, n3, c3, br⟩) = false) := Lib.hid (HF.out (fun h => q6 (HP.out.1 h).1.2.2.2.2.2.1))
        clear q5
        go_wp2_with fail
        go_ret
        exact ⟨ret_bool HQ.out.symm, below_call b0 b0.size HB.out⟩
      by_cases q7 : (n1 : Int) ≤ 60
      case neg =>
        have HQ : Hid (cntV (TV.tb ⟨cl, a1, n1, c1, bd, a2, n2, c2, hs, a3, n3, c3, br⟩) = false) := Lib.hid (HF.out (fun h => q7 (HP.out.1 h).1.2.2.2.2.2.2))
        clear q5
        go_wp2_with fail
        go_ret
        exact ⟨ret_bool HQ.out.symm, below_call b0 b0.size HB.out⟩
      have HQ : Hid (cntV (TV.tb ⟨cl, a1, n1, c1, bd, a2, n2, c2, hs, a3, n3, c3, br⟩) = true) := Lib.hid (by
        rw [← HR.out, HE1.out]; exact ⟨q1, q2, q3, q4, q5, q6, q7⟩)
      clear q5
      go_wp2_with fail
      go_ret
      exact ⟨ret_bool HQ.out.symm, below_call b0 b0.size HB.out⟩
set_option maxHeartbeats 4000000 in
theorem refNexts_any (T : TV) (w : World) (hT : T.ok w) (hn : T.n2 ≤ 100) (hr : ∀ h ∈ T.hs, h.n ≤ 100) :
    Calls Tryd.prog 78 #[T.v] w fun e w' => e = .returned (.bool (nextB T.tb)) ∧ Below w.heap.size w w' := by
  have HB0 := Lib.hid (box_new w T)
  have HF : Hid (∀ h ∈ T.hs, ∀ v ∈ h.l, stB T.tb v = false → nextB T.tb = false) := Lib.hid (fun h hh v hv e => nextB_no (t := T.tb) (List.mem_map.2 ⟨h, hh, rfl⟩) hv e)
  have HY : Hid ((∀ h ∈ T.hs, h.l.all (stB T.tb) = true) → nextB T.tb = true) := Lib.hid (fun h => nextB_yes (fun r hr => by
    obtain ⟨x, hx, rfl⟩ := List.mem_map.1 hr
    exact h x hx))
  have HSt : Hid (∀ v, stB T.tb v = (decide (0 ≤ v) && decide (v < T.n2))) := Lib.hid (fun v => by
    unfold stB
    rw [show T.tb.nx.length = T.n2 by unfold TV.tb; simp only [listsOf_len]; exact hT.r2.1])
  generalize T.tb = t at *
  obtain ⟨cl, a1, n1, c1, bd, a2, n2, c2, hs, a3, n3, c3, br⟩ := T
  simp only [TV.v] at *
  have BR := Lib.hid hr
  have HN := Lib.hid (hT.r2.on (below_new w (.cells #[.int .i64 cl, .slice a1 n1 c1, .slice a2 n2 c2, .slice a3 n3 c3] 26)))
  clear hT hr
  go_enter Tryd.func78, Tryd.ntmps78
  go_wp2_with fail
  have b0 := below_new w (.cells #[.int .i64 cl, .slice a1 n1 c1, .slice a2 n2 c2, .slice a3 n3 c3] 26)
  generalize w.alloc (.cells #[.int .i64 cl, .slice a1 n1 c1, .slice a2 n2 c2, .slice a3 n3 c3] 26) = W at *
  have hbs := b0.size
  go_loopw [3] (fun vi wr => ∃ (k : Nat), k ≤ n2 ∧ vi = .int .i64 k ∧ Hid (Below W.heap.size W wr) ∧ Hid (∀ h ∈ hs.take k, h.l.all (stB t) = true)) (fun vi _ => n2 - (intOf vi).toNat)
  case atStart => exact ⟨0, Nat.zero_le _, rfl, Lib.hid (Below.refl _ _), Lib.hid (by simp)⟩
  case round =>
    obtain ⟨k, hk, rfl, HB, HE⟩ := hrel
    obtain ⟨_, p0, p1, p2, p3⟩ := HB0.out.on HB.out
    simp only [] at p0 p1 p2 p3
    by_cases hlt : k < n2
    · have HNW := Lib.hid (HN.out.on HB.out)
      have kl : k < hs.length := by rw [HN.out.1]; exact hlt
      obtain ⟨b, o, rfl, hbl, q0, qr, _⟩ := HNW.out.at kl
      have HX := Lib.hid (List.getElem_mem kl)
      have HT : Hid (∀ h ∈ hs.take (k + 1), h ∈ hs.take k ∨ h = hs[k]) := Lib.hid (fun h hh => by
        rw [List.take_succ_eq_append_getElem kl] at hh
        rcases List.mem_append.1 hh with h1 | h1
        · exact .inl h1
        · exact .inr (List.mem_singleton.1 h1))
      have hxb := BR.out _ HX.out
      have HFx := Lib.hid (HF.out _ HX.out)
      generalize hs[k] = x at *
      obtain ⟨xa, xn, xc, xs⟩ := x
      simp only [] at q0 hxb qr HFx
      have HRX := Lib.hid qr
      clear qr
      rename World => w0
      go_wp2_with fail
      go_loopw [4] (fun vj wr => ∃ (j : Nat), j ≤ xn ∧ vj = .int .i64 j ∧ Hid (Below w0.heap.size w0 wr) ∧ Hid ((xs.take j).all (stB t) = true)) (fun vj _ => xn - (intOf vj).toNat)
      case atStart => exact ⟨0, Nat.zero_le _, rfl, Lib.hid (Below.refl _ _), Lib.hid (by simp)⟩
      case round =>
        obtain ⟨j, hj, rfl, HBj, HEj⟩ := hrel
        have HBw := Lib.hid (below_call HB.out HB.out.size HBj.out)
        replace p0 := kept_cell HBj.out p0
        replace p1 := kept_cell HBj.out p1
        replace p2 := kept_cell HBj.out p2
        replace p3 := kept_cell HBj.out p3
        replace q0 := kept_cell HBj.out q0
        by_cases hjn : j < xn
        · obtain ⟨bb, oo, rfl, _, r0⟩ := (HRX.out.on HBj.out).at (k := j) (by have := HRX.out.1; omega)
          have jl : j < xs.length := by have := HRX.out.1; omega
          have HA : Hid ((xs.take (j + 1)).all (stB t) = ((xs.take j).all (stB t) && stB t xs[j])) := Lib.hid (by rw [List.take_succ_eq_append_getElem jl, List.all_append]; simp)
          have HV := Lib.hid (List.getElem_mem jl)
          generalize xs[j] = y at *
          by_cases h1 : y < 0
          · have HR := Lib.hid (HFx.out y HV.out (by rw [HSt.out, decide_eq_false (by omega)]; rfl))
            clear HA HV HE HT HEj
            go_wp2_with fail
            go_quiet (fail)
            go_wp2_with fail
            go_ret
            exact ⟨ret_bool HR.out.symm, below_drewN (below_call b0 hbs HBw.out) _⟩
          · have h1' : decide (y < 0) = false := decide_eq_false h1
            by_cases h2 : (n2 : Int) ≤ y
            · have HR := Lib.hid (HFx.out y HV.out (by rw [HSt.out, decide_eq_true (by omega), decide_eq_false (by omega)]; rfl))
              have h2' : decide (y ≥ (n2 : Int)) = true := decide_eq_true h2
              clear HA HV HE HT HEj h1
              go_wp2_with fail
              go_quiet (fail)
              go_wp2_with fail
              go_ret
              exact ⟨ret_bool HR.out.symm, below_drewN (below_call b0 hbs HBw.out) _⟩
            · have h2' : decide (y ≥ (n2 : Int)) = false := decide_eq_false h2
              have h3' : decide ((n2 : Int) ≤ y) = false := decide_eq_false h2
              have HEj2 : Hid ((xs.take (j + 1)).all (stB t) = true) := Lib.hid (by rw [HA.out, HEj.out, HSt.out, decide_eq_true (by omega), decide_eq_true (by omega)]; rfl)
              clear HA HV HEj h1 h2
              go_wp2_with fail
              go_quiet (fail)
              go_wp2_with fail
              go_roundw
              case rel => exact ⟨j + 1, by omega, by go_num, Lib.hid (below_drewN HBj.out _), HEj2⟩
              case measure => simp [intOf]; omega
        · have HE2 : Hid (∀ h ∈ hs.take (k + 1), h.l.all (stB t) = true) := Lib.hid (fun h hh => by
            rcases HT.out h hh with h1 | h1
            · exact HE.out h h1
            · subst h1
              have h2 := HEj.out
              rwa [List.take_of_length_le (by have := HRX.out.1; omega)] at h2)
          clear HE HT HEj
          go_wp2_with fail
          go_roundw
          case rel => exact ⟨k + 1, by omega, by go_num, HBw, HE2⟩
          case measure => simp [intOf]; omega
    · have HR : Hid (nextB t = true) := Lib.hid (HY.out (by
        have h := HE.out
        rwa [List.take_of_length_le (by rw [HN.out.1]; omega)] at h))
      go_wp2_with fail
      go_ret
      exact ⟨ret_bool HR.out.symm, below_call b0 hbs HB.out⟩
end Go.Proofs.YtbnconieedgcmaaDoor
