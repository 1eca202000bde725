/- Joined: RVal1 RVal2. -/
import Derived.Test.YtnilejdokgagbaaDoorKVal
import Derived.Test.YtnilejdokgagbaaDoorKFr
import Derived.BigRegion
/- What counts and nexts of the document's valid return. -/
namespace Go.Proofs.YtnilejdokgagbaaDoor
open Go.RowKit Go.BigFrame
set_option linter.unusedVariables false
set_option maxRecDepth 4000
set_option linter.unusedSimpArgs false

set_option maxHeartbeats 4000000 in
theorem refCounts_any (T : TV) (w : World) (hT : T.ok w) :
    Calls Tryd.prog 58 #[T.v] w fun e w' => e = .returned (.bool (cntV T.tb)) ∧ Below w.heap.size w w' := by
  obtain ⟨cl, a1, n1, c1, bd, a2, n2, c2, hs, a3, n3, c3, br⟩ := T
  simp only [TV.v] at *
  have B1 : n1 ≤ 9223372036854775807 := by have := hT.s1.2; unfold maxLen at this; simp only [] at this; omega
  have B2 : n2 ≤ 9223372036854775807 := by have := hT.s2.2; unfold maxLen at this; simp only [] at this; omega
  have B3 : n3 ≤ 9223372036854775807 := by have := hT.s3.2; unfold maxLen at this; simp only [] at this; omega
  have BR : Hid (∀ h ∈ hs, h.n ≤ 9223372036854775807) := Lib.hid (fun h hh => by
    have := (hT.r2.2.2 h hh).2.2
    unfold maxLen at this
    omega)
  have L1 : bd.length = n1 := hT.r1.1
  have L2 : hs.length = n2 := hT.r2.1
  have L3 : br.length = n3 := hT.r3.1
  have HC := Lib.hid (cntV_iff (TV.tb ⟨cl, a1, n1, c1, bd, a2, n2, c2, hs, a3, n3, c3, br⟩))
  have HF : Hid (¬ CntV (TV.tb ⟨cl, a1, n1, c1, bd, a2, n2, c2, hs, a3, n3, c3, br⟩) → cntV (TV.tb ⟨cl, a1, n1, c1, bd, a2, n2, c2, hs, a3, n3, c3, br⟩) = false) := Lib.hid (fun h => by
    cases hb : cntV (TV.tb ⟨cl, a1, n1, c1, bd, a2, n2, c2, hs, a3, n3, c3, br⟩) with
    | false => rfl
    | true => exact absurd (HC.out.1 hb) h)
  have HP : Hid (CntV (TV.tb ⟨cl, a1, n1, c1, bd, a2, n2, c2, hs, a3, n3, c3, br⟩) ↔ ((1 ≤ cl ∧ cl ≤ 8 ∧ 1 ≤ (n2 : Int) ∧ (n2 : Int) ≤ 5 ∧ (n3 : Int) = n2 ∧ 1 ≤ (n1 : Int) ∧ (n1 : Int) ≤ 60) ∧ ∀ h ∈ hs, (h.n : Int) = cl)) := Lib.hid (by
    have e : ∀ h ∈ hs, h.l.length = h.n := fun h hh => (hT.r2.2.2 h hh).1.1
    constructor
    · rintro ⟨a, b, c, d, e1, f, g, r⟩
      simp only [TV.tb, listsOf_len] at a b c d e1 f g r
      refine ⟨⟨a, b, by omega, by omega, by omega, by omega, by omega⟩, fun h hh => ?_⟩
      have := r h.l (List.mem_map.2 ⟨h, hh, rfl⟩)
      rw [e h hh] at this
      exact this
    · rintro ⟨⟨a, b, c, d, i, f, g⟩, r⟩
      refine ⟨a, b, ?_, ?_, ?_, ?_, ?_, ?_⟩ <;> simp only [TV.tb, listsOf_len] <;> try omega
      intro r' hr'
      obtain ⟨h, hh, rfl⟩ := List.mem_map.1 hr'
      rw [e h hh]
      exact r h hh)
  have HN := Lib.hid (hT.r2.on (below_new w (.cells #[.int .i64 cl, .slice a1 n1 c1, .slice a2 n2 c2, .slice a3 n3 c3] 26)))
  have HX := Lib.hid (box_new w ⟨cl, a1, n1, c1, bd, a2, n2, c2, hs, a3, n3, c3, br⟩)
  have HE1 : Hid (((((((decide (cl ≥ 1) && decide (cl ≤ 8)) && decide ((n2 : Int) ≥ 1)) && decide ((n2 : Int) ≤ 5)) && ((n3 : Int) == (n2 : Int))) && decide ((n1 : Int) ≥ 1)) && decide ((n1 : Int) ≤ 60)) = true ↔ (1 ≤ cl ∧ cl ≤ 8 ∧ 1 ≤ (n2 : Int) ∧ (n2 : Int) ≤ 5 ∧ (n3 : Int) = n2 ∧ 1 ≤ (n1 : Int) ∧ (n1 : Int) ≤ 60)) := Lib.hid (by simp [and_assoc])
  clear hT L1 L2 L3
  go_enter Tryd.func58, Tryd.ntmps58
  go_wp2_with fail
  have b0 := below_new w (.cells #[.int .i64 cl, .slice a1 n1 c1, .slice a2 n2 c2, .slice a3 n3 c3] 26)
  generalize w.alloc (.cells #[.int .i64 cl, .slice a1 n1 c1, .slice a2 n2 c2, .slice a3 n3 c3] 26) = W at *
  go_loopw [4] (fun i wr => ∃ (k : Nat), k ≤ n2 ∧ i = .int .i64 k ∧ Hid (Below W.heap.size W wr) ∧ Hid (∀ h ∈ hs.take k, (h.n : Int) = cl)) (fun i _ => n2 - (intOf i).toNat)
  case atStart => exact ⟨0, Nat.zero_le _, rfl, Lib.hid (Below.refl _ _), Lib.hid (by simp)⟩
  case round =>
    obtain ⟨k, hk, rfl, HB, HE⟩ := hrel
    obtain ⟨_, p0, p1, p2, p3⟩ := HX.out.on HB.out
    simp only [] at p0 p1 p2 p3
    by_cases hlt : k < n2
    · have kl : k < hs.length := by rw [HN.out.1]; exact hlt
      obtain ⟨b, o, rfl, _, q0, _, _⟩ := (HN.out.on HB.out).at kl
      have HXm := Lib.hid (List.getElem_mem kl)
      have HT : Hid (∀ h ∈ hs.take (k + 1), h ∈ hs.take k ∨ h = hs[k]) := Lib.hid (fun h hh => by
        rw [List.take_succ_eq_append_getElem kl] at hh
        rcases List.mem_append.1 hh with h1 | h1
        · exact .inl h1
        · exact .inr (List.mem_singleton.1 h1))
      have hxb := BR.out _ HXm.out
      generalize hs[k] = x at *
      obtain ⟨xa, xn, xc, xs⟩ := x
      simp only [] at q0 hxb
      by_cases hx : (xn : Int) = cl
      · have hx' : ((xn : Int) != cl) = false := by simpa using hx
        have HE' : Hid (∀ h ∈ hs.take (k + 1), (h.n : Int) = cl) := Lib.hid (fun h hh => by
          rcases HT.out h hh with h1 | h1
          · exact HE.out h h1
          · subst h1; exact hx)
        clear hx HE HT HXm
        go_wp2_with fail
        go_quiet (fail)
        go_wp2_with fail
        go_roundw
        case rel => exact ⟨k + 1, by omega, by go_num, Lib.hid (below_drewN HB.out _), HE'⟩
        case measure => simp [intOf]; omega
      · have hx' : ((xn : Int) != cl) = true := by simpa using hx
        have HR := Lib.hid (HF.out (fun h => hx ((HP.out.1 h).2 _ HXm.out)))
        clear hx HE HT HXm
        go_wp2_with fail
        go_quiet (fail)
        go_wp2_with fail
        go_ret
        exact ⟨ret_bool HR.out.symm, below_drewN (below_call b0 b0.size HB.out) _⟩
    · have HR : Hid ((((((((decide (cl ≥ 1) && decide (cl ≤ 8)) && decide ((n2 : Int) ≥ 1)) && decide ((n2 : Int) ≤ 5)) && ((n3 : Int) == (n2 : Int))) && decide ((n1 : Int) ≥ 1)) && decide ((n1 : Int) ≤ 60))) = cntV (TV.tb ⟨cl, a1, n1, c1, bd, a2, n2, c2, hs, a3, n3, c3, br⟩)) := Lib.hid (by
        have h := HE.out
        rw [List.take_of_length_le (by rw [HN.out.1]; omega)] at h
        rw [Bool.eq_iff_iff, HE1.out, HC.out, HP.out]
        exact ⟨fun a => ⟨a, h⟩, fun a => a.1⟩)
      by_cases q1 : 1 ≤ cl
      case neg =>
        have HQ : Hid (cntV (TV.tb ⟨cl, a1, n1, c1, bd, a2, n2, c2, hs, a3, n3, c3, br⟩) = false) := Lib.hid (HF.out (fun h => q1 (HP.out.1 h).1.1))
        go_wp2_with fail
        go_ret
        exact ⟨ret_bool HQ.out.symm, below_call b0 b0.size HB.out⟩
      by_cases q2 : cl ≤ 8
      case neg =>
        have HQ : Hid (cntV (TV.tb ⟨cl, a1, n1, c1, bd, a2, n2, c2, hs, a3, n3, c3, br⟩) = false) := Lib.hid (HF.out (fun h => q2 (HP.out.1 h).1.2.1))
        go_wp2_with fail
        go_ret
        exact ⟨ret_bool HQ.out.symm, below_call b0 b0.size HB.out⟩
      by_cases q3 : 1 ≤ (n2 : Int)
      case neg =>
        have HQ : Hid (cntV (TV.tb ⟨cl, a1, n1, c1, bd, a2, n2, c2, hs, a3, n3, c3, br⟩) = false) := Lib.hid (HF.out (fun h => q3 (HP.out.1 h).1.2.2.1))
        go_wp2_with fail
        go_ret
        exact ⟨ret_bool HQ.out.symm, below_call b0 b0.size HB.out⟩
      by_cases q4 : (n2 : Int) ≤ 5
      case neg =>
        have HQ : Hid (cntV (TV.tb ⟨cl, a1, n1, c1, bd, a2, n2, c2, hs, a3, n3, c3, br⟩) = false) := Lib.hid (HF.out (fun h => q4 (HP.out.1 h).1.2.2.2.1))
        go_wp2_with fail
        go_ret
        exact ⟨ret_bool HQ.out.symm, below_call b0 b0.size HB.out⟩
      by_cases q5 : (n3 : Int) = (n2 : Int)
      case neg =>
        have HQ : Hid (cntV (TV.tb ⟨cl, a1, n1, c1, bd, a2, n2, c2, hs, a3, n3, c3, br⟩) = false) := Lib.hid (HF.out (fun h => q5 (HP.out.1 h).1.2.2.2.2.1))
        have q5' : ((n3 : Int) == (n2 : Int)) = false := by simpa using q5
        go_wp2_with fail
        go_ret
        exact ⟨ret_bool HQ.out.symm, below_call b0 b0.size HB.out⟩
      have q5' : ((n3 : Int) == (n2 : Int)) = true := by simpa using q5
      by_cases q6 : 1 ≤ (n1 : Int)
      case neg =>
        have HQ : Hid (cntV (TV.tb ⟨cl, a1, n1, c1, bd, a2, n2, c2, hs, a3, n3, c3, br⟩) = false) := Lib.hid (HF.out (fun h => q6 (HP.out.1 h).1.2.2.2.2.2.1))
        clear q5
        go_wp2_with fail
        go_ret
        exact ⟨ret_bool HQ.out.symm, below_call b0 b0.size HB.out⟩
      by_cases q7 : (n1 : Int) ≤ 60
      case neg =>
        have HQ : Hid (cntV (TV.tb ⟨cl, a1, n1, c1, bd, a2, n2, c2, hs, a3, n3, c3, br⟩) = false) := Lib.hid (HF.out (fun h => q7 (HP.out.1 h).1.2.2.2.2.2.2))
        clear q5
        go_wp2_with fail
        go_ret
        exact ⟨ret_bool HQ.out.symm, below_call b0 b0.size HB.out⟩
      have HQ : Hid (cntV (TV.tb ⟨cl, a1, n1, c1, bd, a2, n2, c2, hs, a3, n3, c3, br⟩) = true) := Lib.hid (by
        rw [← HR.out, HE1.out]; exact ⟨q1, q2, q3, q4, q5, q6, q7⟩)
      clear q5
      go_wp2_with fail
      go_ret
      exact ⟨ret_bool HQ.out.symm, below_call b0 b0.size HB.out⟩
set_option maxHeartbeats 4000000 in
theorem refNexts_any (T : TV) (w : World) (hT : T.ok w) (hn : T.n2 ≤ 100) (hr : ∀ h ∈ T.hs, h.n ≤ 100) :
    Calls Tryd.prog 60 #[T.v] w fun e w' => e = .returned (.bool (nextB T.tb)) ∧ Below w.heap.size w w' := by
  have HB0 := Lib.hid (box_new w T)
  have HF : Hid (∀ h ∈ T.hs, ∀ v ∈ h.l, stB T.tb v = false → nextB T.tb = false) := Lib.hid (fun h hh v hv e => nextB_no (t := T.tb) (List.mem_map.2 ⟨h, hh, rfl⟩) hv e)
  have HY : Hid ((∀ h ∈ T.hs, h.l.all (stB T.tb) = true) → nextB T.tb = true) := Lib.hid (fun h => nextB_yes (fun r hr => by
    obtain ⟨x, hx, rfl⟩ := List.mem_map.1 hr
    exact h x hx))
  have HSt : Hid (∀ v, stB T.tb v = (decide (0 ≤ v) && decide (v < T.n2))) := Lib.hid (fun v => by
    unfold stB
    rw [show T.tb.nx.length = T.n2 by unfold TV.tb; simp only [listsOf_len]; exact hT.r2.1])
  generalize T.tb = t at *
  obtain ⟨cl, a1, n1, c1, bd, a2, n2, c2, hs, a3, n3, c3, br⟩ := T
  simp only [TV.v] at *
  have BR := Lib.hid hr
  have HN := Lib.hid (hT.r2.on (below_new w (.cells #[.int .i64 cl, .slice a1 n1 c1, .slice a2 n2 c2, .slice a3 n3 c3] 26)))
  clear hT hr
  go_enter Tryd.func60, Tryd.ntmps60
  go_wp2_with fail
  have b0 := below_new w (.cells #[.int .i64 cl, .slice a1 n1 c1, .slice a2 n2 c2, .slice a3 n3 c3] 26)
  generalize w.alloc (.cells #[.int .i64 cl, .slice a1 n1 c1, .slice a2 n2 c2, .slice a3 n3 c3] 26) = W at *
  have hbs := b0.size
  go_loopw [3] (fun vi wr => ∃ (k : Nat), k ≤ n2 ∧ vi = .int .i64 k ∧ Hid (Below W.heap.size W wr) ∧ Hid (∀ h ∈ hs.take k, h.l.all (stB t) = true)) (fun vi _ => n2 - (intOf vi).toNat)
  case atStart => exact ⟨0, Nat.zero_le _, rfl, Lib.hid (Below.refl _ _), Lib.hid (by simp)⟩
  case round =>
    obtain ⟨k, hk, rfl, HB, HE⟩ := hrel
    obtain ⟨_, p0, p1, p2, p3⟩ := HB0.out.on HB.out
    simp only [] at p0 p1 p2 p3
    by_cases hlt : k < n2
    · have HNW := Lib.hid (HN.out.on HB.out)
      have kl : k < hs.length := by rw [HN.out.1]; exact hlt
      obtain ⟨b, o, rfl, hbl, q0, qr, _⟩ := HNW.out.at kl
      have HX := Lib.hid (List.getElem_mem kl)
      have HT : Hid (∀ h ∈ hs.take (k + 1), h ∈ hs.take k ∨ h = hs[k]) := Lib.hid (fun h hh => by
        rw [List.take_succ_eq_append_getElem kl] at hh
        rcases List.mem_append.1 hh with h1 | h1
        · exact .inl h1
        · exact .inr (List.mem_singleton.1 h1))
      have hxb := BR.out _ HX.out
      have HFx := Lib.hid (HF.out _ HX.out)
      generalize hs[k] = x at *
      obtain ⟨xa, xn, xc, xs⟩ := x
      simp only [] at q0 hxb qr HFx
      have HRX := Lib.hid qr
      clear qr
      rename World => w0
      go_wp2_with fail
      go_loopw [4] (fun vj wr => ∃ (j : Nat), j ≤ xn ∧ vj = .int .i64 j ∧ Hid (Below w0.heap.size w0 wr) ∧ Hid ((xs.take j).all (stB t) = true)) (fun vj _ => xn - (intOf vj).toNat)
      case atStart => exact ⟨0, Nat.zero_le _, rfl, Lib.hid (Below.refl _ _), Lib.hid (by simp)⟩
      case round =>
        obtain ⟨j, hj, rfl, HBj, HEj⟩ := hrel
        have HBw := Lib.hid (below_call HB.out HB.out.size HBj.out)
        replace p0 := kept_cell HBj.out p0
        replace p1 := kept_cell HBj.out p1
        replace p2 := kept_cell HBj.out p2
        replace p3 := kept_cell HBj.out p3
        replace q0 := kept_cell HBj.out q0
        by_cases hjn : j < xn
        · obtain ⟨bb, oo, rfl, _, r0⟩ := (HRX.out.on HBj.out).at (k := j) (by have := HRX.out.1; omega)
          have jl : j < xs.length := by have := HRX.out.1; omega
          have HA : Hid ((xs.take (j + 1)).all (stB t) = ((xs.take j).all (stB t) && stB t xs[j])) := Lib.hid (by rw [List.take_succ_eq_append_getElem jl, List.all_append]; simp)
          have HV := Lib.hid (List.getElem_mem jl)
          generalize xs[j] = y at *
          by_cases h1 : y < 0
          · have HR := Lib.hid (HFx.out y HV.out (by rw [HSt.out, decide_eq_false (by omega)]; rfl))
            clear HA HV HE HT HEj
            go_wp2_with fail
            go_quiet (fail)
            go_wp2_with fail
            go_ret
            exact ⟨ret_bool HR.out.symm, below_drewN (below_call b0 hbs HBw.out) _⟩
          · have h1' : decide (y < 0) = false := decide_eq_false h1
            by_cases h2 : (n2 : Int) ≤ y
            · have HR := Lib.hid (HFx.out y HV.out (by rw [HSt.out, decide_eq_true (by omega), decide_eq_false (by omega)]; rfl))
              have h2' : decide (y ≥ (n2 : Int)) = true := decide_eq_true h2
              clear HA HV HE HT HEj h1
              go_wp2_with fail
              go_quiet (fail)
              go_wp2_with fail
              go_ret
              exact ⟨ret_bool HR.out.symm, below_drewN (below_call b0 hbs HBw.out) _⟩
            · have h2' : decide (y ≥ (n2 : Int)) = false := decide_eq_false h2
              have h3' : decide ((n2 : Int) ≤ y) = false := decide_eq_false h2
              have HEj2 : Hid ((xs.take (j + 1)).all (stB t) = true) := Lib.hid (by rw [HA.out, HEj.out, HSt.out, decide_eq_true (by omega), decide_eq_true (by omega)]; rfl)
              clear HA HV HEj h1 h2
              go_wp2_with fail
              go_quiet (fail)
              go_wp2_with fail
              go_roundw
              case rel => exact ⟨j + 1, by omega, by go_num, Lib.hid (below_drewN HBj.out _), HEj2⟩
              case measure => simp [intOf]; omega
        · have HE2 : Hid (∀ h ∈ hs.take (k + 1), h.l.all (stB t) = true) := Lib.hid (fun h hh => by
            rcases HT.out h hh with h1 | h1
            · exact HE.out h h1
            · subst h1
              have h2 := HEj.out
              rwa [List.take_of_length_le (by have := HRX.out.1; omega)] at h2)
          clear HE HT HEj
          go_wp2_with fail
          go_roundw
          case rel => exact ⟨k + 1, by omega, by go_num, HBw, HE2⟩
          case measure => simp [intOf]; omega
    · have HR : Hid (nextB t = true) := Lib.hid (HY.out (by
        have h := HE.out
        rwa [List.take_of_length_le (by rw [HN.out.1]; omega)] at h))
      go_wp2_with fail
      go_ret
      exact ⟨ret_bool HR.out.symm, below_call b0 hbs HB.out⟩
end Go.Proofs.YtnilejdokgagbaaDoor

/- What apart of the document's valid returns. -/
namespace Go.Proofs.YtnilejdokgagbaaDoor
open Go.RowKit Go.BigFrame
set_option linter.unusedVariables false
set_option maxRecDepth 4000
set_option linter.unusedSimpArgs false

theorem info24 : (Tryd.prog.info? 24).map (fun i => (i.zero, i.size, i.bytes)) = some (some (.slice none 0 0), 1, 24) := by kernel_rfl
def qcells (n k : Nat) (B : Nat → Nat) : List Value := (List.range n).map fun a => if a < k then Value.slice (some ⟨B a, 0, none⟩) n n else .slice none 0 0
def mrowQ (n : Nat) (f : Nat → Bool) : List Value := (List.range n).map fun b => Value.bool (f b)
/-- A square of bools that the call builds: k of its rows are made. -/
structure OwnQ (w : World) (base og n k : Nat) (B : Nat → Nat) (M : Nat → Nat → Bool) : Prop where
  out : w.ownsRow base 24 1 (.slice (some ⟨og, 0, none⟩) n n) n (qcells n k B)
  inn : ∀ a < k, w.ownsRow base 4 1 (.slice (some ⟨B a, 0, none⟩) n n) n (mrowQ n (M a))
  ne : ∀ a < k, ∀ b < k, a ≠ b → B a ≠ B b
theorem OwnQ.on {w w' : World} {base og n k : Nat} {B : Nat → Nat} {M : Nat → Nat → Bool} (h : OwnQ w base og n k B M) (g : Below w.heap.size w w') : OwnQ w' base og n k B M :=
  ⟨own_below h.out g, fun a ha => own_below (h.inn a ha) g, h.ne⟩
theorem OwnQ.cellO {w : World} {base og n k : Nat} {B : Nat → Nat} {M : Nat → Nat → Bool} (h : OwnQ w base og n k B M) {a : Nat} (ha : a < k) (hn : a < n) : w.cell? ⟨og, a, none⟩ = some (.slice (some ⟨B a, 0, none⟩) n n) := by
  rw [h.out.cellAt a (by omega)]
  unfold qcells
  rw [List.getElem?_map, List.getElem?_range hn]
  simp [ha]
theorem OwnQ.cellI {w : World} {base og n k : Nat} {B : Nat → Nat} {M : Nat → Nat → Bool} (h : OwnQ w base og n k B M) {a b : Nat} (ha : a < k) (hb : b < n) : w.cell? ⟨B a, b, none⟩ = some (.bool (M a b)) := by
  rw [(h.inn a ha).cellAt b (by omega)]
  unfold mrowQ
  rw [List.getElem?_map, List.getElem?_range hb]
  rfl
theorem OwnQ.geO {w : World} {base og n k : Nat} {B : Nat → Nat} {M : Nat → Nat → Bool} (h : OwnQ w base og n k B M) : base ≤ og ∧ og < w.heap.size := h.out.lt og rfl
theorem OwnQ.geI {w : World} {base og n k : Nat} {B : Nat → Nat} {M : Nat → Nat → Bool} (h : OwnQ w base og n k B M) {a : Nat} (ha : a < k) : base ≤ B a ∧ B a < w.heap.size := (h.inn a ha).lt (B a) rfl
def updB (B : Nat → Nat) (k g : Nat) : Nat → Nat := fun a => if a = k then g else B a
def updR (M : Nat → Nat → Bool) (k : Nat) : Nat → Nat → Bool := fun a b => if a = k then false else M a b
def updM (M : Nat → Nat → Bool) (x y : Nat) (v : Bool) : Nat → Nat → Bool := fun a b => if a = x ∧ b = y then v else M a b
theorem list_set_map {α β : Type} (n : Nat) (f g : Nat → β) (k : Nat) (v : β) (hk : g k = v) (h : ∀ a, a ≠ k → g a = f a) : ((List.range n).map f).set k v = (List.range n).map g := by
  apply List.ext_getElem?
  intro i
  rw [List.getElem?_set, List.getElem?_map, List.getElem?_map]
  by_cases hi : i < n
  · rw [List.getElem?_range hi]
    by_cases e : k = i
    · subst e; simp [hi, hk]
    · simp [e, h i (fun e' => e e'.symm)]
  · rw [List.getElem?_eq_none (by simpa using hi)]
    by_cases e : k = i
    · subst e; simp [hi]
    · simp [e]
theorem OwnQ.row {w w' : World} {base og n k g : Nat} {B : Nat → Nat} {M : Nat → Nat → Bool} (h : OwnQ w base og n k B M) (hb : base ≤ w.heap.size) (hr : w'.ownsRow w.heap.size 4 1 (.slice (some ⟨g, 0, none⟩) n n) n (mrowQ n (fun _ => false))) (hB : Below w.heap.size w w') :
    OwnQ (w'.setCell ⟨og, k, none⟩ (.slice (some ⟨g, 0, none⟩) n n)) base og n (k + 1) (updB B k g) (updR M k) := by
  have hg := hr.lt g rfl
  have ho := own_below h.out hB
  refine ⟨?_, fun a ha => ?_, fun a ha b hb' hab => ?_⟩
  · have := (ho.stored k (.slice (some ⟨g, 0, none⟩) n n)).1
    rw [show (qcells n k B).set k (.slice (some ⟨g, 0, none⟩) n n) = qcells n (k + 1) (updB B k g) from list_set_map (α := Nat) n _ _ k _ (by simp [updB]) (fun a ha => by
      unfold updB
      rw [if_neg ha]
      by_cases h1 : a < k
      · rw [if_pos (by omega), if_pos h1]
      · rw [if_neg (by omega), if_neg h1])] at this
    exact this
  · by_cases e : a = k
    · subst e
      have e1 : updB B a g a = g := by simp [updB]
      have e2 : updR M a a = fun _ => false := by funext b; simp [updR]
      rw [e1, e2]
      exact ownsRow_setCell_other (a := ⟨og, a, none⟩) (own_base hr hb) (own_apart (g := og) (by decide) hr ho rfl) _
    · have e1 : updB B k g a = B a := by simp [updB, e]
      have e2 : updR M k a = M a := by funext b; simp [updR, e]
      rw [e1, e2]
      have hi := own_below (h.inn a (by omega)) hB
      exact ownsRow_setCell_other (a := ⟨og, k, none⟩) hi (own_apart (g := og) (by decide) hi ho rfl) _
  · unfold updB
    by_cases e1 : a = k
    · by_cases e2 : b = k
      · omega
      · rw [if_pos e1, if_neg e2]
        have := h.geI (a := b) (by omega)
        omega
    · by_cases e2 : b = k
      · rw [if_neg e1, if_pos e2]
        have := h.geI (a := a) (by omega)
        omega
      · rw [if_neg e1, if_neg e2]
        exact h.ne a (by omega) b (by omega) hab
theorem OwnQ.set {w : World} {base og n k : Nat} {B : Nat → Nat} {M : Nat → Nat → Bool} (h : OwnQ w base og n k B M) {x y : Nat} (hx : x < k) (v : Bool) : OwnQ (w.setCell ⟨B x, y, none⟩ (.bool v)) base og n k B (updM M x y v) := by
  have hi := h.inn x hx
  refine ⟨ownsRow_setCell_other (a := ⟨B x, y, none⟩) h.out (own_apart (g := B x) (by decide) h.out hi rfl) _, fun a ha => ?_, h.ne⟩
  by_cases e : a = x
  · subst e
    have := (hi.stored y (.bool v)).1
    rw [show (mrowQ n (M a)).set y (.bool v) = mrowQ n (updM M a y v a) from list_set_map (α := Nat) n _ _ y _ (by simp [updM]) (fun b hb => by simp [updM, hb])] at this
    exact this
  · have e2 : updM M x y v a = M a := by funext b; simp [updM, e]
    rw [e2]
    exact ownsRow_setCell_other (a := ⟨B x, y, none⟩) (h.inn a ha) (by simp [Value.ownBlock]; exact h.ne a ha x hx e) _
/-- The state of a round of the document's apart: round r, row a, column b, class c. -/
structure Ph (t : Tb) (r a b c : Nat) (M : Nat → Nat → Bool) : Prop where
  snd : ∀ x < t.nx.length, ∀ y < t.nx.length, M x y = true → farB t x y = true
  lv : ∀ x < t.nx.length, ∀ y < t.nx.length, far t r x y = true → M x y = true
  rows : ∀ x < a, ∀ y < t.nx.length, far t (r + 1) x y = true → M x y = true
  cols : ∀ y < b, far t (r + 1) a y = true → M a y = true
  cls : ∀ i < c, far t r (nxN t a i) (nxN t b i) = true → M a b = true
theorem Ph.first {t : Tb} {M : Nat → Nat → Bool} (hn : nextB t = true) (h : ∀ x < t.nx.length, ∀ y < t.nx.length, M x y = (brkN t x != brkN t y)) : Ph t 0 0 0 0 M :=
  ⟨fun x hx y hy e => farB_brk hn hx hy (by rw [h x hx y hy] at e; simpa using e), fun x hx y hy e => by rw [h x hx y hy]; exact e, fun x hx => absurd hx (by omega), fun x hx => absurd hx (by omega), fun x hx => absurd hx (by omega)⟩
theorem Ph.step {t : Tb} {r a b c : Nat} {M : Nat → Nat → Bool} (h : Ph t r a b c M) (hn : nextB t = true) (ha : a < t.nx.length) (hb : b < t.nx.length) (hc : c < t.cl.toNat) : Ph t r a b (c + 1) (updM M a b (M a b || M (nxN t a c) (nxN t b c))) := by
  have h0 : 0 < t.nx.length := by omega
  have le : ∀ x y, M x y = true → updM M a b (M a b || M (nxN t a c) (nxN t b c)) x y = true := fun x y e => by
    unfold updM
    by_cases q : x = a ∧ y = b
    · rw [if_pos q, ← q.1, ← q.2, e]; rfl
    · rw [if_neg q]; exact e
  refine ⟨fun x hx y hy e => ?_, fun x hx y hy e => le x y (h.lv x hx y hy e), fun x hx y hy e => le x y (h.rows x hx y hy e), fun y hy e => le a y (h.cols y hy e), fun i hi e => ?_⟩
  · unfold updM at e
    by_cases q : x = a ∧ y = b
    · rw [if_pos q, Bool.or_eq_true] at e
      rw [q.1, q.2]
      rcases e with e | e
      · exact h.snd a ha b hb e
      · exact farB_next hn ha hb hc (h.snd _ (nxN_lt hn h0 a c) _ (nxN_lt hn h0 b c) e)
    · rw [if_neg q] at e; exact h.snd x hx y hy e
  · rcases Nat.lt_succ_iff_lt_or_eq.1 hi with hi | rfl
    · exact le a b (h.cls i hi e)
    · unfold updM
      rw [if_pos ⟨rfl, rfl⟩, h.lv _ (nxN_lt hn h0 a i) _ (nxN_lt hn h0 b i) e, Bool.or_true]
theorem Ph.nextb {t : Tb} {r a b : Nat} {M : Nat → Nat → Bool} (h : Ph t r a b t.cl.toNat M) (ha : a < t.nx.length) (hb : b < t.nx.length) : Ph t r a (b + 1) 0 M :=
  ⟨h.snd, h.lv, h.rows, fun y hy e => by
    rcases Nat.lt_succ_iff_lt_or_eq.1 hy with hy | rfl
    · exact h.cols y hy e
    · rcases far_cases e with e | ⟨i, hi, e⟩
      · exact h.lv a ha y hb e
      · exact h.cls i hi e, fun i hi => absurd hi (by omega)⟩
theorem Ph.nexta {t : Tb} {r a : Nat} {M : Nat → Nat → Bool} (h : Ph t r a t.nx.length 0 M) : Ph t r (a + 1) 0 0 M :=
  ⟨h.snd, h.lv, fun x hx y hy e => by
    rcases Nat.lt_succ_iff_lt_or_eq.1 hx with hx | rfl
    · exact h.rows x hx y hy e
    · exact h.cols y hy e, fun i hi => absurd hi (by omega), fun i hi => absurd hi (by omega)⟩
theorem Ph.nextr {t : Tb} {r : Nat} {M : Nat → Nat → Bool} (h : Ph t r t.nx.length 0 0 M) : Ph t (r + 1) 0 0 0 M :=
  ⟨h.snd, h.rows, fun i hi => absurd hi (by omega), fun i hi => absurd hi (by omega), fun i hi => absurd hi (by omega)⟩
theorem Ph.last {t : Tb} {M : Nat → Nat → Bool} (h : Ph t (t.nx.length * t.nx.length) 0 0 0 M) {x y : Nat} (hx : x < t.nx.length) (hy : y < t.nx.length) : M x y = farB t x y := by
  cases e : farB t x y with
  | true => exact h.lv x hx y hy e
  | false =>
    cases e2 : M x y with
    | false => rfl
    | true => rw [h.snd x hx y hy e2] at e; cases e
/-- The square of what is apart. -/
def OutRq (t : Tb) (n : Nat) (w : World) (e : Ending) (w' : World) : Prop := ∃ (og : Nat) (B : Nat → Nat) (M : Nat → Nat → Bool), e = .returned (.slice (some ⟨og, 0, none⟩) n n) ∧ OwnQ w' w.heap.size og n n B M ∧ (∀ x < n, ∀ y < n, M x y = farB t x y) ∧ Below w.heap.size w w'
set_option maxHeartbeats 16000000 in
theorem refApart_any (T : TV) (w : World) (hT : T.ok w) (hC : CntV T.tb) (hN : nextB T.tb = true) :
    Calls Tryd.prog 61 #[T.v] w (OutRq T.tb T.n2 w) := by
  obtain ⟨i0, hi0, hz0, hz1, hz2⟩ := info_parts info24
  obtain ⟨j0, hj0, hy0, hy1, hy2⟩ := info_parts info4
  have hln : T.tb.nx.length = T.n2 := by unfold TV.tb; simp only [listsOf_len]; exact hT.r2.1
  have n5 : T.n2 ≤ 5 := by have := hC.n2; omega
  have n1 : 1 ≤ T.n2 := by have := hC.n1; omega
  have h3 : T.br.length = T.n3 := hT.r3.1
  have e3 : T.n3 = T.n2 := by have := hC.b1; unfold TV.tb at this; simp only [listsOf_len] at this; have := hT.r2.1; omega
  have K8 : T.cl.toNat ≤ 8 := by have := hC.c2; unfold TV.tb at this; simp only [] at this; omega
  have Kc : T.cl = (T.cl.toNat : Int) := by have := hC.c1; unfold TV.tb at this; simp only [] at this; omega
  have HL := Lib.hid hln
  have HCl : Hid (T.tb.cl.toNat = T.cl.toNat) := Lib.hid rfl
  have HNb := Lib.hid hN
  have HX := Lib.hid (box_new w T)
  have b0 := below_new w (.cells #[.int .i64 T.cl, .slice T.a1 T.n1 T.c1, .slice T.a2 T.n2 T.c2, .slice T.a3 T.n3 T.c3] 26)
  -- what stands at each place
  have HBr : Hid (∀ V, Below w.heap.size w V → ∃ bb ob, T.a3 = some ⟨bb, ob, none⟩ ∧ ∀ a < T.n2, V.cell? ⟨bb, ob + a, none⟩ = some (.bool (brkN T.tb a))) := Lib.hid (fun V g => by
    have r3 := (hT.on g).r3
    obtain ⟨bb, ob, hA, _, _⟩ := r3.at (k := 0) (by omega)
    refine ⟨bb, ob, hA, fun a ha => ?_⟩
    obtain ⟨bb', ob', hA', _, hc⟩ := r3.at (k := a) (by omega)
    rw [hA] at hA'
    injection hA' with hA'
    injection hA' with e1 e2
    subst e1; subst e2
    rw [hc, brkN_at])
  have HNx : Hid (∀ V, Below w.heap.size w V → ∃ bb ob, T.a2 = some ⟨bb, ob, none⟩ ∧ ∀ a < T.n2, ∃ rb ro rc, V.cell? ⟨bb, ob + a, none⟩ = some (.slice (some ⟨rb, ro, none⟩) T.cl.toNat rc) ∧ ∀ c < T.cl.toNat, V.cell? ⟨rb, ro + c, none⟩ = some (.int .i64 (nxN T.tb a c : Nat))) := Lib.hid (fun V g => by
    have r2 := (hT.on g).r2
    have l2 := hT.r2.1
    obtain ⟨bb, ob, hA, _, _⟩ := r2.at (k := 0) (by omega)
    refine ⟨bb, ob, hA, fun a ha => ?_⟩
    have al : a < T.hs.length := by omega
    obtain ⟨bb', ob', hA', _, hc, hri, _⟩ := r2.at al
    rw [hA] at hA'
    injection hA' with hA'
    injection hA' with e1 e2
    subst e1; subst e2
    have hrl : (T.hs[a].l.length : Int) = T.tb.cl := hC.rw _ (List.mem_map.2 ⟨_, List.getElem_mem al, rfl⟩)
    have hrn := hri.1
    have hcl : T.tb.cl = T.cl := rfl
    have hnn : T.hs[a].n = T.cl.toNat := by omega
    have c1 := hC.c1
    obtain ⟨rb, ro, hra, _, _⟩ := hri.at (k := 0) (by omega)
    refine ⟨rb, ro, T.hs[a].c, ?_, fun c hcc => ?_⟩
    · rw [hc, hra, hnn]
    · have cl' : c < T.hs[a].l.length := by omega
      obtain ⟨rb', ro', hra', _, hcell⟩ := hri.at cl'
      rw [hra] at hra'
      injection hra' with hra'
      injection hra' with e1 e2
      subst e1; subst e2
      rw [hcell]
      have e := nxI_at (T := T) al c
      rw [getD_ix cl'] at e
      have hb := nextB_all hN (List.mem_map.2 ⟨_, List.getElem_mem al, rfl⟩) (List.getElem_mem cl')
      have : T.hs[a].l[c] = ((nxN T.tb a c : Nat) : Int) := by unfold nxN; rw [e]; omega
      rw [this])
  have HNl : Hid (∀ a c, nxN T.tb a c < T.n2) := Lib.hid (fun a c => by have := nxN_lt hN (by omega) a c; omega)
  clear hT hC hN hln h3
  generalize T.tb = t at *
  obtain ⟨cl, a1, m1, c1, bd, a2, n2, c2, hs, a3, n3, c3, br⟩ := T
  simp only [TV.v] at *
  subst e3
  generalize cl.toNat = K at *
  subst Kc
  obtain ⟨N, hN0, hNN, hN25⟩ : ∃ N : Nat, N = n3 * n3 ∧ (n3 : Int) * (n3 : Int) = (N : Int) ∧ N ≤ 25 := ⟨n3 * n3, rfl, by rw [Int.natCast_mul], by have := Nat.mul_le_mul n5 n5; omega⟩
  have HN2 : Hid (N = t.nx.length * t.nx.length) := Lib.hid (by rw [HL.out]; exact hN0)
  clear hN0
  go_enter Tryd.func61, Tryd.ntmps61
  go_wp2_with (at_make; refine wpList_make_full _ rfl _ _ 78 rfl (w.heap.size + 1) 24 i0 _ 1 Tryd.underlying78 hi0 hz0 hz1 .i64 .i64 n3 n3 n3 rfl rfl rfl rfl ?k1 ?k2 (by simp) ?_)
  case k1 => rw [hz2]; omega
  case k2 => unfold maxLen; omega
  first | (intro w1 hown1 hgrow1) | (rename_i w1 hown1 hgrow1)
  have hsz : (w.alloc (.cells #[.int .i64 (K : Int), .slice a1 m1 c1, .slice a2 n3 c2, .slice a3 n3 c3] 26)).heap.size = w.heap.size + 1 := by simp
  generalize w.alloc (.cells #[.int .i64 (K : Int), .slice a1 m1 c1, .slice a2 n3 c2, .slice a3 n3 c3] 26) = W1 at *
  generalize hog : w.heap.size + 1 = og at *
  subst hsz
  have HQ0 : Hid (OwnQ w1 W1.heap.size W1.heap.size n3 0 (fun _ => 0) (fun _ _ => false)) := Lib.hid ⟨by
    rw [toList_madeCells_one] at hown1
    rw [show qcells n3 0 (fun _ => 0) = List.replicate n3 (Value.slice none 0 0) from by
      unfold qcells
      apply List.ext_getElem?
      intro i
      rw [List.getElem?_map, List.getElem?_replicate]
      by_cases hi : i < n3
      · rw [List.getElem?_range hi, if_pos hi]; simp
      · rw [List.getElem?_eq_none (by simpa using hi), if_neg hi]; rfl]
    exact hown1, fun a ha => absurd ha (by omega), fun a ha => absurd ha (by omega)⟩
  have HB0 : Hid (Below W1.heap.size W1 w1) := Lib.hid ((Below.refl _ _).grown hgrow1 (Nat.le_refl _) (fun k hk => by cases hk))
  have hw0 : w.heap.size ≤ W1.heap.size := b0.size
  clear hown1 hgrow1
  go_wp2_with fail
  go_loopw [5] (fun vi wr => ∃ (a : Nat) (B : Nat → Nat) (M : Nat → Nat → Bool), a ≤ n3 ∧ vi = .int .i64 a ∧ Hid (OwnQ wr W1.heap.size W1.heap.size n3 a B M) ∧ Hid (∀ x < a, ∀ y < n3, M x y = (brkN t x != brkN t y)) ∧ Hid (Below W1.heap.size W1 wr)) (fun vi _ => n3 - (intOf vi).toNat)
  case atStart => exact ⟨0, _, _, Nat.zero_le _, rfl, HQ0, Lib.hid (fun x hx => absurd hx (by omega)), HB0⟩
  case round =>
    clear HQ0 HB0
    obtain ⟨a, B, M, ha, rfl, HQ, HE, HB⟩ := hrel
    by_cases hlt : a < n3
    · rename World => w2
      have hq := HQ.out.out
      go_wp2_with (at_make; refine wpList_make_full _ rfl _ _ 24 rfl w2.heap.size 4 j0 _ 1 Tryd.underlying24 hj0 hy0 hy1 .i64 .i64 n3 n3 n3 rfl rfl rfl rfl ?k1 ?k2 (Nat.le_refl _) ?_)
      case k1 => rw [hy2]; omega
      case k2 => unfold maxLen; omega
      first | (intro w3 hown3 hgrow3) | (rename_i w3 hown3 hgrow3)
      have g3 : Below w2.heap.size w2 w3 := (Below.refl _ _).grown hgrow3 (Nat.le_refl _) (fun k hk => by cases hk)
      have hrow : w3.ownsRow w2.heap.size 4 1 (.slice (some ⟨w2.heap.size, 0, none⟩) n3 n3) n3 (mrowQ n3 (fun _ => false)) := by
        rw [toList_madeCells_one] at hown3
        rw [show mrowQ n3 (fun _ => false) = List.replicate n3 (Value.bool false) from by
          unfold mrowQ
          apply List.ext_getElem?
          intro i
          rw [List.getElem?_map, List.getElem?_replicate]
          by_cases hi : i < n3
          · rw [List.getElem?_range hi, if_pos hi]; rfl
          · rw [List.getElem?_eq_none (by simpa using hi), if_neg hi]; rfl]
        exact hown3
      have hq3 := own_below hq g3
      have f3 := hq3.frozenAt a
      have o3 : ∃ u, w3.cell? ⟨W1.heap.size, a, none⟩ = some u := ⟨_, (hq3.cellAt a (by omega)).trans (by unfold qcells; rw [List.getElem?_map, List.getElem?_range hlt]; rfl)⟩
      obtain ⟨u3, c3'⟩ := o3
      have HQ3 := Lib.hid (HQ.out.row HB.out.size hrow g3)
      have HB3 : Hid (Below W1.heap.size W1 (w3.setCell ⟨W1.heap.size, a, none⟩ (.slice (some ⟨w2.heap.size, 0, none⟩) n3 n3))) := Lib.hid ((below_call HB.out HB.out.size g3).setCell (p := ⟨W1.heap.size, a, none⟩) (Nat.le_refl _) _)
      have HE3 : Hid (∀ x < a, ∀ y < n3, updR M a x y = (brkN t x != brkN t y)) := Lib.hid (fun x hx y hy => by unfold updR; rw [if_neg (by omega)]; exact HE.out x hx y hy)
      clear hown3 hgrow3 hrow hq hq3 HQ HB HE
      go_wp2_with fail
      clear f3 c3' g3
      generalize w3.setCell ⟨W1.heap.size, a, none⟩ (.slice (some ⟨w2.heap.size, 0, none⟩) n3 n3) = w4 at *
      generalize updR M a = M1 at *
      generalize updB B a w2.heap.size = B1 at *
      go_loopw [6] (fun vi wr => ∃ (b : Nat) (B : Nat → Nat) (M : Nat → Nat → Bool), b ≤ n3 ∧ vi = .int .i64 b ∧ Hid (OwnQ wr W1.heap.size W1.heap.size n3 (a + 1) B M) ∧ Hid (∀ x < a, ∀ y < n3, M x y = (brkN t x != brkN t y)) ∧ Hid (∀ y < b, M a y = (brkN t a != brkN t y)) ∧ Hid (Below W1.heap.size W1 wr)) (fun vi _ => n3 - (intOf vi).toNat)
      case atStart => exact ⟨0, B1, M1, Nat.zero_le _, rfl, HQ3, HE3, Lib.hid (fun x hx => absurd hx (by omega)), HB3⟩
      case round =>
        clear HQ3 HE3 HB3
        obtain ⟨b, B, M, hb, rfl, HQ, HE, HEb, HB⟩ := hrel
        by_cases hbn : b < n3
        · have HBw := Lib.hid (below_call b0 hw0 HB.out)
          obtain ⟨_, p0, p1, p2, p3⟩ := HX.out.on HB.out
          simp only [] at p0 p1 p2 p3
          obtain ⟨bb, ob, hA3, hbr⟩ := HBr.out wr HBw.out
          subst hA3
          have y0 := hbr a hlt
          have y1 := hbr b hbn
          have q0 := HQ.out.cellO (a := a) (by omega) hlt
          have q1 := HQ.out.cellI (a := a) (b := b) (by omega) hbn
          have q2 := (HQ.out.inn a (by omega)).frozenAt b
          have hgi := HQ.out.geI (a := a) (by omega)
          have HQs := Lib.hid (fun v => HQ.out.set (x := a) (y := b) (by omega) v)
          have HBs := Lib.hid (fun v => HB.out.setCell (p := ⟨B a, b, none⟩) hgi.1 (.bool v))
          have HE2 : Hid (∀ v, ∀ x < a, ∀ y < n3, updM M a b v x y = (brkN t x != brkN t y)) := Lib.hid (fun v x hx y hy => by unfold updM; rw [if_neg (by omega)]; exact HE.out x hx y hy)
          have HEb2 : Hid (∀ y < b + 1, updM M a b (brkN t a != brkN t b) a y = (brkN t a != brkN t y)) := Lib.hid (fun y hy => by
            unfold updM
            by_cases e : y = b
            · rw [if_pos ⟨rfl, e⟩, e]
            · rw [if_neg (fun h => e h.2)]; exact HEb.out y (by omega))
          generalize brkN t a = ya at *
          generalize brkN t b = yb at *
          generalize M a b = cur at *
          generalize hBa : B a = ga at *
          clear hbr hgi HE HEb
          cases ya <;> cases yb
          all_goals
            go_wp2_with fail
            go_region
            go_wp2_with fail
            go_roundw
            case rel => exact ⟨b + 1, B, _, by omega, by go_num, Lib.hid (OwnQ.on (HQs.out _) (Below.drew (Below.refl _ _))), Lib.hid (HE2.out _), HEb2, Lib.hid (Below.drew (HBs.out _))⟩
            case measure => simp [intOf]; omega
        · have HE2 : Hid (∀ x < a + 1, ∀ y < n3, M x y = (brkN t x != brkN t y)) := Lib.hid (fun x hx y hy => by
            rcases Nat.lt_succ_iff_lt_or_eq.1 hx with hx | rfl
            · exact HE.out x hx y hy
            · exact HEb.out y (by omega))
          clear HE HEb
          go_wp2_with fail
          go_roundw
          case rel => exact ⟨a + 1, B, M, by omega, by go_num, HQ, HE2, HB⟩
          case measure => simp [intOf]; omega
    · obtain rfl : a = n3 := by omega
      have HP0 : Hid (Ph t 0 0 0 0 M) := Lib.hid (Ph.first HNb.out (fun x hx y hy => HE.out x (by rw [← HL.out]; exact hx) y (by rw [← HL.out]; exact hy)))
      clear HE
      go_wp2_with fail
      go_loopw [7] (fun vi wr => ∃ (r : Nat) (B : Nat → Nat) (M : Nat → Nat → Bool), r ≤ N ∧ vi = .int .i64 r ∧ Hid (OwnQ wr W1.heap.size W1.heap.size a a B M) ∧ Hid (Ph t r 0 0 0 M) ∧ Hid (Below W1.heap.size W1 wr)) (fun vi _ => N - (intOf vi).toNat)
      case atStart => exact ⟨0, B, M, Nat.zero_le _, rfl, HQ, HP0, HB⟩
      case round =>
        clear HQ HP0 HB B M
        obtain ⟨r, B, M, hr, rfl, HQ, HP, HB⟩ := hrel
        by_cases hrn : r < N
        · rename World => w5
          go_wp2_with fail
          go_loopw [8] (fun vi wr => ∃ (x : Nat) (B : Nat → Nat) (M : Nat → Nat → Bool), x ≤ a ∧ vi = .int .i64 x ∧ Hid (OwnQ wr W1.heap.size W1.heap.size a a B M) ∧ Hid (Ph t r x 0 0 M) ∧ Hid (Below W1.heap.size W1 wr)) (fun vi _ => a - (intOf vi).toNat)
          case atStart => exact ⟨0, B, M, Nat.zero_le _, rfl, HQ, HP, HB⟩
          case round =>
            clear HQ HP HB B M
            obtain ⟨x, B, M, hx, rfl, HQ, HP, HB⟩ := hrel
            by_cases hxn : x < a
            · rename World => w6
              go_wp2_with fail
              go_loopw [9] (fun vi wr => ∃ (y : Nat) (B : Nat → Nat) (M : Nat → Nat → Bool), y ≤ a ∧ vi = .int .i64 y ∧ Hid (OwnQ wr W1.heap.size W1.heap.size a a B M) ∧ Hid (Ph t r x y 0 M) ∧ Hid (Below W1.heap.size W1 wr)) (fun vi _ => a - (intOf vi).toNat)
              case atStart => exact ⟨0, B, M, Nat.zero_le _, rfl, HQ, HP, HB⟩
              case round =>
                clear HQ HP HB B M
                obtain ⟨y, B, M, hy, rfl, HQ, HP, HB⟩ := hrel
                by_cases hyn : y < a
                · rename World => w7
                  go_wp2_with fail
                  go_loopw [10] (fun vi wr => ∃ (c : Nat) (B : Nat → Nat) (M : Nat → Nat → Bool), c ≤ K ∧ vi = .int .i64 c ∧ Hid (OwnQ wr W1.heap.size W1.heap.size a a B M) ∧ Hid (Ph t r x y c M) ∧ Hid (Below W1.heap.size W1 wr)) (fun vi _ => K - (intOf vi).toNat)
                  case atStart => exact ⟨0, B, M, Nat.zero_le _, rfl, HQ, HP, HB⟩
                  case round =>
                    clear HQ HP HB B M
                    obtain ⟨c, B, M, hc, rfl, HQ, HP, HB⟩ := hrel
                    have HBw := Lib.hid (below_call b0 hw0 HB.out)
                    obtain ⟨_, p0, p1, p2, p3⟩ := HX.out.on HB.out
                    simp only [] at p0 p1 p2 p3
                    by_cases hck : c < K
                    · obtain ⟨nb, no, hA2, hnx⟩ := HNx.out wr HBw.out
                      subst hA2
                      obtain ⟨rb, ro, rc, z0, z1⟩ := hnx x hxn
                      obtain ⟨sb, so, sc, z2, z3⟩ := hnx y hyn
                      have z1' := z1 c hck
                      have z3' := z3 c hck
                      have hf0 := HNl.out x c
                      have hf1 := HNl.out y c
                      have HP2 := Lib.hid (HP.out.step HNb.out (by rw [HL.out]; exact hxn) (by rw [HL.out]; exact hyn) (by rw [HCl.out]; exact hck))
                      clear z1 z3 hnx HP
                      generalize nxN t x c = u0 at *
                      generalize nxN t y c = u1 at *
                      have q0 := HQ.out.cellO (a := x) hxn hxn
                      have q1 := HQ.out.cellI (a := x) (b := y) hxn hyn
                      have q2 := (HQ.out.inn x hxn).frozenAt y
                      have q3 := HQ.out.cellO (a := u0) hf0 hf0
                      have q4 := HQ.out.cellI (a := u0) (b := u1) hf0 hf1
                      have hgi := HQ.out.geI (a := x) hxn
                      have HQs := Lib.hid (fun v => HQ.out.set (x := x) (y := y) hxn v)
                      have HBs := Lib.hid (fun v => HB.out.setCell (p := ⟨B x, y, none⟩) hgi.1 (.bool v))
                      generalize hv1 : M x y = cur at *
                      generalize hv2 : M u0 u1 = oth at *
                      generalize B x = gx at *
                      generalize B u0 = gu at *
                      clear hgi
                      cases cur
                      case true =>
                        clear q3 q4
                        go_wp2_with fail
                        go_region
                        go_wp2_with fail
                        go_roundw
                        case rel => exact ⟨c + 1, B, _, by omega, by go_num, Lib.hid (OwnQ.on (HQs.out true) (Below.drew (Below.refl _ _))), HP2, Lib.hid (Below.drew (HBs.out true))⟩
                        case measure => simp [intOf]; omega
                      case false =>
                        cases oth
                        all_goals
                          go_wp2_with fail
                          go_region
                          go_wp2_with fail
                          go_roundw
                          case rel => exact ⟨c + 1, B, _, by omega, by go_num, Lib.hid (OwnQ.on (HQs.out _) (Below.drew (Below.refl _ _))), HP2, Lib.hid (Below.drew (HBs.out _))⟩
                          case measure => simp [intOf]; omega
                    · obtain rfl : c = K := by omega
                      have HP2 : Hid (Ph t r x (y + 1) 0 M) := Lib.hid (Ph.nextb (by rw [HCl.out]; exact HP.out) (by rw [HL.out]; exact hxn) (by rw [HL.out]; exact hyn))
                      clear HP
                      go_wp2_with fail
                      go_roundw
                      case rel => exact ⟨y + 1, B, M, by omega, by go_num, HQ, HP2, HB⟩
                      case measure => simp [intOf]; omega
                · obtain rfl : y = a := by omega
                  have HP2 : Hid (Ph t r (x + 1) 0 0 M) := Lib.hid (Ph.nexta (by rw [HL.out]; exact HP.out))
                  clear HP
                  go_wp2_with fail
                  go_roundw
                  case rel => exact ⟨x + 1, B, M, by omega, by go_num, HQ, HP2, HB⟩
                  case measure => simp [intOf]; omega
            · obtain rfl : x = a := by omega
              have HP2 : Hid (Ph t (r + 1) 0 0 0 M) := Lib.hid (Ph.nextr (by rw [HL.out]; exact HP.out))
              clear HP
              go_wp2_with fail
              go_roundw
              case rel => exact ⟨r + 1, B, M, by omega, by go_num, HQ, HP2, HB⟩
              case measure => simp [intOf]; omega
        · obtain rfl : r = N := by omega
          have HF : Hid (∀ x < a, ∀ y < a, M x y = farB t x y) := Lib.hid (fun x hx y hy => Ph.last (by rw [← HN2.out]; exact HP.out) (by rw [HL.out]; exact hx) (by rw [HL.out]; exact hy))
          clear HP
          go_wp2_with fail
          go_ret
          exact ⟨W1.heap.size, B, M, rfl, ⟨own_base HQ.out.out hw0, fun x hx => own_base (HQ.out.inn x hx) hw0, HQ.out.ne⟩, HF.out, below_call b0 hw0 HB.out⟩
end Go.Proofs.YtnilejdokgagbaaDoor

