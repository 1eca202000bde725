/- What LargeLists, Large, Same and the statements' own comparison of tables return. -/
import Derived.Test.YtaejfebpalmfmaaEqs
import Derived.Test.YtaejfebpalmfmaaFits
namespace Go.Proofs.Ytaejfebpalmfmaa
open Go.RowKit Go.BigFrame
set_option linter.unusedVariables false
set_option maxRecDepth 4000
set_option linter.unusedSimpArgs false

set_option maxHeartbeats 1000000 in
theorem largeLists_any (H : List Hi) (n : Nat) (A : Option Addr) (c : Nat) (w : World) (hN : RN w w.heap.size A n H) (hn : n ≤ 9223372036854775807) (hr : ∀ h ∈ H, h.n ≤ 9223372036854775807) :
    Calls Try.prog 18 #[.slice A n c, .int .i64 3000] w fun e w' => ∃ q, e = .returned (.bool q) ∧ w' = w ∧ (q = false → bulk (listsOf H) ≤ 3000) := by
  have HN := Lib.hid hN
  have HR := Lib.hid hr
  clear hN hr
  go_enter Try.func18, Try.ntmps18
  go_wp2_with fail
  go_loopw [5, 6] (fun va vi wr => ∃ (k a : Nat), k ≤ n ∧ vi = .int .i64 k ∧ va = .int .i64 a ∧ a ≤ 6001 ∧ wr = w ∧ Hid (a ≤ 3000 → a = bulk (listsOf (H.take k)))) (fun va vi _ => n - (intOf vi).toNat)
  case atStart => exact ⟨0, 0, Nat.zero_le _, rfl, rfl, by omega, rfl, Lib.hid (fun _ => rfl)⟩
  case round =>
    obtain ⟨k, a, hk, rfl, rfl, ha, rfl, HE⟩ := hrel
    by_cases hlt : k < n
    · by_cases ha2 : a ≤ 3000
      · have kl : k < H.length := by rw [HN.out.1]; exact hlt
        obtain ⟨b, o, rfl, _, p0, pr, _⟩ := HN.out.at kl
        have hx := HR.out _ (List.getElem_mem kl)
        have hxl := pr.1
        have HT : Hid (bulk (listsOf (H.take (k + 1))) = bulk (listsOf (H.take k)) + (1 + H[k].l.length)) := Lib.hid (by
          rw [List.take_succ_eq_append_getElem kl]
          unfold listsOf
          rw [List.map_append, bulk_app]
          simp [bulk])
        generalize H[k] = x at *
        obtain ⟨xa, xn, xc, xs⟩ := x
        simp only [] at p0 pr hx hxl HT
        have HXL := Lib.hid hxl
        clear hxl pr
        by_cases hxn : xn ≤ 3000
        · have HE' : Hid (a + (1 + xn) ≤ 3000 → a + (1 + xn) = bulk (listsOf (H.take (k + 1)))) := Lib.hid (fun h => by rw [HT.out, HXL.out, ← HE.out ha2])
          have hmin : min (xn : Int) 3000 = (xn : Int) := by omega
          clear HE HT
          go_wp2_with fail
          go_roundw
          case rel => exact ⟨k + 1, a + (1 + xn), by omega, by go_num, by go_num, by omega, trivial, HE'⟩
          case measure => simp [intOf]; omega
        · have HE' : Hid (a + (1 + 3000) ≤ 3000 → a + (1 + 3000) = bulk (listsOf (H.take (k + 1)))) := Lib.hid (fun h => by omega)
          have hmin : min (xn : Int) 3000 = 3000 := by omega
          clear HE HT
          go_wp2_with fail
          go_roundw
          case rel => exact ⟨k + 1, a + (1 + 3000), by omega, by go_num, by go_num, by omega, trivial, HE'⟩
          case measure => simp [intOf]; omega
      · go_wp2_with fail
        go_ret
        exact ⟨_, rfl, rfl, fun h => by first | (have := of_decide_eq_false h; omega) | (cases h)⟩
    · have HD : Hid (a ≤ 3000 → bulk (listsOf H) ≤ 3000) := Lib.hid (fun h => by
        have h1 := HE.out h
        rw [List.take_of_length_le (by rw [HN.out.1]; omega)] at h1
        omega)
      go_wp2_with fail
      go_ret
      exact ⟨_, rfl, rfl, fun h => HD.out (by have := of_decide_eq_false h; omega)⟩
/-- Is a table too large? -/
def OutLg (t : Tb) (w : World) (e : Ending) (w' : World) : Prop := ∃ q, e = .returned (.bool q) ∧ Below w.heap.size w w' ∧ (q = false → Small t)
set_option maxHeartbeats 1000000 in
theorem large_any (T : TV) (w : World) (hT : T.ok w) :
    Calls Try.prog 7 #[T.v] w (OutLg T.tb w) := by
  obtain ⟨cl, a1, n1, c1, bd, a2, n2, c2, hs, a3, n3, c3, br⟩ := T
  simp only [TV.v] at *
  have B1 : n1 ≤ 9223372036854775807 := by have := hT.s1.2; unfold maxLen at this; simp only [] at this; omega
  have B2 : n2 ≤ 9223372036854775807 := by have := hT.s2.2; unfold maxLen at this; simp only [] at this; omega
  have B3 : n3 ≤ 9223372036854775807 := by have := hT.s3.2; unfold maxLen at this; simp only [] at this; omega
  have BR : ∀ h ∈ hs, h.n ≤ 9223372036854775807 := fun h hh => by
    have := (hT.r2.2.2 h hh).2.2
    unfold maxLen at this
    omega
  have HLg := Lib.hid (fun W (g : Below w.heap.size w W) => largeLists_any hs n2 a2 c2 W (hT.r2.on g) B2 BR)
  have L1 : bd.length = n1 := hT.r1.1
  have L3 : br.length = n3 := hT.r3.1
  have HS : Hid (n1 ≤ 400 → n3 ≤ 1000 → bulk (listsOf hs) ≤ 3000 → Small (TV.tb ⟨cl, a1, n1, c1, bd, a2, n2, c2, hs, a3, n3, c3, br⟩)) := Lib.hid (fun h1 h2 h3 => ⟨by simp only [TV.tb]; omega, h3, by simp only [TV.tb]; omega⟩)
  clear hT BR L1 L3
  by_cases g1 : 400 < n1
  · go_enter Try.func7, Try.ntmps7
    go_wp2_with fail
    go_ret
    exact ⟨true, rfl, below_new _ _, fun h => by cases h⟩
  · go_enter Try.func7, Try.ntmps7
    go_wp2_with fail
    refine (HLg.out _ (below_new _ _)).mono ?_
    rintro e w1 ⟨q, rfl, rfl, hq⟩
    have HQ := Lib.hid hq
    clear hq
    cases q
    · go_wp2_with fail
      go_ret
      exact ⟨_, rfl, below_new _ _, fun h => HS.out (by omega) (by simp only [Bool.or_eq_false_iff, decide_eq_false_iff_not] at h; omega) (HQ.out (by first | rfl | trivial))⟩
    · go_wp2_with fail
      go_ret
      exact ⟨true, rfl, below_new _ _, fun h => by cases h⟩

/-- Are two tables alike? -/
noncomputable def eqT (t u : Tb) : Bool := @decide (t = u) (Classical.propDecidable _)
theorem eqT_yes {t u : Tb} (h : t = u) : eqT t u = true := @decide_eq_true _ (Classical.propDecidable _) h
theorem eqT_no {t u : Tb} (h : ¬ t = u) : eqT t u = false := @decide_eq_false _ (Classical.propDecidable _) h
theorem eqX_iff {α : Type} {a b : List α} : eqX a b = true ↔ a = b := ⟨fun h => by unfold eqX at h; exact @of_decide_eq_true _ (Classical.propDecidable _) h, eqX_yes⟩
theorem eqT_eq (t u : Tb) : eqT t u = ((t.cl == u.cl) && (eqX t.bd u.bd && (eqX t.nx u.nx && eqX t.br u.br))) := by
  by_cases h : t = u
  · subst h
    rw [eqT_yes rfl, eqX_yes rfl, eqX_yes rfl, eqX_yes rfl]
    simp
  · rw [eqT_no h]
    symm
    cases hq : ((t.cl == u.cl) && (eqX t.bd u.bd && (eqX t.nx u.nx && eqX t.br u.br)))
    · rfl
    · exfalso
      apply h
      simp only [Bool.and_eq_true, beq_iff_eq, eqX_iff] at hq
      obtain ⟨a, b, c, d⟩ := hq
      cases t; cases u
      simp only at a b c d
      rw [a, b, c, d]
end Go.Proofs.Ytaejfebpalmfmaa
