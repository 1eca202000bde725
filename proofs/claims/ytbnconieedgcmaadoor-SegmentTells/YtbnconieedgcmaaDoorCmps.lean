/- What LargeLists, Large, Same and the statements' own comparison of tables return. -/
import Derived.Test.YtbnconieedgcmaaDoorEqL
import Derived.Test.YtbnconieedgcmaaDoorFits
namespace Go.Proofs.YtbnconieedgcmaaDoor
open Go.RowKit Go.BigFrame
set_option linter.unusedVariables false
set_option maxRecDepth 4000
set_option linter.unusedSimpArgs false

set_option maxHeartbeats 1000000 in
theorem largeLists_any (H : List Hi) (n : Nat) (A : Option Addr) (c : Nat) (w : World) (hN : RN w w.heap.size A n H) (hn : n ≤ 9223372036854775807) (hr : ∀ h ∈ H, h.n ≤ 9223372036854775807) :
    Calls Tryd.prog 42 #[.slice A n c, .int .i64 3000] w fun e w' => ∃ q, e = .returned (.bool q) ∧ w' = w ∧ (q = false → bulk (listsOf H) ≤ 3000) := by
  have HN := Lib.hid hN
  have HR := Lib.hid hr
  clear hN hr
  go_enter Tryd.func42, Tryd.ntmps42
  go_wp2_with fail
  go_loopw [5, 6] (fun va vi wr => ∃ (k a : Nat), k ≤ n ∧ vi = .int .i64 k ∧ va = .int .i64 a ∧ a ≤ 6001 ∧ wr = w ∧ Hid (a ≤ 3000 → a = bulk (listsOf (H.take k)))) (fun va vi _ => n - (intOf vi).toNat)
  case atStart => exact ⟨0, 0, Nat.zero_le _, rfl, rfl, by omega, rfl, Lib.hid (fun _ => rfl)⟩
  case round =>
    obtain ⟨k, a, hk, rfl, rfl, ha, rfl, HE⟩ := hrel
    by_cases hlt : k < n
    · by_cases ha2 : a ≤ 3000
      · have kl : k < H.length := by rw [HN.out.1]; exact hlt
        obtain ⟨b, o, rfl, _, p0, pr, _⟩ := HN.out.at kl
        have hx := HR.out _ (List.getElem_mem kl)
        have hxl := pr.1
        have HT : Hid (bulk (listsOf (H.take (k + 1))) = bulk (listsOf (H.take k)) + (1 + H[k].l.length)) := Lib.hid (by
          rw [List.take_succ_eq_append_getElem kl]
          unfold listsOf
          rw [List.map_append, bulk_app]
          simp [bulk])
        generalize H[k] = x at *
        obtain ⟨xa, xn, xc, xs⟩ := x
        simp only [] at p0 pr hx hxl HT
        have HXL := Lib.hid hxl
        clear hxl pr
        by_cases hxn : xn ≤ 3000
        · have HE' : Hid (a + (1 + xn) ≤ 3000 → a + (1 + xn) = bulk (listsOf (H.take (k + 1)))) := Lib.hid (fun h => by rw [HT.out, HXL.out, ← HE.out ha2])
          have hmin : min (xn : Int) 3000 = (xn : Int) := by omega
          clear HE HT
          go_wp2_with fail
          go_roundw
          case rel => exact ⟨k + 1, a + (1 + xn), by omega, by go_num, by go_num, by omega, trivial, HE'⟩
          case measure => simp [intOf]; omega
        · have HE' : Hid (a + (1 + 3000) ≤ 3000 → a + (1 + 3000) = bulk (listsOf (H.take (k + 1)))) := Lib.hid (fun h => by omega)
          have hmin : min (xn : Int) 3000 = 3000 := by omega
          clear HE HT
          go_wp2_with fail
          go_roundw
          case rel => exact ⟨k + 1, a + (1 + 3000), by omega, by go_num, by go_num, by omega, trivial, HE'⟩
          case measure => simp [intOf]; omega
      · go_wp2_with fail
        go_ret
        exact ⟨_, rfl, rfl, fun h => by first | (have := of_decide_eq_false h; omega) | (cases h)⟩
    · have HD : Hid (a ≤ 3000 → bulk (listsOf H) ≤ 3000) := Lib.hid (fun h => by
        have h1 := HE.out h
        rw [List.take_of_length_le (by rw [HN.out.1]; omega)] at h1
        omega)
      go_wp2_with fail
      go_ret
      exact ⟨_, rfl, rfl, fun h => HD.out (by have := of_decide_eq_false h; omega)⟩
/-- Is a table too large? -/
def OutLg (t : Tb) (w : World) (e : Ending) (w' : World) : Prop := ∃ q, e = .returned (.bool q) ∧ Below w.heap.size w w' ∧ (q = false → Small t)
set_option maxHeartbeats 1000000 in
theorem large_any (T : TV) (w : World) (hT : T.ok w) :
    Calls Tryd.prog 12 #[T.v] w (OutLg T.tb w) := by
  obtain ⟨cl, a1, n1, c1, bd, a2, n2, c2, hs, a3, n3, c3, br⟩ := T
  simp only [TV.v] at *
  have B1 : n1 ≤ 9223372036854775807 := by have := hT.s1.2; unfold maxLen at this; simp only [] at this; omega
  have B2 : n2 ≤ 9223372036854775807 := by have := hT.s2.2; unfold maxLen at this; simp only [] at this; omega
  have B3 : n3 ≤ 9223372036854775807 := by have := hT.s3.2; unfold maxLen at this; simp only [] at this; omega
  have BR : ∀ h ∈ hs, h.n ≤ 9223372036854775807 := fun h hh => by
    have := (hT.r2.2.2 h hh).2.2
    unfold maxLen at this
    omega
  have HLg := Lib.hid (fun W (g : Below w.heap.size w W) => largeLists_any hs n2 a2 c2 W (hT.r2.on g) B2 BR)
  have L1 : bd.length = n1 := hT.r1.1
  have L3 : br.length = n3 := hT.r3.1
  have HS : Hid (n1 ≤ 400 → n3 ≤ 1000 → bulk (listsOf hs) ≤ 3000 → Small (TV.tb ⟨cl, a1, n1, c1, bd, a2, n2, c2, hs, a3, n3, c3, br⟩)) := Lib.hid (fun h1 h2 h3 => ⟨by simp only [TV.tb]; omega, h3, by simp only [TV.tb]; omega⟩)
  clear hT BR L1 L3
  by_cases g1 : 400 < n1
  · go_enter Tryd.func12, Tryd.ntmps12
    go_wp2_with fail
    go_ret
    exact ⟨true, rfl, below_new _ _, fun h => by cases h⟩
  · go_enter Tryd.func12, Tryd.ntmps12
    go_wp2_with fail
    refine (HLg.out _ (below_new _ _)).mono ?_
    rintro e w1 ⟨q, rfl, rfl, hq⟩
    have HQ := Lib.hid hq
    clear hq
    cases q
    · go_wp2_with fail
      go_ret
      exact ⟨_, rfl, below_new _ _, fun h => HS.out (by omega) (by simp only [Bool.or_eq_false_iff, decide_eq_false_iff_not] at h; omega) (HQ.out (by first | rfl | trivial))⟩
    · go_wp2_with fail
      go_ret
      exact ⟨true, rfl, below_new _ _, fun h => by cases h⟩

/-- Are two tables alike? -/
noncomputable def eqT (t u : Tb) : Bool := @decide (t = u) (Classical.propDecidable _)
theorem eqT_yes {t u : Tb} (h : t = u) : eqT t u = true := @decide_eq_true _ (Classical.propDecidable _) h
theorem eqT_no {t u : Tb} (h : ¬ t = u) : eqT t u = false := @decide_eq_false _ (Classical.propDecidable _) h
theorem eqX_iff {α : Type} {a b : List α} : eqX a b = true ↔ a = b := ⟨fun h => by unfold eqX at h; exact @of_decide_eq_true _ (Classical.propDecidable _) h, eqX_yes⟩
theorem eqT_eq (t u : Tb) : eqT t u = ((t.cl == u.cl) && (eqX t.bd u.bd && (eqX t.nx u.nx && eqX t.br u.br))) := by
  by_cases h : t = u
  · subst h
    rw [eqT_yes rfl, eqX_yes rfl, eqX_yes rfl, eqX_yes rfl]
    simp
  · rw [eqT_no h]
    symm
    cases hq : ((t.cl == u.cl) && (eqX t.bd u.bd && (eqX t.nx u.nx && eqX t.br u.br)))
    · rfl
    · exfalso
      apply h
      simp only [Bool.and_eq_true, beq_iff_eq, eqX_iff] at hq
      obtain ⟨a, b, c, d⟩ := hq
      cases t; cases u
      simp only at a b c d
      rw [a, b, c, d]
set_option maxRecDepth 4000 in
set_option maxHeartbeats 2000000 in
theorem same_any (T U : TV) (w : World) (hT : T.ok w) (hU : U.ok w) (h1 : T.n1 ≤ 1048576) (h2 : T.n2 ≤ 1048576) (h3 : T.n3 ≤ 1048576) (hm : ∀ h ∈ T.hs, h.n ≤ 1048576) :
    Calls Tryd.prog 21 #[T.v, U.v] w fun e w' => e = .returned (.bool (eqT T.tb U.tb)) ∧ Below w.heap.size w w' := by
  obtain ⟨cl, a1, n1, c1, bd, a2, n2, c2, hs, a3, n3, c3, br⟩ := T
  obtain ⟨cl', a1', n1', c1', bd', a2', n2', c2', hs', a3', n3', c3', br'⟩ := U
  simp only [TV.v] at *
  have HT := Lib.hid hT
  have HU := Lib.hid hU
  have HM := Lib.hid hm
  have HB := Lib.hid (fun W (g : Below w.heap.size w W) => eqBands_n bd bd' n1 n1' a1 a1' c1 c1' W (HT.out.r1.on g) (HU.out.r1.on g) h1)
  have HL := Lib.hid (fun W (g : Below w.heap.size w W) => eqLists_n hs hs' n2 n2' a2 a2' c2 c2' W (HT.out.r2.on g) (HU.out.r2.on g) h2 HM.out)
  have HO := Lib.hid (fun W (g : Below w.heap.size w W) => eqBools_n br br' n3 n3' a3 a3' c3 c3' W (HT.out.r3.on g) (HU.out.r3.on g) h3)
  have HE : Hid (eqT (TV.tb ⟨cl, a1, n1, c1, bd, a2, n2, c2, hs, a3, n3, c3, br⟩) (TV.tb ⟨cl', a1', n1', c1', bd', a2', n2', c2', hs', a3', n3', c3', br'⟩) = ((cl == cl') && (eqX bd bd' && (eqX (listsOf hs) (listsOf hs') && eqX br br')))) := Lib.hid (eqT_eq _ _)
  rw [HE.out]
  clear hT hU hm HT HU HM HE
  by_cases hc : cl = cl'
  · subst hc
    have hcc : (cl == cl) = true := by simp
    have H0 : Hid (((cl == cl) && (eqX bd bd' && (eqX (listsOf hs) (listsOf hs') && eqX br br'))) = (eqX bd bd' && (eqX (listsOf hs) (listsOf hs') && eqX br br'))) := Lib.hid (by rw [hcc, Bool.true_and])
    rw [H0.out]
    clear H0
    go_enter Tryd.func21, Tryd.ntmps21
    go_wp2_with fail
    have b0 : Below w.heap.size w ((w.alloc (.cells #[.int .i64 cl, .slice a1 n1 c1, .slice a2 n2 c2, .slice a3 n3 c3] 26)).alloc (.cells #[.int .i64 cl, .slice a1' n1' c1', .slice a2' n2' c2', .slice a3' n3' c3'] 26)) := (below_new _ _).trans ((below_new _ _).mono (by simp))
    have p0 : ((w.alloc (.cells #[.int .i64 cl, .slice a1 n1 c1, .slice a2 n2 c2, .slice a3 n3 c3] 26)).alloc (.cells #[.int .i64 cl, .slice a1' n1' c1', .slice a2' n2' c2', .slice a3' n3' c3'] 26)).cell? ⟨w.heap.size, 0, none⟩ = some (.int .i64 cl) := by simp
    have p1 : ((w.alloc (.cells #[.int .i64 cl, .slice a1 n1 c1, .slice a2 n2 c2, .slice a3 n3 c3] 26)).alloc (.cells #[.int .i64 cl, .slice a1' n1' c1', .slice a2' n2' c2', .slice a3' n3' c3'] 26)).cell? ⟨w.heap.size, 1, none⟩ = some (.slice a1 n1 c1) := by simp
    have p2 : ((w.alloc (.cells #[.int .i64 cl, .slice a1 n1 c1, .slice a2 n2 c2, .slice a3 n3 c3] 26)).alloc (.cells #[.int .i64 cl, .slice a1' n1' c1', .slice a2' n2' c2', .slice a3' n3' c3'] 26)).cell? ⟨w.heap.size, 2, none⟩ = some (.slice a2 n2 c2) := by simp
    have p3 : ((w.alloc (.cells #[.int .i64 cl, .slice a1 n1 c1, .slice a2 n2 c2, .slice a3 n3 c3] 26)).alloc (.cells #[.int .i64 cl, .slice a1' n1' c1', .slice a2' n2' c2', .slice a3' n3' c3'] 26)).cell? ⟨w.heap.size, 3, none⟩ = some (.slice a3 n3 c3) := by simp
    have r0 : ((w.alloc (.cells #[.int .i64 cl, .slice a1 n1 c1, .slice a2 n2 c2, .slice a3 n3 c3] 26)).alloc (.cells #[.int .i64 cl, .slice a1' n1' c1', .slice a2' n2' c2', .slice a3' n3' c3'] 26)).cell? ⟨w.heap.size + 1, 0, none⟩ = some (.int .i64 cl) := by simp
    have r1 : ((w.alloc (.cells #[.int .i64 cl, .slice a1 n1 c1, .slice a2 n2 c2, .slice a3 n3 c3] 26)).alloc (.cells #[.int .i64 cl, .slice a1' n1' c1', .slice a2' n2' c2', .slice a3' n3' c3'] 26)).cell? ⟨w.heap.size + 1, 1, none⟩ = some (.slice a1' n1' c1') := by simp
    have r2 : ((w.alloc (.cells #[.int .i64 cl, .slice a1 n1 c1, .slice a2 n2 c2, .slice a3 n3 c3] 26)).alloc (.cells #[.int .i64 cl, .slice a1' n1' c1', .slice a2' n2' c2', .slice a3' n3' c3'] 26)).cell? ⟨w.heap.size + 1, 2, none⟩ = some (.slice a2' n2' c2') := by simp
    have r3 : ((w.alloc (.cells #[.int .i64 cl, .slice a1 n1 c1, .slice a2 n2 c2, .slice a3 n3 c3] 26)).alloc (.cells #[.int .i64 cl, .slice a1' n1' c1', .slice a2' n2' c2', .slice a3' n3' c3'] 26)).cell? ⟨w.heap.size + 1, 3, none⟩ = some (.slice a3' n3' c3') := by simp
    generalize ((w.alloc (.cells #[.int .i64 cl, .slice a1 n1 c1, .slice a2 n2 c2, .slice a3 n3 c3] 26)).alloc (.cells #[.int .i64 cl, .slice a1' n1' c1', .slice a2' n2' c2', .slice a3' n3' c3'] 26)) = W at *
    have hb0 := b0.size
    generalize hq1 : eqX bd bd' = x1 at *
    generalize hq2 : eqX (listsOf hs) (listsOf hs') = x2 at *
    generalize hq3 : eqX br br' = x3 at *
    have HQ : Hid ((eqX bd bd' && (eqX (listsOf hs) (listsOf hs') && eqX br br')) = (x1 && (x2 && x3))) := Lib.hid (by rw [hq1, hq2, hq3])
    clear hq1 hq2 hq3
    refine (HB.out _ b0).mono ?_
    rintro e w1 ⟨rfl, g⟩
    have p2 := kept_cell g p2
    have p3 := kept_cell g p3
    have r2 := kept_cell g r2
    have r3 := kept_cell g r3
    have b1 := b0.trans (g.mono hb0)
    have hb1 := b1.size
    clear g HB p0 p1 r0 r1 b0
    cases x1
    · go_wp2_with fail
      go_ret
      exact ⟨ret_bool (by rw [HQ.out]; rfl), b1⟩
    go_wp2_with fail
    refine (HL.out _ b1).mono ?_
    rintro e w2 ⟨rfl, g⟩
    have p3 := kept_cell g p3
    have r3 := kept_cell g r3
    have b2 := b1.trans (g.mono hb1)
    have hb2 := b2.size
    clear g HL p2 r2 b1
    cases x2
    · go_wp2_with fail
      go_ret
      exact ⟨ret_bool (by rw [HQ.out]; rfl), b2⟩
    go_wp2_with fail
    refine (HO.out _ b2).mono ?_
    rintro e w3 ⟨rfl, g⟩
    have b3 := b2.trans (g.mono hb2)
    clear g HO p3 r3 b2
    go_wp2_with fail
    go_ret
    exact ⟨ret_bool (by rw [HQ.out]; rfl), b3⟩
  · have hcc : (cl == cl') = false := by rw [beq_eq_false_iff_ne]; exact hc
    have H0 : Hid (((cl == cl') && (eqX bd bd' && (eqX (listsOf hs) (listsOf hs') && eqX br br'))) = false) := Lib.hid (by rw [hcc, Bool.false_and])
    rw [H0.out]
    go_enter Tryd.func21, Tryd.ntmps21
    go_wp2_with fail
    go_ret
    exact ⟨rfl, (below_new _ _).trans ((below_new _ _).mono (by simp))⟩
set_option maxRecDepth 4000 in
set_option maxHeartbeats 2000000 in
theorem keepTable_any (T U : TV) (w : World) (hT : T.ok w) (hU : U.ok w) (h1 : T.n1 ≤ 1048576) (h2 : T.n2 ≤ 1048576) (h3 : T.n3 ≤ 1048576) (hm : ∀ h ∈ T.hs, h.n ≤ 1048576) :
    Calls Tryd.prog 20 #[T.v, U.v] w fun e w' => e = .returned (.bool (eqT T.tb U.tb)) ∧ Below w.heap.size w w' := by
  obtain ⟨cl, a1, n1, c1, bd, a2, n2, c2, hs, a3, n3, c3, br⟩ := T
  obtain ⟨cl', a1', n1', c1', bd', a2', n2', c2', hs', a3', n3', c3', br'⟩ := U
  simp only [TV.v] at *
  have HT := Lib.hid hT
  have HU := Lib.hid hU
  have HM := Lib.hid hm
  have HB := Lib.hid (fun W (g : Below w.heap.size w W) => keepBands_n bd bd' n1 n1' a1 a1' c1 c1' W (HT.out.r1.on g) (HU.out.r1.on g) h1)
  have HL := Lib.hid (fun W (g : Below w.heap.size w W) => keepLists_n hs hs' n2 n2' a2 a2' c2 c2' W (HT.out.r2.on g) (HU.out.r2.on g) h2 HM.out)
  have HO := Lib.hid (fun W (g : Below w.heap.size w W) => keepBools_n br br' n3 n3' a3 a3' c3 c3' W (HT.out.r3.on g) (HU.out.r3.on g) h3)
  have HE : Hid (eqT (TV.tb ⟨cl, a1, n1, c1, bd, a2, n2, c2, hs, a3, n3, c3, br⟩) (TV.tb ⟨cl', a1', n1', c1', bd', a2', n2', c2', hs', a3', n3', c3', br'⟩) = ((cl == cl') && (eqX bd bd' && (eqX (listsOf hs) (listsOf hs') && eqX br br')))) := Lib.hid (eqT_eq _ _)
  rw [HE.out]
  clear hT hU hm HT HU HM HE
  by_cases hc : cl = cl'
  · subst hc
    have hcc : (cl == cl) = true := by simp
    have H0 : Hid (((cl == cl) && (eqX bd bd' && (eqX (listsOf hs) (listsOf hs') && eqX br br'))) = (eqX bd bd' && (eqX (listsOf hs) (listsOf hs') && eqX br br'))) := Lib.hid (by rw [hcc, Bool.true_and])
    rw [H0.out]
    clear H0
    go_enter Tryd.func20, Tryd.ntmps20
    go_wp2_with fail
    have b0 : Below w.heap.size w ((w.alloc (.cells #[.int .i64 cl, .slice a1 n1 c1, .slice a2 n2 c2, .slice a3 n3 c3] 26)).alloc (.cells #[.int .i64 cl, .slice a1' n1' c1', .slice a2' n2' c2', .slice a3' n3' c3'] 26)) := (below_new _ _).trans ((below_new _ _).mono (by simp))
    have p0 : ((w.alloc (.cells #[.int .i64 cl, .slice a1 n1 c1, .slice a2 n2 c2, .slice a3 n3 c3] 26)).alloc (.cells #[.int .i64 cl, .slice a1' n1' c1', .slice a2' n2' c2', .slice a3' n3' c3'] 26)).cell? ⟨w.heap.size, 0, none⟩ = some (.int .i64 cl) := by simp
    have p1 : ((w.alloc (.cells #[.int .i64 cl, .slice a1 n1 c1, .slice a2 n2 c2, .slice a3 n3 c3] 26)).alloc (.cells #[.int .i64 cl, .slice a1' n1' c1', .slice a2' n2' c2', .slice a3' n3' c3'] 26)).cell? ⟨w.heap.size, 1, none⟩ = some (.slice a1 n1 c1) := by simp
    have p2 : ((w.alloc (.cells #[.int .i64 cl, .slice a1 n1 c1, .slice a2 n2 c2, .slice a3 n3 c3] 26)).alloc (.cells #[.int .i64 cl, .slice a1' n1' c1', .slice a2' n2' c2', .slice a3' n3' c3'] 26)).cell? ⟨w.heap.size, 2, none⟩ = some (.slice a2 n2 c2) := by simp
    have p3 : ((w.alloc (.cells #[.int .i64 cl, .slice a1 n1 c1, .slice a2 n2 c2, .slice a3 n3 c3] 26)).alloc (.cells #[.int .i64 cl, .slice a1' n1' c1', .slice a2' n2' c2', .slice a3' n3' c3'] 26)).cell? ⟨w.heap.size, 3, none⟩ = some (.slice a3 n3 c3) := by simp
    have r0 : ((w.alloc (.cells #[.int .i64 cl, .slice a1 n1 c1, .slice a2 n2 c2, .slice a3 n3 c3] 26)).alloc (.cells #[.int .i64 cl, .slice a1' n1' c1', .slice a2' n2' c2', .slice a3' n3' c3'] 26)).cell? ⟨w.heap.size + 1, 0, none⟩ = some (.int .i64 cl) := by simp
    have r1 : ((w.alloc (.cells #[.int .i64 cl, .slice a1 n1 c1, .slice a2 n2 c2, .slice a3 n3 c3] 26)).alloc (.cells #[.int .i64 cl, .slice a1' n1' c1', .slice a2' n2' c2', .slice a3' n3' c3'] 26)).cell? ⟨w.heap.size + 1, 1, none⟩ = some (.slice a1' n1' c1') := by simp
    have r2 : ((w.alloc (.cells #[.int .i64 cl, .slice a1 n1 c1, .slice a2 n2 c2, .slice a3 n3 c3] 26)).alloc (.cells #[.int .i64 cl, .slice a1' n1' c1', .slice a2' n2' c2', .slice a3' n3' c3'] 26)).cell? ⟨w.heap.size + 1, 2, none⟩ = some (.slice a2' n2' c2') := by simp
    have r3 : ((w.alloc (.cells #[.int .i64 cl, .slice a1 n1 c1, .slice a2 n2 c2, .slice a3 n3 c3] 26)).alloc (.cells #[.int .i64 cl, .slice a1' n1' c1', .slice a2' n2' c2', .slice a3' n3' c3'] 26)).cell? ⟨w.heap.size + 1, 3, none⟩ = some (.slice a3' n3' c3') := by simp
    generalize ((w.alloc (.cells #[.int .i64 cl, .slice a1 n1 c1, .slice a2 n2 c2, .slice a3 n3 c3] 26)).alloc (.cells #[.int .i64 cl, .slice a1' n1' c1', .slice a2' n2' c2', .slice a3' n3' c3'] 26)) = W at *
    have hb0 := b0.size
    generalize hq1 : eqX bd bd' = x1 at *
    generalize hq2 : eqX (listsOf hs) (listsOf hs') = x2 at *
    generalize hq3 : eqX br br' = x3 at *
    have HQ : Hid ((eqX bd bd' && (eqX (listsOf hs) (listsOf hs') && eqX br br')) = (x1 && (x2 && x3))) := Lib.hid (by rw [hq1, hq2, hq3])
    clear hq1 hq2 hq3
    refine (HB.out _ b0).mono ?_
    rintro e w1 ⟨rfl, g⟩
    have p2 := kept_cell g p2
    have p3 := kept_cell g p3
    have r2 := kept_cell g r2
    have r3 := kept_cell g r3
    have b1 := b0.trans (g.mono hb0)
    have hb1 := b1.size
    clear g HB p0 p1 r0 r1 b0
    cases x1
    · go_wp2_with fail
      go_ret
      exact ⟨ret_bool (by rw [HQ.out]; rfl), b1⟩
    go_wp2_with fail
    refine (HL.out _ b1).mono ?_
    rintro e w2 ⟨rfl, g⟩
    have p3 := kept_cell g p3
    have r3 := kept_cell g r3
    have b2 := b1.trans (g.mono hb1)
    have hb2 := b2.size
    clear g HL p2 r2 b1
    cases x2
    · go_wp2_with fail
      go_ret
      exact ⟨ret_bool (by rw [HQ.out]; rfl), b2⟩
    go_wp2_with fail
    refine (HO.out _ b2).mono ?_
    rintro e w3 ⟨rfl, g⟩
    have b3 := b2.trans (g.mono hb2)
    clear g HO p3 r3 b2
    go_wp2_with fail
    go_ret
    exact ⟨ret_bool (by rw [HQ.out]; rfl), b3⟩
  · have hcc : (cl == cl') = false := by rw [beq_eq_false_iff_ne]; exact hc
    have H0 : Hid (((cl == cl') && (eqX bd bd' && (eqX (listsOf hs) (listsOf hs') && eqX br br'))) = false) := Lib.hid (by rw [hcc, Bool.false_and])
    rw [H0.out]
    go_enter Tryd.func20, Tryd.ntmps20
    go_wp2_with fail
    go_ret
    exact ⟨rfl, (below_new _ _).trans ((below_new _ _).mono (by simp))⟩
end Go.Proofs.YtbnconieedgcmaaDoor
