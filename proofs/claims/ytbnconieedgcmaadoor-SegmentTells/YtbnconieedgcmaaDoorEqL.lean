/- What comparisons of rows of rows return: the statements' own and slices.EqualFunc. -/
import Derived.Test.YtbnconieedgcmaaDoorEqs
namespace Go.Proofs.YtbnconieedgcmaaDoor
open Go.RowKit Go.BigFrame
set_option linter.unusedVariables false
set_option maxRecDepth 4000
set_option linter.unusedSimpArgs false

set_option maxRecDepth 4000 in
set_option maxHeartbeats 2000000 in
theorem keepLists_same (n : Nat) (H G : List Hi) (A B : Option Addr) (c d : Nat) (w : World) (hH : RN w w.heap.size A n H) (hG : RN w w.heap.size B n G) (hn : n ≤ 1048576) (hm : ∀ h ∈ H, h.n ≤ 1048576) :
    Calls Tryd.prog 62 #[.slice A n c, .slice B n d] w fun e w' => e = .returned (.bool (eqX (listsOf H) (listsOf G))) ∧ Below w.heap.size w w' := by
  have HH := Lib.hid hH
  have HG := Lib.hid hG
  have HM := Lib.hid hm
  have hnn : ((n : Int) != (n : Int)) = false := by simp
  clear hH hG hm
  go_enter Tryd.func62, Tryd.ntmps62
  go_wp2_with fail
  go_loopw [5] (fun i wr => ∃ (k : Nat), k ≤ n ∧ i = .int .i64 k ∧ Below w.heap.size w wr ∧ Hid ((listsOf H).take k = (listsOf G).take k)) (fun i _ => n - (intOf i).toNat)
  case atStart => exact ⟨0, Nat.zero_le _, rfl, Below.refl _ _, Lib.hid rfl⟩
  case round =>
    obtain ⟨k, hk, rfl, hb, HE⟩ := hrel
    have hsz := hb.size
    by_cases hlt : k < n
    · have kH : k < H.length := by rw [HH.out.1]; exact hlt
      have kG : k < G.length := by rw [HG.out.1]; exact hlt
      obtain ⟨b, o, rfl, hbb, p0, q3, _⟩ := (HH.out.on hb).at kH
      obtain ⟨b', o', rfl, hbb', r0, u3, _⟩ := (HG.out.on hb).at kG
      have hm1 := HM.out _ (List.getElem_mem kH)
      have HtP : Hid ((listsOf H).take (k + 1) = (listsOf H).take k ++ [H[k].l]) := Lib.hid (by
        rw [List.take_succ_eq_append_getElem (by unfold listsOf; rw [List.length_map]; exact kH)]; simp [listsOf])
      have HtQ : Hid ((listsOf G).take (k + 1) = (listsOf G).take k ++ [G[k].l]) := Lib.hid (by
        rw [List.take_succ_eq_append_getElem (by unfold listsOf; rw [List.length_map]; exact kG)]; simp [listsOf])
      have HK : Hid (listsOf H = listsOf G → H[k].l = G[k].l) := Lib.hid (fun h => by
        have h1 : (listsOf H)[k]? = (listsOf G)[k]? := by rw [h]
        unfold listsOf at h1
        rw [List.getElem?_map, List.getElem?_map, List.getElem?_eq_getElem kH, List.getElem?_eq_getElem kG] at h1
        simpa using h1)
      have HN : Hid (H[k].l = G[k].l → (listsOf H).take (k + 1) = (listsOf G).take (k + 1)) := Lib.hid (fun h => by rw [HtP.out, HtQ.out, HE.out, h])
      generalize H[k] = x at *
      generalize G[k] = y at *
      obtain ⟨xa, xn, xc, xs⟩ := x
      obtain ⟨ya, yn, yc, ys⟩ := y
      simp only [] at p0 r0 q3 u3 hm1 HK HN
      clear HtP HtQ kH kG
      have hca : Hid (∀ W : World, W.cell? ⟨b, o + k, none⟩ = some (.slice xa xn xc) ∧ W.cell? ⟨b', o' + k, none⟩ = some (.slice ya yn yc) ∧ Below wr.heap.size wr W → Calls Tryd.prog 36 #[.slice xa xn xc, .slice ya yn yc] W fun e w' => e = .returned (.bool (eqX xs ys)) ∧ (w'.cell? ⟨b, o + k, none⟩ = some (.slice xa xn xc) ∧ w'.cell? ⟨b', o' + k, none⟩ = some (.slice ya yn yc) ∧ Below wr.heap.size wr w')) := Lib.hid (fun W hW =>
        (keepInts_n xs ys xn yn xa ya xc yc W (q3.on hW.2.2) (u3.on hW.2.2) hm1).mono (fun e w' h => ⟨h.1, kept_cell h.2 hW.1, kept_cell h.2 hW.2.1, hW.2.2.trans (h.2.mono hW.2.2.size)⟩))
      clear q3 u3
      have bR := Below.refl wr.heap.size wr
      have HQ := Lib.hid (fun (h : xs = ys) => show eqX xs ys = true from eqX_yes h)
      have HQ2 := Lib.hid (fun (h : eqX xs ys = true) => show xs = ys from by unfold eqX at h; exact @of_decide_eq_true _ (Classical.propDecidable _) h)
      generalize eqX xs ys = q at *
      cases q
      · have HD : Hid (eqX (listsOf H) (listsOf G) = false) := Lib.hid (eqX_no (fun h => by have h1 := HQ.out (HK.out h); cases h1))
        clear HK HN HQ HQ2
        go_wp2_with fail
        go_region_held3 (fun w' => w'.cell? ⟨b, o + k, none⟩ = some (.slice xa xn xc) ∧ w'.cell? ⟨b', o' + k, none⟩ = some (.slice ya yn yc) ∧ Below wr.heap.size wr w') (first | assumption | exact ⟨p0, r0, bR⟩ | exact ⟨p0, r0, Below.drew bR⟩ | exact ⟨by assumption, by assumption, by assumption⟩ | exact ⟨by assumption, by assumption, Below.drew (by assumption)⟩) (first | (go_at_call 36; with_reducible refine Calls.mono (hca.out _ ?_) ?_; (first | assumption | exact ⟨p0, r0, bR⟩ | exact ⟨p0, r0, Below.drew bR⟩ | exact ⟨by assumption, by assumption, by assumption⟩ | exact ⟨by assumption, by assumption, Below.drew (by assumption)⟩); rintro e w9 ⟨rfl, q9, q8, b9⟩))
        go_wp2_with fail
        go_ret
        exact ⟨ret_bool HD.out.symm, hb.trans (b9.mono hsz)⟩
      · have HE' := Lib.hid (HN.out (HQ2.out rfl))
        clear HK HN HQ HQ2 HE
        go_wp2_with fail
        go_region_held3 (fun w' => w'.cell? ⟨b, o + k, none⟩ = some (.slice xa xn xc) ∧ w'.cell? ⟨b', o' + k, none⟩ = some (.slice ya yn yc) ∧ Below wr.heap.size wr w') (first | assumption | exact ⟨p0, r0, bR⟩ | exact ⟨p0, r0, Below.drew bR⟩ | exact ⟨by assumption, by assumption, by assumption⟩ | exact ⟨by assumption, by assumption, Below.drew (by assumption)⟩) (first | (go_at_call 36; with_reducible refine Calls.mono (hca.out _ ?_) ?_; (first | assumption | exact ⟨p0, r0, bR⟩ | exact ⟨p0, r0, Below.drew bR⟩ | exact ⟨by assumption, by assumption, by assumption⟩ | exact ⟨by assumption, by assumption, Below.drew (by assumption)⟩); rintro e w9 ⟨rfl, q9, q8, b9⟩))
        have b5 := hb.trans (b9.mono hsz)
        clear hca p0 r0 hb b9 q9 q8 bR
        go_wp2_with fail
        go_roundw
        case rel => exact ⟨k + 1, by omega, by go_num, b5, HE'⟩
        case measure => simp [intOf]; omega
    · have HD : Hid (eqX (listsOf H) (listsOf G) = true) := Lib.hid (eqX_yes (by
        have h := HE.out
        rw [List.take_of_length_le (by unfold listsOf; rw [List.length_map, HH.out.1]; omega), List.take_of_length_le (by unfold listsOf; rw [List.length_map, HG.out.1]; omega)] at h
        exact h))
      go_wp2_with fail
      go_ret
      exact ⟨ret_bool HD.out.symm, hb⟩
theorem keepLists_other (n m : Nat) (A B : Option Addr) (c d : Nat) (w : World) (h : n ≠ m) :
    Calls Tryd.prog 62 #[.slice A n c, .slice B m d] w fun e w' => e = .returned (.bool false) ∧ Below w.heap.size w w' := by
  have h' : ((n : Int) != (m : Int)) = true := by rw [bne_iff_ne]; omega
  clear h
  go_enter Tryd.func62, Tryd.ntmps62
  go_wp2_with fail
  go_ret
  exact ⟨rfl, Below.refl _ _⟩
theorem keepLists_n (H G : List Hi) (n m : Nat) (A B : Option Addr) (c d : Nat) (w : World) (hH : RN w w.heap.size A n H) (hG : RN w w.heap.size B m G) (hn : n ≤ 1048576) (hm : ∀ h ∈ H, h.n ≤ 1048576) :
    Calls Tryd.prog 62 #[.slice A n c, .slice B m d] w fun e w' => e = .returned (.bool (eqX (listsOf H) (listsOf G))) ∧ Below w.heap.size w w' := by
  by_cases h : n = m
  · subst h; exact keepLists_same n H G A B c d w hH hG hn hm
  · rw [eqX_no (fun e => h (by
      have h1 : (listsOf H).length = (listsOf G).length := by rw [e]
      unfold listsOf at h1
      rw [List.length_map, List.length_map, hH.1, hG.1] at h1
      exact h1))]
    exact keepLists_other n m A B c d w h

set_option maxRecDepth 4000 in
set_option maxHeartbeats 2000000 in
theorem eqLists_same (n : Nat) (H G : List Hi) (A B : Option Addr) (c d : Nat) (w : World) (hH : RN w w.heap.size A n H) (hG : RN w w.heap.size B n G) (hn : n ≤ 1048576) (hm : ∀ h ∈ H, h.n ≤ 1048576) :
    Calls Tryd.prog 65 #[.slice A n c, .slice B n d, .func (.func 66) #[] #[]] w fun e w' => e = .returned (.bool (eqX (listsOf H) (listsOf G))) ∧ Below w.heap.size w w' := by
  have HH := Lib.hid hH
  have HG := Lib.hid hG
  have HM := Lib.hid hm
  have hnn : ((n : Int) != (n : Int)) = false := by simp
  clear hH hG hm
  go_enter Tryd.func65, Tryd.ntmps65
  go_wp2_with fail
  go_loopw [17] (fun i wr => ∃ (k : Nat), k ≤ n ∧ i = .int .i64 k ∧ Below w.heap.size w wr ∧ Hid ((listsOf H).take k = (listsOf G).take k)) (fun i _ => n - (intOf i).toNat)
  case atStart => exact ⟨0, Nat.zero_le _, rfl, Below.refl _ _, Lib.hid rfl⟩
  case round =>
    obtain ⟨k, hk, rfl, hb, HE⟩ := hrel
    have hsz := hb.size
    by_cases hlt : k < n
    · have kH : k < H.length := by rw [HH.out.1]; exact hlt
      have kG : k < G.length := by rw [HG.out.1]; exact hlt
      obtain ⟨b, o, rfl, hbb, p0, q3, _⟩ := (HH.out.on hb).at kH
      obtain ⟨b', o', rfl, hbb', r0, u3, _⟩ := (HG.out.on hb).at kG
      have hm1 := HM.out _ (List.getElem_mem kH)
      have HtP : Hid ((listsOf H).take (k + 1) = (listsOf H).take k ++ [H[k].l]) := Lib.hid (by
        rw [List.take_succ_eq_append_getElem (by unfold listsOf; rw [List.length_map]; exact kH)]; simp [listsOf])
      have HtQ : Hid ((listsOf G).take (k + 1) = (listsOf G).take k ++ [G[k].l]) := Lib.hid (by
        rw [List.take_succ_eq_append_getElem (by unfold listsOf; rw [List.length_map]; exact kG)]; simp [listsOf])
      have HK : Hid (listsOf H = listsOf G → H[k].l = G[k].l) := Lib.hid (fun h => by
        have h1 : (listsOf H)[k]? = (listsOf G)[k]? := by rw [h]
        unfold listsOf at h1
        rw [List.getElem?_map, List.getElem?_map, List.getElem?_eq_getElem kH, List.getElem?_eq_getElem kG] at h1
        simpa using h1)
      have HN : Hid (H[k].l = G[k].l → (listsOf H).take (k + 1) = (listsOf G).take (k + 1)) := Lib.hid (fun h => by rw [HtP.out, HtQ.out, HE.out, h])
      generalize H[k] = x at *
      generalize G[k] = y at *
      obtain ⟨xa, xn, xc, xs⟩ := x
      obtain ⟨ya, yn, yc, ys⟩ := y
      simp only [] at p0 r0 q3 u3 hm1 HK HN
      clear HtP HtQ kH kG
      have hca := Lib.hid (eqInts_n xs ys xn yn xa ya xc yc wr q3 u3 hm1)
      clear q3 u3
      have HQ := Lib.hid (fun (h : xs = ys) => show eqX xs ys = true from eqX_yes h)
      have HQ2 := Lib.hid (fun (h : eqX xs ys = true) => show xs = ys from by unfold eqX at h; exact @of_decide_eq_true _ (Classical.propDecidable _) h)
      generalize eqX xs ys = q at *
      cases q
      · have HD : Hid (eqX (listsOf H) (listsOf G) = false) := Lib.hid (eqX_no (fun h => by have h1 := HQ.out (HK.out h); cases h1))
        clear HK HN HQ HQ2
        go_wp2_with fail
        refine hca.out.mono ?_
        rintro e w9 ⟨rfl, b9⟩
        go_wp2_with fail
        go_ret
        exact ⟨ret_bool HD.out.symm, hb.trans (b9.mono hsz)⟩
      · have HE' := Lib.hid (HN.out (HQ2.out rfl))
        clear HK HN HQ HQ2 HE
        go_wp2_with fail
        refine hca.out.mono ?_
        rintro e w9 ⟨rfl, b9⟩
        have b5 := hb.trans (b9.mono hsz)
        clear hca p0 r0 hb b9
        go_wp2_with fail
        go_roundw
        case rel => exact ⟨k + 1, by omega, by go_num, b5, HE'⟩
        case measure => simp [intOf]; omega
    · have HD : Hid (eqX (listsOf H) (listsOf G) = true) := Lib.hid (eqX_yes (by
        have h := HE.out
        rw [List.take_of_length_le (by unfold listsOf; rw [List.length_map, HH.out.1]; omega), List.take_of_length_le (by unfold listsOf; rw [List.length_map, HG.out.1]; omega)] at h
        exact h))
      go_wp2_with fail
      go_ret
      exact ⟨ret_bool HD.out.symm, hb⟩
theorem eqLists_other (n m : Nat) (A B : Option Addr) (c d : Nat) (w : World) (h : n ≠ m) :
    Calls Tryd.prog 65 #[.slice A n c, .slice B m d, .func (.func 66) #[] #[]] w fun e w' => e = .returned (.bool false) ∧ Below w.heap.size w w' := by
  have h' : ((n : Int) != (m : Int)) = true := by rw [bne_iff_ne]; omega
  clear h
  go_enter Tryd.func65, Tryd.ntmps65
  go_wp2_with fail
  go_ret
  exact ⟨rfl, Below.refl _ _⟩
theorem eqLists_n (H G : List Hi) (n m : Nat) (A B : Option Addr) (c d : Nat) (w : World) (hH : RN w w.heap.size A n H) (hG : RN w w.heap.size B m G) (hn : n ≤ 1048576) (hm : ∀ h ∈ H, h.n ≤ 1048576) :
    Calls Tryd.prog 65 #[.slice A n c, .slice B m d, .func (.func 66) #[] #[]] w fun e w' => e = .returned (.bool (eqX (listsOf H) (listsOf G))) ∧ Below w.heap.size w w' := by
  by_cases h : n = m
  · subst h; exact eqLists_same n H G A B c d w hH hG hn hm
  · rw [eqX_no (fun e => h (by
      have h1 : (listsOf H).length = (listsOf G).length := by rw [e]
      unfold listsOf at h1
      rw [List.length_map, List.length_map, hH.1, hG.1] at h1
      exact h1))]
    exact eqLists_other n m A B c d w h

end Go.Proofs.YtbnconieedgcmaaDoor
