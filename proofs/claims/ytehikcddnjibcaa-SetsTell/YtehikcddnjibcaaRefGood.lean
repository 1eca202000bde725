/- What the document's Next, Prev and Good return. -/
import Derived.Test.YtehikcddnjibcaaGood
namespace Go.Proofs.Ytehikcddnjibcaa
open Go.RowKit Go.BigFrame
set_option linter.unusedVariables false
set_option linter.unusedSimpArgs false

/-- The document's Next: a struct, which it lays in one new block. -/
theorem refNext_n (v : Int) (w : World) :
    Calls Try.prog 39 #[.int .i64 v] w fun e w' => e = .returned (.agg #[.int .i64 (nextN v), .bool (nextB v)]) ∧ Below w.heap.size w w' ∧ w.drawn ≤ w'.drawn := by
  by_cases c1 : 1114111 ≤ v
  · rw [show nextN v = 0 by unfold nextN; rw [if_pos (by omega)], show nextB v = false from decide_eq_false (by omega)]
    go_enter Try.func39, Try.ntmps39
    go_wp2
    exact bodyPost_ret (v := .agg #[.int .i64 0, .bool false]) (by simp [results, Try.results39, go_sem]) rfl ⟨rfl, below_new _ _, Nat.le_refl _⟩
  · rw [show nextB v = true from decide_eq_true (by omega)]
    by_cases c2 : v < 0
    · rw [show nextN v = 0 by unfold nextN; rw [if_pos (by omega)]]
      go_enter Try.func39, Try.ntmps39
      go_wp2
      exact bodyPost_ret (v := .agg #[.int .i64 0, .bool true]) (by simp [results, Try.results39, go_sem]) rfl ⟨rfl, below_new _ _, Nat.le_refl _⟩
    · by_cases c3 : 55295 ≤ v
      · by_cases c4 : v < 57344
        · rw [show nextN v = 57344 by unfold nextN; rw [if_neg (by omega), if_pos (by omega)]]
          go_enter Try.func39, Try.ntmps39
          go_wp2
          exact bodyPost_ret (v := .agg #[.int .i64 57344, .bool true]) (by simp [results, Try.results39, go_sem]) rfl ⟨rfl, below_new _ _, Nat.le_refl _⟩
        · rw [show nextN v = v + 1 by unfold nextN; rw [if_neg (by omega), if_neg (by omega)]]
          go_enter Try.func39, Try.ntmps39
          go_wp2
          exact bodyPost_ret (v := .agg #[.int .i64 (v + 1), .bool true]) (by simp [results, Try.results39, go_sem]) rfl ⟨rfl, below_new _ _, Nat.le_refl _⟩
      · rw [show nextN v = v + 1 by unfold nextN; rw [if_neg (by omega), if_neg (by omega)]]
        go_enter Try.func39, Try.ntmps39
        go_wp2
        exact bodyPost_ret (v := .agg #[.int .i64 (v + 1), .bool true]) (by simp [results, Try.results39, go_sem]) rfl ⟨rfl, below_new _ _, Nat.le_refl _⟩

/-- The document's Prev: likewise. -/
theorem refPrev_n (v : Int) (w : World) :
    Calls Try.prog 50 #[.int .i64 v] w fun e w' => e = .returned (.agg #[.int .i64 (prevN v), .bool (prevB v)]) ∧ Below w.heap.size w w' ∧ w.drawn ≤ w'.drawn := by
  by_cases c1 : v ≤ 0
  · rw [show prevN v = 0 by unfold prevN; rw [if_pos (by omega)], show prevB v = false from decide_eq_false (by omega)]
    go_enter Try.func50, Try.ntmps50
    go_wp2
    exact bodyPost_ret (v := .agg #[.int .i64 0, .bool false]) (by simp [results, Try.results50, go_sem]) rfl ⟨rfl, below_new _ _, Nat.le_refl _⟩
  · rw [show prevB v = true from decide_eq_true (by omega)]
    by_cases c2 : 1114111 < v
    · rw [show prevN v = 1114111 by unfold prevN; rw [if_neg (by omega), if_pos (by omega)]]
      go_enter Try.func50, Try.ntmps50
      go_wp2
      exact bodyPost_ret (v := .agg #[.int .i64 1114111, .bool true]) (by simp [results, Try.results50, go_sem]) rfl ⟨rfl, below_new _ _, Nat.le_refl _⟩
    · by_cases c3 : 55296 < v
      · by_cases c4 : v ≤ 57344
        · rw [show prevN v = 55295 by unfold prevN; rw [if_neg (by omega), if_neg (by omega), if_pos (by omega)]]
          go_enter Try.func50, Try.ntmps50
          go_wp2
          exact bodyPost_ret (v := .agg #[.int .i64 55295, .bool true]) (by simp [results, Try.results50, go_sem]) rfl ⟨rfl, below_new _ _, Nat.le_refl _⟩
        · rw [show prevN v = v - 1 by unfold prevN; rw [if_neg (by omega), if_neg (by omega), if_neg (by omega)]]
          go_enter Try.func50, Try.ntmps50
          go_wp2
          exact bodyPost_ret (v := .agg #[.int .i64 (v - 1), .bool true]) (by simp [results, Try.results50, go_sem]) rfl ⟨rfl, below_new _ _, Nat.le_refl _⟩
      · rw [show prevN v = v - 1 by unfold prevN; rw [if_neg (by omega), if_neg (by omega), if_neg (by omega)]]
        go_enter Try.func50, Try.ntmps50
        go_wp2
        exact bodyPost_ret (v := .agg #[.int .i64 (v - 1), .bool true]) (by simp [results, Try.results50, go_sem]) rfl ⟨rfl, below_new _ _, Nat.le_refl _⟩


theorem refIs_q (v : Int) (W : World) : Calls Try.prog 28 #[.int .i64 v] W fun e w' => e = .returned (.bool (isB v)) ∧ w' = W :=
  (refIs_any v W).mono fun _ _ ⟨he, hw⟩ => ⟨he, hw.symm⟩

set_option maxHeartbeats 2000000 in
theorem refGood_n (n : Nat) (l : List Rg) (hl : l.length = n) (A : Option Addr) (c : Nat) (w : World) (hR : Reads w w.heap.size 2 A n (rcells l)) (hn : n ≤ 1000000) :
    Calls Try.prog 19 #[.slice A n c] w fun e w' => e = .returned (.bool (goodB l)) ∧ Below w.heap.size w w' := by
  have HR := Lib.hid hR
  have HL := Lib.hid hl
  clear hR hl
  go_enter Try.func19, Try.ntmps19
  go_wp2_with fail
  go_loopw [3] (fun i wr => ∃ (k : Nat), k ≤ n ∧ i = .int .i64 k ∧ Below w.heap.size w wr ∧ Hid (GInv l k)) (fun i _ => n - (intOf i).toNat)
  case atStart => exact ⟨0, Nat.zero_le _, rfl, Below.refl _ _, Lib.hid (gInv_start l)⟩
  case round =>
    obtain ⟨k, hk, rfl, hb, HG⟩ := hrel
    have hsz := hb.size
    by_cases hlt : k < n
    · have kl : k < l.length := by rw [HL.out]; exact hlt
      obtain ⟨b, o, rfl, hbb, p0, p1⟩ := (HR.out.below hb).rg kl
      have HF : Hid (mayB l[k] = false → goodB l = false) := Lib.hid (fun h => gInv_may HG.out kl h)
      have HM : Hid (mayB l[k] = true → (k = 0 ∧ GInv l 1) ∨ ∃ y0 y1 : Int, 0 < k ∧ wr.cell? ⟨b, o + (k - 1) * 2 + 1, none⟩ = some (.int .i64 y1) ∧ (apB (y0, y1) l[k] = false → goodB l = false) ∧ (apB (y0, y1) l[k] = true → GInv l (k + 1))) := Lib.hid (fun h => by
        cases k with
        | zero => exact .inl ⟨rfl, gInv_zero HG.out kl h⟩
        | succ k =>
          have kp : k < l.length := by omega
          obtain ⟨b', o', hA, _, q0, q1⟩ := (HR.out.below hb).rg kp
          injection hA with hA
          injection hA with hA1 hA2
          subst hA1 hA2
          exact .inr ⟨l[k].1, l[k].2, by omega, q1, fun h2 => gInv_ap HG.out kl h h2, fun h2 => gInv_next HG.out kl h h2⟩)
      generalize l[k] = x at *
      obtain ⟨x0, x1⟩ := x
      simp only [] at p0 p1
      have hd : mayB (x0, x1) = (isB x0 && (isB x1 && decide (x0 ≤ x1))) := rfl
      cases hx : isB x0
      · have HX := Lib.hid (HF.out (by rw [hd, hx]; rfl))
        clear HM HF HG hd
        go_wp2_with fail
        go_big_quiet (first | (go_at_call 28; refine Calls.quiet_of_same (refIs_q _ _)))
        go_wp2_with fail
        go_ret
        exact ⟨ret_bool HX.out.symm, below_drewN hb _⟩
      · cases hy : isB x1
        · have HX := Lib.hid (HF.out (by rw [hd, hx, hy]; rfl))
          clear HM HF HG hd
          go_wp2_with fail
          go_big_quiet (first | (go_at_call 28; refine Calls.quiet_of_same (refIs_q _ _)))
          go_wp2_with fail
          go_ret
          exact ⟨ret_bool HX.out.symm, below_drewN hb _⟩
        · by_cases hxy : x1 < x0
          · have HX := Lib.hid (HF.out (by rw [hd, hx, hy, decide_eq_false (by omega)]; rfl))
            clear HM HF HG hd
            go_wp2_with fail
            go_big_quiet (first | (go_at_call 28; refine Calls.quiet_of_same (refIs_q _ _)))
            go_wp2_with fail
            go_ret
            exact ⟨ret_bool HX.out.symm, below_drewN hb _⟩
          · have hM := HM.out (by rw [hd, hx, hy, decide_eq_true (by omega)]; rfl)
            have hxy' : decide (x1 < x0) = false := decide_eq_false hxy
            clear HM HF HG hd
            rcases hM with ⟨rfl, hG⟩ | ⟨y0, y1, hk0, q1, hN, hY⟩
            · have HX := Lib.hid hG
              clear hG
              simp only [Nat.zero_mul, Nat.add_zero] at p0 p1
              go_wp2_with fail
              go_big_quiet (first | (go_at_call 28; refine Calls.quiet_of_same (refIs_q _ _)))
              go_wp2_with fail
              go_roundw
              case rel => exact ⟨1, by omega, by go_num, below_drewN hb _, HX⟩
              case measure => simp [intOf]; omega
            · obtain ⟨j, rfl⟩ : ∃ j, k = j + 1 := ⟨k - 1, by omega⟩
              have HN := Lib.hid hN
              have HY := Lib.hid hY
              have hap : apB (y0, y1) (x0, x1) = (nextB y1 && decide (nextN y1 < x0)) := rfl
              rw [show j + 1 - 1 = j by omega] at q1
              have hcn := fun W => refNext_n y1 W
              rw [hap] at HN HY
              clear hN hY hap
              generalize nextB y1 = nb at *
              generalize nextN y1 = nn at *
              go_wp2_with fail
              go_big_quiet (first | (go_at_call 28; refine Calls.quiet_of_same (refIs_q _ _)))
              have b2 := below_drewN hb nq
              have p0' : (wr.drewN nq).cell? ⟨b, o + (j + 1) * 2, none⟩ = some (.int .i64 x0) := p0
              have q1' : (wr.drewN nq).cell? ⟨b, o + j * 2 + 1, none⟩ = some (.int .i64 y1) := q1
              clear hb p0 p1 q1
              generalize wr.drewN nq = w2 at *
              go_wp2_with fail
              refine (hcn _).mono ?_
              rintro e w3 ⟨rfl, g3, _⟩
              have b3 := b2.trans (g3.mono b2.size)
              have p0'' := kept_cell g3 p0'
              have hs3 := b3.size
              clear p0' q1' g3 b2
              cases nb
              · have HX := Lib.hid (HN.out rfl)
                clear HN HY
                go_wp2_with fail
                have c0 : (w3.alloc (.cells #[.int .i64 nn, .bool false] 58)).cell? ⟨w3.heap.size, 0, none⟩ = some (.int .i64 nn) := by simp
                have c1 : (w3.alloc (.cells #[.int .i64 nn, .bool false] 58)).cell? ⟨w3.heap.size, 1, none⟩ = some (.bool false) := by simp
                have c2 := cell_alloc (.cells #[.int .i64 nn, .bool false] 58) p0''
                have b4 := b3.alloc hs3 (.cells #[.int .i64 nn, .bool false] 58)
                generalize w3.alloc (.cells #[.int .i64 nn, .bool false] 58) = w4 at *
                go_big_quiet (fail)
                go_wp2_with fail
                go_ret
                exact ⟨ret_bool HX.out.symm, below_drewN b4 _⟩
              · by_cases hnx : nn < x0
                · have HX := Lib.hid (HY.out (by rw [decide_eq_true hnx]; rfl))
                  have hnx' : decide (x0 ≤ nn) = false := decide_eq_false (by omega)
                  clear HN HY
                  go_wp2_with fail
                  have c0 : (w3.alloc (.cells #[.int .i64 nn, .bool true] 58)).cell? ⟨w3.heap.size, 0, none⟩ = some (.int .i64 nn) := by simp
                  have c1 : (w3.alloc (.cells #[.int .i64 nn, .bool true] 58)).cell? ⟨w3.heap.size, 1, none⟩ = some (.bool true) := by simp
                  have c2 := cell_alloc (.cells #[.int .i64 nn, .bool true] 58) p0''
                  have b4 := b3.alloc hs3 (.cells #[.int .i64 nn, .bool true] 58)
                  generalize w3.alloc (.cells #[.int .i64 nn, .bool true] 58) = w4 at *
                  go_big_quiet (fail)
                  go_wp2_with fail
                  go_roundw
                  case rel => exact ⟨j + 1 + 1, by omega, by go_num, below_drewN b4 _, HX⟩
                  case measure => simp [intOf]; omega
                · have HX := Lib.hid (HN.out (by rw [decide_eq_false hnx]; rfl))
                  have hnx' : decide (x0 ≤ nn) = true := decide_eq_true (by omega)
                  clear HN HY
                  go_wp2_with fail
                  have c0 : (w3.alloc (.cells #[.int .i64 nn, .bool true] 58)).cell? ⟨w3.heap.size, 0, none⟩ = some (.int .i64 nn) := by simp
                  have c1 : (w3.alloc (.cells #[.int .i64 nn, .bool true] 58)).cell? ⟨w3.heap.size, 1, none⟩ = some (.bool true) := by simp
                  have c2 := cell_alloc (.cells #[.int .i64 nn, .bool true] 58) p0''
                  have b4 := b3.alloc hs3 (.cells #[.int .i64 nn, .bool true] 58)
                  generalize w3.alloc (.cells #[.int .i64 nn, .bool true] 58) = w4 at *
                  go_big_quiet (fail)
                  go_wp2_with fail
                  go_ret
                  exact ⟨ret_bool HX.out.symm, below_drewN b4 _⟩
    · have HT : Hid (goodB l = true) := Lib.hid (gInv_end HG.out (by rw [HL.out]; exact hlt))
      go_wp2_with fail
      go_ret
      exact ⟨ret_bool HT.out.symm, hb⟩
end Go.Proofs.Ytehikcddnjibcaa
