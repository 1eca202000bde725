/- What Good returns: whether a row of ranges may be a set. -/
import Derived.Test.YtehikcddnjibcaaCmp
namespace Go.Proofs.Ytehikcddnjibcaa
open Go.RowKit
set_option linter.unusedVariables false
set_option linter.unusedSimpArgs false
open Go.BigFrame

/-- Ahead of round k: the row is good just if what is left is, above m. -/
def GInv (l : List Rg) (k : Nat) : Prop := ∃ m, goodB l = gdB m (l.drop k) ∧ ((k = 0 ∧ m = -1) ∨ ∃ h : k - 1 < l.length, 0 < k ∧ Ok l[k - 1] ∧ m = nx l[k - 1].2)
theorem gInv_start (l : List Rg) : GInv l 0 := ⟨-1, rfl, .inl ⟨rfl, rfl⟩⟩
theorem gInv_end {l : List Rg} {k : Nat} (h : GInv l k) (hk : ¬ k < l.length) : goodB l = true := by
  obtain ⟨m, h, _⟩ := h
  rw [h, List.drop_eq_nil_of_le (by omega)]
  rfl
theorem gInv_may {l : List Rg} {k : Nat} (h : GInv l k) (hk : k < l.length) (hm : mayB l[k] = false) : goodB l = false := by
  obtain ⟨m, h, _⟩ := h
  rw [h, List.drop_eq_getElem_cons hk, gdB, hm]
  simp
theorem gInv_zero {l : List Rg} (h : GInv l 0) (hk : 0 < l.length) (hm : mayB l[0] = true) : GInv l 1 := by
  obtain ⟨m, h, h2⟩ := h
  have hok := (mayB_iff _).1 hm
  refine ⟨nx l[0].2, ?_, .inr ⟨by simpa using hk, by omega, hok, rfl⟩⟩
  rcases h2 with ⟨_, rfl⟩ | ⟨_, h0, _⟩
  · rw [h, List.drop_eq_getElem_cons hk, gdB, hm, decide_eq_true (by have := hok.1; unfold Sc at this; omega)]
    simp
  · omega
theorem gInv_ap {l : List Rg} {k : Nat} (h : GInv l (k + 1)) (hk : k + 1 < l.length) (hm : mayB l[k + 1] = true) (ha : apB l[k] l[k + 1] = false) : goodB l = false := by
  obtain ⟨m, h, h2⟩ := h
  have hok := (mayB_iff _).1 hm
  rcases h2 with ⟨h0, _⟩ | ⟨_, _, hp, rfl⟩
  · omega
  · have hp' : Ok l[k] := hp
    have : ¬ nx l[k].2 < l[k + 1].1 := fun hlt => by rw [(apB_iff hp' hok).2 hlt] at ha; cases ha
    rw [h, List.drop_eq_getElem_cons hk, gdB]
    show (decide (nx l[k].2 < l[k + 1].1) && _) = false
    rw [decide_eq_false this]
    simp
theorem gInv_next {l : List Rg} {k : Nat} (h : GInv l (k + 1)) (hk : k + 1 < l.length) (hm : mayB l[k + 1] = true) (ha : apB l[k] l[k + 1] = true) : GInv l (k + 1 + 1) := by
  obtain ⟨m, h, h2⟩ := h
  have hok := (mayB_iff _).1 hm
  refine ⟨nx l[k + 1].2, ?_, .inr ⟨by simpa using hk, by omega, hok, rfl⟩⟩
  rcases h2 with ⟨h0, _⟩ | ⟨_, _, hp, rfl⟩
  · omega
  · have hp' : Ok l[k] := hp
    have := (apB_iff hp' hok).1 ha
    rw [h, List.drop_eq_getElem_cons hk, gdB, hm]
    show (decide (nx l[k].2 < l[k + 1].1) && _) = _
    rw [decide_eq_true this]
    simp

set_option maxHeartbeats 1000000 in
theorem good_n (n : Nat) (l : List Rg) (hl : l.length = n) (A : Option Addr) (c : Nat) (w : World) (hR : Reads w w.heap.size 2 A n (rcells l)) (hn : n ≤ 1000000) :
    Calls Try.prog 18 #[.slice A n c] w fun e w' => e = .returned (.bool (goodB l)) ∧ Below w.heap.size w w' := by
  have HR := Lib.hid hR
  have HL := Lib.hid hl
  clear hR hl
  go_enter Try.func18, Try.ntmps18
  go_wp2_with fail
  go_loopw [7] (fun i wr => ∃ (k : Nat), k ≤ n ∧ i = .int .i64 k ∧ Below w.heap.size w wr ∧ Hid (GInv l k)) (fun i _ => n - (intOf i).toNat)
  case atStart => exact ⟨0, Nat.zero_le _, rfl, Below.refl _ _, Lib.hid (gInv_start l)⟩
  case round =>
    obtain ⟨k, hk, rfl, hb, HG⟩ := hrel
    have hsz := hb.size
    by_cases hlt : k < n
    · have kl : k < l.length := by rw [HL.out]; exact hlt
      obtain ⟨b, o, rfl, hbb, p0, p1⟩ := (HR.out.below hb).rg kl
      cases k with
      | zero =>
        have HM : Hid (mayB l[0] = true → GInv l 1) := Lib.hid (fun h => gInv_zero HG.out kl h)
        have HF : Hid (mayB l[0] = false → goodB l = false) := Lib.hid (fun h => gInv_may HG.out kl h)
        generalize l[0] = x at *
        obtain ⟨x0, x1⟩ := x
        simp only [Nat.zero_mul, Nat.add_zero] at p0 p1
        have hmc := fun W => lay_of (mayBe_any x0 x1 W)
        cases hm : mayB (x0, x1)
        · rw [hm] at hmc
          have HX := Lib.hid (HF.out hm)
          clear HM HF HG hm
          go_wp2_with fail
          have c0 : (wr.alloc (.cells #[.int .i64 x0, .int .i64 x1] 41)).cell? ⟨wr.heap.size, 0, none⟩ = some (.int .i64 x0) := by simp
          have c1 : (wr.alloc (.cells #[.int .i64 x0, .int .i64 x1] 41)).cell? ⟨wr.heap.size, 1, none⟩ = some (.int .i64 x1) := by simp
          have hb2 : Below w.heap.size w (wr.alloc (.cells #[.int .i64 x0, .int .i64 x1] 41)) := hb.alloc hsz _
          generalize wr.alloc (.cells #[.int .i64 x0, .int .i64 x1] 41) = w1 at *
          have d0 := fun n os => cell_grown (World.block_lt_of_cell? _ _ c0) c0 n os
          have d1 := fun n os => cell_grown (World.block_lt_of_cell? _ _ c1) c1 n os
          refine wp_region_quiet_grown mixedTry (by kernel_rfl) ?_
          repeat (go_big_quiet_step (first | (go_at_call 29; refine Calls.grown_of (hmc _))))
          refine wpQuiet_nil ?_
          intro _ hw'
          obtain ⟨⟨nq, osq⟩, hw''⟩ := hw'
          subst hw''
          have hb9 := hb2.trans ((below_grown_of w1 nq osq).1.mono hb2.size)
          all_goals
            go_wp2_with fail
            go_ret
            exact ⟨ret_bool HX.out.symm, hb9⟩
        · rw [hm] at hmc
          have HX := Lib.hid (HM.out hm)
          clear HM HF HG hm
          go_wp2_with fail
          have c0 : (wr.alloc (.cells #[.int .i64 x0, .int .i64 x1] 41)).cell? ⟨wr.heap.size, 0, none⟩ = some (.int .i64 x0) := by simp
          have c1 : (wr.alloc (.cells #[.int .i64 x0, .int .i64 x1] 41)).cell? ⟨wr.heap.size, 1, none⟩ = some (.int .i64 x1) := by simp
          have hb2 : Below w.heap.size w (wr.alloc (.cells #[.int .i64 x0, .int .i64 x1] 41)) := hb.alloc hsz _
          generalize wr.alloc (.cells #[.int .i64 x0, .int .i64 x1] 41) = w1 at *
          have d0 := fun n os => cell_grown (World.block_lt_of_cell? _ _ c0) c0 n os
          have d1 := fun n os => cell_grown (World.block_lt_of_cell? _ _ c1) c1 n os
          refine wp_region_quiet_grown mixedTry (by kernel_rfl) ?_
          repeat (go_big_quiet_step (first | (go_at_call 29; refine Calls.grown_of (hmc _))))
          refine wpQuiet_nil ?_
          intro _ hw'
          obtain ⟨⟨nq, osq⟩, hw''⟩ := hw'
          subst hw''
          have hb9 := hb2.trans ((below_grown_of w1 nq osq).1.mono hb2.size)
          all_goals
            go_wp2_with fail
            go_roundw
            case rel => exact ⟨1, by omega, by go_num, hb9, HX⟩
            case measure => simp [intOf]; omega
      | succ k =>
        have kp : k < l.length := by omega
        obtain ⟨b', o', hA, _, q0, q1⟩ := (HR.out.below hb).rg kp
        injection hA with hA
        injection hA with hA1 hA2
        subst hA1 hA2
        have HF : Hid (mayB l[k + 1] = false → goodB l = false) := Lib.hid (fun h => gInv_may HG.out kl h)
        have HN : Hid (mayB l[k + 1] = true → apB l[k] l[k + 1] = false → goodB l = false) := Lib.hid (fun h h2 => gInv_ap HG.out kl h h2)
        have HM : Hid (mayB l[k + 1] = true → apB l[k] l[k + 1] = true → GInv l (k + 1 + 1)) := Lib.hid (fun h h2 => gInv_next HG.out kl h h2)
        generalize l[k + 1] = x at *
        generalize l[k] = y at *
        obtain ⟨x0, x1⟩ := x
        obtain ⟨y0, y1⟩ := y
        simp only [] at p0 p1 q0 q1
        have hmc := fun W => lay_of (mayBe_any x0 x1 W)
        have hac := fun W => lay_of (apart_any y0 y1 x0 x1 W)
        cases hm : mayB (x0, x1)
        · rw [hm] at hmc
          have HX := Lib.hid (HF.out hm)
          clear HM HF HG HN hm
          go_wp2_with fail
          have c0 : (wr.alloc (.cells #[.int .i64 x0, .int .i64 x1] 41)).cell? ⟨wr.heap.size, 0, none⟩ = some (.int .i64 x0) := by simp
          have c1 : (wr.alloc (.cells #[.int .i64 x0, .int .i64 x1] 41)).cell? ⟨wr.heap.size, 1, none⟩ = some (.int .i64 x1) := by simp
          have c2 := cell_alloc (.cells #[.int .i64 x0, .int .i64 x1] 41) q0
          have c3 := cell_alloc (.cells #[.int .i64 x0, .int .i64 x1] 41) q1
          have hb2 : Below w.heap.size w (wr.alloc (.cells #[.int .i64 x0, .int .i64 x1] 41)) := hb.alloc hsz _
          generalize wr.alloc (.cells #[.int .i64 x0, .int .i64 x1] 41) = w1 at *
          have d0 := fun n os => cell_grown (World.block_lt_of_cell? _ _ c0) c0 n os
          have d1 := fun n os => cell_grown (World.block_lt_of_cell? _ _ c1) c1 n os
          have d2 := fun n os => cell_grown (World.block_lt_of_cell? _ _ c2) c2 n os
          have d3 := fun n os => cell_grown (World.block_lt_of_cell? _ _ c3) c3 n os
          refine wp_region_quiet_grown mixedTry (by kernel_rfl) ?_
          repeat (go_big_quiet_step (first | (go_at_call 29; refine Calls.grown_of (hmc _)) | (go_at_call 38; refine Calls.grown_of (hac _))))
          refine wpQuiet_nil ?_
          intro _ hw'
          obtain ⟨⟨nq, osq⟩, hw''⟩ := hw'
          subst hw''
          have hb9 := hb2.trans ((below_grown_of w1 nq osq).1.mono hb2.size)
          go_wp2_with fail
          go_ret
          exact ⟨ret_bool HX.out.symm, hb9⟩
        · cases ha : apB (y0, y1) (x0, x1)
          · rw [hm] at hmc
            rw [ha] at hac
            have HX := Lib.hid (HN.out hm ha)
            clear HM HF HG HN hm ha
            go_wp2_with fail
            have c0 : (wr.alloc (.cells #[.int .i64 x0, .int .i64 x1] 41)).cell? ⟨wr.heap.size, 0, none⟩ = some (.int .i64 x0) := by simp
            have c1 : (wr.alloc (.cells #[.int .i64 x0, .int .i64 x1] 41)).cell? ⟨wr.heap.size, 1, none⟩ = some (.int .i64 x1) := by simp
            have c2 := cell_alloc (.cells #[.int .i64 x0, .int .i64 x1] 41) q0
            have c3 := cell_alloc (.cells #[.int .i64 x0, .int .i64 x1] 41) q1
            have hb2 : Below w.heap.size w (wr.alloc (.cells #[.int .i64 x0, .int .i64 x1] 41)) := hb.alloc hsz _
            generalize wr.alloc (.cells #[.int .i64 x0, .int .i64 x1] 41) = w1 at *
            have d0 := fun n os => cell_grown (World.block_lt_of_cell? _ _ c0) c0 n os
            have d1 := fun n os => cell_grown (World.block_lt_of_cell? _ _ c1) c1 n os
            have d2 := fun n os => cell_grown (World.block_lt_of_cell? _ _ c2) c2 n os
            have d3 := fun n os => cell_grown (World.block_lt_of_cell? _ _ c3) c3 n os
            refine wp_region_quiet_grown mixedTry (by kernel_rfl) ?_
            repeat (go_big_quiet_step (first | (go_at_call 29; refine Calls.grown_of (hmc _)) | (go_at_call 38; refine Calls.grown_of (hac _))))
            refine wpQuiet_nil ?_
            intro _ hw'
            obtain ⟨⟨nq, osq⟩, hw''⟩ := hw'
            subst hw''
            have hb9 := hb2.trans ((below_grown_of w1 nq osq).1.mono hb2.size)
            go_wp2_with fail
            go_ret
            exact ⟨ret_bool HX.out.symm, hb9⟩
          · rw [hm] at hmc
            rw [ha] at hac
            have HX := Lib.hid (HM.out hm ha)
            clear HM HF HG HN hm ha
            go_wp2_with fail
            have c0 : (wr.alloc (.cells #[.int .i64 x0, .int .i64 x1] 41)).cell? ⟨wr.heap.size, 0, none⟩ = some (.int .i64 x0) := by simp
            have c1 : (wr.alloc (.cells #[.int .i64 x0, .int .i64 x1] 41)).cell? ⟨wr.heap.size, 1, none⟩ = some (.int .i64 x1) := by simp
            have c2 := cell_alloc (.cells #[.int .i64 x0, .int .i64 x1] 41) q0
            have c3 := cell_alloc (.cells #[.int .i64 x0, .int .i64 x1] 41) q1
            have hb2 : Below w.heap.size w (wr.alloc (.cells #[.int .i64 x0, .int .i64 x1] 41)) := hb.alloc hsz _
            generalize wr.alloc (.cells #[.int .i64 x0, .int .i64 x1] 41) = w1 at *
            have d0 := fun n os => cell_grown (World.block_lt_of_cell? _ _ c0) c0 n os
            have d1 := fun n os => cell_grown (World.block_lt_of_cell? _ _ c1) c1 n os
            have d2 := fun n os => cell_grown (World.block_lt_of_cell? _ _ c2) c2 n os
            have d3 := fun n os => cell_grown (World.block_lt_of_cell? _ _ c3) c3 n os
            refine wp_region_quiet_grown mixedTry (by kernel_rfl) ?_
            repeat (go_big_quiet_step (first | (go_at_call 29; refine Calls.grown_of (hmc _)) | (go_at_call 38; refine Calls.grown_of (hac _))))
            refine wpQuiet_nil ?_
            intro _ hw'
            obtain ⟨⟨nq, osq⟩, hw''⟩ := hw'
            subst hw''
            have hb9 := hb2.trans ((below_grown_of w1 nq osq).1.mono hb2.size)
            go_wp2_with fail
            go_roundw
            case rel => exact ⟨k + 1 + 1, by omega, by go_num, hb9, HX⟩
            case measure => simp [intOf]; omega
    · have HT : Hid (goodB l = true) := Lib.hid (gInv_end HG.out (by rw [HL.out]; exact hlt))
      go_wp2_with fail
      go_ret
      exact ⟨ret_bool HT.out.symm, hb⟩
end Go.Proofs.Ytehikcddnjibcaa
