/- What comparisons of rows return: the statements' own and slices.Equal. -/
import Derived.Test.YtbnconieedgcmaaDoorTabs
import Derived.Deep.RegionHeld3
namespace Go.Proofs.YtbnconieedgcmaaDoor
open Go.RowKit Go.BigFrame
set_option linter.unusedVariables false
set_option maxRecDepth 4000
set_option linter.unusedSimpArgs false

theorem guard52 : Tryd.prog.eqGuardType Tryd.prog.depth 52 = false := by kernel_rfl
theorem held52 : Tryd.prog.stoodInHeld 52 = false := by kernel_rfl
theorem fields52 : Tryd.prog.underlying 52 = some (.struct (Tryd.prog.fieldsOf 52)) := by kernel_rfl
theorem neq52_same (x0 x1 : Int) (W : World) : (binOp .neq 52 (.agg #[.int .i64 x0, .int .i64 x1]) (.agg #[.int .i64 x0, .int .i64 x1])).run Tryd.prog W = .ok (.bool false) W := by
  rw [run_neq_struct, run_equalIn_agg _ _ _ _ _ fields52 held52]
  unfold Program.fieldsOf
  rw [Tryd.underlying52]
  simp [go_sem, Tryd.underlying3]
theorem neq52_diff (x0 x1 y0 y1 : Int) (h : ¬ (x0 = y0 ∧ x1 = y1)) (W : World) : (binOp .neq 52 (.agg #[.int .i64 x0, .int .i64 x1]) (.agg #[.int .i64 y0, .int .i64 y1])).run Tryd.prog W = .ok (.bool true) W := by
  rw [run_neq_struct, run_equalIn_agg _ _ _ _ _ fields52 held52]
  unfold Program.fieldsOf
  rw [Tryd.underlying52]
  by_cases h0 : x0 = y0 <;> by_cases h1 : x1 = y1 <;> simp [go_sem, Tryd.underlying3, h0, h1] <;> exact h ⟨h0, h1⟩

set_option maxHeartbeats 1000000 in
theorem keepBands_same (n : Nat) (P Q : List Rg) (A B : Option Addr) (c d : Nat) (w : World) (hP : RD w w.heap.size A n P) (hQ : RD w w.heap.size B n Q) (hn : n ≤ 1048576) :
    Calls Tryd.prog 61 #[.slice A n c, .slice B n d] w fun e w' => e = .returned (.bool (eqX P Q)) ∧ Below w.heap.size w w' := by
  have HP := Lib.hid hP
  have HQ := Lib.hid hQ
  have LP := Lib.hid hP.1
  have LQ := Lib.hid hQ.1
  have hnn : ((n : Int) != (n : Int)) = false := by simp
  clear hP hQ
  go_enter Tryd.func61, Tryd.ntmps61
  go_wp2_with fail
  go_loopw [5] (fun i wr => ∃ (k q : Nat), k ≤ n ∧ i = .int .i64 k ∧ wr = w.drewN q ∧ Hid (P.take k = Q.take k)) (fun i _ => n - (intOf i).toNat)
  case atStart => exact ⟨0, 0, Nat.zero_le _, rfl, rfl, Lib.hid rfl⟩
  case round =>
    obtain ⟨k, q, hk, rfl, rfl, HE⟩ := hrel
    by_cases hlt : k < n
    · have kP : k < P.length := by rw [LP.out]; exact hlt
      have kQ : k < Q.length := by rw [LQ.out]; exact hlt
      obtain ⟨b, o, rfl, _, p0, p1⟩ := HP.out.at kP
      obtain ⟨b', o', rfl, _, q0, q1⟩ := HQ.out.at kQ
      have HtP : Hid (P.take (k + 1) = P.take k ++ [P[k]]) := Lib.hid (List.take_succ_eq_append_getElem kP)
      have HtQ : Hid (Q.take (k + 1) = Q.take k ++ [Q[k]]) := Lib.hid (List.take_succ_eq_append_getElem kQ)
      have HK : Hid (P = Q → P[k] = Q[k]) := Lib.hid (fun h => by subst h; rfl)
      have HN : Hid (P[k] = Q[k] → P.take (k + 1) = Q.take (k + 1)) := Lib.hid (fun h => by rw [HtP.out, HtQ.out, HE.out, h])
      generalize P[k] = x at *
      generalize Q[k] = y at *
      clear HtP HtQ kP kQ
      obtain ⟨x0, x1⟩ := x
      obtain ⟨y0, y1⟩ := y
      simp only [] at p0 p1 q0 q1
      have g52 := guard52
      by_cases hxy : x0 = y0 ∧ x1 = y1
      · obtain ⟨rfl, rfl⟩ := hxy
        have hne := neq52_same x0 x1
        have HE' := Lib.hid (HN.out rfl)
        clear HN HK HE
        go_wp2_with fail
        go_quiet (fail)
        go_wp2_with fail
        go_roundw
        case rel => exact ⟨k + 1, _, by omega, by go_num, rfl, HE'⟩
        case measure => simp [intOf]; omega
      · have hne := neq52_diff x0 x1 y0 y1 hxy
        have HD : Hid (eqX P Q = false) := Lib.hid (eqX_no (fun h => hxy (by have := HK.out h; injection this with a b; exact ⟨a, b⟩)))
        clear HN HK HE hxy
        go_wp2_with fail
        go_quiet (fail)
        go_wp2_with fail
        go_ret
        exact ⟨ret_bool HD.out.symm, below_drewN (below_drewN (Below.refl _ _) _) _⟩
    · have HD : Hid (eqX P Q = true) := Lib.hid (eqX_yes (by
        have h := HE.out
        rw [List.take_of_length_le (by rw [LP.out]; omega), List.take_of_length_le (by rw [LQ.out]; omega)] at h
        exact h))
      go_wp2_with fail
      go_ret
      exact ⟨ret_bool HD.out.symm, below_drewN (Below.refl _ _) _⟩
theorem keepBands_other (n m : Nat) (A B : Option Addr) (c d : Nat) (w : World) (h : n ≠ m) :
    Calls Tryd.prog 61 #[.slice A n c, .slice B m d] w fun e w' => e = .returned (.bool false) ∧ Below w.heap.size w w' := by
  have h' : ((n : Int) != (m : Int)) = true := by rw [bne_iff_ne]; omega
  clear h
  go_enter Tryd.func61, Tryd.ntmps61
  go_wp2_with fail
  go_ret
  exact ⟨rfl, Below.refl _ _⟩
theorem keepBands_n (P Q : List Rg) (n m : Nat) (A B : Option Addr) (c d : Nat) (w : World) (hP : RD w w.heap.size A n P) (hQ : RD w w.heap.size B m Q) (hn : n ≤ 1048576) :
    Calls Tryd.prog 61 #[.slice A n c, .slice B m d] w fun e w' => e = .returned (.bool (eqX P Q)) ∧ Below w.heap.size w w' := by
  by_cases h : n = m
  · subst h; exact keepBands_same n P Q A B c d w hP hQ hn
  · rw [eqX_no (fun e => h (by rw [← hP.1, ← hQ.1, e]))]; exact keepBands_other n m A B c d w h

set_option maxHeartbeats 1000000 in
theorem keepInts_same (n : Nat) (P Q : List Int) (A B : Option Addr) (c d : Nat) (w : World) (hP : RI w w.heap.size A n P) (hQ : RI w w.heap.size B n Q) (hn : n ≤ 1048576) :
    Calls Tryd.prog 36 #[.slice A n c, .slice B n d] w fun e w' => e = .returned (.bool (eqX P Q)) ∧ Below w.heap.size w w' := by
  have HP := Lib.hid hP
  have HQ := Lib.hid hQ
  have LP := Lib.hid hP.1
  have LQ := Lib.hid hQ.1
  have hnn : ((n : Int) != (n : Int)) = false := by simp
  clear hP hQ
  go_enter Tryd.func36, Tryd.ntmps36
  go_wp2_with fail
  go_loopw [5] (fun i wr => ∃ (k q : Nat), k ≤ n ∧ i = .int .i64 k ∧ wr = w.drewN q ∧ Hid (P.take k = Q.take k)) (fun i _ => n - (intOf i).toNat)
  case atStart => exact ⟨0, 0, Nat.zero_le _, rfl, rfl, Lib.hid rfl⟩
  case round =>
    obtain ⟨k, q, hk, rfl, rfl, HE⟩ := hrel
    by_cases hlt : k < n
    · have kP : k < P.length := by rw [LP.out]; exact hlt
      have kQ : k < Q.length := by rw [LQ.out]; exact hlt
      obtain ⟨b, o, rfl, _, p0⟩ := HP.out.at kP
      obtain ⟨b', o', rfl, _, q0⟩ := HQ.out.at kQ
      have HtP : Hid (P.take (k + 1) = P.take k ++ [P[k]]) := Lib.hid (List.take_succ_eq_append_getElem kP)
      have HtQ : Hid (Q.take (k + 1) = Q.take k ++ [Q[k]]) := Lib.hid (List.take_succ_eq_append_getElem kQ)
      have HK : Hid (P = Q → P[k] = Q[k]) := Lib.hid (fun h => by subst h; rfl)
      have HN : Hid (P[k] = Q[k] → P.take (k + 1) = Q.take (k + 1)) := Lib.hid (fun h => by rw [HtP.out, HtQ.out, HE.out, h])
      generalize P[k] = x at *
      generalize Q[k] = y at *
      clear HtP HtQ kP kQ
      by_cases hxy : x = y
      · subst hxy
        have hne : (x != x) = false := by simp
        have HE' := Lib.hid (HN.out rfl)
        clear HN HK HE
        go_wp2_with fail
        go_quiet (fail)
        go_wp2_with fail
        go_roundw
        case rel => exact ⟨k + 1, _, by omega, by go_num, rfl, HE'⟩
        case measure => simp [intOf]; omega
      · have hne : (x != y) = true := by rw [bne_iff_ne]; exact hxy
        have HD : Hid (eqX P Q = false) := Lib.hid (eqX_no (fun h => hxy (HK.out h)))
        clear HN HK HE hxy
        go_wp2_with fail
        go_quiet (fail)
        go_wp2_with fail
        go_ret
        exact ⟨ret_bool HD.out.symm, below_drewN (below_drewN (Below.refl _ _) _) _⟩
    · have HD : Hid (eqX P Q = true) := Lib.hid (eqX_yes (by
        have h := HE.out
        rw [List.take_of_length_le (by rw [LP.out]; omega), List.take_of_length_le (by rw [LQ.out]; omega)] at h
        exact h))
      go_wp2_with fail
      go_ret
      exact ⟨ret_bool HD.out.symm, below_drewN (Below.refl _ _) _⟩
theorem keepInts_other (n m : Nat) (A B : Option Addr) (c d : Nat) (w : World) (h : n ≠ m) :
    Calls Tryd.prog 36 #[.slice A n c, .slice B m d] w fun e w' => e = .returned (.bool false) ∧ Below w.heap.size w w' := by
  have h' : ((n : Int) != (m : Int)) = true := by rw [bne_iff_ne]; omega
  clear h
  go_enter Tryd.func36, Tryd.ntmps36
  go_wp2_with fail
  go_ret
  exact ⟨rfl, Below.refl _ _⟩
theorem keepInts_n (P Q : List Int) (n m : Nat) (A B : Option Addr) (c d : Nat) (w : World) (hP : RI w w.heap.size A n P) (hQ : RI w w.heap.size B m Q) (hn : n ≤ 1048576) :
    Calls Tryd.prog 36 #[.slice A n c, .slice B m d] w fun e w' => e = .returned (.bool (eqX P Q)) ∧ Below w.heap.size w w' := by
  by_cases h : n = m
  · subst h; exact keepInts_same n P Q A B c d w hP hQ hn
  · rw [eqX_no (fun e => h (by rw [← hP.1, ← hQ.1, e]))]; exact keepInts_other n m A B c d w h

set_option maxHeartbeats 1000000 in
theorem eqBands_same (n : Nat) (P Q : List Rg) (A B : Option Addr) (c d : Nat) (w : World) (hP : RD w w.heap.size A n P) (hQ : RD w w.heap.size B n Q) (hn : n ≤ 1048576) :
    Calls Tryd.prog 64 #[.slice A n c, .slice B n d] w fun e w' => e = .returned (.bool (eqX P Q)) ∧ Below w.heap.size w w' := by
  have HP := Lib.hid hP
  have HQ := Lib.hid hQ
  have LP := Lib.hid hP.1
  have LQ := Lib.hid hQ.1
  have hnn : ((n : Int) != (n : Int)) = false := by simp
  clear hP hQ
  go_enter Tryd.func64, Tryd.ntmps64
  go_wp2_with fail
  go_loopw [13] (fun i wr => ∃ (k q : Nat), k ≤ n ∧ i = .int .i64 k ∧ wr = w.drewN q ∧ Hid (P.take k = Q.take k)) (fun i _ => n - (intOf i).toNat)
  case atStart => exact ⟨0, 0, Nat.zero_le _, rfl, rfl, Lib.hid rfl⟩
  case round =>
    obtain ⟨k, q, hk, rfl, rfl, HE⟩ := hrel
    by_cases hlt : k < n
    · have kP : k < P.length := by rw [LP.out]; exact hlt
      have kQ : k < Q.length := by rw [LQ.out]; exact hlt
      obtain ⟨b, o, rfl, _, p0, p1⟩ := HP.out.at kP
      obtain ⟨b', o', rfl, _, q0, q1⟩ := HQ.out.at kQ
      have HtP : Hid (P.take (k + 1) = P.take k ++ [P[k]]) := Lib.hid (List.take_succ_eq_append_getElem kP)
      have HtQ : Hid (Q.take (k + 1) = Q.take k ++ [Q[k]]) := Lib.hid (List.take_succ_eq_append_getElem kQ)
      have HK : Hid (P = Q → P[k] = Q[k]) := Lib.hid (fun h => by subst h; rfl)
      have HN : Hid (P[k] = Q[k] → P.take (k + 1) = Q.take (k + 1)) := Lib.hid (fun h => by rw [HtP.out, HtQ.out, HE.out, h])
      generalize P[k] = x at *
      generalize Q[k] = y at *
      clear HtP HtQ kP kQ
      obtain ⟨x0, x1⟩ := x
      obtain ⟨y0, y1⟩ := y
      simp only [] at p0 p1 q0 q1
      have g52 := guard52
      by_cases hxy : x0 = y0 ∧ x1 = y1
      · obtain ⟨rfl, rfl⟩ := hxy
        have hne := neq52_same x0 x1
        have HE' := Lib.hid (HN.out rfl)
        clear HN HK HE
        go_wp2_with fail
        go_quiet (fail)
        go_wp2_with fail
        go_roundw
        case rel => exact ⟨k + 1, _, by omega, by go_num, rfl, HE'⟩
        case measure => simp [intOf]; omega
      · have hne := neq52_diff x0 x1 y0 y1 hxy
        have HD : Hid (eqX P Q = false) := Lib.hid (eqX_no (fun h => hxy (by have := HK.out h; injection this with a b; exact ⟨a, b⟩)))
        clear HN HK HE hxy
        go_wp2_with fail
        go_quiet (fail)
        go_wp2_with fail
        go_ret
        exact ⟨ret_bool HD.out.symm, below_drewN (below_drewN (Below.refl _ _) _) _⟩
    · have HD : Hid (eqX P Q = true) := Lib.hid (eqX_yes (by
        have h := HE.out
        rw [List.take_of_length_le (by rw [LP.out]; omega), List.take_of_length_le (by rw [LQ.out]; omega)] at h
        exact h))
      go_wp2_with fail
      go_ret
      exact ⟨ret_bool HD.out.symm, below_drewN (Below.refl _ _) _⟩
theorem eqBands_other (n m : Nat) (A B : Option Addr) (c d : Nat) (w : World) (h : n ≠ m) :
    Calls Tryd.prog 64 #[.slice A n c, .slice B m d] w fun e w' => e = .returned (.bool false) ∧ Below w.heap.size w w' := by
  have h' : ((n : Int) != (m : Int)) = true := by rw [bne_iff_ne]; omega
  clear h
  go_enter Tryd.func64, Tryd.ntmps64
  go_wp2_with fail
  go_ret
  exact ⟨rfl, Below.refl _ _⟩
theorem eqBands_n (P Q : List Rg) (n m : Nat) (A B : Option Addr) (c d : Nat) (w : World) (hP : RD w w.heap.size A n P) (hQ : RD w w.heap.size B m Q) (hn : n ≤ 1048576) :
    Calls Tryd.prog 64 #[.slice A n c, .slice B m d] w fun e w' => e = .returned (.bool (eqX P Q)) ∧ Below w.heap.size w w' := by
  by_cases h : n = m
  · subst h; exact eqBands_same n P Q A B c d w hP hQ hn
  · rw [eqX_no (fun e => h (by rw [← hP.1, ← hQ.1, e]))]; exact eqBands_other n m A B c d w h

set_option maxHeartbeats 1000000 in
theorem eqInts_same (n : Nat) (P Q : List Int) (A B : Option Addr) (c d : Nat) (w : World) (hP : RI w w.heap.size A n P) (hQ : RI w w.heap.size B n Q) (hn : n ≤ 1048576) :
    Calls Tryd.prog 66 #[.slice A n c, .slice B n d] w fun e w' => e = .returned (.bool (eqX P Q)) ∧ Below w.heap.size w w' := by
  have HP := Lib.hid hP
  have HQ := Lib.hid hQ
  have LP := Lib.hid hP.1
  have LQ := Lib.hid hQ.1
  have hnn : ((n : Int) != (n : Int)) = false := by simp
  clear hP hQ
  go_enter Tryd.func66, Tryd.ntmps66
  go_wp2_with fail
  go_loopw [13] (fun i wr => ∃ (k q : Nat), k ≤ n ∧ i = .int .i64 k ∧ wr = w.drewN q ∧ Hid (P.take k = Q.take k)) (fun i _ => n - (intOf i).toNat)
  case atStart => exact ⟨0, 0, Nat.zero_le _, rfl, rfl, Lib.hid rfl⟩
  case round =>
    obtain ⟨k, q, hk, rfl, rfl, HE⟩ := hrel
    by_cases hlt : k < n
    · have kP : k < P.length := by rw [LP.out]; exact hlt
      have kQ : k < Q.length := by rw [LQ.out]; exact hlt
      obtain ⟨b, o, rfl, _, p0⟩ := HP.out.at kP
      obtain ⟨b', o', rfl, _, q0⟩ := HQ.out.at kQ
      have HtP : Hid (P.take (k + 1) = P.take k ++ [P[k]]) := Lib.hid (List.take_succ_eq_append_getElem kP)
      have HtQ : Hid (Q.take (k + 1) = Q.take k ++ [Q[k]]) := Lib.hid (List.take_succ_eq_append_getElem kQ)
      have HK : Hid (P = Q → P[k] = Q[k]) := Lib.hid (fun h => by subst h; rfl)
      have HN : Hid (P[k] = Q[k] → P.take (k + 1) = Q.take (k + 1)) := Lib.hid (fun h => by rw [HtP.out, HtQ.out, HE.out, h])
      generalize P[k] = x at *
      generalize Q[k] = y at *
      clear HtP HtQ kP kQ
      by_cases hxy : x = y
      · subst hxy
        have hne : (x != x) = false := by simp
        have HE' := Lib.hid (HN.out rfl)
        clear HN HK HE
        go_wp2_with fail
        go_quiet (fail)
        go_wp2_with fail
        go_roundw
        case rel => exact ⟨k + 1, _, by omega, by go_num, rfl, HE'⟩
        case measure => simp [intOf]; omega
      · have hne : (x != y) = true := by rw [bne_iff_ne]; exact hxy
        have HD : Hid (eqX P Q = false) := Lib.hid (eqX_no (fun h => hxy (HK.out h)))
        clear HN HK HE hxy
        go_wp2_with fail
        go_quiet (fail)
        go_wp2_with fail
        go_ret
        exact ⟨ret_bool HD.out.symm, below_drewN (below_drewN (Below.refl _ _) _) _⟩
    · have HD : Hid (eqX P Q = true) := Lib.hid (eqX_yes (by
        have h := HE.out
        rw [List.take_of_length_le (by rw [LP.out]; omega), List.take_of_length_le (by rw [LQ.out]; omega)] at h
        exact h))
      go_wp2_with fail
      go_ret
      exact ⟨ret_bool HD.out.symm, below_drewN (Below.refl _ _) _⟩
theorem eqInts_other (n m : Nat) (A B : Option Addr) (c d : Nat) (w : World) (h : n ≠ m) :
    Calls Tryd.prog 66 #[.slice A n c, .slice B m d] w fun e w' => e = .returned (.bool false) ∧ Below w.heap.size w w' := by
  have h' : ((n : Int) != (m : Int)) = true := by rw [bne_iff_ne]; omega
  clear h
  go_enter Tryd.func66, Tryd.ntmps66
  go_wp2_with fail
  go_ret
  exact ⟨rfl, Below.refl _ _⟩
theorem eqInts_n (P Q : List Int) (n m : Nat) (A B : Option Addr) (c d : Nat) (w : World) (hP : RI w w.heap.size A n P) (hQ : RI w w.heap.size B m Q) (hn : n ≤ 1048576) :
    Calls Tryd.prog 66 #[.slice A n c, .slice B m d] w fun e w' => e = .returned (.bool (eqX P Q)) ∧ Below w.heap.size w w' := by
  by_cases h : n = m
  · subst h; exact eqInts_same n P Q A B c d w hP hQ hn
  · rw [eqX_no (fun e => h (by rw [← hP.1, ← hQ.1, e]))]; exact eqInts_other n m A B c d w h

set_option maxHeartbeats 1000000 in
theorem eqBools_same (n : Nat) (P Q : List Bool) (A B : Option Addr) (c d : Nat) (w : World) (hP : RL w w.heap.size A n P) (hQ : RL w w.heap.size B n Q) (hn : n ≤ 1048576) :
    Calls Tryd.prog 67 #[.slice A n c, .slice B n d] w fun e w' => e = .returned (.bool (eqX P Q)) ∧ Below w.heap.size w w' := by
  have HP := Lib.hid hP
  have HQ := Lib.hid hQ
  have LP := Lib.hid hP.1
  have LQ := Lib.hid hQ.1
  have hnn : ((n : Int) != (n : Int)) = false := by simp
  clear hP hQ
  go_enter Tryd.func67, Tryd.ntmps67
  go_wp2_with fail
  go_loopw [13] (fun i wr => ∃ (k q : Nat), k ≤ n ∧ i = .int .i64 k ∧ wr = w.drewN q ∧ Hid (P.take k = Q.take k)) (fun i _ => n - (intOf i).toNat)
  case atStart => exact ⟨0, 0, Nat.zero_le _, rfl, rfl, Lib.hid rfl⟩
  case round =>
    obtain ⟨k, q, hk, rfl, rfl, HE⟩ := hrel
    by_cases hlt : k < n
    · have kP : k < P.length := by rw [LP.out]; exact hlt
      have kQ : k < Q.length := by rw [LQ.out]; exact hlt
      obtain ⟨b, o, rfl, _, p0⟩ := HP.out.at kP
      obtain ⟨b', o', rfl, _, q0⟩ := HQ.out.at kQ
      have HtP : Hid (P.take (k + 1) = P.take k ++ [P[k]]) := Lib.hid (List.take_succ_eq_append_getElem kP)
      have HtQ : Hid (Q.take (k + 1) = Q.take k ++ [Q[k]]) := Lib.hid (List.take_succ_eq_append_getElem kQ)
      have HK : Hid (P = Q → P[k] = Q[k]) := Lib.hid (fun h => by subst h; rfl)
      have HN : Hid (P[k] = Q[k] → P.take (k + 1) = Q.take (k + 1)) := Lib.hid (fun h => by rw [HtP.out, HtQ.out, HE.out, h])
      generalize P[k] = x at *
      generalize Q[k] = y at *
      clear HtP HtQ kP kQ
      by_cases hxy : x = y
      · subst hxy
        have hne : (x != x) = false := by simp
        have hne2 : (!x == x) = false := by simp
        have HE' := Lib.hid (HN.out rfl)
        clear HN HK HE
        go_wp2_with fail
        go_quiet (fail)
        go_wp2_with fail
        go_roundw
        case rel => exact ⟨k + 1, _, by omega, by go_num, rfl, HE'⟩
        case measure => simp [intOf]; omega
      · have hne : (x != y) = true := by rw [bne_iff_ne]; exact hxy
        have hne2 : (!x == y) = true := by cases x <;> cases y <;> simp_all
        have HD : Hid (eqX P Q = false) := Lib.hid (eqX_no (fun h => hxy (HK.out h)))
        clear HN HK HE hxy
        go_wp2_with fail
        go_quiet (fail)
        go_wp2_with fail
        go_ret
        exact ⟨ret_bool HD.out.symm, below_drewN (below_drewN (Below.refl _ _) _) _⟩
    · have HD : Hid (eqX P Q = true) := Lib.hid (eqX_yes (by
        have h := HE.out
        rw [List.take_of_length_le (by rw [LP.out]; omega), List.take_of_length_le (by rw [LQ.out]; omega)] at h
        exact h))
      go_wp2_with fail
      go_ret
      exact ⟨ret_bool HD.out.symm, below_drewN (Below.refl _ _) _⟩
theorem eqBools_other (n m : Nat) (A B : Option Addr) (c d : Nat) (w : World) (h : n ≠ m) :
    Calls Tryd.prog 67 #[.slice A n c, .slice B m d] w fun e w' => e = .returned (.bool false) ∧ Below w.heap.size w w' := by
  have h' : ((n : Int) != (m : Int)) = true := by rw [bne_iff_ne]; omega
  clear h
  go_enter Tryd.func67, Tryd.ntmps67
  go_wp2_with fail
  go_ret
  exact ⟨rfl, Below.refl _ _⟩
theorem eqBools_n (P Q : List Bool) (n m : Nat) (A B : Option Addr) (c d : Nat) (w : World) (hP : RL w w.heap.size A n P) (hQ : RL w w.heap.size B m Q) (hn : n ≤ 1048576) :
    Calls Tryd.prog 67 #[.slice A n c, .slice B m d] w fun e w' => e = .returned (.bool (eqX P Q)) ∧ Below w.heap.size w w' := by
  by_cases h : n = m
  · subst h; exact eqBools_same n P Q A B c d w hP hQ hn
  · rw [eqX_no (fun e => h (by rw [← hP.1, ← hQ.1, e]))]; exact eqBools_other n m A B c d w h

end Go.Proofs.YtbnconieedgcmaaDoor
