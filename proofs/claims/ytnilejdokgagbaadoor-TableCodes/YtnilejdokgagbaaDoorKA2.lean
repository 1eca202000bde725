/- Joined: Eqs EqL Fits Cmps. -/
import Derived.Test.YtnilejdokgagbaaDoorKA1
import Derived.Deep.RegionHeld3
/- What comparisons of rows return: the statements' own and slices.Equal. -/
namespace Go.Proofs.YtnilejdokgagbaaDoor
open Go.RowKit Go.BigFrame
set_option linter.unusedVariables false
set_option maxRecDepth 4000
set_option linter.unusedSimpArgs false

theorem guard52 : Tryd.prog.eqGuardType Tryd.prog.depth 50 = false := by kernel_rfl
theorem held52 : Tryd.prog.stoodInHeld 50 = false := by kernel_rfl
theorem fields52 : Tryd.prog.underlying 50 = some (.struct (Tryd.prog.fieldsOf 50)) := by kernel_rfl
theorem neq52_same (x0 x1 : Int) (W : World) : (binOp .neq 50 (.agg #[.int .i64 x0, .int .i64 x1]) (.agg #[.int .i64 x0, .int .i64 x1])).run Tryd.prog W = .ok (.bool false) W := by
  rw [run_neq_struct, run_equalIn_agg _ _ _ _ _ fields52 held52]
  unfold Program.fieldsOf
  rw [Tryd.underlying50]
  simp [go_sem, Tryd.underlying3]
theorem neq52_diff (x0 x1 y0 y1 : Int) (h : ¬ (x0 = y0 ∧ x1 = y1)) (W : World) : (binOp .neq 50 (.agg #[.int .i64 x0, .int .i64 x1]) (.agg #[.int .i64 y0, .int .i64 y1])).run Tryd.prog W = .ok (.bool true) W := by
  rw [run_neq_struct, run_equalIn_agg _ _ _ _ _ fields52 held52]
  unfold Program.fieldsOf
  rw [Tryd.underlying50]
  by_cases h0 : x0 = y0 <;> by_cases h1 : x1 = y1 <;> simp [go_sem, Tryd.underlying3, h0, h1] <;> exact h ⟨h0, h1⟩

set_option maxHeartbeats 1000000 in
theorem keepBands_same (n : Nat) (P Q : List Rg) (A B : Option Addr) (c d : Nat) (w : World) (hP : RD w w.heap.size A n P) (hQ : RD w w.heap.size B n Q) (hn : n ≤ 1048576) :
    Calls Tryd.prog 43 #[.slice A n c, .slice B n d] w fun e w' => e = .returned (.bool (eqX P Q)) ∧ Below w.heap.size w w' := by
  have HP := Lib.hid hP
  have HQ := Lib.hid hQ
  have LP := Lib.hid hP.1
  have LQ := Lib.hid hQ.1
  have hnn : ((n : Int) != (n : Int)) = false := by simp
  clear hP hQ
  go_enter Tryd.func43, Tryd.ntmps43
  go_wp2_with fail
  go_loopw [5] (fun i wr => ∃ (k q : Nat), k ≤ n ∧ i = .int .i64 k ∧ wr = w.drewN q ∧ Hid (P.take k = Q.take k)) (fun i _ => n - (intOf i).toNat)
  case atStart => exact ⟨0, 0, Nat.zero_le _, rfl, rfl, Lib.hid rfl⟩
  case round =>
    obtain ⟨k, q, hk, rfl, rfl, HE⟩ := hrel
    by_cases hlt : k < n
    · have kP : k < P.length := by rw [LP.out]; exact hlt
      have kQ : k < Q.length := by rw [LQ.out]; exact hlt
      obtain ⟨b, o, rfl, _, p0, p1⟩ := HP.out.at kP
      obtain ⟨b', o', rfl, _, q0, q1⟩ := HQ.out.at kQ
      have HtP : Hid (P.take (k + 1) = P.take k ++ [P[k]]) := Lib.hid (List.take_succ_eq_append_getElem kP)
      have HtQ : Hid (Q.take (k + 1) = Q.take k ++ [Q[k]]) := Lib.hid (List.take_succ_eq_append_getElem kQ)
      have HK : Hid (P = Q → P[k] = Q[k]) := Lib.hid (fun h => by subst h; rfl)
      have HN : Hid (P[k] = Q[k] → P.take (k + 1) = Q.take (k + 1)) := Lib.hid (fun h => by rw [HtP.out, HtQ.out, HE.out, h])
      generalize P[k] = x at *
      generalize Q[k] = y at *
      clear HtP HtQ kP kQ
      obtain ⟨x0, x1⟩ := x
      obtain ⟨y0, y1⟩ := y
      simp only [] at p0 p1 q0 q1
      have g52 := guard52
      by_cases hxy : x0 = y0 ∧ x1 = y1
      · obtain ⟨rfl, rfl⟩ := hxy
        have hne := neq52_same x0 x1
        have HE' := Lib.hid (HN.out rfl)
        clear HN HK HE
        go_wp2_with fail
        go_quiet (fail)
        go_wp2_with fail
        go_roundw
        case rel => exact ⟨k + 1, _, by omega, by go_num, rfl, HE'⟩
        case measure => simp [intOf]; omega
      · have hne := neq52_diff x0 x1 y0 y1 hxy
        have HD : Hid (eqX P Q = false) := Lib.hid (eqX_no (fun h => hxy (by have := HK.out h; injection this with a b; exact ⟨a, b⟩)))
        clear HN HK HE hxy
        go_wp2_with fail
        go_quiet (fail)
        go_wp2_with fail
        go_ret
        exact ⟨ret_bool HD.out.symm, below_drewN (below_drewN (Below.refl _ _) _) _⟩
    · have HD : Hid (eqX P Q = true) := Lib.hid (eqX_yes (by
        have h := HE.out
        rw [List.take_of_length_le (by rw [LP.out]; omega), List.take_of_length_le (by rw [LQ.out]; omega)] at h
        exact h))
      go_wp2_with fail
      go_ret
      exact ⟨ret_bool HD.out.symm, below_drewN (Below.refl _ _) _⟩
theorem keepBands_other (n m : Nat) (A B : Option Addr) (c d : Nat) (w : World) (h : n ≠ m) :
    Calls Tryd.prog 43 #[.slice A n c, .slice B m d] w fun e w' => e = .returned (.bool false) ∧ Below w.heap.size w w' := by
  have h' : ((n : Int) != (m : Int)) = true := by rw [bne_iff_ne]; omega
  clear h
  go_enter Tryd.func43, Tryd.ntmps43
  go_wp2_with fail
  go_ret
  exact ⟨rfl, Below.refl _ _⟩
theorem keepBands_n (P Q : List Rg) (n m : Nat) (A B : Option Addr) (c d : Nat) (w : World) (hP : RD w w.heap.size A n P) (hQ : RD w w.heap.size B m Q) (hn : n ≤ 1048576) :
    Calls Tryd.prog 43 #[.slice A n c, .slice B m d] w fun e w' => e = .returned (.bool (eqX P Q)) ∧ Below w.heap.size w w' := by
  by_cases h : n = m
  · subst h; exact keepBands_same n P Q A B c d w hP hQ hn
  · rw [eqX_no (fun e => h (by rw [← hP.1, ← hQ.1, e]))]; exact keepBands_other n m A B c d w h

set_option maxHeartbeats 1000000 in
theorem keepInts_same (n : Nat) (P Q : List Int) (A B : Option Addr) (c d : Nat) (w : World) (hP : RI w w.heap.size A n P) (hQ : RI w w.heap.size B n Q) (hn : n ≤ 1048576) :
    Calls Tryd.prog 73 #[.slice A n c, .slice B n d] w fun e w' => e = .returned (.bool (eqX P Q)) ∧ Below w.heap.size w w' := by
  have HP := Lib.hid hP
  have HQ := Lib.hid hQ
  have LP := Lib.hid hP.1
  have LQ := Lib.hid hQ.1
  have hnn : ((n : Int) != (n : Int)) = false := by simp
  clear hP hQ
  go_enter Tryd.func73, Tryd.ntmps73
  go_wp2_with fail
  go_loopw [5] (fun i wr => ∃ (k q : Nat), k ≤ n ∧ i = .int .i64 k ∧ wr = w.drewN q ∧ Hid (P.take k = Q.take k)) (fun i _ => n - (intOf i).toNat)
  case atStart => exact ⟨0, 0, Nat.zero_le _, rfl, rfl, Lib.hid rfl⟩
  case round =>
    obtain ⟨k, q, hk, rfl, rfl, HE⟩ := hrel
    by_cases hlt : k < n
    · have kP : k < P.length := by rw [LP.out]; exact hlt
      have kQ : k < Q.length := by rw [LQ.out]; exact hlt
      obtain ⟨b, o, rfl, _, p0⟩ := HP.out.at kP
      obtain ⟨b', o', rfl, _, q0⟩ := HQ.out.at kQ
      have HtP : Hid (P.take (k + 1) = P.take k ++ [P[k]]) := Lib.hid (List.take_succ_eq_append_getElem kP)
      have HtQ : Hid (Q.take (k + 1) = Q.take k ++ [Q[k]]) := Lib.hid (List.take_succ_eq_append_getElem kQ)
      have HK : Hid (P = Q → P[k] = Q[k]) := Lib.hid (fun h => by subst h; rfl)
      have HN : Hid (P[k] = Q[k] → P.take (k + 1) = Q.take (k + 1)) := Lib.hid (fun h => by rw [HtP.out, HtQ.out, HE.out, h])
      generalize P[k] = x at *
      generalize Q[k] = y at *
      clear HtP HtQ kP kQ
      by_cases hxy : x = y
      · subst hxy
        have hne : (x != x) = false := by simp
        have HE' := Lib.hid (HN.out rfl)
        clear HN HK HE
        go_wp2_with fail
        go_quiet (fail)
        go_wp2_with fail
        go_roundw
        case rel => exact ⟨k + 1, _, by omega, by go_num, rfl, HE'⟩
        case measure => simp [intOf]; omega
      · have hne : (x != y) = true := by rw [bne_iff_ne]; exact hxy
        have HD : Hid (eqX P Q = false) := Lib.hid (eqX_no (fun h => hxy (HK.out h)))
        clear HN HK HE hxy
        go_wp2_with fail
        go_quiet (fail)
        go_wp2_with fail
        go_ret
        exact ⟨ret_bool HD.out.symm, below_drewN (below_drewN (Below.refl _ _) _) _⟩
    · have HD : Hid (eqX P Q = true) := Lib.hid (eqX_yes (by
        have h := HE.out
        rw [List.take_of_length_le (by rw [LP.out]; omega), List.take_of_length_le (by rw [LQ.out]; omega)] at h
        exact h))
      go_wp2_with fail
      go_ret
      exact ⟨ret_bool HD.out.symm, below_drewN (Below.refl _ _) _⟩
theorem keepInts_other (n m : Nat) (A B : Option Addr) (c d : Nat) (w : World) (h : n ≠ m) :
    Calls Tryd.prog 73 #[.slice A n c, .slice B m d] w fun e w' => e = .returned (.bool false) ∧ Below w.heap.size w w' := by
  have h' : ((n : Int) != (m : Int)) = true := by rw [bne_iff_ne]; omega
  clear h
  go_enter Tryd.func73, Tryd.ntmps73
  go_wp2_with fail
  go_ret
  exact ⟨rfl, Below.refl _ _⟩
theorem keepInts_n (P Q : List Int) (n m : Nat) (A B : Option Addr) (c d : Nat) (w : World) (hP : RI w w.heap.size A n P) (hQ : RI w w.heap.size B m Q) (hn : n ≤ 1048576) :
    Calls Tryd.prog 73 #[.slice A n c, .slice B m d] w fun e w' => e = .returned (.bool (eqX P Q)) ∧ Below w.heap.size w w' := by
  by_cases h : n = m
  · subst h; exact keepInts_same n P Q A B c d w hP hQ hn
  · rw [eqX_no (fun e => h (by rw [← hP.1, ← hQ.1, e]))]; exact keepInts_other n m A B c d w h

set_option maxHeartbeats 1000000 in
theorem eqBands_same (n : Nat) (P Q : List Rg) (A B : Option Addr) (c d : Nat) (w : World) (hP : RD w w.heap.size A n P) (hQ : RD w w.heap.size B n Q) (hn : n ≤ 1048576) :
    Calls Tryd.prog 46 #[.slice A n c, .slice B n d] w fun e w' => e = .returned (.bool (eqX P Q)) ∧ Below w.heap.size w w' := by
  have HP := Lib.hid hP
  have HQ := Lib.hid hQ
  have LP := Lib.hid hP.1
  have LQ := Lib.hid hQ.1
  have hnn : ((n : Int) != (n : Int)) = false := by simp
  clear hP hQ
  go_enter Tryd.func46, Tryd.ntmps46
  go_wp2_with fail
  go_loopw [13] (fun i wr => ∃ (k q : Nat), k ≤ n ∧ i = .int .i64 k ∧ wr = w.drewN q ∧ Hid (P.take k = Q.take k)) (fun i _ => n - (intOf i).toNat)
  case atStart => exact ⟨0, 0, Nat.zero_le _, rfl, rfl, Lib.hid rfl⟩
  case round =>
    obtain ⟨k, q, hk, rfl, rfl, HE⟩ := hrel
    by_cases hlt : k < n
    · have kP : k < P.length := by rw [LP.out]; exact hlt
      have kQ : k < Q.length := by rw [LQ.out]; exact hlt
      obtain ⟨b, o, rfl, _, p0, p1⟩ := HP.out.at kP
      obtain ⟨b', o', rfl, _, q0, q1⟩ := HQ.out.at kQ
      have HtP : Hid (P.take (k + 1) = P.take k ++ [P[k]]) := Lib.hid (List.take_succ_eq_append_getElem kP)
      have HtQ : Hid (Q.take (k + 1) = Q.take k ++ [Q[k]]) := Lib.hid (List.take_succ_eq_append_getElem kQ)
      have HK : Hid (P = Q → P[k] = Q[k]) := Lib.hid (fun h => by subst h; rfl)
      have HN : Hid (P[k] = Q[k] → P.take (k + 1) = Q.take (k + 1)) := Lib.hid (fun h => by rw [HtP.out, HtQ.out, HE.out, h])
      generalize P[k] = x at *
      generalize Q[k] = y at *
      clear HtP HtQ kP kQ
      obtain ⟨x0, x1⟩ := x
      obtain ⟨y0, y1⟩ := y
      simp only [] at p0 p1 q0 q1
      have g52 := guard52
      by_cases hxy : x0 = y0 ∧ x1 = y1
      · obtain ⟨rfl, rfl⟩ := hxy
        have hne := neq52_same x0 x1
        have HE' := Lib.hid (HN.out rfl)
        clear HN HK HE
        go_wp2_with fail
        go_quiet (fail)
        go_wp2_with fail
        go_roundw
        case rel => exact ⟨k + 1, _, by omega, by go_num, rfl, HE'⟩
        case measure => simp [intOf]; omega
      · have hne := neq52_diff x0 x1 y0 y1 hxy
        have HD : Hid (eqX P Q = false) := Lib.hid (eqX_no (fun h => hxy (by have := HK.out h; injection this with a b; exact ⟨a, b⟩)))
        clear HN HK HE hxy
        go_wp2_with fail
        go_quiet (fail)
        go_wp2_with fail
        go_ret
        exact ⟨ret_bool HD.out.symm, below_drewN (below_drewN (Below.refl _ _) _) _⟩
    · have HD : Hid (eqX P Q = true) := Lib.hid (eqX_yes (by
        have h := HE.out
        rw [List.take_of_length_le (by rw [LP.out]; omega), List.take_of_length_le (by rw [LQ.out]; omega)] at h
        exact h))
      go_wp2_with fail
      go_ret
      exact ⟨ret_bool HD.out.symm, below_drewN (Below.refl _ _) _⟩
theorem eqBands_other (n m : Nat) (A B : Option Addr) (c d : Nat) (w : World) (h : n ≠ m) :
    Calls Tryd.prog 46 #[.slice A n c, .slice B m d] w fun e w' => e = .returned (.bool false) ∧ Below w.heap.size w w' := by
  have h' : ((n : Int) != (m : Int)) = true := by rw [bne_iff_ne]; omega
  clear h
  go_enter Tryd.func46, Tryd.ntmps46
  go_wp2_with fail
  go_ret
  exact ⟨rfl, Below.refl _ _⟩
theorem eqBands_n (P Q : List Rg) (n m : Nat) (A B : Option Addr) (c d : Nat) (w : World) (hP : RD w w.heap.size A n P) (hQ : RD w w.heap.size B m Q) (hn : n ≤ 1048576) :
    Calls Tryd.prog 46 #[.slice A n c, .slice B m d] w fun e w' => e = .returned (.bool (eqX P Q)) ∧ Below w.heap.size w w' := by
  by_cases h : n = m
  · subst h; exact eqBands_same n P Q A B c d w hP hQ hn
  · rw [eqX_no (fun e => h (by rw [← hP.1, ← hQ.1, e]))]; exact eqBands_other n m A B c d w h

set_option maxHeartbeats 1000000 in
theorem eqInts_same (n : Nat) (P Q : List Int) (A B : Option Addr) (c d : Nat) (w : World) (hP : RI w w.heap.size A n P) (hQ : RI w w.heap.size B n Q) (hn : n ≤ 1048576) :
    Calls Tryd.prog 48 #[.slice A n c, .slice B n d] w fun e w' => e = .returned (.bool (eqX P Q)) ∧ Below w.heap.size w w' := by
  have HP := Lib.hid hP
  have HQ := Lib.hid hQ
  have LP := Lib.hid hP.1
  have LQ := Lib.hid hQ.1
  have hnn : ((n : Int) != (n : Int)) = false := by simp
  clear hP hQ
  go_enter Tryd.func48, Tryd.ntmps48
  go_wp2_with fail
  go_loopw [13] (fun i wr => ∃ (k q : Nat), k ≤ n ∧ i = .int .i64 k ∧ wr = w.drewN q ∧ Hid (P.take k = Q.take k)) (fun i _ => n - (intOf i).toNat)
  case atStart => exact ⟨0, 0, Nat.zero_le _, rfl, rfl, Lib.hid rfl⟩
  case round =>
    obtain ⟨k, q, hk, rfl, rfl, HE⟩ := hrel
    by_cases hlt : k < n
    · have kP : k < P.length := by rw [LP.out]; exact hlt
      have kQ : k < Q.length := by rw [LQ.out]; exact hlt
      obtain ⟨b, o, rfl, _, p0⟩ := HP.out.at kP
      obtain ⟨b', o', rfl, _, q0⟩ := HQ.out.at kQ
      have HtP : Hid (P.take (k + 1) = P.take k ++ [P[k]]) := Lib.hid (List.take_succ_eq_append_getElem kP)
      have HtQ : Hid (Q.take (k + 1) = Q.take k ++ [Q[k]]) := Lib.hid (List.take_succ_eq_append_getElem kQ)
      have HK : Hid (P = Q → P[k] = Q[k]) := Lib.hid (fun h => by subst h; rfl)
      have HN : Hid (P[k] = Q[k] → P.take (k + 1) = Q.take (k + 1)) := Lib.hid (fun h => by rw [HtP.out, HtQ.out, HE.out, h])
      generalize P[k] = x at *
      generalize Q[k] = y at *
      clear HtP HtQ kP kQ
      by_cases hxy : x = y
      · subst hxy
        have hne : (x != x) = false := by simp
        have HE' := Lib.hid (HN.out rfl)
        clear HN HK HE
        go_wp2_with fail
        go_quiet (fail)
        go_wp2_with fail
        go_roundw
        case rel => exact ⟨k + 1, _, by omega, by go_num, rfl, HE'⟩
        case measure => simp [intOf]; omega
      · have hne : (x != y) = true := by rw [bne_iff_ne]; exact hxy
        have HD : Hid (eqX P Q = false) := Lib.hid (eqX_no (fun h => hxy (HK.out h)))
        clear HN HK HE hxy
        go_wp2_with fail
        go_quiet (fail)
        go_wp2_with fail
        go_ret
        exact ⟨ret_bool HD.out.symm, below_drewN (below_drewN (Below.refl _ _) _) _⟩
    · have HD : Hid (eqX P Q = true) := Lib.hid (eqX_yes (by
        have h := HE.out
        rw [List.take_of_length_le (by rw [LP.out]; omega), List.take_of_length_le (by rw [LQ.out]; omega)] at h
        exact h))
      go_wp2_with fail
      go_ret
      exact ⟨ret_bool HD.out.symm, below_drewN (Below.refl _ _) _⟩
theorem eqInts_other (n m : Nat) (A B : Option Addr) (c d : Nat) (w : World) (h : n ≠ m) :
    Calls Tryd.prog 48 #[.slice A n c, .slice B m d] w fun e w' => e = .returned (.bool false) ∧ Below w.heap.size w w' := by
  have h' : ((n : Int) != (m : Int)) = true := by rw [bne_iff_ne]; omega
  clear h
  go_enter Tryd.func48, Tryd.ntmps48
  go_wp2_with fail
  go_ret
  exact ⟨rfl, Below.refl _ _⟩
theorem eqInts_n (P Q : List Int) (n m : Nat) (A B : Option Addr) (c d : Nat) (w : World) (hP : RI w w.heap.size A n P) (hQ : RI w w.heap.size B m Q) (hn : n ≤ 1048576) :
    Calls Tryd.prog 48 #[.slice A n c, .slice B m d] w fun e w' => e = .returned (.bool (eqX P Q)) ∧ Below w.heap.size w w' := by
  by_cases h : n = m
  · subst h; exact eqInts_same n P Q A B c d w hP hQ hn
  · rw [eqX_no (fun e => h (by rw [← hP.1, ← hQ.1, e]))]; exact eqInts_other n m A B c d w h

set_option maxHeartbeats 1000000 in
theorem eqBools_same (n : Nat) (P Q : List Bool) (A B : Option Addr) (c d : Nat) (w : World) (hP : RL w w.heap.size A n P) (hQ : RL w w.heap.size B n Q) (hn : n ≤ 1048576) :
    Calls Tryd.prog 49 #[.slice A n c, .slice B n d] w fun e w' => e = .returned (.bool (eqX P Q)) ∧ Below w.heap.size w w' := by
  have HP := Lib.hid hP
  have HQ := Lib.hid hQ
  have LP := Lib.hid hP.1
  have LQ := Lib.hid hQ.1
  have hnn : ((n : Int) != (n : Int)) = false := by simp
  clear hP hQ
  go_enter Tryd.func49, Tryd.ntmps49
  go_wp2_with fail
  go_loopw [13] (fun i wr => ∃ (k q : Nat), k ≤ n ∧ i = .int .i64 k ∧ wr = w.drewN q ∧ Hid (P.take k = Q.take k)) (fun i _ => n - (intOf i).toNat)
  case atStart => exact ⟨0, 0, Nat.zero_le _, rfl, rfl, Lib.hid rfl⟩
  case round =>
    obtain ⟨k, q, hk, rfl, rfl, HE⟩ := hrel
    by_cases hlt : k < n
    · have kP : k < P.length := by rw [LP.out]; exact hlt
      have kQ : k < Q.length := by rw [LQ.out]; exact hlt
      obtain ⟨b, o, rfl, _, p0⟩ := HP.out.at kP
      obtain ⟨b', o', rfl, _, q0⟩ := HQ.out.at kQ
      have HtP : Hid (P.take (k + 1) = P.take k ++ [P[k]]) := Lib.hid (List.take_succ_eq_append_getElem kP)
      have HtQ : Hid (Q.take (k + 1) = Q.take k ++ [Q[k]]) := Lib.hid (List.take_succ_eq_append_getElem kQ)
      have HK : Hid (P = Q → P[k] = Q[k]) := Lib.hid (fun h => by subst h; rfl)
      have HN : Hid (P[k] = Q[k] → P.take (k + 1) = Q.take (k + 1)) := Lib.hid (fun h => by rw [HtP.out, HtQ.out, HE.out, h])
      generalize P[k] = x at *
      generalize Q[k] = y at *
      clear HtP HtQ kP kQ
      by_cases hxy : x = y
      · subst hxy
        have hne : (x != x) = false := by simp
        have hne2 : (!x == x) = false := by simp
        have HE' := Lib.hid (HN.out rfl)
        clear HN HK HE
        go_wp2_with fail
        go_quiet (fail)
        go_wp2_with fail
        go_roundw
        case rel => exact ⟨k + 1, _, by omega, by go_num, rfl, HE'⟩
        case measure => simp [intOf]; omega
      · have hne : (x != y) = true := by rw [bne_iff_ne]; exact hxy
        have hne2 : (!x == y) = true := by cases x <;> cases y <;> simp_all
        have HD : Hid (eqX P Q = false) := Lib.hid (eqX_no (fun h => hxy (HK.out h)))
        clear HN HK HE hxy
        go_wp2_with fail
        go_quiet (fail)
        go_wp2_with fail
        go_ret
        exact ⟨ret_bool HD.out.symm, below_drewN (below_drewN (Below.refl _ _) _) _⟩
    · have HD : Hid (eqX P Q = true) := Lib.hid (eqX_yes (by
        have h := HE.out
        rw [List.take_of_length_le (by rw [LP.out]; omega), List.take_of_length_le (by rw [LQ.out]; omega)] at h
        exact h))
      go_wp2_with fail
      go_ret
      exact ⟨ret_bool HD.out.symm, below_drewN (Below.refl _ _) _⟩
theorem eqBools_other (n m : Nat) (A B : Option Addr) (c d : Nat) (w : World) (h : n ≠ m) :
    Calls Tryd.prog 49 #[.slice A n c, .slice B m d] w fun e w' => e = .returned (.bool false) ∧ Below w.heap.size w w' := by
  have h' : ((n : Int) != (m : Int)) = true := by rw [bne_iff_ne]; omega
  clear h
  go_enter Tryd.func49, Tryd.ntmps49
  go_wp2_with fail
  go_ret
  exact ⟨rfl, Below.refl _ _⟩
theorem eqBools_n (P Q : List Bool) (n m : Nat) (A B : Option Addr) (c d : Nat) (w : World) (hP : RL w w.heap.size A n P) (hQ : RL w w.heap.size B m Q) (hn : n ≤ 1048576) :
    Calls Tryd.prog 49 #[.slice A n c, .slice B m d] w fun e w' => e = .returned (.bool (eqX P Q)) ∧ Below w.heap.size w w' := by
  by_cases h : n = m
  · subst h; exact eqBools_same n P Q A B c d w hP hQ hn
  · rw [eqX_no (fun e => h (by rw [← hP.1, ← hQ.1, e]))]; exact eqBools_other n m A B c d w h

end Go.Proofs.YtnilejdokgagbaaDoor

/- What comparisons of rows of rows return: the statements' own and slices.EqualFunc. -/
namespace Go.Proofs.YtnilejdokgagbaaDoor
open Go.RowKit Go.BigFrame
set_option linter.unusedVariables false
set_option maxRecDepth 4000
set_option linter.unusedSimpArgs false

set_option maxRecDepth 4000 in
set_option maxHeartbeats 2000000 in
theorem keepLists_same (n : Nat) (H G : List Hi) (A B : Option Addr) (c d : Nat) (w : World) (hH : RN w w.heap.size A n H) (hG : RN w w.heap.size B n G) (hn : n ≤ 1048576) (hm : ∀ h ∈ H, h.n ≤ 1048576) :
    Calls Tryd.prog 44 #[.slice A n c, .slice B n d] w fun e w' => e = .returned (.bool (eqX (listsOf H) (listsOf G))) ∧ Below w.heap.size w w' := by
  have HH := Lib.hid hH
  have HG := Lib.hid hG
  have HM := Lib.hid hm
  have hnn : ((n : Int) != (n : Int)) = false := by simp
  clear hH hG hm
  go_enter Tryd.func44, Tryd.ntmps44
  go_wp2_with fail
  go_loopw [5] (fun i wr => ∃ (k : Nat), k ≤ n ∧ i = .int .i64 k ∧ Below w.heap.size w wr ∧ Hid ((listsOf H).take k = (listsOf G).take k)) (fun i _ => n - (intOf i).toNat)
  case atStart => exact ⟨0, Nat.zero_le _, rfl, Below.refl _ _, Lib.hid rfl⟩
  case round =>
    obtain ⟨k, hk, rfl, hb, HE⟩ := hrel
    have hsz := hb.size
    by_cases hlt : k < n
    · have kH : k < H.length := by rw [HH.out.1]; exact hlt
      have kG : k < G.length := by rw [HG.out.1]; exact hlt
      obtain ⟨b, o, rfl, hbb, p0, q3, _⟩ := (HH.out.on hb).at kH
      obtain ⟨b', o', rfl, hbb', r0, u3, _⟩ := (HG.out.on hb).at kG
      have hm1 := HM.out _ (List.getElem_mem kH)
      have HtP : Hid ((listsOf H).take (k + 1) = (listsOf H).take k ++ [H[k].l]) := Lib.hid (by
        rw [List.take_succ_eq_append_getElem (by unfold listsOf; rw [List.length_map]; exact kH)]; simp [listsOf])
      have HtQ : Hid ((listsOf G).take (k + 1) = (listsOf G).take k ++ [G[k].l]) := Lib.hid (by
        rw [List.take_succ_eq_append_getElem (by unfold listsOf; rw [List.length_map]; exact kG)]; simp [listsOf])
      have HK : Hid (listsOf H = listsOf G → H[k].l = G[k].l) := Lib.hid (fun h => by
        have h1 : (listsOf H)[k]? = (listsOf G)[k]? := by rw [h]
        unfold listsOf at h1
        rw [List.getElem?_map, List.getElem?_map, List.getElem?_eq_getElem kH, List.getElem?_eq_getElem kG] at h1
        simpa using h1)
      have HN : Hid (H[k].l = G[k].l → (listsOf H).take (k + 1) = (listsOf G).take (k + 1)) := Lib.hid (fun h => by rw [HtP.out, HtQ.out, HE.out, h])
      generalize H[k] = x at *
      generalize G[k] = y at *
      obtain ⟨xa, xn, xc, xs⟩ := x
      obtain ⟨ya, yn, yc, ys⟩ := y
      simp only [] at p0 r0 q3 u3 hm1 HK HN
      clear HtP HtQ kH kG
      have hca : Hid (∀ W : World, W.cell? ⟨b, o + k, none⟩ = some (.slice xa xn xc) ∧ W.cell? ⟨b', o' + k, none⟩ = some (.slice ya yn yc) ∧ Below wr.heap.size wr W → Calls Tryd.prog 73 #[.slice xa xn xc, .slice ya yn yc] W fun e w' => e = .returned (.bool (eqX xs ys)) ∧ (w'.cell? ⟨b, o + k, none⟩ = some (.slice xa xn xc) ∧ w'.cell? ⟨b', o' + k, none⟩ = some (.slice ya yn yc) ∧ Below wr.heap.size wr w')) := Lib.hid (fun W hW =>
        (keepInts_n xs ys xn yn xa ya xc yc W (q3.on hW.2.2) (u3.on hW.2.2) hm1).mono (fun e w' h => ⟨h.1, kept_cell h.2 hW.1, kept_cell h.2 hW.2.1, hW.2.2.trans (h.2.mono hW.2.2.size)⟩))
      clear q3 u3
      have bR := Below.refl wr.heap.size wr
      have HQ := Lib.hid (fun (h : xs = ys) => show eqX xs ys = true from eqX_yes h)
      have HQ2 := Lib.hid (fun (h : eqX xs ys = true) => show xs = ys from by unfold eqX at h; exact @of_decide_eq_true _ (Classical.propDecidable _) h)
      generalize eqX xs ys = q at *
      cases q
      · have HD : Hid (eqX (listsOf H) (listsOf G) = false) := Lib.hid (eqX_no (fun h => by have h1 := HQ.out (HK.out h); cases h1))
        clear HK HN HQ HQ2
        go_wp2_with fail
        go_region_held3 (fun w' => w'.cell? ⟨b, o + k, none⟩ = some (.slice xa xn xc) ∧ w'.cell? ⟨b', o' + k, none⟩ = some (.slice ya yn yc) ∧ Below wr.heap.size wr w') (first | assumption | exact ⟨p0, r0, bR⟩ | exact ⟨p0, r0, Below.drew bR⟩ | exact ⟨by assumption, by assumption, by assumption⟩ | exact ⟨by assumption, by assumption, Below.drew (by assumption)⟩) (first | (go_at_call 73; with_reducible refine Calls.mono (hca.out _ ?_) ?_; (first | assumption | exact ⟨p0, r0, bR⟩ | exact ⟨p0, r0, Below.drew bR⟩ | exact ⟨by assumption, by assumption, by assumption⟩ | exact ⟨by assumption, by assumption, Below.drew (by assumption)⟩); rintro e w9 ⟨rfl, q9, q8, b9⟩))
        go_wp2_with fail
        go_ret
        exact ⟨ret_bool HD.out.symm, hb.trans (b9.mono hsz)⟩
      · have HE' := Lib.hid (HN.out (HQ2.out rfl))
        clear HK HN HQ HQ2 HE
        go_wp2_with fail
        go_region_held3 (fun w' => w'.cell? ⟨b, o + k, none⟩ = some (.slice xa xn xc) ∧ w'.cell? ⟨b', o' + k, none⟩ = some (.slice ya yn yc) ∧ Below wr.heap.size wr w') (first | assumption | exact ⟨p0, r0, bR⟩ | exact ⟨p0, r0, Below.drew bR⟩ | exact ⟨by assumption, by assumption, by assumption⟩ | exact ⟨by assumption, by assumption, Below.drew (by assumption)⟩) (first | (go_at_call 73; with_reducible refine Calls.mono (hca.out _ ?_) ?_; (first | assumption | exact ⟨p0, r0, bR⟩ | exact ⟨p0, r0, Below.drew bR⟩ | exact ⟨by assumption, by assumption, by assumption⟩ | exact ⟨by assumption, by assumption, Below.drew (by assumption)⟩); rintro e w9 ⟨rfl, q9, q8, b9⟩))
        have b5 := hb.trans (b9.mono hsz)
        clear hca p0 r0 hb b9 q9 q8 bR
        go_wp2_with fail
        go_roundw
        case rel => exact ⟨k + 1, by omega, by go_num, b5, HE'⟩
        case measure => simp [intOf]; omega
    · have HD : Hid (eqX (listsOf H) (listsOf G) = true) := Lib.hid (eqX_yes (by
        have h := HE.out
        rw [List.take_of_length_le (by unfold listsOf; rw [List.length_map, HH.out.1]; omega), List.take_of_length_le (by unfold listsOf; rw [List.length_map, HG.out.1]; omega)] at h
        exact h))
      go_wp2_with fail
      go_ret
      exact ⟨ret_bool HD.out.symm, hb⟩
theorem keepLists_other (n m : Nat) (A B : Option Addr) (c d : Nat) (w : World) (h : n ≠ m) :
    Calls Tryd.prog 44 #[.slice A n c, .slice B m d] w fun e w' => e = .returned (.bool false) ∧ Below w.heap.size w w' := by
  have h' : ((n : Int) != (m : Int)) = true := by rw [bne_iff_ne]; omega
  clear h
  go_enter Tryd.func44, Tryd.ntmps44
  go_wp2_with fail
  go_ret
  exact ⟨rfl, Below.refl _ _⟩
theorem keepLists_n (H G : List Hi) (n m : Nat) (A B : Option Addr) (c d : Nat) (w : World) (hH : RN w w.heap.size A n H) (hG : RN w w.heap.size B m G) (hn : n ≤ 1048576) (hm : ∀ h ∈ H, h.n ≤ 1048576) :
    Calls Tryd.prog 44 #[.slice A n c, .slice B m d] w fun e w' => e = .returned (.bool (eqX (listsOf H) (listsOf G))) ∧ Below w.heap.size w w' := by
  by_cases h : n = m
  · subst h; exact keepLists_same n H G A B c d w hH hG hn hm
  · rw [eqX_no (fun e => h (by
      have h1 : (listsOf H).length = (listsOf G).length := by rw [e]
      unfold listsOf at h1
      rw [List.length_map, List.length_map, hH.1, hG.1] at h1
      exact h1))]
    exact keepLists_other n m A B c d w h

set_option maxRecDepth 4000 in
set_option maxHeartbeats 2000000 in
theorem eqLists_same (n : Nat) (H G : List Hi) (A B : Option Addr) (c d : Nat) (w : World) (hH : RN w w.heap.size A n H) (hG : RN w w.heap.size B n G) (hn : n ≤ 1048576) (hm : ∀ h ∈ H, h.n ≤ 1048576) :
    Calls Tryd.prog 47 #[.slice A n c, .slice B n d, .func (.func 48) #[] #[]] w fun e w' => e = .returned (.bool (eqX (listsOf H) (listsOf G))) ∧ Below w.heap.size w w' := by
  have HH := Lib.hid hH
  have HG := Lib.hid hG
  have HM := Lib.hid hm
  have hnn : ((n : Int) != (n : Int)) = false := by simp
  clear hH hG hm
  go_enter Tryd.func47, Tryd.ntmps47
  go_wp2_with fail
  go_loopw [17] (fun i wr => ∃ (k : Nat), k ≤ n ∧ i = .int .i64 k ∧ Below w.heap.size w wr ∧ Hid ((listsOf H).take k = (listsOf G).take k)) (fun i _ => n - (intOf i).toNat)
  case atStart => exact ⟨0, Nat.zero_le _, rfl, Below.refl _ _, Lib.hid rfl⟩
  case round =>
    obtain ⟨k, hk, rfl, hb, HE⟩ := hrel
    have hsz := hb.size
    by_cases hlt : k < n
    · have kH : k < H.length := by rw [HH.out.1]; exact hlt
      have kG : k < G.length := by rw [HG.out.1]; exact hlt
      obtain ⟨b, o, rfl, hbb, p0, q3, _⟩ := (HH.out.on hb).at kH
      obtain ⟨b', o', rfl, hbb', r0, u3, _⟩ := (HG.out.on hb).at kG
      have hm1 := HM.out _ (List.getElem_mem kH)
      have HtP : Hid ((listsOf H).take (k + 1) = (listsOf H).take k ++ [H[k].l]) := Lib.hid (by
        rw [List.take_succ_eq_append_getElem (by unfold listsOf; rw [List.length_map]; exact kH)]; simp [listsOf])
      have HtQ : Hid ((listsOf G).take (k + 1) = (listsOf G).take k ++ [G[k].l]) := Lib.hid (by
        rw [List.take_succ_eq_append_getElem (by unfold listsOf; rw [List.length_map]; exact kG)]; simp [listsOf])
      have HK : Hid (listsOf H = listsOf G → H[k].l = G[k].l) := Lib.hid (fun h => by
        have h1 : (listsOf H)[k]? = (listsOf G)[k]? := by rw [h]
        unfold listsOf at h1
        rw [List.getElem?_map, List.getElem?_map, List.getElem?_eq_getElem kH, List.getElem?_eq_getElem kG] at h1
        simpa using h1)
      have HN : Hid (H[k].l = G[k].l → (listsOf H).take (k + 1) = (listsOf G).take (k + 1)) := Lib.hid (fun h => by rw [HtP.out, HtQ.out, HE.out, h])
      generalize H[k] = x at *
      generalize G[k] = y at *
      obtain ⟨xa, xn, xc, xs⟩ := x
      obtain ⟨ya, yn, yc, ys⟩ := y
      simp only [] at p0 r0 q3 u3 hm1 HK HN
      clear HtP HtQ kH kG
      have hca := Lib.hid (eqInts_n xs ys xn yn xa ya xc yc wr q3 u3 hm1)
      clear q3 u3
      have HQ := Lib.hid (fun (h : xs = ys) => show eqX xs ys = true from eqX_yes h)
      have HQ2 := Lib.hid (fun (h : eqX xs ys = true) => show xs = ys from by unfold eqX at h; exact @of_decide_eq_true _ (Classical.propDecidable _) h)
      generalize eqX xs ys = q at *
      cases q
      · have HD : Hid (eqX (listsOf H) (listsOf G) = false) := Lib.hid (eqX_no (fun h => by have h1 := HQ.out (HK.out h); cases h1))
        clear HK HN HQ HQ2
        go_wp2_with fail
        refine hca.out.mono ?_
        rintro e w9 ⟨rfl, b9⟩
        go_wp2_with fail
        go_ret
        exact ⟨ret_bool HD.out.symm, hb.trans (b9.mono hsz)⟩
      · have HE' := Lib.hid (HN.out (HQ2.out rfl))
        clear HK HN HQ HQ2 HE
        go_wp2_with fail
        refine hca.out.mono ?_
        rintro e w9 ⟨rfl, b9⟩
        have b5 := hb.trans (b9.mono hsz)
        clear hca p0 r0 hb b9
        go_wp2_with fail
        go_roundw
        case rel => exact ⟨k + 1, by omega, by go_num, b5, HE'⟩
        case measure => simp [intOf]; omega
    · have HD : Hid (eqX (listsOf H) (listsOf G) = true) := Lib.hid (eqX_yes (by
        have h := HE.out
        rw [List.take_of_length_le (by unfold listsOf; rw [List.length_map, HH.out.1]; omega), List.take_of_length_le (by unfold listsOf; rw [List.length_map, HG.out.1]; omega)] at h
        exact h))
      go_wp2_with fail
      go_ret
      exact ⟨ret_bool HD.out.symm, hb⟩
theorem eqLists_other (n m : Nat) (A B : Option Addr) (c d : Nat) (w : World) (h : n ≠ m) :
    Calls Tryd.prog 47 #[.slice A n c, .slice B m d, .func (.func 48) #[] #[]] w fun e w' => e = .returned (.bool false) ∧ Below w.heap.size w w' := by
  have h' : ((n : Int) != (m : Int)) = true := by rw [bne_iff_ne]; omega
  clear h
  go_enter Tryd.func47, Tryd.ntmps47
  go_wp2_with fail
  go_ret
  exact ⟨rfl, Below.refl _ _⟩
theorem eqLists_n (H G : List Hi) (n m : Nat) (A B : Option Addr) (c d : Nat) (w : World) (hH : RN w w.heap.size A n H) (hG : RN w w.heap.size B m G) (hn : n ≤ 1048576) (hm : ∀ h ∈ H, h.n ≤ 1048576) :
    Calls Tryd.prog 47 #[.slice A n c, .slice B m d, .func (.func 48) #[] #[]] w fun e w' => e = .returned (.bool (eqX (listsOf H) (listsOf G))) ∧ Below w.heap.size w w' := by
  by_cases h : n = m
  · subst h; exact eqLists_same n H G A B c d w hH hG hn hm
  · rw [eqX_no (fun e => h (by
      have h1 : (listsOf H).length = (listsOf G).length := by rw [e]
      unfold listsOf at h1
      rw [List.length_map, List.length_map, hH.1, hG.1] at h1
      exact h1))]
    exact eqLists_other n m A B c d w h

end Go.Proofs.YtnilejdokgagbaaDoor

/- What within, inByte, byteOf, allInByte and fits return. -/
namespace Go.Proofs.YtnilejdokgagbaaDoor
open Go.RowKit Go.BigFrame
set_option linter.unusedVariables false
set_option maxRecDepth 4000
set_option linter.unusedSimpArgs false

theorem within_t (v a b : Int) (h : a ≤ v ∧ v ≤ b) (w : World) : Calls Tryd.prog 65 #[.int .i64 v, .int .i64 a, .int .i64 b] w fun e w' => e = .returned (.bool true) ∧ w' = w := by
  obtain ⟨h1, h2⟩ := h
  go_enter Tryd.func65, Tryd.ntmps65
  go_wp2_with fail
  go_ret
  exact ⟨rfl, rfl⟩
theorem within_f (v a b : Int) (h : ¬ (a ≤ v ∧ v ≤ b)) (w : World) : Calls Tryd.prog 65 #[.int .i64 v, .int .i64 a, .int .i64 b] w fun e w' => e = .returned (.bool false) ∧ w' = w := by
  by_cases h1 : a ≤ v
  · have h2 : ¬ v ≤ b := fun h2 => h ⟨h1, h2⟩
    clear h
    go_enter Tryd.func65, Tryd.ntmps65
    go_wp2_with fail
    go_ret
    exact ⟨rfl, rfl⟩
  · clear h
    go_enter Tryd.func65, Tryd.ntmps65
    go_wp2_with fail
    go_ret
    exact ⟨rfl, rfl⟩
/-- A byte's number? -/
def byB (v : Int) : Bool := decide (0 ≤ v ∧ v ≤ 255)
theorem byB_yes {v : Int} (h : 0 ≤ v ∧ v ≤ 255) : byB v = true := decide_eq_true h
theorem byB_no {v : Int} (h : ¬ (0 ≤ v ∧ v ≤ 255)) : byB v = false := decide_eq_false h
theorem byB_iff (v : Int) : byB v = true ↔ byteI v := by unfold byB byteI; simp
theorem inByte_any (v : Int) (w : World) : Calls Tryd.prog 50 #[.int .i64 v] w fun e w' => e = .returned (.bool (byB v)) ∧ w' = w := by
  by_cases h : 0 ≤ v ∧ v ≤ 255
  · have H := Lib.hid (byB_yes h)
    go_enter Tryd.func50, Tryd.ntmps50
    go_wp2_with fail
    refine (within_t _ _ _ h _).mono ?_
    rintro e w1 ⟨rfl, rfl⟩
    go_wp2_with fail
    go_ret
    exact ⟨ret_bool H.out.symm, rfl⟩
  · have H := Lib.hid (byB_no h)
    go_enter Tryd.func50, Tryd.ntmps50
    go_wp2_with fail
    refine (within_f _ _ _ h _).mono ?_
    rintro e w1 ⟨rfl, rfl⟩
    go_wp2_with fail
    go_ret
    exact ⟨ret_bool H.out.symm, rfl⟩
theorem byteOf_any (v : Int) (w : World) : Calls Tryd.prog 30 #[.int .i64 v] w fun e w' => e = .returned (.bool (byB v)) ∧ w' = w := by
  by_cases h1 : 0 ≤ v
  · by_cases h2 : v ≤ 255
    · have H := Lib.hid (byB_yes ⟨h1, h2⟩)
      go_enter Tryd.func30, Tryd.ntmps30
      go_wp2_with fail
      go_ret
      exact ⟨ret_bool H.out.symm, rfl⟩
    · have H := Lib.hid (byB_no (fun h => h2 h.2))
      go_enter Tryd.func30, Tryd.ntmps30
      go_wp2_with fail
      go_ret
      exact ⟨ret_bool H.out.symm, rfl⟩
  · have H := Lib.hid (byB_no (fun h => h1 h.1))
    go_enter Tryd.func30, Tryd.ntmps30
    go_wp2_with fail
    go_ret
    exact ⟨ret_bool H.out.symm, rfl⟩
theorem notByte_any (v : Int) (w : World) : Calls Tryd.prog 79 #[.int .i64 v] w fun e w' => e = .returned (.bool (!byB v)) ∧ w' = w := by
  go_enter Tryd.func79, Tryd.ntmps79
  go_wp2_with fail
  refine (inByte_any v _).mono ?_
  rintro e w1 ⟨rfl, rfl⟩
  go_wp2_with fail
  go_ret
  exact ⟨rfl, rfl⟩
def OutIx (l : List Int) (w : World) (e : Ending) (w' : World) : Prop := ∃ r : Int, e = .returned (.int .i64 r) ∧ decide (0 ≤ r) = (!l.all byB) ∧ r ≤ 1048576 ∧ w' = w
set_option maxHeartbeats 1000000 in
theorem index_any (l : List Int) (n : Nat) (A : Option Addr) (c : Nat) (w : World) (hR : RI w w.heap.size A n l) (hn : n ≤ 1048576) :
    Calls Tryd.prog 83 #[.slice A n c, .func (.func 79) #[] #[]] w (OutIx l w) := by
  have HR := Lib.hid hR
  clear hR
  go_enter Tryd.func83, Tryd.ntmps83
  go_wp2_with fail
  go_loopw [8] (fun i wr => ∃ (k : Nat), k ≤ n ∧ i = .int .i64 k ∧ wr = w ∧ Hid ((l.take k).all byB = true)) (fun i _ => n - (intOf i).toNat)
  case atStart => exact ⟨0, Nat.zero_le _, rfl, rfl, Lib.hid rfl⟩
  case round =>
    obtain ⟨k, hk, rfl, rfl, HE⟩ := hrel
    by_cases hlt : k < n
    · have kl : k < l.length := by rw [HR.out.1]; exact hlt
      obtain ⟨b, o, rfl, _, p0⟩ := HR.out.at kl
      have HT : Hid ((l.take (k + 1)).all byB = ((l.take k).all byB && byB l[k])) := Lib.hid (by rw [List.take_succ_eq_append_getElem kl, List.all_append]; simp)
      have HF : Hid (byB l[k] = false → l.all byB = false) := Lib.hid (fun h => List.all_eq_false.2 ⟨l[k], List.getElem_mem kl, by simp [h]⟩)
      generalize l[k] = x at *
      have HC := Lib.hid (notByte_any x wr)
      cases hx : byB x
      · rw [hx] at HC
        have HD := Lib.hid (HF.out hx)
        clear HF HT HE hx
        go_wp2_with fail
        refine HC.out.mono ?_
        rintro e w1 ⟨rfl, rfl⟩
        go_wp2_with fail
        go_ret
        exact ⟨k, rfl, by rw [HD.out]; simp, by omega, rfl⟩
      · rw [hx] at HC
        have HE' : Hid ((l.take (k + 1)).all byB = true) := Lib.hid (by rw [HT.out, HE.out, hx]; rfl)
        clear HF HT HE hx
        go_wp2_with fail
        refine HC.out.mono ?_
        rintro e w1 ⟨rfl, rfl⟩
        go_wp2_with fail
        go_roundw
        case rel => exact ⟨k + 1, by omega, by go_num, trivial, HE'⟩
        case measure => simp [intOf]; omega
    · have HD : Hid (l.all byB = true) := Lib.hid (by
        have h := HE.out
        rwa [List.take_of_length_le (by rw [HR.out.1]; omega)] at h)
      go_wp2_with fail
      go_ret
      exact ⟨-1, rfl, by rw [HD.out]; rfl, by omega, rfl⟩
theorem allInByte_any (l : List Int) (n : Nat) (A : Option Addr) (c : Nat) (w : World) (hR : RI w w.heap.size A n l) (hn : n ≤ 1048576) :
    Calls Tryd.prog 66 #[.slice A n c] w fun e w' => e = .returned (.bool (l.all byB)) ∧ w' = w := by
  have HC : Hid (Calls Tryd.prog 78 #[.slice A n c, .func (.func 79) #[] #[]] w fun e w' => e = .returned (.bool (!l.all byB)) ∧ w' = w) := Lib.hid (by
    have HI := Lib.hid (index_any l n A c w hR hn)
    clear hR
    go_enter Tryd.func78, Tryd.ntmps78
    go_wp2_with fail
    refine HI.out.mono ?_
    rintro e w1 ⟨r, rfl, hr, hb, rfl⟩
    have HH := Lib.hid hr
    clear hr
    go_wp2_with fail
    go_ret
    exact ⟨ret_bool HH.out, rfl⟩)
  clear hR
  go_enter Tryd.func66, Tryd.ntmps66
  go_wp2_with fail
  refine HC.out.mono ?_
  rintro e w1 ⟨rfl, rfl⟩
  generalize hq : l.all byB = q
  have H := Lib.hid hq
  clear hq HC
  go_wp2_with fail
  go_ret
  exact ⟨ret_bool H.out.symm, rfl⟩
theorem all_byB {l : List Int} : l.all byB = true ↔ ∀ x ∈ l, byteI x := by
  rw [List.all_eq_true]
  exact ⟨fun h x hx => (byB_iff x).1 (h x hx), fun h x hx => (byB_iff x).2 (h x hx)⟩
theorem rows_ok {hs : List Hi} {cl : Int} (h1 : ∀ h ∈ hs, (h.l.length : Int) = cl ∧ h.l.all byB = true) : ∀ r ∈ listsOf hs, (r.length : Int) = cl ∧ ∀ x ∈ r, byteI x := fun r hr => by
  obtain ⟨h, hh, rfl⟩ := List.mem_map.1 hr
  exact ⟨(h1 h hh).1, all_byB.1 (h1 h hh).2⟩
noncomputable def mayB (t : Tb) : Bool := @decide (MayT t) (Classical.propDecidable _)
theorem mayB_yes {t : Tb} (h : MayT t) : mayB t = true := @decide_eq_true _ (Classical.propDecidable _) h
theorem mayB_no {t : Tb} (h : ¬ MayT t) : mayB t = false := @decide_eq_false _ (Classical.propDecidable _) h
set_option maxRecDepth 4000 in
set_option maxHeartbeats 2000000 in
theorem fits_any (T : TV) (w : World) (hT : T.ok w) (hS : Small T.tb) :
    Calls Tryd.prog 26 #[T.v] w fun e w' => e = .returned (.bool (mayB T.tb)) ∧ Below w.heap.size w w' := by
  obtain ⟨cl, a1, n1, c1, bd, a2, n2, c2, hs, a3, n3, c3, br⟩ := T
  simp only [TV.v] at *
  have L1 : bd.length = n1 := hT.r1.1
  have L2 : hs.length = n2 := hT.r2.1
  have L3 : br.length = n3 := hT.r3.1
  have L2' : (listsOf hs).length = n2 := by rw [listsOf_len, L2]
  have B1 : n1 ≤ 400 := by have := hS.k; simp only [TV.tb] at this; omega
  have B2 : n2 ≤ 3000 := by have := hS.n; have := bulk_len (listsOf hs); simp only [TV.tb] at *; omega
  have B3 : n3 ≤ 1000 := by have := hS.b; simp only [TV.tb] at this; omega
  have BR : ∀ h ∈ hs, h.n ≤ 3000 := fun h hh => by
    have h1 := hS.n
    have h2 := bulk_mem (L := listsOf hs) (r := h.l) (List.mem_map.2 ⟨h, hh, rfl⟩)
    have h3 := (hT.r2.2.2 h hh).1.1
    simp only [TV.tb] at h1
    omega
  have HBR := Lib.hid BR
  have HT := Lib.hid hT
  have HL1 := Lib.hid L1
  have HL2 := Lib.hid L2
  have HL2' := Lib.hid L2'
  have HL3 := Lib.hid L3
  clear hT hS BR L1 L2 L2' L3
  by_cases g1 : 1 ≤ cl ∧ cl ≤ 255
  case neg =>
    have HN : Hid (mayB (TV.tb ⟨cl, a1, n1, c1, bd, a2, n2, c2, hs, a3, n3, c3, br⟩) = false) := Lib.hid (mayB_no (fun h => g1 ⟨h.c1, h.c2⟩))
    clear HT
    go_enter Tryd.func26, Tryd.ntmps26
    go_wp2_with fail
    refine (within_f _ _ _ g1 _).mono ?_
    rintro e w1 ⟨rfl, rfl⟩
    go_wp2_with fail
    go_ret
    exact ⟨ret_bool HN.out.symm, below_new _ _⟩

  by_cases g2 : 1 ≤ (n2 : Int) ∧ (n2 : Int) ≤ 255
  case neg =>
    have HN : Hid (mayB (TV.tb ⟨cl, a1, n1, c1, bd, a2, n2, c2, hs, a3, n3, c3, br⟩) = false) := Lib.hid (mayB_no (fun h => g2 (by have h1 := h.n1; have h2 := h.n2; have := HL2'.out; simp only [TV.tb] at h1 h2; omega)))
    clear HT
    go_enter Tryd.func26, Tryd.ntmps26
    go_wp2_with fail
    refine (within_t _ _ _ g1 _).mono ?_
    rintro e w1 ⟨rfl, rfl⟩
    go_wp2_with fail
    refine (within_f _ _ _ g2 _).mono ?_
    rintro e w1 ⟨rfl, rfl⟩
    go_wp2_with fail
    go_ret
    exact ⟨ret_bool HN.out.symm, below_new _ _⟩

  by_cases g3 : n3 = n2
  case neg =>
    have HN : Hid (mayB (TV.tb ⟨cl, a1, n1, c1, bd, a2, n2, c2, hs, a3, n3, c3, br⟩) = false) := Lib.hid (mayB_no (fun h => g3 (by have h1 := h.b1; have := HL2'.out; have := HL3.out; simp only [TV.tb] at h1; omega)))
    clear HT
    have g3 : ((n3 : Int) != (n2 : Int)) = true := by rw [bne_iff_ne]; omega
    go_enter Tryd.func26, Tryd.ntmps26
    go_wp2_with fail
    refine (within_t _ _ _ g1 _).mono ?_
    rintro e w1 ⟨rfl, rfl⟩
    go_wp2_with fail
    refine (within_t _ _ _ g2 _).mono ?_
    rintro e w1 ⟨rfl, rfl⟩
    go_wp2_with fail
    go_ret
    exact ⟨ret_bool HN.out.symm, below_new _ _⟩

  by_cases g4 : n1 ≤ 255
  case neg =>
    have HN : Hid (mayB (TV.tb ⟨cl, a1, n1, c1, bd, a2, n2, c2, hs, a3, n3, c3, br⟩) = false) := Lib.hid (mayB_no (fun h => g4 (by have h1 := h.k1; have := HL1.out; simp only [TV.tb] at h1; omega)))
    clear HT
    have g3 : ((n3 : Int) != (n2 : Int)) = false := by rw [bne_eq_false_iff_eq]; omega
    have HI := Lib.hid (inByte_any n1)
    rw [byB_no (by omega)] at HI
    go_enter Tryd.func26, Tryd.ntmps26
    go_wp2_with fail
    refine (within_t _ _ _ g1 _).mono ?_
    rintro e w1 ⟨rfl, rfl⟩
    go_wp2_with fail
    refine (within_t _ _ _ g2 _).mono ?_
    rintro e w1 ⟨rfl, rfl⟩
    go_wp2_with fail
    refine (HI.out _).mono ?_
    rintro e w1 ⟨rfl, rfl⟩
    go_wp2_with fail
    go_ret
    exact ⟨ret_bool HN.out.symm, below_new _ _⟩

  have HMay : Hid ((∀ h ∈ hs, (h.l.length : Int) = cl ∧ h.l.all byB = true) → (∀ x ∈ bd, (0 ≤ x.1 ∧ x.1 ≤ 16777215) ∧ byB x.2 = true) → mayB (TV.tb ⟨cl, a1, n1, c1, bd, a2, n2, c2, hs, a3, n3, c3, br⟩) = true) := Lib.hid (fun h1 h2 => mayB_yes { c1 := g1.1, c2 := g1.2, n1 := by have := HL2'.out; simp only [TV.tb]; omega, n2 := by have := HL2'.out; simp only [TV.tb]; omega, b1 := by have := HL2'.out; have := HL3.out; simp only [TV.tb]; omega, k1 := by have := HL1.out; simp only [TV.tb]; omega, bd := fun x hx => ⟨(h2 x hx).1, (byB_iff _).1 (h2 x hx).2⟩, nx := rows_ok h1 })
  have HNo1 : Hid (∀ h ∈ hs, ¬ ((h.l.length : Int) = cl ∧ h.l.all byB = true) → mayB (TV.tb ⟨cl, a1, n1, c1, bd, a2, n2, c2, hs, a3, n3, c3, br⟩) = false) := Lib.hid (fun h hh hn => mayB_no (fun hm => hn (by
    have := hm.nx h.l (List.mem_map.2 ⟨h, hh, rfl⟩)
    exact ⟨this.1, all_byB.2 this.2⟩)))
  have HNo2 : Hid (∀ x ∈ bd, ¬ ((0 ≤ x.1 ∧ x.1 ≤ 16777215) ∧ byB x.2 = true) → mayB (TV.tb ⟨cl, a1, n1, c1, bd, a2, n2, c2, hs, a3, n3, c3, br⟩) = false) := Lib.hid (fun x hx hn => mayB_no (fun hm => hn (by
    have := hm.bd x hx
    exact ⟨this.1, (byB_iff _).2 this.2⟩)))
  generalize mayB (TV.tb ⟨cl, a1, n1, c1, bd, a2, n2, c2, hs, a3, n3, c3, br⟩) = q at *
  obtain rfl := g3
  have g3' : ((n3 : Int) != (n3 : Int)) = false := by simp
  have HI := Lib.hid (inByte_any n1)
  rw [byB_yes (by omega)] at HI
  go_enter Tryd.func26, Tryd.ntmps26
  go_wp2_with fail
  have q0 : (w.alloc (.cells #[.int .i64 cl, .slice a1 n1 c1, .slice a2 n3 c2, .slice a3 n3 c3] 26)).cell? ⟨w.heap.size, 0, none⟩ = some (.int .i64 cl) := by simp
  have q1 : (w.alloc (.cells #[.int .i64 cl, .slice a1 n1 c1, .slice a2 n3 c2, .slice a3 n3 c3] 26)).cell? ⟨w.heap.size, 1, none⟩ = some (.slice a1 n1 c1) := by simp
  have q2 : (w.alloc (.cells #[.int .i64 cl, .slice a1 n1 c1, .slice a2 n3 c2, .slice a3 n3 c3] 26)).cell? ⟨w.heap.size, 2, none⟩ = some (.slice a2 n3 c2) := by simp
  have q3 : (w.alloc (.cells #[.int .i64 cl, .slice a1 n1 c1, .slice a2 n3 c2, .slice a3 n3 c3] 26)).cell? ⟨w.heap.size, 3, none⟩ = some (.slice a3 n3 c3) := by simp
  have b0 := below_new w (.cells #[.int .i64 cl, .slice a1 n1 c1, .slice a2 n3 c2, .slice a3 n3 c3] 26)
  have HT0 := Lib.hid (HT.out.on b0)
  generalize w.alloc (.cells #[.int .i64 cl, .slice a1 n1 c1, .slice a2 n3 c2, .slice a3 n3 c3] 26) = W at *
  have hszW := b0.size
  refine (within_t _ _ _ g1 _).mono ?_
  rintro e w1 ⟨rfl, rfl⟩
  go_wp2_with fail
  refine (within_t _ _ _ g2 _).mono ?_
  rintro e w2 ⟨rfl, rfl⟩
  go_wp2_with fail
  refine (HI.out _).mono ?_
  rintro e w3 ⟨rfl, rfl⟩
  go_wp2_with fail
  go_loopw [37] (fun i wr => ∃ (k : Nat), k ≤ n3 ∧ i = .int .i64 k ∧ wr = w3 ∧ Hid (∀ h ∈ hs.take k, (h.l.length : Int) = cl ∧ h.l.all byB = true)) (fun i _ => n3 - (intOf i).toNat)
  case atStart => exact ⟨0, Nat.zero_le _, rfl, rfl, Lib.hid (fun h hh => by simp at hh)⟩
  case round =>
    obtain ⟨k, hk, rfl, rfl, HE⟩ := hrel
    by_cases hlt : k < n3
    · have kl : k < hs.length := by rw [HL2.out]; exact hlt
      obtain ⟨b, o, rfl, _, p0, pr, _⟩ := HT0.out.r2.at kl
      have HT1 : Hid (∀ h ∈ hs.take (k + 1), h ∈ hs.take k ∨ h = hs[k]) := Lib.hid (fun h hh => by
        rw [List.take_succ_eq_append_getElem kl] at hh
        exact (List.mem_append.1 hh).imp id List.mem_singleton.1)
      have HF1 := Lib.hid (HNo1.out hs[k] (List.getElem_mem kl))
      have hxn := HBR.out hs[k] (List.getElem_mem kl)
      have HLx := Lib.hid pr.1
      generalize hs[k] = x at *
      obtain ⟨xa, xn, xc, xs⟩ := x
      simp only [] at p0 pr HF1 hxn HLx HT1
      by_cases hxc : (xn : Int) = cl
      · have hne : ((xn : Int) != cl) = false := by rw [bne_eq_false_iff_eq]; exact hxc
        have HX := Lib.hid hxc
        have HC := Lib.hid (allInByte_any xs xn xa xc wr pr (by omega))
        clear hxc pr
        cases hx : xs.all byB
        · rw [hx] at HC
          have HD := Lib.hid (HF1.out (fun h => by rw [hx] at h; cases h.2))
          clear HF1 HT1 HE hx
          go_wp2_with fail
          refine HC.out.mono ?_
          rintro e w4 ⟨rfl, rfl⟩
          go_wp2_with fail
          go_ret
          exact ⟨ret_bool HD.out.symm, b0⟩
        · rw [hx] at HC
          have HE' : Hid (∀ h ∈ hs.take (k + 1), (h.l.length : Int) = cl ∧ h.l.all byB = true) := Lib.hid (fun h hh => by
            rcases HT1.out h hh with hh | hh
            · exact HE.out h hh
            · subst hh; exact ⟨by rw [HLx.out]; exact HX.out, hx⟩)
          clear HF1 HT1 HE hx
          go_wp2_with fail
          refine HC.out.mono ?_
          rintro e w4 ⟨rfl, rfl⟩
          go_wp2_with fail
          go_roundw
          case rel => exact ⟨k + 1, by omega, by go_num, trivial, HE'⟩
          case measure => simp [intOf]; omega
      · have hne : ((xn : Int) != cl) = true := by rw [bne_iff_ne]; exact hxc
        have HD := Lib.hid (HF1.out (fun h => by rw [HLx.out] at h; exact hxc h.1))
        clear HF1 HT1 HE hxc pr
        go_wp2_with fail
        go_ret
        exact ⟨ret_bool HD.out.symm, b0⟩
    · have HR : Hid (∀ h ∈ hs, (h.l.length : Int) = cl ∧ h.l.all byB = true) := Lib.hid (by
        have h := HE.out
        rwa [List.take_of_length_le (by rw [HL2.out]; omega)] at h)
      clear HE
      rename World => w4
      go_wp2_with fail
      go_loopw [55] (fun i wr => ∃ (k : Nat), k ≤ n1 ∧ i = .int .i64 k ∧ Below w4.heap.size w4 wr ∧ Hid (∀ x ∈ bd.take k, (0 ≤ x.1 ∧ x.1 ≤ 16777215) ∧ byB x.2 = true)) (fun i _ => n1 - (intOf i).toNat)
      case atStart => exact ⟨0, Nat.zero_le _, rfl, Below.refl _ _, Lib.hid (fun h hh => by simp at hh)⟩
      case round =>
        obtain ⟨j, hj, rfl, hb, HE⟩ := hrel
        have hszr := hb.size
        by_cases hjl : j < n1
        · have jl : j < bd.length := by rw [HL1.out]; exact hjl
          obtain ⟨b, o, rfl, _, p0, p1⟩ := (HT0.out.r1.on hb).at jl
          have HT1 : Hid (∀ h ∈ bd.take (j + 1), h ∈ bd.take j ∨ h = bd[j]) := Lib.hid (fun h hh => by
            rw [List.take_succ_eq_append_getElem jl] at hh
            exact (List.mem_append.1 hh).imp id List.mem_singleton.1)
          have HF1 := Lib.hid (HNo2.out bd[j] (List.getElem_mem jl))
          generalize bd[j] = x at *
          obtain ⟨x0, x1⟩ := x
          simp only [] at p0 p1 HF1 HT1
          have b9 : Below w4.heap.size w4 (wr.alloc (.cells #[.int .i64 x0, .int .i64 x1] 50)) := hb.alloc hszr _
          have b8 := b0.trans (b9.mono hszW)
          by_cases hx0 : 0 ≤ x0 ∧ x0 ≤ 16777215
          · have HC := Lib.hid (inByte_any x1)
            cases hx : byB x1
            · rw [hx] at HC
              have HD := Lib.hid (HF1.out (fun h => by rw [hx] at h; cases h.2))
              clear HF1 HT1 HE hx
              go_wp2_with fail
              refine (within_t _ _ _ hx0 _).mono ?_
              rintro e w5 ⟨rfl, rfl⟩
              go_wp2_with fail
              refine (HC.out _).mono ?_
              rintro e w6 ⟨rfl, rfl⟩
              go_wp2_with fail
              go_ret
              exact ⟨ret_bool HD.out.symm, b8⟩
            · rw [hx] at HC
              have HE' : Hid (∀ x ∈ bd.take (j + 1), (0 ≤ x.1 ∧ x.1 ≤ 16777215) ∧ byB x.2 = true) := Lib.hid (fun h hh => by
                rcases HT1.out h hh with hh | hh
                · exact HE.out h hh
                · subst hh; exact ⟨hx0, hx⟩)
              clear HF1 HT1 HE hx
              go_wp2_with fail
              refine (within_t _ _ _ hx0 _).mono ?_
              rintro e w5 ⟨rfl, rfl⟩
              go_wp2_with fail
              refine (HC.out _).mono ?_
              rintro e w6 ⟨rfl, rfl⟩
              go_wp2_with fail
              go_roundw
              case rel => exact ⟨j + 1, by omega, by go_num, b9, HE'⟩
              case measure => simp [intOf]; omega
          · have HD := Lib.hid (HF1.out (fun h => hx0 h.1))
            clear HF1 HT1 HE
            go_wp2_with fail
            refine (within_f _ _ _ hx0 _).mono ?_
            rintro e w5 ⟨rfl, rfl⟩
            go_wp2_with fail
            go_ret
            exact ⟨ret_bool HD.out.symm, b8⟩
        · have HD : Hid (q = true) := Lib.hid (HMay.out HR.out (by
            have h := HE.out
            rwa [List.take_of_length_le (by rw [HL1.out]; omega)] at h))
          go_wp2_with fail
          go_ret
          exact ⟨ret_bool HD.out.symm, b0.trans (hb.mono hszW)⟩
end Go.Proofs.YtnilejdokgagbaaDoor

/- What LargeLists, Large, Same and the statements' own comparison of tables return. -/
namespace Go.Proofs.YtnilejdokgagbaaDoor
open Go.RowKit Go.BigFrame
set_option linter.unusedVariables false
set_option maxRecDepth 4000
set_option linter.unusedSimpArgs false

set_option maxHeartbeats 1000000 in
theorem largeLists_any (H : List Hi) (n : Nat) (A : Option Addr) (c : Nat) (w : World) (hN : RN w w.heap.size A n H) (hn : n ≤ 9223372036854775807) (hr : ∀ h ∈ H, h.n ≤ 9223372036854775807) :
    Calls Tryd.prog 24 #[.slice A n c, .int .i64 3000] w fun e w' => ∃ q, e = .returned (.bool q) ∧ w' = w ∧ (q = false → bulk (listsOf H) ≤ 3000) := by
  have HN := Lib.hid hN
  have HR := Lib.hid hr
  clear hN hr
  go_enter Tryd.func24, Tryd.ntmps24
  go_wp2_with fail
  go_loopw [5, 6] (fun va vi wr => ∃ (k a : Nat), k ≤ n ∧ vi = .int .i64 k ∧ va = .int .i64 a ∧ a ≤ 6001 ∧ wr = w ∧ Hid (a ≤ 3000 → a = bulk (listsOf (H.take k)))) (fun va vi _ => n - (intOf vi).toNat)
  case atStart => exact ⟨0, 0, Nat.zero_le _, rfl, rfl, by omega, rfl, Lib.hid (fun _ => rfl)⟩
  case round =>
    obtain ⟨k, a, hk, rfl, rfl, ha, rfl, HE⟩ := hrel
    by_cases hlt : k < n
    · by_cases ha2 : a ≤ 3000
      · have kl : k < H.length := by rw [HN.out.1]; exact hlt
        obtain ⟨b, o, rfl, _, p0, pr, _⟩ := HN.out.at kl
        have hx := HR.out _ (List.getElem_mem kl)
        have hxl := pr.1
        have HT : Hid (bulk (listsOf (H.take (k + 1))) = bulk (listsOf (H.take k)) + (1 + H[k].l.length)) := Lib.hid (by
          rw [List.take_succ_eq_append_getElem kl]
          unfold listsOf
          rw [List.map_append, bulk_app]
          simp [bulk])
        generalize H[k] = x at *
        obtain ⟨xa, xn, xc, xs⟩ := x
        simp only [] at p0 pr hx hxl HT
        have HXL := Lib.hid hxl
        clear hxl pr
        by_cases hxn : xn ≤ 3000
        · have HE' : Hid (a + (1 + xn) ≤ 3000 → a + (1 + xn) = bulk (listsOf (H.take (k + 1)))) := Lib.hid (fun h => by rw [HT.out, HXL.out, ← HE.out ha2])
          have hmin : min (xn : Int) 3000 = (xn : Int) := by omega
          clear HE HT
          go_wp2_with fail
          go_roundw
          case rel => exact ⟨k + 1, a + (1 + xn), by omega, by go_num, by go_num, by omega, trivial, HE'⟩
          case measure => simp [intOf]; omega
        · have HE' : Hid (a + (1 + 3000) ≤ 3000 → a + (1 + 3000) = bulk (listsOf (H.take (k + 1)))) := Lib.hid (fun h => by omega)
          have hmin : min (xn : Int) 3000 = 3000 := by omega
          clear HE HT
          go_wp2_with fail
          go_roundw
          case rel => exact ⟨k + 1, a + (1 + 3000), by omega, by go_num, by go_num, by omega, trivial, HE'⟩
          case measure => simp [intOf]; omega
      · go_wp2_with fail
        go_ret
        exact ⟨_, rfl, rfl, fun h => by first | (have := of_decide_eq_false h; omega) | (cases h)⟩
    · have HD : Hid (a ≤ 3000 → bulk (listsOf H) ≤ 3000) := Lib.hid (fun h => by
        have h1 := HE.out h
        rw [List.take_of_length_le (by rw [HN.out.1]; omega)] at h1
        omega)
      go_wp2_with fail
      go_ret
      exact ⟨_, rfl, rfl, fun h => HD.out (by have := of_decide_eq_false h; omega)⟩
/-- Is a table too large? -/
def OutLg (t : Tb) (w : World) (e : Ending) (w' : World) : Prop := ∃ q, e = .returned (.bool q) ∧ Below w.heap.size w w' ∧ (q = false → Small t)
set_option maxHeartbeats 1000000 in
theorem large_any (T : TV) (w : World) (hT : T.ok w) :
    Calls Tryd.prog 5 #[T.v] w (OutLg T.tb w) := by
  obtain ⟨cl, a1, n1, c1, bd, a2, n2, c2, hs, a3, n3, c3, br⟩ := T
  simp only [TV.v] at *
  have B1 : n1 ≤ 9223372036854775807 := by have := hT.s1.2; unfold maxLen at this; simp only [] at this; omega
  have B2 : n2 ≤ 9223372036854775807 := by have := hT.s2.2; unfold maxLen at this; simp only [] at this; omega
  have B3 : n3 ≤ 9223372036854775807 := by have := hT.s3.2; unfold maxLen at this; simp only [] at this; omega
  have BR : ∀ h ∈ hs, h.n ≤ 9223372036854775807 := fun h hh => by
    have := (hT.r2.2.2 h hh).2.2
    unfold maxLen at this
    omega
  have HLg := Lib.hid (fun W (g : Below w.heap.size w W) => largeLists_any hs n2 a2 c2 W (hT.r2.on g) B2 BR)
  have L1 : bd.length = n1 := hT.r1.1
  have L3 : br.length = n3 := hT.r3.1
  have HS : Hid (n1 ≤ 400 → n3 ≤ 1000 → bulk (listsOf hs) ≤ 3000 → Small (TV.tb ⟨cl, a1, n1, c1, bd, a2, n2, c2, hs, a3, n3, c3, br⟩)) := Lib.hid (fun h1 h2 h3 => ⟨by simp only [TV.tb]; omega, h3, by simp only [TV.tb]; omega⟩)
  clear hT BR L1 L3
  by_cases g1 : 400 < n1
  · go_enter Tryd.func5, Tryd.ntmps5
    go_wp2_with fail
    go_ret
    exact ⟨true, rfl, below_new _ _, fun h => by cases h⟩
  · go_enter Tryd.func5, Tryd.ntmps5
    go_wp2_with fail
    refine (HLg.out _ (below_new _ _)).mono ?_
    rintro e w1 ⟨q, rfl, rfl, hq⟩
    have HQ := Lib.hid hq
    clear hq
    cases q
    · go_wp2_with fail
      go_ret
      exact ⟨_, rfl, below_new _ _, fun h => HS.out (by omega) (by simp only [Bool.or_eq_false_iff, decide_eq_false_iff_not] at h; omega) (HQ.out (by first | rfl | trivial))⟩
    · go_wp2_with fail
      go_ret
      exact ⟨true, rfl, below_new _ _, fun h => by cases h⟩

/-- Are two tables alike? -/
noncomputable def eqT (t u : Tb) : Bool := @decide (t = u) (Classical.propDecidable _)
theorem eqT_yes {t u : Tb} (h : t = u) : eqT t u = true := @decide_eq_true _ (Classical.propDecidable _) h
theorem eqT_no {t u : Tb} (h : ¬ t = u) : eqT t u = false := @decide_eq_false _ (Classical.propDecidable _) h
theorem eqX_iff {α : Type} {a b : List α} : eqX a b = true ↔ a = b := ⟨fun h => by unfold eqX at h; exact @of_decide_eq_true _ (Classical.propDecidable _) h, eqX_yes⟩
theorem eqT_eq (t u : Tb) : eqT t u = ((t.cl == u.cl) && (eqX t.bd u.bd && (eqX t.nx u.nx && eqX t.br u.br))) := by
  by_cases h : t = u
  · subst h
    rw [eqT_yes rfl, eqX_yes rfl, eqX_yes rfl, eqX_yes rfl]
    simp
  · rw [eqT_no h]
    symm
    cases hq : ((t.cl == u.cl) && (eqX t.bd u.bd && (eqX t.nx u.nx && eqX t.br u.br)))
    · rfl
    · exfalso
      apply h
      simp only [Bool.and_eq_true, beq_iff_eq, eqX_iff] at hq
      obtain ⟨a, b, c, d⟩ := hq
      cases t; cases u
      simp only at a b c d
      rw [a, b, c, d]
set_option maxRecDepth 4000 in
set_option maxHeartbeats 2000000 in
theorem same_any (T U : TV) (w : World) (hT : T.ok w) (hU : U.ok w) (h1 : T.n1 ≤ 1048576) (h2 : T.n2 ≤ 1048576) (h3 : T.n3 ≤ 1048576) (hm : ∀ h ∈ T.hs, h.n ≤ 1048576) :
    Calls Tryd.prog 14 #[T.v, U.v] w fun e w' => e = .returned (.bool (eqT T.tb U.tb)) ∧ Below w.heap.size w w' := by
  obtain ⟨cl, a1, n1, c1, bd, a2, n2, c2, hs, a3, n3, c3, br⟩ := T
  obtain ⟨cl', a1', n1', c1', bd', a2', n2', c2', hs', a3', n3', c3', br'⟩ := U
  simp only [TV.v] at *
  have HT := Lib.hid hT
  have HU := Lib.hid hU
  have HM := Lib.hid hm
  have HB := Lib.hid (fun W (g : Below w.heap.size w W) => eqBands_n bd bd' n1 n1' a1 a1' c1 c1' W (HT.out.r1.on g) (HU.out.r1.on g) h1)
  have HL := Lib.hid (fun W (g : Below w.heap.size w W) => eqLists_n hs hs' n2 n2' a2 a2' c2 c2' W (HT.out.r2.on g) (HU.out.r2.on g) h2 HM.out)
  have HO := Lib.hid (fun W (g : Below w.heap.size w W) => eqBools_n br br' n3 n3' a3 a3' c3 c3' W (HT.out.r3.on g) (HU.out.r3.on g) h3)
  have HE : Hid (eqT (TV.tb ⟨cl, a1, n1, c1, bd, a2, n2, c2, hs, a3, n3, c3, br⟩) (TV.tb ⟨cl', a1', n1', c1', bd', a2', n2', c2', hs', a3', n3', c3', br'⟩) = ((cl == cl') && (eqX bd bd' && (eqX (listsOf hs) (listsOf hs') && eqX br br')))) := Lib.hid (eqT_eq _ _)
  rw [HE.out]
  clear hT hU hm HT HU HM HE
  by_cases hc : cl = cl'
  · subst hc
    have hcc : (cl == cl) = true := by simp
    have H0 : Hid (((cl == cl) && (eqX bd bd' && (eqX (listsOf hs) (listsOf hs') && eqX br br'))) = (eqX bd bd' && (eqX (listsOf hs) (listsOf hs') && eqX br br'))) := Lib.hid (by rw [hcc, Bool.true_and])
    rw [H0.out]
    clear H0
    go_enter Tryd.func14, Tryd.ntmps14
    go_wp2_with fail
    have b0 : Below w.heap.size w ((w.alloc (.cells #[.int .i64 cl, .slice a1 n1 c1, .slice a2 n2 c2, .slice a3 n3 c3] 26)).alloc (.cells #[.int .i64 cl, .slice a1' n1' c1', .slice a2' n2' c2', .slice a3' n3' c3'] 26)) := (below_new _ _).trans ((below_new _ _).mono (by simp))
    have p0 : ((w.alloc (.cells #[.int .i64 cl, .slice a1 n1 c1, .slice a2 n2 c2, .slice a3 n3 c3] 26)).alloc (.cells #[.int .i64 cl, .slice a1' n1' c1', .slice a2' n2' c2', .slice a3' n3' c3'] 26)).cell? ⟨w.heap.size, 0, none⟩ = some (.int .i64 cl) := by simp
    have p1 : ((w.alloc (.cells #[.int .i64 cl, .slice a1 n1 c1, .slice a2 n2 c2, .slice a3 n3 c3] 26)).alloc (.cells #[.int .i64 cl, .slice a1' n1' c1', .slice a2' n2' c2', .slice a3' n3' c3'] 26)).cell? ⟨w.heap.size, 1, none⟩ = some (.slice a1 n1 c1) := by simp
    have p2 : ((w.alloc (.cells #[.int .i64 cl, .slice a1 n1 c1, .slice a2 n2 c2, .slice a3 n3 c3] 26)).alloc (.cells #[.int .i64 cl, .slice a1' n1' c1', .slice a2' n2' c2', .slice a3' n3' c3'] 26)).cell? ⟨w.heap.size, 2, none⟩ = some (.slice a2 n2 c2) := by simp
    have p3 : ((w.alloc (.cells #[.int .i64 cl, .slice a1 n1 c1, .slice a2 n2 c2, .slice a3 n3 c3] 26)).alloc (.cells #[.int .i64 cl, .slice a1' n1' c1', .slice a2' n2' c2', .slice a3' n3' c3'] 26)).cell? ⟨w.heap.size, 3, none⟩ = some (.slice a3 n3 c3) := by simp
    have r0 : ((w.alloc (.cells #[.int .i64 cl, .slice a1 n1 c1, .slice a2 n2 c2, .slice a3 n3 c3] 26)).alloc (.cells #[.int .i64 cl, .slice a1' n1' c1', .slice a2' n2' c2', .slice a3' n3' c3'] 26)).cell? ⟨w.heap.size + 1, 0, none⟩ = some (.int .i64 cl) := by simp
    have r1 : ((w.alloc (.cells #[.int .i64 cl, .slice a1 n1 c1, .slice a2 n2 c2, .slice a3 n3 c3] 26)).alloc (.cells #[.int .i64 cl, .slice a1' n1' c1', .slice a2' n2' c2', .slice a3' n3' c3'] 26)).cell? ⟨w.heap.size + 1, 1, none⟩ = some (.slice a1' n1' c1') := by simp
    have r2 : ((w.alloc (.cells #[.int .i64 cl, .slice a1 n1 c1, .slice a2 n2 c2, .slice a3 n3 c3] 26)).alloc (.cells #[.int .i64 cl, .slice a1' n1' c1', .slice a2' n2' c2', .slice a3' n3' c3'] 26)).cell? ⟨w.heap.size + 1, 2, none⟩ = some (.slice a2' n2' c2') := by simp
    have r3 : ((w.alloc (.cells #[.int .i64 cl, .slice a1 n1 c1, .slice a2 n2 c2, .slice a3 n3 c3] 26)).alloc (.cells #[.int .i64 cl, .slice a1' n1' c1', .slice a2' n2' c2', .slice a3' n3' c3'] 26)).cell? ⟨w.heap.size + 1, 3, none⟩ = some (.slice a3' n3' c3') := by simp
    generalize ((w.alloc (.cells #[.int .i64 cl, .slice a1 n1 c1, .slice a2 n2 c2, .slice a3 n3 c3] 26)).alloc (.cells #[.int .i64 cl, .slice a1' n1' c1', .slice a2' n2' c2', .slice a3' n3' c3'] 26)) = W at *
    have hb0 := b0.size
    generalize hq1 : eqX bd bd' = x1 at *
    generalize hq2 : eqX (listsOf hs) (listsOf hs') = x2 at *
    generalize hq3 : eqX br br' = x3 at *
    have HQ : Hid ((eqX bd bd' && (eqX (listsOf hs) (listsOf hs') && eqX br br')) = (x1 && (x2 && x3))) := Lib.hid (by rw [hq1, hq2, hq3])
    clear hq1 hq2 hq3
    refine (HB.out _ b0).mono ?_
    rintro e w1 ⟨rfl, g⟩
    have p2 := kept_cell g p2
    have p3 := kept_cell g p3
    have r2 := kept_cell g r2
    have r3 := kept_cell g r3
    have b1 := b0.trans (g.mono hb0)
    have hb1 := b1.size
    clear g HB p0 p1 r0 r1 b0
    cases x1
    · go_wp2_with fail
      go_ret
      exact ⟨ret_bool (by rw [HQ.out]; rfl), b1⟩
    go_wp2_with fail
    refine (HL.out _ b1).mono ?_
    rintro e w2 ⟨rfl, g⟩
    have p3 := kept_cell g p3
    have r3 := kept_cell g r3
    have b2 := b1.trans (g.mono hb1)
    have hb2 := b2.size
    clear g HL p2 r2 b1
    cases x2
    · go_wp2_with fail
      go_ret
      exact ⟨ret_bool (by rw [HQ.out]; rfl), b2⟩
    go_wp2_with fail
    refine (HO.out _ b2).mono ?_
    rintro e w3 ⟨rfl, g⟩
    have b3 := b2.trans (g.mono hb2)
    clear g HO p3 r3 b2
    go_wp2_with fail
    go_ret
    exact ⟨ret_bool (by rw [HQ.out]; rfl), b3⟩
  · have hcc : (cl == cl') = false := by rw [beq_eq_false_iff_ne]; exact hc
    have H0 : Hid (((cl == cl') && (eqX bd bd' && (eqX (listsOf hs) (listsOf hs') && eqX br br'))) = false) := Lib.hid (by rw [hcc, Bool.false_and])
    rw [H0.out]
    go_enter Tryd.func14, Tryd.ntmps14
    go_wp2_with fail
    go_ret
    exact ⟨rfl, (below_new _ _).trans ((below_new _ _).mono (by simp))⟩
set_option maxRecDepth 4000 in
set_option maxHeartbeats 2000000 in
theorem keepTable_any (T U : TV) (w : World) (hT : T.ok w) (hU : U.ok w) (h1 : T.n1 ≤ 1048576) (h2 : T.n2 ≤ 1048576) (h3 : T.n3 ≤ 1048576) (hm : ∀ h ∈ T.hs, h.n ≤ 1048576) :
    Calls Tryd.prog 13 #[T.v, U.v] w fun e w' => e = .returned (.bool (eqT T.tb U.tb)) ∧ Below w.heap.size w w' := by
  obtain ⟨cl, a1, n1, c1, bd, a2, n2, c2, hs, a3, n3, c3, br⟩ := T
  obtain ⟨cl', a1', n1', c1', bd', a2', n2', c2', hs', a3', n3', c3', br'⟩ := U
  simp only [TV.v] at *
  have HT := Lib.hid hT
  have HU := Lib.hid hU
  have HM := Lib.hid hm
  have HB := Lib.hid (fun W (g : Below w.heap.size w W) => keepBands_n bd bd' n1 n1' a1 a1' c1 c1' W (HT.out.r1.on g) (HU.out.r1.on g) h1)
  have HL := Lib.hid (fun W (g : Below w.heap.size w W) => keepLists_n hs hs' n2 n2' a2 a2' c2 c2' W (HT.out.r2.on g) (HU.out.r2.on g) h2 HM.out)
  have HO := Lib.hid (fun W (g : Below w.heap.size w W) => keepBools_n br br' n3 n3' a3 a3' c3 c3' W (HT.out.r3.on g) (HU.out.r3.on g) h3)
  have HE : Hid (eqT (TV.tb ⟨cl, a1, n1, c1, bd, a2, n2, c2, hs, a3, n3, c3, br⟩) (TV.tb ⟨cl', a1', n1', c1', bd', a2', n2', c2', hs', a3', n3', c3', br'⟩) = ((cl == cl') && (eqX bd bd' && (eqX (listsOf hs) (listsOf hs') && eqX br br')))) := Lib.hid (eqT_eq _ _)
  rw [HE.out]
  clear hT hU hm HT HU HM HE
  by_cases hc : cl = cl'
  · subst hc
    have hcc : (cl == cl) = true := by simp
    have H0 : Hid (((cl == cl) && (eqX bd bd' && (eqX (listsOf hs) (listsOf hs') && eqX br br'))) = (eqX bd bd' && (eqX (listsOf hs) (listsOf hs') && eqX br br'))) := Lib.hid (by rw [hcc, Bool.true_and])
    rw [H0.out]
    clear H0
    go_enter Tryd.func13, Tryd.ntmps13
    go_wp2_with fail
    have b0 : Below w.heap.size w ((w.alloc (.cells #[.int .i64 cl, .slice a1 n1 c1, .slice a2 n2 c2, .slice a3 n3 c3] 26)).alloc (.cells #[.int .i64 cl, .slice a1' n1' c1', .slice a2' n2' c2', .slice a3' n3' c3'] 26)) := (below_new _ _).trans ((below_new _ _).mono (by simp))
    have p0 : ((w.alloc (.cells #[.int .i64 cl, .slice a1 n1 c1, .slice a2 n2 c2, .slice a3 n3 c3] 26)).alloc (.cells #[.int .i64 cl, .slice a1' n1' c1', .slice a2' n2' c2', .slice a3' n3' c3'] 26)).cell? ⟨w.heap.size, 0, none⟩ = some (.int .i64 cl) := by simp
    have p1 : ((w.alloc (.cells #[.int .i64 cl, .slice a1 n1 c1, .slice a2 n2 c2, .slice a3 n3 c3] 26)).alloc (.cells #[.int .i64 cl, .slice a1' n1' c1', .slice a2' n2' c2', .slice a3' n3' c3'] 26)).cell? ⟨w.heap.size, 1, none⟩ = some (.slice a1 n1 c1) := by simp
    have p2 : ((w.alloc (.cells #[.int .i64 cl, .slice a1 n1 c1, .slice a2 n2 c2, .slice a3 n3 c3] 26)).alloc (.cells #[.int .i64 cl, .slice a1' n1' c1', .slice a2' n2' c2', .slice a3' n3' c3'] 26)).cell? ⟨w.heap.size, 2, none⟩ = some (.slice a2 n2 c2) := by simp
    have p3 : ((w.alloc (.cells #[.int .i64 cl, .slice a1 n1 c1, .slice a2 n2 c2, .slice a3 n3 c3] 26)).alloc (.cells #[.int .i64 cl, .slice a1' n1' c1', .slice a2' n2' c2', .slice a3' n3' c3'] 26)).cell? ⟨w.heap.size, 3, none⟩ = some (.slice a3 n3 c3) := by simp
    have r0 : ((w.alloc (.cells #[.int .i64 cl, .slice a1 n1 c1, .slice a2 n2 c2, .slice a3 n3 c3] 26)).alloc (.cells #[.int .i64 cl, .slice a1' n1' c1', .slice a2' n2' c2', .slice a3' n3' c3'] 26)).cell? ⟨w.heap.size + 1, 0, none⟩ = some (.int .i64 cl) := by simp
    have r1 : ((w.alloc (.cells #[.int .i64 cl, .slice a1 n1 c1, .slice a2 n2 c2, .slice a3 n3 c3] 26)).alloc (.cells #[.int .i64 cl, .slice a1' n1' c1', .slice a2' n2' c2', .slice a3' n3' c3'] 26)).cell? ⟨w.heap.size + 1, 1, none⟩ = some (.slice a1' n1' c1') := by simp
    have r2 : ((w.alloc (.cells #[.int .i64 cl, .slice a1 n1 c1, .slice a2 n2 c2, .slice a3 n3 c3] 26)).alloc (.cells #[.int .i64 cl, .slice a1' n1' c1', .slice a2' n2' c2', .slice a3' n3' c3'] 26)).cell? ⟨w.heap.size + 1, 2, none⟩ = some (.slice a2' n2' c2') := by simp
    have r3 : ((w.alloc (.cells #[.int .i64 cl, .slice a1 n1 c1, .slice a2 n2 c2, .slice a3 n3 c3] 26)).alloc (.cells #[.int .i64 cl, .slice a1' n1' c1', .slice a2' n2' c2', .slice a3' n3' c3'] 26)).cell? ⟨w.heap.size + 1, 3, none⟩ = some (.slice a3' n3' c3') := by simp
    generalize ((w.alloc (.cells #[.int .i64 cl, .slice a1 n1 c1, .slice a2 n2 c2, .slice a3 n3 c3] 26)).alloc (.cells #[.int .i64 cl, .slice a1' n1' c1', .slice a2' n2' c2', .slice a3' n3' c3'] 26)) = W at *
    have hb0 := b0.size
    generalize hq1 : eqX bd bd' = x1 at *
    generalize hq2 : eqX (listsOf hs) (listsOf hs') = x2 at *
    generalize hq3 : eqX br br' = x3 at *
    have HQ : Hid ((eqX bd bd' && (eqX (listsOf hs) (listsOf hs') && eqX br br')) = (x1 && (x2 && x3))) := Lib.hid (by rw [hq1, hq2, hq3])
    clear hq1 hq2 hq3
    refine (HB.out _ b0).mono ?_
    rintro e w1 ⟨rfl, g⟩
    have p2 := kept_cell g p2
    have p3 := kept_cell g p3
    have r2 := kept_cell g r2
    have r3 := kept_cell g r3
    have b1 := b0.trans (g.mono hb0)
    have hb1 := b1.size
    clear g HB p0 p1 r0 r1 b0
    cases x1
    · go_wp2_with fail
      go_ret
      exact ⟨ret_bool (by rw [HQ.out]; rfl), b1⟩
    go_wp2_with fail
    refine (HL.out _ b1).mono ?_
    rintro e w2 ⟨rfl, g⟩
    have p3 := kept_cell g p3
    have r3 := kept_cell g r3
    have b2 := b1.trans (g.mono hb1)
    have hb2 := b2.size
    clear g HL p2 r2 b1
    cases x2
    · go_wp2_with fail
      go_ret
      exact ⟨ret_bool (by rw [HQ.out]; rfl), b2⟩
    go_wp2_with fail
    refine (HO.out _ b2).mono ?_
    rintro e w3 ⟨rfl, g⟩
    have b3 := b2.trans (g.mono hb2)
    clear g HO p3 r3 b2
    go_wp2_with fail
    go_ret
    exact ⟨ret_bool (by rw [HQ.out]; rfl), b3⟩
  · have hcc : (cl == cl') = false := by rw [beq_eq_false_iff_ne]; exact hc
    have H0 : Hid (((cl == cl') && (eqX bd bd' && (eqX (listsOf hs) (listsOf hs') && eqX br br'))) = false) := Lib.hid (by rw [hcc, Bool.false_and])
    rw [H0.out]
    go_enter Tryd.func13, Tryd.ntmps13
    go_wp2_with fail
    go_ret
    exact ⟨rfl, (below_new _ _).trans ((below_new _ _).mono (by simp))⟩
end Go.Proofs.YtnilejdokgagbaaDoor

