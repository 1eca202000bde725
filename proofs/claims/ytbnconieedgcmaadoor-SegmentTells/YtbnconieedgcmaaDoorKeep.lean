/- What the small helpers of the statements return: Bools, Bytes. -/
import Derived.Test.YtbnconieedgcmaaDoorApp
import Derived.Laws.BytesArg
namespace Go.Proofs.YtbnconieedgcmaaDoor
open Go.RowKit Go.BigFrame
set_option linter.unusedVariables false
set_option linter.unusedSimpArgs false


noncomputable def eqX {α : Type} (a b : List α) : Bool := @decide (a = b) (Classical.propDecidable _)
theorem eqX_yes {α : Type} {a b : List α} (h : a = b) : eqX a b = true := by unfold eqX; exact @decide_eq_true _ (Classical.propDecidable _) h
theorem eqX_no {α : Type} {a b : List α} (h : ¬ a = b) : eqX a b = false := by unfold eqX; exact @decide_eq_false _ (Classical.propDecidable _) h
set_option maxHeartbeats 1000000 in
theorem keepBools_same (n : Nat) (P Q : List Bool) (A B : Option Addr) (c d : Nat) (w : World) (hP : RL w w.heap.size A n P) (hQ : RL w w.heap.size B n Q) (hn : n ≤ 1048576) :
    Calls Tryd.prog 63 #[.slice A n c, .slice B n d] w fun e w' => e = .returned (.bool (eqX P Q)) ∧ Below w.heap.size w w' := by
  have HP := Lib.hid hP
  have HQ := Lib.hid hQ
  have LP := Lib.hid hP.1
  have LQ := Lib.hid hQ.1
  have hnn : ((n : Int) != (n : Int)) = false := by simp
  clear hP hQ
  go_enter Tryd.func63, Tryd.ntmps63
  go_wp2_with fail
  go_loopw [5] (fun i wr => ∃ (k q : Nat), k ≤ n ∧ i = .int .i64 k ∧ wr = w.drewN q ∧ Hid (P.take k = Q.take k)) (fun i _ => n - (intOf i).toNat)
  case atStart => exact ⟨0, 0, Nat.zero_le _, rfl, rfl, Lib.hid rfl⟩
  case round =>
    obtain ⟨k, q, hk, rfl, rfl, HE⟩ := hrel
    by_cases hlt : k < n
    · have kP : k < P.length := by rw [LP.out]; exact hlt
      have kQ : k < Q.length := by rw [LQ.out]; exact hlt
      obtain ⟨b, o, rfl, _, p0⟩ := HP.out.at kP
      obtain ⟨b', o', rfl, _, q0⟩ := HQ.out.at kQ
      have HtP : Hid (P.take (k + 1) = P.take k ++ [P[k]]) := Lib.hid (List.take_succ_eq_append_getElem kP)
      have HtQ : Hid (Q.take (k + 1) = Q.take k ++ [Q[k]]) := Lib.hid (List.take_succ_eq_append_getElem kQ)
      have HK : Hid (P = Q → P[k] = Q[k]) := Lib.hid (fun h => by subst h; rfl)
      have HN : Hid (P[k] = Q[k] → P.take (k + 1) = Q.take (k + 1)) := Lib.hid (fun h => by rw [HtP.out, HtQ.out, HE.out, h])
      generalize P[k] = x at *
      generalize Q[k] = y at *
      clear HtP HtQ kP kQ
      by_cases hxy : x = y
      · subst hxy
        have hne : (x != x) = false := by simp
        have hne2 : (!x == x) = false := by simp
        have HE' := Lib.hid (HN.out rfl)
        clear HN HK HE
        go_wp2_with fail
        go_quiet (fail)
        go_wp2_with fail
        go_roundw
        case rel => exact ⟨k + 1, _, by omega, by go_num, rfl, HE'⟩
        case measure => simp [intOf]; omega
      · have hne : (x != y) = true := by rw [bne_iff_ne]; exact hxy
        have hne2 : (!x == y) = true := by cases x <;> cases y <;> simp_all
        have HD : Hid (eqX P Q = false) := Lib.hid (eqX_no (fun h => hxy (HK.out h)))
        clear HN HK HE hxy
        go_wp2_with fail
        go_quiet (fail)
        go_wp2_with fail
        go_ret
        exact ⟨ret_bool HD.out.symm, below_drewN (below_drewN (Below.refl _ _) _) _⟩
    · have HD : Hid (eqX P Q = true) := Lib.hid (eqX_yes (by
        have h := HE.out
        rw [List.take_of_length_le (by rw [LP.out]; omega), List.take_of_length_le (by rw [LQ.out]; omega)] at h
        exact h))
      go_wp2_with fail
      go_ret
      exact ⟨ret_bool HD.out.symm, below_drewN (Below.refl _ _) _⟩
theorem keepBools_other (n m : Nat) (A B : Option Addr) (c d : Nat) (w : World) (h : n ≠ m) :
    Calls Tryd.prog 63 #[.slice A n c, .slice B m d] w fun e w' => e = .returned (.bool false) ∧ Below w.heap.size w w' := by
  have h' : ((n : Int) != (m : Int)) = true := by rw [bne_iff_ne]; omega
  clear h
  go_enter Tryd.func63, Tryd.ntmps63
  go_wp2_with fail
  go_ret
  exact ⟨rfl, Below.refl _ _⟩
theorem keepBools_n (P Q : List Bool) (n m : Nat) (A B : Option Addr) (c d : Nat) (w : World) (hP : RL w w.heap.size A n P) (hQ : RL w w.heap.size B m Q) (hn : n ≤ 1048576) :
    Calls Tryd.prog 63 #[.slice A n c, .slice B m d] w fun e w' => e = .returned (.bool (eqX P Q)) ∧ Below w.heap.size w w' := by
  by_cases h : n = m
  · subst h; exact keepBools_same n P Q A B c d w hP hQ hn
  · rw [eqX_no (fun e => h (by rw [← hP.1, ← hQ.1, e]))]; exact keepBools_other n m A B c d w h


/-- The string of bytes. -/
def strY (l : List Nat) : ByteArray := strOfNums (l.map Int.ofNat)
theorem strY_data (l : List Nat) : (strY l).data.toList = l.map UInt8.ofNat := by
  unfold strY; rw [strOfNums_data, List.map_map]; rfl
theorem map_ofNat_inj {P Q : List Nat} (hP : ∀ x ∈ P, x < 256) (hQ : ∀ x ∈ Q, x < 256) (h : P.map UInt8.ofNat = Q.map UInt8.ofNat) : P = Q := by
  induction P generalizing Q with
  | nil => cases Q with
    | nil => rfl
    | cons y Q => simp at h
  | cons x P ih => cases Q with
    | nil => simp at h
    | cons y Q =>
      simp only [List.map_cons, List.cons.injEq] at h
      have hx := hP x (by simp)
      have hy := hQ y (by simp)
      have e : x = y := by
        have := congrArg UInt8.toNat h.1
        rw [UInt8.toNat_ofNat', UInt8.toNat_ofNat'] at this
        omega
      rw [e, ih (fun z hz => hP z (by simp [hz])) (fun z hz => hQ z (by simp [hz])) h.2]
theorem strY_inj {P Q : List Nat} (hP : ∀ x ∈ P, x < 256) (hQ : ∀ x ∈ Q, x < 256) (h : strY P = strY Q) : P = Q :=
  map_ofNat_inj hP hQ (by rw [← strY_data, ← strY_data, h])
theorem conv_y {w : World} {B n c : Nat} {A : Option Addr} {l : List Nat} (h : RB w B A n l) : (convert 27 9 (.slice A n c)).run Tryd.prog w = .ok (.string (strY l)) w := by
  rcases Nat.eq_zero_or_pos n with h0 | h0
  · subst h0
    obtain rfl : l = [] := List.eq_nil_of_length_eq_zero h.1
    cases A with
    | none => exact run_convert_bytes_nil w 27 5 Tryd.underlying27 Tryd.underlying5 0 c 9 Tryd.underlying9
    | some a =>
      rw [run_convert_bytes_string w 27 9 5 _ 0 c Tryd.underlying27 Tryd.underlying5 Tryd.underlying9, run_bytesToString w a 0 c [] (by simpa using run_loadCells_list (P := Tryd.prog) w a [] (fun j v hj => by simp at hj))]
      rfl
  · obtain ⟨b, o, rfl, hb, hc⟩ := h.2.1.2 h0
    refine run_convert_bytes_arg w 27 5 Tryd.underlying27 Tryd.underlying5 b o n c (l.map Int.ofNat) (by rw [List.length_map]; exact h.1) (fun i hi => ?_) 9 Tryd.underlying9
    have hl : i < l.length := by rw [h.1]; exact hi
    refine hc i _ ?_
    unfold ycells
    rw [List.getElem?_map, List.getElem?_eq_getElem hl]
    simp [List.getD, hl]
theorem keepBytes_n (P Q : List Nat) (n m : Nat) (A B : Option Addr) (c d : Nat) (w : World) (hP : RB w w.heap.size A n P) (hQ : RB w w.heap.size B m Q) :
    Calls Tryd.prog 19 #[.slice A n c, .slice B m d] w fun e w' => e = .returned (.bool (eqX P Q)) ∧ w' = w := by
  have c1 := conv_y (c := c) hP
  have c2 := conv_y (c := d) hQ
  have H : Hid (((strY P).toList == (strY Q).toList) = eqX P Q) := Lib.hid (by
    by_cases h : P = Q
    · rw [eqX_yes h, h]; simp
    · rw [eqX_no h, beq_eq_false_iff_ne, ByteArray.toList_eq, ByteArray.toList_eq, strY_data, strY_data]
      exact fun e => h (map_ofNat_inj hP.2.2 hQ.2.2 e))
  generalize strY P = s at *
  generalize strY Q = t at *
  clear hP hQ
  go_enter Tryd.func19, Tryd.ntmps19
  go_wp2_with fail
  go_ret
  exact ⟨ret_bool H.out, rfl⟩
end Go.Proofs.YtbnconieedgcmaaDoor
