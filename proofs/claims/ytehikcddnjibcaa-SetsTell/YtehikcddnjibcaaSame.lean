/- What Size, Same, Less and the statements' own test of two sets return. -/
import Derived.Test.YtehikcddnjibcaaHas
namespace Go.Proofs.Ytehikcddnjibcaa
open Go.RowKit Go.BigFrame
set_option linter.unusedVariables false
set_option linter.unusedSimpArgs false

theorem eqL_diff {P Q : List Rg} (h : ¬ P = Q) : eqL P Q = false := decide_eq_false h

set_option maxHeartbeats 1000000 in
theorem equal_same (n : Nat) (P Q : List Rg) (A B : Option Addr) (c d : Nat) (w : World) (lP : P.length = n) (lQ : Q.length = n) (hP : Reads w w.heap.size 2 A n (rcells P)) (hQ : Reads w w.heap.size 2 B n (rcells Q)) (hn : n ≤ 1048576) :
    Calls Try.prog 45 #[.slice A n c, .slice B n d] w fun e w' => e = .returned (.bool (eqL P Q)) ∧ Below w.heap.size w w' := by
  have HP := Lib.hid hP
  have HQ := Lib.hid hQ
  have LP := Lib.hid lP
  have LQ := Lib.hid lQ
  have hnn : ((n : Int) != (n : Int)) = false := by simp
  clear hP hQ lP lQ
  go_enter Try.func45, Try.ntmps45
  go_wp2_with fail
  go_loopw [13] (fun i wr => ∃ (k q : Nat), k ≤ n ∧ i = .int .i64 k ∧ wr = w.drewN q ∧ Hid (P.take k = Q.take k)) (fun i _ => n - (intOf i).toNat)
  case atStart => exact ⟨0, 0, Nat.zero_le _, rfl, rfl, Lib.hid rfl⟩
  case round =>
    obtain ⟨k, q, hk, rfl, rfl, HE⟩ := hrel
    by_cases hlt : k < n
    · have kP : k < P.length := by rw [LP.out]; exact hlt
      have kQ : k < Q.length := by rw [LQ.out]; exact hlt
      obtain ⟨b, o, rfl, _, p0, p1⟩ := HP.out.rg kP
      obtain ⟨b', o', rfl, _, q0, q1⟩ := HQ.out.rg kQ
      have HtP : Hid (P.take (k + 1) = P.take k ++ [P[k]]) := Lib.hid (List.take_succ_eq_append_getElem kP)
      have HtQ : Hid (Q.take (k + 1) = Q.take k ++ [Q[k]]) := Lib.hid (List.take_succ_eq_append_getElem kQ)
      have HK : Hid (P = Q → P[k] = Q[k]) := Lib.hid (fun h => by subst h; rfl)
      have HN : Hid (P[k] = Q[k] → P.take (k + 1) = Q.take (k + 1)) := Lib.hid (fun h => by rw [HtP.out, HtQ.out, HE.out, h])
      generalize P[k] = x at *
      generalize Q[k] = y at *
      obtain ⟨x0, x1⟩ := x
      obtain ⟨y0, y1⟩ := y
      simp only [] at p0 p1 q0 q1
      clear HtP HtQ kP kQ
      have g41 := guard41
      by_cases hxy : x0 = y0 ∧ x1 = y1
      · obtain ⟨rfl, rfl⟩ := hxy
        have hne := neq41_same x0 x1
        have HE' := Lib.hid (HN.out rfl)
        clear HN HK HE
        go_wp2_with fail
        go_quiet (fail)
        go_wp2_with fail
        go_roundw
        case rel => exact ⟨k + 1, _, by omega, by go_num, rfl, HE'⟩
        case measure => simp [intOf]; omega
      · have hne := neq41_diff x0 x1 y0 y1 hxy
        have HD : Hid (eqL P Q = false) := Lib.hid (eqL_diff (fun h => hxy (by have := HK.out h; injection this with a b; exact ⟨a, b⟩)))
        clear HN HK HE hxy
        go_wp2_with fail
        go_quiet (fail)
        go_wp2_with fail
        go_ret
        exact ⟨ret_bool HD.out.symm, below_drewN (below_drewN (Below.refl _ _) _) _⟩
    · have HD : Hid (eqL P Q = true) := Lib.hid (decide_eq_true (by
        have h := HE.out
        rw [List.take_of_length_le (by rw [LP.out]; omega), List.take_of_length_le (by rw [LQ.out]; omega)] at h
        exact h))
      go_wp2_with fail
      go_ret
      exact ⟨ret_bool HD.out.symm, below_drewN (Below.refl _ _) _⟩

theorem equal_other (n m : Nat) (A B : Option Addr) (c d : Nat) (w : World) (h : n ≠ m) :
    Calls Try.prog 45 #[.slice A n c, .slice B m d] w fun e w' => e = .returned (.bool false) ∧ Below w.heap.size w w' := by
  have h' : ((n : Int) != (m : Int)) = true := by rw [bne_iff_ne]; omega
  clear h
  go_enter Try.func45, Try.ntmps45
  go_wp2_with fail
  go_ret
  exact ⟨rfl, Below.refl _ _⟩

theorem same_n (P Q : List Rg) (n m : Nat) (lP : P.length = n) (lQ : Q.length = m) (A B : Option Addr) (c d : Nat) (w : World) (hP : Reads w w.heap.size 2 A n (rcells P)) (hQ : Reads w w.heap.size 2 B m (rcells Q)) (hn : n ≤ 1048576) :
    Calls Try.prog 24 #[.slice A n c, .slice B m d] w fun e w' => e = .returned (.bool (eqL P Q)) ∧ Below w.heap.size w w' := by
  have H : Hid (Calls Try.prog 45 #[.slice A n c, .slice B m d] w fun e w' => e = .returned (.bool (eqL P Q)) ∧ Below w.heap.size w w') := Lib.hid (by
    by_cases h : n = m
    · subst h; exact equal_same n P Q A B c d w lP lQ hP hQ hn
    · rw [eqL_diff (fun e => h (by rw [← lP, ← lQ, e]))]; exact equal_other n m A B c d w h)
  clear hP hQ
  go_enter Try.func24, Try.ntmps24
  go_wp2_with fail
  refine H.out.mono ?_
  rintro e w1 ⟨rfl, b1⟩
  go_wp2_with fail
  go_ret
  exact ⟨rfl, b1⟩

set_option maxHeartbeats 1000000 in
theorem keep_same (n : Nat) (P Q : List Rg) (A B : Option Addr) (c d : Nat) (w : World) (lP : P.length = n) (lQ : Q.length = n) (hP : Reads w w.heap.size 2 A n (rcells P)) (hQ : Reads w w.heap.size 2 B n (rcells Q)) (hn : n ≤ 1048576) :
    Calls Try.prog 25 #[.slice A n c, .slice B n d] w fun e w' => e = .returned (.bool (eqL P Q)) ∧ Below w.heap.size w w' := by
  have HP := Lib.hid hP
  have HQ := Lib.hid hQ
  have LP := Lib.hid lP
  have LQ := Lib.hid lQ
  have hnn : ((n : Int) != (n : Int)) = false := by simp
  clear hP hQ lP lQ
  go_enter Try.func25, Try.ntmps25
  go_wp2_with fail
  go_loopw [5] (fun i wr => ∃ (k q : Nat), k ≤ n ∧ i = .int .i64 k ∧ wr = w.drewN q ∧ Hid (P.take k = Q.take k)) (fun i _ => n - (intOf i).toNat)
  case atStart => exact ⟨0, 0, Nat.zero_le _, rfl, rfl, Lib.hid rfl⟩
  case round =>
    obtain ⟨k, q, hk, rfl, rfl, HE⟩ := hrel
    by_cases hlt : k < n
    · have kP : k < P.length := by rw [LP.out]; exact hlt
      have kQ : k < Q.length := by rw [LQ.out]; exact hlt
      obtain ⟨b, o, rfl, _, p0, p1⟩ := HP.out.rg kP
      obtain ⟨b', o', rfl, _, q0, q1⟩ := HQ.out.rg kQ
      have HtP : Hid (P.take (k + 1) = P.take k ++ [P[k]]) := Lib.hid (List.take_succ_eq_append_getElem kP)
      have HtQ : Hid (Q.take (k + 1) = Q.take k ++ [Q[k]]) := Lib.hid (List.take_succ_eq_append_getElem kQ)
      have HK : Hid (P = Q → P[k] = Q[k]) := Lib.hid (fun h => by subst h; rfl)
      have HN : Hid (P[k] = Q[k] → P.take (k + 1) = Q.take (k + 1)) := Lib.hid (fun h => by rw [HtP.out, HtQ.out, HE.out, h])
      generalize P[k] = x at *
      generalize Q[k] = y at *
      obtain ⟨x0, x1⟩ := x
      obtain ⟨y0, y1⟩ := y
      simp only [] at p0 p1 q0 q1
      clear HtP HtQ kP kQ
      have g41 := guard41
      by_cases hxy : x0 = y0 ∧ x1 = y1
      · obtain ⟨rfl, rfl⟩ := hxy
        have hne := neq41_same x0 x1
        have HE' := Lib.hid (HN.out rfl)
        clear HN HK HE
        go_wp2_with fail
        go_quiet (fail)
        go_wp2_with fail
        go_roundw
        case rel => exact ⟨k + 1, _, by omega, by go_num, rfl, HE'⟩
        case measure => simp [intOf]; omega
      · have hne := neq41_diff x0 x1 y0 y1 hxy
        have HD : Hid (eqL P Q = false) := Lib.hid (eqL_diff (fun h => hxy (by have := HK.out h; injection this with a b; exact ⟨a, b⟩)))
        clear HN HK HE hxy
        go_wp2_with fail
        go_quiet (fail)
        go_wp2_with fail
        go_ret
        exact ⟨ret_bool HD.out.symm, below_drewN (below_drewN (Below.refl _ _) _) _⟩
    · have HD : Hid (eqL P Q = true) := Lib.hid (decide_eq_true (by
        have h := HE.out
        rw [List.take_of_length_le (by rw [LP.out]; omega), List.take_of_length_le (by rw [LQ.out]; omega)] at h
        exact h))
      go_wp2_with fail
      go_ret
      exact ⟨ret_bool HD.out.symm, below_drewN (Below.refl _ _) _⟩

theorem keep_other (n m : Nat) (A B : Option Addr) (c d : Nat) (w : World) (h : n ≠ m) :
    Calls Try.prog 25 #[.slice A n c, .slice B m d] w fun e w' => e = .returned (.bool false) ∧ Below w.heap.size w w' := by
  have h' : ((n : Int) != (m : Int)) = true := by rw [bne_iff_ne]; omega
  clear h
  go_enter Try.func25, Try.ntmps25
  go_wp2_with fail
  go_ret
  exact ⟨rfl, Below.refl _ _⟩

theorem keep_n (P Q : List Rg) (n m : Nat) (lP : P.length = n) (lQ : Q.length = m) (A B : Option Addr) (c d : Nat) (w : World) (hP : Reads w w.heap.size 2 A n (rcells P)) (hQ : Reads w w.heap.size 2 B m (rcells Q)) (hn : n ≤ 1048576) :
    Calls Try.prog 25 #[.slice A n c, .slice B m d] w fun e w' => e = .returned (.bool (eqL P Q)) ∧ Below w.heap.size w w' := by
  by_cases h : n = m
  · subst h; exact keep_same n P Q A B c d w lP lQ hP hQ hn
  · rw [eqL_diff (fun e => h (by rw [← lP, ← lQ, e]))]; exact keep_other n m A B c d w h

theorem lessL_drop : ∀ (k : Nat) (P Q : List Rg), P.take k = Q.take k → k ≤ P.length → k ≤ Q.length → lessL P Q = lessL (P.drop k) (Q.drop k)
  | 0, P, Q, _, _, _ => rfl
  | k + 1, [], Q, _, h, _ => by simp at h
  | k + 1, x :: P, [], _, _, h => by simp at h
  | k + 1, x :: P, y :: Q, h, h1, h2 => by
    simp only [List.take_succ_cons, List.cons.injEq] at h
    obtain ⟨rfl, h⟩ := h
    simp only [List.drop_succ_cons]
    rw [← lessL_drop k P Q h (by simpa using h1) (by simpa using h2)]
    conv => lhs; unfold lessL
    rw [if_pos rfl]
theorem lessL_at {P Q : List Rg} {k : Nat} (h : P.take k = Q.take k) (h1 : k < P.length) (h2 : k < Q.length) (hne : ¬ P[k] = Q[k]) : lessL P Q = ltR P[k] Q[k] := by
  rw [lessL_drop k P Q h (by omega) (by omega), List.drop_eq_getElem_cons h1, List.drop_eq_getElem_cons h2]
  conv => lhs; unfold lessL
  rw [if_neg hne]
theorem lessL_end {P Q : List Rg} {k : Nat} (h : P.take k = Q.take k) (h1 : k ≤ P.length) (h2 : k ≤ Q.length) (he : k = P.length ∨ k = Q.length) : lessL P Q = decide (P.length < Q.length) := by
  rw [lessL_drop k P Q h h1 h2]
  rcases Nat.lt_trichotomy P.length Q.length with hl | hl | hl
  · rw [List.drop_eq_nil_of_le (show P.length ≤ k by omega), List.drop_eq_getElem_cons (show k < Q.length by omega), decide_eq_true hl]; rfl
  · rw [List.drop_eq_nil_of_le (show P.length ≤ k by omega), List.drop_eq_nil_of_le (show Q.length ≤ k by omega), decide_eq_false (by omega)]; rfl
  · rw [List.drop_eq_nil_of_le (show Q.length ≤ k by omega), List.drop_eq_getElem_cons (show k < P.length by omega), decide_eq_false (by omega)]; rfl

set_option maxHeartbeats 1000000 in
theorem less_n (P Q : List Rg) (n m : Nat) (lP : P.length = n) (lQ : Q.length = m) (A B : Option Addr) (c d : Nat) (w : World) (hP : Reads w w.heap.size 2 A n (rcells P)) (hQ : Reads w w.heap.size 2 B m (rcells Q)) (hn : n ≤ 1048576) (hm : m ≤ 1048576) :
    Calls Try.prog 26 #[.slice A n c, .slice B m d] w fun e w' => e = .returned (.bool (lessL P Q)) ∧ Below w.heap.size w w' := by
  have HP := Lib.hid hP
  have HQ := Lib.hid hQ
  have LP := Lib.hid lP
  have LQ := Lib.hid lQ
  obtain ⟨z, hz⟩ : ∃ z : Nat, z = min n m := ⟨_, rfl⟩
  have hzi : min (n : Int) (m : Int) = (z : Int) := by omega
  have hz1 : z ≤ n := by omega
  have hz2 : z ≤ m := by omega
  have hz3 : z = n ∨ z = m := by omega
  have HZ3 := Lib.hid hz3
  clear hP hQ lP lQ hz hz3
  go_enter Try.func26, Try.ntmps26
  go_wp2_with fail
  go_loopw [11] (fun i wr => ∃ (k q : Nat), k ≤ z ∧ i = .int .i64 k ∧ wr = w.drewN q ∧ Hid (P.take k = Q.take k)) (fun i _ => z - (intOf i).toNat)
  case atStart => exact ⟨0, 0, Nat.zero_le _, rfl, rfl, Lib.hid rfl⟩
  case round =>
    obtain ⟨k, q, hk, rfl, rfl, HE⟩ := hrel
    by_cases hlt : k < z
    · have kP : k < P.length := by rw [LP.out]; omega
      have kQ : k < Q.length := by rw [LQ.out]; omega
      obtain ⟨b, o, rfl, hbb, p0, p1⟩ := HP.out.rg kP
      obtain ⟨b', o', rfl, hbb', q0, q1⟩ := HQ.out.rg kQ
      have HtP : Hid (P.take (k + 1) = P.take k ++ [P[k]]) := Lib.hid (List.take_succ_eq_append_getElem kP)
      have HtQ : Hid (Q.take (k + 1) = Q.take k ++ [Q[k]]) := Lib.hid (List.take_succ_eq_append_getElem kQ)
      have HK : Hid (¬ P[k] = Q[k] → lessL P Q = ltR P[k] Q[k]) := Lib.hid (fun h => lessL_at HE.out kP kQ h)
      have HN : Hid (P[k] = Q[k] → P.take (k + 1) = Q.take (k + 1)) := Lib.hid (fun h => by rw [HtP.out, HtQ.out, HE.out, h])
      generalize P[k] = x at *
      generalize Q[k] = y at *
      obtain ⟨x0, x1⟩ := x
      obtain ⟨y0, y1⟩ := y
      simp only [] at p0 p1 q0 q1
      clear HtP HtQ kP kQ
      have g41 := guard41
      by_cases hxy : x0 = y0 ∧ x1 = y1
      · obtain ⟨rfl, rfl⟩ := hxy
        have hne := neq41_same x0 x1
        have HE' := Lib.hid (HN.out rfl)
        clear HN HK HE
        go_wp2_with fail
        go_quiet (fail)
        go_wp2_with fail
        go_roundw
        case rel => exact ⟨k + 1, _, by omega, by go_num, rfl, HE'⟩
        case measure => simp [intOf]; omega
      · have hne := neq41_diff x0 x1 y0 y1 hxy
        have HD : Hid (lessL P Q = decide (cmpR (x0, x1) (y0, y1) < 0)) := Lib.hid (by
          rw [HK.out (fun h => hxy (by injection h with a b; exact ⟨a, b⟩)), cmpR_lt])
        have hcc := fun W => lay_of (compare_any x0 x1 y0 y1 W)
        generalize cmpR (x0, x1) (y0, y1) = r at *
        clear HN HK HE hxy
        go_wp2_with fail
        go_quiet (fail)
        go_wp2_with fail
        have e0 : ((w.drewN q).drewN nq).cell? ⟨b, o + k * 2, none⟩ = some (.int .i64 x0) := p0
        have e1 : ((w.drewN q).drewN nq).cell? ⟨b, o + k * 2 + 1, none⟩ = some (.int .i64 x1) := p1
        have e2 : ((w.drewN q).drewN nq).cell? ⟨b', o' + k * 2, none⟩ = some (.int .i64 y0) := q0
        have e3 : ((w.drewN q).drewN nq).cell? ⟨b', o' + k * 2 + 1, none⟩ = some (.int .i64 y1) := q1
        have hb2 : Below w.heap.size w ((w.drewN q).drewN nq) := below_drewN (below_drewN (Below.refl _ _) _) _
        generalize (w.drewN q).drewN nq = w2 at *
        have d0 := fun n os => cell_grown (World.block_lt_of_cell? _ _ e0) e0 n os
        have d1 := fun n os => cell_grown (World.block_lt_of_cell? _ _ e1) e1 n os
        have d2 := fun n os => cell_grown (World.block_lt_of_cell? _ _ e2) e2 n os
        have d3 := fun n os => cell_grown (World.block_lt_of_cell? _ _ e3) e3 n os
        refine wp_region_quiet_grown mixedTry (by kernel_rfl) ?_
        repeat (go_big_quiet_step (first | (go_at_call 46; refine Calls.grown_of (hcc _))))
        refine wpQuiet_nil ?_
        intro _ hw'
        obtain ⟨⟨nq2, osq2⟩, hw''⟩ := hw'
        subst hw''
        have hb9 := hb2.trans ((below_grown_of w2 nq2 osq2).1.mono hb2.size)
        go_wp2_with fail
        go_ret
        exact ⟨ret_bool HD.out.symm, hb9⟩
    · have HD : Hid (lessL P Q = decide (n < m)) := Lib.hid (by
        have h := lessL_end HE.out (by rw [LP.out]; omega) (by rw [LQ.out]; omega) (by rw [LP.out, LQ.out]; have := HZ3.out; omega)
        rw [h, LP.out, LQ.out])
      go_wp2_with fail
      go_ret
      exact ⟨ret_bool HD.out.symm, below_drewN (Below.refl _ _) _⟩

set_option maxHeartbeats 1000000 in
theorem size_n (l : List Rg) (n : Nat) (hl : l.length = n) (A : Option Addr) (c : Nat) (w : World) (hR : Reads w w.heap.size 2 A n (rcells l)) (hn : n ≤ 1000000) :
    Calls Try.prog 22 #[.slice A n c] w fun e w' => e = .returned (.int .i64 (if goodB l then sizeL l else 0)) ∧ Below w.heap.size w w' := by
  have HR := Lib.hid hR
  have HL := Lib.hid hl
  have H2 := Lib.hid (fun W hR => good_n n l hl A c W hR hn)
  clear hR hl
  cases hg : goodB l
  · rw [hg] at H2
    rw [if_neg (by decide)]
    clear hg
    go_enter Try.func22, Try.ntmps22
    go_wp2_with fail
    refine (H2.out _ HR.out).mono ?_
    rintro e w1 ⟨rfl, b1⟩
    go_wp2_with fail
    go_ret
    exact ⟨rfl, b1⟩
  · rw [hg] at H2
    rw [if_pos rfl]
    clear hg
    go_enter Try.func22, Try.ntmps22
    go_wp2_with fail
    refine (H2.out _ HR.out).mono ?_
    rintro e w1 ⟨rfl, b1⟩
    have HR1 := Lib.hid ((HR.out.below b1).more b1.size)
    clear HR H2
    go_wp2_with fail
    go_loopw [3, 11] (fun s i wr => ∃ (k : Nat) (x : Int), k ≤ n ∧ i = .int .i64 k ∧ s = .int .i64 x ∧ Hid (x = sizeL (l.take k)) ∧ 0 ≤ x ∧ x ≤ 1112064 * k ∧ Below w1.heap.size w1 wr) (fun _ i _ => n - (intOf i).toNat)
    case atStart => exact ⟨0, 0, Nat.zero_le _, rfl, rfl, Lib.hid rfl, by omega, by omega, Below.refl _ _⟩
    case round =>
      obtain ⟨k, x, hk, rfl, rfl, HX, hx0, hx1, hb⟩ := hrel
      have hsz := hb.size
      by_cases hlt : k < n
      · have kl : k < l.length := by rw [HL.out]; exact hlt
        obtain ⟨b, o, rfl, hbb, p0, p1⟩ := (HR1.out.below hb).rg kl
        have HN : Hid (x + countN l[k].1 l[k].2 = sizeL (l.take (k + 1))) := Lib.hid (by rw [List.take_succ_eq_append_getElem kl, sizeL_snoc, ← HX.out])
        have hbd := countN_bd l[k].1 l[k].2
        have hcc := fun W => count_any l[k].1 l[k].2 W
        generalize l[k] = r at *
        obtain ⟨x0, x1⟩ := r
        simp only [] at p0 p1 hbd hcc HN
        generalize countN x0 x1 = cn at *
        clear HX
        go_wp2_with fail
        refine (hcc _).mono ?_
        rintro e w2 ⟨rfl, rfl⟩
        have b2 := hb.alloc hsz (.cells #[.int .i64 x0, .int .i64 x1] 41)
        go_wp2_with fail
        go_roundw
        case rel => exact ⟨k + 1, x + cn, by omega, by go_num, by go_num, HN, by omega, by omega, b2⟩
        case measure => simp [intOf]; omega
      · have HD : Hid (x = sizeL l) := Lib.hid (by
          have h := HX.out
          rwa [List.take_of_length_le (by rw [HL.out]; omega)] at h)
        go_wp2_with fail
        go_ret
        exact ⟨ret_int HD.out, b1.trans (hb.mono b1.size)⟩
end Go.Proofs.Ytehikcddnjibcaa
