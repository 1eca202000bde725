/- What the document's Has, Size and Less return. -/
import Derived.Test.YtehikcddnjibcaaRefGood
import Derived.Test.YtehikcddnjibcaaSame
namespace Go.Proofs.Ytehikcddnjibcaa
open Go.RowKit Go.BigFrame
set_option linter.unusedVariables false
set_option linter.unusedSimpArgs false

set_option maxHeartbeats 1000000 in
theorem refHas_n (l : List Rg) (n : Nat) (hl : l.length = n) (A : Option Addr) (c : Nat) (v : Int) (w : World) (hR : Reads w w.heap.size 2 A n (rcells l)) (hn : n ≤ 1000000) :
    Calls Try.prog 21 #[.slice A n c, .int .i64 v] w fun e w' => e = .returned (.bool (hasB l v)) ∧ Below w.heap.size w w' := by
  have HR := Lib.hid hR
  have HL := Lib.hid hl
  have HGd := Lib.hid (fun W h => refGood_n n l hl A c W h hn)
  clear hR hl
  go_enter Try.func21, Try.ntmps21
  go_wp2_with fail
  go_loopw [5] (fun i wr => ∃ (k : Nat), k ≤ n ∧ i = .int .i64 k ∧ wr = w ∧ Hid (inB (l.take k) v = false)) (fun i _ => n - (intOf i).toNat)
  case atStart => exact ⟨0, Nat.zero_le _, rfl, rfl, Lib.hid (by simp [inB])⟩
  case round =>
    obtain ⟨k, hk, rfl, rfl, HG⟩ := hrel
    by_cases hlt : k < n
    · have kl : k < l.length := by rw [HL.out]; exact hlt
      obtain ⟨b, o, rfl, hbb, p0, p1⟩ := HR.out.rg kl
      have HT : Hid ((decide (l[k].1 ≤ v) && decide (v ≤ l[k].2)) = true → inB l v = true) := Lib.hid (fun h => inB_at l k kl v h)
      have HF : Hid ((decide (l[k].1 ≤ v) && decide (v ≤ l[k].2)) = false → inB (l.take (k + 1)) v = false) := Lib.hid (fun h => by rw [inB_take l k kl, HG.out, h]; rfl)
      generalize l[k] = x at *
      obtain ⟨x0, x1⟩ := x
      simp only [] at p0 p1
      by_cases c1 : x0 ≤ v
      · by_cases c2 : v ≤ x1
        · have HX := Lib.hid (HT.out (by rw [decide_eq_true c1, decide_eq_true c2]; rfl))
          have HB : Hid (hasB l v = (isB v && goodB l)) := Lib.hid (by unfold hasB; rw [HX.out, Bool.and_true])
          clear HT HF HG HX
          have h1 := fun W => refIs_any v W
          cases hi : isB v
          · rw [hi] at h1
            go_wp2_with fail
            refine (h1 _).mono ?_
            rintro e w1 ⟨rfl, rfl⟩
            go_wp2_with fail
            go_ret
            exact ⟨ret_bool (by rw [HB.out, hi]; rfl), Below.refl _ _⟩
          · rw [hi] at h1
            go_wp2_with fail
            refine (h1 _).mono ?_
            rintro e w1 ⟨rfl, rfl⟩
            go_wp2_with fail
            refine (HGd.out _ HR.out).mono ?_
            rintro e w2 ⟨rfl, b2⟩
            go_wp2_with fail
            go_ret
            exact ⟨ret_bool (by rw [HB.out, hi]; simp), b2⟩
        · have HX := Lib.hid (HF.out (by rw [decide_eq_false c2]; simp))
          clear HT HF HG
          go_wp2_with fail
          go_roundw
          case rel => exact ⟨k + 1, by omega, by go_num, (by first | rfl | trivial), HX⟩
          case measure => simp [intOf]; omega
      · have HX := Lib.hid (HF.out (by rw [decide_eq_false c1]; simp))
        clear HT HF HG
        go_wp2_with fail
        go_roundw
        case rel => exact ⟨k + 1, by omega, by go_num, (by first | rfl | trivial), HX⟩
        case measure => simp [intOf]; omega
    · have HX : Hid (hasB l v = false) := Lib.hid (by
        have h := HG.out
        rw [List.take_of_length_le (by rw [HL.out]; omega)] at h
        unfold hasB
        rw [h]; simp)
      go_wp2_with fail
      go_ret
      exact ⟨ret_bool HX.out.symm, Below.refl _ _⟩

theorem refCount_q (lo hi : Int) (W : World) : Calls Try.prog 44 #[.int .i64 lo, .int .i64 hi] W fun e w' => e = .returned (.int .i64 (countN lo hi)) ∧ w' = W :=
  (refCount_any lo hi W).mono fun _ _ ⟨he, hw⟩ => ⟨he, hw.symm⟩

set_option maxHeartbeats 1000000 in
theorem refSize_n (l : List Rg) (n : Nat) (hl : l.length = n) (A : Option Addr) (c : Nat) (w : World) (hR : Reads w w.heap.size 2 A n (rcells l)) (hn : n ≤ 1000000) :
    Calls Try.prog 23 #[.slice A n c] w fun e w' => e = .returned (.int .i64 (if goodB l then sizeL l else 0)) ∧ Below w.heap.size w w' := by
  have HR := Lib.hid hR
  have HL := Lib.hid hl
  have HGd := Lib.hid (fun W h => refGood_n n l hl A c W h hn)
  clear hR hl
  cases hg : goodB l
  · rw [hg] at HGd
    rw [if_neg (by decide)]
    clear hg
    go_enter Try.func23, Try.ntmps23
    go_wp2_with fail
    refine wp_loop_rounds 1 ?_
    rw [rounds_succ]
    by_cases h0 : n = 0
    · subst h0
      go_wp2_with fail
      go_ret
      exact ⟨rfl, Below.refl _ _⟩
    · have hp : 0 < n := by omega
      go_wp2_with fail
      refine (HGd.out _ HR.out).mono ?_
      rintro e w1 ⟨rfl, b1⟩
      go_wp2_with fail
      go_ret
      exact ⟨rfl, b1⟩
  · rw [hg] at HGd
    rw [if_pos rfl]
    clear hg
    go_enter Try.func23, Try.ntmps23
    go_wp2_with fail
    go_loopw [3, 4] (fun s i wr => ∃ (k : Nat) (x : Int), k ≤ n ∧ i = .int .i64 k ∧ s = .int .i64 x ∧ Hid (x = sizeL (l.take k)) ∧ 0 ≤ x ∧ x ≤ 1112064 * k ∧ Below w.heap.size w wr) (fun _ i _ => n - (intOf i).toNat)
    case atStart => exact ⟨0, 0, Nat.zero_le _, rfl, rfl, Lib.hid rfl, by omega, by omega, Below.refl _ _⟩
    case round =>
      obtain ⟨k, x, hk, rfl, rfl, HX, hx0, hx1, hb⟩ := hrel
      have hsz := hb.size
      by_cases hlt : k < n
      · have kl : k < l.length := by rw [HL.out]; exact hlt
        have HRr := Lib.hid ((HR.out.below hb).more hsz)
        have HN : Hid (x + countN l[k].1 l[k].2 = sizeL (l.take (k + 1))) := Lib.hid (by rw [List.take_succ_eq_append_getElem kl, sizeL_snoc, ← HX.out])
        have hbd := countN_bd l[k].1 l[k].2
        clear HX
        go_wp2_with fail
        refine (HGd.out _ HRr.out).mono ?_
        rintro e w1 ⟨rfl, g1⟩
        have b1 := hb.trans (g1.mono hsz)
        obtain ⟨b, o, rfl, hbb, p0, p1⟩ := (HR.out.below b1).rg kl
        generalize l[k] = r at *
        obtain ⟨x0, x1⟩ := r
        simp only [] at p0 p1 hbd HN
        have hcq := fun W => refCount_q x0 x1 W
        generalize countN x0 x1 = cn at *
        have fw : IntKind.i64.wrap (x + cn) = x + cn := IntWalk.i64_in _ (by omega)
        clear hb g1 HRr
        go_wp2_with fail
        go_big_quiet (first | (go_at_call 44; refine Calls.quiet_of_same (hcq _)))
        go_wp2_with fail
        go_roundw
        case rel => exact ⟨k + 1, x + cn, by omega, by go_num, by go_num, HN, by omega, by omega, below_drewN b1 _⟩
        case measure => simp [intOf]; omega
      · have HD : Hid (x = sizeL l) := Lib.hid (by
          have h := HX.out
          rwa [List.take_of_length_le (by rw [HL.out]; omega)] at h)
        go_wp2_with fail
        go_ret
        exact ⟨ret_int HD.out, hb⟩

set_option maxHeartbeats 2000000 in
theorem refLess_n (P Q : List Rg) (n m : Nat) (lP : P.length = n) (lQ : Q.length = m) (A B : Option Addr) (c d : Nat) (w : World) (hP : Reads w w.heap.size 2 A n (rcells P)) (hQ : Reads w w.heap.size 2 B m (rcells Q)) (hn : n ≤ 1048576) (hm : m ≤ 1048576) :
    Calls Try.prog 27 #[.slice A n c, .slice B m d] w fun e w' => e = .returned (.bool (lessL P Q)) ∧ Below w.heap.size w w' := by
  have HP := Lib.hid hP
  have HQ := Lib.hid hQ
  have LP := Lib.hid lP
  have LQ := Lib.hid lQ
  clear hP hQ lP lQ
  go_enter Try.func27, Try.ntmps27
  go_wp2_with fail
  go_loopw [5] (fun i wr => ∃ (k q : Nat), k ≤ n ∧ k ≤ m ∧ i = .int .i64 k ∧ wr = w.drewN q ∧ Hid (P.take k = Q.take k)) (fun i _ => n - (intOf i).toNat)
  case atStart => exact ⟨0, 0, Nat.zero_le _, Nat.zero_le _, rfl, rfl, Lib.hid rfl⟩
  case round =>
    obtain ⟨k, q, hk, hk2, rfl, rfl, HE⟩ := hrel
    by_cases hlt : k < n
    · by_cases hlt2 : k < m
      · have kP : k < P.length := by rw [LP.out]; omega
        have kQ : k < Q.length := by rw [LQ.out]; omega
        obtain ⟨b, o, rfl, hbb, p0, p1⟩ := HP.out.rg kP
        obtain ⟨b', o', rfl, hbb', q0, q1⟩ := HQ.out.rg kQ
        have HtP : Hid (P.take (k + 1) = P.take k ++ [P[k]]) := Lib.hid (List.take_succ_eq_append_getElem kP)
        have HtQ : Hid (Q.take (k + 1) = Q.take k ++ [Q[k]]) := Lib.hid (List.take_succ_eq_append_getElem kQ)
        have HK : Hid (¬ P[k] = Q[k] → lessL P Q = ltR P[k] Q[k]) := Lib.hid (fun h => lessL_at HE.out kP kQ h)
        have HN : Hid (P[k] = Q[k] → P.take (k + 1) = Q.take (k + 1)) := Lib.hid (fun h => by rw [HtP.out, HtQ.out, HE.out, h])
        generalize P[k] = x at *
        generalize Q[k] = y at *
        obtain ⟨x0, x1⟩ := x
        obtain ⟨y0, y1⟩ := y
        simp only [] at p0 p1 q0 q1
        clear HtP HtQ kP kQ
        have g41 := guard41
        by_cases hxy : x0 = y0 ∧ x1 = y1
        · obtain ⟨rfl, rfl⟩ := hxy
          have hne := neq41_same x0 x1
          have HE' := Lib.hid (HN.out rfl)
          clear HN HK HE
          go_wp2_with fail
          go_quiet (fail)
          go_wp2_with fail
          go_roundw
          case rel => exact ⟨k + 1, _, by omega, by omega, by go_num, rfl, HE'⟩
          case measure => simp [intOf]; omega
        · have hne := neq41_diff x0 x1 y0 y1 hxy
          have HD : Hid (lessL P Q = ltR (x0, x1) (y0, y1)) := Lib.hid (HK.out (fun h => hxy (by injection h with a b; exact ⟨a, b⟩)))
          clear HN HK HE
          by_cases h0 : x0 < y0
          · have HV : Hid (lessL P Q = true) := Lib.hid (by rw [HD.out]; unfold ltR; rw [decide_eq_true h0]; rfl)
            have h0' : decide (x0 < y0) = true := decide_eq_true h0
            clear HD hxy
            go_wp2_with fail
            go_quiet (fail)
            go_wp2_with fail
            go_big_quiet (fail)
            go_wp2_with fail
            go_ret
            exact ⟨ret_bool HV.out.symm, below_drewN (below_drewN (below_drewN (Below.refl _ _) _) _) _⟩
          · have h0' : decide (x0 < y0) = false := decide_eq_false h0
            by_cases h1 : x0 = y0
            · subst h1
              have e1 : (x0 == x0) = true := beq_self_eq_true _
              have HV : Hid (lessL P Q = decide (x1 < y1)) := Lib.hid (by rw [HD.out]; unfold ltR; rw [decide_eq_false h0]; simp)
              clear HD hxy
              go_wp2_with fail
              go_quiet (fail)
              go_wp2_with fail
              go_big_quiet (fail)
              go_wp2_with fail
              go_ret
              exact ⟨ret_bool HV.out.symm, below_drewN (below_drewN (below_drewN (Below.refl _ _) _) _) _⟩
            · have e1 : (x0 == y0) = false := beq_eq_false_iff_ne.2 h1
              have HV : Hid (lessL P Q = false) := Lib.hid (by rw [HD.out]; unfold ltR; rw [decide_eq_false h0, show ((x0, x1).1 == (y0, y1).1) = false from e1]; rfl)
              clear HD hxy
              go_wp2_with fail
              go_quiet (fail)
              go_wp2_with fail
              go_big_quiet (fail)
              go_wp2_with fail
              go_ret
              exact ⟨ret_bool HV.out.symm, below_drewN (below_drewN (below_drewN (Below.refl _ _) _) _) _⟩
      · have HD : Hid (lessL P Q = decide (n < m)) := Lib.hid (by
          have h := lessL_end HE.out (by rw [LP.out]; omega) (by rw [LQ.out]; omega) (by rw [LP.out, LQ.out]; omega)
          rw [h, LP.out, LQ.out])
        go_wp2_with fail
        go_ret
        exact ⟨ret_bool HD.out.symm, below_drewN (Below.refl _ _) _⟩
    · have HD : Hid (lessL P Q = decide (n < m)) := Lib.hid (by
        have h := lessL_end HE.out (by rw [LP.out]; omega) (by rw [LQ.out]; omega) (by rw [LP.out, LQ.out]; omega)
        rw [h, LP.out, LQ.out])
      go_wp2_with fail
      go_ret
      exact ⟨ret_bool HD.out.symm, below_drewN (Below.refl _ _) _⟩
end Go.Proofs.Ytehikcddnjibcaa
