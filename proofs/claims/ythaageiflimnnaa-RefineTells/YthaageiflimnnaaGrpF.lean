/- Keep2, Keep3, Law4, Wakes, Frame, Frame4: joined. -/
import Derived.Test.YthaageiflimnnaaGrpE
import Derived.Deep.RegionHeld3
import Derived.Test.YthaageiflimnnaaRows
import Derived.Test.YthaageiflimnnaaGrpB
import Derived.ProofKit
import Derived.OpenShut
import Derived.Deep.Slices
import Derived.Deep.DeepHandedRow
import Derived.ChangeOld
import Derived.Below
/- What the statements' own comparisons return: of bands, of lists of integers, of lists of sets, of lists of lists. -/
namespace Go.Proofs.Ythaageiflimnnaa
open Go.RowKit Go.BigFrame
set_option linter.unusedVariables false
set_option linter.unusedSimpArgs false

theorem guard40 : Try.prog.eqGuardType Try.prog.depth 40 = false := by kernel_rfl
theorem held40 : Try.prog.stoodInHeld 40 = false := by kernel_rfl
theorem fields40 : Try.prog.underlying 40 = some (.struct (Try.prog.fieldsOf 40)) := by kernel_rfl
theorem neq40_same (x0 x1 : Int) (W : World) : (binOp .neq 40 (.agg #[.int .i64 x0, .int .i64 x1]) (.agg #[.int .i64 x0, .int .i64 x1])).run Try.prog W = .ok (.bool false) W := by
  rw [run_neq_struct, run_equalIn_agg _ _ _ _ _ fields40 held40]
  unfold Program.fieldsOf
  rw [Try.underlying40]
  simp [go_sem, Try.underlying3]
theorem neq40_diff (x0 x1 y0 y1 : Int) (h : ¬ (x0 = y0 ∧ x1 = y1)) (W : World) : (binOp .neq 40 (.agg #[.int .i64 x0, .int .i64 x1]) (.agg #[.int .i64 y0, .int .i64 y1])).run Try.prog W = .ok (.bool true) W := by
  rw [run_neq_struct, run_equalIn_agg _ _ _ _ _ fields40 held40]
  unfold Program.fieldsOf
  rw [Try.underlying40]
  by_cases h0 : x0 = y0 <;> by_cases h1 : x1 = y1 <;> simp [go_sem, Try.underlying3, h0, h1] <;> exact h ⟨h0, h1⟩
noncomputable def eqX {α : Type} (a b : List α) : Bool := @decide (a = b) (Classical.propDecidable _)
theorem eqX_yes {α : Type} {a b : List α} (h : a = b) : eqX a b = true := by unfold eqX; exact @decide_eq_true _ (Classical.propDecidable _) h
theorem eqX_no {α : Type} {a b : List α} (h : ¬ a = b) : eqX a b = false := by unfold eqX; exact @decide_eq_false _ (Classical.propDecidable _) h
theorem NestI.at {w : World} {B n : Nat} {A : Option Addr} {H : List Hi} (h : NestI w B A n H) {k : Nat} (hk : k < H.length) :
    ∃ b o, A = some ⟨b, o, none⟩ ∧ b < B ∧ w.cell? ⟨b, o + k, none⟩ = some (.slice H[k].a H[k].n H[k].c) ∧ H[k].l.length = H[k].n ∧ Reads w B 1 H[k].a H[k].n (icells H[k].l) := by
  have h1 := h.1
  obtain ⟨b, o, rfl, hb, hc⟩ := h.2.1.2 (by omega)
  exact ⟨b, o, rfl, hb, hc k _ (by unfold icellsOf; rw [List.getElem?_map, List.getElem?_eq_getElem hk]; rfl), h.2.2 _ (List.getElem_mem hk)⟩
theorem NestI.more {w : World} {B B' n : Nat} {A : Option Addr} {H : List Hi} (h : NestI w B A n H) (g : B ≤ B') : NestI w B' A n H := ⟨h.1, h.2.1.more g, fun x hx => ⟨(h.2.2 x hx).1, (h.2.2 x hx).2.more g⟩⟩
theorem kcell {B : Nat} {w w' : World} {p : Addr} {v : Value} (g : Below B w w') (hp : p.block < B) (h : w.cell? p = some v) : w'.cell? p = some v := (g.cell hp).trans h

set_option maxHeartbeats 1000000 in
theorem keepBands_same (n : Nat) (P Q : List Rg) (A B : Option Addr) (c d : Nat) (w : World) (lP : P.length = n) (lQ : Q.length = n) (hP : Reads w w.heap.size 2 A n (rcells P)) (hQ : Reads w w.heap.size 2 B n (rcells Q)) (hn : n ≤ 1048576) :
    Calls Try.prog 20 #[.slice A n c, .slice B n d] w fun e w' => e = .returned (.bool (eqX P Q)) ∧ Below w.heap.size w w' := by
  have HP := Lib.hid hP
  have HQ := Lib.hid hQ
  have LP := Lib.hid lP
  have LQ := Lib.hid lQ
  have hnn : ((n : Int) != (n : Int)) = false := by simp
  clear hP hQ lP lQ
  go_enter Try.func20, Try.ntmps20
  go_wp2_with fail
  go_loopw [5] (fun i wr => ∃ (k q : Nat), k ≤ n ∧ i = .int .i64 k ∧ wr = w.drewN q ∧ Hid (P.take k = Q.take k)) (fun i _ => n - (intOf i).toNat)
  case atStart => exact ⟨0, 0, Nat.zero_le _, rfl, rfl, Lib.hid rfl⟩
  case round =>
    obtain ⟨k, q, hk, rfl, rfl, HE⟩ := hrel
    by_cases hlt : k < n
    · have kP : k < P.length := by rw [LP.out]; exact hlt
      have kQ : k < Q.length := by rw [LQ.out]; exact hlt
      obtain ⟨b, o, rfl, _, p0, p1⟩ := HP.out.rg kP
      obtain ⟨b', o', rfl, _, q0, q1⟩ := HQ.out.rg kQ
      have HtP : Hid (P.take (k + 1) = P.take k ++ [P[k]]) := Lib.hid (List.take_succ_eq_append_getElem kP)
      have HtQ : Hid (Q.take (k + 1) = Q.take k ++ [Q[k]]) := Lib.hid (List.take_succ_eq_append_getElem kQ)
      have HK : Hid (P = Q → P[k] = Q[k]) := Lib.hid (fun h => by subst h; rfl)
      have HN : Hid (P[k] = Q[k] → P.take (k + 1) = Q.take (k + 1)) := Lib.hid (fun h => by rw [HtP.out, HtQ.out, HE.out, h])
      generalize P[k] = x at *
      generalize Q[k] = y at *
      obtain ⟨x0, x1⟩ := x
      obtain ⟨y0, y1⟩ := y
      simp only [] at p0 p1 q0 q1
      clear HtP HtQ kP kQ
      have g40 := guard40
      by_cases hxy : x0 = y0 ∧ x1 = y1
      · obtain ⟨rfl, rfl⟩ := hxy
        have hne := neq40_same x0 x1
        have HE' := Lib.hid (HN.out rfl)
        clear HN HK HE
        go_wp2_with fail
        go_quiet (fail)
        go_wp2_with fail
        go_roundw
        case rel => exact ⟨k + 1, _, by omega, by go_num, rfl, HE'⟩
        case measure => simp [intOf]; omega
      · have hne := neq40_diff x0 x1 y0 y1 hxy
        have HD : Hid (eqX P Q = false) := Lib.hid (eqX_no (fun h => hxy (by have := HK.out h; injection this with a b; exact ⟨a, b⟩)))
        clear HN HK HE hxy
        go_wp2_with fail
        go_quiet (fail)
        go_wp2_with fail
        go_ret
        exact ⟨ret_bool HD.out.symm, below_drewN (below_drewN (Below.refl _ _) _) _⟩
    · have HD : Hid (eqX P Q = true) := Lib.hid (eqX_yes (by
        have h := HE.out
        rw [List.take_of_length_le (by rw [LP.out]; omega), List.take_of_length_le (by rw [LQ.out]; omega)] at h
        exact h))
      go_wp2_with fail
      go_ret
      exact ⟨ret_bool HD.out.symm, below_drewN (Below.refl _ _) _⟩
theorem keepBands_other (n m : Nat) (A B : Option Addr) (c d : Nat) (w : World) (h : n ≠ m) :
    Calls Try.prog 20 #[.slice A n c, .slice B m d] w fun e w' => e = .returned (.bool false) ∧ Below w.heap.size w w' := by
  have h' : ((n : Int) != (m : Int)) = true := by rw [bne_iff_ne]; omega
  clear h
  go_enter Try.func20, Try.ntmps20
  go_wp2_with fail
  go_ret
  exact ⟨rfl, Below.refl _ _⟩
theorem keepBands_n (P Q : List Rg) (n m : Nat) (lP : P.length = n) (lQ : Q.length = m) (A B : Option Addr) (c d : Nat) (w : World) (hP : Reads w w.heap.size 2 A n (rcells P)) (hQ : Reads w w.heap.size 2 B m (rcells Q)) (hn : n ≤ 1048576) :
    Calls Try.prog 20 #[.slice A n c, .slice B m d] w fun e w' => e = .returned (.bool (eqX P Q)) ∧ Below w.heap.size w w' := by
  by_cases h : n = m
  · subst h; exact keepBands_same n P Q A B c d w lP lQ hP hQ hn
  · rw [eqX_no (fun e => h (by rw [← lP, ← lQ, e]))]; exact keepBands_other n m A B c d w h

set_option maxHeartbeats 1000000 in
theorem keepInts_same (n : Nat) (P Q : List Int) (A B : Option Addr) (c d : Nat) (w : World) (lP : P.length = n) (lQ : Q.length = n) (hP : Reads w w.heap.size 1 A n (icells P)) (hQ : Reads w w.heap.size 1 B n (icells Q)) (hn : n ≤ 1048576) :
    Calls Try.prog 41 #[.slice A n c, .slice B n d] w fun e w' => e = .returned (.bool (eqX P Q)) ∧ Below w.heap.size w w' := by
  have HP := Lib.hid hP
  have HQ := Lib.hid hQ
  have LP := Lib.hid lP
  have LQ := Lib.hid lQ
  have hnn : ((n : Int) != (n : Int)) = false := by simp
  clear hP hQ lP lQ
  go_enter Try.func41, Try.ntmps41
  go_wp2_with fail
  go_loopw [5] (fun i wr => ∃ (k q : Nat), k ≤ n ∧ i = .int .i64 k ∧ wr = w.drewN q ∧ Hid (P.take k = Q.take k)) (fun i _ => n - (intOf i).toNat)
  case atStart => exact ⟨0, 0, Nat.zero_le _, rfl, rfl, Lib.hid rfl⟩
  case round =>
    obtain ⟨k, q, hk, rfl, rfl, HE⟩ := hrel
    by_cases hlt : k < n
    · have kP : k < P.length := by rw [LP.out]; exact hlt
      have kQ : k < Q.length := by rw [LQ.out]; exact hlt
      obtain ⟨b, o, rfl, _, p0⟩ := HP.out.int kP
      obtain ⟨b', o', rfl, _, q0⟩ := HQ.out.int kQ
      have HtP : Hid (P.take (k + 1) = P.take k ++ [P[k]]) := Lib.hid (List.take_succ_eq_append_getElem kP)
      have HtQ : Hid (Q.take (k + 1) = Q.take k ++ [Q[k]]) := Lib.hid (List.take_succ_eq_append_getElem kQ)
      have HK : Hid (P = Q → P[k] = Q[k]) := Lib.hid (fun h => by subst h; rfl)
      have HN : Hid (P[k] = Q[k] → P.take (k + 1) = Q.take (k + 1)) := Lib.hid (fun h => by rw [HtP.out, HtQ.out, HE.out, h])
      generalize P[k] = x at *
      generalize Q[k] = y at *
      clear HtP HtQ kP kQ
      by_cases hxy : x = y
      · subst hxy
        have hne : (x != x) = false := by simp
        have HE' := Lib.hid (HN.out rfl)
        clear HN HK HE
        go_wp2_with fail
        go_quiet (fail)
        go_wp2_with fail
        go_roundw
        case rel => exact ⟨k + 1, _, by omega, by go_num, rfl, HE'⟩
        case measure => simp [intOf]; omega
      · have hne : (x != y) = true := by rw [bne_iff_ne]; exact hxy
        have HD : Hid (eqX P Q = false) := Lib.hid (eqX_no (fun h => hxy (HK.out h)))
        clear HN HK HE hxy
        go_wp2_with fail
        go_quiet (fail)
        go_wp2_with fail
        go_ret
        exact ⟨ret_bool HD.out.symm, below_drewN (below_drewN (Below.refl _ _) _) _⟩
    · have HD : Hid (eqX P Q = true) := Lib.hid (eqX_yes (by
        have h := HE.out
        rw [List.take_of_length_le (by rw [LP.out]; omega), List.take_of_length_le (by rw [LQ.out]; omega)] at h
        exact h))
      go_wp2_with fail
      go_ret
      exact ⟨ret_bool HD.out.symm, below_drewN (Below.refl _ _) _⟩
theorem keepInts_other (n m : Nat) (A B : Option Addr) (c d : Nat) (w : World) (h : n ≠ m) :
    Calls Try.prog 41 #[.slice A n c, .slice B m d] w fun e w' => e = .returned (.bool false) ∧ Below w.heap.size w w' := by
  have h' : ((n : Int) != (m : Int)) = true := by rw [bne_iff_ne]; omega
  clear h
  go_enter Try.func41, Try.ntmps41
  go_wp2_with fail
  go_ret
  exact ⟨rfl, Below.refl _ _⟩
theorem keepInts_n (P Q : List Int) (n m : Nat) (lP : P.length = n) (lQ : Q.length = m) (A B : Option Addr) (c d : Nat) (w : World) (hP : Reads w w.heap.size 1 A n (icells P)) (hQ : Reads w w.heap.size 1 B m (icells Q)) (hn : n ≤ 1048576) :
    Calls Try.prog 41 #[.slice A n c, .slice B m d] w fun e w' => e = .returned (.bool (eqX P Q)) ∧ Below w.heap.size w w' := by
  by_cases h : n = m
  · subst h; exact keepInts_same n P Q A B c d w lP lQ hP hQ hn
  · rw [eqX_no (fun e => h (by rw [← lP, ← lQ, e]))]; exact keepInts_other n m A B c d w h
end Go.Proofs.Ythaageiflimnnaa
/- What the statements' own comparisons return: of lists of sets, of lists of lists. -/
namespace Go.Proofs.Ythaageiflimnnaa
open Go.RowKit Go.BigFrame
set_option linter.unusedVariables false
set_option linter.unusedSimpArgs false

set_option maxRecDepth 4000 in
set_option maxHeartbeats 2000000 in
theorem keepSets_same (n : Nat) (H G : List Hd) (A B : Option Addr) (c d : Nat) (w : World) (hH : Nest w w.heap.size A n H) (hG : Nest w w.heap.size B n G) (hn : n ≤ 1048576) (hm : ∀ h ∈ H, h.n ≤ 1048576) :
    Calls Try.prog 19 #[.slice A n c, .slice B n d] w fun e w' => e = .returned (.bool (eqX (setsOf H) (setsOf G))) ∧ Below w.heap.size w w' := by
  have HH := Lib.hid hH
  have HG := Lib.hid hG
  have HM := Lib.hid hm
  have hnn : ((n : Int) != (n : Int)) = false := by simp
  clear hH hG hm
  go_enter Try.func19, Try.ntmps19
  go_wp2_with fail
  go_loopw [5] (fun i wr => ∃ (k : Nat), k ≤ n ∧ i = .int .i64 k ∧ Below w.heap.size w wr ∧ Hid ((setsOf H).take k = (setsOf G).take k)) (fun i _ => n - (intOf i).toNat)
  case atStart => exact ⟨0, Nat.zero_le _, rfl, Below.refl _ _, Lib.hid rfl⟩
  case round =>
    obtain ⟨k, hk, rfl, hb, HE⟩ := hrel
    have hsz := hb.size
    by_cases hlt : k < n
    · have kH : k < H.length := by rw [HH.out.1]; exact hlt
      have kG : k < G.length := by rw [HG.out.1]; exact hlt
      obtain ⟨b, o, rfl, hbb, p0, q1, _, q3⟩ := (HH.out.below hb).at kH
      obtain ⟨b', o', rfl, hbb', r0, u1, _, u3⟩ := (HG.out.below hb).at kG
      have hm1 := HM.out _ (List.getElem_mem kH)
      have HtP : Hid ((setsOf H).take (k + 1) = (setsOf H).take k ++ [H[k].s]) := Lib.hid (by
        rw [List.take_succ_eq_append_getElem (by unfold setsOf; rw [List.length_map]; exact kH)]; simp [setsOf])
      have HtQ : Hid ((setsOf G).take (k + 1) = (setsOf G).take k ++ [G[k].s]) := Lib.hid (by
        rw [List.take_succ_eq_append_getElem (by unfold setsOf; rw [List.length_map]; exact kG)]; simp [setsOf])
      have HK : Hid (setsOf H = setsOf G → H[k].s = G[k].s) := Lib.hid (fun h => by
        have h1 : (setsOf H)[k]? = (setsOf G)[k]? := by rw [h]
        unfold setsOf at h1
        rw [List.getElem?_map, List.getElem?_map, List.getElem?_eq_getElem kH, List.getElem?_eq_getElem kG] at h1
        simpa using h1)
      have HN : Hid (H[k].s = G[k].s → (setsOf H).take (k + 1) = (setsOf G).take (k + 1)) := Lib.hid (fun h => by rw [HtP.out, HtQ.out, HE.out, h])
      generalize H[k] = x at *
      generalize G[k] = y at *
      obtain ⟨xa, xn, xc, xs⟩ := x
      obtain ⟨ya, yn, yc, ys⟩ := y
      simp only [] at p0 r0 q1 q3 u1 u3 hm1 HK HN
      clear HtP HtQ kH kG
      have hca : Hid (∀ W : World, W.cell? ⟨b, o + k, none⟩ = some (.slice xa xn xc) ∧ W.cell? ⟨b', o' + k, none⟩ = some (.slice ya yn yc) ∧ Below wr.heap.size wr W → Calls Try.prog 28 #[.slice xa xn xc, .slice ya yn yc] W fun e w' => e = .returned (.bool (eqL xs ys)) ∧ (w'.cell? ⟨b, o + k, none⟩ = some (.slice xa xn xc) ∧ w'.cell? ⟨b', o' + k, none⟩ = some (.slice ya yn yc) ∧ Below wr.heap.size wr w')) := Lib.hid (fun W hW =>
        (keep_n xs ys xn yn q1 u1 xa ya xc yc W (reads_on (q3.more hsz) hW.2.2) (reads_on (u3.more hsz) hW.2.2) hm1).mono (fun e w' h => ⟨h.1, kept_cell h.2 hW.1, kept_cell h.2 hW.2.1, hW.2.2.trans (h.2.mono hW.2.2.size)⟩))
      clear q1 q3 u1 u3
      have bR := Below.refl wr.heap.size wr
      have HQ := Lib.hid (fun (h : xs = ys) => show eqL xs ys = true from decide_eq_true h)
      have HQ2 := Lib.hid (fun (h : eqL xs ys = true) => show xs = ys from by unfold eqL at h; exact of_decide_eq_true h)
      generalize eqL xs ys = q at *
      cases q
      · have HD : Hid (eqX (setsOf H) (setsOf G) = false) := Lib.hid (eqX_no (fun h => by have h1 := HQ.out (HK.out h); cases h1))
        clear HK HN HQ HQ2
        go_wp2_with fail
        go_region_held3 (fun w' => w'.cell? ⟨b, o + k, none⟩ = some (.slice xa xn xc) ∧ w'.cell? ⟨b', o' + k, none⟩ = some (.slice ya yn yc) ∧ Below wr.heap.size wr w') (first | assumption | exact ⟨p0, r0, bR⟩ | exact ⟨p0, r0, Below.drew bR⟩ | exact ⟨by assumption, by assumption, by assumption⟩ | exact ⟨by assumption, by assumption, Below.drew (by assumption)⟩) (first | (go_at_call 28; with_reducible refine Calls.mono (hca.out _ ?_) ?_; (first | assumption | exact ⟨p0, r0, bR⟩ | exact ⟨p0, r0, Below.drew bR⟩ | exact ⟨by assumption, by assumption, by assumption⟩ | exact ⟨by assumption, by assumption, Below.drew (by assumption)⟩); rintro e w9 ⟨rfl, q9, q8, b9⟩))
        go_wp2_with fail
        go_ret
        exact ⟨ret_bool HD.out.symm, hb.trans (b9.mono hsz)⟩
      · have HE' := Lib.hid (HN.out (HQ2.out rfl))
        clear HK HN HQ HQ2 HE
        go_wp2_with fail
        go_region_held3 (fun w' => w'.cell? ⟨b, o + k, none⟩ = some (.slice xa xn xc) ∧ w'.cell? ⟨b', o' + k, none⟩ = some (.slice ya yn yc) ∧ Below wr.heap.size wr w') (first | assumption | exact ⟨p0, r0, bR⟩ | exact ⟨p0, r0, Below.drew bR⟩ | exact ⟨by assumption, by assumption, by assumption⟩ | exact ⟨by assumption, by assumption, Below.drew (by assumption)⟩) (first | (go_at_call 28; with_reducible refine Calls.mono (hca.out _ ?_) ?_; (first | assumption | exact ⟨p0, r0, bR⟩ | exact ⟨p0, r0, Below.drew bR⟩ | exact ⟨by assumption, by assumption, by assumption⟩ | exact ⟨by assumption, by assumption, Below.drew (by assumption)⟩); rintro e w9 ⟨rfl, q9, q8, b9⟩))
        have b5 := hb.trans (b9.mono hsz)
        clear hca p0 r0 hb b9 q9 q8 bR
        go_wp2_with fail
        go_roundw
        case rel => exact ⟨k + 1, by omega, by go_num, b5, HE'⟩
        case measure => simp [intOf]; omega
    · have HD : Hid (eqX (setsOf H) (setsOf G) = true) := Lib.hid (eqX_yes (by
        have h := HE.out
        rw [List.take_of_length_le (by unfold setsOf; rw [List.length_map, HH.out.1]; omega), List.take_of_length_le (by unfold setsOf; rw [List.length_map, HG.out.1]; omega)] at h
        exact h))
      go_wp2_with fail
      go_ret
      exact ⟨ret_bool HD.out.symm, hb⟩
theorem keepSets_other (n m : Nat) (A B : Option Addr) (c d : Nat) (w : World) (h : n ≠ m) :
    Calls Try.prog 19 #[.slice A n c, .slice B m d] w fun e w' => e = .returned (.bool false) ∧ Below w.heap.size w w' := by
  have h' : ((n : Int) != (m : Int)) = true := by rw [bne_iff_ne]; omega
  clear h
  go_enter Try.func19, Try.ntmps19
  go_wp2_with fail
  go_ret
  exact ⟨rfl, Below.refl _ _⟩
theorem keepSets_n (H G : List Hd) (n m : Nat) (A B : Option Addr) (c d : Nat) (w : World) (hH : Nest w w.heap.size A n H) (hG : Nest w w.heap.size B m G) (hn : n ≤ 1048576) (hm : ∀ h ∈ H, h.n ≤ 1048576) :
    Calls Try.prog 19 #[.slice A n c, .slice B m d] w fun e w' => e = .returned (.bool (eqX (setsOf H) (setsOf G))) ∧ Below w.heap.size w w' := by
  by_cases h : n = m
  · subst h; exact keepSets_same n H G A B c d w hH hG hn hm
  · rw [eqX_no (fun e => h (by
      have h1 : (setsOf H).length = (setsOf G).length := by rw [e]
      unfold setsOf at h1
      rw [List.length_map, List.length_map, hH.1, hG.1] at h1
      exact h1))]
    exact keepSets_other n m A B c d w h

set_option maxRecDepth 4000 in
set_option maxHeartbeats 2000000 in
theorem keepLists_same (n : Nat) (H G : List Hi) (A B : Option Addr) (c d : Nat) (w : World) (hH : NestI w w.heap.size A n H) (hG : NestI w w.heap.size B n G) (hn : n ≤ 1048576) (hm : ∀ h ∈ H, h.n ≤ 1048576) :
    Calls Try.prog 21 #[.slice A n c, .slice B n d] w fun e w' => e = .returned (.bool (eqX (listsOf H) (listsOf G))) ∧ Below w.heap.size w w' := by
  have HH := Lib.hid hH
  have HG := Lib.hid hG
  have HM := Lib.hid hm
  have hnn : ((n : Int) != (n : Int)) = false := by simp
  clear hH hG hm
  go_enter Try.func21, Try.ntmps21
  go_wp2_with fail
  go_loopw [5] (fun i wr => ∃ (k : Nat), k ≤ n ∧ i = .int .i64 k ∧ Below w.heap.size w wr ∧ Hid ((listsOf H).take k = (listsOf G).take k)) (fun i _ => n - (intOf i).toNat)
  case atStart => exact ⟨0, Nat.zero_le _, rfl, Below.refl _ _, Lib.hid rfl⟩
  case round =>
    obtain ⟨k, hk, rfl, hb, HE⟩ := hrel
    have hsz := hb.size
    by_cases hlt : k < n
    · have kH : k < H.length := by rw [HH.out.1]; exact hlt
      have kG : k < G.length := by rw [HG.out.1]; exact hlt
      obtain ⟨b, o, rfl, hbb, p0, q1, q3⟩ := (HH.out.below hb).at kH
      obtain ⟨b', o', rfl, hbb', r0, u1, u3⟩ := (HG.out.below hb).at kG
      have hm1 := HM.out _ (List.getElem_mem kH)
      have HtP : Hid ((listsOf H).take (k + 1) = (listsOf H).take k ++ [H[k].l]) := Lib.hid (by
        rw [List.take_succ_eq_append_getElem (by unfold listsOf; rw [List.length_map]; exact kH)]; simp [listsOf])
      have HtQ : Hid ((listsOf G).take (k + 1) = (listsOf G).take k ++ [G[k].l]) := Lib.hid (by
        rw [List.take_succ_eq_append_getElem (by unfold listsOf; rw [List.length_map]; exact kG)]; simp [listsOf])
      have HK : Hid (listsOf H = listsOf G → H[k].l = G[k].l) := Lib.hid (fun h => by
        have h1 : (listsOf H)[k]? = (listsOf G)[k]? := by rw [h]
        unfold listsOf at h1
        rw [List.getElem?_map, List.getElem?_map, List.getElem?_eq_getElem kH, List.getElem?_eq_getElem kG] at h1
        simpa using h1)
      have HN : Hid (H[k].l = G[k].l → (listsOf H).take (k + 1) = (listsOf G).take (k + 1)) := Lib.hid (fun h => by rw [HtP.out, HtQ.out, HE.out, h])
      generalize H[k] = x at *
      generalize G[k] = y at *
      obtain ⟨xa, xn, xc, xs⟩ := x
      obtain ⟨ya, yn, yc, ys⟩ := y
      simp only [] at p0 r0 q1 q3 u1 u3 hm1 HK HN
      clear HtP HtQ kH kG
      have hca : Hid (∀ W : World, W.cell? ⟨b, o + k, none⟩ = some (.slice xa xn xc) ∧ W.cell? ⟨b', o' + k, none⟩ = some (.slice ya yn yc) ∧ Below wr.heap.size wr W → Calls Try.prog 41 #[.slice xa xn xc, .slice ya yn yc] W fun e w' => e = .returned (.bool (eqX xs ys)) ∧ (w'.cell? ⟨b, o + k, none⟩ = some (.slice xa xn xc) ∧ w'.cell? ⟨b', o' + k, none⟩ = some (.slice ya yn yc) ∧ Below wr.heap.size wr w')) := Lib.hid (fun W hW =>
        (keepInts_n xs ys xn yn q1 u1 xa ya xc yc W (reads_on (q3.more hsz) hW.2.2) (reads_on (u3.more hsz) hW.2.2) hm1).mono (fun e w' h => ⟨h.1, kept_cell h.2 hW.1, kept_cell h.2 hW.2.1, hW.2.2.trans (h.2.mono hW.2.2.size)⟩))
      clear q1 q3 u1 u3
      have bR := Below.refl wr.heap.size wr
      have HQ := Lib.hid (fun (h : xs = ys) => show eqX xs ys = true from eqX_yes h)
      have HQ2 := Lib.hid (fun (h : eqX xs ys = true) => show xs = ys from by unfold eqX at h; exact @of_decide_eq_true _ (Classical.propDecidable _) h)
      generalize eqX xs ys = q at *
      cases q
      · have HD : Hid (eqX (listsOf H) (listsOf G) = false) := Lib.hid (eqX_no (fun h => by have h1 := HQ.out (HK.out h); cases h1))
        clear HK HN HQ HQ2
        go_wp2_with fail
        go_region_held3 (fun w' => w'.cell? ⟨b, o + k, none⟩ = some (.slice xa xn xc) ∧ w'.cell? ⟨b', o' + k, none⟩ = some (.slice ya yn yc) ∧ Below wr.heap.size wr w') (first | assumption | exact ⟨p0, r0, bR⟩ | exact ⟨p0, r0, Below.drew bR⟩ | exact ⟨by assumption, by assumption, by assumption⟩ | exact ⟨by assumption, by assumption, Below.drew (by assumption)⟩) (first | (go_at_call 41; with_reducible refine Calls.mono (hca.out _ ?_) ?_; (first | assumption | exact ⟨p0, r0, bR⟩ | exact ⟨p0, r0, Below.drew bR⟩ | exact ⟨by assumption, by assumption, by assumption⟩ | exact ⟨by assumption, by assumption, Below.drew (by assumption)⟩); rintro e w9 ⟨rfl, q9, q8, b9⟩))
        go_wp2_with fail
        go_ret
        exact ⟨ret_bool HD.out.symm, hb.trans (b9.mono hsz)⟩
      · have HE' := Lib.hid (HN.out (HQ2.out rfl))
        clear HK HN HQ HQ2 HE
        go_wp2_with fail
        go_region_held3 (fun w' => w'.cell? ⟨b, o + k, none⟩ = some (.slice xa xn xc) ∧ w'.cell? ⟨b', o' + k, none⟩ = some (.slice ya yn yc) ∧ Below wr.heap.size wr w') (first | assumption | exact ⟨p0, r0, bR⟩ | exact ⟨p0, r0, Below.drew bR⟩ | exact ⟨by assumption, by assumption, by assumption⟩ | exact ⟨by assumption, by assumption, Below.drew (by assumption)⟩) (first | (go_at_call 41; with_reducible refine Calls.mono (hca.out _ ?_) ?_; (first | assumption | exact ⟨p0, r0, bR⟩ | exact ⟨p0, r0, Below.drew bR⟩ | exact ⟨by assumption, by assumption, by assumption⟩ | exact ⟨by assumption, by assumption, Below.drew (by assumption)⟩); rintro e w9 ⟨rfl, q9, q8, b9⟩))
        have b5 := hb.trans (b9.mono hsz)
        clear hca p0 r0 hb b9 q9 q8 bR
        go_wp2_with fail
        go_roundw
        case rel => exact ⟨k + 1, by omega, by go_num, b5, HE'⟩
        case measure => simp [intOf]; omega
    · have HD : Hid (eqX (listsOf H) (listsOf G) = true) := Lib.hid (eqX_yes (by
        have h := HE.out
        rw [List.take_of_length_le (by unfold listsOf; rw [List.length_map, HH.out.1]; omega), List.take_of_length_le (by unfold listsOf; rw [List.length_map, HG.out.1]; omega)] at h
        exact h))
      go_wp2_with fail
      go_ret
      exact ⟨ret_bool HD.out.symm, hb⟩
theorem keepLists_other (n m : Nat) (A B : Option Addr) (c d : Nat) (w : World) (h : n ≠ m) :
    Calls Try.prog 21 #[.slice A n c, .slice B m d] w fun e w' => e = .returned (.bool false) ∧ Below w.heap.size w w' := by
  have h' : ((n : Int) != (m : Int)) = true := by rw [bne_iff_ne]; omega
  clear h
  go_enter Try.func21, Try.ntmps21
  go_wp2_with fail
  go_ret
  exact ⟨rfl, Below.refl _ _⟩
theorem keepLists_n (H G : List Hi) (n m : Nat) (A B : Option Addr) (c d : Nat) (w : World) (hH : NestI w w.heap.size A n H) (hG : NestI w w.heap.size B m G) (hn : n ≤ 1048576) (hm : ∀ h ∈ H, h.n ≤ 1048576) :
    Calls Try.prog 21 #[.slice A n c, .slice B m d] w fun e w' => e = .returned (.bool (eqX (listsOf H) (listsOf G))) ∧ Below w.heap.size w w' := by
  by_cases h : n = m
  · subst h; exact keepLists_same n H G A B c d w hH hG hn hm
  · rw [eqX_no (fun e => h (by
      have h1 : (listsOf H).length = (listsOf G).length := by rw [e]
      unfold listsOf at h1
      rw [List.length_map, List.length_map, hH.1, hG.1] at h1
      exact h1))]
    exact keepLists_other n m A B c d w h
end Go.Proofs.Ythaageiflimnnaa
/- The calls of refine as the statements use them; slices that are written out. -/
namespace Go.Proofs.Ythaageiflimnnaa
open Go.RowKit Go.BigFrame
set_option linter.unusedVariables false
set_option linter.unusedSimpArgs false

/-- A slice that is written out. -/
theorem reads_litT (w : World) (t : TypeId) (size k : Nat) (xs : List Value) (cs : Array Value) (hk : xs.length = k * size) (h : cs = xs.toArray) : Reads (w.alloc (.cells cs t)) (w.alloc (.cells cs t)).heap.size size (some ⟨w.heap.size, 0, none⟩) k xs := by
  subst h
  refine ⟨hk, fun _ => ⟨w.heap.size, 0, rfl, by simp, fun j u hj => ?_⟩⟩
  have hj' := (List.getElem?_eq_some_iff.1 hj).1
  rw [Nat.zero_add]
  have e : (w.alloc (.cells xs.toArray t)).heap[w.heap.size]? = some (.cells xs.toArray t) := by
    show (w.heap.push _)[w.heap.size]? = _
    exact Array.getElem?_push_size
  unfold World.cell?
  show (match (w.alloc (.cells xs.toArray t)).heap[w.heap.size]? with
    | some (.cells c _ _) => if false = true then none else c[j]?
    | _ => none) = some u
  rw [e]
  simpa using hj
theorem Hd.ok.on {w w' : World} {h : Hd} (o : h.ok w w.heap.size) (g : Below w.heap.size w w') : h.ok w' w'.heap.size := (o.below g).more g.size
theorem nest_lit (w : World) (H : List Hd) (k : Nat) (cs : Array Value) (hk : H.length = k) (h : cs = (hcells H).toArray) (hok : ∀ h ∈ H, h.ok w w.heap.size) :
    Nest (w.alloc (.cells cs 48)) (w.alloc (.cells cs 48)).heap.size (some ⟨w.heap.size, 0, none⟩) k H :=
  ⟨hk, reads_litT w 48 1 k (hcells H) cs (by rw [hcells_len, hk, Nat.mul_one]) h, fun x hx => (hok x hx).on (below_new _ _)⟩
theorem nestI_lit (w : World) (H : List Hi) (k : Nat) (cs : Array Value) (hk : H.length = k) (h : cs = (icellsOf H).toArray) (hok : ∀ h ∈ H, h.l.length = h.n ∧ Reads w w.heap.size 1 h.a h.n (icells h.l)) :
    NestI (w.alloc (.cells cs 45)) (w.alloc (.cells cs 45)).heap.size (some ⟨w.heap.size, 0, none⟩) k H :=
  ⟨hk, reads_litT w 45 1 k (icellsOf H) cs (by simp [icellsOf, hk]) h, fun x hx => ⟨(hok x hx).1, reads_on (hok x hx).2 (below_new _ _)⟩⟩

theorem reads_litB (w : World) (b : Nat) (hb : b = w.heap.size) (t : TypeId) (size k : Nat) (xs : List Value) (cs : Array Value) (hk : xs.length = k * size) (h : cs = xs.toArray) : Reads (w.alloc (.cells cs t)) (w.alloc (.cells cs t)).heap.size size (some ⟨b, 0, none⟩) k xs := by
  subst hb; exact reads_litT w t size k xs cs hk h
theorem nest_litB (w : World) (b : Nat) (hb : b = w.heap.size) (H : List Hd) (k : Nat) (cs : Array Value) (hk : H.length = k) (h : cs = (hcells H).toArray) (hok : ∀ h ∈ H, h.ok w w.heap.size) :
    Nest (w.alloc (.cells cs 48)) (w.alloc (.cells cs 48)).heap.size (some ⟨b, 0, none⟩) k H := by
  subst hb; exact nest_lit w H k cs hk h hok
theorem nestI_litB (w : World) (b : Nat) (hb : b = w.heap.size) (H : List Hi) (k : Nat) (cs : Array Value) (hk : H.length = k) (h : cs = (icellsOf H).toArray) (hok : ∀ h ∈ H, h.l.length = h.n ∧ Reads w w.heap.size 1 h.a h.n (icells h.l)) :
    NestI (w.alloc (.cells cs 45)) (w.alloc (.cells cs 45)).heap.size (some ⟨b, 0, none⟩) k H := by
  subst hb; exact nestI_lit w H k cs hk h hok
theorem mem1 {α : Type} {P : α → Prop} {a : α} (h : P a) : ∀ x ∈ [a], P x := fun x hx => by rw [List.mem_singleton] at hx; subst hx; exact h
theorem mem2 {α : Type} {P : α → Prop} {a b : α} (h : P a) (h' : P b) : ∀ x ∈ [a, b], P x := fun x hx => by
  rcases List.mem_cons.1 hx with rfl | hx
  · exact h
  · rw [List.mem_singleton] at hx; subst hx; exact h'
theorem Nest.len {w : World} {B n : Nat} {A : Option Addr} {H : List Hd} (h : Nest w B A n H) : n = (setsOf H).length := by rw [setsOf_len, h.1]
theorem Nest.set {w : World} {B n : Nat} {A : Option Addr} {H : List Hd} {P : List (List Rg)} (h : Nest w B A n H) (e : setsOf H = P) (k : Nat) (hk : k < P.length) :
    ∃ b o a m c, A = some ⟨b, o, none⟩ ∧ b < B ∧ w.cell? ⟨b, o + k, none⟩ = some (.slice a m c) ∧ P[k].length = m ∧ Shp a m c ∧ Reads w B 2 a m (rcells P[k]) := by
  subst e
  have hk' : k < H.length := by rw [setsOf_len] at hk; exact hk
  obtain ⟨b, o, h1, h2, h3, h4, h5, h6⟩ := h.at hk'
  have e : (setsOf H)[k] = H[k].s := by simp [setsOf]
  exact ⟨b, o, H[k].a, H[k].n, H[k].c, h1, h2, h3, by rw [e]; exact h4, h5, by rw [e]; exact h6⟩
theorem plS_len (i : Nat) (s : List Rg) : (plS i s).length = s.length := by simp [plS]
theorem plUp_len (L : List (List Rg)) : ∀ k, k ≤ L.length → (plUp L k).length = tot (L.take k)
  | 0, _ => by simp [plUp, tot]
  | k + 1, hk => by
    have e : tot (L.take (k + 1)) = tot (L.take k) + L[k].length := by
      unfold tot
      rw [List.take_succ_eq_append_getElem (by omega), List.map_append, List.sum_append]
      simp
    unfold plUp
    rw [List.length_append, plUp_len L k (by omega), plS_len, e, getD_eq (by omega)]
/-- Bands that tell the part of each scalar. -/
def OutBY (L : List (List Rg)) (w : World) (e : Ending) (w' : World) : Prop :=
  ∃ (bs : List Rg) (A : Option Addr) (c n : Nat), e = .returned (.tuple #[.slice A n c, .bool true]) ∧ BandsOf L bs ∧ bs.length = n ∧ n = tot L ∧ Shp A n c ∧ Reads w' w'.heap.size 2 A n (rcells bs) ∧ Below w.heap.size w w'
theorem bands_yes (H : List Hd) (n : Nat) (A : Option Addr) (c : Nat) (w : World) (hN : Nest w w.heap.size A n H) (hn : n ≤ 1000) (hm : ∀ h ∈ H, h.n ≤ 1000) (hg : ∀ s ∈ setsOf H, Gd (-1) s) (hne : [] ∉ setsOf H) (ho : ∀ v, Sc v → Once (setsOf H) v) :
    Calls Try.prog 13 #[.slice A n c] w (OutBY (setsOf H) w) := by
  refine (bands_n H n A c w hN hn hm).mono ?_
  rintro e w' (⟨h, _⟩ | ⟨_, h, _⟩ | ⟨_, _, Q, hQ, hs, hO⟩)
  · rw [(allB_iff _).2 hg] at h; cases h
  · exact absurd h hne
  · have h := bands_tells hg hQ hs
    cases hr : inR 0 true [] Q with
    | none =>
      rw [hr] at h
      obtain ⟨v, hv, hno⟩ := h
      exact absurd (ho v hv) hno
    | some bs =>
      rw [hr] at h hO
      obtain ⟨A5, c5, n5, h1, h2, h3, h4, h5⟩ := hO
      refine ⟨bs, A5, c5, n5, h1, h.2.1, h2, ?_, h3, h4, h5⟩
      rw [← h2, h.2.2, hQ.length_eq, plUp_len _ _ (Nat.le_refl _), List.take_of_length_le (Nat.le_refl _)]
theorem bands_no (H : List Hd) (n : Nat) (A : Option Addr) (c : Nat) (w : World) (hN : Nest w w.heap.size A n H) (hn : n ≤ 1000) (hm : ∀ h ∈ H, h.n ≤ 1000) (ho : ¬ ((∀ s ∈ setsOf H, Gd (-1) s) ∧ [] ∉ setsOf H ∧ ∀ v, Sc v → Once (setsOf H) v)) :
    Calls Try.prog 13 #[.slice A n c] w (OutNil w) := by
  refine (bands_n H n A c w hN hn hm).mono ?_
  rintro e w' (⟨_, h⟩ | ⟨_, _, h⟩ | ⟨hg, hne, Q, hQ, hs, hO⟩)
  · exact h
  · exact h
  · have hg' := (allB_iff _).1 hg
    have h := bands_tells hg' hQ hs
    cases hr : inR 0 true [] Q with
    | none => rw [hr] at hO; exact hO
    | some bs => rw [hr] at h; exact absurd ⟨hg', hne, h.1⟩ ho
/-- Parts of few sets. -/
def OutPY (L : List (List Rg)) (w : World) (e : Ending) (w' : World) : Prop :=
  ∃ (P : List (List Rg)) (A : Option Addr) (c z : Nat) (H : List Hd), e = .returned (.tuple #[.slice A z c, .bool true]) ∧ setsOf H = P ∧ Parts (Ek L) P ∧ z ≤ 256 ∧ (∀ h ∈ H, h.n ≤ 2 * tot L + 1) ∧ Nest w' w'.heap.size A z H ∧ Shp A z c ∧ Below w.heap.size w w'
theorem outYes_py {L P : List (List Rg)} {w : World} {e : Ending} {w' : World} (hP : Parts (Ek L) P) (h1 : P.length ≤ 256) (h2 : ∀ p ∈ P, p.length ≤ 2 * tot L + 1) (h : OutYes P w e w') : OutPY L w e w' := by
  obtain ⟨A, c, z, H, he, hs, hN, hS, hb⟩ := h
  refine ⟨P, A, c, z, H, he, hs, hP, ?_, ?_, hN, hS, hb⟩
  · have e1 : H.length = P.length := by rw [← hs, setsOf_len]
    have := hN.1
    omega
  · intro x hx
    rw [← (hN.2.2 x hx).1]
    exact h2 _ (by rw [← hs]; exact List.mem_map.2 ⟨x, hx, rfl⟩)
theorem parts_yes (H : List Hd) (n : Nat) (A : Option Addr) (c : Nat) (w : World) (hN : Nest w w.heap.size A n H) (hn : n ≤ 256) (hm : ∀ h ∈ H, h.n ≤ 1000) (ht : tot (setsOf H) ≤ 200000) (hg : ∀ s ∈ setsOf H, Gd (-1) s) (hx : ¬ Many (Ek (setsOf H))) :
    Calls Try.prog 11 #[.slice A n c] w (OutPY (setsOf H) w) := by
  refine (parts_n H n A c w hN hn hm ht).mono ?_
  rintro e w' (⟨h, _⟩ | ⟨_, h, _⟩ | ⟨_, P, hP, h1, h2, hO⟩)
  · rw [(allB_iff _).2 hg] at h; cases h
  · exact absurd h hx
  · exact outYes_py hP h1 h2 hO
/-- Within, of sets that may be. -/
def OutWY (r : List (List Int)) (w : World) (e : Ending) (w' : World) : Prop :=
  ∃ (A : Option Addr) (c z : Nat) (H : List Hi), e = .returned (.tuple #[.slice A z c, .bool true]) ∧ listsOf H = r ∧ NestI w' w'.heap.size A z H ∧ Below w.heap.size w w'
theorem within_yes (G : List Hd) (m : Nat) (B : Option Addr) (d : Nat) (H : List Hd) (n : Nat) (A : Option Addr) (c : Nat) (w : World) (hG : Nest w w.heap.size B m G) (hN : Nest w w.heap.size A n H) (hmm : m ≤ 100000) (hn : n ≤ 100000) (hmG : ∀ h ∈ G, h.n ≤ 2000) (hmH : ∀ h ∈ H, h.n ≤ 2000) (gG : ∀ s ∈ setsOf G, Gd (-1) s) (gH : ∀ s ∈ setsOf H, Gd (-1) s) {r : List (List Int)} (hr : witA (setsOf H) [] (setsOf G) = some r) :
    Calls Try.prog 17 #[.slice B m d, .slice A n c] w (OutWY r w) := by
  refine (within_n G m B d H n A c w hG hN hmm hn hmG hmH).mono ?_
  rintro e w' (⟨h, _⟩ | ⟨_, h⟩)
  · rw [(allB_iff _).2 gG, (allB_iff _).2 gH] at h; cases h
  · rw [hr] at h; exact h
theorem keepBands_yes {P Q : List Rg} {n m : Nat} (lP : P.length = n) (lQ : Q.length = m) {A B : Option Addr} {c d : Nat} {w : World} (hP : Reads w w.heap.size 2 A n (rcells P)) (hQ : Reads w w.heap.size 2 B m (rcells Q)) (hn : n ≤ 1048576) (h : P = Q) :
    Calls Try.prog 20 #[.slice A n c, .slice B m d] w fun e w' => e = .returned (.bool true) ∧ Below w.heap.size w w' := by
  have := keepBands_n P Q n m lP lQ A B c d w hP hQ hn
  rwa [eqX_yes h] at this
theorem keepSets_yes {H G : List Hd} {n m : Nat} {A B : Option Addr} {c d : Nat} {w : World} (hH : Nest w w.heap.size A n H) (hG : Nest w w.heap.size B m G) (hn : n ≤ 1048576) (hm : ∀ h ∈ H, h.n ≤ 1048576) (h : setsOf H = setsOf G) :
    Calls Try.prog 19 #[.slice A n c, .slice B m d] w fun e w' => e = .returned (.bool true) ∧ Below w.heap.size w w' := by
  have := keepSets_n H G n m A B c d w hH hG hn hm
  rwa [eqX_yes h] at this
theorem keepLists_yes {H G : List Hi} {n m : Nat} {A B : Option Addr} {c d : Nat} {w : World} (hH : NestI w w.heap.size A n H) (hG : NestI w w.heap.size B m G) (hn : n ≤ 1048576) (hm : ∀ h ∈ H, h.n ≤ 1048576) (h : listsOf H = listsOf G) :
    Calls Try.prog 21 #[.slice A n c, .slice B m d] w fun e w' => e = .returned (.bool true) ∧ Below w.heap.size w w' := by
  have := keepLists_n H G n m A B c d w hH hG hn hm
  rwa [eqX_yes h] at this
theorem keep_yes {P Q : List Rg} {n m : Nat} (lP : P.length = n) (lQ : Q.length = m) {A B : Option Addr} {c d : Nat} {w : World} (hP : Reads w w.heap.size 2 A n (rcells P)) (hQ : Reads w w.heap.size 2 B m (rcells Q)) (hn : n ≤ 1048576) (h : P = Q) :
    Calls Try.prog 28 #[.slice A n c, .slice B m d] w fun e w' => e = .returned (.bool true) ∧ Below w.heap.size w w' := by
  have := keep_n P Q n m lP lQ A B c d w hP hQ hn
  rwa [show eqL P Q = true from decide_eq_true h] at this

/-! The program's own example. -/
def w1 : List Rg := [(97, 100)]
def w2 : List Rg := [(99, 102)]
def wL : List (List Rg) := [w1, w2]
def q0 : List Rg := [(0, 96), (103, 1114111)]
def q1 : List Rg := [(97, 98)]
def q2 : List Rg := [(99, 100)]
def q3 : List Rg := [(101, 102)]
def wP : List (List Rg) := [q0, q1, q2, q3]
def wB : List Rg := [(0, 0), (97, 1), (99, 2), (101, 3), (103, 0)]
theorem ek_wL (u v : Int) : Ek wL u v ↔ (In w1 u ↔ In w1 v) ∧ (In w2 u ↔ In w2 v) := by
  rw [ek_iff]
  have key : ∀ s : List Rg, inB s u = inB s v ↔ (In s u ↔ In s v) := fun s => by
    rw [← inB_iff, ← inB_iff]
    cases inB s u <;> cases inB s v <;> simp
  simp [wL, key]
theorem in_w1 (v : Int) : In w1 v ↔ 97 ≤ v ∧ v ≤ 100 := In_one _ _
theorem in_w2 (v : Int) : In w2 v ↔ 99 ≤ v ∧ v ≤ 102 := In_one _ _
theorem in_q0 (v : Int) : In q0 v ↔ (0 ≤ v ∧ v ≤ 96) ∨ (103 ≤ v ∧ v ≤ 1114111) := by simp [q0, In_cons, In_nil]
theorem in_q1 (v : Int) : In q1 v ↔ 97 ≤ v ∧ v ≤ 98 := In_one _ _
theorem in_q2 (v : Int) : In q2 v ↔ 99 ≤ v ∧ v ≤ 100 := In_one _ _
theorem in_q3 (v : Int) : In q3 v ↔ 101 ≤ v ∧ v ≤ 102 := In_one _ _
theorem wL_good : ∀ s ∈ wL, Gd (-1) s := (allB_iff _).1 (by decide)
theorem wP_good : ∀ s ∈ wP, Gd (-1) s := (allB_iff _).1 (by decide)
theorem wP_parts : Parts (Ek wL) wP where
  gd := wP_good
  ne := fun p hp => by
    simp [wP] at hp
    rcases hp with rfl | rfl | rfl | rfl <;> simp [q0, q1, q2, q3]
  cl := fun p hp u v hu hv hi => by
    rw [ek_wL, in_w1, in_w1, in_w2, in_w2]
    unfold Sc at hu hv
    simp [wP] at hp
    rcases hp with rfl | rfl | rfl | rfl
    · rw [in_q0] at *; omega
    · rw [in_q1] at *; omega
    · rw [in_q2] at *; omega
    · rw [in_q3] at *; omega
  cov := fun v hv => by
    unfold Sc at hv
    by_cases h1 : v ≤ 96 ∨ 103 ≤ v
    · exact ⟨q0, by simp [wP], (in_q0 v).2 (by omega)⟩
    · by_cases h2 : v ≤ 98
      · exact ⟨q1, by simp [wP], (in_q1 v).2 (by omega)⟩
      · by_cases h3 : v ≤ 100
        · exact ⟨q2, by simp [wP], (in_q2 v).2 (by omega)⟩
        · exact ⟨q3, by simp [wP], (in_q3 v).2 (by omega)⟩
  inc := by simp [wP, q0, q1, q2, q3, fst1]
theorem wB_bands : BandsOf wP wB where
  zero := ⟨by simp [wB], rfl⟩
  inc := by
    have h : wB.Pairwise (fun a b => a.1 < b.1) := by simp [wB]
    exact fun i j hi hj hij => List.pairwise_iff_getElem.1 h i j hi hj hij
  sc := fun b hb => by
    simp [wB] at hb
    rcases hb with rfl | rfl | rfl | rfl | rfl <;> simp [Sc]
  cl := fun b hb => by
    simp [wB] at hb
    rcases hb with rfl | rfl | rfl | rfl | rfl <;> simp [wP]
  here := fun i hi v hv h1 h2 => by
    unfold Sc at hv
    match i, hi with
    | 0, _ =>
      have h3 := h2 (by simp [wB])
      show In q0 v
      rw [in_q0]
      simp [wB] at h1 h3
      omega
    | 1, _ =>
      have h3 := h2 (by simp [wB])
      show In q1 v
      rw [in_q1]
      simp [wB] at h1 h3
      omega
    | 2, _ =>
      have h3 := h2 (by simp [wB])
      show In q2 v
      rw [in_q2]
      simp [wB] at h1 h3
      omega
    | 3, _ =>
      have h3 := h2 (by simp [wB])
      show In q3 v
      rw [in_q3]
      simp [wB] at h1 h3
      omega
    | 4, _ =>
      show In q0 v
      rw [in_q0]
      simp [wB] at h1
      omega
  chg := fun i hi => by
    match i, hi with
    | 0, _ => simp [wB]
    | 1, _ => simp [wB]
    | 2, _ => simp [wB]
    | 3, _ => simp [wB]
    | i + 4, h => simp [wB] at h; omega
theorem wB_of : ofN wB 101 = 3 ∧ ofB wB 101 = true := by decide
theorem wW : witA wP [] wL = some [[1, 2], [2, 3]] := by
  have s1 : ∀ v, In q1 v → In w1 v := fun v => by rw [in_q1, in_w1]; omega
  have d0 : Dis q0 w1 := fun v _ => by rw [in_q0, in_w1]; omega
  have n0 : ¬ Sub q0 w1 := fun h => by have := h 0 sc0 ((in_q0 0).2 (by omega)); rw [in_w1] at this; omega
  have d3 : Dis q3 w1 := fun v _ => by rw [in_q3, in_w1]; omega
  have n3 : ¬ Sub q3 w1 := fun h => by have := h 101 (by unfold Sc; omega) ((in_q3 101).2 (by omega)); rw [in_w1] at this; omega
  have a1 : Sub q1 w1 := fun v _ => by rw [in_q1, in_w1]; omega
  have a2 : Sub q2 w1 := fun v _ => by rw [in_q2, in_w1]; omega
  have e0 : Dis q0 w2 := fun v _ => by rw [in_q0, in_w2]; omega
  have m0 : ¬ Sub q0 w2 := fun h => by have := h 0 sc0 ((in_q0 0).2 (by omega)); rw [in_w2] at this; omega
  have e1 : Dis q1 w2 := fun v _ => by rw [in_q1, in_w2]; omega
  have m1 : ¬ Sub q1 w2 := fun h => by have := h 97 (by unfold Sc; omega) ((in_q1 97).2 (by omega)); rw [in_w2] at this; omega
  have b2 : Sub q2 w2 := fun v _ => by rw [in_q2, in_w2]; omega
  have b3 : Sub q3 w2 := fun v _ => by rw [in_q3, in_w2]; omega
  have i1 : insA w1 [] 0 wP = some [1, 2] := by
    unfold wP
    rw [insA_dis n0 d0, insA_sub a1, insA_sub a2, insA_dis n3 d3]
    rfl
  have i2 : insA w2 [] 0 wP = some [2, 3] := by
    unfold wP
    rw [insA_dis m0 e0, insA_dis m1 e1, insA_sub b2, insA_sub b3]
    rfl
  simp [witA, wL, i1, i2]
theorem wL_no : ¬ ((∀ s ∈ wL, Gd (-1) s) ∧ [] ∉ wL ∧ ∀ v, Sc v → Once wL v) := by
  rintro ⟨_, _, h⟩
  obtain ⟨c, hc, hi, _⟩ := h 0 sc0
  have : In w1 0 ∨ In w2 0 := by
    match c, hc with
    | 0, _ => exact .inl hi
    | 1, _ => exact .inr hi
  rw [in_w1, in_w2] at this
  omega
end Go.Proofs.Ythaageiflimnnaa
/- What the statements call beside each answer: the program's own example. -/
namespace Go.Proofs.Ythaageiflimnnaa
open Go.RowKit Go.BigFrame
set_option linter.unusedVariables false
set_option linter.unusedSimpArgs false
set_option maxRecDepth 4000 in
set_option maxHeartbeats 4000000 in
theorem wakes_any (w : World) : Calls Try.prog 9 #[] w fun e w' => e = .returned (.bool true) ∧ Below w.heap.size w w' := by
  go_enter Try.func9, Try.ntmps9
  have bb_0 : Below w.heap.size w w := Below.refl _ _
  go_wp2_with fail
  have g_1 : Below w.heap.size w (w.alloc (.cells #[.int .i64 97, .int .i64 100] 50)) := below_new _ _
  have bb_1 := bb_0.trans (g_1.mono bb_0.size)
  have s1_1 := Lib.hid (reads_litB w (w.heap.size) (by first | rfl | omega) 50 2 1 (rcells w1) #[.int .i64 97, .int .i64 100] rfl rfl)
  clear bb_0 g_1
  have hz_1 : (w.alloc (.cells #[.int .i64 97, .int .i64 100] 50)).heap.size = w.heap.size + 1 := by simp
  generalize w.alloc (.cells #[.int .i64 97, .int .i64 100] 50) = W1 at *
  have g_2 : Below W1.heap.size W1 (W1.alloc (.cells #[.int .i64 99, .int .i64 102] 50)) := below_new _ _
  have s1_2 := Lib.hid (reads_on s1_1.out g_2)
  have bb_2 := bb_1.trans (g_2.mono bb_1.size)
  have s2_2 := Lib.hid (reads_litB W1 (w.heap.size + 1) (by first | rfl | omega) 50 2 1 (rcells w2) #[.int .i64 99, .int .i64 102] rfl rfl)
  clear s1_1 bb_1 g_2
  have hz_2 : (W1.alloc (.cells #[.int .i64 99, .int .i64 102] 50)).heap.size = W1.heap.size + 1 := by simp
  generalize W1.alloc (.cells #[.int .i64 99, .int .i64 102] 50) = W2 at *
  have g_3 : Below W2.heap.size W2 (W2.alloc (.cells #[.slice (some ⟨w.heap.size, 0, none⟩) 1 1, .slice (some ⟨w.heap.size + 1, 0, none⟩) 1 1] 48)) := below_new _ _
  have s1_3 := Lib.hid (reads_on s1_2.out g_3)
  have s2_3 := Lib.hid (reads_on s2_2.out g_3)
  have bb_3 := bb_2.trans (g_3.mono bb_2.size)
  have l_3 := Lib.hid (nest_litB W2 (w.heap.size + 1 + 1) (by first | rfl | omega) [⟨(some ⟨w.heap.size, 0, none⟩), 1, 1, w1⟩, ⟨(some ⟨w.heap.size + 1, 0, none⟩), 1, 1, w2⟩] 2 #[.slice (some ⟨w.heap.size, 0, none⟩) 1 1, .slice (some ⟨w.heap.size + 1, 0, none⟩) 1 1] rfl rfl (mem2 ⟨rfl, shp_lit _ 1 (by omega), s1_2.out⟩ ⟨rfl, shp_lit _ 1 (by omega), s2_2.out⟩))
  clear s1_2 s2_2 bb_2 g_3
  have hz_3 : (W2.alloc (.cells #[.slice (some ⟨w.heap.size, 0, none⟩) 1 1, .slice (some ⟨w.heap.size + 1, 0, none⟩) 1 1] 48)).heap.size = W2.heap.size + 1 := by simp
  generalize W2.alloc (.cells #[.slice (some ⟨w.heap.size, 0, none⟩) 1 1, .slice (some ⟨w.heap.size + 1, 0, none⟩) 1 1] 48) = W3 at *
  refine (parts_yes [⟨(some ⟨w.heap.size, 0, none⟩), 1, 1, w1⟩, ⟨(some ⟨w.heap.size + 1, 0, none⟩), 1, 1, w2⟩] 2 (some ⟨w.heap.size + 1 + 1, 0, none⟩) 2 _ l_3.out (by omega) (mem2 (by show 1 ≤ _; omega) (by show 1 ≤ _; omega)) (show tot wL ≤ 200000 by decide) wL_good (not_many (show wL.length ≤ 8 by decide))).mono ?_
  rintro e W4 ⟨P, A4, c4, z4, H4, rfl, hs4, hp4, hz4, hm4, hn4, hsh4, g⟩
  have s1_4 := Lib.hid (reads_on s1_3.out g)
  have s2_4 := Lib.hid (reads_on s2_3.out g)
  have l_4 := Lib.hid (l_3.out.on g)
  have bb_4 := bb_3.trans (g.mono bb_3.size)
  have p_4 := Lib.hid (hn4)
  clear s1_3 s2_3 l_3 bb_3 g
  have HP4 : Hid (setsOf H4 = wP) := Lib.hid (hs4.trans (hp4.uniq (fun _ _ _ _ => Iff.rfl) wP_parts))
  have HM4 : Hid (∀ h ∈ H4, h.n ≤ 1000) := Lib.hid (fun h hh => Nat.le_trans (hm4 h hh) (show 2 * tot wL + 1 ≤ 1000 by decide))
  have HZ4 : Hid (z4 = 4) := Lib.hid (by rw [hn4.len, HP4.out]; rfl)
  obtain rfl := HZ4.out
  clear hs4 hp4 hz4 hm4 hn4 hsh4 HZ4
  go_wp2_with fail
  refine (bands_yes H4 4 A4 c4 _ p_4.out (by omega) HM4.out (by rw [HP4.out]; exact wP_good) (by rw [HP4.out]; decide) (by rw [HP4.out]; exact parts_once wP_parts)).mono ?_
  rintro e W5 ⟨bs, A5, c5, n5, rfl, hb5, hl5, ht5, hsh5, hr5, g⟩
  have s1_5 := Lib.hid (reads_on s1_4.out g)
  have s2_5 := Lib.hid (reads_on s2_4.out g)
  have l_5 := Lib.hid (l_4.out.on g)
  have p_5 := Lib.hid (p_4.out.on g)
  have bb_5 := bb_4.trans (g.mono bb_4.size)
  have b_5 := Lib.hid (hr5)
  clear s1_4 s2_4 l_4 p_4 bb_4 g
  rw [HP4.out] at hb5 ht5
  obtain rfl := bands_uniq (parts_once wP_parts) hb5 wB_bands
  obtain rfl : n5 = 5 := ht5
  clear hb5 hl5 hsh5 hr5
  go_wp2_with fail
  have HOf := fun W h => of_n wB 5 rfl A5 c5 101 W h (by omega)
  rw [wB_of.1, wB_of.2] at HOf
  refine (HOf _ b_5.out).mono ?_
  rintro e W6 ⟨rfl, g⟩
  have s1_6 := Lib.hid (reads_on s1_5.out g)
  have s2_6 := Lib.hid (reads_on s2_5.out g)
  have l_6 := Lib.hid (l_5.out.on g)
  have p_6 := Lib.hid (p_5.out.on g)
  have b_6 := Lib.hid (reads_on b_5.out g)
  have bb_6 := bb_5.trans (g.mono bb_5.size)
  clear s1_5 s2_5 l_5 p_5 b_5 bb_5 g
  clear HOf
  go_wp2_with fail
  refine (within_yes [⟨(some ⟨w.heap.size, 0, none⟩), 1, 1, w1⟩, ⟨(some ⟨w.heap.size + 1, 0, none⟩), 1, 1, w2⟩] 2 (some ⟨w.heap.size + 1 + 1, 0, none⟩) 2 H4 4 A4 c4 _ l_6.out p_6.out (by omega) (by omega) (mem2 (by show 1 ≤ _; omega) (by show 1 ≤ _; omega)) (fun h hh => Nat.le_trans (HM4.out h hh) (by omega)) wL_good (by rw [HP4.out]; exact wP_good) (r := [[1, 2], [2, 3]]) (by rw [HP4.out]; exact wW)).mono ?_
  rintro e W7 ⟨A7, c7, z7, H7, rfl, hl7, hn7, g⟩
  have s1_7 := Lib.hid (reads_on s1_6.out g)
  have s2_7 := Lib.hid (reads_on s2_6.out g)
  have l_7 := Lib.hid (l_6.out.on g)
  have p_7 := Lib.hid (p_6.out.on g)
  have b_7 := Lib.hid (reads_on b_6.out g)
  have bb_7 := bb_6.trans (g.mono bb_6.size)
  have i_7 := Lib.hid (hn7)
  clear s1_6 s2_6 l_6 p_6 b_6 bb_6 g
  have HI7 := Lib.hid hl7
  obtain rfl : z7 = 2 := by rw [← hn7.1, show H7.length = (listsOf H7).length by simp [listsOf], hl7]; rfl
  have HIm : Hid (∀ h ∈ H7, h.n ≤ 1048576) := Lib.hid (fun h hh => by
    rw [← (hn7.2.2 h hh).1]
    have : h.l ∈ listsOf H7 := List.mem_map.2 ⟨h, hh, rfl⟩
    rw [hl7] at this
    simp at this
    rcases this with e | e <;> rw [e] <;> decide)
  clear hl7 hn7
  go_wp2_with fail
  refine (bands_no [⟨(some ⟨w.heap.size, 0, none⟩), 1, 1, w1⟩, ⟨(some ⟨w.heap.size + 1, 0, none⟩), 1, 1, w2⟩] 2 (some ⟨w.heap.size + 1 + 1, 0, none⟩) 2 _ l_7.out (by omega) (mem2 (by show 1 ≤ _; omega) (by show 1 ≤ _; omega)) wL_no).mono ?_
  rintro e W8 ⟨rfl, g⟩
  have s1_8 := Lib.hid (reads_on s1_7.out g)
  have s2_8 := Lib.hid (reads_on s2_7.out g)
  have l_8 := Lib.hid (l_7.out.on g)
  have p_8 := Lib.hid (p_7.out.on g)
  have b_8 := Lib.hid (reads_on b_7.out g)
  have i_8 := Lib.hid (i_7.out.on g)
  have bb_8 := bb_7.trans (g.mono bb_7.size)
  clear s1_7 s2_7 l_7 p_7 b_7 i_7 bb_7 g
  obtain ⟨b1, o1, a11, m11, c11, rfl, hb1, p1, pl1, ps1, pr1⟩ := Nest.set p_8.out HP4.out 1 (by decide)
  obtain ⟨b3, o3, a33, m33, c33, e3, hb3, p3, pl3, ps3, pr3⟩ := Nest.set p_8.out HP4.out 3 (by decide)
  injection e3 with e3
  injection e3 with e31 e32
  subst e31 e32
  have k1 := Lib.hid (show Reads _ _ 2 a11 m11 (rcells q1) from pr1)
  have k3 := Lib.hid (show Reads _ _ 2 a33 m33 (rcells q3) from pr3)
  obtain rfl : m11 = 1 := pl1.symm
  obtain rfl : m33 = 1 := pl3.symm
  have r1_8 := Lib.hid k1.out
  have r3_8 := Lib.hid k3.out
  have cc1_8 := Lib.hid p1
  have cc3_8 := Lib.hid p3
  clear pl1 ps1 pr1 pl3 ps3 pr3 k1 k3 p1 p3
  have p1 := cc1_8.out
  go_wp2_with fail
  clear p1
  have g_9 : Below W8.heap.size W8 (W8.alloc (.cells #[.int .i64 97, .int .i64 98] 50)) := below_new _ _
  have s1_9 := Lib.hid (reads_on s1_8.out g_9)
  have s2_9 := Lib.hid (reads_on s2_8.out g_9)
  have l_9 := Lib.hid (l_8.out.on g_9)
  have p_9 := Lib.hid (p_8.out.on g_9)
  have b_9 := Lib.hid (reads_on b_8.out g_9)
  have i_9 := Lib.hid (i_8.out.on g_9)
  have r1_9 := Lib.hid (reads_on r1_8.out g_9)
  have r3_9 := Lib.hid (reads_on r3_8.out g_9)
  have cc1_9 := Lib.hid (kept_cell g_9 cc1_8.out)
  have cc3_9 := Lib.hid (kept_cell g_9 cc3_8.out)
  have bb_9 := bb_8.trans (g_9.mono bb_8.size)
  have x1_9 := Lib.hid (reads_litB W8 (W8.heap.size) (by first | rfl | omega) 50 2 1 (rcells q1) #[.int .i64 97, .int .i64 98] rfl rfl)
  clear s1_8 s2_8 l_8 p_8 b_8 i_8 r1_8 r3_8 cc1_8 cc3_8 bb_8 g_9
  have hz_9 : (W8.alloc (.cells #[.int .i64 97, .int .i64 98] 50)).heap.size = W8.heap.size + 1 := by simp
  generalize W8.alloc (.cells #[.int .i64 97, .int .i64 98] 50) = W9 at *
  refine (keep_yes (P := q1) (Q := q1) rfl rfl r1_9.out x1_9.out (by decide) rfl).mono ?_
  rintro e W10 ⟨rfl, g⟩
  have s1_10 := Lib.hid (reads_on s1_9.out g)
  have s2_10 := Lib.hid (reads_on s2_9.out g)
  have l_10 := Lib.hid (l_9.out.on g)
  have p_10 := Lib.hid (p_9.out.on g)
  have b_10 := Lib.hid (reads_on b_9.out g)
  have i_10 := Lib.hid (i_9.out.on g)
  have r3_10 := Lib.hid (reads_on r3_9.out g)
  have cc3_10 := Lib.hid (kept_cell g cc3_9.out)
  have bb_10 := bb_9.trans (g.mono bb_9.size)
  clear s1_9 s2_9 l_9 p_9 b_9 i_9 r1_9 r3_9 cc1_9 cc3_9 x1_9 bb_9 g
  have p3 := cc3_10.out
  go_wp2_with fail
  clear p3
  have g_11 : Below W10.heap.size W10 (W10.alloc (.cells #[.int .i64 101, .int .i64 102] 50)) := below_new _ _
  have s1_11 := Lib.hid (reads_on s1_10.out g_11)
  have s2_11 := Lib.hid (reads_on s2_10.out g_11)
  have l_11 := Lib.hid (l_10.out.on g_11)
  have p_11 := Lib.hid (p_10.out.on g_11)
  have b_11 := Lib.hid (reads_on b_10.out g_11)
  have i_11 := Lib.hid (i_10.out.on g_11)
  have r3_11 := Lib.hid (reads_on r3_10.out g_11)
  have cc3_11 := Lib.hid (kept_cell g_11 cc3_10.out)
  have bb_11 := bb_10.trans (g_11.mono bb_10.size)
  have x3_11 := Lib.hid (reads_litB W10 (W10.heap.size) (by first | rfl | omega) 50 2 1 (rcells q3) #[.int .i64 101, .int .i64 102] rfl rfl)
  clear s1_10 s2_10 l_10 p_10 b_10 i_10 r3_10 cc3_10 bb_10 g_11
  have hz_11 : (W10.alloc (.cells #[.int .i64 101, .int .i64 102] 50)).heap.size = W10.heap.size + 1 := by simp
  generalize W10.alloc (.cells #[.int .i64 101, .int .i64 102] 50) = W11 at *
  refine (keep_yes (P := q3) (Q := q3) rfl rfl r3_11.out x3_11.out (by decide) rfl).mono ?_
  rintro e W12 ⟨rfl, g⟩
  have s1_12 := Lib.hid (reads_on s1_11.out g)
  have s2_12 := Lib.hid (reads_on s2_11.out g)
  have b_12 := Lib.hid (reads_on b_11.out g)
  have i_12 := Lib.hid (i_11.out.on g)
  have bb_12 := bb_11.trans (g.mono bb_11.size)
  clear s1_11 s2_11 l_11 p_11 b_11 i_11 r3_11 cc3_11 x3_11 bb_11 g
  go_wp2_with fail
  have g_13 : Below W12.heap.size W12 (W12.alloc (.cells #[.int .i64 0, .int .i64 0, .int .i64 97, .int .i64 1, .int .i64 99, .int .i64 2, .int .i64 101, .int .i64 3, .int .i64 103, .int .i64 0] 40)) := below_new _ _
  have s1_13 := Lib.hid (reads_on s1_12.out g_13)
  have s2_13 := Lib.hid (reads_on s2_12.out g_13)
  have b_13 := Lib.hid (reads_on b_12.out g_13)
  have i_13 := Lib.hid (i_12.out.on g_13)
  have bb_13 := bb_12.trans (g_13.mono bb_12.size)
  have xb_13 := Lib.hid (reads_litB W12 (W12.heap.size) (by first | rfl | omega) 40 2 5 (rcells wB) #[.int .i64 0, .int .i64 0, .int .i64 97, .int .i64 1, .int .i64 99, .int .i64 2, .int .i64 101, .int .i64 3, .int .i64 103, .int .i64 0] rfl rfl)
  clear s1_12 s2_12 b_12 i_12 bb_12 g_13
  have hz_13 : (W12.alloc (.cells #[.int .i64 0, .int .i64 0, .int .i64 97, .int .i64 1, .int .i64 99, .int .i64 2, .int .i64 101, .int .i64 3, .int .i64 103, .int .i64 0] 40)).heap.size = W12.heap.size + 1 := by simp
  generalize W12.alloc (.cells #[.int .i64 0, .int .i64 0, .int .i64 97, .int .i64 1, .int .i64 99, .int .i64 2, .int .i64 101, .int .i64 3, .int .i64 103, .int .i64 0] 40) = W13 at *
  refine (keepBands_yes (P := wB) (Q := wB) rfl rfl b_13.out xb_13.out (by decide) rfl).mono ?_
  rintro e W14 ⟨rfl, g⟩
  have s1_14 := Lib.hid (reads_on s1_13.out g)
  have s2_14 := Lib.hid (reads_on s2_13.out g)
  have i_14 := Lib.hid (i_13.out.on g)
  have bb_14 := bb_13.trans (g.mono bb_13.size)
  clear s1_13 s2_13 b_13 i_13 xb_13 bb_13 g
  go_wp2_with fail
  have g_15 : Below W14.heap.size W14 (W14.alloc (.cells #[.int .i64 1, .int .i64 2] 3)) := below_new _ _
  have s1_15 := Lib.hid (reads_on s1_14.out g_15)
  have s2_15 := Lib.hid (reads_on s2_14.out g_15)
  have i_15 := Lib.hid (i_14.out.on g_15)
  have bb_15 := bb_14.trans (g_15.mono bb_14.size)
  have y1_15 := Lib.hid (reads_litB W14 (W14.heap.size) (by first | rfl | omega) 3 1 2 (icells [1, 2]) #[.int .i64 1, .int .i64 2] rfl rfl)
  clear s1_14 s2_14 i_14 bb_14 g_15
  have hz_15 : (W14.alloc (.cells #[.int .i64 1, .int .i64 2] 3)).heap.size = W14.heap.size + 1 := by simp
  generalize W14.alloc (.cells #[.int .i64 1, .int .i64 2] 3) = W15 at *
  have g_16 : Below W15.heap.size W15 (W15.alloc (.cells #[.int .i64 2, .int .i64 3] 3)) := below_new _ _
  have s1_16 := Lib.hid (reads_on s1_15.out g_16)
  have s2_16 := Lib.hid (reads_on s2_15.out g_16)
  have i_16 := Lib.hid (i_15.out.on g_16)
  have y1_16 := Lib.hid (reads_on y1_15.out g_16)
  have bb_16 := bb_15.trans (g_16.mono bb_15.size)
  have y2_16 := Lib.hid (reads_litB W15 (W14.heap.size + 1) (by first | rfl | omega) 3 1 2 (icells [2, 3]) #[.int .i64 2, .int .i64 3] rfl rfl)
  clear s1_15 s2_15 i_15 y1_15 bb_15 g_16
  have hz_16 : (W15.alloc (.cells #[.int .i64 2, .int .i64 3] 3)).heap.size = W15.heap.size + 1 := by simp
  generalize W15.alloc (.cells #[.int .i64 2, .int .i64 3] 3) = W16 at *
  have g_17 : Below W16.heap.size W16 (W16.alloc (.cells #[.slice (some ⟨W14.heap.size, 0, none⟩) 2 2, .slice (some ⟨W14.heap.size + 1, 0, none⟩) 2 2] 45)) := below_new _ _
  have s1_17 := Lib.hid (reads_on s1_16.out g_17)
  have s2_17 := Lib.hid (reads_on s2_16.out g_17)
  have i_17 := Lib.hid (i_16.out.on g_17)
  have y1_17 := Lib.hid (reads_on y1_16.out g_17)
  have y2_17 := Lib.hid (reads_on y2_16.out g_17)
  have bb_17 := bb_16.trans (g_17.mono bb_16.size)
  have yl_17 := Lib.hid (nestI_litB W16 (W14.heap.size + 1 + 1) (by first | rfl | omega) [⟨(some ⟨W14.heap.size, 0, none⟩), 2, 2, [1, 2]⟩, ⟨(some ⟨W14.heap.size + 1, 0, none⟩), 2, 2, [2, 3]⟩] 2 #[.slice (some ⟨W14.heap.size, 0, none⟩) 2 2, .slice (some ⟨W14.heap.size + 1, 0, none⟩) 2 2] rfl rfl (mem2 ⟨rfl, y1_16.out⟩ ⟨rfl, y2_16.out⟩))
  clear s1_16 s2_16 i_16 y1_16 y2_16 bb_16 g_17
  have hz_17 : (W16.alloc (.cells #[.slice (some ⟨W14.heap.size, 0, none⟩) 2 2, .slice (some ⟨W14.heap.size + 1, 0, none⟩) 2 2] 45)).heap.size = W16.heap.size + 1 := by simp
  generalize W16.alloc (.cells #[.slice (some ⟨W14.heap.size, 0, none⟩) 2 2, .slice (some ⟨W14.heap.size + 1, 0, none⟩) 2 2] 45) = W17 at *
  refine (keepLists_yes i_17.out yl_17.out (by omega) HIm.out (by rw [HI7.out]; rfl)).mono ?_
  rintro e W18 ⟨rfl, g⟩
  have s1_18 := Lib.hid (reads_on s1_17.out g)
  have s2_18 := Lib.hid (reads_on s2_17.out g)
  have bb_18 := bb_17.trans (g.mono bb_17.size)
  clear s1_17 s2_17 i_17 y1_17 y2_17 yl_17 bb_17 g
  go_wp2_with fail
  go_ret
  exact ⟨rfl, bb_18⟩
end Go.Proofs.Ythaageiflimnnaa
/- From the rows' readings of slices of ranges and of integers to the words of the walks. -/
namespace Go.Proofs.Ythaageiflimnnaa
open Go.ChangeShapes Go.WideShapes Go.ChangeAt Go.RowKit Go.Deep
set_option linter.unusedVariables false
theorem laidOut : laidOutB Try.prog = true := by kernel_rfl
theorem own : ownKnob Try.prog.godebug = none := by kernel_rfl
theorem cells41 : Try.prog.cellsOf 50 = 2 := by kernel_rfl
theorem cells3 : Try.prog.cellsOf 3 = 1 := by kernel_rfl

set_option maxRecDepth 4000 in
theorem row41 {H : Type} {enc : TypeId × Value → H} {w : World} {base : Nat} {sp : Nat → Bool} {held : Bool} {fuel : Nat} {cs : List Value} {x : DataW H × List MemPlace}
    (h : DataW.trod enc Try.prog w base sp held fuel 50 cs = some x) : ∃ r : Rg, cs = rcell r := by
  obtain ⟨xs, n, _, rfl, hl, hlen, hf⟩ := DataW.trod_struct Try.underlying50 h
  rw [cells41] at hl
  match cs, hl with
  | [c0, c1], _ =>
    match xs, hlen with
    | [y0, y1], _ =>
      have f0 := hf 0 _ rfl
      have f1 := hf 1 _ rfl
      obtain ⟨n0, e0, _, _⟩ := DataW.trod_int Try.underlying3 (show DataW.trod enc Try.prog w base sp held n 3 [c0] = some y0 from f0)
      obtain ⟨n1, e1, _, _⟩ := DataW.trod_int Try.underlying3 (show DataW.trod enc Try.prog w base sp held n 3 [c1] = some y1 from f1)
      injection e0 with e0
      injection e1 with e1
      exact ⟨(n0, n1), by rw [e0, e1]; rfl⟩

/-- A slice of ranges that came in. -/
theorem open_set {H : Type} {enc : TypeId × Value → H} {w : World} {base : Nat} {held : Bool} {fuel : Nat} {t : TypeId} {a : Option Addr} {len cap : Nat} {x : DataW H × List MemPlace} (ht : Try.prog.underlying t = some (.slice 50))
    (h : DataW.trod enc Try.prog w base (fun _ => true) held fuel t [.slice a len cap] = some x) : ∃ l : List Rg, l.length = len ∧ Shp a len cap ∧ Reads w w.heap.size 2 a len (rcells l) := by
  rcases open_slice ht h with ⟨h0, _⟩ | ⟨ad, len', cap', m, n, D, Pl, hcs, hb, hl, hm, hmm, hx, hi⟩
  · simp at h0
    obtain ⟨rfl, rfl, rfl⟩ := h0
    exact ⟨[], rfl, ⟨fun _ => rfl, Nat.le_refl _, Nat.zero_le _⟩, ⟨rfl, fun h => absurd h (by omega)⟩⟩
  · simp at hcs
    obtain ⟨rfl, rfl, rfl⟩ := hcs
    have hlm : len ≤ m := by rw [hmm]; simpa using hl
    have hr : ∀ i, i < len → ∃ r : Rg, w.cell? (ad.add (i * 2)) = some (.int .i64 r.1) ∧ w.cell? (ad.add (i * 2 + 1)) = some (.int .i64 r.2) := by
      intro i hilt
      obtain ⟨cs', hc, htr⟩ := hi i (by omega)
      obtain ⟨r, rfl⟩ := row41 htr
      rw [cells41] at hc
      obtain ⟨_, _, hat⟩ := World.cells?_some hc
      refine ⟨r, ?_, ?_⟩
      · have := hat 0 (by omega)
        simpa [Addr.add, rcell] using this
      · have := hat 1 (by omega)
        rw [Go.Deep.add_add] at this
        exact this
    have hch : ∃ f : Nat → Rg, ∀ i, i < len → w.cell? (ad.add (i * 2)) = some (.int .i64 (f i).1) ∧ w.cell? (ad.add (i * 2 + 1)) = some (.int .i64 (f i).2) :=
      ⟨fun i => if h : i < len then Classical.choose (hr i h) else (0, 0), fun i h => by
        simp only [dif_pos h]
        exact Classical.choose_spec (hr i h)⟩
    obtain ⟨f, hf⟩ := hch
    refine ⟨(List.range len).map f, by simp, ⟨fun h => (by cases h), hl, hm⟩, ⟨by rw [rcells_len]; simp, fun hn => ?_⟩⟩
    obtain ⟨b, off, spot⟩ := ad
    have hspot : spot = none := by simpa [Addr.add] using World.cell?_spot (hf 0 hn).1
    subst hspot
    have hbl : b < w.heap.size := by
      have := World.block_lt_of_cell? _ _ (hf 0 hn).1
      simpa [Addr.add] using this
    refine ⟨b, off, rfl, hbl, fun j u hj => ?_⟩
    have hj' : j < len * 2 := by
      have := (List.getElem?_eq_some_iff.1 hj).1
      rw [rcells_len] at this
      simpa using this
    have hk : j / 2 < ((List.range len).map f).length := by simp; omega
    obtain ⟨e0, e1⟩ := rcells_at ((List.range len).map f) (j / 2) hk
    have hfk := hf (j / 2) (by omega)
    rw [Go.WideShapes.add_plain, Go.WideShapes.add_plain] at hfk
    rcases Nat.mod_two_eq_zero_or_one j with e | e
    · have ej : j = j / 2 * 2 := by omega
      rw [ej] at hj ⊢
      rw [e0] at hj
      rw [hfk.1, ← Option.some.inj hj]
      simp
    · have ej : j = j / 2 * 2 + 1 := by omega
      rw [ej] at hj ⊢
      rw [e1] at hj
      rw [hfk.2, ← Option.some.inj hj]
      simp

/-- A slice of integers that came in. -/
theorem open_row {H : Type} {enc : TypeId × Value → H} {w : World} {base : Nat} {held : Bool} {fuel : Nat} {t : TypeId} {a : Option Addr} {len cap : Nat} {x : DataW H × List MemPlace} (ht : Try.prog.underlying t = some (.slice 3))
    (h : DataW.trod enc Try.prog w base (fun _ => true) held fuel t [.slice a len cap] = some x) : ∃ l : List Int, l.length = len ∧ Shp a len cap ∧ Reads w w.heap.size 1 a len (icells l) := by
  rcases open_slice ht h with ⟨h0, _⟩ | ⟨ad, len', cap', m, n, D, Pl, hcs, hb, hl, hm, hmm, hx, hi⟩
  · simp at h0
    obtain ⟨rfl, rfl, rfl⟩ := h0
    exact ⟨[], rfl, ⟨fun _ => rfl, Nat.le_refl _, Nat.zero_le _⟩, ⟨rfl, fun h => absurd h (by omega)⟩⟩
  · simp at hcs
    obtain ⟨rfl, rfl, rfl⟩ := hcs
    have hlm : len ≤ m := by rw [hmm]; simpa using hl
    have hr : ∀ i, i < len → ∃ r : Int, w.cell? (ad.add i) = some (.int .i64 r) := by
      intro i hilt
      obtain ⟨cs', hc, htr⟩ := hi i (by omega)
      obtain ⟨r, rfl, _⟩ := DataW.trod_int Try.underlying3 htr
      rw [cells3] at hc
      obtain ⟨_, _, hat⟩ := World.cells?_some hc
      refine ⟨r, ?_⟩
      have := hat 0 (by omega)
      simpa [Addr.add] using this
    have hch : ∃ f : Nat → Int, ∀ i, i < len → w.cell? (ad.add i) = some (.int .i64 (f i)) :=
      ⟨fun i => if h : i < len then Classical.choose (hr i h) else 0, fun i h => by
        simp only [dif_pos h]
        exact Classical.choose_spec (hr i h)⟩
    obtain ⟨f, hf⟩ := hch
    refine ⟨(List.range len).map f, by simp, ⟨fun h => (by cases h), hl, hm⟩, ⟨by rw [icells_len]; simp, fun hn => ?_⟩⟩
    obtain ⟨b, off, spot⟩ := ad
    have hspot : spot = none := by simpa [Addr.add] using World.cell?_spot (hf 0 hn)
    subst hspot
    have hbl : b < w.heap.size := by
      have := World.block_lt_of_cell? _ _ (hf 0 hn)
      simpa [Addr.add] using this
    refine ⟨b, off, rfl, hbl, fun j u hj => ?_⟩
    have hj' : j < len := by
      have := (List.getElem?_eq_some_iff.1 hj).1
      rw [icells_len] at this
      simpa using this
    have hfk := hf j hj'
    rw [Go.WideShapes.add_plain] at hfk
    rw [hfk, ← hj]
    simp [icells, hj']
end Go.Proofs.Ythaageiflimnnaa
/- A slice of sets that came in. -/
namespace Go.Proofs.Ythaageiflimnnaa
open Go.ChangeShapes Go.WideShapes Go.ChangeAt Go.RowKit Go.Deep
set_option linter.unusedVariables false
set_option linter.unusedSimpArgs false
theorem cells48 : Try.prog.cellsOf 48 = 1 := by kernel_rfl
theorem open_hd {H : Type} {enc : TypeId × Value → H} {w : World} {base : Nat} {held : Bool} {fuel : Nat} {cs : List Value} {x : DataW H × List MemPlace}
    (h : DataW.trod enc Try.prog w base (fun _ => true) held fuel 48 cs = some x) : ∃ d : Hd, cs = [d.v] ∧ d.ok w w.heap.size := by
  have key : ∀ a len cap, cs = [.slice a len cap] → ∃ d : Hd, cs = [d.v] ∧ d.ok w w.heap.size := by
    intro a len cap e
    subst e
    obtain ⟨l, h1, h2, h3⟩ := open_set Try.underlying48 h
    exact ⟨⟨a, len, cap, l⟩, rfl, h1, h2, h3⟩
  rcases open_slice Try.underlying48 h with ⟨h0, _⟩ | ⟨ad, len', cap', m, n, D, Pl, hcs, _⟩
  · exact key _ _ _ h0
  · exact key _ _ _ hcs
theorem open_sets {H : Type} {enc : TypeId × Value → H} {w : World} {base : Nat} {held : Bool} {fuel : Nat} {t : TypeId} {a : Option Addr} {len cap : Nat} {x : DataW H × List MemPlace} (ht : Try.prog.underlying t = some (.slice 48))
    (h : DataW.trod enc Try.prog w base (fun _ => true) held fuel t [.slice a len cap] = some x) : ∃ l : List Hd, l.length = len ∧ Shp a len cap ∧ Nest w w.heap.size a len l := by
  rcases open_slice ht h with ⟨h0, _⟩ | ⟨ad, len', cap', m, n, D, Pl, hcs, hb, hl, hm, hmm, hx, hi⟩
  · simp at h0
    obtain ⟨rfl, rfl, rfl⟩ := h0
    exact ⟨[], rfl, ⟨fun _ => rfl, Nat.le_refl _, Nat.zero_le _⟩, rfl, ⟨rfl, fun h => absurd h (by omega)⟩, fun h hh => by simp at hh⟩
  · simp at hcs
    obtain ⟨rfl, rfl, rfl⟩ := hcs
    have hlm : len ≤ m := by rw [hmm]; simpa using hl
    have hr : ∀ i, i < len → ∃ d : Hd, w.cell? (ad.add i) = some d.v ∧ d.ok w w.heap.size := by
      intro i hilt
      obtain ⟨cs', hc, htr⟩ := hi i (by omega)
      obtain ⟨d, rfl, hd⟩ := open_hd htr
      rw [cells48] at hc
      obtain ⟨_, _, hat⟩ := World.cells?_some hc
      refine ⟨d, ?_, hd⟩
      have := hat 0 (by omega)
      simpa [Addr.add] using this
    have hch : ∃ f : Nat → Hd, ∀ i, i < len → w.cell? (ad.add i) = some (f i).v ∧ (f i).ok w w.heap.size :=
      ⟨fun i => if h : i < len then Classical.choose (hr i h) else ⟨none, 0, 0, []⟩, fun i h => by
        simp only [dif_pos h]
        exact Classical.choose_spec (hr i h)⟩
    obtain ⟨f, hf⟩ := hch
    refine ⟨(List.range len).map f, by simp, ⟨fun h => (by cases h), hl, hm⟩, by simp, ⟨by rw [hcells_len]; simp, fun hn => ?_⟩, ?_⟩
    · obtain ⟨b, off, spot⟩ := ad
      have hspot : spot = none := by simpa [Addr.add] using World.cell?_spot (hf 0 hn).1
      subst hspot
      have hbl : b < w.heap.size := by
        have := World.block_lt_of_cell? _ _ (hf 0 hn).1
        simpa [Addr.add] using this
      refine ⟨b, off, rfl, hbl, fun j u hj => ?_⟩
      have hj' : j < len := by
        have := (List.getElem?_eq_some_iff.1 hj).1
        rw [hcells_len] at this
        simpa using this
      have hfk := (hf j hj').1
      rw [Go.WideShapes.add_plain] at hfk
      rw [hfk, ← hj]
      simp [hcells, hj']
    · intro d hd
      obtain ⟨i, hi, rfl⟩ := List.mem_map.1 hd
      exact (hf i (List.mem_range.1 hi)).2
end Go.Proofs.Ythaageiflimnnaa
