/- JMath, Join, Of, Union, Has, Same, NMath, Not, RefGood, Wake0, Both, LawKit, Nest: joined. -/
import Derived.Test.YthaageiflimnnaaGrpA
import Derived.Shelf.SlSortCmp.NoneTotal
import Derived.Lib.SliceRun
import Derived.Lib.AppendZeros
import Derived.Deep.CutRange
/- Joining ranges that stand in order, in plain mathematics. -/
namespace Go.Proofs.Ythaageiflimnnaa
set_option linter.unusedVariables false

/-- Ranges in order. -/
def SortR (l : List Rg) : Prop := ∀ i j (hi : i < l.length) (hj : j < l.length), i < j → l[i].1 ≤ l[j].1

/-- What has been joined of the first k. -/
def JInv (l : List Rg) (k : Nat) (acc : List Rg) : Prop :=
  acc.length ≤ k ∧ (∀ v, Sc v → (In acc v ↔ In (l.take k) v)) ∧ (acc = [] ∨ ∃ t x m, acc = t ++ [x] ∧ Upto t m ∧ m < x.1 ∧ Ok x ∧ ∀ j (hj : j < l.length), k ≤ j → x.1 ≤ l[j].1)
theorem jInv_start (l : List Rg) : JInv l 0 [] := ⟨Nat.le_refl _, fun v _ => by simp, .inl rfl⟩
theorem jInv_end {l acc : List Rg} {k : Nat} (h : JInv l k acc) (hk : ¬ k < l.length) : IsSet acc (In l) := by
  obtain ⟨_, h, h2⟩ := h
  rw [List.take_of_length_le (by omega)] at h
  refine ⟨?_, h⟩
  rcases h2 with rfl | ⟨t, x, m, rfl, hu, hm, hx, _⟩
  · trivial
  · exact (hu.snoc hm hx).gd
theorem In_take (l : List Rg) (k : Nat) (hk : k < l.length) (v : Int) : In (l.take (k + 1)) v ↔ In (l.take k) v ∨ (l[k].1 ≤ v ∧ v ≤ l[k].2) := by
  rw [List.take_succ_eq_append_getElem hk, In_app, In_one]
theorem jInv_first {l : List Rg} {k : Nat} (h : JInv l k []) (hk : k < l.length) (hs : SortR l) (ho : Ok l[k]) : JInv l (k + 1) [l[k]] := by
  obtain ⟨_, h, _⟩ := h
  refine ⟨by simp, fun v hv => ?_, .inr ⟨[], l[k], -1, rfl, Upto.nil, by have := ho.1; unfold Sc at this; omega, ho, fun j hj hkj => hs k j hk hj (by omega)⟩⟩
  rw [In_take l k hk, ← h v hv, In_one]
  simp [In_nil]
theorem jInv_apart {l t : List Rg} {k : Nat} {x : Rg} (h : JInv l k (t ++ [x])) (hk : k < l.length) (hs : SortR l) (ho : Ok l[k]) (ha : apB x l[k] = true) : JInv l (k + 1) (t ++ [x] ++ [l[k]]) := by
  obtain ⟨hl, h, h2⟩ := h
  rcases h2 with h2 | ⟨t', x', m, e, hu, hm, hx, hle⟩
  · simp at h2
  · obtain ⟨rfl, e2⟩ := List.append_inj' e rfl
    simp at e2
    subst e2
    have hlt := (apB_iff hx ho).1 ha
    refine ⟨by simp at *; omega, fun v hv => ?_, .inr ⟨t ++ [x], l[k], nx x.2, rfl, hu.snoc hm hx, hlt, ho, fun j hj hkj => hs k j hk hj (by omega)⟩⟩
    rw [In_app, h v hv, In_take l k hk, In_one]
theorem ok_max {x r : Rg} (hx : Ok x) (hr : Ok r) : Ok (x.1, max x.2 r.2) := by
  obtain ⟨a, b, c⟩ := hx
  obtain ⟨d, e, f⟩ := hr
  refine ⟨a, ?_, ?_⟩
  · show Sc (max x.2 r.2)
    rcases Int.le_total x.2 r.2 with h | h
    · rw [Int.max_eq_right h]; exact e
    · rw [Int.max_eq_left h]; exact b
  · show x.1 ≤ max x.2 r.2
    omega
theorem jInv_join {l t : List Rg} {k : Nat} {x : Rg} (h : JInv l k (t ++ [x])) (hk : k < l.length) (hs : SortR l) (ho : Ok l[k]) (ha : apB x l[k] = false) : JInv l (k + 1) (t ++ [(x.1, max x.2 l[k].2)]) := by
  obtain ⟨hl, h, h2⟩ := h
  rcases h2 with h2 | ⟨t', x', m, e, hu, hm, hx, hle⟩
  · simp at h2
  · obtain ⟨rfl, e2⟩ := List.append_inj' e rfl
    simp at e2
    subst e2
    have hlt : ¬ nx x.2 < l[k].1 := fun hlt => by rw [(apB_iff hx ho).2 hlt] at ha; cases ha
    have h1 := hle k hk (Nat.le_refl _)
    refine ⟨by simp at *; omega, fun v hv => ?_, .inr ⟨t, _, m, rfl, hu, hm, ok_max hx ho, fun j hj hkj => hle j hj (by omega)⟩⟩
    rw [In_app, In_one, In_take l k hk, ← h v hv, In_app, In_one]
    have hn := fun hlt => nx_le hx.2.1 hv hlt
    constructor
    · rintro (h3 | ⟨h3, h4⟩)
      · exact .inl (.inl h3)
      · by_cases h5 : v ≤ x.2
        · exact .inl (.inr ⟨h3, h5⟩)
        · have := hn (by omega)
          refine .inr ⟨by omega, ?_⟩
          have h4' : v ≤ max x.2 l[k].2 := h4
          omega
    · rintro ((h3 | ⟨h3, h4⟩) | ⟨h3, h4⟩)
      · exact .inl h3
      · exact .inr ⟨h3, by show v ≤ max x.2 l[k].2; omega⟩
      · exact .inr ⟨by show x.1 ≤ v; omega, by show v ≤ max x.2 l[k].2; omega⟩
theorem In_perm {l m : List Rg} (h : l.Perm m) (v : Int) : In l v ↔ In m v :=
  ⟨fun ⟨r, hr, k⟩ => ⟨r, h.mem_iff.1 hr, k⟩, fun ⟨r, hr, k⟩ => ⟨r, h.mem_iff.2 hr, k⟩⟩
end Go.Proofs.Ythaageiflimnnaa
/- What joined returns: the set of the scalars of ranges. -/
namespace Go.Proofs.Ythaageiflimnnaa
open Go.RowKit Go.BigFrame
set_option linter.unusedVariables false
set_option linter.unusedSimpArgs false

/-- What joined leaves. -/
def OutJoin (l : List Rg) (base : Nat) (w : World) (e : Ending) (w' : World) : Prop :=
  ∃ (s : List Rg) (A : Option Addr) (c : Nat), e = .returned (.slice A s.length c) ∧ Shp A s.length c ∧ IsSet s (In l) ∧ s.length ≤ l.length ∧ Reads w' w'.heap.size 2 A s.length (rcells s) ∧ Below base w w'

end Go.Proofs.Ythaageiflimnnaa
/- What slices.Clone and Of return. -/
namespace Go.Proofs.Ythaageiflimnnaa
open Go.RowKit Go.BigFrame
set_option linter.unusedVariables false
set_option linter.unusedSimpArgs false

/-- A new row that holds these ranges. -/
def OutOwn (l : List Rg) (n : Nat) (w : World) (e : Ending) (w' : World) : Prop :=
  ∃ (A : Option Addr) (c : Nat), e = .returned (.slice A n c) ∧ w'.ownsRow w.heap.size 50 2 (.slice A n c) n (rcells l) ∧ Below w.heap.size w w'

/-- What Of, Union, Both and Not leave: a set, in a new row. -/
def OutSet (p : Int → Prop) (m : Nat) (w : World) (e : Ending) (w' : World) : Prop :=
  ∃ (s : List Rg) (A : Option Addr) (c : Nat), e = .returned (.tuple #[.slice A s.length c, .bool true]) ∧ Shp A s.length c ∧ IsSet s p ∧ s.length ≤ m ∧ Reads w' w'.heap.size 2 A s.length (rcells s) ∧ Below w.heap.size w w'
def OutNo (w : World) (e : Ending) (w' : World) : Prop := e = .returned (.tuple #[.slice none 0 0, .bool false]) ∧ Below w.heap.size w w'

def allOk (l : List Rg) : Bool := l.all mayB

end Go.Proofs.Ythaageiflimnnaa
/- What slices.Grow, slices.Concat and Union return. -/
namespace Go.Proofs.Ythaageiflimnnaa
open Go.RowKit Go.BigFrame
set_option linter.unusedVariables false
set_option linter.unusedSimpArgs false

end Go.Proofs.Ythaageiflimnnaa
/- What slices.IndexFunc, slices.ContainsFunc and Has return. -/
namespace Go.Proofs.Ythaageiflimnnaa
open Go.RowKit Go.BigFrame
set_option linter.unusedVariables false
set_option linter.unusedSimpArgs false

theorem inB_take (l : List Rg) (k : Nat) (hk : k < l.length) (v : Int) : inB (l.take (k + 1)) v = (inB (l.take k) v || (decide (l[k].1 ≤ v) && decide (v ≤ l[k].2))) := by
  rw [List.take_succ_eq_append_getElem hk]
  unfold inB
  rw [List.any_append]
  simp
theorem inB_at (l : List Rg) (k : Nat) (hk : k < l.length) (v : Int) (h : (decide (l[k].1 ≤ v) && decide (v ≤ l[k].2)) = true) : inB l v = true := by
  unfold inB
  rw [List.any_eq_true]
  exact ⟨l[k], List.getElem_mem hk, h⟩

/-- What Has tells. -/
def hasB (l : List Rg) (v : Int) : Bool := isB v && (goodB l && inB l v)

end Go.Proofs.Ythaageiflimnnaa
/- What Size, Same, Less and the statements' own test of two sets return. -/
namespace Go.Proofs.Ythaageiflimnnaa
open Go.RowKit Go.BigFrame
set_option linter.unusedVariables false
set_option linter.unusedSimpArgs false

theorem eqL_diff {P Q : List Rg} (h : ¬ P = Q) : eqL P Q = false := decide_eq_false h

set_option maxHeartbeats 1000000 in
theorem equal_same (n : Nat) (P Q : List Rg) (A B : Option Addr) (c d : Nat) (w : World) (lP : P.length = n) (lQ : Q.length = n) (hP : Reads w w.heap.size 2 A n (rcells P)) (hQ : Reads w w.heap.size 2 B n (rcells Q)) (hn : n ≤ 1048576) :
    Calls Try.prog 78 #[.slice A n c, .slice B n d] w fun e w' => e = .returned (.bool (eqL P Q)) ∧ Below w.heap.size w w' := by
  have HP := Lib.hid hP
  have HQ := Lib.hid hQ
  have LP := Lib.hid lP
  have LQ := Lib.hid lQ
  have hnn : ((n : Int) != (n : Int)) = false := by simp
  clear hP hQ lP lQ
  go_enter Try.func78, Try.ntmps78
  go_wp2_with fail
  go_loopw [13] (fun i wr => ∃ (k q : Nat), k ≤ n ∧ i = .int .i64 k ∧ wr = w.drewN q ∧ Hid (P.take k = Q.take k)) (fun i _ => n - (intOf i).toNat)
  case atStart => exact ⟨0, 0, Nat.zero_le _, rfl, rfl, Lib.hid rfl⟩
  case round =>
    obtain ⟨k, q, hk, rfl, rfl, HE⟩ := hrel
    by_cases hlt : k < n
    · have kP : k < P.length := by rw [LP.out]; exact hlt
      have kQ : k < Q.length := by rw [LQ.out]; exact hlt
      obtain ⟨b, o, rfl, _, p0, p1⟩ := HP.out.rg kP
      obtain ⟨b', o', rfl, _, q0, q1⟩ := HQ.out.rg kQ
      have HtP : Hid (P.take (k + 1) = P.take k ++ [P[k]]) := Lib.hid (List.take_succ_eq_append_getElem kP)
      have HtQ : Hid (Q.take (k + 1) = Q.take k ++ [Q[k]]) := Lib.hid (List.take_succ_eq_append_getElem kQ)
      have HK : Hid (P = Q → P[k] = Q[k]) := Lib.hid (fun h => by subst h; rfl)
      have HN : Hid (P[k] = Q[k] → P.take (k + 1) = Q.take (k + 1)) := Lib.hid (fun h => by rw [HtP.out, HtQ.out, HE.out, h])
      generalize P[k] = x at *
      generalize Q[k] = y at *
      obtain ⟨x0, x1⟩ := x
      obtain ⟨y0, y1⟩ := y
      simp only [] at p0 p1 q0 q1
      clear HtP HtQ kP kQ
      have g41 := guard41
      by_cases hxy : x0 = y0 ∧ x1 = y1
      · obtain ⟨rfl, rfl⟩ := hxy
        have hne := neq41_same x0 x1
        have HE' := Lib.hid (HN.out rfl)
        clear HN HK HE
        go_wp2_with fail
        go_quiet (fail)
        go_wp2_with fail
        go_roundw
        case rel => exact ⟨k + 1, _, by omega, by go_num, rfl, HE'⟩
        case measure => simp [intOf]; omega
      · have hne := neq41_diff x0 x1 y0 y1 hxy
        have HD : Hid (eqL P Q = false) := Lib.hid (eqL_diff (fun h => hxy (by have := HK.out h; injection this with a b; exact ⟨a, b⟩)))
        clear HN HK HE hxy
        go_wp2_with fail
        go_quiet (fail)
        go_wp2_with fail
        go_ret
        exact ⟨ret_bool HD.out.symm, below_drewN (below_drewN (Below.refl _ _) _) _⟩
    · have HD : Hid (eqL P Q = true) := Lib.hid (decide_eq_true (by
        have h := HE.out
        rw [List.take_of_length_le (by rw [LP.out]; omega), List.take_of_length_le (by rw [LQ.out]; omega)] at h
        exact h))
      go_wp2_with fail
      go_ret
      exact ⟨ret_bool HD.out.symm, below_drewN (Below.refl _ _) _⟩

theorem equal_other (n m : Nat) (A B : Option Addr) (c d : Nat) (w : World) (h : n ≠ m) :
    Calls Try.prog 78 #[.slice A n c, .slice B m d] w fun e w' => e = .returned (.bool false) ∧ Below w.heap.size w w' := by
  have h' : ((n : Int) != (m : Int)) = true := by rw [bne_iff_ne]; omega
  clear h
  go_enter Try.func78, Try.ntmps78
  go_wp2_with fail
  go_ret
  exact ⟨rfl, Below.refl _ _⟩

theorem same_n (P Q : List Rg) (n m : Nat) (lP : P.length = n) (lQ : Q.length = m) (A B : Option Addr) (c d : Nat) (w : World) (hP : Reads w w.heap.size 2 A n (rcells P)) (hQ : Reads w w.heap.size 2 B m (rcells Q)) (hn : n ≤ 1048576) :
    Calls Try.prog 60 #[.slice A n c, .slice B m d] w fun e w' => e = .returned (.bool (eqL P Q)) ∧ Below w.heap.size w w' := by
  have H : Hid (Calls Try.prog 78 #[.slice A n c, .slice B m d] w fun e w' => e = .returned (.bool (eqL P Q)) ∧ Below w.heap.size w w') := Lib.hid (by
    by_cases h : n = m
    · subst h; exact equal_same n P Q A B c d w lP lQ hP hQ hn
    · rw [eqL_diff (fun e => h (by rw [← lP, ← lQ, e]))]; exact equal_other n m A B c d w h)
  clear hP hQ
  go_enter Try.func60, Try.ntmps60
  go_wp2_with fail
  refine H.out.mono ?_
  rintro e w1 ⟨rfl, b1⟩
  go_wp2_with fail
  go_ret
  exact ⟨rfl, b1⟩

set_option maxHeartbeats 1000000 in
theorem keep_same (n : Nat) (P Q : List Rg) (A B : Option Addr) (c d : Nat) (w : World) (lP : P.length = n) (lQ : Q.length = n) (hP : Reads w w.heap.size 2 A n (rcells P)) (hQ : Reads w w.heap.size 2 B n (rcells Q)) (hn : n ≤ 1048576) :
    Calls Try.prog 28 #[.slice A n c, .slice B n d] w fun e w' => e = .returned (.bool (eqL P Q)) ∧ Below w.heap.size w w' := by
  have HP := Lib.hid hP
  have HQ := Lib.hid hQ
  have LP := Lib.hid lP
  have LQ := Lib.hid lQ
  have hnn : ((n : Int) != (n : Int)) = false := by simp
  clear hP hQ lP lQ
  go_enter Try.func28, Try.ntmps28
  go_wp2_with fail
  go_loopw [5] (fun i wr => ∃ (k q : Nat), k ≤ n ∧ i = .int .i64 k ∧ wr = w.drewN q ∧ Hid (P.take k = Q.take k)) (fun i _ => n - (intOf i).toNat)
  case atStart => exact ⟨0, 0, Nat.zero_le _, rfl, rfl, Lib.hid rfl⟩
  case round =>
    obtain ⟨k, q, hk, rfl, rfl, HE⟩ := hrel
    by_cases hlt : k < n
    · have kP : k < P.length := by rw [LP.out]; exact hlt
      have kQ : k < Q.length := by rw [LQ.out]; exact hlt
      obtain ⟨b, o, rfl, _, p0, p1⟩ := HP.out.rg kP
      obtain ⟨b', o', rfl, _, q0, q1⟩ := HQ.out.rg kQ
      have HtP : Hid (P.take (k + 1) = P.take k ++ [P[k]]) := Lib.hid (List.take_succ_eq_append_getElem kP)
      have HtQ : Hid (Q.take (k + 1) = Q.take k ++ [Q[k]]) := Lib.hid (List.take_succ_eq_append_getElem kQ)
      have HK : Hid (P = Q → P[k] = Q[k]) := Lib.hid (fun h => by subst h; rfl)
      have HN : Hid (P[k] = Q[k] → P.take (k + 1) = Q.take (k + 1)) := Lib.hid (fun h => by rw [HtP.out, HtQ.out, HE.out, h])
      generalize P[k] = x at *
      generalize Q[k] = y at *
      obtain ⟨x0, x1⟩ := x
      obtain ⟨y0, y1⟩ := y
      simp only [] at p0 p1 q0 q1
      clear HtP HtQ kP kQ
      have g41 := guard41
      by_cases hxy : x0 = y0 ∧ x1 = y1
      · obtain ⟨rfl, rfl⟩ := hxy
        have hne := neq41_same x0 x1
        have HE' := Lib.hid (HN.out rfl)
        clear HN HK HE
        go_wp2_with fail
        go_quiet (fail)
        go_wp2_with fail
        go_roundw
        case rel => exact ⟨k + 1, _, by omega, by go_num, rfl, HE'⟩
        case measure => simp [intOf]; omega
      · have hne := neq41_diff x0 x1 y0 y1 hxy
        have HD : Hid (eqL P Q = false) := Lib.hid (eqL_diff (fun h => hxy (by have := HK.out h; injection this with a b; exact ⟨a, b⟩)))
        clear HN HK HE hxy
        go_wp2_with fail
        go_quiet (fail)
        go_wp2_with fail
        go_ret
        exact ⟨ret_bool HD.out.symm, below_drewN (below_drewN (Below.refl _ _) _) _⟩
    · have HD : Hid (eqL P Q = true) := Lib.hid (decide_eq_true (by
        have h := HE.out
        rw [List.take_of_length_le (by rw [LP.out]; omega), List.take_of_length_le (by rw [LQ.out]; omega)] at h
        exact h))
      go_wp2_with fail
      go_ret
      exact ⟨ret_bool HD.out.symm, below_drewN (Below.refl _ _) _⟩

theorem keep_other (n m : Nat) (A B : Option Addr) (c d : Nat) (w : World) (h : n ≠ m) :
    Calls Try.prog 28 #[.slice A n c, .slice B m d] w fun e w' => e = .returned (.bool false) ∧ Below w.heap.size w w' := by
  have h' : ((n : Int) != (m : Int)) = true := by rw [bne_iff_ne]; omega
  clear h
  go_enter Try.func28, Try.ntmps28
  go_wp2_with fail
  go_ret
  exact ⟨rfl, Below.refl _ _⟩

theorem keep_n (P Q : List Rg) (n m : Nat) (lP : P.length = n) (lQ : Q.length = m) (A B : Option Addr) (c d : Nat) (w : World) (hP : Reads w w.heap.size 2 A n (rcells P)) (hQ : Reads w w.heap.size 2 B m (rcells Q)) (hn : n ≤ 1048576) :
    Calls Try.prog 28 #[.slice A n c, .slice B m d] w fun e w' => e = .returned (.bool (eqL P Q)) ∧ Below w.heap.size w w' := by
  by_cases h : n = m
  · subst h; exact keep_same n P Q A B c d w lP lQ hP hQ hn
  · rw [eqL_diff (fun e => h (by rw [← lP, ← lQ, e]))]; exact keep_other n m A B c d w h

theorem lessL_drop : ∀ (k : Nat) (P Q : List Rg), P.take k = Q.take k → k ≤ P.length → k ≤ Q.length → lessL P Q = lessL (P.drop k) (Q.drop k)
  | 0, P, Q, _, _, _ => rfl
  | k + 1, [], Q, _, h, _ => by simp at h
  | k + 1, x :: P, [], _, _, h => by simp at h
  | k + 1, x :: P, y :: Q, h, h1, h2 => by
    simp only [List.take_succ_cons, List.cons.injEq] at h
    obtain ⟨rfl, h⟩ := h
    simp only [List.drop_succ_cons]
    rw [← lessL_drop k P Q h (by simpa using h1) (by simpa using h2)]
    conv => lhs; unfold lessL
    rw [if_pos rfl]
theorem lessL_at {P Q : List Rg} {k : Nat} (h : P.take k = Q.take k) (h1 : k < P.length) (h2 : k < Q.length) (hne : ¬ P[k] = Q[k]) : lessL P Q = ltR P[k] Q[k] := by
  rw [lessL_drop k P Q h (by omega) (by omega), List.drop_eq_getElem_cons h1, List.drop_eq_getElem_cons h2]
  conv => lhs; unfold lessL
  rw [if_neg hne]
theorem lessL_end {P Q : List Rg} {k : Nat} (h : P.take k = Q.take k) (h1 : k ≤ P.length) (h2 : k ≤ Q.length) (he : k = P.length ∨ k = Q.length) : lessL P Q = decide (P.length < Q.length) := by
  rw [lessL_drop k P Q h h1 h2]
  rcases Nat.lt_trichotomy P.length Q.length with hl | hl | hl
  · rw [List.drop_eq_nil_of_le (show P.length ≤ k by omega), List.drop_eq_getElem_cons (show k < Q.length by omega), decide_eq_true hl]; rfl
  · rw [List.drop_eq_nil_of_le (show P.length ≤ k by omega), List.drop_eq_nil_of_le (show Q.length ≤ k by omega), decide_eq_false (by omega)]; rfl
  · rw [List.drop_eq_nil_of_le (show Q.length ≤ k by omega), List.drop_eq_getElem_cons (show k < P.length by omega), decide_eq_false (by omega)]; rfl

end Go.Proofs.Ythaageiflimnnaa
/- What is in none, and what is in both, in plain mathematics. -/
namespace Go.Proofs.Ythaageiflimnnaa
set_option linter.unusedVariables false

def fromN (F : Int) : Int := if F ≤ 1114111 then F else 0
def moreB (F : Int) : Bool := decide (F ≤ 1114111)
theorem next_from {v : Int} (h : Sc v) : nextN v = fromN (nx v) ∧ nextB v = moreB (nx v) := by
  unfold Sc at h
  unfold nextN nextB fromN moreB nx
  by_cases h1 : v = 55295
  · subst h1; decide
  · rw [if_neg h1]
    by_cases h2 : v < 1114111
    · rw [if_neg (by omega), if_neg (by omega), if_pos (by omega), decide_eq_true h2, decide_eq_true (by omega)]; exact ⟨rfl, rfl⟩
    · rw [if_pos (by omega), if_neg (by omega), decide_eq_false h2, decide_eq_false (by omega)]; exact ⟨rfl, rfl⟩
theorem prev_facts {v : Int} (h : Sc v) (h0 : 0 < v) : Sc (prevN v) ∧ prevN v < v ∧ nx (prevN v) = v := by
  unfold Sc at h ⊢
  unfold prevN nx
  rw [if_neg (by omega), if_neg (by omega)]
  split
  · have : v = 57344 := by omega
    subst this
    decide
  · refine ⟨by omega, by omega, ?_⟩
    rw [if_neg (by omega)]; omega
theorem prev_ge {u v : Int} (hu : Sc u) (hv : Sc v) (h : u < v) : u ≤ prevN v := by
  have h0 : 0 < v := by unfold Sc at hu; omega
  obtain ⟨h1, h2, h3⟩ := prev_facts hv h0
  rcases Int.lt_or_le (prevN v) u with h4 | h4
  · have := nx_le h1 hu h4; omega
  · exact h4

/-- What has been told of the first k: all that is below F and in none of them. -/
def NInv (s : List Rg) (k : Nat) (acc : List Rg) (F : Int) : Prop :=
  acc.length ≤ k ∧ (∃ m, Upto acc m ∧ m < F) ∧ (Sc F ∨ F = 1114112) ∧ (k = 0 ∧ F = 0 ∨ Gd F (s.drop k)) ∧ (∀ v, F ≤ v → In s v → In (s.drop k) v) ∧ (∀ v, Sc v → (In acc v ↔ v < F ∧ ¬ In s v))
theorem nInv_start (s : List Rg) : NInv s 0 [] 0 :=
  ⟨Nat.le_refl _, ⟨-1, Upto.nil, by omega⟩, .inl (by unfold Sc; omega), .inl ⟨rfl, rfl⟩, fun v _ h => h, fun v hv => by
    constructor
    · intro h; exact absurd h (In_nil v)
    · rintro ⟨h, _⟩; unfold Sc at hv; omega⟩
theorem nInv_gd {s acc : List Rg} {k : Nat} {F : Int} (hs : Gd (-1) s) (h : NInv s k acc F) (hk : k < s.length) : F ≤ s[k].1 ∧ F ≤ 1114111 ∧ (F = s[k].1 → F = 0) ∧ Ok s[k] ∧ Gd (nx s[k].2) (s.drop (k + 1)) := by
  obtain ⟨_, _, hF, hg, _, _⟩ := h
  rcases hg with ⟨rfl, rfl⟩ | hg
  · have h2 : Gd (-1) (s.drop 0) := hs
    rw [List.drop_eq_getElem_cons hk] at h2
    obtain ⟨h3, h4, h5⟩ := h2
    exact ⟨by omega, by omega, fun _ => rfl, h4, h5⟩
  · rw [List.drop_eq_getElem_cons hk] at hg
    obtain ⟨h3, h4, h5⟩ := hg
    have := h4.1
    unfold Sc at this
    exact ⟨by omega, by omega, fun h => by omega, h4, h5⟩
theorem nInv_in {s acc : List Rg} {k : Nat} {F : Int} (hs : Gd (-1) s) (h : NInv s k acc F) (hk : k < s.length) (v : Int) (hv : F ≤ v) (hi : In s v) : (s[k].1 ≤ v ∧ v ≤ s[k].2) ∨ (nx s[k].2 < v ∧ In (s.drop (k + 1)) v) := by
  obtain ⟨_, _, _, _, h5⟩ := nInv_gd hs h hk
  have h2 := h.2.2.2.2.1 v hv hi
  rw [List.drop_eq_getElem_cons hk, In_cons] at h2
  rcases h2 with h2 | h2
  · exact .inl h2
  · exact .inr ⟨h5.in_gt h2, h2⟩
theorem nx_big {v : Int} (h : Sc v) : Sc (nx v) ∨ nx v = 1114112 := by
  by_cases h1 : v < 1114111
  · exact .inl (nx_sc h h1)
  · have : v = 1114111 := by unfold Sc at h; omega
    subst this
    exact .inr (by decide)
theorem nInv_none {s acc : List Rg} {k : Nat} {F : Int} (hs : Gd (-1) s) (h : NInv s k acc F) (hk : k < s.length) (hp : prevB s[k].1 = false) : NInv s (k + 1) acc (nx s[k].2) := by
  obtain ⟨h1, h2, h3, h4, h5⟩ := nInv_gd hs h hk
  have hin := nInv_in hs h hk
  obtain ⟨ha, ⟨m, hu, hm⟩, hF, hg, ht, hI⟩ := h
  have hr0 : s[k].1 = 0 := by
    have := of_decide_eq_false hp
    have := h4.1
    unfold Sc at this
    omega
  have hF0 : F = 0 := by unfold Sc at hF; omega
  have hnx := nx_gt s[k].2
  have hle := h4.2.2
  refine ⟨by omega, ⟨m, hu, by omega⟩, nx_big h4.2.1, .inr h5, fun v hv hi => ?_, fun v hv => ?_⟩
  · rcases hin v (by omega) hi with h6 | h6
    · omega
    · exact h6.2
  · rw [hI v hv]
    constructor
    · rintro ⟨h6, _⟩; unfold Sc at hv; omega
    · rintro ⟨h6, h7⟩
      exfalso
      apply h7
      refine ⟨s[k], List.getElem_mem hk, by unfold Sc at hv; omega, ?_⟩
      rcases Int.lt_or_le s[k].2 v with h8 | h8
      · have := nx_le h4.2.1 hv h8; omega
      · exact h8
theorem nInv_some {s acc : List Rg} {k : Nat} {F : Int} (hs : Gd (-1) s) (h : NInv s k acc F) (hk : k < s.length) (hp : prevB s[k].1 = true) : NInv s (k + 1) (acc ++ [(F, prevN s[k].1)]) (nx s[k].2) := by
  obtain ⟨h1, h2, h3, h4, h5⟩ := nInv_gd hs h hk
  have hin := nInv_in hs h hk
  obtain ⟨ha, ⟨m, hu, hm⟩, hF, hg, ht, hI⟩ := h
  have hr0 : 0 < s[k].1 := of_decide_eq_true hp
  have hlt : F < s[k].1 := by
    rcases Int.lt_or_le F s[k].1 with h6 | h6
    · exact h6
    · have := h3 (by omega); omega
  have hSF : Sc F := by
    rcases hF with h6 | h6
    · exact h6
    · omega
  obtain ⟨p1, p2, p3⟩ := prev_facts h4.1 hr0
  have p4 := prev_ge hSF h4.1 hlt
  have hnx := nx_gt s[k].2
  have hle := h4.2.2
  have hup := hu.snoc (r := (F, prevN s[k].1)) hm ⟨hSF, p1, p4⟩
  rw [show nx (F, prevN s[k].1).2 = s[k].1 from p3] at hup
  refine ⟨by simp; omega, ⟨_, hup, by omega⟩, nx_big h4.2.1, .inr h5, fun v hv hi => ?_, fun v hv => ?_⟩
  · rcases hin v (by omega) hi with h6 | h6
    · omega
    · exact h6.2
  · rw [In_app, In_one, hI v hv]
    constructor
    · rintro (⟨h6, h7⟩ | ⟨h6, h7⟩)
      · exact ⟨by omega, h7⟩
      · have h6' : F ≤ v := h6
        have h7' : v ≤ prevN s[k].1 := h7
        refine ⟨by omega, fun hi => ?_⟩
        rcases hin v h6' hi with h8 | h8
        · omega
        · omega
    · rintro ⟨h6, h7⟩
      rcases Int.lt_or_le v F with h8 | h8
      · exact .inl ⟨h8, h7⟩
      · right
        refine ⟨h8, ?_⟩
        show v ≤ prevN s[k].1
        rcases Int.lt_or_le v s[k].1 with h9 | h9
        · exact prev_ge hv h4.1 h9
        · exfalso
          apply h7
          refine ⟨s[k], List.getElem_mem hk, h9, ?_⟩
          rcases Int.lt_or_le s[k].2 v with h10 | h10
          · have := nx_le h4.2.1 hv h10; omega
          · exact h10
theorem nInv_end {s acc : List Rg} {k : Nat} {F : Int} (h : NInv s k acc F) (hk : ¬ k < s.length) :
    (moreB F = true → IsSet (acc ++ [(F, 1114111)]) (fun v => ¬ In s v)) ∧ (moreB F = false → IsSet acc (fun v => ¬ In s v)) := by
  obtain ⟨ha, ⟨m, hu, hm⟩, hF, hg, ht, hI⟩ := h
  constructor
  · intro hmo
    have h1 : F ≤ 1114111 := of_decide_eq_true hmo
    have hSF : Sc F := by
      rcases hF with h6 | h6
      · exact h6
      · omega
    refine ⟨(hu.snoc (r := (F, 1114111)) hm ⟨hSF, by unfold Sc; omega, h1⟩).gd, fun v hv => ?_⟩
    rw [In_app, In_one, hI v hv]
    constructor
    · rintro (⟨_, h⟩ | ⟨h6, _⟩)
      · exact h
      · intro hi
        have := ht v h6 hi
        rw [List.drop_eq_nil_of_le (by omega)] at this
        exact In_nil v this
    · intro h
      rcases Int.lt_or_le v F with h8 | h8
      · exact .inl ⟨h8, h⟩
      · exact .inr ⟨h8, by show v ≤ 1114111; unfold Sc at hv; omega⟩
  · intro hmo
    have h1 : ¬ F ≤ 1114111 := of_decide_eq_false hmo
    refine ⟨hu.gd, fun v hv => ?_⟩
    rw [hI v hv]
    constructor
    · exact fun h => h.2
    · exact fun h => ⟨by unfold Sc at hv; omega, h⟩

/-- What has been told of both: s, and what is left of each. -/
def BInv (a b a' b' s : List Rg) : Prop :=
  (∃ M, Gd M a') ∧ (∃ M, Gd M b') ∧ (∃ m, Upto s m ∧ (Gd m a' ∨ Gd m b')) ∧ ∀ v, Sc v → (In s v ∨ (In a' v ∧ In b' v) ↔ In a v ∧ In b v)
theorem bInv_start {a b : List Rg} (ha : Gd (-1) a) (hb : Gd (-1) b) : BInv a b a b [] :=
  ⟨⟨_, ha⟩, ⟨_, hb⟩, ⟨-1, Upto.nil, .inl ha⟩, fun v _ => by simp [In_nil]⟩
theorem bInv_end {a b a' b' s : List Rg} (h : BInv a b a' b' s) (he : a' = [] ∨ b' = []) : IsSet s (fun v => In a v ∧ In b v) := by
  obtain ⟨_, _, ⟨m, hu, _⟩, hI⟩ := h
  refine ⟨hu.gd, fun v hv => ?_⟩
  show In s v ↔ In a v ∧ In b v
  rw [← hI v hv]
  rcases he with rfl | rfl <;> simp [In_nil]
def bR (x y : Rg) : Rg := (max x.1 y.1, min x.2 y.2)
theorem bR_ok {x y : Rg} (hx : Ok x) (hy : Ok y) (h : max x.1 y.1 ≤ min x.2 y.2) : Ok (bR x y) := by
  obtain ⟨a, b, c⟩ := hx
  obtain ⟨d, e, f⟩ := hy
  refine ⟨?_, ?_, h⟩
  · show Sc (max x.1 y.1)
    rcases Int.le_total x.1 y.1 with h | h
    · rw [Int.max_eq_right h]; exact d
    · rw [Int.max_eq_left h]; exact a
  · show Sc (min x.2 y.2)
    rcases Int.le_total x.2 y.2 with h | h
    · rw [Int.min_eq_left h]; exact b
    · rw [Int.min_eq_right h]; exact e
/-- One round: the range that ends first is left behind. -/
theorem bInv_step {a b a' b' s : List Rg} {x y : Rg} (h : BInv a b (x :: a') (y :: b') s) :
    let t := if max x.1 y.1 ≤ min x.2 y.2 then s ++ [bR x y] else s
    if x.2 < y.2 then BInv a b a' (y :: b') t else BInv a b (x :: a') b' t := by
  obtain ⟨⟨Ma, ha⟩, ⟨Mb, hb⟩, ⟨m, hu, hm⟩, hI⟩ := h
  have gx := nx_gt x.2
  have gy := nx_gt y.2
  obtain ⟨hMa, hox, hga⟩ := ha
  obtain ⟨hMb, hoy, hgb⟩ := hb
  have lx := hox.2.2
  have ly := hoy.2.2
  intro t
  have et : (max x.1 y.1 ≤ min x.2 y.2 ∧ t = s ++ [bR x y]) ∨ (¬ max x.1 y.1 ≤ min x.2 y.2 ∧ t = s) := by
    by_cases hc : max x.1 y.1 ≤ min x.2 y.2
    · exact .inl ⟨hc, if_pos hc⟩
    · exact .inr ⟨hc, if_neg hc⟩
  clear_value t
  have ht : ∀ v, In t v ↔ In s v ∨ ((x.1 ≤ v ∧ v ≤ x.2) ∧ (y.1 ≤ v ∧ v ≤ y.2)) := by
    intro v
    rcases et with ⟨hc, et⟩ | ⟨hc, et⟩ <;> rw [et]
    · rw [In_app, In_one]
      show _ ∨ (max x.1 y.1 ≤ v ∧ v ≤ min x.2 y.2) ↔ _
      constructor
      · rintro (h | h)
        · exact .inl h
        · exact .inr (by omega)
      · rintro (h | h)
        · exact .inl h
        · exact .inr (by omega)
    · constructor
      · exact .inl
      · rintro (h | h)
        · exact h
        · omega
  have hmlt : m < max x.1 y.1 := by
    rcases hm with h | h
    · have := h.1; omega
    · have := h.1; omega
  by_cases hlt : x.2 < y.2
  · rw [if_pos hlt]
    refine ⟨⟨_, hga⟩, ⟨Mb, hMb, hoy, hgb⟩, ?_, fun v hv => ?_⟩
    · rcases et with ⟨hc, et⟩ | ⟨hc, et⟩ <;> rw [et]
      · refine ⟨_, hu.snoc (r := bR x y) hmlt (bR_ok hox hoy hc), .inl ?_⟩
        rw [show (bR x y).2 = x.2 by show min x.2 y.2 = x.2; omega]
        exact hga
      · refine ⟨m, hu, ?_⟩
        rcases hm with h | h
        · exact .inl (hga.mono (by have := h.1; omega))
        · exact .inr h
    · rw [← hI v hv, ht v, In_cons, In_cons]
      constructor
      · rintro ((h | ⟨h1, h2⟩) | ⟨h1, h2⟩)
        · exact .inl h
        · exact .inr ⟨.inl h1, .inl h2⟩
        · exact .inr ⟨.inr h1, h2⟩
      · rintro (h | ⟨h1 | h1, h2 | h2⟩)
        · exact .inl (.inl h)
        · exact .inl (.inr ⟨h1, h2⟩)
        · have := hgb.in_gt h2; omega
        · exact .inr ⟨h1, .inl h2⟩
        · exact .inr ⟨h1, .inr h2⟩
  · rw [if_neg hlt]
    refine ⟨⟨Ma, hMa, hox, hga⟩, ⟨_, hgb⟩, ?_, fun v hv => ?_⟩
    · rcases et with ⟨hc, et⟩ | ⟨hc, et⟩ <;> rw [et]
      · refine ⟨_, hu.snoc (r := bR x y) hmlt (bR_ok hox hoy hc), .inr ?_⟩
        rw [show (bR x y).2 = y.2 by show min x.2 y.2 = y.2; omega]
        exact hgb
      · refine ⟨m, hu, ?_⟩
        rcases hm with h | h
        · exact .inl h
        · exact .inr (hgb.mono (by have := h.1; omega))
    · rw [← hI v hv, ht v, In_cons, In_cons]
      constructor
      · rintro ((h | ⟨h1, h2⟩) | ⟨h1, h2⟩)
        · exact .inl h
        · exact .inr ⟨.inl h1, .inl h2⟩
        · exact .inr ⟨h1, .inr h2⟩
      · rintro (h | ⟨h1 | h1, h2 | h2⟩)
        · exact .inl (.inl h)
        · exact .inl (.inr ⟨h1, h2⟩)
        · exact .inr ⟨.inl h1, h2⟩
        · have := hga.in_gt h1; omega
        · exact .inr ⟨.inr h1, h2⟩
end Go.Proofs.Ythaageiflimnnaa
/- What Not returns: the set of all other scalars. -/
namespace Go.Proofs.Ythaageiflimnnaa
open Go.RowKit Go.BigFrame
set_option linter.unusedVariables false
set_option linter.unusedSimpArgs false

end Go.Proofs.Ythaageiflimnnaa
/- What the document's Next, Prev and Good return. -/
namespace Go.Proofs.Ythaageiflimnnaa
open Go.RowKit Go.BigFrame
set_option linter.unusedVariables false
set_option linter.unusedSimpArgs false

/-- The document's Next: a struct, which it lays in one new block. -/
theorem refNext_n (v : Int) (w : World) :
    Calls Try.prog 42 #[.int .i64 v] w fun e w' => e = .returned (.agg #[.int .i64 (nextN v), .bool (nextB v)]) ∧ Below w.heap.size w w' ∧ w.drawn ≤ w'.drawn := by
  by_cases c1 : 1114111 ≤ v
  · rw [show nextN v = 0 by unfold nextN; rw [if_pos (by omega)], show nextB v = false from decide_eq_false (by omega)]
    go_enter Try.func42, Try.ntmps42
    go_wp2
    exact bodyPost_ret (v := .agg #[.int .i64 0, .bool false]) (by simp [results, Try.results42, go_sem]) rfl ⟨rfl, below_new _ _, Nat.le_refl _⟩
  · rw [show nextB v = true from decide_eq_true (by omega)]
    by_cases c2 : v < 0
    · rw [show nextN v = 0 by unfold nextN; rw [if_pos (by omega)]]
      go_enter Try.func42, Try.ntmps42
      go_wp2
      exact bodyPost_ret (v := .agg #[.int .i64 0, .bool true]) (by simp [results, Try.results42, go_sem]) rfl ⟨rfl, below_new _ _, Nat.le_refl _⟩
    · by_cases c3 : 55295 ≤ v
      · by_cases c4 : v < 57344
        · rw [show nextN v = 57344 by unfold nextN; rw [if_neg (by omega), if_pos (by omega)]]
          go_enter Try.func42, Try.ntmps42
          go_wp2
          exact bodyPost_ret (v := .agg #[.int .i64 57344, .bool true]) (by simp [results, Try.results42, go_sem]) rfl ⟨rfl, below_new _ _, Nat.le_refl _⟩
        · rw [show nextN v = v + 1 by unfold nextN; rw [if_neg (by omega), if_neg (by omega)]]
          go_enter Try.func42, Try.ntmps42
          go_wp2
          exact bodyPost_ret (v := .agg #[.int .i64 (v + 1), .bool true]) (by simp [results, Try.results42, go_sem]) rfl ⟨rfl, below_new _ _, Nat.le_refl _⟩
      · rw [show nextN v = v + 1 by unfold nextN; rw [if_neg (by omega), if_neg (by omega)]]
        go_enter Try.func42, Try.ntmps42
        go_wp2
        exact bodyPost_ret (v := .agg #[.int .i64 (v + 1), .bool true]) (by simp [results, Try.results42, go_sem]) rfl ⟨rfl, below_new _ _, Nat.le_refl _⟩

/-- The document's Prev: likewise. -/
theorem refPrev_n (v : Int) (w : World) :
    Calls Try.prog 52 #[.int .i64 v] w fun e w' => e = .returned (.agg #[.int .i64 (prevN v), .bool (prevB v)]) ∧ Below w.heap.size w w' ∧ w.drawn ≤ w'.drawn := by
  by_cases c1 : v ≤ 0
  · rw [show prevN v = 0 by unfold prevN; rw [if_pos (by omega)], show prevB v = false from decide_eq_false (by omega)]
    go_enter Try.func52, Try.ntmps52
    go_wp2
    exact bodyPost_ret (v := .agg #[.int .i64 0, .bool false]) (by simp [results, Try.results52, go_sem]) rfl ⟨rfl, below_new _ _, Nat.le_refl _⟩
  · rw [show prevB v = true from decide_eq_true (by omega)]
    by_cases c2 : 1114111 < v
    · rw [show prevN v = 1114111 by unfold prevN; rw [if_neg (by omega), if_pos (by omega)]]
      go_enter Try.func52, Try.ntmps52
      go_wp2
      exact bodyPost_ret (v := .agg #[.int .i64 1114111, .bool true]) (by simp [results, Try.results52, go_sem]) rfl ⟨rfl, below_new _ _, Nat.le_refl _⟩
    · by_cases c3 : 55296 < v
      · by_cases c4 : v ≤ 57344
        · rw [show prevN v = 55295 by unfold prevN; rw [if_neg (by omega), if_neg (by omega), if_pos (by omega)]]
          go_enter Try.func52, Try.ntmps52
          go_wp2
          exact bodyPost_ret (v := .agg #[.int .i64 55295, .bool true]) (by simp [results, Try.results52, go_sem]) rfl ⟨rfl, below_new _ _, Nat.le_refl _⟩
        · rw [show prevN v = v - 1 by unfold prevN; rw [if_neg (by omega), if_neg (by omega), if_neg (by omega)]]
          go_enter Try.func52, Try.ntmps52
          go_wp2
          exact bodyPost_ret (v := .agg #[.int .i64 (v - 1), .bool true]) (by simp [results, Try.results52, go_sem]) rfl ⟨rfl, below_new _ _, Nat.le_refl _⟩
      · rw [show prevN v = v - 1 by unfold prevN; rw [if_neg (by omega), if_neg (by omega), if_neg (by omega)]]
        go_enter Try.func52, Try.ntmps52
        go_wp2
        exact bodyPost_ret (v := .agg #[.int .i64 (v - 1), .bool true]) (by simp [results, Try.results52, go_sem]) rfl ⟨rfl, below_new _ _, Nat.le_refl _⟩


theorem refIs_q (v : Int) (W : World) : Calls Try.prog 24 #[.int .i64 v] W fun e w' => e = .returned (.bool (isB v)) ∧ w' = W :=
  (refIs_any v W).mono fun _ _ ⟨he, hw⟩ => ⟨he, hw.symm⟩

set_option maxHeartbeats 2000000 in
theorem refGood_n (n : Nat) (l : List Rg) (hl : l.length = n) (A : Option Addr) (c : Nat) (w : World) (hR : Reads w w.heap.size 2 A n (rcells l)) (hn : n ≤ 1000000) :
    Calls Try.prog 22 #[.slice A n c] w fun e w' => e = .returned (.bool (goodB l)) ∧ Below w.heap.size w w' := by
  have HR := Lib.hid hR
  have HL := Lib.hid hl
  clear hR hl
  go_enter Try.func22, Try.ntmps22
  go_wp2_with fail
  go_loopw [3] (fun i wr => ∃ (k : Nat), k ≤ n ∧ i = .int .i64 k ∧ Below w.heap.size w wr ∧ Hid (GInv l k)) (fun i _ => n - (intOf i).toNat)
  case atStart => exact ⟨0, Nat.zero_le _, rfl, Below.refl _ _, Lib.hid (gInv_start l)⟩
  case round =>
    obtain ⟨k, hk, rfl, hb, HG⟩ := hrel
    have hsz := hb.size
    by_cases hlt : k < n
    · have kl : k < l.length := by rw [HL.out]; exact hlt
      obtain ⟨b, o, rfl, hbb, p0, p1⟩ := (HR.out.below hb).rg kl
      have HF : Hid (mayB l[k] = false → goodB l = false) := Lib.hid (fun h => gInv_may HG.out kl h)
      have HM : Hid (mayB l[k] = true → (k = 0 ∧ GInv l 1) ∨ ∃ y0 y1 : Int, 0 < k ∧ wr.cell? ⟨b, o + (k - 1) * 2 + 1, none⟩ = some (.int .i64 y1) ∧ (apB (y0, y1) l[k] = false → goodB l = false) ∧ (apB (y0, y1) l[k] = true → GInv l (k + 1))) := Lib.hid (fun h => by
        cases k with
        | zero => exact .inl ⟨rfl, gInv_zero HG.out kl h⟩
        | succ k =>
          have kp : k < l.length := by omega
          obtain ⟨b', o', hA, _, q0, q1⟩ := (HR.out.below hb).rg kp
          injection hA with hA
          injection hA with hA1 hA2
          subst hA1 hA2
          exact .inr ⟨l[k].1, l[k].2, by omega, q1, fun h2 => gInv_ap HG.out kl h h2, fun h2 => gInv_next HG.out kl h h2⟩)
      generalize l[k] = x at *
      obtain ⟨x0, x1⟩ := x
      simp only [] at p0 p1
      have hd : mayB (x0, x1) = (isB x0 && (isB x1 && decide (x0 ≤ x1))) := rfl
      cases hx : isB x0
      · have HX := Lib.hid (HF.out (by rw [hd, hx]; rfl))
        clear HM HF HG hd
        go_wp2_with fail
        go_big_quiet (first | (go_at_call 24; refine Calls.quiet_of_same (refIs_q _ _)))
        go_wp2_with fail
        go_ret
        exact ⟨ret_bool HX.out.symm, below_drewN hb _⟩
      · cases hy : isB x1
        · have HX := Lib.hid (HF.out (by rw [hd, hx, hy]; rfl))
          clear HM HF HG hd
          go_wp2_with fail
          go_big_quiet (first | (go_at_call 24; refine Calls.quiet_of_same (refIs_q _ _)))
          go_wp2_with fail
          go_ret
          exact ⟨ret_bool HX.out.symm, below_drewN hb _⟩
        · by_cases hxy : x1 < x0
          · have HX := Lib.hid (HF.out (by rw [hd, hx, hy, decide_eq_false (by omega)]; rfl))
            clear HM HF HG hd
            go_wp2_with fail
            go_big_quiet (first | (go_at_call 24; refine Calls.quiet_of_same (refIs_q _ _)))
            go_wp2_with fail
            go_ret
            exact ⟨ret_bool HX.out.symm, below_drewN hb _⟩
          · have hM := HM.out (by rw [hd, hx, hy, decide_eq_true (by omega)]; rfl)
            have hxy' : decide (x1 < x0) = false := decide_eq_false hxy
            clear HM HF HG hd
            rcases hM with ⟨rfl, hG⟩ | ⟨y0, y1, hk0, q1, hN, hY⟩
            · have HX := Lib.hid hG
              clear hG
              simp only [Nat.zero_mul, Nat.add_zero] at p0 p1
              go_wp2_with fail
              go_big_quiet (first | (go_at_call 24; refine Calls.quiet_of_same (refIs_q _ _)))
              go_wp2_with fail
              go_roundw
              case rel => exact ⟨1, by omega, by go_num, below_drewN hb _, HX⟩
              case measure => simp [intOf]; omega
            · obtain ⟨j, rfl⟩ : ∃ j, k = j + 1 := ⟨k - 1, by omega⟩
              have HN := Lib.hid hN
              have HY := Lib.hid hY
              have hap : apB (y0, y1) (x0, x1) = (nextB y1 && decide (nextN y1 < x0)) := rfl
              rw [show j + 1 - 1 = j by omega] at q1
              have hcn := fun W => refNext_n y1 W
              rw [hap] at HN HY
              clear hN hY hap
              generalize nextB y1 = nb at *
              generalize nextN y1 = nn at *
              go_wp2_with fail
              go_big_quiet (first | (go_at_call 24; refine Calls.quiet_of_same (refIs_q _ _)))
              have b2 := below_drewN hb nq
              have p0' : (wr.drewN nq).cell? ⟨b, o + (j + 1) * 2, none⟩ = some (.int .i64 x0) := p0
              have q1' : (wr.drewN nq).cell? ⟨b, o + j * 2 + 1, none⟩ = some (.int .i64 y1) := q1
              clear hb p0 p1 q1
              generalize wr.drewN nq = w2 at *
              go_wp2_with fail
              refine (hcn _).mono ?_
              rintro e w3 ⟨rfl, g3, _⟩
              have b3 := b2.trans (g3.mono b2.size)
              have p0'' := kept_cell g3 p0'
              have hs3 := b3.size
              clear p0' q1' g3 b2
              cases nb
              · have HX := Lib.hid (HN.out rfl)
                clear HN HY
                go_wp2_with fail
                have c0 : (w3.alloc (.cells #[.int .i64 nn, .bool false] 79)).cell? ⟨w3.heap.size, 0, none⟩ = some (.int .i64 nn) := by simp
                have c1 : (w3.alloc (.cells #[.int .i64 nn, .bool false] 79)).cell? ⟨w3.heap.size, 1, none⟩ = some (.bool false) := by simp
                have c2 := cell_alloc (.cells #[.int .i64 nn, .bool false] 79) p0''
                have b4 := b3.alloc hs3 (.cells #[.int .i64 nn, .bool false] 79)
                generalize w3.alloc (.cells #[.int .i64 nn, .bool false] 79) = w4 at *
                go_big_quiet (fail)
                go_wp2_with fail
                go_ret
                exact ⟨ret_bool HX.out.symm, below_drewN b4 _⟩
              · by_cases hnx : nn < x0
                · have HX := Lib.hid (HY.out (by rw [decide_eq_true hnx]; rfl))
                  have hnx' : decide (x0 ≤ nn) = false := decide_eq_false (by omega)
                  clear HN HY
                  go_wp2_with fail
                  have c0 : (w3.alloc (.cells #[.int .i64 nn, .bool true] 79)).cell? ⟨w3.heap.size, 0, none⟩ = some (.int .i64 nn) := by simp
                  have c1 : (w3.alloc (.cells #[.int .i64 nn, .bool true] 79)).cell? ⟨w3.heap.size, 1, none⟩ = some (.bool true) := by simp
                  have c2 := cell_alloc (.cells #[.int .i64 nn, .bool true] 79) p0''
                  have b4 := b3.alloc hs3 (.cells #[.int .i64 nn, .bool true] 79)
                  generalize w3.alloc (.cells #[.int .i64 nn, .bool true] 79) = w4 at *
                  go_big_quiet (fail)
                  go_wp2_with fail
                  go_roundw
                  case rel => exact ⟨j + 1 + 1, by omega, by go_num, below_drewN b4 _, HX⟩
                  case measure => simp [intOf]; omega
                · have HX := Lib.hid (HN.out (by rw [decide_eq_false hnx]; rfl))
                  have hnx' : decide (x0 ≤ nn) = true := decide_eq_true (by omega)
                  clear HN HY
                  go_wp2_with fail
                  have c0 : (w3.alloc (.cells #[.int .i64 nn, .bool true] 79)).cell? ⟨w3.heap.size, 0, none⟩ = some (.int .i64 nn) := by simp
                  have c1 : (w3.alloc (.cells #[.int .i64 nn, .bool true] 79)).cell? ⟨w3.heap.size, 1, none⟩ = some (.bool true) := by simp
                  have c2 := cell_alloc (.cells #[.int .i64 nn, .bool true] 79) p0''
                  have b4 := b3.alloc hs3 (.cells #[.int .i64 nn, .bool true] 79)
                  generalize w3.alloc (.cells #[.int .i64 nn, .bool true] 79) = w4 at *
                  go_big_quiet (fail)
                  go_wp2_with fail
                  go_ret
                  exact ⟨ret_bool HX.out.symm, below_drewN b4 _⟩
    · have HT : Hid (goodB l = true) := Lib.hid (gInv_end HG.out (by rw [HL.out]; exact hlt))
      go_wp2_with fail
      go_ret
      exact ⟨ret_bool HT.out.symm, hb⟩
end Go.Proofs.Ythaageiflimnnaa
/- Sets that are known, and what is told of them. -/
namespace Go.Proofs.Ythaageiflimnnaa
open Go.RowKit Go.BigFrame
set_option linter.unusedVariables false
set_option linter.unusedSimpArgs false

/-- This set, in a new row. -/
def OutIs (L : List Rg) (k : Nat) (w : World) (e : Ending) (w' : World) : Prop :=
  ∃ (A : Option Addr) (c : Nat), e = .returned (.tuple #[.slice A k c, .bool true]) ∧ Shp A k c ∧ Reads w' w'.heap.size 2 A k (rcells L) ∧ Below w.heap.size w w'
theorem outIs_of {p q : Int → Prop} {m k : Nat} {L : List Rg} {w : World} {e : Ending} {w' : World} (h : OutSet p m w e w') (hL : IsSet L q) (hpq : ∀ v, Sc v → (p v ↔ q v)) (hk : L.length = k) : OutIs L k w e w' := by
  obtain ⟨s, A, c, he, hs, hI, _, hR, hb⟩ := h
  obtain rfl := hI.uniq hL hpq
  subst hk
  exact ⟨A, c, he, hs, hR, hb⟩

theorem reads_lit (w : World) (L : List Rg) (k : Nat) (cs : Array Value) (hk : L.length = k) (h : cs = (rcells L).toArray) : Reads (w.alloc (.cells cs 50)) (w.alloc (.cells cs 50)).heap.size 2 (some ⟨w.heap.size, 0, none⟩) k (rcells L) := by
  subst h
  refine ⟨by rw [rcells_len, hk], fun _ => ⟨w.heap.size, 0, rfl, by simp, fun j u hj => ?_⟩⟩
  have hj' := (List.getElem?_eq_some_iff.1 hj).1
  rw [Nat.zero_add]
  have e : (w.alloc (.cells (rcells L).toArray 50)).heap[w.heap.size]? = some (.cells (rcells L).toArray 50) := by
    show (w.heap.push _)[w.heap.size]? = _
    exact Array.getElem?_push_size
  unfold World.cell?
  show (match (w.alloc (.cells (rcells L).toArray 50)).heap[w.heap.size]? with
    | some (.cells c _ _) => if false = true then none else c[j]?
    | _ => none) = some u
  rw [e]
  simpa using hj
theorem reads_on {w w' : World} {A : Option Addr} {n size : Nat} {xs : List Value} (h : Reads w w.heap.size size A n xs) (g : Below w.heap.size w w') : Reads w' w'.heap.size size A n xs := (h.below g).more g.size
theorem shp_lit (b k : Nat) (hk : k ≤ 1000) : Shp (some ⟨b, 0, none⟩) k k := ⟨fun h => (by cases h), Nat.le_refl _, by unfold maxLen; omega⟩

/-- The sets of the statements' own examples. -/
def lA0 : List Rg := [(99, 100), (97, 98), (55295, 55295), (57344, 57345)]
def lA : List Rg := [(97, 100), (55295, 57345)]
def lB : List Rg := [(0, 96), (101, 55294), (57346, 1114111)]
def lC0 : List Rg := [(100, 101)]
def lC : List Rg := [(100, 100)]
def lD : List Rg := [(0, 1114111)]
def lE : List Rg := [(1, 2), (3, 4)]
theorem gdA : Gd (-1) lA := (goodB_iff _).1 (by decide)
theorem gdB' : Gd (-1) lB := (goodB_iff _).1 (by decide)
theorem gdC : Gd (-1) lC := (goodB_iff _).1 (by decide)
theorem gdC0 : Gd (-1) lC0 := (goodB_iff _).1 (by decide)
theorem gdD : Gd (-1) lD := (goodB_iff _).1 (by decide)
theorem setA : ∀ v, Sc v → (In lA0 v ↔ In lA v) := by
  intro v hv; unfold Sc at hv; simp only [lA0, lA, In_cons, In_nil, or_false]; constructor <;> intro h <;> omega
theorem setB : ∀ v, Sc v → (¬ In lA v ↔ In lB v) := by
  intro v hv; unfold Sc at hv; simp only [lB, lA, In_cons, In_nil, or_false]; constructor <;> intro h <;> omega
theorem setC : ∀ v, Sc v → (In lA v ∧ In lC0 v ↔ In lC v) := by
  intro v hv; unfold Sc at hv; simp only [lC, lC0, lA, In_cons, In_nil, or_false]; constructor <;> intro h <;> omega
theorem setD : ∀ v, Sc v → (In (lA ++ lB) v ↔ In lD v) := by
  intro v hv; unfold Sc at hv; simp only [lB, lD, lA, List.cons_append, List.nil_append, In_cons, In_nil, or_false]; constructor <;> intro h <;> omega
end Go.Proofs.Ythaageiflimnnaa
/- What Both returns: the set of what is in both. -/
namespace Go.Proofs.Ythaageiflimnnaa
open Go.RowKit Go.BigFrame
set_option linter.unusedVariables false
set_option linter.unusedSimpArgs false

def lenOf : Value → Nat | .slice _ n _ => n | _ => 0

theorem both_bad (a b : List Rg) (n m : Nat) (ha : a.length = n) (hb : b.length = m) (A B : Option Addr) (c d : Nat) (w : World)
    (hRa : Reads w w.heap.size 2 A n (rcells a)) (hRb : Reads w w.heap.size 2 B m (rcells b)) (hn : n ≤ 10000) (hm : m ≤ 10000) (hg : (goodB a && goodB b) = false) :
    Calls Try.prog 59 #[.slice A n c, .slice B m d] w (OutNo w) := by
  have H1 := Lib.hid (fun W hR => good_n n a ha A c W hR (by omega))
  have H2 := Lib.hid (fun W hR => good_n m b hb B d W hR (by omega))
  have HRa := Lib.hid hRa
  have HRb := Lib.hid hRb
  clear hRa hRb
  cases ga : goodB a
  · rw [ga] at H1
    clear hg
    go_enter Try.func59, Try.ntmps59
    go_wp2_with fail
    refine (H1.out _ HRa.out).mono ?_
    rintro e w1 ⟨rfl, b1⟩
    go_wp2_with fail
    go_ret2
    exact ⟨rfl, b1⟩
  · rw [ga, Bool.true_and] at hg
    rw [ga] at H1
    rw [hg] at H2
    clear hg
    go_enter Try.func59, Try.ntmps59
    go_wp2_with fail
    refine (H1.out _ HRa.out).mono ?_
    rintro e w1 ⟨rfl, b1⟩
    have HRb1 := Lib.hid ((HRb.out.below b1).more b1.size)
    go_wp2_with fail
    refine (H2.out _ HRb1.out).mono ?_
    rintro e w2 ⟨rfl, b2⟩
    go_wp2_with fail
    go_ret2
    exact ⟨rfl, b1.trans (b2.mono b1.size)⟩

theorem Reads.tail {w : World} {B b o n : Nat} {x : Rg} {l : List Rg} (h : Reads w B 2 (some ⟨b, o, none⟩) (n + 1) (rcells (x :: l))) : Reads w B 2 (some ⟨b, o + 2, none⟩) n (rcells l) := by
  have h1 := h.1
  rw [rcells_len, List.length_cons] at h1
  refine ⟨by rw [rcells_len]; omega, fun hn => ?_⟩
  obtain ⟨b', o', e, hb, hc⟩ := h.2 (by omega)
  injection e with e
  injection e with e1 e2
  subst e1 e2
  refine ⟨b, o + 2, rfl, hb, fun j u hj => ?_⟩
  have := hc (j + 2) u (by
    have e : rcells (x :: l) = .int .i64 x.1 :: .int .i64 x.2 :: rcells l := by simp [rcells, rcell]
    rw [e]; simpa using hj)
  rw [show o + 2 + j = o + (j + 2) by omega]
  exact this

/-- Where a row's tail lies. -/
def tailA (b f c : Nat) : Option Addr := if c = 1 then some ⟨b, f, none⟩ else some ⟨b, f + 2, none⟩
/-- What room a row's tail has. -/
def tailC (c : Nat) : Nat := c - 1
theorem wpList_tail {w : World} {ops : Array Oper} {rest : List Oper} {o : Oper} {a : Act} {Q : Exit → Act → World → Prop} (hgd : o.guard = none) (x : Operand)
    (ho : o.op = .slice 48 x (some (.const (.int .i64 1))) none none) (b f n c : Nat) (hx : a.eval x = .slice (some ⟨b, f, none⟩) (n + 1) c) (hc : n + 1 ≤ c) (hm : c ≤ maxLen)
    (h : wpList Try.prog ops Q rest (a.put o.dst (.slice (tailA b f c) n (tailC c))) w) : wpList Try.prog ops Q (o :: rest) a w := by
  refine wpList_plain hgd fun K hK => ?_
  have h1 : (1 : Int) ≤ ((n + 1 : Nat) : Int) := by omega
  have h2 : n + 1 - 1 = n := by omega
  unfold maxLen at hm
  have hrun : (Instr.sliceAt 48 (.slice (some ⟨b, f, none⟩) (n + 1) c) (some (.int .i64 1)) none none).run Try.prog w = .ok (.slice (if c = 1 then some ⟨b, f, none⟩ else some ⟨b, f + 2, none⟩) n (c - 1)) w := by
    simp [go_sem, Try.underlying48, Try.sizeOf50]
    intro h
    omega
  unfold Oper.wp execOp
  simp only [ho, hx, Option.map_some, Option.map_none, BigFrame.eval_const, Sem.run_bind, Sem.run_pure, Result.andThen_ok, hrun]
  exact hK _ _ h

theorem reads_tail {w : World} {B b o n c : Nat} {l : List Rg} (hc : n + 1 ≤ c) (h : Reads w B 2 (some ⟨b, o + 2, none⟩) n (rcells l)) : Reads w B 2 (tailA b o c) n (rcells l) := by
  unfold tailA
  by_cases h1 : c = 1
  · exact ⟨h.1, fun hn => absurd hn (by omega)⟩
  · rw [if_neg h1]; exact h

/-- Ahead of each round: what is left of both, and what has been told. -/
def BRel (a b : List Rg) (n m : Nat) (w2 : World) (va vb vs : Value) (wr : World) : Prop :=
  ∃ (na nb : Nat) (A1 B1 A2 : Option Addr) (c1 d1 c2 : Nat) (a1 b1 acc : List Rg), va = .slice A1 na c1 ∧ vb = .slice B1 nb d1 ∧ vs = .slice A2 acc.length c2 ∧ Hid (a1.length = na) ∧ Hid (b1.length = nb) ∧ Hid (Reads w2 w2.heap.size 2 A1 na (rcells a1)) ∧ Hid (Reads w2 w2.heap.size 2 B1 nb (rcells b1)) ∧ na ≤ c1 ∧ nb ≤ d1 ∧ c1 ≤ maxLen ∧ d1 ≤ maxLen ∧ Hid (BInv a b a1 b1 acc) ∧ acc.length + na + nb ≤ n + m ∧ wr.ownsRow w2.heap.size 50 2 (.slice A2 acc.length c2) acc.length (rcells acc) ∧ Below w2.heap.size w2 wr
def bLen (va vb : Value) : Nat := lenOf va + lenOf vb

set_option maxRecDepth 100000 in
set_option maxHeartbeats 4000000 in
theorem both_good (a b : List Rg) (n m : Nat) (ha : a.length = n) (hb : b.length = m) (A B : Option Addr) (c d : Nat) (w : World) (hA : Shp A n c) (hB : Shp B m d)
    (hRa : Reads w w.heap.size 2 A n (rcells a)) (hRb : Reads w w.heap.size 2 B m (rcells b)) (hn : n ≤ 5000) (hm : m ≤ 5000) (ga : Gd (-1) a) (gb : Gd (-1) b) :
    Calls Try.prog 59 #[.slice A n c, .slice B m d] w (OutSet (fun v => In a v ∧ In b v) (n + m) w) := by
  obtain ⟨i0, hi0, hz0, hz1, hz2⟩ := info_parts info41
  have H1 := Lib.hid (fun W hR => good_n n a ha A c W hR (by omega))
  have H2 := Lib.hid (fun W hR => good_n m b hb B d W hR (by omega))
  rw [(goodB_iff a).2 ga] at H1
  rw [(goodB_iff b).2 gb] at H2
  have HRa := Lib.hid hRa
  have HRb := Lib.hid hRb
  have HLa := Lib.hid ha
  have HLb := Lib.hid hb
  have HA := Lib.hid hA
  have HB := Lib.hid hB
  have HI := Lib.hid (bInv_start ga gb)
  clear hRa hRb ha hb hA hB ga gb
  go_enter Try.func59, Try.ntmps59
  go_wp2_with fail
  refine (H1.out _ HRa.out).mono ?_
  rintro e w1 ⟨rfl, b1⟩
  have HRa1 := Lib.hid ((HRa.out.below b1).more b1.size)
  have HRb1 := Lib.hid ((HRb.out.below b1).more b1.size)
  clear HRa HRb H1
  go_wp2_with fail
  refine (H2.out _ HRb1.out).mono ?_
  rintro e w2 ⟨rfl, b2⟩
  have HRa2 := Lib.hid (((HRa1.out.below b2).more b2.size))
  have HRb2 := Lib.hid (((HRb1.out.below b2).more b2.size))
  have b12 := b1.trans (b2.mono b1.size)
  have hs2 := b12.size
  clear HRa1 HRb1 H2 b1 b2
  go_wp2_with fail
  go_loopw [0, 1, 6] (fun va vb vs wr => BRel a b n m w2 va vb vs wr) (fun va vb _ _ => bLen va vb)
  case atStart => exact ⟨n, m, A, B, none, c, d, 0, a, b, [], rfl, rfl, rfl, HLa, HLb, HRa2, HRb2, HA.out.2.1, HB.out.2.1, HA.out.2.2, HB.out.2.2, HI, by simp, World.ownsRow_nil _ _ _ _, Below.refl _ _⟩
  case round =>
    obtain ⟨na, nb, A1, B1, A2, c1, d1, c2, a1, b1, acc, rfl, rfl, rfl, HLa1, HLb1, HRa3, HRb3, hca, hcb, hca2, hcb2, HI3, hlen, hown, hb⟩ := hrel
    have hsz := hb.size
    obtain ⟨k, hk⟩ : ∃ k, acc.length = k := ⟨_, rfl⟩
    have HK := Lib.hid hk
    rw [hk] at hown hlen ⊢
    clear hk
    cases na with
    | zero =>
        have HE := Lib.hid (bInv_end HI3.out (.inl (List.eq_nil_of_length_eq_zero HLa1.out)))
        have HR2 := Lib.hid (Reads.of_own hown)
        have HS2 := Lib.hid (own_shp hown)
        clear HI3
        go_wp2_with fail
        go_ret2
        exact ⟨acc, A2, c2, by rw [HK.out]; rfl, by rw [HK.out]; exact HS2.out, HE.out, by rw [HK.out]; omega, by rw [HK.out]; exact HR2.out, b12.trans (hb.mono hs2)⟩
    | succ na =>
      cases nb with
      | zero =>
        have HE := Lib.hid (bInv_end HI3.out (.inr (List.eq_nil_of_length_eq_zero HLb1.out)))
        have HR2 := Lib.hid (Reads.of_own hown)
        have HS2 := Lib.hid (own_shp hown)
        clear HI3
        go_wp2_with fail
        go_ret2
        exact ⟨acc, A2, c2, by rw [HK.out]; rfl, by rw [HK.out]; exact HS2.out, HE.out, by rw [HK.out]; omega, by rw [HK.out]; exact HR2.out, b12.trans (hb.mono hs2)⟩
      | succ nb =>
        obtain ⟨x, a1, rfl⟩ : ∃ x l, a1 = x :: l := by
          cases a1 with
          | nil => have := HLa1.out; simp at this
          | cons x l => exact ⟨x, l, rfl⟩
        obtain ⟨y, b1, rfl⟩ : ∃ y l, b1 = y :: l := by
          cases b1 with
          | nil => have := HLb1.out; simp at this
          | cons x l => exact ⟨x, l, rfl⟩
        obtain ⟨bk, o, rfl, hbb, p0, p1⟩ := (HRa3.out.below hb).rg (k := 0) (by simp)
        obtain ⟨bk', o', rfl, hbb', q0, q1⟩ := (HRb3.out.below hb).rg (k := 0) (by simp)
        have HRa4 := Lib.hid HRa3.out.tail
        have HRb4 := Lib.hid HRb3.out.tail
        have HLa4 : Hid (a1.length = na) := Lib.hid (by have := HLa1.out; simpa using this)
        have HLb4 : Hid (b1.length = nb) := Lib.hid (by have := HLb1.out; simpa using this)
        have hst := bInv_step HI3.out
        obtain ⟨x0, x1⟩ := x
        obtain ⟨y0, y1⟩ := y
        simp only [Nat.zero_mul, Nat.add_zero, List.getElem_cons_zero] at p0 p1 q0 q1 hst
        have z0 := cell_alloc (.cells #[.int .i64 0, .int .i64 0] 50) p0
        have z1 := cell_alloc (.cells #[.int .i64 0, .int .i64 0] 50) p1
        have z2 := cell_alloc (.cells #[.int .i64 0, .int .i64 0] 50) q0
        have z3 := cell_alloc (.cells #[.int .i64 0, .int .i64 0] 50) q1
        have HX := Lib.hid hst
        clear hst HI3 HRa2 HRb2 HLa HLb HA HB HI
        have HBR : Hid (bR (x0, x1) (y0, y1) = (max x0 y0, min x1 y1)) := Lib.hid rfl
        go_wp2_with fail
        go_cut [7] from 16 to 64 (fun v7 wx => v7 = .pointer (some ⟨wr.heap.size, 0, none⟩) ∧ wx.cell? ⟨wr.heap.size, 0, none⟩ = some (.int .i64 (max x0 y0)) ∧ wx.cell? ⟨wr.heap.size, 1, none⟩ = some (.int .i64 (min x1 y1)) ∧ wx.cell? ⟨bk, o + 1, none⟩ = some (.int .i64 x1) ∧ wx.cell? ⟨bk', o' + 1, none⟩ = some (.int .i64 y1) ∧ Hid (wx.ownsRow w2.heap.size 50 2 (.slice A2 k c2) k (rcells acc)) ∧ Below w2.heap.size w2 wx)
        case first =>
          go_region
          have r0 : (wr.alloc (.cells #[.int .i64 (max x0 y0), .int .i64 (min x1 y1)] 50)).drew.cell? ⟨wr.heap.size, 0, none⟩ = some (.int .i64 (max x0 y0)) := by simp
          have r1 : (wr.alloc (.cells #[.int .i64 (max x0 y0), .int .i64 (min x1 y1)] 50)).drew.cell? ⟨wr.heap.size, 1, none⟩ = some (.int .i64 (min x1 y1)) := by simp
          have s1 : (wr.alloc (.cells #[.int .i64 (max x0 y0), .int .i64 (min x1 y1)] 50)).drew.cell? ⟨bk, o + 1, none⟩ = some (.int .i64 x1) := cell_alloc _ p1
          have s2 : (wr.alloc (.cells #[.int .i64 (max x0 y0), .int .i64 (min x1 y1)] 50)).drew.cell? ⟨bk', o' + 1, none⟩ = some (.int .i64 y1) := cell_alloc _ q1
          have b3 : Below w2.heap.size w2 (wr.alloc (.cells #[.int .i64 (max x0 y0), .int .i64 (min x1 y1)] 50)).drew := Below.drew (hb.alloc hsz _)
          have hown3 : (wr.alloc (.cells #[.int .i64 (max x0 y0), .int .i64 (min x1 y1)] 50)).drew.ownsRow w2.heap.size 50 2 (.slice A2 k c2) k (rcells acc) := own_below hown (Below.drew (below_new _ _))
          go_wp2_with fail
          go_meet
          exact ⟨rfl, r0, r1, s1, s2, Lib.hid hown3, b3⟩
        case rest =>
          obtain ⟨rfl, r0, r1, s1, s2, HOw, b3⟩ := hcut
          have hown3 := HOw.out
          obtain ⟨w3, rfl⟩ : ∃ x, x = wc := ⟨_, rfl⟩
          generalize max x0 y0 = lo at *
          generalize min x1 y1 = hi at *
          have hs3 := b3.size
          clear z0 z1 z2 z3 p0 p1 q0 q1 hown hb HOw
          by_cases hc : lo ≤ hi
          · rw [if_pos hc, HBR.out] at HX
            have hob := hown3.lt
            have hg1 := World.block_lt_of_cell? _ _ s1
            have hg2 := World.block_lt_of_cell? _ _ s2
            go_wp2_with (at_builtin; refine wpList_append_lies _ rfl _ _ 48 rfl w2.heap.size 50 i0 _ 2 16 Try.underlying48 hi0 hz0 hz1 hz2 rfl (by decide) _ _ _ rfl (hown3.alloc _) ⟨w3.heap.size, 0, none⟩ 1 1 [.int .i64 lo, .int .i64 hi] rfl rfl ?k1 ?k2 (by omega) ?k3 ?k4 ?k5 _ rfl ?_)
            try
              case k1 =>
                intro j u hj
                match j, hj with
                | 0, hj => simp at hj; subst hj; simp [Addr.add]
                | 1, hj => simp at hj; subst hj; simp [Addr.add]
            case k2 => first | exact ⟨rfl, rfl⟩ | (intro u hu; simp at hu; rcases hu with rfl | rfl <;> rfl)
            case k3 => first | omega | (unfold maxLen; omega)
            case k4 => omega
            case k5 => first | omega | (simp; omega)
            · first | (intro g cap w5 hown5 hgrow hat hlt5) | (rename_i g cap w5 hown5 hgrow hat hlt5)
              have b5 : Below w2.heap.size w2 w5 := below_grown (b3.alloc (by omega) _) (by simp; omega) (hown3.alloc _) hgrow
              have t1 : w5.cell? ⟨bk, o + 1, none⟩ = some (.int .i64 x1) := hgrow.cell (cell_alloc _ s1) (by
                intro he
                have h1 := (hob _ he.symm).1
                have h2 : bk < w2.heap.size := hbb
                simp at h1
                omega)
              have t2 : w5.cell? ⟨bk', o' + 1, none⟩ = some (.int .i64 y1) := hgrow.cell (cell_alloc _ s2) (by
                intro he
                have h1 := (hob _ he.symm).1
                have h2 : bk' < w2.heap.size := hbb'
                simp at h1
                omega)
              have HK2 : Hid ((acc ++ [(lo, hi)]).length = k + 1) := Lib.hid (by simp [HK.out])
              have hO5 : w5.ownsRow w2.heap.size 50 2 (.slice (some ⟨g, 0, none⟩) (k + 1) cap) (k + 1) (rcells (acc ++ [(lo, hi)])) := by
                rw [rcells_snoc]; exact hown5
              clear hown5 hgrow hat hown3 s1 s2 r0 r1 hob b3
              by_cases hx : x1 < y1
              · rw [if_pos hx] at HX
                go_wp2_with fail
                go_big_quiet (fail)
                have b4 := below_drewN b5 nq
                have HO4 := Lib.hid (own_below hO5 (below_drewN (Below.refl _ w5) nq))
                clear hO5
                go_wp2_with (with_reducible refine wpList_tail rfl (.tmp 61) rfl bk o na c1 rfl hca hca2 ?_)
                go_roundw
                case rel => exact ⟨na, nb + 1, _, _, some ⟨g, 0, none⟩, tailC c1, d1, cap, a1, (y0, y1) :: b1, acc ++ [(lo, hi)], rfl, rfl, by rw [HK2.out], HLa4, HLb1, Lib.hid (reads_tail hca HRa4.out), HRb3, by unfold tailC; omega, hcb, by unfold tailC; omega, hcb2, HX, by rw [HK2.out]; omega, by rw [HK2.out]; exact HO4.out, b4⟩
                case measure => simp [bLen, lenOf]
              · rw [if_neg hx] at HX
                go_wp2_with fail
                go_big_quiet (fail)
                have b4 := below_drewN b5 nq
                have HO4 := Lib.hid (own_below hO5 (below_drewN (Below.refl _ w5) nq))
                clear hO5
                go_wp2_with (with_reducible refine wpList_tail rfl (.tmp 63) rfl bk' o' nb d1 rfl hcb hcb2 ?_)
                go_roundw
                case rel => exact ⟨na + 1, nb, _, _, some ⟨g, 0, none⟩, c1, tailC d1, cap, (x0, x1) :: a1, b1, acc ++ [(lo, hi)], rfl, rfl, by rw [HK2.out], HLa1, HLb4, HRa3, Lib.hid (reads_tail hcb HRb4.out), hca, by unfold tailC; omega, hca2, by unfold tailC; omega, HX, by rw [HK2.out]; omega, by rw [HK2.out]; exact HO4.out, b4⟩
                case measure => simp [bLen, lenOf]
          · rw [if_neg hc] at HX
            have HK2 := HK
            by_cases hx : x1 < y1
            · rw [if_pos hx] at HX
              go_wp2_with fail
              go_big_quiet (fail)
              have b4 := below_drewN b3 nq
              have HO4 := Lib.hid (own_below hown3 (below_drewN (Below.refl _ w3) nq))
              clear hown3
              go_wp2_with (with_reducible refine wpList_tail rfl (.tmp 61) rfl bk o na c1 rfl hca hca2 ?_)
              go_roundw
              case rel => exact ⟨na, nb + 1, _, _, A2, tailC c1, d1, c2, a1, (y0, y1) :: b1, acc, rfl, rfl, by rw [HK2.out], HLa4, HLb1, Lib.hid (reads_tail hca HRa4.out), HRb3, by unfold tailC; omega, hcb, by unfold tailC; omega, hcb2, HX, by rw [HK2.out]; omega, by rw [HK2.out]; exact HO4.out, b4⟩
              case measure => simp [bLen, lenOf]
            · rw [if_neg hx] at HX
              go_wp2_with fail
              go_big_quiet (fail)
              have b4 := below_drewN b3 nq
              have HO4 := Lib.hid (own_below hown3 (below_drewN (Below.refl _ w3) nq))
              clear hown3
              go_wp2_with (with_reducible refine wpList_tail rfl (.tmp 63) rfl bk' o' nb d1 rfl hcb hcb2 ?_)
              go_roundw
              case rel => exact ⟨na + 1, nb, _, _, A2, c1, tailC d1, c2, (x0, x1) :: a1, b1, acc, rfl, rfl, by rw [HK2.out], HLa1, HLb4, HRa3, Lib.hid (reads_tail hcb HRb4.out), hca, by unfold tailC; omega, hca2, by unfold tailC; omega, HX, by rw [HK2.out]; omega, by rw [HK2.out]; exact HO4.out, b4⟩
              case measure => simp [bLen, lenOf]
end Go.Proofs.Ythaageiflimnnaa
/- Words that the statements share. -/
namespace Go.Proofs.Ythaageiflimnnaa
open Go.RowKit Go.BigFrame
set_option linter.unusedVariables false
set_option linter.unusedSimpArgs false

/-- A set of what p tells, of k ranges, in a new row. -/
def OutN (p : Int → Prop) (m : Nat) (w : World) (e : Ending) (w' : World) : Prop :=
  ∃ (s : List Rg) (k : Nat) (A : Option Addr) (c : Nat), e = .returned (.tuple #[.slice A k c, .bool true]) ∧ s.length = k ∧ k ≤ m ∧ Shp A k c ∧ IsSet s p ∧ Reads w' w'.heap.size 2 A k (rcells s) ∧ Below w.heap.size w w'
theorem outN_of {p : Int → Prop} {m : Nat} {w : World} {e : Ending} {w' : World} (h : OutSet p m w e w') : OutN p m w e w' := by
  obtain ⟨s, A, c, he, hs, hI, hm, hR, hb⟩ := h
  exact ⟨s, s.length, A, c, he, rfl, hm, hs, hI, hR, hb⟩
theorem both_N {a b : List Rg} {n m : Nat} (ha : a.length = n) (hb : b.length = m) {A B : Option Addr} {c d : Nat} {w : World} (hA : Shp A n c) (hB : Shp B m d)
    (hRa : Reads w w.heap.size 2 A n (rcells a)) (hRb : Reads w w.heap.size 2 B m (rcells b)) (hn : n ≤ 5000) (hm : m ≤ 5000) (ga : Gd (-1) a) (gb : Gd (-1) b) :
    Calls Try.prog 59 #[.slice A n c, .slice B m d] w (OutN (fun v => In a v ∧ In b v) (n + m) w) :=
  (both_good a b n m ha hb A B c d w hA hB hRa hRb hn hm ga gb).mono fun _ _ h => outN_of h
theorem same_yes {P Q : List Rg} {n m : Nat} (lP : P.length = n) (lQ : Q.length = m) {A B : Option Addr} {c d : Nat} {w : World} (hP : Reads w w.heap.size 2 A n (rcells P)) (hQ : Reads w w.heap.size 2 B m (rcells Q)) (hn : n ≤ 1048576) (h : P = Q) :
    Calls Try.prog 60 #[.slice A n c, .slice B m d] w fun e w' => e = .returned (.bool true) ∧ Below w.heap.size w w' := by
  have := same_n P Q n m lP lQ A B c d w hP hQ hn
  rwa [show eqL P Q = true from decide_eq_true h] at this
theorem good_yes {l : List Rg} {n : Nat} (hl : l.length = n) {A : Option Addr} {c : Nat} {w : World} (hR : Reads w w.heap.size 2 A n (rcells l)) (hn : n ≤ 1000000) (hg : Gd (-1) l) :
    Calls Try.prog 46 #[.slice A n c] w fun e w' => e = .returned (.bool true) ∧ Below w.heap.size w w' := by
  have := good_n n l hl A c w hR hn
  rwa [(goodB_iff l).2 hg] at this
theorem refGood_yes {l : List Rg} {n : Nat} (hl : l.length = n) {A : Option Addr} {c : Nat} {w : World} (hR : Reads w w.heap.size 2 A n (rcells l)) (hn : n ≤ 1000000) (hg : Gd (-1) l) :
    Calls Try.prog 22 #[.slice A n c] w fun e w' => e = .returned (.bool true) ∧ Below w.heap.size w w' := by
  have := refGood_n n l hl A c w hR hn
  rwa [(goodB_iff l).2 hg] at this
theorem refGood_no {l : List Rg} {n : Nat} (hl : l.length = n) {A : Option Addr} {c : Nat} {w : World} (hR : Reads w w.heap.size 2 A n (rcells l)) (hn : n ≤ 1000000) (hg : goodB l = false) :
    Calls Try.prog 22 #[.slice A n c] w fun e w' => e = .returned (.bool false) ∧ Below w.heap.size w w' := by
  have := refGood_n n l hl A c w hR hn
  rwa [hg] at this
theorem reads_nil (w : World) : Reads w w.heap.size 2 none 0 (rcells []) := ⟨rfl, fun h => absurd h (by omega)⟩
theorem shp_nil : Shp none 0 0 := ⟨fun _ => rfl, Nat.le_refl _, Nat.zero_le _⟩

def largeB (n m : Nat) : Bool := decide ((60 : Int) < (n : Int)) || decide ((60 : Int) < (m : Int))
end Go.Proofs.Ythaageiflimnnaa
/- Slices of sets, as memory holds them; whether all may be. -/
namespace Go.Proofs.Ythaageiflimnnaa
open Go.RowKit Go.BigFrame
set_option linter.unusedVariables false
set_option linter.unusedSimpArgs false

/-- A set's slice: its value and what it holds. -/
structure Hd where
  a : Option Addr
  n : Nat
  c : Nat
  s : List Rg
def Hd.v (h : Hd) : Value := .slice h.a h.n h.c
def Hd.ok (w : World) (B : Nat) (h : Hd) : Prop := h.s.length = h.n ∧ Shp h.a h.n h.c ∧ Reads w B 2 h.a h.n (rcells h.s)
def hcells (H : List Hd) : List Value := H.map Hd.v
def setsOf (H : List Hd) : List (List Rg) := H.map (·.s)
theorem hcells_len (H : List Hd) : (hcells H).length = H.length := by simp [hcells]
theorem hcells_one (H : List Hd) : ∀ u ∈ hcells H, u.oneCell' = true := by
  intro u hu
  simp only [hcells, List.mem_map] at hu
  obtain ⟨x, _, rfl⟩ := hu
  rfl
/-- A slice of sets that lies below block B. -/
def Nest (w : World) (B : Nat) (A : Option Addr) (n : Nat) (H : List Hd) : Prop :=
  H.length = n ∧ Reads w B 1 A n (hcells H) ∧ ∀ h ∈ H, h.ok w B
theorem Hd.ok.below {w w' : World} {B : Nat} {h : Hd} (o : h.ok w B) (g : Below B w w') : h.ok w' B := ⟨o.1, o.2.1, o.2.2.below g⟩
theorem Hd.ok.more {w : World} {B B' : Nat} {h : Hd} (o : h.ok w B) (g : B ≤ B') : h.ok w B' := ⟨o.1, o.2.1, o.2.2.more g⟩
theorem Nest.below {w w' : World} {B n : Nat} {A : Option Addr} {H : List Hd} (h : Nest w B A n H) (g : Below B w w') : Nest w' B A n H := ⟨h.1, h.2.1.below g, fun x hx => (h.2.2 x hx).below g⟩
theorem Nest.more {w : World} {B B' n : Nat} {A : Option Addr} {H : List Hd} (h : Nest w B A n H) (g : B ≤ B') : Nest w B' A n H := ⟨h.1, h.2.1.more g, fun x hx => (h.2.2 x hx).more g⟩
theorem Nest.on {w w' : World} {n : Nat} {A : Option Addr} {H : List Hd} (h : Nest w w.heap.size A n H) (g : Below w.heap.size w w') : Nest w' w'.heap.size A n H := (h.below g).more g.size
/-- The k-th set. -/
theorem Nest.at {w : World} {B n : Nat} {A : Option Addr} {H : List Hd} (h : Nest w B A n H) {k : Nat} (hk : k < H.length) :
    ∃ b o, A = some ⟨b, o, none⟩ ∧ b < B ∧ w.cell? ⟨b, o + k, none⟩ = some (.slice H[k].a H[k].n H[k].c) ∧ H[k].ok w B := by
  have h1 := h.1
  obtain ⟨b, o, rfl, hb, hc⟩ := h.2.1.2 (by omega)
  exact ⟨b, o, rfl, hb, hc k _ (by unfold hcells; rw [List.getElem?_map, List.getElem?_eq_getElem hk]; rfl), h.2.2 _ (List.getElem_mem hk)⟩
def allB (L : List (List Rg)) : Bool := L.all goodB
theorem allB_iff (L : List (List Rg)) : allB L = true ↔ ∀ s ∈ L, Gd (-1) s := by simp [allB, goodB_iff]
theorem allB_take (H : List Hd) (k : Nat) (hk : k < H.length) : allB (setsOf (H.take (k + 1))) = (allB (setsOf (H.take k)) && goodB H[k].s) := by
  unfold setsOf allB
  rw [List.take_succ_eq_append_getElem hk, List.map_append, List.all_append]
  simp only [List.map_cons, List.map_nil, List.all_cons, List.all_nil, Bool.and_true]
theorem allB_at (H : List Hd) (k : Nat) (hk : k < H.length) (h : goodB H[k].s = false) : allB (setsOf H) = false := by
  unfold allB setsOf
  rw [List.all_eq_false]
  exact ⟨H[k].s, List.mem_map.2 ⟨_, List.getElem_mem hk, rfl⟩, by simp [h]⟩

set_option maxHeartbeats 1000000 in
theorem allGood_n (H : List Hd) (n : Nat) (A : Option Addr) (c : Nat) (w : World) (hN : Nest w w.heap.size A n H) (hn : n ≤ 1000000) (hm : ∀ h ∈ H, h.n ≤ 1000000) :
    Calls Try.prog 29 #[.slice A n c] w fun e w' => e = .returned (.bool (allB (setsOf H))) ∧ Below w.heap.size w w' := by
  have HN := Lib.hid hN
  have HM := Lib.hid hm
  clear hN hm
  go_enter Try.func29, Try.ntmps29
  go_wp2_with fail
  go_loopw [7] (fun i wr => ∃ (k : Nat), k ≤ n ∧ i = .int .i64 k ∧ Below w.heap.size w wr ∧ Hid (allB (setsOf (H.take k)) = true)) (fun i _ => n - (intOf i).toNat)
  case atStart => exact ⟨0, Nat.zero_le _, rfl, Below.refl _ _, Lib.hid rfl⟩
  case round =>
    obtain ⟨k, hk, rfl, hb, HG⟩ := hrel
    have hsz := hb.size
    by_cases hlt : k < n
    · have kl : k < H.length := by rw [HN.out.1]; exact hlt
      obtain ⟨b, o, rfl, hbb, p0, q1, q2, q3⟩ := (HN.out.below hb).at kl
      have HX := Lib.hid (good_n _ _ q1 H[k].a H[k].c wr (q3.more hsz) (HM.out _ (List.getElem_mem kl)))
      have HT := Lib.hid (allB_take H k kl)
      have HF := Lib.hid (allB_at H k kl)
      generalize H[k] = x at *
      obtain ⟨xa, xn, xc, xs⟩ := x
      simp only [] at p0 HX HT HF
      clear q1 q2 q3
      cases hg : goodB xs
      · have HF' := Lib.hid (HF.out hg)
        rw [hg] at HX
        clear HT HF HG hg
        go_wp2_with fail
        refine HX.out.mono ?_
        rintro e w1 ⟨rfl, g1⟩
        go_wp2_with fail
        go_ret
        exact ⟨ret_bool HF'.out.symm, hb.trans (g1.mono hsz)⟩
      · have HT' : Hid (allB (setsOf (H.take (k + 1))) = true) := Lib.hid (by rw [HT.out, HG.out, hg]; rfl)
        rw [hg] at HX
        clear HT HF HG hg
        go_wp2_with fail
        refine HX.out.mono ?_
        rintro e w1 ⟨rfl, g1⟩
        have b1 := hb.trans (g1.mono hsz)
        clear HX g1
        go_wp2_with fail
        go_roundw
        case rel => exact ⟨k + 1, by omega, by go_num, b1, HT'⟩
        case measure => simp [intOf]; omega
    · have HX : Hid (allB (setsOf H) = true) := Lib.hid (by
        have h := HG.out
        rwa [List.take_of_length_le (by rw [HN.out.1]; omega)] at h)
      go_wp2_with fail
      go_ret
      exact ⟨ret_bool HX.out.symm, hb⟩
end Go.Proofs.Ythaageiflimnnaa
