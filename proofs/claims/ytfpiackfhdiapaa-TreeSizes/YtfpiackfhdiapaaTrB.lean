/- What beginning of package tree returns. -/
import Derived.Test.YtfpiackfhdiapaaTrW
import Derived.IntWalk
namespace Go.Proofs.Ytfpiackfhdiapaa.S
open Go.RowKit Go.BigFrame
set_option linter.unusedVariables false
set_option linter.unusedSimpArgs false

def OutBg (bs : List Nat) (x : Nd) (w : World) (e : Ending) (w' : World) : Prop :=
  ∃ z : Int, e = .returned (.tuple #[.int .i64 z, .bool (stepB bs x).isSome]) ∧ (∀ y, stepB bs x = some y → z = (y : Nat)) ∧ Below w.heap.size w w'
theorem outBg_no {bs : List Nat} {x : Nd} {w w' : World} {z : Int} (h : stepB bs x = none) (g : Below w.heap.size w w') : OutBg bs x w (.returned (.tuple #[.int .i64 z, .bool false])) w' :=
  ⟨z, by rw [h]; rfl, fun y hy => (by rw [h] at hy; cases hy), g⟩
theorem outBg_yes {bs : List Nat} {x : Nd} {w w' : World} {z : Int} {y : Nat} (h : stepB bs x = some y) (hz : z = (y : Nat)) (g : Below w.heap.size w w') : OutBg bs x w (.returned (.tuple #[.int .i64 z, .bool true])) w' :=
  ⟨z, by rw [h]; rfl, fun u hu => (by rw [h] at hu; cases hu; exact hz), g⟩
theorem getLast_at {bs : List Nat} {i : Nat} (h : bs.length = i + 1) : bs.getLast? = some (bs[i]'(by omega)) := by
  rw [List.getLast?_eq_getElem?]
  simp only [h, Nat.add_sub_cancel]
  exact List.getElem?_eq_getElem _
theorem icells_nat {w : World} {B n : Nat} {A : Option Addr} {bs : List Nat} (h : Reads w B 1 A n (icells (bs.map Int.ofNat))) {k : Nat} (hk : k < bs.length) : ∃ b o, A = some ⟨b, o, none⟩ ∧ b < B ∧ w.cell? ⟨b, o + k, none⟩ = some (.int .i64 (bs[k] : Nat)) := by
  obtain ⟨b, o, h1, h2, h3⟩ := h.int (k := k) (by simpa using hk)
  exact ⟨b, o, h1, h2, by simpa using h3⟩
theorem stepB_leaf_no {bs : List Nat} {x : Nd} (h : x.k = 0 ∨ x.k = 1 ∨ x.k = 2) (h2 : ¬ (x.a = 0 ∧ x.b = 0)) : stepB bs x = none := by unfold stepB; rw [if_pos h, if_neg h2]
theorem stepB_leaf_yes {bs : List Nat} {x : Nd} (h : x.k = 0 ∨ x.k = 1 ∨ x.k = 2) (h2 : x.a = 0 ∧ x.b = 0) : stepB bs x = some bs.length := by unfold stepB; rw [if_pos h, if_pos h2]
theorem stepB_nil {x : Nd} (h : ¬ (x.k = 0 ∨ x.k = 1 ∨ x.k = 2)) : stepB [] x = none := by unfold stepB; rw [if_neg h]; rfl
theorem stepB_star {bs : List Nat} {x : Nd} {z : Nat} (h : x.k = 5) (hz : bs.getLast? = some z) : stepB bs x = if x.a = (bs.length : Int) - 1 ∧ x.b = 0 then some z else none := by
  unfold stepB; rw [if_neg (by omega), hz]; simp only []; rw [if_pos h]
theorem stepB_fork {bs : List Nat} {x : Nd} {z : Nat} (h : x.k = 3 ∨ x.k = 4) (hz : bs.getLast? = some z) : stepB bs x = if x.b = (bs.length : Int) - 1 ∧ 0 < z ∧ x.a = (z : Int) - 1 then bs[z - 1]? else none := by
  unfold stepB; rw [if_neg (by omega), hz]; simp only []; rw [if_neg (by omega), if_pos h]
theorem stepB_other {bs : List Nat} {x : Nd} (h : ¬ (x.k = 0 ∨ x.k = 1 ∨ x.k = 2)) (h5 : ¬ x.k = 5) (h3 : ¬ (x.k = 3 ∨ x.k = 4)) : stepB bs x = none := by
  unfold stepB
  rw [if_neg h]
  cases bs.getLast? with
  | none => rfl
  | some z => simp only []; rw [if_neg h5, if_neg h3]

set_option maxHeartbeats 2000000 in
theorem begin_leaf0 (bs : List Nat) (i : Nat) (hl : bs.length = i) (hi : i ≤ 1000000) (B : Option Addr) (cb : Nat) (a b : Int) (A : Option Addr) (n c : Nat) (s : List Rg) (m : ByteArray) (w : World) :
    Calls Try.prog 33 #[.slice B i cb, nvv 0 a b A n c m] w (OutBg bs ⟨0, a, b, s, m⟩ w) := by
  have b1 := below_new w (.cells #[.int .i64 0, .int .i64 a, .int .i64 b, .slice A n c, .string m] 48)
  by_cases ha : a = 0
  · subst ha
    by_cases hb : b = 0
    · subst hb
      have HS : Hid (stepB bs ⟨0, 0, 0, s, m⟩ = some i) := Lib.hid (by rw [← hl]; exact stepB_leaf_yes (by simp) ⟨rfl, rfl⟩)
      clear hl
      go_enter Try.func33, Try.ntmps33
      go_wp2_with fail
      go_quiet (fail)
      go_wp2_with fail
      go_ret2
      exact outBg_yes HS.out rfl (below_drewN b1 _)
    · have HS : Hid (stepB bs ⟨0, 0, b, s, m⟩ = none) := Lib.hid (stepB_leaf_no (by simp) (fun h => hb h.2))
      have hb2 : (b == 0) = false := by rw [beq_eq_false_iff_ne]; exact hb
      clear hl
      go_enter Try.func33, Try.ntmps33
      go_wp2_with fail
      go_quiet (fail)
      go_wp2_with fail
      go_ret2
      exact outBg_no HS.out (below_drewN b1 _)
  · have HS : Hid (stepB bs ⟨0, a, b, s, m⟩ = none) := Lib.hid (stepB_leaf_no (by simp) (fun h => ha h.1))
    have ha2 : (a == 0) = false := by rw [beq_eq_false_iff_ne]; exact ha
    clear hl
    go_enter Try.func33, Try.ntmps33
    go_wp2_with fail
    go_quiet (fail)
    go_wp2_with fail
    go_ret2
    exact outBg_no HS.out (below_drewN b1 _)

set_option maxHeartbeats 2000000 in
theorem begin_leaf1 (bs : List Nat) (i : Nat) (hl : bs.length = i) (hi : i ≤ 1000000) (B : Option Addr) (cb : Nat) (a b : Int) (A : Option Addr) (n c : Nat) (s : List Rg) (m : ByteArray) (w : World) :
    Calls Try.prog 33 #[.slice B i cb, nvv 1 a b A n c m] w (OutBg bs ⟨1, a, b, s, m⟩ w) := by
  have b1 := below_new w (.cells #[.int .i64 1, .int .i64 a, .int .i64 b, .slice A n c, .string m] 48)
  by_cases ha : a = 0
  · subst ha
    by_cases hb : b = 0
    · subst hb
      have HS : Hid (stepB bs ⟨1, 0, 0, s, m⟩ = some i) := Lib.hid (by rw [← hl]; exact stepB_leaf_yes (by simp) ⟨rfl, rfl⟩)
      clear hl
      go_enter Try.func33, Try.ntmps33
      go_wp2_with fail
      go_quiet (fail)
      go_wp2_with fail
      go_ret2
      exact outBg_yes HS.out rfl (below_drewN b1 _)
    · have HS : Hid (stepB bs ⟨1, 0, b, s, m⟩ = none) := Lib.hid (stepB_leaf_no (by simp) (fun h => hb h.2))
      have hb2 : (b == 0) = false := by rw [beq_eq_false_iff_ne]; exact hb
      clear hl
      go_enter Try.func33, Try.ntmps33
      go_wp2_with fail
      go_quiet (fail)
      go_wp2_with fail
      go_ret2
      exact outBg_no HS.out (below_drewN b1 _)
  · have HS : Hid (stepB bs ⟨1, a, b, s, m⟩ = none) := Lib.hid (stepB_leaf_no (by simp) (fun h => ha h.1))
    have ha2 : (a == 0) = false := by rw [beq_eq_false_iff_ne]; exact ha
    clear hl
    go_enter Try.func33, Try.ntmps33
    go_wp2_with fail
    go_quiet (fail)
    go_wp2_with fail
    go_ret2
    exact outBg_no HS.out (below_drewN b1 _)

set_option maxHeartbeats 2000000 in
theorem begin_leaf2 (bs : List Nat) (i : Nat) (hl : bs.length = i) (hi : i ≤ 1000000) (B : Option Addr) (cb : Nat) (a b : Int) (A : Option Addr) (n c : Nat) (s : List Rg) (m : ByteArray) (w : World) :
    Calls Try.prog 33 #[.slice B i cb, nvv 2 a b A n c m] w (OutBg bs ⟨2, a, b, s, m⟩ w) := by
  have b1 := below_new w (.cells #[.int .i64 2, .int .i64 a, .int .i64 b, .slice A n c, .string m] 48)
  by_cases ha : a = 0
  · subst ha
    by_cases hb : b = 0
    · subst hb
      have HS : Hid (stepB bs ⟨2, 0, 0, s, m⟩ = some i) := Lib.hid (by rw [← hl]; exact stepB_leaf_yes (by simp) ⟨rfl, rfl⟩)
      clear hl
      go_enter Try.func33, Try.ntmps33
      go_wp2_with fail
      go_quiet (fail)
      go_wp2_with fail
      go_ret2
      exact outBg_yes HS.out rfl (below_drewN b1 _)
    · have HS : Hid (stepB bs ⟨2, 0, b, s, m⟩ = none) := Lib.hid (stepB_leaf_no (by simp) (fun h => hb h.2))
      have hb2 : (b == 0) = false := by rw [beq_eq_false_iff_ne]; exact hb
      clear hl
      go_enter Try.func33, Try.ntmps33
      go_wp2_with fail
      go_quiet (fail)
      go_wp2_with fail
      go_ret2
      exact outBg_no HS.out (below_drewN b1 _)
  · have HS : Hid (stepB bs ⟨2, a, b, s, m⟩ = none) := Lib.hid (stepB_leaf_no (by simp) (fun h => ha h.1))
    have ha2 : (a == 0) = false := by rw [beq_eq_false_iff_ne]; exact ha
    clear hl
    go_enter Try.func33, Try.ntmps33
    go_wp2_with fail
    go_quiet (fail)
    go_wp2_with fail
    go_ret2
    exact outBg_no HS.out (below_drewN b1 _)

set_option maxHeartbeats 2000000 in
theorem begin_other (bs : List Nat) (i : Nat) (hi : i ≤ 1000000) (B : Option Addr) (cb : Nat) (k a b : Int) (A : Option Addr) (n c : Nat) (s : List Rg) (m : ByteArray) (w : World) (h0 : ¬ k = 0) (h1 : ¬ k = 1) (h2 : ¬ k = 2) (h5 : ¬ k = 5) (h3 : ¬ k = 3) (h4 : ¬ k = 4) :
    Calls Try.prog 33 #[.slice B i cb, nvv k a b A n c m] w (OutBg bs ⟨k, a, b, s, m⟩ w) := by
  have b1 := below_new w (.cells #[.int .i64 k, .int .i64 a, .int .i64 b, .slice A n c, .string m] 48)
  have HS : Hid (stepB bs ⟨k, a, b, s, m⟩ = none) := Lib.hid (stepB_other (by simp only []; omega) h5 (by simp only []; omega))
  go_enter Try.func33, Try.ntmps33
  go_wp2_with fail
  go_ret2
  exact outBg_no HS.out b1

set_option maxHeartbeats 2000000 in
theorem begin_star (bs : List Nat) (i : Nat) (hl : bs.length = i) (hi : i ≤ 1000000) (B : Option Addr) (cb : Nat) (a b : Int) (A : Option Addr) (n c : Nat) (s : List Rg) (m : ByteArray) (w : World) (hR : Reads w w.heap.size 1 B i (icells (bs.map Int.ofNat))) :
    Calls Try.prog 33 #[.slice B i cb, nvv 5 a b A n c m] w (OutBg bs ⟨5, a, b, s, m⟩ w) := by
  have b1 := below_new w (.cells #[.int .i64 5, .int .i64 a, .int .i64 b, .slice A n c, .string m] 48)
  have hRd := hR.alloc (Nat.le_refl _) (.cells #[.int .i64 5, .int .i64 a, .int .i64 b, .slice A n c, .string m] 48)
  clear hR
  cases i with
  | zero =>
    obtain rfl := List.eq_nil_of_length_eq_zero hl
    have HS : Hid (stepB [] ⟨5, a, b, s, m⟩ = none) := Lib.hid (stepB_nil (by simp))
    clear hl hRd
    go_enter Try.func33, Try.ntmps33
    go_wp2_with fail
    go_ret2
    exact outBg_no HS.out b1
  | succ i =>
    obtain ⟨g, o, rfl, _, p0⟩ := icells_nat hRd (k := i) (by omega)
    have HS0 := Lib.hid (stepB_star (x := ⟨5, a, b, s, m⟩) rfl (getLast_at hl))
    simp only [hl] at HS0
    generalize bs[i] = z at *
    have fi : IntKind.i64.wrap (((i + 1 : Nat) : Int) - 1) = i := by rw [IntWalk.i64_in _ (by omega)]; omega
    have fi2 : IntKind.i64.wrap (((i : Nat) : Int) + 1 - 1) = i := by rw [IntWalk.i64_in _ (by omega)]; omega
    have ci : ¬ ((i : Int) < 0) := by omega
    clear hRd
    by_cases ha : a = (i : Int)
    · subst ha
      by_cases hb : b = 0
      · subst hb
        have HS : Hid (stepB bs ⟨5, (i : Int), 0, s, m⟩ = some z) := Lib.hid (by rw [HS0.out, if_pos ⟨by omega, rfl⟩])
        clear HS0 hl
        go_enter Try.func33, Try.ntmps33
        go_wp2_with fail
        go_ret2
        exact outBg_yes HS.out rfl b1
      · have HS : Hid (stepB bs ⟨5, (i : Int), b, s, m⟩ = none) := Lib.hid (by rw [HS0.out, if_neg (fun h => hb h.2)])
        clear HS0 hl
        go_enter Try.func33, Try.ntmps33
        go_wp2_with fail
        go_ret2
        exact outBg_no HS.out b1
    · have HS : Hid (stepB bs ⟨5, a, b, s, m⟩ = none) := Lib.hid (by rw [HS0.out, if_neg (fun h => ha (by have := h.1; omega))])
      clear HS0 hl
      go_enter Try.func33, Try.ntmps33
      go_wp2_with fail
      go_ret2
      exact outBg_no HS.out b1

set_option maxHeartbeats 2000000 in
theorem begin_fork3 (bs : List Nat) (i : Nat) (hl : bs.length = i) (hbs : ∀ j (h : j < bs.length), bs[j] ≤ j) (hi : i ≤ 1000000) (B : Option Addr) (cb : Nat) (a b : Int) (A : Option Addr) (n c : Nat) (s : List Rg) (m : ByteArray) (w : World) (hR : Reads w w.heap.size 1 B i (icells (bs.map Int.ofNat))) :
    Calls Try.prog 33 #[.slice B i cb, nvv 3 a b A n c m] w (OutBg bs ⟨3, a, b, s, m⟩ w) := by
  have b1 := below_new w (.cells #[.int .i64 3, .int .i64 a, .int .i64 b, .slice A n c, .string m] 48)
  have hRd := hR.alloc (Nat.le_refl _) (.cells #[.int .i64 3, .int .i64 a, .int .i64 b, .slice A n c, .string m] 48)
  clear hR
  cases i with
  | zero =>
    obtain rfl := List.eq_nil_of_length_eq_zero hl
    have HS : Hid (stepB [] ⟨3, a, b, s, m⟩ = none) := Lib.hid (stepB_nil (by simp))
    clear hl hRd
    go_enter Try.func33, Try.ntmps33
    go_wp2_with fail
    go_quiet (fail)
    go_wp2_with fail
    go_ret2
    exact outBg_no HS.out (below_drewN b1 _)
  | succ i =>
    obtain ⟨g, o, rfl, _, p0⟩ := icells_nat hRd (k := i) (by omega)
    have HS0 := Lib.hid (stepB_fork (x := ⟨3, a, b, s, m⟩) (by simp) (getLast_at hl))
    have hzi := hbs i (by omega)
    have HZ : Hid (∀ z, bs[i] = z → 0 < z → ∃ y, bs[z - 1]? = some y ∧ (w.alloc (.cells #[.int .i64 3, .int .i64 a, .int .i64 b, .slice A n c, .string m] 48)).cell? ⟨g, o + (z - 1), none⟩ = some (.int .i64 (y : Nat))) := Lib.hid (fun z hz hp => by
      obtain ⟨g', o', e', _, q0⟩ := icells_nat hRd (k := z - 1) (by omega)
      injection e' with e'
      injection e' with e1 e2
      subst e1 e2
      exact ⟨_, List.getElem?_eq_getElem (by omega), q0⟩)
    simp only [hl] at HS0
    generalize bs[i] = z at *
    have fi : IntKind.i64.wrap (((i + 1 : Nat) : Int) - 1) = i := by rw [IntWalk.i64_in _ (by omega)]; omega
    have fi2 : IntKind.i64.wrap (((i : Nat) : Int) + 1 - 1) = i := by rw [IntWalk.i64_in _ (by omega)]; omega
    have fz : IntKind.i64.wrap ((z : Int) - 1) = (z : Int) - 1 := IntWalk.i64_in _ (by omega)
    have ci : ¬ ((i : Int) < 0) := by omega
    have ci2 : decide ((i : Int) < 0) = false := decide_eq_false ci
    have ci3 : (i : Int) < (i : Int) + 1 := by omega
    clear hRd
    by_cases hb : b = (i : Int)
    · subst hb
      have nb : ((i : Int) != (i : Int)) = false := by simp
      by_cases h0 : z = 0
      · subst h0
        have HS : Hid (stepB bs ⟨3, a, (i : Int), s, m⟩ = none) := Lib.hid (by rw [HS0.out, if_neg (fun h => by have := h.2.1; omega)])
        clear HS0 hl HZ
        go_enter Try.func33, Try.ntmps33
        go_wp2_with fail
        go_quiet (fail)
        go_wp2_with fail
        go_ret2
        exact outBg_no HS.out (below_drewN b1 _)
      · have hz0 : ¬ (z : Int) = 0 := by omega
        have hz1 : ((z : Int) == 0) = false := by rw [beq_eq_false_iff_ne]; exact hz0
        by_cases ha : a = (z : Int) - 1
        · obtain ⟨y, hy1, hy2⟩ := HZ.out z rfl (by omega)
          have HS : Hid (stepB bs ⟨3, a, (i : Int), s, m⟩ = some y) := Lib.hid (by rw [HS0.out, if_pos ⟨by omega, by omega, ha⟩, hy1])
          clear HS0 hl HZ hy1
          obtain ⟨v, rfl⟩ : ∃ v : Nat, a = (v : Int) := ⟨z - 1, by omega⟩
          have hv : z - 1 = v := by omega
          rw [hv] at hy2
          have fz' : IntKind.i64.wrap ((z : Int) - 1) = (v : Int) := by rw [fz]; omega
          have nv : ((v : Int) != (v : Int)) = false := by simp
          have v0 : (v : Int) < ((i + 1 : Nat) : Int) := by omega
          have v1 : (v : Int) < (i : Int) + 1 := by omega
          have v2 : v < i + 1 := by omega
          clear fz ha hv
          go_enter Try.func33, Try.ntmps33
          go_wp2_with fail
          go_quiet (fail)
          go_wp2_with fail
          go_ret2
          exact outBg_yes HS.out rfl (below_drewN b1 _)
        · have na : (a != (z : Int) - 1) = true := by rw [bne_iff_ne]; exact ha
          have HS : Hid (stepB bs ⟨3, a, (i : Int), s, m⟩ = none) := Lib.hid (by rw [HS0.out, if_neg (fun h => ha h.2.2)])
          clear HS0 hl HZ
          go_enter Try.func33, Try.ntmps33
          go_wp2_with fail
          go_quiet (fail)
          go_wp2_with fail
          go_ret2
          exact outBg_no HS.out (below_drewN b1 _)
    · have nb : (b != (i : Int)) = true := by rw [bne_iff_ne]; exact hb
      have HS : Hid (stepB bs ⟨3, a, b, s, m⟩ = none) := Lib.hid (by rw [HS0.out, if_neg (fun h => hb (by have := h.1; omega))])
      clear HS0 hl HZ
      go_enter Try.func33, Try.ntmps33
      go_wp2_with fail
      go_quiet (fail)
      go_wp2_with fail
      go_ret2
      exact outBg_no HS.out (below_drewN b1 _)

set_option maxHeartbeats 2000000 in
theorem begin_fork4 (bs : List Nat) (i : Nat) (hl : bs.length = i) (hbs : ∀ j (h : j < bs.length), bs[j] ≤ j) (hi : i ≤ 1000000) (B : Option Addr) (cb : Nat) (a b : Int) (A : Option Addr) (n c : Nat) (s : List Rg) (m : ByteArray) (w : World) (hR : Reads w w.heap.size 1 B i (icells (bs.map Int.ofNat))) :
    Calls Try.prog 33 #[.slice B i cb, nvv 4 a b A n c m] w (OutBg bs ⟨4, a, b, s, m⟩ w) := by
  have b1 := below_new w (.cells #[.int .i64 4, .int .i64 a, .int .i64 b, .slice A n c, .string m] 48)
  have hRd := hR.alloc (Nat.le_refl _) (.cells #[.int .i64 4, .int .i64 a, .int .i64 b, .slice A n c, .string m] 48)
  clear hR
  cases i with
  | zero =>
    obtain rfl := List.eq_nil_of_length_eq_zero hl
    have HS : Hid (stepB [] ⟨4, a, b, s, m⟩ = none) := Lib.hid (stepB_nil (by simp))
    clear hl hRd
    go_enter Try.func33, Try.ntmps33
    go_wp2_with fail
    go_quiet (fail)
    go_wp2_with fail
    go_ret2
    exact outBg_no HS.out (below_drewN b1 _)
  | succ i =>
    obtain ⟨g, o, rfl, _, p0⟩ := icells_nat hRd (k := i) (by omega)
    have HS0 := Lib.hid (stepB_fork (x := ⟨4, a, b, s, m⟩) (by simp) (getLast_at hl))
    have hzi := hbs i (by omega)
    have HZ : Hid (∀ z, bs[i] = z → 0 < z → ∃ y, bs[z - 1]? = some y ∧ (w.alloc (.cells #[.int .i64 4, .int .i64 a, .int .i64 b, .slice A n c, .string m] 48)).cell? ⟨g, o + (z - 1), none⟩ = some (.int .i64 (y : Nat))) := Lib.hid (fun z hz hp => by
      obtain ⟨g', o', e', _, q0⟩ := icells_nat hRd (k := z - 1) (by omega)
      injection e' with e'
      injection e' with e1 e2
      subst e1 e2
      exact ⟨_, List.getElem?_eq_getElem (by omega), q0⟩)
    simp only [hl] at HS0
    generalize bs[i] = z at *
    have fi : IntKind.i64.wrap (((i + 1 : Nat) : Int) - 1) = i := by rw [IntWalk.i64_in _ (by omega)]; omega
    have fi2 : IntKind.i64.wrap (((i : Nat) : Int) + 1 - 1) = i := by rw [IntWalk.i64_in _ (by omega)]; omega
    have fz : IntKind.i64.wrap ((z : Int) - 1) = (z : Int) - 1 := IntWalk.i64_in _ (by omega)
    have ci : ¬ ((i : Int) < 0) := by omega
    have ci2 : decide ((i : Int) < 0) = false := decide_eq_false ci
    have ci3 : (i : Int) < (i : Int) + 1 := by omega
    clear hRd
    by_cases hb : b = (i : Int)
    · subst hb
      have nb : ((i : Int) != (i : Int)) = false := by simp
      by_cases h0 : z = 0
      · subst h0
        have HS : Hid (stepB bs ⟨4, a, (i : Int), s, m⟩ = none) := Lib.hid (by rw [HS0.out, if_neg (fun h => by have := h.2.1; omega)])
        clear HS0 hl HZ
        go_enter Try.func33, Try.ntmps33
        go_wp2_with fail
        go_quiet (fail)
        go_wp2_with fail
        go_ret2
        exact outBg_no HS.out (below_drewN b1 _)
      · have hz0 : ¬ (z : Int) = 0 := by omega
        have hz1 : ((z : Int) == 0) = false := by rw [beq_eq_false_iff_ne]; exact hz0
        by_cases ha : a = (z : Int) - 1
        · obtain ⟨y, hy1, hy2⟩ := HZ.out z rfl (by omega)
          have HS : Hid (stepB bs ⟨4, a, (i : Int), s, m⟩ = some y) := Lib.hid (by rw [HS0.out, if_pos ⟨by omega, by omega, ha⟩, hy1])
          clear HS0 hl HZ hy1
          obtain ⟨v, rfl⟩ : ∃ v : Nat, a = (v : Int) := ⟨z - 1, by omega⟩
          have hv : z - 1 = v := by omega
          rw [hv] at hy2
          have fz' : IntKind.i64.wrap ((z : Int) - 1) = (v : Int) := by rw [fz]; omega
          have nv : ((v : Int) != (v : Int)) = false := by simp
          have v0 : (v : Int) < ((i + 1 : Nat) : Int) := by omega
          have v1 : (v : Int) < (i : Int) + 1 := by omega
          have v2 : v < i + 1 := by omega
          clear fz ha hv
          go_enter Try.func33, Try.ntmps33
          go_wp2_with fail
          go_quiet (fail)
          go_wp2_with fail
          go_ret2
          exact outBg_yes HS.out rfl (below_drewN b1 _)
        · have na : (a != (z : Int) - 1) = true := by rw [bne_iff_ne]; exact ha
          have HS : Hid (stepB bs ⟨4, a, (i : Int), s, m⟩ = none) := Lib.hid (by rw [HS0.out, if_neg (fun h => ha h.2.2)])
          clear HS0 hl HZ
          go_enter Try.func33, Try.ntmps33
          go_wp2_with fail
          go_quiet (fail)
          go_wp2_with fail
          go_ret2
          exact outBg_no HS.out (below_drewN b1 _)
    · have nb : (b != (i : Int)) = true := by rw [bne_iff_ne]; exact hb
      have HS : Hid (stepB bs ⟨4, a, b, s, m⟩ = none) := Lib.hid (by rw [HS0.out, if_neg (fun h => hb (by have := h.1; omega))])
      clear HS0 hl HZ
      go_enter Try.func33, Try.ntmps33
      go_wp2_with fail
      go_quiet (fail)
      go_wp2_with fail
      go_ret2
      exact outBg_no HS.out (below_drewN b1 _)

set_option maxHeartbeats 2000000 in
/-- What beginning tells. -/
theorem beginning_any (bs : List Nat) (i : Nat) (hl : bs.length = i) (hbs : ∀ j (h : j < bs.length), bs[j] ≤ j) (hi : i ≤ 1000000) (B : Option Addr) (cb : Nat) (k a b : Int) (A : Option Addr) (n c : Nat) (s : List Rg) (m : ByteArray) (w : World) (hR : Reads w w.heap.size 1 B i (icells (bs.map Int.ofNat))) :
    Calls Try.prog 33 #[.slice B i cb, nvv k a b A n c m] w (OutBg bs ⟨k, a, b, s, m⟩ w) := by
  by_cases h0 : k = 0
  · subst h0; exact begin_leaf0 bs i hl hi B cb a b A n c s m w
  by_cases h1 : k = 1
  · subst h1; exact begin_leaf1 bs i hl hi B cb a b A n c s m w
  by_cases h2 : k = 2
  · subst h2; exact begin_leaf2 bs i hl hi B cb a b A n c s m w
  by_cases h5 : k = 5
  · subst h5; exact begin_star bs i hl hi B cb a b A n c s m w hR
  by_cases h3 : k = 3
  · subst h3; exact begin_fork3 bs i hl hbs hi B cb a b A n c s m w hR
  by_cases h4 : k = 4
  · subst h4; exact begin_fork4 bs i hl hbs hi B cb a b A n c s m w hR
  exact begin_other bs i hi B cb k a b A n c s m w h0 h1 h2 h5 h3 h4
end Go.Proofs.Ytfpiackfhdiapaa.S
