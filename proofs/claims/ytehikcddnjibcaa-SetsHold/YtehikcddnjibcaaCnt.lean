/- How many scalars a set has, by counting them one by one. -/
import Derived.Test.YtehikcddnjibcaaNMath
namespace Go.Proofs.Ytehikcddnjibcaa
set_option linter.unusedVariables false

def b01 : Bool → Int
  | true => 1
  | false => 0
/-- How many numbers below N are such. -/
def cnt : Nat → (Int → Bool) → Int
  | 0, _ => 0
  | N + 1, p => cnt N p + b01 (p N)
theorem cnt_congr {p q : Int → Bool} : ∀ (N : Nat), (∀ v : Int, p v = q v) → cnt N p = cnt N q
  | 0, _ => rfl
  | N + 1, h => by rw [cnt, cnt, cnt_congr N h, h]
theorem cnt_or (p q : Int → Bool) : ∀ (N : Nat), cnt N (fun v => p v || q v) + cnt N (fun v => p v && q v) = cnt N p + cnt N q
  | 0 => rfl
  | N + 1 => by
    have h := cnt_or p q N
    simp only [cnt]
    show (cnt N (fun v => p v || q v) + b01 (p N || q N)) + (cnt N (fun v => p v && q v) + b01 (p N && q N)) = (cnt N p + b01 (p N)) + (cnt N q + b01 (q N))
    have e : b01 (p N || q N) + b01 (p N && q N) = b01 (p N) + b01 (q N) := by cases p N <;> cases q N <;> rfl
    omega
theorem cnt_none {p : Int → Bool} : ∀ (N : Nat), (∀ v : Int, p v = false) → cnt N p = 0
  | 0, _ => rfl
  | N + 1, h => by rw [cnt, cnt_none N h, h]; rfl
theorem belowN_succ (N : Nat) (h : N < 1114112) : belowN ((N + 1 : Nat) : Int) = belowN (N : Int) + b01 (isB (N : Int)) := by
  by_cases hB : isB (N : Int) = true
  · have hs := (isB_iff _).1 hB
    rw [hB]
    show _ = _ + 1
    unfold Sc at hs
    unfold belowN
    split <;> split <;> (try split) <;> (try split) <;> omega
  · have hB' : isB (N : Int) = false := by simpa using hB
    have hs := (isB_no _).1 hB'
    rw [hB']
    show _ = _ + 0
    unfold Sc at hs
    unfold belowN
    split <;> split <;> (try split) <;> (try split) <;> omega
theorem cnt_range (lo hi : Int) (h0 : 0 ≤ lo) (h1 : lo ≤ hi) (h2 : hi ≤ 1114111) : ∀ (N : Nat), N ≤ 1114112 →
    cnt N (fun v => isB v && (decide (lo ≤ v) && decide (v ≤ hi))) = belowN (min (N : Int) (hi + 1)) - belowN (min (N : Int) lo)
  | 0, _ => by
    rw [show min ((0 : Nat) : Int) (hi + 1) = 0 by omega, show min ((0 : Nat) : Int) lo = 0 by omega]; simp [cnt]
  | N + 1, hN => by
    have ih := cnt_range lo hi h0 h1 h2 N (by omega)
    have hb := belowN_succ N (by omega)
    simp only [cnt]
    rw [ih]
    by_cases c1 : (N : Int) < lo
    · have hd : (isB (N : Int) && (decide (lo ≤ (N : Int)) && decide ((N : Int) ≤ hi))) = false := by
        rw [decide_eq_false (show ¬ lo ≤ (N : Int) by omega), Bool.false_and, Bool.and_false]
      have e1 : min (N : Int) (hi + 1) = N := by omega
      have e2 : min (N : Int) lo = N := by omega
      have e3 : min ((N + 1 : Nat) : Int) (hi + 1) = ((N + 1 : Nat) : Int) := by omega
      have e4 : min ((N + 1 : Nat) : Int) lo = ((N + 1 : Nat) : Int) := by omega
      rw [hd, e1, e2, e3, e4]
      show _ + 0 = _
      generalize belowN (N : Int) = x
      generalize belowN ((N + 1 : Nat) : Int) = y
      omega
    · by_cases c2 : (N : Int) ≤ hi
      · have hd : (isB (N : Int) && (decide (lo ≤ (N : Int)) && decide ((N : Int) ≤ hi))) = isB (N : Int) := by
          rw [decide_eq_true (show lo ≤ (N : Int) by omega), decide_eq_true c2, Bool.true_and, Bool.and_true]
        have e1 : min (N : Int) (hi + 1) = N := by omega
        have e2 : min (N : Int) lo = lo := by omega
        have e3 : min ((N + 1 : Nat) : Int) (hi + 1) = ((N + 1 : Nat) : Int) := by omega
        have e4 : min ((N + 1 : Nat) : Int) lo = lo := by omega
        rw [hd, e1, e2, e3, e4, hb]
        generalize belowN (N : Int) = x
        generalize b01 (isB (N : Int)) = y
        omega
      · have hd : (isB (N : Int) && (decide (lo ≤ (N : Int)) && decide ((N : Int) ≤ hi))) = false := by
          rw [decide_eq_false c2, Bool.and_false, Bool.and_false]
        have e1 : min (N : Int) (hi + 1) = hi + 1 := by omega
        have e2 : min (N : Int) lo = lo := by omega
        have e3 : min ((N + 1 : Nat) : Int) (hi + 1) = hi + 1 := by omega
        have e4 : min ((N + 1 : Nat) : Int) lo = lo := by omega
        rw [hd, e1, e2, e3, e4]
        show _ + 0 = _
        omega
theorem cnt_one {N : Nat} (hN : N = 1114112) {r : Rg} (h : Ok r) : cnt N (fun v => isB v && (decide (r.1 ≤ v) && decide (v ≤ r.2))) = countN r.1 r.2 := by
  obtain ⟨s1, s2, h3⟩ := h
  unfold Sc at s1 s2
  rw [cnt_range r.1 r.2 (by omega) h3 (by omega) N (by omega)]
  unfold countN
  rw [if_neg (by omega), show min (N : Int) (r.2 + 1) = min r.2 1114111 + 1 by omega, show min (N : Int) r.1 = max r.1 0 by omega]
/-- A good row's size is how many scalars are in it. -/
theorem size_cnt {N : Nat} (hN : N = 1114112) : ∀ (s : List Rg) (m : Int), Gd m s → sizeL s = cnt N (fun v => isB v && inB s v)
  | [], m, _ => by
    rw [cnt_none N (fun v => by simp [inB])]; rfl
  | r :: s, m, h => by
    obtain ⟨_, ho, hg⟩ := h
    have ih := size_cnt hN s _ hg
    have h1 := cnt_or (fun v => isB v && (decide (r.1 ≤ v) && decide (v ≤ r.2))) (fun v => isB v && inB s v) N
    have h2 : cnt N (fun v => (isB v && (decide (r.1 ≤ v) && decide (v ≤ r.2))) && (isB v && inB s v)) = 0 := cnt_none N (fun v => by
      cases hi : inB s v
      · simp
      · have := hg.in_gt ((inB_iff s v).1 hi)
        have := nx_gt r.2
        rw [decide_eq_false (show ¬ v ≤ r.2 by omega)]
        simp)
    have h3 : cnt N (fun v => isB v && inB (r :: s) v) = cnt N (fun v => (isB v && (decide (r.1 ≤ v) && decide (v ≤ r.2))) || (isB v && inB s v)) := cnt_congr N (fun v => by
      show (isB v && ((decide (r.1 ≤ v) && decide (v ≤ r.2)) || inB s v)) = _
      rw [Bool.and_or_distrib_left])
    rw [sizeL, ih, h3]
    have h4 := cnt_one hN ho
    omega
theorem inB_set {s : List Rg} {p : Int → Prop} {f : Int → Bool} (h : IsSet s p) (hf : ∀ v, f v = true ↔ p v) (v : Int) : (isB v && inB s v) = (isB v && f v) := by
  cases hv : isB v
  · rfl
  · simp only [Bool.true_and]
    have h2 := h.2 v ((isB_iff v).1 hv)
    cases hq : f v
    · cases hq2 : inB s v
      · rfl
      · have := (hf v).2 (h2.1 ((inB_iff _ _).1 hq2)); rw [hq] at this; cases this
    · exact (inB_iff s v).2 (h2.2 ((hf v).1 hq))
/-- Of a union and what is in both. -/
theorem size_both {a b d e : List Rg} (ha : Gd (-1) a) (hb : Gd (-1) b) (hd : IsSet d (In (a ++ b))) (he : IsSet e (fun v => In a v ∧ In b v)) : sizeL d + sizeL e = sizeL a + sizeL b := by
  obtain ⟨N, hN⟩ : ∃ N : Nat, N = 1114112 := ⟨_, rfl⟩
  rw [size_cnt hN d _ hd.1, size_cnt hN e _ he.1, size_cnt hN a _ ha, size_cnt hN b _ hb]
  have h := cnt_or (fun v => isB v && inB a v) (fun v => isB v && inB b v) N
  have h1 : cnt N (fun v => isB v && inB d v) = cnt N (fun v => (isB v && inB a v) || (isB v && inB b v)) := cnt_congr N (fun v => (inB_set (f := fun v => inB a v || inB b v) hd (fun v => by rw [In_app, Bool.or_eq_true, inB_iff, inB_iff]) v).trans (Bool.and_or_distrib_left _ _ _))
  have h2 : cnt N (fun v => isB v && inB e v) = cnt N (fun v => (isB v && inB a v) && (isB v && inB b v)) := cnt_congr N (fun v => (inB_set (f := fun v => inB a v && inB b v) he (fun v => by rw [Bool.and_eq_true, inB_iff, inB_iff]) v).trans (show (isB v && (inB a v && inB b v)) = ((isB v && inB a v) && (isB v && inB b v)) by cases isB v <;> simp))
  rw [h1, h2]
  exact h
/-- Of a set and all other scalars. -/
theorem size_not {a f : List Rg} (ha : Gd (-1) a) (hf : IsSet f (fun v => ¬ In a v)) : sizeL f + sizeL a = 1112064 := by
  obtain ⟨N, hN⟩ : ∃ N : Nat, N = 1114112 := ⟨_, rfl⟩
  rw [size_cnt hN f _ hf.1, size_cnt hN a _ ha]
  have h1 := cnt_or (fun v => isB v && inB f v) (fun v => isB v && inB a v) N
  have hb := inB_set (f := fun v => !inB a v) hf (fun v => by rw [Bool.not_eq_true', ← Bool.not_eq_true, inB_iff])
  have h2 : cnt N (fun v => (isB v && inB f v) && (isB v && inB a v)) = 0 := cnt_none N (fun v => by
    rw [hb v]; cases isB v <;> cases inB a v <;> rfl)
  have h3 : cnt N (fun v => (isB v && inB f v) || (isB v && inB a v)) = cnt N (fun v => isB v && (decide (0 ≤ v) && decide (v ≤ 1114111))) := cnt_congr N (fun v => by
    rw [hb v]
    cases hB : isB v
    · rfl
    · have := (isB_iff v).1 hB
      unfold Sc at this
      rw [decide_eq_true (show 0 ≤ v by omega), decide_eq_true (show v ≤ 1114111 by omega)]
      cases inB a v <;> rfl)
  have h4 := cnt_range 0 1114111 (by omega) (by omega) (by omega) N (by omega)
  rw [show min (N : Int) (1114111 + 1) = 1114112 by omega, show min (N : Int) 0 = 0 by omega] at h4
  have h5 : belowN 1114112 - belowN 0 = 1112064 := by decide
  omega
end Go.Proofs.Ytehikcddnjibcaa
