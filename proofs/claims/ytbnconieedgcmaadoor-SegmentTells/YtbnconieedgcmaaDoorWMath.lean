/- Plain mathematics of scalars on a table (stage 8): classes by bands, states, places with a break. No program. -/
import Derived.Test.YtbnconieedgcmaaDoorValA
namespace Go.Proofs.YtbnconieedgcmaaDoor
set_option linter.unusedVariables false
set_option linter.unusedSimpArgs false

/-- The last of the first n bands that does not begin above v; -1: none. -/
def lastI (bs : List (Int × Int)) (v : Int) : Nat → Int
  | 0 => -1
  | n + 1 => if (bandAt bs n).1 ≤ v then (n : Int) else lastI bs v n
theorem lastI_lt (bs : List (Int × Int)) (v : Int) : ∀ n, -1 ≤ lastI bs v n ∧ lastI bs v n < n
  | 0 => by simp [lastI]
  | n + 1 => by
    have := lastI_lt bs v n
    unfold lastI
    split <;> omega
/-- The band that v stands in. -/
def ofK (bs : List (Int × Int)) (v : Int) : Int := if scalB v then lastI bs v bs.length else -1
def ofB (bs : List (Int × Int)) (v : Int) : Bool := decide (0 ≤ ofK bs v)
def ofN (bs : List (Int × Int)) (v : Int) : Int := if ofB bs v then (bandAt bs (ofK bs v).toNat).2 else 0
theorem ofK_lt (bs : List (Int × Int)) (v : Int) : -1 ≤ ofK bs v ∧ ofK bs v < bs.length := by
  have := lastI_lt bs v bs.length
  unfold ofK
  split <;> omega
theorem ofB_scal {bs : List (Int × Int)} {v : Int} (h : ofB bs v = true) : scalB v = true := by
  unfold ofB ofK at h
  cases e : scalB v with
  | true => rfl
  | false => rw [e] at h; simp at h
theorem ofB_no {bs : List (Int × Int)} {v : Int} (h : scalB v = false) : ofB bs v = false := by
  cases e : ofB bs v with
  | false => rfl
  | true => rw [ofB_scal e] at h; cases h
theorem ofN_no {bs : List (Int × Int)} {v : Int} (h : ofB bs v = false) : ofN bs v = 0 := by unfold ofN; rw [h]; rfl
theorem scalB_not {v : Int} (h : ¬ ((0 ≤ v ∧ v < 55296) ∨ (57344 ≤ v ∧ v ≤ 1114111))) : scalB v = false := by
  cases e : scalB v with
  | false => rfl
  | true => exact absurd ((scalB_iff v).1 e) h

/-! By the bands from the last one on. -/
theorem bandAt_get {bs : List (Int × Int)} {i : Nat} (h : i < bs.length) : bandAt bs i = bs[i] := by
  unfold bandAt
  rw [List.getD_eq_getElem?_getD, List.getElem?_eq_getElem h]; rfl
theorem lastI_none {bs : List (Int × Int)} {v : Int} : ∀ n, (∀ i < n, v < (bandAt bs i).1) → lastI bs v n = -1
  | 0, _ => rfl
  | n + 1, h => by
    unfold lastI
    rw [if_neg (by have := h n (by omega); omega)]
    exact lastI_none n (fun i hi => h i (by omega))
theorem lastI_some {bs : List (Int × Int)} {v : Int} {k : Nat} : ∀ n, k < n → (bandAt bs k).1 ≤ v → (∀ i < n, k < i → v < (bandAt bs i).1) → lastI bs v n = (k : Int)
  | 0, h, _, _ => by omega
  | n + 1, h, hk, hi => by
    unfold lastI
    by_cases e : k = n
    · subst e; rw [if_pos hk]
    · rw [if_neg (by have := hi n (by omega) (by omega); omega)]
      exact lastI_some n (by omega) hk (fun i h1 h2 => hi i (by omega) h2)
theorem lastI_ge {bs : List (Int × Int)} {v : Int} : ∀ n, 0 < n → (bandAt bs 0).1 ≤ v → 0 ≤ lastI bs v n
  | 0, h, _ => by omega
  | n + 1, _, h0 => by
    unfold lastI
    split
    · omega
    · cases n with
      | zero => omega
      | succ n => exact lastI_ge (n + 1) (by omega) h0

/-! A table that may be. -/
theorem clScan_in : ∀ (l : List (Int × Int)) (m k : Int), clScan l m = some k → ∀ p ∈ l, 0 ≤ p.2 ∧ p.2 < k
  | [], _, _, _, p, hp => by simp at hp
  | p :: l, m, k, h, x, hx => by
    unfold clScan at h
    by_cases q : 0 ≤ p.2 ∧ p.2 ≤ m
    · rw [if_pos q] at h
      rcases List.mem_cons.1 hx with rfl | hx
      · have := clScan_ge _ _ _ h
        omega
      · exact clScan_in l _ k h x hx
    · rw [if_neg q] at h; cases h
theorem bands_zero {t : Tb} (h : Vd t) : (bandAt t.bd 0).1 = 0 := by
  have hc := (cntV_iff t).1 h.cnt
  have := bandsB_all h.bds 0 (by have := hc.k1; omega)
  unfold okBand at this
  simp at this
  exact this.1
theorem bands_rise {t : Tb} (h : Vd t) : ∀ j < t.bd.length, ∀ i < j, (bandAt t.bd i).1 < (bandAt t.bd j).1 := by
  intro j
  induction j with
  | zero => intro _ i hi; omega
  | succ j ih =>
    intro hj i hi
    have := bandsB_all h.bds (j + 1) hj
    unfold okBand at this
    simp at this
    rcases Nat.lt_or_ge i j with q | q
    · have := ih (by omega) i q
      omega
    · obtain rfl : i = j := by omega
      omega
theorem bands_scal {t : Tb} (h : Vd t) {i : Nat} (hi : i < t.bd.length) : scalB (bandAt t.bd i).1 = true := by
  have := bandsB_all h.bds i hi
  unfold okBand at this
  simp only [Bool.and_eq_true] at this
  exact this.1.2
theorem bands_class {t : Tb} (h : Vd t) {i : Nat} (hi : i < t.bd.length) : 0 ≤ (bandAt t.bd i).2 ∧ (bandAt t.bd i).2 < t.cl := by
  have hk : clScan t.bd 0 = some t.cl := by simpa [classB] using h.cls
  rw [bandAt_get hi]
  exact clScan_in _ _ _ hk _ (List.getElem_mem hi)
theorem ofB_vd {t : Tb} (h : Vd t) (v : Int) : ofB t.bd v = scalB v := by
  cases e : scalB v with
  | false => exact ofB_no e
  | true =>
    unfold ofB ofK
    rw [e, if_pos rfl]
    have hc := (cntV_iff t).1 h.cnt
    have h0 := bands_zero h
    have := lastI_ge (bs := t.bd) (v := v) t.bd.length (by have := hc.k1; omega) (by have := (scalB_iff v).1 e; omega)
    simpa using this
theorem ofN_lt {t : Tb} (h : Vd t) (v : Int) : 0 ≤ ofN t.bd v ∧ ofN t.bd v < t.cl := by
  have hc := (cntV_iff t).1 h.cnt
  unfold ofN
  split
  · rename_i e
    have hb : 0 ≤ ofK t.bd v := by simpa [ofB] using e
    have := ofK_lt t.bd v
    exact bands_class h (i := (ofK t.bd v).toNat) (by omega)
  · have := hc.c1; omega
/-- Each scalar from a band's First up to the next one's is of its class. -/
theorem ofN_here {t : Tb} (h : Vd t) {k : Nat} (hk : k < t.bd.length) {v : Int} (h1 : (bandAt t.bd k).1 ≤ v) (h2 : ∀ hh : k + 1 < t.bd.length, v < (bandAt t.bd (k + 1)).1) (hs : scalB v = true) : ofN t.bd v = (bandAt t.bd k).2 := by
  have e : ofK t.bd v = (k : Int) := by
    unfold ofK
    rw [hs, if_pos rfl]
    refine lastI_some _ hk h1 (fun i hi hki => ?_)
    have q := h2 (by omega)
    rcases Nat.lt_or_ge (k + 1) i with q1 | q1
    · have := bands_rise h i hi (k + 1) q1
      omega
    · obtain rfl : i = k + 1 := by omega
      exact q
  unfold ofN ofB
  rw [e]
  simp

/-! States. -/
def stpW (t : Tb) (s : Nat) (v : Int) : Nat := nxN t s (ofN t.bd v).toNat
def stW (t : Tb) (l : List Int) : Nat := l.foldl (stpW t) 0
def okW (t : Tb) (l : List Int) : Bool := l.all (ofB t.bd)
theorem stW_snoc (t : Tb) (l : List Int) (v : Int) : stW t (l ++ [v]) = stpW t (stW t l) v := by unfold stW; rw [List.foldl_append]; rfl
theorem okW_snoc (t : Tb) (l : List Int) (v : Int) : okW t (l ++ [v]) = (okW t l && ofB t.bd v) := by unfold okW; rw [List.all_append]; simp
theorem take_one {α : Type} {l : List α} {k : Nat} (h : k < l.length) : l.take (k + 1) = l.take k ++ [l[k]] := List.take_succ_eq_append_getElem h
theorem okW_take_no {t : Tb} {l : List Int} {k : Nat} (h : okW t (l.take k) = false) : okW t l = false := by
  cases e : okW t l with
  | false => rfl
  | true =>
    have : okW t (l.take k) = true := by
      unfold okW at e ⊢
      rw [List.all_eq_true] at e ⊢
      exact fun x hx => e x (List.mem_of_mem_take hx)
    rw [this] at h; cases h
theorem stpW_lt {t : Tb} (h : Vd t) (s : Nat) (v : Int) : stpW t s v < t.nx.length := nxN_lt h.nxt (by have := ((cntV_iff t).1 h.cnt).n1; omega) _ _
theorem stW_lt {t : Tb} (h : Vd t) (l : List Int) : stW t l < t.nx.length := by
  rcases List.eq_nil_or_concat l with rfl | ⟨l', v, rfl⟩
  · have := ((cntV_iff t).1 h.cnt).n1
    show 0 < _
    omega
  · rw [List.concat_eq_append, stW_snoc]
    exact stpW_lt h _ _
/-- The places below k that break. -/
def plK (t : Tb) (l : List Int) (k : Nat) : List Int := ((List.range k).filter fun i => brkN t (stW t (l.take i))).map fun i => ((i : Nat) : Int)
theorem plK_zero (t : Tb) (l : List Int) : plK t l 0 = [] := rfl
theorem plK_succ (t : Tb) (l : List Int) (k : Nat) : plK t l (k + 1) = plK t l k ++ (if brkN t (stW t (l.take k)) then [(k : Int)] else []) := by
  unfold plK
  rw [List.range_succ, List.filter_append, List.map_append]
  congr 1
  cases e : brkN t (stW t (l.take k)) <;> simp [e]
theorem plK_yes {t : Tb} {l : List Int} {k : Nat} (h : brkN t (stW t (l.take k)) = true) : plK t l (k + 1) = plK t l k ++ [(k : Int)] := by rw [plK_succ, h]; rfl
theorem plK_no {t : Tb} {l : List Int} {k : Nat} (h : brkN t (stW t (l.take k)) = false) : plK t l (k + 1) = plK t l k := by rw [plK_succ, h]; simp
theorem plK_len (t : Tb) (l : List Int) : ∀ k, (plK t l k).length ≤ k
  | 0 => by simp [plK]
  | k + 1 => by
    have := plK_len t l k
    rw [plK_succ]
    split <;> simp <;> omega
theorem plK_mem {t : Tb} {l : List Int} {k : Nat} {x : Int} (h : x ∈ plK t l k) : 0 ≤ x ∧ x < k := by
  unfold plK at h
  obtain ⟨i, hi, rfl⟩ := List.mem_map.1 h
  have := (List.mem_filter.1 hi).1
  simp at this
  omega
/-- The places of the longer row, up to the end of the shorter one. -/
theorem plK_app (t : Tb) (l m : List Int) : ∀ k, k ≤ l.length + 1 → plK t (l ++ m) k = plK t l k
  | 0, _ => rfl
  | k + 1, h => by
    rw [plK_succ, plK_succ, plK_app t l m k (by omega), List.take_append_of_le_length (by omega)]
def uptoL (L : List Int) (n : Nat) : List Int := L.filter fun x => decide (x ≤ (n : Int))
theorem plK_upto (t : Tb) (l : List Int) (n : Nat) : ∀ k, n + 1 ≤ k → uptoL (plK t l k) n = plK t l (n + 1)
  | 0, h => by omega
  | k + 1, h => by
    by_cases e : n = k
    · subst e
      unfold uptoL
      rw [List.filter_eq_self]
      intro x hx
      have := plK_mem hx
      simp
      omega
    · have ih := plK_upto t l n k (by omega)
      unfold uptoL at ih ⊢
      rw [plK_succ, List.filter_append, ih]
      split
      · rw [List.filter_cons, if_neg (by simp; omega)]; simp
      · simp
/-- Is the last place one? -/
def atEnd (L : List Int) (n : Nat) : Bool := decide (0 < L.length) && (L.getD (L.length - 1) 0 == (n : Int))
theorem plK_end (t : Tb) (l : List Int) : atEnd (plK t l (l.length + 1)) l.length = brkN t (stW t l) := by
  unfold atEnd
  rw [plK_succ, List.take_length]
  cases e : brkN t (stW t l) with
  | true => simp
  | false =>
    simp only [Bool.false_eq_true, if_false, List.append_nil]
    cases hp : plK t l l.length with
    | nil => simp
    | cons a L =>
      have hm : (a :: L).getD ((a :: L).length - 1) 0 ∈ plK t l l.length := by
        rw [hp, List.getD_eq_getElem?_getD, List.getElem?_eq_getElem (by simp)]
        exact List.getElem_mem _
      have := plK_mem hm
      rw [show (decide (0 < (a :: L).length)) = true by simp, Bool.true_and, beq_eq_false_iff_ne]
      omega
/-- What Breaks says. -/
def brW (t : Tb) (l : List Int) : Option (List Int) := if errV t = 0 ∧ okW t l = true then some (plK t l (l.length + 1)) else none
end Go.Proofs.YtbnconieedgcmaaDoor
