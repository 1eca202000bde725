/- Joined: WMath OfC OfD Walk1 Walk2. -/
import Derived.Test.YtnilejdokgagbaaDoorKVal
import Derived.RangeFuncNested
import Derived.RangeFuncBound
import Derived.RangeFuncCalls
import Derived.RangeFuncLeaves
import Derived.RangeFuncBox
import Derived.Shelf.Abstract
import Derived.Shelf.RegionOpen
import Derived.WalkKit
import Derived.OwnWalkIn
import Derived.TacticsInMore
import Derived.LoopNIn
import Derived.LoopIn
import Derived.BigRegion
import Derived.Deep.Onto
/- Plain mathematics of scalars on a table (stage 8): classes by bands, states, places with a break. No program. -/
namespace Go.Proofs.YtnilejdokgagbaaDoor
set_option linter.unusedVariables false
set_option linter.unusedSimpArgs false

/-- The last of the first n bands that does not begin above v; -1: none. -/
def lastI (bs : List (Int × Int)) (v : Int) : Nat → Int
  | 0 => -1
  | n + 1 => if (bandAt bs n).1 ≤ v then (n : Int) else lastI bs v n
theorem lastI_lt (bs : List (Int × Int)) (v : Int) : ∀ n, -1 ≤ lastI bs v n ∧ lastI bs v n < n
  | 0 => by simp [lastI]
  | n + 1 => by
    have := lastI_lt bs v n
    unfold lastI
    split <;> omega
/-- The band that v stands in. -/
def ofK (bs : List (Int × Int)) (v : Int) : Int := if scalB v then lastI bs v bs.length else -1
def ofB (bs : List (Int × Int)) (v : Int) : Bool := decide (0 ≤ ofK bs v)
def ofN (bs : List (Int × Int)) (v : Int) : Int := if ofB bs v then (bandAt bs (ofK bs v).toNat).2 else 0
theorem ofK_lt (bs : List (Int × Int)) (v : Int) : -1 ≤ ofK bs v ∧ ofK bs v < bs.length := by
  have := lastI_lt bs v bs.length
  unfold ofK
  split <;> omega
theorem ofB_scal {bs : List (Int × Int)} {v : Int} (h : ofB bs v = true) : scalB v = true := by
  unfold ofB ofK at h
  cases e : scalB v with
  | true => rfl
  | false => rw [e] at h; simp at h
theorem ofB_no {bs : List (Int × Int)} {v : Int} (h : scalB v = false) : ofB bs v = false := by
  cases e : ofB bs v with
  | false => rfl
  | true => rw [ofB_scal e] at h; cases h
theorem ofN_no {bs : List (Int × Int)} {v : Int} (h : ofB bs v = false) : ofN bs v = 0 := by unfold ofN; rw [h]; rfl
theorem scalB_not {v : Int} (h : ¬ ((0 ≤ v ∧ v < 55296) ∨ (57344 ≤ v ∧ v ≤ 1114111))) : scalB v = false := by
  cases e : scalB v with
  | false => rfl
  | true => exact absurd ((scalB_iff v).1 e) h

/-! By the bands from the last one on. -/
theorem bandAt_get {bs : List (Int × Int)} {i : Nat} (h : i < bs.length) : bandAt bs i = bs[i] := by
  unfold bandAt
  rw [List.getD_eq_getElem?_getD, List.getElem?_eq_getElem h]; rfl
theorem lastI_none {bs : List (Int × Int)} {v : Int} : ∀ n, (∀ i < n, v < (bandAt bs i).1) → lastI bs v n = -1
  | 0, _ => rfl
  | n + 1, h => by
    unfold lastI
    rw [if_neg (by have := h n (by omega); omega)]
    exact lastI_none n (fun i hi => h i (by omega))
theorem lastI_some {bs : List (Int × Int)} {v : Int} {k : Nat} : ∀ n, k < n → (bandAt bs k).1 ≤ v → (∀ i < n, k < i → v < (bandAt bs i).1) → lastI bs v n = (k : Int)
  | 0, h, _, _ => by omega
  | n + 1, h, hk, hi => by
    unfold lastI
    by_cases e : k = n
    · subst e; rw [if_pos hk]
    · rw [if_neg (by have := hi n (by omega) (by omega); omega)]
      exact lastI_some n (by omega) hk (fun i h1 h2 => hi i (by omega) h2)
theorem lastI_ge {bs : List (Int × Int)} {v : Int} : ∀ n, 0 < n → (bandAt bs 0).1 ≤ v → 0 ≤ lastI bs v n
  | 0, h, _ => by omega
  | n + 1, _, h0 => by
    unfold lastI
    split
    · omega
    · cases n with
      | zero => omega
      | succ n => exact lastI_ge (n + 1) (by omega) h0

/-! A table that may be. -/
theorem clScan_in : ∀ (l : List (Int × Int)) (m k : Int), clScan l m = some k → ∀ p ∈ l, 0 ≤ p.2 ∧ p.2 < k
  | [], _, _, _, p, hp => by simp at hp
  | p :: l, m, k, h, x, hx => by
    unfold clScan at h
    by_cases q : 0 ≤ p.2 ∧ p.2 ≤ m
    · rw [if_pos q] at h
      rcases List.mem_cons.1 hx with rfl | hx
      · have := clScan_ge _ _ _ h
        omega
      · exact clScan_in l _ k h x hx
    · rw [if_neg q] at h; cases h
theorem bands_zero {t : Tb} (h : Vd t) : (bandAt t.bd 0).1 = 0 := by
  have hc := (cntV_iff t).1 h.cnt
  have := bandsB_all h.bds 0 (by have := hc.k1; omega)
  unfold okBand at this
  simp at this
  exact this.1
theorem bands_rise {t : Tb} (h : Vd t) : ∀ j < t.bd.length, ∀ i < j, (bandAt t.bd i).1 < (bandAt t.bd j).1 := by
  intro j
  induction j with
  | zero => intro _ i hi; omega
  | succ j ih =>
    intro hj i hi
    have := bandsB_all h.bds (j + 1) hj
    unfold okBand at this
    simp at this
    rcases Nat.lt_or_ge i j with q | q
    · have := ih (by omega) i q
      omega
    · obtain rfl : i = j := by omega
      omega
theorem bands_scal {t : Tb} (h : Vd t) {i : Nat} (hi : i < t.bd.length) : scalB (bandAt t.bd i).1 = true := by
  have := bandsB_all h.bds i hi
  unfold okBand at this
  simp only [Bool.and_eq_true] at this
  exact this.1.2
theorem bands_class {t : Tb} (h : Vd t) {i : Nat} (hi : i < t.bd.length) : 0 ≤ (bandAt t.bd i).2 ∧ (bandAt t.bd i).2 < t.cl := by
  have hk : clScan t.bd 0 = some t.cl := by simpa [classB] using h.cls
  rw [bandAt_get hi]
  exact clScan_in _ _ _ hk _ (List.getElem_mem hi)
theorem ofB_vd {t : Tb} (h : Vd t) (v : Int) : ofB t.bd v = scalB v := by
  cases e : scalB v with
  | false => exact ofB_no e
  | true =>
    unfold ofB ofK
    rw [e, if_pos rfl]
    have hc := (cntV_iff t).1 h.cnt
    have h0 := bands_zero h
    have := lastI_ge (bs := t.bd) (v := v) t.bd.length (by have := hc.k1; omega) (by have := (scalB_iff v).1 e; omega)
    simpa using this
theorem ofN_lt {t : Tb} (h : Vd t) (v : Int) : 0 ≤ ofN t.bd v ∧ ofN t.bd v < t.cl := by
  have hc := (cntV_iff t).1 h.cnt
  unfold ofN
  split
  · rename_i e
    have hb : 0 ≤ ofK t.bd v := by simpa [ofB] using e
    have := ofK_lt t.bd v
    exact bands_class h (i := (ofK t.bd v).toNat) (by omega)
  · have := hc.c1; omega
/-- Each scalar from a band's First up to the next one's is of its class. -/
theorem ofN_here {t : Tb} (h : Vd t) {k : Nat} (hk : k < t.bd.length) {v : Int} (h1 : (bandAt t.bd k).1 ≤ v) (h2 : ∀ hh : k + 1 < t.bd.length, v < (bandAt t.bd (k + 1)).1) (hs : scalB v = true) : ofN t.bd v = (bandAt t.bd k).2 := by
  have e : ofK t.bd v = (k : Int) := by
    unfold ofK
    rw [hs, if_pos rfl]
    refine lastI_some _ hk h1 (fun i hi hki => ?_)
    have q := h2 (by omega)
    rcases Nat.lt_or_ge (k + 1) i with q1 | q1
    · have := bands_rise h i hi (k + 1) q1
      omega
    · obtain rfl : i = k + 1 := by omega
      exact q
  unfold ofN ofB
  rw [e]
  simp

/-! States. -/
def stpW (t : Tb) (s : Nat) (v : Int) : Nat := nxN t s (ofN t.bd v).toNat
def stW (t : Tb) (l : List Int) : Nat := l.foldl (stpW t) 0
def okW (t : Tb) (l : List Int) : Bool := l.all (ofB t.bd)
theorem stW_snoc (t : Tb) (l : List Int) (v : Int) : stW t (l ++ [v]) = stpW t (stW t l) v := by unfold stW; rw [List.foldl_append]; rfl
theorem okW_snoc (t : Tb) (l : List Int) (v : Int) : okW t (l ++ [v]) = (okW t l && ofB t.bd v) := by unfold okW; rw [List.all_append]; simp
theorem take_one {α : Type} {l : List α} {k : Nat} (h : k < l.length) : l.take (k + 1) = l.take k ++ [l[k]] := List.take_succ_eq_append_getElem h
theorem okW_take_no {t : Tb} {l : List Int} {k : Nat} (h : okW t (l.take k) = false) : okW t l = false := by
  cases e : okW t l with
  | false => rfl
  | true =>
    have : okW t (l.take k) = true := by
      unfold okW at e ⊢
      rw [List.all_eq_true] at e ⊢
      exact fun x hx => e x (List.mem_of_mem_take hx)
    rw [this] at h; cases h
theorem stpW_lt {t : Tb} (h : Vd t) (s : Nat) (v : Int) : stpW t s v < t.nx.length := nxN_lt h.nxt (by have := ((cntV_iff t).1 h.cnt).n1; omega) _ _
theorem stW_lt {t : Tb} (h : Vd t) (l : List Int) : stW t l < t.nx.length := by
  rcases List.eq_nil_or_concat l with rfl | ⟨l', v, rfl⟩
  · have := ((cntV_iff t).1 h.cnt).n1
    show 0 < _
    omega
  · rw [List.concat_eq_append, stW_snoc]
    exact stpW_lt h _ _
/-- The places below k that break. -/
def plK (t : Tb) (l : List Int) (k : Nat) : List Int := ((List.range k).filter fun i => brkN t (stW t (l.take i))).map fun i => ((i : Nat) : Int)
theorem plK_zero (t : Tb) (l : List Int) : plK t l 0 = [] := rfl
theorem plK_succ (t : Tb) (l : List Int) (k : Nat) : plK t l (k + 1) = plK t l k ++ (if brkN t (stW t (l.take k)) then [(k : Int)] else []) := by
  unfold plK
  rw [List.range_succ, List.filter_append, List.map_append]
  congr 1
  cases e : brkN t (stW t (l.take k)) <;> simp [e]
theorem plK_yes {t : Tb} {l : List Int} {k : Nat} (h : brkN t (stW t (l.take k)) = true) : plK t l (k + 1) = plK t l k ++ [(k : Int)] := by rw [plK_succ, h]; rfl
theorem plK_no {t : Tb} {l : List Int} {k : Nat} (h : brkN t (stW t (l.take k)) = false) : plK t l (k + 1) = plK t l k := by rw [plK_succ, h]; simp
theorem plK_len (t : Tb) (l : List Int) : ∀ k, (plK t l k).length ≤ k
  | 0 => by simp [plK]
  | k + 1 => by
    have := plK_len t l k
    rw [plK_succ]
    split <;> simp <;> omega
theorem plK_mem {t : Tb} {l : List Int} {k : Nat} {x : Int} (h : x ∈ plK t l k) : 0 ≤ x ∧ x < k := by
  unfold plK at h
  obtain ⟨i, hi, rfl⟩ := List.mem_map.1 h
  have := (List.mem_filter.1 hi).1
  simp at this
  omega
/-- The places of the longer row, up to the end of the shorter one. -/
theorem plK_app (t : Tb) (l m : List Int) : ∀ k, k ≤ l.length + 1 → plK t (l ++ m) k = plK t l k
  | 0, _ => rfl
  | k + 1, h => by
    rw [plK_succ, plK_succ, plK_app t l m k (by omega), List.take_append_of_le_length (by omega)]
def uptoL (L : List Int) (n : Nat) : List Int := L.filter fun x => decide (x ≤ (n : Int))
theorem plK_upto (t : Tb) (l : List Int) (n : Nat) : ∀ k, n + 1 ≤ k → uptoL (plK t l k) n = plK t l (n + 1)
  | 0, h => by omega
  | k + 1, h => by
    by_cases e : n = k
    · subst e
      unfold uptoL
      rw [List.filter_eq_self]
      intro x hx
      have := plK_mem hx
      simp
      omega
    · have ih := plK_upto t l n k (by omega)
      unfold uptoL at ih ⊢
      rw [plK_succ, List.filter_append, ih]
      split
      · rw [List.filter_cons, if_neg (by simp; omega)]; simp
      · simp
/-- Is the last place one? -/
def atEnd (L : List Int) (n : Nat) : Bool := decide (0 < L.length) && (L.getD (L.length - 1) 0 == (n : Int))
theorem plK_end (t : Tb) (l : List Int) : atEnd (plK t l (l.length + 1)) l.length = brkN t (stW t l) := by
  unfold atEnd
  rw [plK_succ, List.take_length]
  cases e : brkN t (stW t l) with
  | true => simp
  | false =>
    simp only [Bool.false_eq_true, if_false, List.append_nil]
    cases hp : plK t l l.length with
    | nil => simp
    | cons a L =>
      have hm : (a :: L).getD ((a :: L).length - 1) 0 ∈ plK t l l.length := by
        rw [hp, List.getD_eq_getElem?_getD, List.getElem?_eq_getElem (by simp)]
        exact List.getElem_mem _
      have := plK_mem hm
      rw [show (decide (0 < (a :: L).length)) = true by simp, Bool.true_and, beq_eq_false_iff_ne]
      omega
/-- What Breaks says. -/
def brW (t : Tb) (l : List Int) : Option (List Int) := if errV t = 0 ∧ okW t l = true then some (plK t l (l.length + 1)) else none
end Go.Proofs.YtnilejdokgagbaaDoor

/- What Of returns: by slices.Backward, the last band whose First is not above. -/
namespace Go.Proofs.YtnilejdokgagbaaDoor
open Go.RowKit Go.Shelf
set_option linter.unusedVariables false
set_option linter.unusedSimpArgs false

attribute [local go_sem] Oper.semAt_some

abbrev Bx := Int × Rg
def upto {α : Type} (f : Nat → α) (k : Nat) : List α := (List.range k).map f
theorem upto_succ {α : Type} (f : Nat → α) (k : Nat) : upto f (k + 1) = upto f k ++ [f k] := by simp [upto, List.range_succ]
theorem upto_length {α : Type} (f : Nat → α) (k : Nat) : (upto f k).length = k := by simp [upto]
/-- What comes at the k-th round. -/
def bk (bs : List Rg) (k : Nat) : Bx := ((bs.length : Int) - 1 - k, bs.getD (bs.length - 1 - k) (0, 0))

def Kb (n₀ Bs : Nat) (W W' : World) : Prop := Below n₀ W W' ∧ W'.heap[Bs]? = W.heap[Bs]?
theorem Kb.refl (n₀ Bs : Nat) (W : World) : Kb n₀ Bs W W := ⟨Below.refl _ _, rfl⟩
theorem Kb.trans {n₀ Bs : Nat} {A B C : World} (h : Kb n₀ Bs A B) (k : Kb n₀ Bs B C) : Kb n₀ Bs A C := ⟨h.1.trans k.1, k.2.trans h.2⟩
def encB (x : Bx) : Array Value := #[.int .i64 x.1, .agg #[.int .i64 x.2.1, .int .i64 x.2.2]]
end Go.Proofs.YtnilejdokgagbaaDoor

/- What Of returns. -/
namespace Go.Proofs.YtnilejdokgagbaaDoor
open Go.RowKit Go.Shelf
set_option linter.unusedVariables false
set_option linter.unusedSimpArgs false

attribute [local go_sem] Oper.semAt_some

def ofL (bs : List Rg) (v : Int) : Option Rg := if scalB v then bs.reverse.find? (fun b => decide (b.1 ≤ v)) else none
theorem find_last (bs : List Rg) (v : Int) : ∀ n, n ≤ bs.length → (bs.take n).reverse.find? (fun b => decide (b.1 ≤ v)) = if lastI bs v n < 0 then none else some (bandAt bs (lastI bs v n).toNat)
  | 0, _ => by simp [lastI]
  | n + 1, h => by
    have ih := find_last bs v n (by omega)
    rw [List.take_succ_eq_append_getElem (by omega), List.reverse_append, List.reverse_singleton, List.singleton_append, List.find?_cons]
    unfold lastI
    rw [bandAt_get (show n < bs.length by omega)]
    by_cases q : bs[n].1 ≤ v
    · rw [if_pos q, decide_eq_true q, if_neg (by omega)]
      simp only [Int.toNat_natCast]
      rw [bandAt_get (show n < bs.length by omega)]
    · rw [if_neg q, decide_eq_false q]
      exact ih
theorem ofL_eq (bs : List Rg) (v : Int) : ofL bs v = if ofK bs v < 0 then none else some (bandAt bs (ofK bs v).toNat) := by
  unfold ofL ofK
  cases e : scalB v with
  | false => simp
  | true =>
    have := find_last bs v bs.length (Nat.le_refl _)
    rw [List.take_length] at this
    simp only [if_true]
    exact this
theorem ofB_L (bs : List Rg) (v : Int) : ofB bs v = (ofL bs v).isSome := by
  rw [ofL_eq]
  unfold ofB
  by_cases q : ofK bs v < 0
  · rw [if_pos q, decide_eq_false (by omega)]; rfl
  · rw [if_neg q, decide_eq_true (by omega)]; rfl
theorem ofN_L (bs : List Rg) (v : Int) : ofN bs v = ((ofL bs v).map (·.2)).getD 0 := by
  unfold ofN
  rw [ofL_eq]
  unfold ofB
  by_cases q : ofK bs v < 0
  · rw [if_pos q, decide_eq_false (by omega)]; rfl
  · rw [if_neg q, decide_eq_true (by omega)]; rfl
theorem bk_rev (bs : List Rg) : (upto (bk bs) bs.length).map (·.2) = bs.reverse := by
  apply List.ext_getElem (by simp [upto])
  intro i h1 h2
  have hi : i < bs.length := by simpa [upto] using h1
  simp [upto, bk]
  rw [List.getElem?_eq_getElem (by omega)]
  rfl
theorem bk_take (bs : List Rg) {k : Nat} (hk : k ≤ bs.length) : (upto (bk bs) k).map (·.2) = bs.reverse.take k := by
  rw [← bk_rev]
  unfold upto
  rw [← List.map_take, ← List.map_take]
  congr 2
  rw [List.take_range]
  congr 1
  omega
theorem of_none {bs : List Rg} {v : Int} (h : ∀ p ∈ upto (bk bs) bs.length, v < p.2.1) : bs.reverse.find? (fun b => decide (b.1 ≤ v)) = none := by
  rw [List.find?_eq_none]
  intro b hb
  rw [← bk_rev] at hb
  obtain ⟨p, hp, rfl⟩ := List.mem_map.1 hb
  have := h p hp
  simp
  omega
theorem of_some {bs : List Rg} {v : Int} {k : Nat} (hk : k ≤ bs.length) {ini : List Bx} {last : Bx} (e : upto (bk bs) k = ini ++ [last]) (h1 : ∀ p ∈ ini, v < p.2.1) (h2 : last.2.1 ≤ v) : bs.reverse.find? (fun b => decide (b.1 ≤ v)) = some last.2 := by
  have h3 := bk_take bs hk
  rw [e] at h3
  simp at h3
  have h4 : bs.reverse = (ini.map (·.2) ++ [last.2]) ++ bs.reverse.drop k := by
    rw [h3, List.take_append_drop]
  rw [h4, List.find?_append, List.find?_append]
  have h5 : (ini.map (·.2)).find? (fun b => decide (b.1 ≤ v)) = none := by
    rw [List.find?_eq_none]
    intro b hb
    obtain ⟨p, hp, rfl⟩ := List.mem_map.1 hb
    have := h1 p hp
    simp
    omega
  rw [h5]
  simp [h2]
def lastC (pre : List Bx) : Int := (pre.getLastD (0, 0, 0)).2.2
def Two (W : World) (B : Nat) (x : Rg) : Prop := W.heap[B]? = some (.cells #[.int .i64 x.1, .int .i64 x.2] 50 (0, 0))
theorem Two.c0 {W : World} {B : Nat} {x : Rg} (h : Two W B x) : W.cell? ⟨B, 0, none⟩ = some (.int .i64 x.1) := by simp [World.cell?, show W.heap[B]? = _ from h]
theorem Two.c1 {W : World} {B : Nat} {x : Rg} (h : Two W B x) : W.cell? ⟨B, 1, none⟩ = some (.int .i64 x.2) := by simp [World.cell?, show W.heap[B]? = _ from h]

def OfI (w : World) (v : Int) (s0 : Nat) (pre : List Bx) (W : World) : Prop :=
  ((((∀ p ∈ pre, v < p.2.1) ∧ Boxed W w.heap.size 3 (.int .i64 v)) ∧ Boxed W (w.heap.size + 1) 3 (.int .i64 0)) ∧ Boxed W (w.heap.size + 1 + 1) 4 (.bool false)) ∧ Below w.heap.size w W ∧ s0 ≤ W.heap.size
def OfX (w : World) (v : Int) (cc : Code) (pre : List Bx) (W : World) : Prop :=
  (((cc = .ret ∧ ∃ ini last, pre = ini ++ [last] ∧ (∀ p ∈ ini, v < p.2.1) ∧ last.2.1 ≤ v) ∧ Boxed W (w.heap.size + 1) 3 (.int .i64 (lastC pre))) ∧ Boxed W (w.heap.size + 1 + 1) 4 (.bool true)) ∧ Below w.heap.size w W
theorem ofI_own (w : World) (v : Int) (s0 B : Nat) (hB : w.heap.size ≤ B) : OwnFrom B (OfI w v s0) :=
  OwnFrom.and (OwnFrom.and (OwnFrom.and (OwnFrom.and (ownFrom_pure _ _) (Own.from (boxed_own _ _ _) _)) (Own.from (boxed_own _ _ _) _)) (Own.from (boxed_own _ _ _) _)) (OwnFrom.and (ownFrom_below (Nat.le_refl _) hB) (fun _ _ _ _ hs hg _ => Nat.le_trans hs hg.size))
theorem ofX_own (w : World) (v : Int) (B : Nat) (hB : w.heap.size ≤ B) (cc : Code) : OwnFrom B (OfX w v cc) :=
  OwnFrom.and (OwnFrom.and (OwnFrom.and (ownFrom_pure _ _) (Own.from (boxed_own _ _ _) _)) (Own.from (boxed_own _ _ _) _)) (ownFrom_below (Nat.le_refl _) hB)
end Go.Proofs.YtnilejdokgagbaaDoor

/- What begun, classOf, step and breaks of package walk return. -/
namespace Go.Proofs.YtnilejdokgagbaaDoor
open Go.RowKit Go.BigFrame Go.Maps
set_option linter.unusedVariables false
set_option maxRecDepth 4000
set_option linter.unusedSimpArgs false

theorem lawR : Keyed Tryd.prog 21 := int_keyed Tryd.underlying21
theorem und3i : Tryd.prog.underlying 3 = some (.int .i64) := by kernel_rfl
theorem zeroI3 (w : World) : (zeroValue 3).run Tryd.prog w = .ok (.int .i64 0) w := by kernel_rfl
/-- What a rune reads as. -/
def kr (r : Int) : Lit := .int .i32 r
def R32 (r : Int) : Prop := -2147483648 ≤ r ∧ r ≤ 2147483647
theorem kr_wf {r : Int} (h : R32 r) : (Lit.int .i32 r).wf = true := by
  obtain ⟨h1, h2⟩ := h
  simp [Lit.wf, IntKind.min, IntKind.max, IntKind.bits, IntKind.signed]
  omega
theorem kr_key {r : Int} (h : R32 r) : keyOf Tryd.prog 21 (.int .i32 r) = some (kr r) := keyOf_int_mk Tryd.underlying21 (kr_wf h)
theorem wf64 {c : Int} (h : -1000000 ≤ c ∧ c ≤ 1000000) : (Lit.int .i64 c).wf = true := WalkArith.wf_i64 (by omega)
/-- A map that holds classes of scalars. -/
structure MC (bd : List Rg) (D : DataW Unit) : Prop where
  tidy : Tidy D
  ok : ∀ r : Int, R32 r → Maps.has D (kr r) = true → ofB bd r = true ∧ ∀ z, D.atKey (kr r) z = .lit (.int .i64 (ofN bd r))
theorem MC.start (bd : List Rg) : MC bd (.map []) := ⟨tidy_empty, fun r _ h => by simp [Maps.has] at h⟩
theorem MC.put {bd : List Rg} {D : DataW Unit} (h : MC bd D) {r : Int} (hr : R32 r) (hb : ofB bd r = true) : MC bd (D.put (kr r) (.lit (.int .i64 (ofN bd r)))) := by
  have hk : WideAt.IsKeyLit (kr r) := lawR.key (kr_key hr)
  refine ⟨h.tidy.put hk _, fun x hx hh => ?_⟩
  by_cases e : x = r
  · subst e
    exact ⟨hb, fun z => atKey_put_same h.tidy.isMap hk _ z⟩
  · have hne : kr x ≠ kr r := fun e' => e (by unfold kr at e'; injection e')
    rw [has_put_other hne] at hh
    obtain ⟨h1, h2⟩ := h.ok x hx hh
    exact ⟨h1, fun z => by rw [atKey_put_other hne]; exact h2 z⟩
/-- A walker in block g whose map is block m; k bounds the map. -/
structure Wkr (base : Nat) (w : World) (T : TV) (g m k s : Nat) : Prop where
  gb : base ≤ g
  glt : g < w.heap.size
  c0 : w.cell? ⟨g, 0, none⟩ = some (.int .i64 T.cl)
  c1 : w.cell? ⟨g, 1, none⟩ = some (.slice T.a1 T.n1 T.c1)
  c2 : w.cell? ⟨g, 2, none⟩ = some (.slice T.a2 T.n2 T.c2)
  c3 : w.cell? ⟨g, 3, none⟩ = some (.slice T.a3 T.n3 T.c3)
  c4 : w.cell? ⟨g, 4, none⟩ = some (.map (some m))
  c5 : w.cell? ⟨g, 5, none⟩ = some (.int .i64 (s : Int))
  fz : w.frozen? ⟨g, 5, none⟩ = false
  mb : base ≤ m
  gm : g ≠ m
  D : ∃ D : DataW Unit, w.ownsMap Tryd.prog 21 (plainElem Tryd.prog 3) m k D ∧ MC T.bd D
theorem Wkr.on {base : Nat} {w w' : World} {T : TV} {g m k s : Nat} (h : Wkr base w T g m k s) (b : Below w.heap.size w w') : Wkr base w' T g m k s := by
  obtain ⟨D, hD, hM⟩ := h.D
  refine ⟨h.gb, Nat.lt_of_lt_of_le h.glt b.size, kept_cell b h.c0, kept_cell b h.c1, kept_cell b h.c2, kept_cell b h.c3, kept_cell b h.c4, kept_cell b h.c5, (b.frozen (p := ⟨g, 5, none⟩) h.glt).trans h.fz, h.mb, h.gm, D, ?_, hM⟩
  exact hD.kept (row := none) ⟨b.os, b.tape, b.output, b.size, fun i hi _ => b.block i hi⟩ (by simp)
theorem Wkr.more {base : Nat} {w : World} {T : TV} {g m k k' s : Nat} (h : Wkr base w T g m k s) (hk : k ≤ k') : Wkr base w T g m k' s := by
  obtain ⟨D, hD, hM⟩ := h.D
  exact ⟨h.gb, h.glt, h.c0, h.c1, h.c2, h.c3, h.c4, h.c5, h.fz, h.mb, h.gm, D, hD.mono hk, hM⟩
/-- The map was written. -/
theorem Wkr.put {base : Nat} {w w' : World} {T : TV} {g m k s : Nat} (h : Wkr base w T g m k s) {D : DataW Unit} (hD : w'.ownsMap Tryd.prog 21 (plainElem Tryd.prog 3) m (k + 1) D) (hM : MC T.bd D) (b : w.grownBy w' (some m)) : Wkr base w' T g m (k + 1) s := by
  have hb : w'.heap[g]? = w.heap[g]? := b.block g h.glt (fun e => h.gm (Option.some.inj e))
  have hc : ∀ i, w'.cell? ⟨g, i, none⟩ = w.cell? ⟨g, i, none⟩ := fun i => World.cell?_of_block (a := ⟨g, i, none⟩) hb
  exact ⟨h.gb, Nat.lt_of_lt_of_le h.glt b.size, (hc 0).trans h.c0, (hc 1).trans h.c1, (hc 2).trans h.c2, (hc 3).trans h.c3, (hc 4).trans h.c4, (hc 5).trans h.c5, (by rw [World.frozen?_of_block (a := ⟨g, 5, none⟩) hb]; exact h.fz), h.mb, h.gm, D, hD, hM⟩
/-- The state was written. -/
theorem Wkr.goes {base : Nat} {w : World} {T : TV} {g m k s : Nat} (h : Wkr base w T g m k s) (s' : Nat) : Wkr base (w.setCell ⟨g, 5, none⟩ (.int .i64 (s' : Int))) T g m k s' := by
  obtain ⟨D, hD, hM⟩ := h.D
  have hc : ∀ i u, i ≠ 5 → w.cell? ⟨g, i, none⟩ = some u → (w.setCell ⟨g, 5, none⟩ (.int .i64 (s' : Int))).cell? ⟨g, i, none⟩ = some u := fun i u hi hu => by
    exact (World.cell?_setCell_other w ⟨g, 5, none⟩ ⟨g, i, none⟩ _ (fun e => hi (by injection e with _ e2; exact e2.symm))).trans hu
  refine ⟨h.gb, by simpa using h.glt, hc 0 _ (by omega) h.c0, hc 1 _ (by omega) h.c1, hc 2 _ (by omega) h.c2, hc 3 _ (by omega) h.c3, hc 4 _ (by omega) h.c4, ?_, ?_, h.mb, h.gm, D, hD.setCell (fun e => h.gm e.symm) _, hM⟩
  · exact World.cell?_setCell_same w ⟨g, 5, none⟩ _ h.c5
  · rw [World.frozen?_setCell]; exact h.fz
/-- Rows that were laid behind the walker are as they were. -/
def KR (g m : Nat) (w w' : World) : Prop := ∀ (base : Nat) (e : TypeId) (size : Nat) (v : Value) (n : Nat) (xs : List Value), g < base → m < base → w.ownsRow base e size v n xs → w'.ownsRow base e size v n xs
theorem KR.refl (g m : Nat) (w : World) : KR g m w w := fun _ _ _ _ _ _ _ _ h => h
theorem KR.trans {g m : Nat} {w w' w'' : World} (h : KR g m w w') (k : KR g m w' w'') : KR g m w w'' := fun _ _ _ _ _ _ h1 h2 h3 => k _ _ _ _ _ _ h1 h2 (h _ _ _ _ _ _ h1 h2 h3)
theorem KR.below {g m : Nat} {w w' : World} (b : Below w.heap.size w w') : KR g m w w' := fun _ _ _ _ _ _ _ _ h => own_below h b
theorem KR.grown {g m : Nat} {w w' : World} (b : w.grownBy w' (some m)) : KR g m w w' := fun base e size v n xs h1 h2 h => h.kept b (by
  cases hv : v.ownBlock with
  | none => exact .inl rfl
  | some k => exact .inr (fun e => by injection e with e; have := (h.lt k hv).1; omega))
theorem KR.set (g m : Nat) (w : World) (i : Nat) (u : Value) : KR g m w (w.setCell ⟨g, i, none⟩ u) := fun base e size v n xs h1 h2 h => ownsRow_setCell_below h h1 u
/-- Another row was written. -/
theorem Wkr.grown {base : Nat} {w w' : World} {T : TV} {g m k s : Nat} (h : Wkr base w T g m k s) {row : Option Nat} (b : w.grownBy w' row) (hr : ∀ j, row = some j → j ≠ g ∧ j ≠ m) : Wkr base w' T g m k s := by
  obtain ⟨D, hD, hM⟩ := h.D
  have hb : w'.heap[g]? = w.heap[g]? := b.block g h.glt (fun e => (hr g e.symm).1 rfl)
  have hc : ∀ i, w'.cell? ⟨g, i, none⟩ = w.cell? ⟨g, i, none⟩ := fun i => World.cell?_of_block (a := ⟨g, i, none⟩) hb
  refine ⟨h.gb, Nat.lt_of_lt_of_le h.glt b.size, (hc 0).trans h.c0, (hc 1).trans h.c1, (hc 2).trans h.c2, (hc 3).trans h.c3, (hc 4).trans h.c4, (hc 5).trans h.c5, (by rw [World.frozen?_of_block (a := ⟨g, 5, none⟩) hb]; exact h.fz), h.mb, h.gm, D, hD.kept b (fun e => (hr m e.symm).2 rfl), hM⟩
def OutC (bs : List Rg) (v : Int) (base : Nat) (T : TV) (g m k s : Nat) (w : World) (e : Ending) (w' : World) : Prop := e = .returned (.tuple #[.int .i64 (ofN bs v), .bool (ofB bs v)]) ∧ Below base w w' ∧ Wkr base w' T g m (k + 1) s ∧ KR g m w w'
/-- A table's parts where they lie: a break, a row of Next. -/
theorem tv_brk {T : TV} {V : World} (hT : T.ok V) (hC : CntV T.tb) : ∃ bb ob, T.a3 = some ⟨bb, ob, none⟩ ∧ T.n3 = T.n2 ∧ ∀ a < T.n2, V.cell? ⟨bb, ob + a, none⟩ = some (.bool (brkN T.tb a)) := by
  have r3 := hT.r3
  have h3 : T.br.length = T.n3 := r3.1
  have e3 : T.n3 = T.n2 := by have := hC.b1; unfold TV.tb at this; simp only [listsOf_len] at this; have := hT.r2.1; omega
  have n1 : 1 ≤ T.n2 := by have := hC.n1; unfold TV.tb at this; simp only [listsOf_len] at this; have := hT.r2.1; omega
  obtain ⟨bb, ob, hA, _, _⟩ := r3.at (k := 0) (by omega)
  refine ⟨bb, ob, hA, e3, fun a ha => ?_⟩
  obtain ⟨bb', ob', hA', _, hc⟩ := r3.at (k := a) (by omega)
  rw [hA] at hA'
  injection hA' with hA'
  injection hA' with e1 e2
  subst e1; subst e2
  rw [hc, brkN_at]
theorem tv_nxt {T : TV} {V : World} (hT : T.ok V) (hC : CntV T.tb) (hN : nextB T.tb = true) : ∃ bb ob, T.a2 = some ⟨bb, ob, none⟩ ∧ ∀ a < T.n2, ∃ rb ro rc, V.cell? ⟨bb, ob + a, none⟩ = some (.slice (some ⟨rb, ro, none⟩) T.cl.toNat rc) ∧ ∀ c < T.cl.toNat, V.cell? ⟨rb, ro + c, none⟩ = some (.int .i64 (nxN T.tb a c : Nat)) := by
  have r2 := hT.r2
  have l2 := hT.r2.1
  have n1 : 1 ≤ T.n2 := by have := hC.n1; unfold TV.tb at this; simp only [listsOf_len] at this; omega
  obtain ⟨bb, ob, hA, _, _⟩ := r2.at (k := 0) (by omega)
  refine ⟨bb, ob, hA, fun a ha => ?_⟩
  have al : a < T.hs.length := by omega
  obtain ⟨bb', ob', hA', _, hc, hri, _⟩ := r2.at al
  rw [hA] at hA'
  injection hA' with hA'
  injection hA' with e1 e2
  subst e1; subst e2
  have hrl : (T.hs[a].l.length : Int) = T.tb.cl := hC.rw _ (List.mem_map.2 ⟨_, List.getElem_mem al, rfl⟩)
  have hrn := hri.1
  have hcl : T.tb.cl = T.cl := rfl
  have hnn : T.hs[a].n = T.cl.toNat := by omega
  have c1 := hC.c1
  obtain ⟨rb, ro, hra, _, _⟩ := hri.at (k := 0) (by omega)
  refine ⟨rb, ro, T.hs[a].c, ?_, fun c hcc => ?_⟩
  · rw [hc, hra, hnn]
  · have cl' : c < T.hs[a].l.length := by omega
    obtain ⟨rb', ro', hra', _, hcell⟩ := hri.at cl'
    rw [hra] at hra'
    injection hra' with hra'
    injection hra' with e1 e2
    subst e1; subst e2
    rw [hcell]
    have e := nxI_at (T := T) al c
    rw [getD_ix cl'] at e
    have hb := nextB_all hN (List.mem_map.2 ⟨_, List.getElem_mem al, rfl⟩) (List.getElem_mem cl')
    have : T.hs[a].l[c] = ((nxN T.tb a c : Nat) : Int) := by unfold nxN; rw [e]; omega
    rw [this]
def OutS (b : Bool) (base : Nat) (T : TV) (g m k s s' : Nat) (w : World) (e : Ending) (w' : World) : Prop := e = .returned (.bool b) ∧ Below base w w' ∧ (∃ s2, Wkr base w' T g m k s2 ∧ (b = true → s2 = s')) ∧ KR g m w w'
theorem store6 {w0 w : World} {B g : Nat} {o0 o1 o2 o3 o4 o5 : Value} (v0 v1 v2 v3 v4 v5 : Value) (hb : Below B w0 w) (hBg : B ≤ g) (p0 : w.cell? ⟨g, 0, none⟩ = some o0) (p1 : w.cell? ⟨g, 1, none⟩ = some o1) (p2 : w.cell? ⟨g, 2, none⟩ = some o2) (p3 : w.cell? ⟨g, 3, none⟩ = some o3) (p4 : w.cell? ⟨g, 4, none⟩ = some o4) (p5 : w.cell? ⟨g, 5, none⟩ = some o5) :
    ∃ W, W = (((((w.setCell ⟨g, 0, none⟩ v0).setCell ⟨g, 1, none⟩ v1).setCell ⟨g, 2, none⟩ v2).setCell ⟨g, 3, none⟩ v3).setCell ⟨g, 4, none⟩ v4).setCell ⟨g, 5, none⟩ v5 ∧ Below B w0 W ∧ W.heap.size = w.heap.size ∧ W.cell? ⟨g, 0, none⟩ = some v0 ∧ W.cell? ⟨g, 1, none⟩ = some v1 ∧ W.cell? ⟨g, 2, none⟩ = some v2 ∧ W.cell? ⟨g, 3, none⟩ = some v3 ∧ W.cell? ⟨g, 4, none⟩ = some v4 ∧ W.cell? ⟨g, 5, none⟩ = some v5 ∧
      (∀ a, W.frozen? a = w.frozen? a) ∧ ∀ b, b ≠ g → W.heap[b]? = w.heap[b]? := by
  refine ⟨_, rfl, (((((hb.setCell (p := ⟨g, 0, none⟩) hBg _).setCell (p := ⟨g, 1, none⟩) hBg _).setCell (p := ⟨g, 2, none⟩) hBg _).setCell (p := ⟨g, 3, none⟩) hBg _).setCell (p := ⟨g, 4, none⟩) hBg _).setCell (p := ⟨g, 5, none⟩) hBg _, by simp, ?_, ?_, ?_, ?_, ?_, ?_, fun a => by simp only [World.frozen?_setCell], fun b hne => ?_⟩
  · simp [go_sem, p0, p1, p2, p3, p4, p5]
  · simp [go_sem, p0, p1, p2, p3, p4, p5]
  · simp [go_sem, p0, p1, p2, p3, p4, p5]
  · simp [go_sem, p0, p1, p2, p3, p4, p5]
  · simp [go_sem, p0, p1, p2, p3, p4, p5]
  · simp [go_sem, p0, p1, p2, p3, p4, p5]
  · rw [RowKit.Below.heap_setCell _ _ _ _ hne, RowKit.Below.heap_setCell _ _ _ _ hne, RowKit.Below.heap_setCell _ _ _ _ hne, RowKit.Below.heap_setCell _ _ _ _ hne, RowKit.Below.heap_setCell _ _ _ _ hne, RowKit.Below.heap_setCell _ _ _ _ hne]
/-- A walker's cells in a new block, nothing yet. -/
structure Res6 (g : Nat) (w : World) : Prop where
  lt : g < w.heap.size
  c0 : w.cell? ⟨g, 0, none⟩ = some (.int .i64 0)
  c1 : w.cell? ⟨g, 1, none⟩ = some (.slice none 0 0)
  c2 : w.cell? ⟨g, 2, none⟩ = some (.slice none 0 0)
  c3 : w.cell? ⟨g, 3, none⟩ = some (.slice none 0 0)
  c4 : w.cell? ⟨g, 4, none⟩ = some (.map none)
  c5 : w.cell? ⟨g, 5, none⟩ = some (.int .i64 0)
  f0 : w.frozen? ⟨g, 0, none⟩ = false
  f1 : w.frozen? ⟨g, 1, none⟩ = false
  f2 : w.frozen? ⟨g, 2, none⟩ = false
  f3 : w.frozen? ⟨g, 3, none⟩ = false
  f4 : w.frozen? ⟨g, 4, none⟩ = false
  f5 : w.frozen? ⟨g, 5, none⟩ = false
theorem Res6.on {g : Nat} {w w' : World} (h : Res6 g w) (b : Below w.heap.size w w') : Res6 g w' :=
  ⟨Nat.lt_of_lt_of_le h.lt b.size, kept_cell b h.c0, kept_cell b h.c1, kept_cell b h.c2, kept_cell b h.c3, kept_cell b h.c4, kept_cell b h.c5, (b.frozen h.lt).trans h.f0, (b.frozen h.lt).trans h.f1, (b.frozen h.lt).trans h.f2, (b.frozen h.lt).trans h.f3, (b.frozen h.lt).trans h.f4, (b.frozen h.lt).trans h.f5⟩
def OutBg (T : TV) (w : World) (e : Ending) (w' : World) : Prop := ∃ m, e = .returned (.tuple #[.agg #[.int .i64 T.cl, .slice T.a1 T.n1 T.c1, .slice T.a2 T.n2 T.c2, .slice T.a3 T.n3 T.c3, .map (some m), .int .i64 0], .bool true]) ∧ w.heap.size ≤ m ∧ m < w'.heap.size ∧ w'.ownsMap Tryd.prog 21 (plainElem (H := Unit) Tryd.prog 3) m 0 (.map []) ∧ Below w.heap.size w w'
end Go.Proofs.YtnilejdokgagbaaDoor

/- What Class, State and Breaks of package walk return. -/
namespace Go.Proofs.YtnilejdokgagbaaDoor
open Go.RowKit Go.BigFrame Go.Maps
set_option linter.unusedVariables false
set_option maxRecDepth 4000
set_option linter.unusedSimpArgs false

def stR (t : Tb) (l : List Int) : Int := if okW t l then (stW t l : Int) else 0
def OutSt (t : Tb) (l : List Int) (w : World) (e : Ending) (w' : World) : Prop := e = .returned (.tuple #[.int .i64 (stR t l), .bool (okW t l)]) ∧ Below w.heap.size w w'
theorem OutSt.no {t : Tb} {l : List Int} {w w' : World} (h : okW t l = false) (b : Below w.heap.size w w') : OutSt t l w (.returned (.tuple #[.int .i64 0, .bool false])) w' := ⟨by unfold stR; rw [h]; rfl, b⟩
theorem OutSt.yes {t : Tb} {l : List Int} {w w' : World} (h : okW t l = true) (b : Below w.heap.size w w') : OutSt t l w (.returned (.tuple #[.int .i64 (stW t l : Int), .bool true])) w' := ⟨by unfold stR; rw [h]; rfl, b⟩
theorem reads_int (w : World) (x : Int) : Reads (w.alloc (.cells #[.int .i64 x] 3)) (w.heap.size + 1) 1 (some ⟨w.heap.size, 0, none⟩) 1 (icells [x]) := ⟨rfl, fun _ => ⟨_, _, rfl, by omega, fun i u hu => by
  match i, hu with
  | 0, hu => injection hu with hu; subst hu; simp⟩⟩
def OutPl (r : Option (List Int)) (w : World) (e : Ending) (w' : World) : Prop := ∃ (A : Option Addr) (c : Nat), e = .returned (.tuple #[.slice A (r.getD []).length c, .bool r.isSome]) ∧ w'.ownsRow w.heap.size 3 1 (.slice A (r.getD []).length c) (r.getD []).length (icells (r.getD [])) ∧ Below w.heap.size w w'
theorem OutPl.no {r : Option (List Int)} {w w' : World} (h : r = none) (b : Below w.heap.size w w') : OutPl r w (.returned (.tuple #[.slice none 0 0, .bool false])) w' := by
  subst h
  exact ⟨none, 0, rfl, World.ownsRow_nil _ _ _ _, b⟩
theorem brW_some {t : Tb} {l : List Int} (h : errV t = 0) (k : okW t l = true) : brW t l = some (plK t l (l.length + 1)) := by unfold brW; rw [if_pos ⟨h, k⟩]
theorem brW_none {t : Tb} {l : List Int} (k : okW t l = false) : brW t l = none := by unfold brW; rw [if_neg (by rw [k]; simp)]
theorem brW_err {t : Tb} {l : List Int} (h : errV t ≠ 0) : brW t l = none := by unfold brW; rw [if_neg (fun e => h e.1)]
theorem OutPl.yes {t : Tb} {l L : List Int} {z : Nat} {w w' : World} {A : Option Addr} {c base : Nat} (h : errV t = 0) (k : okW t l = true) (hL : L = plK t l (l.length + 1)) (hz : z = L.length) (ho : w'.ownsRow base 3 1 (.slice A z c) z (icells L)) (hb : w.heap.size ≤ base) (b : Below w.heap.size w w') : OutPl (brW t l) w (.returned (.tuple #[.slice A z c, .bool true])) w' := by
  subst hz
  rw [brW_some h k, ← hL]
  exact ⟨A, c, rfl, ho.mono hb, b⟩
end Go.Proofs.YtnilejdokgagbaaDoor

