/- Joined: WMath OfC OfD Walk1 Walk2. -/
import Derived.Test.YtmhfgncffkfelaaDoorKVal
import Derived.RangeFuncNested
import Derived.RangeFuncBound
import Derived.RangeFuncCalls
import Derived.RangeFuncLeaves
import Derived.RangeFuncBox
import Derived.Shelf.Abstract
import Derived.Shelf.RegionOpen
import Derived.WalkKit
import Derived.OwnWalkIn
import Derived.TacticsInMore
import Derived.LoopNIn
import Derived.LoopIn
import Derived.BigRegion
import Derived.Deep.Onto
/- Plain mathematics of scalars on a table (stage 8): classes by bands, states, places with a break. No program. -/
namespace Go.Proofs.YtmhfgncffkfelaaDoor
set_option linter.unusedVariables false
set_option linter.unusedSimpArgs false

/-- The last of the first n bands that does not begin above v; -1: none. -/
def lastI (bs : List (Int × Int)) (v : Int) : Nat → Int
  | 0 => -1
  | n + 1 => if (bandAt bs n).1 ≤ v then (n : Int) else lastI bs v n
theorem lastI_lt (bs : List (Int × Int)) (v : Int) : ∀ n, -1 ≤ lastI bs v n ∧ lastI bs v n < n
  | 0 => by simp [lastI]
  | n + 1 => by
    have := lastI_lt bs v n
    unfold lastI
    split <;> omega
/-- The band that v stands in. -/
def ofK (bs : List (Int × Int)) (v : Int) : Int := if scalB v then lastI bs v bs.length else -1
def ofB (bs : List (Int × Int)) (v : Int) : Bool := decide (0 ≤ ofK bs v)
def ofN (bs : List (Int × Int)) (v : Int) : Int := if ofB bs v then (bandAt bs (ofK bs v).toNat).2 else 0
theorem ofK_lt (bs : List (Int × Int)) (v : Int) : -1 ≤ ofK bs v ∧ ofK bs v < bs.length := by
  have := lastI_lt bs v bs.length
  unfold ofK
  split <;> omega
theorem ofB_scal {bs : List (Int × Int)} {v : Int} (h : ofB bs v = true) : scalB v = true := by
  unfold ofB ofK at h
  cases e : scalB v with
  | true => rfl
  | false => rw [e] at h; simp at h
theorem ofB_no {bs : List (Int × Int)} {v : Int} (h : scalB v = false) : ofB bs v = false := by
  cases e : ofB bs v with
  | false => rfl
  | true => rw [ofB_scal e] at h; cases h
theorem ofN_no {bs : List (Int × Int)} {v : Int} (h : ofB bs v = false) : ofN bs v = 0 := by unfold ofN; rw [h]; rfl
theorem scalB_not {v : Int} (h : ¬ ((0 ≤ v ∧ v < 55296) ∨ (57344 ≤ v ∧ v ≤ 1114111))) : scalB v = false := by
  cases e : scalB v with
  | false => rfl
  | true => exact absurd ((scalB_iff v).1 e) h

/-! By the bands from the last one on. -/
theorem bandAt_get {bs : List (Int × Int)} {i : Nat} (h : i < bs.length) : bandAt bs i = bs[i] := by
  unfold bandAt
  rw [List.getD_eq_getElem?_getD, List.getElem?_eq_getElem h]; rfl
theorem lastI_none {bs : List (Int × Int)} {v : Int} : ∀ n, (∀ i < n, v < (bandAt bs i).1) → lastI bs v n = -1
  | 0, _ => rfl
  | n + 1, h => by
    unfold lastI
    rw [if_neg (by have := h n (by omega); omega)]
    exact lastI_none n (fun i hi => h i (by omega))
theorem lastI_some {bs : List (Int × Int)} {v : Int} {k : Nat} : ∀ n, k < n → (bandAt bs k).1 ≤ v → (∀ i < n, k < i → v < (bandAt bs i).1) → lastI bs v n = (k : Int)
  | 0, h, _, _ => by omega
  | n + 1, h, hk, hi => by
    unfold lastI
    by_cases e : k = n
    · subst e; rw [if_pos hk]
    · rw [if_neg (by have := hi n (by omega) (by omega); omega)]
      exact lastI_some n (by omega) hk (fun i h1 h2 => hi i (by omega) h2)
theorem lastI_ge {bs : List (Int × Int)} {v : Int} : ∀ n, 0 < n → (bandAt bs 0).1 ≤ v → 0 ≤ lastI bs v n
  | 0, h, _ => by omega
  | n + 1, _, h0 => by
    unfold lastI
    split
    · omega
    · cases n with
      | zero => omega
      | succ n => exact lastI_ge (n + 1) (by omega) h0

/-! A table that may be. -/
theorem clScan_in : ∀ (l : List (Int × Int)) (m k : Int), clScan l m = some k → ∀ p ∈ l, 0 ≤ p.2 ∧ p.2 < k
  | [], _, _, _, p, hp => by simp at hp
  | p :: l, m, k, h, x, hx => by
    unfold clScan at h
    by_cases q : 0 ≤ p.2 ∧ p.2 ≤ m
    · rw [if_pos q] at h
      rcases List.mem_cons.1 hx with rfl | hx
      · have := clScan_ge _ _ _ h
        omega
      · exact clScan_in l _ k h x hx
    · rw [if_neg q] at h; cases h
theorem bands_zero {t : Tb} (h : Vd t) : (bandAt t.bd 0).1 = 0 := by
  have hc := (cntV_iff t).1 h.cnt
  have := bandsB_all h.bds 0 (by have := hc.k1; omega)
  unfold okBand at this
  simp at this
  exact this.1
theorem bands_rise {t : Tb} (h : Vd t) : ∀ j < t.bd.length, ∀ i < j, (bandAt t.bd i).1 < (bandAt t.bd j).1 := by
  intro j
  induction j with
  | zero => intro _ i hi; omega
  | succ j ih =>
    intro hj i hi
    have := bandsB_all h.bds (j + 1) hj
    unfold okBand at this
    simp at this
    rcases Nat.lt_or_ge i j with q | q
    · have := ih (by omega) i q
      omega
    · obtain rfl : i = j := by omega
      omega
theorem bands_scal {t : Tb} (h : Vd t) {i : Nat} (hi : i < t.bd.length) : scalB (bandAt t.bd i).1 = true := by
  have := bandsB_all h.bds i hi
  unfold okBand at this
  simp only [Bool.and_eq_true] at this
  exact this.1.2
theorem bands_class {t : Tb} (h : Vd t) {i : Nat} (hi : i < t.bd.length) : 0 ≤ (bandAt t.bd i).2 ∧ (bandAt t.bd i).2 < t.cl := by
  have hk : clScan t.bd 0 = some t.cl := by simpa [classB] using h.cls
  rw [bandAt_get hi]
  exact clScan_in _ _ _ hk _ (List.getElem_mem hi)
theorem ofB_vd {t : Tb} (h : Vd t) (v : Int) : ofB t.bd v = scalB v := by
  cases e : scalB v with
  | false => exact ofB_no e
  | true =>
    unfold ofB ofK
    rw [e, if_pos rfl]
    have hc := (cntV_iff t).1 h.cnt
    have h0 := bands_zero h
    have := lastI_ge (bs := t.bd) (v := v) t.bd.length (by have := hc.k1; omega) (by have := (scalB_iff v).1 e; omega)
    simpa using this
theorem ofN_lt {t : Tb} (h : Vd t) (v : Int) : 0 ≤ ofN t.bd v ∧ ofN t.bd v < t.cl := by
  have hc := (cntV_iff t).1 h.cnt
  unfold ofN
  split
  · rename_i e
    have hb : 0 ≤ ofK t.bd v := by simpa [ofB] using e
    have := ofK_lt t.bd v
    exact bands_class h (i := (ofK t.bd v).toNat) (by omega)
  · have := hc.c1; omega
/-- Each scalar from a band's First up to the next one's is of its class. -/
theorem ofN_here {t : Tb} (h : Vd t) {k : Nat} (hk : k < t.bd.length) {v : Int} (h1 : (bandAt t.bd k).1 ≤ v) (h2 : ∀ hh : k + 1 < t.bd.length, v < (bandAt t.bd (k + 1)).1) (hs : scalB v = true) : ofN t.bd v = (bandAt t.bd k).2 := by
  have e : ofK t.bd v = (k : Int) := by
    unfold ofK
    rw [hs, if_pos rfl]
    refine lastI_some _ hk h1 (fun i hi hki => ?_)
    have q := h2 (by omega)
    rcases Nat.lt_or_ge (k + 1) i with q1 | q1
    · have := bands_rise h i hi (k + 1) q1
      omega
    · obtain rfl : i = k + 1 := by omega
      exact q
  unfold ofN ofB
  rw [e]
  simp

/-! States. -/
def stpW (t : Tb) (s : Nat) (v : Int) : Nat := nxN t s (ofN t.bd v).toNat
def stW (t : Tb) (l : List Int) : Nat := l.foldl (stpW t) 0
def okW (t : Tb) (l : List Int) : Bool := l.all (ofB t.bd)
theorem stW_snoc (t : Tb) (l : List Int) (v : Int) : stW t (l ++ [v]) = stpW t (stW t l) v := by unfold stW; rw [List.foldl_append]; rfl
theorem okW_snoc (t : Tb) (l : List Int) (v : Int) : okW t (l ++ [v]) = (okW t l && ofB t.bd v) := by unfold okW; rw [List.all_append]; simp
theorem take_one {α : Type} {l : List α} {k : Nat} (h : k < l.length) : l.take (k + 1) = l.take k ++ [l[k]] := List.take_succ_eq_append_getElem h
theorem okW_take_no {t : Tb} {l : List Int} {k : Nat} (h : okW t (l.take k) = false) : okW t l = false := by
  cases e : okW t l with
  | false => rfl
  | true =>
    have : okW t (l.take k) = true := by
      unfold okW at e ⊢
      rw [List.all_eq_true] at e ⊢
      exact fun x hx => e x (List.mem_of_mem_take hx)
    rw [this] at h; cases h
theorem stpW_lt {t : Tb} (h : Vd t) (s : Nat) (v : Int) : stpW t s v < t.nx.length := nxN_lt h.nxt (by have := ((cntV_iff t).1 h.cnt).n1; omega) _ _
theorem stW_lt {t : Tb} (h : Vd t) (l : List Int) : stW t l < t.nx.length := by
  rcases List.eq_nil_or_concat l with rfl | ⟨l', v, rfl⟩
  · have := ((cntV_iff t).1 h.cnt).n1
    show 0 < _
    omega
  · rw [List.concat_eq_append, stW_snoc]
    exact stpW_lt h _ _
/-- The places below k that break. -/
def plK (t : Tb) (l : List Int) (k : Nat) : List Int := ((List.range k).filter fun i => brkN t (stW t (l.take i))).map fun i => ((i : Nat) : Int)
theorem plK_zero (t : Tb) (l : List Int) : plK t l 0 = [] := rfl
theorem plK_succ (t : Tb) (l : List Int) (k : Nat) : plK t l (k + 1) = plK t l k ++ (if brkN t (stW t (l.take k)) then [(k : Int)] else []) := by
  unfold plK
  rw [List.range_succ, List.filter_append, List.map_append]
  congr 1
  cases e : brkN t (stW t (l.take k)) <;> simp [e]
theorem plK_yes {t : Tb} {l : List Int} {k : Nat} (h : brkN t (stW t (l.take k)) = true) : plK t l (k + 1) = plK t l k ++ [(k : Int)] := by rw [plK_succ, h]; rfl
theorem plK_no {t : Tb} {l : List Int} {k : Nat} (h : brkN t (stW t (l.take k)) = false) : plK t l (k + 1) = plK t l k := by rw [plK_succ, h]; simp
theorem plK_len (t : Tb) (l : List Int) : ∀ k, (plK t l k).length ≤ k
  | 0 => by simp [plK]
  | k + 1 => by
    have := plK_len t l k
    rw [plK_succ]
    split <;> simp <;> omega
theorem plK_mem {t : Tb} {l : List Int} {k : Nat} {x : Int} (h : x ∈ plK t l k) : 0 ≤ x ∧ x < k := by
  unfold plK at h
  obtain ⟨i, hi, rfl⟩ := List.mem_map.1 h
  have := (List.mem_filter.1 hi).1
  simp at this
  omega
/-- The places of the longer row, up to the end of the shorter one. -/
theorem plK_app (t : Tb) (l m : List Int) : ∀ k, k ≤ l.length + 1 → plK t (l ++ m) k = plK t l k
  | 0, _ => rfl
  | k + 1, h => by
    rw [plK_succ, plK_succ, plK_app t l m k (by omega), List.take_append_of_le_length (by omega)]
def uptoL (L : List Int) (n : Nat) : List Int := L.filter fun x => decide (x ≤ (n : Int))
theorem plK_upto (t : Tb) (l : List Int) (n : Nat) : ∀ k, n + 1 ≤ k → uptoL (plK t l k) n = plK t l (n + 1)
  | 0, h => by omega
  | k + 1, h => by
    by_cases e : n = k
    · subst e
      unfold uptoL
      rw [List.filter_eq_self]
      intro x hx
      have := plK_mem hx
      simp
      omega
    · have ih := plK_upto t l n k (by omega)
      unfold uptoL at ih ⊢
      rw [plK_succ, List.filter_append, ih]
      split
      · rw [List.filter_cons, if_neg (by simp; omega)]; simp
      · simp
/-- Is the last place one? -/
def atEnd (L : List Int) (n : Nat) : Bool := decide (0 < L.length) && (L.getD (L.length - 1) 0 == (n : Int))
theorem plK_end (t : Tb) (l : List Int) : atEnd (plK t l (l.length + 1)) l.length = brkN t (stW t l) := by
  unfold atEnd
  rw [plK_succ, List.take_length]
  cases e : brkN t (stW t l) with
  | true => simp
  | false =>
    simp only [Bool.false_eq_true, if_false, List.append_nil]
    cases hp : plK t l l.length with
    | nil => simp
    | cons a L =>
      have hm : (a :: L).getD ((a :: L).length - 1) 0 ∈ plK t l l.length := by
        rw [hp, List.getD_eq_getElem?_getD, List.getElem?_eq_getElem (by simp)]
        exact List.getElem_mem _
      have := plK_mem hm
      rw [show (decide (0 < (a :: L).length)) = true by simp, Bool.true_and, beq_eq_false_iff_ne]
      omega
/-- What Breaks says. -/
def brW (t : Tb) (l : List Int) : Option (List Int) := if errV t = 0 ∧ okW t l = true then some (plK t l (l.length + 1)) else none
end Go.Proofs.YtmhfgncffkfelaaDoor

/- What Of returns: by slices.Backward, the last band whose First is not above. -/
namespace Go.Proofs.YtmhfgncffkfelaaDoor
open Go.RowKit Go.Shelf
set_option linter.unusedVariables false
set_option linter.unusedSimpArgs false

attribute [local go_sem] Oper.semAt_some

abbrev Bx := Int × Rg
def upto {α : Type} (f : Nat → α) (k : Nat) : List α := (List.range k).map f
theorem upto_succ {α : Type} (f : Nat → α) (k : Nat) : upto f (k + 1) = upto f k ++ [f k] := by simp [upto, List.range_succ]
theorem upto_length {α : Type} (f : Nat → α) (k : Nat) : (upto f k).length = k := by simp [upto]
/-- What comes at the k-th round. -/
def bk (bs : List Rg) (k : Nat) : Bx := ((bs.length : Int) - 1 - k, bs.getD (bs.length - 1 - k) (0, 0))

def Kb (n₀ Bs : Nat) (W W' : World) : Prop := Below n₀ W W' ∧ W'.heap[Bs]? = W.heap[Bs]?
theorem Kb.refl (n₀ Bs : Nat) (W : World) : Kb n₀ Bs W W := ⟨Below.refl _ _, rfl⟩
theorem Kb.trans {n₀ Bs : Nat} {A B C : World} (h : Kb n₀ Bs A B) (k : Kb n₀ Bs B C) : Kb n₀ Bs A C := ⟨h.1.trans k.1, k.2.trans h.2⟩
set_option maxRecDepth 100000 in
set_option maxHeartbeats 2000000 in
theorem back1_in (F : Fence) (n : Nat) (h8 : F.fn 124) (hro : F.round = none) (hn : 1 ≤ n) (l Bs n₀ b off cap : Nat) (bs : List Rg) (hreach : bs.length ≤ 1000000) (hb : b < n₀) (J Jx : List Bx → World → Prop)
    (hY : ∀ pre x W, J pre W → pre.length < bs.length → YieldAt F (n - 1) Tryd.prog l #[.int .i64 x.1, .agg #[.int .i64 x.2.1, .int .i64 x.2.2]] W fun e W' =>
      (e = .returned (.bool true) ∧ J (pre ++ [x]) W' ∧ Kb n₀ Bs W W') ∨ (e = .returned (.bool false) ∧ Jx (pre ++ [x]) W'))
    (W : World) (hBs : W.cell? ⟨Bs, 0, none⟩ = some (.slice (some ⟨b, off, none⟩) bs.length cap)) (hc : ∀ j (hj : j < bs.length), W.cell? ⟨b, off + j * 2, none⟩ = some (.int .i64 bs[j].1) ∧ W.cell? ⟨b, off + j * 2 + 1, none⟩ = some (.int .i64 bs[j].2)) (h0 : J [] W) :
    CallsIn F n Tryd.prog 124 #[.func (.yield l) #[] #[], .pointer (some ⟨Bs, 0, none⟩)] W fun e W' => (∃ v, e = .returned v) ∧
      ((∃ ys, ys = upto (bk bs) bs.length ∧ J ys W') ∨ (∃ pre, (∃ k, k ≤ bs.length ∧ pre = upto (bk bs) k) ∧ Jx pre W')) := by
  obtain ⟨len, hlen⟩ : ∃ len, bs.length = len := ⟨_, rfl⟩
  rw [hlen] at hreach hBs
  refine callsIn_of_wp Tryd.func124 rfl h8 ?_ hro
  simp only [Tryd.ntmps124, List.size_toArray, List.length_cons, List.length_nil, Nat.reduceAdd, Nat.reduceSub, Array.replicate_succ, Array.replicate_zero, List.push_toArray, List.append_toArray, List.nil_append, List.cons_append]
  gi_wp2
  gi_loopw [3] (fun i wr => ∃ k : Nat, k ≤ len ∧ i = .int .i64 ((len : Int) - 1 - k) ∧ J (upto (bk bs) k) wr ∧ Kb n₀ Bs W wr)
    (fun i _ => (intOf i + 1).toNat)
  case atStart => exact ⟨0, Nat.zero_le _, by simp, h0, Kb.refl _ _ _⟩
  case round =>
    obtain ⟨k, hk, rfl, hJs, hnx⟩ := hrel
    by_cases hlt : k < len
    · have hj : len - 1 - k < bs.length := by omega
      obtain ⟨q0, q1⟩ := hc (len - 1 - k) hj
      have q0' := (hnx.1.cell (p := ⟨b, off + (len - 1 - k) * 2, none⟩) hb).trans q0
      have q1' := (hnx.1.cell (p := ⟨b, off + (len - 1 - k) * 2 + 1, none⟩) hb).trans q1
      have qs := (World.cell?_of_block (a := ⟨Bs, 0, none⟩) hnx.2).trans hBs
      have ebk : bk bs k = ((len : Int) - 1 - k, bs[len - 1 - k]) := by
        unfold bk
        rw [hlen, List.getD_eq_getElem?_getD, List.getElem?_eq_getElem hj]; rfl
      obtain ⟨fn, tmps, assign, body, hy, hR⟩ := hY _ (bk bs k) wr hJs (by rw [upto_length, hlen]; exact hlt)
      rw [ebk] at hy hR
      dsimp only at hy
      have eup := upto_succ (bk bs) k
      rw [ebk] at eup
      generalize bs[len - 1 - k] = x at *
      obtain ⟨x0, x1⟩ := x
      dsimp only at hy q0' q1'
      obtain ⟨m, hm⟩ : ∃ m : Nat, len - 1 - k = m := ⟨_, rfl⟩
      rw [hm] at q0' q1'
      have hmi : (len : Int) - 1 - k = (m : Int) := by omega
      have hml : m < len := by omega
      rw [hmi] at hy hR eup ⊢
      clear q0 q1 hc
      gi_wp2
      refine hR.mono ?_
      rintro e W3 (⟨rfl, hJ3, hk3⟩ | ⟨rfl, hJx3⟩)
      · gi_wp2
        go_roundw
        case rel => exact ⟨k + 1, by omega, by first | (simp; done) | (simp; omega), by rw [eup]; exact hJ3, hnx.trans hk3⟩
        case measure => first | (simp [intOf]; done) | (simp [intOf]; omega)
      · gi_wp2
        refine bodyPost_ret (results_none rfl _ _ _) rfl ?_
        exact ⟨⟨_, rfl⟩, .inr ⟨_, ⟨k + 1, by omega, eup.symm⟩, hJx3⟩⟩
    · obtain rfl : k = len := by omega
      have e1 : (k : Int) - 1 - k = -1 := by omega
      rw [e1]
      gi_wp2
      go_end0
      exact ⟨⟨_, rfl⟩, .inl ⟨_, by rw [hlen], hJs⟩⟩
set_option maxRecDepth 100000 in
set_option maxHeartbeats 1000000 in
theorem back1_nil_in (F : Fence) (n : Nat) (h8 : F.fn 124) (hro : F.round = none) (l Bs : Nat) (A : Option Addr) (cap : Nat) (J : List Bx → World → Prop) (W : World) (hBs : W.cell? ⟨Bs, 0, none⟩ = some (.slice A 0 cap)) (h0 : J [] W) :
    CallsIn F n Tryd.prog 124 #[.func (.yield l) #[] #[], .pointer (some ⟨Bs, 0, none⟩)] W fun e W' => (∃ v, e = .returned v) ∧ J [] W' := by
  refine callsIn_of_wp Tryd.func124 rfl h8 ?_ hro
  simp only [Tryd.ntmps124, List.size_toArray, List.length_cons, List.length_nil, Nat.reduceAdd, Nat.reduceSub, Array.replicate_succ, Array.replicate_zero, List.push_toArray, List.append_toArray, List.nil_append, List.cons_append]
  gi_wp2
  gi_loopw [3] (fun i wr => i = .int .i64 (-1) ∧ J [] wr) (fun _ _ => 0)
  case atStart => exact ⟨rfl, h0⟩
  case round =>
    obtain ⟨rfl, hJs⟩ := hrel
    gi_wp2
    go_end0
    exact ⟨⟨_, rfl⟩, hJs⟩
set_option maxHeartbeats 1000000 in
theorem back_in (F : Fence) (n : Nat) (h5 : F.fn 123) (hro : F.round = none) (a : Option Addr) (len cap : Nat) (w : World) :
    CallsIn F n Tryd.prog 123 #[.slice a len cap] w fun e w' => e = .returned (.func (.func 124) #[] #[.pointer (some ⟨w.heap.size, 0, none⟩)]) ∧ w' = w.alloc (.cells #[.slice a len cap] 22) := by
  refine callsIn_of_wp Tryd.func123 rfl h5 ?_ hro
  simp only [Tryd.ntmps123, List.size_toArray, List.length_cons, List.length_nil, Nat.reduceAdd, Nat.reduceSub, Array.replicate_succ, Array.replicate_zero, List.push_toArray, List.append_toArray, List.nil_append, List.cons_append]
  gi_wp2
  go_ret
  exact ⟨rfl, rfl⟩
def encB (x : Bx) : Array Value := #[.int .i64 x.1, .agg #[.int .i64 x.2.1, .int .i64 x.2.2]]
theorem back_stops (F : Fence) (n : Nat) (h8 : F.fn 124) (hro : F.round = none) (hn : 1 ≤ n) (Bs n₀ : Nat) (A : Option Addr) (cap : Nat) (bs : List Rg) (hreach : bs.length ≤ 1000000) (w : World) (hBs : Bs < w.heap.size) (hn₀ : n₀ ≤ w.heap.size)
    (hc : w.cell? ⟨Bs, 0, none⟩ = some (.slice A bs.length cap)) (hR : Reads w n₀ 2 A bs.length (rcells bs)) :
    SeqStopsK F n Tryd.prog 124 #[.pointer (some ⟨Bs, 0, none⟩)] encB (Kb n₀ Bs) (fun ys => ys = upto (bk bs) bs.length)
      (fun pre => ∃ k, k ≤ bs.length ∧ pre = upto (bk bs) k) bs.length w := fun l J Jx W hW _ _ hY h0 => by
  have hc' := (hW.cell (p := ⟨Bs, 0, none⟩) hBs).trans hc
  have hR' := hR.below (hW.mono hn₀)
  by_cases hl : bs.length = 0
  · obtain rfl : bs = [] := List.eq_nil_of_length_eq_zero hl
    exact (back1_nil_in F n h8 hro l Bs A cap J W hc' h0).mono fun e W' ⟨he, hj⟩ => ⟨he, .inl ⟨_, rfl, hj⟩⟩
  · obtain ⟨b, o, rfl, hb, _⟩ := hR'.2 (by omega)
    refine back1_in F n h8 hro hn l Bs n₀ b o cap bs hreach hb J Jx hY W hc' (fun j hj => ?_) h0
    obtain ⟨b', o', e, _, p0, p1⟩ := hR'.rg hj
    injection e with e
    injection e with e1 e2
    subst e1 e2
    exact ⟨p0, p1⟩
end Go.Proofs.YtmhfgncffkfelaaDoor

/- What Of returns. -/
namespace Go.Proofs.YtmhfgncffkfelaaDoor
open Go.RowKit Go.Shelf
set_option linter.unusedVariables false
set_option linter.unusedSimpArgs false

attribute [local go_sem] Oper.semAt_some

def ofL (bs : List Rg) (v : Int) : Option Rg := if scalB v then bs.reverse.find? (fun b => decide (b.1 ≤ v)) else none
theorem find_last (bs : List Rg) (v : Int) : ∀ n, n ≤ bs.length → (bs.take n).reverse.find? (fun b => decide (b.1 ≤ v)) = if lastI bs v n < 0 then none else some (bandAt bs (lastI bs v n).toNat)
  | 0, _ => by simp [lastI]
  | n + 1, h => by
    have ih := find_last bs v n (by omega)
    rw [List.take_succ_eq_append_getElem (by omega), List.reverse_append, List.reverse_singleton, List.singleton_append, List.find?_cons]
    unfold lastI
    rw [bandAt_get (show n < bs.length by omega)]
    by_cases q : bs[n].1 ≤ v
    · rw [if_pos q, decide_eq_true q, if_neg (by omega)]
      simp only [Int.toNat_natCast]
      rw [bandAt_get (show n < bs.length by omega)]
    · rw [if_neg q, decide_eq_false q]
      exact ih
theorem ofL_eq (bs : List Rg) (v : Int) : ofL bs v = if ofK bs v < 0 then none else some (bandAt bs (ofK bs v).toNat) := by
  unfold ofL ofK
  cases e : scalB v with
  | false => simp
  | true =>
    have := find_last bs v bs.length (Nat.le_refl _)
    rw [List.take_length] at this
    simp only [if_true]
    exact this
theorem ofB_L (bs : List Rg) (v : Int) : ofB bs v = (ofL bs v).isSome := by
  rw [ofL_eq]
  unfold ofB
  by_cases q : ofK bs v < 0
  · rw [if_pos q, decide_eq_false (by omega)]; rfl
  · rw [if_neg q, decide_eq_true (by omega)]; rfl
theorem ofN_L (bs : List Rg) (v : Int) : ofN bs v = ((ofL bs v).map (·.2)).getD 0 := by
  unfold ofN
  rw [ofL_eq]
  unfold ofB
  by_cases q : ofK bs v < 0
  · rw [if_pos q, decide_eq_false (by omega)]; rfl
  · rw [if_neg q, decide_eq_true (by omega)]; rfl
theorem bk_rev (bs : List Rg) : (upto (bk bs) bs.length).map (·.2) = bs.reverse := by
  apply List.ext_getElem (by simp [upto])
  intro i h1 h2
  have hi : i < bs.length := by simpa [upto] using h1
  simp [upto, bk]
  rw [List.getElem?_eq_getElem (by omega)]
  rfl
theorem bk_take (bs : List Rg) {k : Nat} (hk : k ≤ bs.length) : (upto (bk bs) k).map (·.2) = bs.reverse.take k := by
  rw [← bk_rev]
  unfold upto
  rw [← List.map_take, ← List.map_take]
  congr 2
  rw [List.take_range]
  congr 1
  omega
theorem of_none {bs : List Rg} {v : Int} (h : ∀ p ∈ upto (bk bs) bs.length, v < p.2.1) : bs.reverse.find? (fun b => decide (b.1 ≤ v)) = none := by
  rw [List.find?_eq_none]
  intro b hb
  rw [← bk_rev] at hb
  obtain ⟨p, hp, rfl⟩ := List.mem_map.1 hb
  have := h p hp
  simp
  omega
theorem of_some {bs : List Rg} {v : Int} {k : Nat} (hk : k ≤ bs.length) {ini : List Bx} {last : Bx} (e : upto (bk bs) k = ini ++ [last]) (h1 : ∀ p ∈ ini, v < p.2.1) (h2 : last.2.1 ≤ v) : bs.reverse.find? (fun b => decide (b.1 ≤ v)) = some last.2 := by
  have h3 := bk_take bs hk
  rw [e] at h3
  simp at h3
  have h4 : bs.reverse = (ini.map (·.2) ++ [last.2]) ++ bs.reverse.drop k := by
    rw [h3, List.take_append_drop]
  rw [h4, List.find?_append, List.find?_append]
  have h5 : (ini.map (·.2)).find? (fun b => decide (b.1 ≤ v)) = none := by
    rw [List.find?_eq_none]
    intro b hb
    obtain ⟨p, hp, rfl⟩ := List.mem_map.1 hb
    have := h1 p hp
    simp
    omega
  rw [h5]
  simp [h2]
def lastC (pre : List Bx) : Int := (pre.getLastD (0, 0, 0)).2.2
def Two (W : World) (B : Nat) (x : Rg) : Prop := W.heap[B]? = some (.cells #[.int .i64 x.1, .int .i64 x.2] 50 (0, 0))
theorem Two.c0 {W : World} {B : Nat} {x : Rg} (h : Two W B x) : W.cell? ⟨B, 0, none⟩ = some (.int .i64 x.1) := by simp [World.cell?, show W.heap[B]? = _ from h]
theorem Two.c1 {W : World} {B : Nat} {x : Rg} (h : Two W B x) : W.cell? ⟨B, 1, none⟩ = some (.int .i64 x.2) := by simp [World.cell?, show W.heap[B]? = _ from h]

def OfI (w : World) (v : Int) (s0 : Nat) (pre : List Bx) (W : World) : Prop :=
  ((((∀ p ∈ pre, v < p.2.1) ∧ Boxed W w.heap.size 3 (.int .i64 v)) ∧ Boxed W (w.heap.size + 1) 3 (.int .i64 0)) ∧ Boxed W (w.heap.size + 1 + 1) 4 (.bool false)) ∧ Below w.heap.size w W ∧ s0 ≤ W.heap.size
def OfX (w : World) (v : Int) (cc : Code) (pre : List Bx) (W : World) : Prop :=
  (((cc = .ret ∧ ∃ ini last, pre = ini ++ [last] ∧ (∀ p ∈ ini, v < p.2.1) ∧ last.2.1 ≤ v) ∧ Boxed W (w.heap.size + 1) 3 (.int .i64 (lastC pre))) ∧ Boxed W (w.heap.size + 1 + 1) 4 (.bool true)) ∧ Below w.heap.size w W
def OfA (w : World) (A : Option Addr) (len c : Nat) (v : Int) (x : Bx) (a' : Act) (W : World) : Prop :=
  ∃ B', w.heap.size + 3 < B' ∧ Two W B' x.2 ∧ a' = { tmps := #[.slice A len c, .int .i64 v, undef, .pointer (some ⟨w.heap.size, 0, none⟩), .pointer (some ⟨w.heap.size + 1, 0, none⟩), .pointer (some ⟨w.heap.size + 1 + 1, 0, none⟩), undef, .pointer (some ⟨B', 0, none⟩), .int .i64 v, .bool true, .bool false, .slice A len c, .func (.func 124) #[] #[.pointer (some ⟨w.heap.size + 1 + 1 + 1, 0, none⟩)], .int .i64 x.1, .agg #[.int .i64 x.2.1, .int .i64 x.2.2], undef, undef, undef, undef, undef, undef], defers := [] }
theorem ofI_own (w : World) (v : Int) (s0 B : Nat) (hB : w.heap.size ≤ B) : OwnFrom B (OfI w v s0) :=
  OwnFrom.and (OwnFrom.and (OwnFrom.and (OwnFrom.and (ownFrom_pure _ _) (Own.from (boxed_own _ _ _) _)) (Own.from (boxed_own _ _ _) _)) (Own.from (boxed_own _ _ _) _)) (OwnFrom.and (ownFrom_below (Nat.le_refl _) hB) (fun _ _ _ _ hs hg _ => Nat.le_trans hs hg.size))
theorem ofX_own (w : World) (v : Int) (B : Nat) (hB : w.heap.size ≤ B) (cc : Code) : OwnFrom B (OfX w v cc) :=
  OwnFrom.and (OwnFrom.and (OwnFrom.and (ownFrom_pure _ _) (Own.from (boxed_own _ _ _) _)) (Own.from (boxed_own _ _ _) _)) (ownFrom_below (Nat.le_refl _) hB)
theorem ofA_own (w : World) (A : Option Addr) (len c : Nat) (v : Int) (B : Nat) (x : Bx) (a' : Act) : OwnFrom B (fun (_ : Unit) W => OfA w A len c v x a' W) := fun _ X Y row hs hg hr => by
  obtain ⟨B', e1, e2, e3⟩ := hs
  refine ⟨B', e1, ?_, e3⟩
  have hlt : B' < X.heap.size := (Array.getElem?_eq_some_iff.1 e2).1
  exact (hg.block B' hlt (fun e => by
    obtain ⟨_, o, ho, hc⟩ := hr B' e.symm
    rw [show X.heap[B']? = _ from e2] at ho
    injection ho with ho
    subst ho
    simp [Obj.isCells] at hc)).trans e2

set_option maxRecDepth 100000 in
set_option maxHeartbeats 4000000 in
theorem of_in (n : Nat) (hn : 3 ≤ n) (bs : List Rg) (A : Option Addr) (c : Nat) (v : Int) (w : World) (hreach : bs.length ≤ 1000000) (hR : Reads w w.heap.size 2 A bs.length (rcells bs)) :
    CallsIn Fence.wide n Tryd.prog 122 #[.slice A bs.length c, .int .i64 v] w fun e W' => e = .returned (.tuple #[.int .i64 (ofN bs v), .bool (ofB bs v)]) ∧ Below w.heap.size w W' := by
  have h1 : 1 ≤ n := by omega
  have hro : Fence.wide.round = none := rfl
  have his : ∀ W, Calls Tryd.prog 96 #[.int .i64 v] W fun e w' => e = .returned (.bool (scalB v)) ∧ W = w' := fun W => (scalIs_any v W).mono (fun e w' ⟨a, b⟩ => ⟨a, b.symm⟩)
  obtain ⟨len, hlen⟩ : ∃ len, bs.length = len := ⟨_, rfl⟩
  cases hv : scalB v
  · rw [hv] at his
    have e0 : ofL bs v = none := by unfold ofL; rw [hv]; rfl
    rw [show ofN bs v = 0 by rw [ofN_L, e0]; rfl, show ofB bs v = false by rw [ofB_L, e0]; rfl]
    refine callsIn_of_wp_marks Tryd.func122 rfl trivial ?_ hro
    simp only [Tryd.ntmps122, List.size_toArray, List.length_cons, List.length_nil, Nat.reduceAdd, Nat.reduceSub, Array.replicate_succ, Array.replicate_zero, List.push_toArray, List.append_toArray, List.nil_append, List.cons_append]
    gi_wp2_with (refine ⟨trivial, ?_⟩; gi_at_call 96; refine (callsIn_wide.2 (his _)).mono ?_; rintro e w' ⟨rfl, rfl⟩)
    refine ⟨.tuple #[.int .i64 0, .bool false], ?_, rfl, (((Below.refl _ w).alloc (Nat.le_refl _) _).alloc (by simp) _).alloc (by simp; omega) _⟩
    simp [results, Tryd.f122, go_sem]
  · rw [hv] at his
    refine callsIn_of_wp_marks Tryd.func122 rfl trivial ?_ hro
    simp only [Tryd.ntmps122, List.size_toArray, List.length_cons, List.length_nil, Nat.reduceAdd, Nat.reduceSub, Array.replicate_succ, Array.replicate_zero, List.push_toArray, List.append_toArray, List.nil_append, List.cons_append]
    gi_wp2_with (first | (refine ⟨trivial, ?_⟩; gi_at_call 96; refine (callsIn_wide.2 (his _)).mono ?_; rintro e w' ⟨rfl, rfl⟩) | (refine ⟨trivial, ?_⟩; gi_at_call 123; refine (back_in Fence.wide (n - 1) trivial hro _ _ _ _).mono ?_; rintro e w' ⟨rfl, rfl⟩))
    have bV := (((Boxed.new w 3 (.int .i64 v)).alloc (.cells #[.int .i64 0] 3)).alloc (.cells #[.bool false] 4)).alloc (.cells #[.slice A len c] 22)
    have bR := ((Boxed.new (w.alloc (.cells #[.int .i64 v] 3)) 3 (.int .i64 0)).alloc (.cells #[.bool false] 4)).alloc (.cells #[.slice A len c] 22)
    have bB := (Boxed.new ((w.alloc (.cells #[.int .i64 v] 3)).alloc (.cells #[.int .i64 0] 3)) 4 (.bool false)).alloc (.cells #[.slice A len c] 22)
    have bS := Boxed.new (((w.alloc (.cells #[.int .i64 v] 3)).alloc (.cells #[.int .i64 0] 3)).alloc (.cells #[.bool false] 4)) 22 (.slice A len c)
    simp only [World.size_alloc] at bR bB bS
    have hB0 : Below w.heap.size w ((((w.alloc (.cells #[.int .i64 v] 3)).alloc (.cells #[.int .i64 0] 3)).alloc (.cells #[.bool false] 4)).alloc (.cells #[.slice A len c] 22)) := ((((Below.refl _ w).alloc (Nat.le_refl _) _).alloc (by simp) _).alloc (by simp; omega) _).alloc (by simp; omega) _
    have hsz : ((((w.alloc (.cells #[.int .i64 v] 3)).alloc (.cells #[.int .i64 0] 3)).alloc (.cells #[.bool false] 4)).alloc (.cells #[.slice A len c] 22)).heap.size = w.heap.size + 4 := by simp
    obtain ⟨W0, hW0⟩ : ∃ W0, (((w.alloc (.cells #[.int .i64 v] 3)).alloc (.cells #[.int .i64 0] 3)).alloc (.cells #[.bool false] 4)).alloc (.cells #[.slice A len c] 22) = W0 := ⟨_, rfl⟩
    rw [hW0] at bV bR bB bS hB0 hsz ⊢
    clear hW0
    have hR0 : Reads W0 w.heap.size 2 A bs.length (rcells bs) := hR.below hB0
    have hs4 : w.heap.size + 4 ≤ W0.heap.size := by omega
    clear hsz
    refine wpIn_rangeFunc_ownH hro h1 (gf := 124) (lb := #[.pointer (some ⟨w.heap.size + 1 + 1 + 1, 0, none⟩)]) rfl trivial (enters_of Tryd.func124 (by kernel_rfl) rfl)
      (back_stops Fence.wide (n - 1) trivial hro (by omega) (w.heap.size + 1 + 1 + 1) w.heap.size A c bs hreach W0 (by omega) (by omega) (by rw [hlen]; exact bS.cell) hR0) Kb.trans (fun W l o o' hl h _ _ => ⟨belowK_b (w := W0) (by omega) W l o o' hl h (by assumption) (by assumption), (grownBy_putObj' W l o').block _ (by have := (Array.getElem?_eq_some_iff.1 h).1; omega) (fun e => by injection e; omega)⟩) (Below.refl _ _) (fun _ => rfl)
      (OfI w v W0.heap.size) (OfX w v) (ofI_own w v _ _ (by omega)) (ofX_own w v _ (by omega))
      ⟨⟨⟨⟨by simp, bV⟩, bR⟩, bB⟩, hB0, Nat.le_refl _⟩
      (OfA w A len c v) (ofA_own w A len c v _)
      ?assign ?body ?done ?stop
    case assign =>
      rintro l pre x W K ⟨⟨⟨⟨hp, bV1⟩, bR1⟩, bB1⟩, hB1, hs1⟩ hK
      simp only [encB]
      gi_wp2
      have hKb1 : Kb w.heap.size (w.heap.size + 1 + 1 + 1) W (W.alloc (.cells #[.int .i64 x.2.1, .int .i64 x.2.2] 50)) := ⟨(Below.refl _ W).alloc hB1.size _, (World.grownBy_alloc W _ none).block _ (by omega) (by simp)⟩
      have hsA : W0.heap.size ≤ (W.alloc (.cells #[.int .i64 x.2.1, .int .i64 x.2.2] 50)).heap.size := Nat.le_trans hs1 (World.grownBy_alloc W (.cells #[.int .i64 x.2.1, .int .i64 x.2.2] 50) none).size
      exact hK _ _ ((KeepsOthers.alloc _ _).from _) hKb1 ⟨⟨⟨⟨hp, bV1.alloc _⟩, bR1.alloc _⟩, bB1.alloc _⟩, hB1.alloc hB1.size _, hsA⟩ ⟨W.heap.size, by omega, World.alloc_heap_new W _, rfl⟩
    case body =>
      rintro l pre x a' W hl _ ⟨⟨⟨⟨hp, bV1⟩, bR1⟩, bB1⟩, hB1, hs1⟩ ⟨B', hB', bX, rfl⟩ hlt
      have cV := bV1.cell
      have cR := bR1.cell
      have cB := bB1.cell
      have fR := bR1.frozen
      have fB := bB1.frozen
      have x0 := bX.c0
      have x1 := bX.c1
      by_cases hx : x.2.1 ≤ v
      · have bR2 := (bR1.set (.int .i64 x.2.2)).other (show w.heap.size + 1 ≠ w.heap.size + 1 + 1 by omega) (.bool true)
        have bB2 := (bB1.other (show w.heap.size + 1 + 1 ≠ w.heap.size + 1 by omega) (.int .i64 x.2.2)).set (.bool true)
        gi_wp2
        refine ⟨((KeepsOthers.setCell _ _ _).trans (KeepsOthers.setCell _ _ _)).from _, ⟨⟨⟨rfl, pre, x, rfl, hp, hx⟩, ?_⟩, bB2⟩, (hB1.setCell (p := ⟨w.heap.size + 1, 0, none⟩) (by simp) _).setCell (p := ⟨w.heap.size + 1 + 1, 0, none⟩) (by simp; omega) _⟩
        have e : lastC (pre ++ [x]) = x.2.2 := by simp [lastC]
        rw [e]
        exact bR2
      · gi_wp2
        exact ⟨KeepsFrom.refl _ _, Kb.refl _ _ _, ⟨⟨⟨fun p hp' => (List.mem_append.1 hp').elim (hp p) (fun e => by rw [List.mem_singleton] at e; subst e; omega), bV1⟩, bR1⟩, bB1⟩, hB1, hs1⟩
    case done =>
      rintro D ys W hD rfl ⟨⟨⟨⟨hne, bV1⟩, bR1⟩, bB1⟩, hB1, hs1⟩ hK
      have cR := bR1.cell
      have cB := bB1.cell
      have fR := bR1.frozen
      have fB := bB1.frozen
      have e0 : ofL bs v = none := by unfold ofL; rw [hv, if_pos rfl]; exact of_none hne
      have eN : ofN bs v = 0 := by rw [ofN_L, e0]; rfl
      have eB : ofB bs v = false := by rw [ofB_L, e0]; rfl
      have bR2 := (bR1.set (.int .i64 0)).other (show w.heap.size + 1 ≠ w.heap.size + 1 + 1 by omega) (.bool false)
      have bB2 := (bB1.other (show w.heap.size + 1 + 1 ≠ w.heap.size + 1 by omega) (.int .i64 0)).set (.bool false)
      have hK' := ((KeepsOthers.setCell W ⟨w.heap.size + 1, 0, none⟩ (.int .i64 0)).trans (KeepsOthers.setCell _ ⟨w.heap.size + 1 + 1, 0, none⟩ (.bool false))).same D _ hK rfl
      gi_wp2
      refine ⟨by simp, .inl ⟨_, _, rfl, run_takeDeferred hK', ?_⟩⟩
      have c4 := cell_kept bR2.cell (grownBy_putObj' _ D (.deferred none)) (fun r e => by cases e; exact ⟨_, hK', rfl⟩)
      have c5 := cell_kept bB2.cell (grownBy_putObj' _ D (.deferred none)) (fun r e => by cases e; exact ⟨_, hK', rfl⟩)
      refine ⟨.tuple #[.int .i64 0, .bool false], ?_, by rw [eN, eB], ((hB1.setCell (p := ⟨w.heap.size + 1, 0, none⟩) (by simp) _).setCell (p := ⟨w.heap.size + 1 + 1, 0, none⟩) (by simp; omega) _).trans (belowK_b (w := w) (Nat.le_refl _) _ D _ _ (by omega) hK' rfl rfl)⟩
      simp [results, Tryd.f122, go_sem, c4, c5]
    case stop =>
      rintro D cc pre W hD ⟨k, hk, rfl⟩ ⟨⟨⟨⟨rfl, ini, last, e1, e2, e3⟩, bR1⟩, bB1⟩, hB1⟩ hK
      have e0 : ofL bs v = some last.2 := by unfold ofL; rw [hv, if_pos rfl]; exact of_some hk e1 e2 e3
      have el : lastC (upto (bk bs) k) = last.2.2 := by rw [e1]; simp [lastC]
      have eN : ofN bs v = last.2.2 := by rw [ofN_L, e0]; rfl
      have eB : ofB bs v = true := by rw [ofB_L, e0]; rfl
      rw [el] at bR1
      gi_wp2
      refine ⟨by simp, .inl ⟨_, _, rfl, run_takeDeferred hK, ?_⟩⟩
      have c4 := cell_kept bR1.cell (grownBy_putObj' _ D (.deferred none)) (fun r e => by cases e; exact ⟨_, hK, rfl⟩)
      have c5 := cell_kept bB1.cell (grownBy_putObj' _ D (.deferred none)) (fun r e => by cases e; exact ⟨_, hK, rfl⟩)
      refine ⟨.tuple #[.int .i64 last.2.2, .bool true], ?_, by rw [eN, eB], hB1.trans (belowK_b (w := w) (Nat.le_refl _) W D _ _ (by omega) hK rfl rfl)⟩
      simp [results, Tryd.f122, go_sem, c4, c5]
theorem of_n (bs : List Rg) (n : Nat) (hl : bs.length = n) (A : Option Addr) (c : Nat) (v : Int) (w : World) (hR : Reads w w.heap.size 2 A n (rcells bs)) (hn : n ≤ 1000000) :
    Calls Tryd.prog 122 #[.slice A n c, .int .i64 v] w fun e w' => e = .returned (.tuple #[.int .i64 (ofN bs v), .bool (ofB bs v)]) ∧ Below w.heap.size w w' := by
  subst hl
  exact callsIn_wide.1 (of_in 3 (Nat.le_refl _) bs A c v w hn hR)
end Go.Proofs.YtmhfgncffkfelaaDoor

/- What begun, classOf, step and breaks of package walk return. -/
namespace Go.Proofs.YtmhfgncffkfelaaDoor
open Go.RowKit Go.BigFrame Go.Maps
set_option linter.unusedVariables false
set_option maxRecDepth 4000
set_option linter.unusedSimpArgs false

theorem lawR : Keyed Tryd.prog 21 := int_keyed Tryd.underlying21
theorem undM : Tryd.prog.underlying 149 = some (.map 21 3) := by kernel_rfl
theorem und3i : Tryd.prog.underlying 3 = some (.int .i64) := by kernel_rfl
theorem zeroI3 (w : World) : (zeroValue 3).run Tryd.prog w = .ok (.int .i64 0) w := by kernel_rfl
/-- What a rune reads as. -/
def kr (r : Int) : Lit := .int .i32 r
def R32 (r : Int) : Prop := -2147483648 ≤ r ∧ r ≤ 2147483647
theorem kr_wf {r : Int} (h : R32 r) : (Lit.int .i32 r).wf = true := by
  obtain ⟨h1, h2⟩ := h
  simp [Lit.wf, IntKind.min, IntKind.max, IntKind.bits, IntKind.signed]
  omega
theorem kr_key {r : Int} (h : R32 r) : keyOf Tryd.prog 21 (.int .i32 r) = some (kr r) := keyOf_int_mk Tryd.underlying21 (kr_wf h)
theorem wf64 {c : Int} (h : -1000000 ≤ c ∧ c ≤ 1000000) : (Lit.int .i64 c).wf = true := WalkArith.wf_i64 (by omega)
/-- A map that holds classes of scalars. -/
structure MC (bd : List Rg) (D : DataW Unit) : Prop where
  tidy : Tidy D
  ok : ∀ r : Int, R32 r → Maps.has D (kr r) = true → ofB bd r = true ∧ ∀ z, D.atKey (kr r) z = .lit (.int .i64 (ofN bd r))
theorem MC.start (bd : List Rg) : MC bd (.map []) := ⟨tidy_empty, fun r _ h => by simp [Maps.has] at h⟩
theorem MC.put {bd : List Rg} {D : DataW Unit} (h : MC bd D) {r : Int} (hr : R32 r) (hb : ofB bd r = true) : MC bd (D.put (kr r) (.lit (.int .i64 (ofN bd r)))) := by
  have hk : WideAt.IsKeyLit (kr r) := lawR.key (kr_key hr)
  refine ⟨h.tidy.put hk _, fun x hx hh => ?_⟩
  by_cases e : x = r
  · subst e
    exact ⟨hb, fun z => atKey_put_same h.tidy.isMap hk _ z⟩
  · have hne : kr x ≠ kr r := fun e' => e (by unfold kr at e'; injection e')
    rw [has_put_other hne] at hh
    obtain ⟨h1, h2⟩ := h.ok x hx hh
    exact ⟨h1, fun z => by rw [atKey_put_other hne]; exact h2 z⟩
/-- A walker in block g whose map is block m; k bounds the map. -/
structure Wkr (base : Nat) (w : World) (T : TV) (g m k s : Nat) : Prop where
  gb : base ≤ g
  glt : g < w.heap.size
  c0 : w.cell? ⟨g, 0, none⟩ = some (.int .i64 T.cl)
  c1 : w.cell? ⟨g, 1, none⟩ = some (.slice T.a1 T.n1 T.c1)
  c2 : w.cell? ⟨g, 2, none⟩ = some (.slice T.a2 T.n2 T.c2)
  c3 : w.cell? ⟨g, 3, none⟩ = some (.slice T.a3 T.n3 T.c3)
  c4 : w.cell? ⟨g, 4, none⟩ = some (.map (some m))
  c5 : w.cell? ⟨g, 5, none⟩ = some (.int .i64 (s : Int))
  fz : w.frozen? ⟨g, 5, none⟩ = false
  mb : base ≤ m
  gm : g ≠ m
  D : ∃ D : DataW Unit, w.ownsMap Tryd.prog 21 (plainElem Tryd.prog 3) m k D ∧ MC T.bd D
theorem Wkr.on {base : Nat} {w w' : World} {T : TV} {g m k s : Nat} (h : Wkr base w T g m k s) (b : Below w.heap.size w w') : Wkr base w' T g m k s := by
  obtain ⟨D, hD, hM⟩ := h.D
  refine ⟨h.gb, Nat.lt_of_lt_of_le h.glt b.size, kept_cell b h.c0, kept_cell b h.c1, kept_cell b h.c2, kept_cell b h.c3, kept_cell b h.c4, kept_cell b h.c5, (b.frozen (p := ⟨g, 5, none⟩) h.glt).trans h.fz, h.mb, h.gm, D, ?_, hM⟩
  exact hD.kept (row := none) ⟨b.os, b.tape, b.output, b.size, fun i hi _ => b.block i hi⟩ (by simp)
theorem Wkr.more {base : Nat} {w : World} {T : TV} {g m k k' s : Nat} (h : Wkr base w T g m k s) (hk : k ≤ k') : Wkr base w T g m k' s := by
  obtain ⟨D, hD, hM⟩ := h.D
  exact ⟨h.gb, h.glt, h.c0, h.c1, h.c2, h.c3, h.c4, h.c5, h.fz, h.mb, h.gm, D, hD.mono hk, hM⟩
/-- The map was written. -/
theorem Wkr.put {base : Nat} {w w' : World} {T : TV} {g m k s : Nat} (h : Wkr base w T g m k s) {D : DataW Unit} (hD : w'.ownsMap Tryd.prog 21 (plainElem Tryd.prog 3) m (k + 1) D) (hM : MC T.bd D) (b : w.grownBy w' (some m)) : Wkr base w' T g m (k + 1) s := by
  have hb : w'.heap[g]? = w.heap[g]? := b.block g h.glt (fun e => h.gm (Option.some.inj e))
  have hc : ∀ i, w'.cell? ⟨g, i, none⟩ = w.cell? ⟨g, i, none⟩ := fun i => World.cell?_of_block (a := ⟨g, i, none⟩) hb
  exact ⟨h.gb, Nat.lt_of_lt_of_le h.glt b.size, (hc 0).trans h.c0, (hc 1).trans h.c1, (hc 2).trans h.c2, (hc 3).trans h.c3, (hc 4).trans h.c4, (hc 5).trans h.c5, (by rw [World.frozen?_of_block (a := ⟨g, 5, none⟩) hb]; exact h.fz), h.mb, h.gm, D, hD, hM⟩
/-- The state was written. -/
theorem Wkr.goes {base : Nat} {w : World} {T : TV} {g m k s : Nat} (h : Wkr base w T g m k s) (s' : Nat) : Wkr base (w.setCell ⟨g, 5, none⟩ (.int .i64 (s' : Int))) T g m k s' := by
  obtain ⟨D, hD, hM⟩ := h.D
  have hc : ∀ i u, i ≠ 5 → w.cell? ⟨g, i, none⟩ = some u → (w.setCell ⟨g, 5, none⟩ (.int .i64 (s' : Int))).cell? ⟨g, i, none⟩ = some u := fun i u hi hu => by
    exact (World.cell?_setCell_other w ⟨g, 5, none⟩ ⟨g, i, none⟩ _ (fun e => hi (by injection e with _ e2; exact e2.symm))).trans hu
  refine ⟨h.gb, by simpa using h.glt, hc 0 _ (by omega) h.c0, hc 1 _ (by omega) h.c1, hc 2 _ (by omega) h.c2, hc 3 _ (by omega) h.c3, hc 4 _ (by omega) h.c4, ?_, ?_, h.mb, h.gm, D, hD.setCell (fun e => h.gm e.symm) _, hM⟩
  · exact World.cell?_setCell_same w ⟨g, 5, none⟩ _ h.c5
  · rw [World.frozen?_setCell]; exact h.fz
/-- Rows that were laid behind the walker are as they were. -/
def KR (g m : Nat) (w w' : World) : Prop := ∀ (base : Nat) (e : TypeId) (size : Nat) (v : Value) (n : Nat) (xs : List Value), g < base → m < base → w.ownsRow base e size v n xs → w'.ownsRow base e size v n xs
theorem KR.refl (g m : Nat) (w : World) : KR g m w w := fun _ _ _ _ _ _ _ _ h => h
theorem KR.trans {g m : Nat} {w w' w'' : World} (h : KR g m w w') (k : KR g m w' w'') : KR g m w w'' := fun _ _ _ _ _ _ h1 h2 h3 => k _ _ _ _ _ _ h1 h2 (h _ _ _ _ _ _ h1 h2 h3)
theorem KR.below {g m : Nat} {w w' : World} (b : Below w.heap.size w w') : KR g m w w' := fun _ _ _ _ _ _ _ _ h => own_below h b
theorem KR.grown {g m : Nat} {w w' : World} (b : w.grownBy w' (some m)) : KR g m w w' := fun base e size v n xs h1 h2 h => h.kept b (by
  cases hv : v.ownBlock with
  | none => exact .inl rfl
  | some k => exact .inr (fun e => by injection e with e; have := (h.lt k hv).1; omega))
theorem KR.set (g m : Nat) (w : World) (i : Nat) (u : Value) : KR g m w (w.setCell ⟨g, i, none⟩ u) := fun base e size v n xs h1 h2 h => ownsRow_setCell_below h h1 u
/-- Another row was written. -/
theorem Wkr.grown {base : Nat} {w w' : World} {T : TV} {g m k s : Nat} (h : Wkr base w T g m k s) {row : Option Nat} (b : w.grownBy w' row) (hr : ∀ j, row = some j → j ≠ g ∧ j ≠ m) : Wkr base w' T g m k s := by
  obtain ⟨D, hD, hM⟩ := h.D
  have hb : w'.heap[g]? = w.heap[g]? := b.block g h.glt (fun e => (hr g e.symm).1 rfl)
  have hc : ∀ i, w'.cell? ⟨g, i, none⟩ = w.cell? ⟨g, i, none⟩ := fun i => World.cell?_of_block (a := ⟨g, i, none⟩) hb
  refine ⟨h.gb, Nat.lt_of_lt_of_le h.glt b.size, (hc 0).trans h.c0, (hc 1).trans h.c1, (hc 2).trans h.c2, (hc 3).trans h.c3, (hc 4).trans h.c4, (hc 5).trans h.c5, (by rw [World.frozen?_of_block (a := ⟨g, 5, none⟩) hb]; exact h.fz), h.mb, h.gm, D, hD.kept b (fun e => (hr m e.symm).2 rfl), hM⟩
def OutC (bs : List Rg) (v : Int) (base : Nat) (T : TV) (g m k s : Nat) (w : World) (e : Ending) (w' : World) : Prop := e = .returned (.tuple #[.int .i64 (ofN bs v), .bool (ofB bs v)]) ∧ Below base w w' ∧ Wkr base w' T g m (k + 1) s ∧ KR g m w w'
set_option maxHeartbeats 4000000 in
theorem classOf_any (base : Nat) (T : TV) (g m k s : Nat) (v : Int) (w : World) (hW : Wkr base w T g m k s) (hk : k ≤ 100000) (hOf : ∀ W, Below w.heap.size w W → Calls Tryd.prog 122 #[.slice T.a1 T.n1 T.c1, .int .i64 v] W fun e w' => e = .returned (.tuple #[.int .i64 (ofN T.bd v), .bool (ofB T.bd v)]) ∧ Below W.heap.size W w') (hc : ∀ u, -1000 ≤ ofN T.bd u ∧ ofN T.bd u ≤ 1000) (hbz : base ≤ w.heap.size) :
    Calls Tryd.prog 119 #[.pointer (some ⟨g, 0, none⟩), .int .i64 v] w (OutC T.bd v base T g m k s w) := by
  have HO := Lib.hid hOf
  have HW := Lib.hid hW
  by_cases hr : R32 v
  · have hr' := hr
    obtain ⟨h0, h1⟩ := hr'
    obtain ⟨D, hD, hM⟩ := hW.D
    have HD := Lib.hid hD
    have HM := Lib.hid hM
    have HK := Lib.hid (kr_key hr)
    have HR := Lib.hid hr
    have c0 := hW.c0
    have c1 := hW.c1
    have c4 := hW.c4
    clear hW hD hM hOf hr
    go_enter Tryd.func119, Tryd.ntmps119
    go_wp2_with (at_lookup; refine wpList_lookup_own_ok_int _ rfl _ _ 149 rfl 21 3 .i64 lawR undM und3i (zeroI3 _) m _ D rfl HD.out _ _ rfl HK.out ?_)
    intro c hat hwc
    clear hwc
    cases hh : Maps.has D (kr v)
    case true =>
      obtain ⟨h1, h2⟩ := HM.out.ok v HR.out hh
      rw [h2] at hat
      injection hat with hat
      injection hat with _ hat
      subst hat
      have HB := Lib.hid h1
      clear h1 h2 hh
      go_wp2_with fail
      go_ret2
      exact ⟨by rw [HB.out]; rfl, Below.refl _ _, HW.out.more (by omega), KR.refl _ _ _⟩
    clear hat hh
    go_wp2_with fail
    refine (HO.out _ (Below.refl _ _)).mono ?_
    rintro e w1 ⟨rfl, g1⟩
    have HW1 := Lib.hid (HW.out.on g1)
    have HD1 : Hid (w1.ownsMap Tryd.prog 21 (plainElem Tryd.prog 3) m k D) := Lib.hid (HD.out.kept (row := none) ⟨g1.os, g1.tape, g1.output, g1.size, fun i hi _ => g1.block i hi⟩ (by simp))
    have HB1 := Lib.hid ((Below.refl base w).trans (g1.mono hbz))
    have c4 := kept_cell g1 c4
    have HCc := Lib.hid (hc v)
    have HKr : Hid (KR g m w w1) := Lib.hid (KR.below g1)
    cases hb : ofB T.bd v
    case false =>
      have HBf := Lib.hid hb
      clear hb g1 hc
      go_wp2_with fail
      go_ret2
      exact ⟨by rw [HBf.out]; rfl, HB1.out, HW1.out.more (by omega), HKr.out⟩
    have HBt := Lib.hid hb
    have hel : plainElem (H := Unit) Tryd.prog 3 (.int .i64 (ofN T.bd v)) = some (.lit (.int .i64 (ofN T.bd v)), []) := plainElem_int und3i (wf64 (by have := HCc.out; omega))
    have HEl := Lib.hid hel
    clear hb g1 hc hel
    go_wp2_with (at_mapUpdate; refine wpList_mapUpdate_own _ rfl _ _ _ 149 rfl 21 3 lawR undM (plainElem (H := Unit) Tryd.prog 3) m _ D rfl HD1.out (by unfold maxLen; omega) _ _ _ rfl rfl HK.out _ [] HEl.out ?_; intro w3 hown3 hgrow3)
    have HW3 := Lib.hid (HW1.out.put hown3 (HM.out.put HR.out HBt.out) hgrow3)
    have HB3 := Lib.hid (HB1.out.grown hgrow3 (Nat.le_trans hbz HB1.out.size) (fun j hj => by cases hj; exact HW1.out.mb))
    go_ret2
    exact ⟨by rw [HBt.out]; rfl, HB3.out, HW3.out, HKr.out.trans (KR.grown hgrow3)⟩
  · have hw : (RowKit.wrap64 (RowKit.wrap32 v) != v) = true := by
      rw [bne_iff_ne]
      unfold RowKit.wrap64 RowKit.wrap32
      unfold R32 at hr
      omega
    have hb : ofB T.bd v = false := ofB_no (by
      cases e : scalB v with
      | false => rfl
      | true =>
        have := (scalB_iff v).1 e
        unfold R32 at hr
        omega)
    have hn := ofN_no hb
    have HB := Lib.hid (And.intro hb hn)
    clear hr hb hn hW hOf
    go_enter Tryd.func119, Tryd.ntmps119
    go_wp2_with fail
    go_ret2
    exact ⟨by rw [HB.out.1, HB.out.2]; rfl, Below.refl _ _, HW.out.more (by omega), KR.refl _ _ _⟩
/-- A table's parts where they lie: a break, a row of Next. -/
theorem tv_brk {T : TV} {V : World} (hT : T.ok V) (hC : CntV T.tb) : ∃ bb ob, T.a3 = some ⟨bb, ob, none⟩ ∧ T.n3 = T.n2 ∧ ∀ a < T.n2, V.cell? ⟨bb, ob + a, none⟩ = some (.bool (brkN T.tb a)) := by
  have r3 := hT.r3
  have h3 : T.br.length = T.n3 := r3.1
  have e3 : T.n3 = T.n2 := by have := hC.b1; unfold TV.tb at this; simp only [listsOf_len] at this; have := hT.r2.1; omega
  have n1 : 1 ≤ T.n2 := by have := hC.n1; unfold TV.tb at this; simp only [listsOf_len] at this; have := hT.r2.1; omega
  obtain ⟨bb, ob, hA, _, _⟩ := r3.at (k := 0) (by omega)
  refine ⟨bb, ob, hA, e3, fun a ha => ?_⟩
  obtain ⟨bb', ob', hA', _, hc⟩ := r3.at (k := a) (by omega)
  rw [hA] at hA'
  injection hA' with hA'
  injection hA' with e1 e2
  subst e1; subst e2
  rw [hc, brkN_at]
theorem tv_nxt {T : TV} {V : World} (hT : T.ok V) (hC : CntV T.tb) (hN : nextB T.tb = true) : ∃ bb ob, T.a2 = some ⟨bb, ob, none⟩ ∧ ∀ a < T.n2, ∃ rb ro rc, V.cell? ⟨bb, ob + a, none⟩ = some (.slice (some ⟨rb, ro, none⟩) T.cl.toNat rc) ∧ ∀ c < T.cl.toNat, V.cell? ⟨rb, ro + c, none⟩ = some (.int .i64 (nxN T.tb a c : Nat)) := by
  have r2 := hT.r2
  have l2 := hT.r2.1
  have n1 : 1 ≤ T.n2 := by have := hC.n1; unfold TV.tb at this; simp only [listsOf_len] at this; omega
  obtain ⟨bb, ob, hA, _, _⟩ := r2.at (k := 0) (by omega)
  refine ⟨bb, ob, hA, fun a ha => ?_⟩
  have al : a < T.hs.length := by omega
  obtain ⟨bb', ob', hA', _, hc, hri, _⟩ := r2.at al
  rw [hA] at hA'
  injection hA' with hA'
  injection hA' with e1 e2
  subst e1; subst e2
  have hrl : (T.hs[a].l.length : Int) = T.tb.cl := hC.rw _ (List.mem_map.2 ⟨_, List.getElem_mem al, rfl⟩)
  have hrn := hri.1
  have hcl : T.tb.cl = T.cl := rfl
  have hnn : T.hs[a].n = T.cl.toNat := by omega
  have c1 := hC.c1
  obtain ⟨rb, ro, hra, _, _⟩ := hri.at (k := 0) (by omega)
  refine ⟨rb, ro, T.hs[a].c, ?_, fun c hcc => ?_⟩
  · rw [hc, hra, hnn]
  · have cl' : c < T.hs[a].l.length := by omega
    obtain ⟨rb', ro', hra', _, hcell⟩ := hri.at cl'
    rw [hra] at hra'
    injection hra' with hra'
    injection hra' with e1 e2
    subst e1; subst e2
    rw [hcell]
    have e := nxI_at (T := T) al c
    rw [getD_ix cl'] at e
    have hb := nextB_all hN (List.mem_map.2 ⟨_, List.getElem_mem al, rfl⟩) (List.getElem_mem cl')
    have : T.hs[a].l[c] = ((nxN T.tb a c : Nat) : Int) := by unfold nxN; rw [e]; omega
    rw [this]
set_option maxHeartbeats 4000000 in
theorem breaks_any (base : Nat) (T : TV) (g m k s : Nat) (w : World) (hW : Wkr base w T g m k s) (hT : T.ok w) (hV : Vd T.tb) (hs : s < T.n2) :
    Calls Tryd.prog 113 #[.pointer (some ⟨g, 0, none⟩)] w fun e w' => e = .returned (.bool (brkN T.tb s)) ∧ ∃ q, w' = w.drewN q := by
  obtain ⟨bb, ob, hA, e3, hB⟩ := tv_brk hT ((cntV_iff _).1 hV.cnt)
  have hb := hB s hs
  have c3 := hW.c3
  have c5 := hW.c5
  rw [hA] at c3
  have hn : s < T.n3 := by omega
  generalize brkN T.tb s = q at *
  clear hW hT hV hB hA
  go_enter Tryd.func113, Tryd.ntmps113
  go_wp2_with fail
  go_quiet (fail)
  go_wp2_with fail
  go_ret
  exact ⟨rfl, _, rfl⟩
def OutS (b : Bool) (base : Nat) (T : TV) (g m k s s' : Nat) (w : World) (e : Ending) (w' : World) : Prop := e = .returned (.bool b) ∧ Below base w w' ∧ (∃ s2, Wkr base w' T g m k s2 ∧ (b = true → s2 = s')) ∧ KR g m w w'
/-- Of by a table's bands, wherever it is asked. -/
theorem ofT_any (T : TV) (W0 : World) (hT : T.ok W0) (hV : Vd T.tb) (v : Int) (W : World) (g : Below W0.heap.size W0 W) : Calls Tryd.prog 122 #[.slice T.a1 T.n1 T.c1, .int .i64 v] W fun e w' => e = .returned (.tuple #[.int .i64 (ofN T.bd v), .bool (ofB T.bd v)]) ∧ Below W.heap.size W w' := by
  have r1 := (hT.on g).r1
  exact of_n T.bd T.n1 r1.1 T.a1 T.c1 v W r1.2 (by have h1 := ((cntV_iff _).1 hV.cnt).k2; have h2 : T.tb.bd.length = T.n1 := hT.r1.1; omega)
set_option maxHeartbeats 4000000 in
theorem step_any (T : TV) (W0 : World) (hT : T.ok W0) (hV : Vd T.tb) (g m k s : Nat) (v : Int) (w : World) (hB : Below W0.heap.size W0 w) (hW : Wkr W0.heap.size w T g m k s) (hk : k ≤ 100000) (hs : s < T.n2) :
    Calls Tryd.prog 114 #[.pointer (some ⟨g, 0, none⟩), .int .i64 v] w (OutS (ofB T.bd v) W0.heap.size T g m (k + 1) s (stpW T.tb s v) w) := by
  have hof := fun u => ofN_lt hV u
  have hcc := ((cntV_iff _).1 hV.cnt).c2
  have hco := classOf_any W0.heap.size T g m k s v w hW hk (fun W h => ofT_any T W0 hT hV v W (hB.trans (h.mono hB.size))) (fun u => by have := hof u; have e : T.tb.bd = T.bd := rfl; rw [e] at this; omega) hB.size
  obtain ⟨hc0, hc1⟩ := hof v
  obtain ⟨c, hc⟩ : ∃ c : Nat, ofN T.tb.bd v = (c : Int) := ⟨(ofN T.tb.bd v).toNat, by omega⟩
  have hst : stpW T.tb s v = nxN T.tb s c := by unfold stpW; rw [hc]; rfl
  have hcl : T.tb.cl = T.cl := rfl
  have hcK : c < T.cl.toNat := by omega
  have HN : Hid (∀ V, Below W0.heap.size W0 V → ∃ bb ob, T.a2 = some ⟨bb, ob, none⟩ ∧ ∃ rb ro rc, V.cell? ⟨bb, ob + s, none⟩ = some (.slice (some ⟨rb, ro, none⟩) T.cl.toNat rc) ∧ V.cell? ⟨rb, ro + c, none⟩ = some (.int .i64 (nxN T.tb s c : Nat))) := Lib.hid (fun V h => by
    obtain ⟨bb, ob, hA, hn⟩ := tv_nxt (hT.on h) ((cntV_iff _).1 hV.cnt) hV.nxt
    obtain ⟨rb, ro, rc, h1, h2⟩ := hn s hs
    exact ⟨bb, ob, hA, rb, ro, rc, h1, h2 c hcK⟩)
  have HC := Lib.hid hco
  have HB := Lib.hid hB
  have HW := Lib.hid hW
  have hc' : ofN T.bd v = (c : Int) := hc
  obtain ⟨q, hq⟩ : ∃ q, ofB T.bd v = q := ⟨_, rfl⟩
  rw [hst, hq]
  have HQ := Lib.hid hq
  have HCn := Lib.hid hc'
  clear hq hc'
  clear hco hB hW hof hcc hc0 hc1 hc hst hcl hT hV
  go_enter Tryd.func114, Tryd.ntmps114
  go_wp2_with fail
  refine HC.out.mono ?_
  rintro e w1 ⟨rfl, g1, hW1, hkr⟩
  have HKr := Lib.hid hkr
  clear hkr
  rw [HCn.out, HQ.out]
  have HB1 := Lib.hid (HB.out.trans g1)
  have HG := Lib.hid g1
  have HW1 := Lib.hid hW1
  clear g1 hW1 HC HB HW HQ HCn
  cases q
  case false =>
    go_wp2_with fail
    go_ret
    exact ⟨rfl, HG.out, ⟨s, HW1.out, fun h => by cases h⟩, HKr.out⟩
  have HWn := Lib.hid (HW1.out.goes (nxN T.tb s c))
  have c2 := HW1.out.c2
  have c5 := HW1.out.c5
  have fz := HW1.out.fz
  obtain ⟨bb, ob, hA, rb, ro, rc, x1, x2⟩ := HN.out w1 HB1.out
  rw [hA] at c2
  generalize nxN T.tb s c = y at *
  have HGg := Lib.hid HW1.out.gb
  generalize hK : T.cl.toNat = K at *
  clear HN hA hK HB1 HW1
  go_wp2_with fail
  go_region
  go_wp2_with fail
  go_ret
  exact ⟨rfl, Below.drew (HG.out.setCell (p := ⟨g, 5, none⟩) HGg.out _), ⟨y, HWn.out.on (Below.drew (Below.refl _ _)), fun _ => rfl⟩, HKr.out.trans ((KR.set _ _ _ _ _).trans (KR.below (Below.drew (Below.refl _ _))))⟩
theorem store6 {w0 w : World} {B g : Nat} {o0 o1 o2 o3 o4 o5 : Value} (v0 v1 v2 v3 v4 v5 : Value) (hb : Below B w0 w) (hBg : B ≤ g) (p0 : w.cell? ⟨g, 0, none⟩ = some o0) (p1 : w.cell? ⟨g, 1, none⟩ = some o1) (p2 : w.cell? ⟨g, 2, none⟩ = some o2) (p3 : w.cell? ⟨g, 3, none⟩ = some o3) (p4 : w.cell? ⟨g, 4, none⟩ = some o4) (p5 : w.cell? ⟨g, 5, none⟩ = some o5) :
    ∃ W, W = (((((w.setCell ⟨g, 0, none⟩ v0).setCell ⟨g, 1, none⟩ v1).setCell ⟨g, 2, none⟩ v2).setCell ⟨g, 3, none⟩ v3).setCell ⟨g, 4, none⟩ v4).setCell ⟨g, 5, none⟩ v5 ∧ Below B w0 W ∧ W.heap.size = w.heap.size ∧ W.cell? ⟨g, 0, none⟩ = some v0 ∧ W.cell? ⟨g, 1, none⟩ = some v1 ∧ W.cell? ⟨g, 2, none⟩ = some v2 ∧ W.cell? ⟨g, 3, none⟩ = some v3 ∧ W.cell? ⟨g, 4, none⟩ = some v4 ∧ W.cell? ⟨g, 5, none⟩ = some v5 ∧
      (∀ a, W.frozen? a = w.frozen? a) ∧ ∀ b, b ≠ g → W.heap[b]? = w.heap[b]? := by
  refine ⟨_, rfl, (((((hb.setCell (p := ⟨g, 0, none⟩) hBg _).setCell (p := ⟨g, 1, none⟩) hBg _).setCell (p := ⟨g, 2, none⟩) hBg _).setCell (p := ⟨g, 3, none⟩) hBg _).setCell (p := ⟨g, 4, none⟩) hBg _).setCell (p := ⟨g, 5, none⟩) hBg _, by simp, ?_, ?_, ?_, ?_, ?_, ?_, fun a => by simp only [World.frozen?_setCell], fun b hne => ?_⟩
  · simp [go_sem, p0, p1, p2, p3, p4, p5]
  · simp [go_sem, p0, p1, p2, p3, p4, p5]
  · simp [go_sem, p0, p1, p2, p3, p4, p5]
  · simp [go_sem, p0, p1, p2, p3, p4, p5]
  · simp [go_sem, p0, p1, p2, p3, p4, p5]
  · simp [go_sem, p0, p1, p2, p3, p4, p5]
  · rw [RowKit.Below.heap_setCell _ _ _ _ hne, RowKit.Below.heap_setCell _ _ _ _ hne, RowKit.Below.heap_setCell _ _ _ _ hne, RowKit.Below.heap_setCell _ _ _ _ hne, RowKit.Below.heap_setCell _ _ _ _ hne, RowKit.Below.heap_setCell _ _ _ _ hne]
/-- A walker's cells in a new block, nothing yet. -/
structure Res6 (g : Nat) (w : World) : Prop where
  lt : g < w.heap.size
  c0 : w.cell? ⟨g, 0, none⟩ = some (.int .i64 0)
  c1 : w.cell? ⟨g, 1, none⟩ = some (.slice none 0 0)
  c2 : w.cell? ⟨g, 2, none⟩ = some (.slice none 0 0)
  c3 : w.cell? ⟨g, 3, none⟩ = some (.slice none 0 0)
  c4 : w.cell? ⟨g, 4, none⟩ = some (.map none)
  c5 : w.cell? ⟨g, 5, none⟩ = some (.int .i64 0)
  f0 : w.frozen? ⟨g, 0, none⟩ = false
  f1 : w.frozen? ⟨g, 1, none⟩ = false
  f2 : w.frozen? ⟨g, 2, none⟩ = false
  f3 : w.frozen? ⟨g, 3, none⟩ = false
  f4 : w.frozen? ⟨g, 4, none⟩ = false
  f5 : w.frozen? ⟨g, 5, none⟩ = false
theorem Res6.on {g : Nat} {w w' : World} (h : Res6 g w) (b : Below w.heap.size w w') : Res6 g w' :=
  ⟨Nat.lt_of_lt_of_le h.lt b.size, kept_cell b h.c0, kept_cell b h.c1, kept_cell b h.c2, kept_cell b h.c3, kept_cell b h.c4, kept_cell b h.c5, (b.frozen h.lt).trans h.f0, (b.frozen h.lt).trans h.f1, (b.frozen h.lt).trans h.f2, (b.frozen h.lt).trans h.f3, (b.frozen h.lt).trans h.f4, (b.frozen h.lt).trans h.f5⟩
theorem res6_new (w : World) : Res6 w.heap.size (w.alloc (.cells #[.int .i64 0, .slice none 0 0, .slice none 0 0, .slice none 0 0, .map none, .int .i64 0] 151)) := ⟨by simp, by simp, by simp, by simp, by simp, by simp, by simp, by simp, by simp, by simp, by simp, by simp, by simp⟩
def OutBg (T : TV) (w : World) (e : Ending) (w' : World) : Prop := ∃ m, e = .returned (.tuple #[.agg #[.int .i64 T.cl, .slice T.a1 T.n1 T.c1, .slice T.a2 T.n2 T.c2, .slice T.a3 T.n3 T.c3, .map (some m), .int .i64 0], .bool true]) ∧ w.heap.size ≤ m ∧ m < w'.heap.size ∧ w'.ownsMap Tryd.prog 21 (plainElem (H := Unit) Tryd.prog 3) m 0 (.map []) ∧ Below w.heap.size w w'
theorem infoW : (Tryd.prog.info? 151).map (fun i => (i.zero, i.size, i.bytes)) = some (some (.agg #[.int .i64 0, .slice none 0 0, .slice none 0 0, .slice none 0 0, .map none, .int .i64 0]), 6, 96) := by kernel_rfl
set_option maxHeartbeats 4000000 in
theorem begun_no (T : TV) (w : World) (hT : T.ok w) (hV : errV T.tb ≠ 0) :
    Calls Tryd.prog 112 #[T.v] w fun e w' => e = .returned (.tuple #[.agg #[.int .i64 0, .slice none 0 0, .slice none 0 0, .slice none 0 0, .map none, .int .i64 0], .bool false]) ∧ Below w.heap.size w w' := by
  obtain ⟨j0, hj0, hy0, hy1, hy2⟩ := info_parts infoW
  have HT := Lib.hid (fun W (g : Below w.heap.size w W) => validTable_any T W (hT.on g))
  have hn : (errV T.tb != 0) = true := by rw [bne_iff_ne]; exact hV
  have b0 : Below w.heap.size w ((w.alloc (.cells #[.int .i64 T.cl, .slice T.a1 T.n1 T.c1, .slice T.a2 T.n2 T.c2, .slice T.a3 T.n3 T.c3] 26)).alloc (.cells #[.int .i64 0, .slice none 0 0, .slice none 0 0, .slice none 0 0, .map none, .int .i64 0] 151)) := below_call (below_new _ _) (below_new _ _).size (below_new _ _)
  have hr := res6_new (w.alloc (.cells #[.int .i64 T.cl, .slice T.a1 T.n1 T.c1, .slice T.a2 T.n2 T.c2, .slice T.a3 T.n3 T.c3] 26))
  rw [show (w.alloc (.cells #[.int .i64 T.cl, .slice T.a1 T.n1 T.c1, .slice T.a2 T.n2 T.c2, .slice T.a3 T.n3 T.c3] 26)).heap.size = w.heap.size + 1 by simp] at hr
  generalize errV T.tb = ev at *
  clear hT hV
  obtain ⟨cl, a1, n1, c1, bd, a2, n2, c2, hs, a3, n3, c3, br⟩ := T
  simp only [TV.v] at *
  go_enter Tryd.func112, Tryd.ntmps112
  go_wp2_with fail
  generalize (w.alloc (.cells #[.int .i64 cl, .slice a1 n1 c1, .slice a2 n2 c2, .slice a3 n3 c3] 26)).alloc (.cells #[.int .i64 0, .slice none 0 0, .slice none 0 0, .slice none 0 0, .map none, .int .i64 0] 151) = V at *
  refine (HT.out V b0).mono ?_
  rintro e w1 ⟨rfl, g⟩
  have b1 := below_call b0 b0.size g
  obtain ⟨_, p0, p1, p2, p3, p4, p5, f0, f1, f2, f3, f4, f5⟩ := hr.on g
  clear g HT hr b0
  go_wp2_with fail
  obtain ⟨W9, hW9, b9, _, c0', c1', c2', c3', c4', c5', _⟩ := store6 (.int .i64 0) (.slice none 0 0) (.slice none 0 0) (.slice none 0 0) (.map none) (.int .i64 0) b1 (show w.heap.size ≤ w.heap.size + 1 by omega) p0 p1 p2 p3 p4 p5
  rw [← hW9]
  refine bodyPost_ret (v := .tuple #[.agg #[.int .i64 0, .slice none 0 0, .slice none 0 0, .slice none 0 0, .map none, .int .i64 0], .bool false]) (by simp [results, Tryd.results112, go_sem, c0', c1', c2', c3', c4', c5']) rfl ⟨rfl, b9⟩
set_option maxHeartbeats 4000000 in
theorem begun_yes (T : TV) (w : World) (hT : T.ok w) (hV : errV T.tb = 0) : Calls Tryd.prog 112 #[T.v] w (OutBg T w) := by
  obtain ⟨j0, hj0, hy0, hy1, hy2⟩ := info_parts infoW
  have HT := Lib.hid (fun W (g : Below w.heap.size w W) => validTable_any T W (hT.on g))
  rw [hV] at HT
  have b0 : Below w.heap.size w ((w.alloc (.cells #[.int .i64 T.cl, .slice T.a1 T.n1 T.c1, .slice T.a2 T.n2 T.c2, .slice T.a3 T.n3 T.c3] 26)).alloc (.cells #[.int .i64 0, .slice none 0 0, .slice none 0 0, .slice none 0 0, .map none, .int .i64 0] 151)) := below_call (below_new _ _) (below_new _ _).size (below_new _ _)
  have hr := res6_new (w.alloc (.cells #[.int .i64 T.cl, .slice T.a1 T.n1 T.c1, .slice T.a2 T.n2 T.c2, .slice T.a3 T.n3 T.c3] 26))
  rw [show (w.alloc (.cells #[.int .i64 T.cl, .slice T.a1 T.n1 T.c1, .slice T.a2 T.n2 T.c2, .slice T.a3 T.n3 T.c3] 26)).heap.size = w.heap.size + 1 by simp] at hr
  have hx := (box_new w T).on (below_new _ (.cells #[.int .i64 0, .slice none 0 0, .slice none 0 0, .slice none 0 0, .map none, .int .i64 0] 151))
  clear hT hV
  obtain ⟨cl, a1, n1, c1, bd, a2, n2, c2, hs, a3, n3, c3, br⟩ := T
  simp only [TV.v] at *
  go_enter Tryd.func112, Tryd.ntmps112
  go_wp2_with fail
  generalize (w.alloc (.cells #[.int .i64 cl, .slice a1 n1 c1, .slice a2 n2 c2, .slice a3 n3 c3] 26)).alloc (.cells #[.int .i64 0, .slice none 0 0, .slice none 0 0, .slice none 0 0, .map none, .int .i64 0] 151) = V at *
  refine (HT.out V b0).mono ?_
  rintro e w1 ⟨rfl, g⟩
  have b1 := below_call b0 b0.size g
  have hsz := (hr.on g).lt
  obtain ⟨_, q0, q1, q2, q3⟩ := hx.on g
  try simp only [] at q0 q1 q2 q3
  have bm : Below w1.heap.size w1 (w1.alloc (.map #[] 0)) := (Below.refl _ _).alloc (Nat.le_refl _) _
  have hmm : (Instr.makeMap 149 none).run Tryd.prog w1 = .ok (.map (some w1.heap.size)) (w1.alloc (.map #[] 0)) := run_makeMap _ _
  have hsz2 : w1.heap.size < (w1.alloc (.map #[] 0)).heap.size := by simp
  have b2 := below_call b1 b1.size bm
  have hown := World.ownsMap_made (H := Unit) w1 Tryd.prog 21 (plainElem (H := Unit) Tryd.prog 3)
  obtain ⟨_, p0, p1, p2, p3, p4, p5, f0, f1, f2, f3, f4, f5⟩ := (hr.on g).on bm
  have HW := Lib.hid b1.size
  generalize w1.alloc (.map #[] 0) = w2 at *
  clear g HT hr b0 hx
  go_wp2_with fail
  obtain ⟨W9, hW9, b9, hs9, c0', c1', c2', c3', c4', c5', _, hk9⟩ := store6 (.int .i64 cl) (.slice a1 n1 c1) (.slice a2 n2 c2) (.slice a3 n3 c3) (.map (some w1.heap.size)) (.int .i64 0) b2 (show w.heap.size ≤ w.heap.size + 1 by omega) p0 p1 p2 p3 p4 p5
  have hm : W9.ownsMap Tryd.prog 21 (plainElem (H := Unit) Tryd.prog 3) w1.heap.size 0 (.map []) := by
    obtain ⟨es, clock, hb, r⟩ := hown
    exact ⟨es, clock, (hk9 _ (by omega)).trans hb, r⟩
  rw [← hW9]
  refine bodyPost_ret (v := .tuple #[.agg #[.int .i64 cl, .slice a1 n1 c1, .slice a2 n2 c2, .slice a3 n3 c3, .map (some w1.heap.size), .int .i64 0], .bool true]) (by simp [results, Tryd.results112, go_sem, c0', c1', c2', c3', c4', c5']) rfl ⟨_, rfl, HW.out, by rw [hs9]; exact hsz2, hm, b9⟩
end Go.Proofs.YtmhfgncffkfelaaDoor

/- What Class, State and Breaks of package walk return. -/
namespace Go.Proofs.YtmhfgncffkfelaaDoor
open Go.RowKit Go.BigFrame Go.Maps
set_option linter.unusedVariables false
set_option maxRecDepth 4000
set_option linter.unusedSimpArgs false

/-- A walker that was just laid, its map empty. -/
theorem Wkr.new {base m : Nat} {w : World} (T : TV) (hb : base ≤ w.heap.size) (hm1 : base ≤ m) (hm2 : m < w.heap.size) (hown : w.ownsMap Tryd.prog 21 (plainElem (H := Unit) Tryd.prog 3) m 0 (.map [])) :
    Wkr base (w.alloc (.cells #[.int .i64 T.cl, .slice T.a1 T.n1 T.c1, .slice T.a2 T.n2 T.c2, .slice T.a3 T.n3 T.c3, .map (some m), .int .i64 0] 151)) T w.heap.size m 0 0 :=
  ⟨hb, by simp, by simp, by simp, by simp, by simp, by simp, by simp, by simp, hm1, by omega, _, hown.alloc _, MC.start _⟩
def stR (t : Tb) (l : List Int) : Int := if okW t l then (stW t l : Int) else 0
def OutSt (t : Tb) (l : List Int) (w : World) (e : Ending) (w' : World) : Prop := e = .returned (.tuple #[.int .i64 (stR t l), .bool (okW t l)]) ∧ Below w.heap.size w w'
theorem OutSt.no {t : Tb} {l : List Int} {w w' : World} (h : okW t l = false) (b : Below w.heap.size w w') : OutSt t l w (.returned (.tuple #[.int .i64 0, .bool false])) w' := ⟨by unfold stR; rw [h]; rfl, b⟩
theorem OutSt.yes {t : Tb} {l : List Int} {w w' : World} (h : okW t l = true) (b : Below w.heap.size w w') : OutSt t l w (.returned (.tuple #[.int .i64 (stW t l : Int), .bool true])) w' := ⟨by unfold stR; rw [h]; rfl, b⟩
theorem reads_int (w : World) (x : Int) : Reads (w.alloc (.cells #[.int .i64 x] 3)) (w.heap.size + 1) 1 (some ⟨w.heap.size, 0, none⟩) 1 (icells [x]) := ⟨rfl, fun _ => ⟨_, _, rfl, by omega, fun i u hu => by
  match i, hu with
  | 0, hu => injection hu with hu; subst hu; simp⟩⟩
def OutPl (r : Option (List Int)) (w : World) (e : Ending) (w' : World) : Prop := ∃ (A : Option Addr) (c : Nat), e = .returned (.tuple #[.slice A (r.getD []).length c, .bool r.isSome]) ∧ w'.ownsRow w.heap.size 3 1 (.slice A (r.getD []).length c) (r.getD []).length (icells (r.getD [])) ∧ Below w.heap.size w w'
theorem OutPl.no {r : Option (List Int)} {w w' : World} (h : r = none) (b : Below w.heap.size w w') : OutPl r w (.returned (.tuple #[.slice none 0 0, .bool false])) w' := by
  subst h
  exact ⟨none, 0, rfl, World.ownsRow_nil _ _ _ _, b⟩
theorem brW_some {t : Tb} {l : List Int} (h : errV t = 0) (k : okW t l = true) : brW t l = some (plK t l (l.length + 1)) := by unfold brW; rw [if_pos ⟨h, k⟩]
theorem brW_none {t : Tb} {l : List Int} (k : okW t l = false) : brW t l = none := by unfold brW; rw [if_neg (by rw [k]; simp)]
theorem brW_err {t : Tb} {l : List Int} (h : errV t ≠ 0) : brW t l = none := by unfold brW; rw [if_neg (fun e => h e.1)]
theorem OutPl.yes {t : Tb} {l L : List Int} {z : Nat} {w w' : World} {A : Option Addr} {c base : Nat} (h : errV t = 0) (k : okW t l = true) (hL : L = plK t l (l.length + 1)) (hz : z = L.length) (ho : w'.ownsRow base 3 1 (.slice A z c) z (icells L)) (hb : w.heap.size ≤ base) (b : Below w.heap.size w w') : OutPl (brW t l) w (.returned (.tuple #[.slice A z c, .bool true])) w' := by
  subst hz
  rw [brW_some h k, ← hL]
  exact ⟨A, c, rfl, ho.mono hb, b⟩
set_option maxHeartbeats 4000000 in
theorem wbreaks_yes (T : TV) (l : List Int) (n : Nat) (A : Option Addr) (c : Nat) (w : World) (hT : T.ok w) (hR : RI w w.heap.size A n l) (hn : n ≤ 100000) (hV : errV T.tb = 0) :
    Calls Tryd.prog 101 #[T.v, .slice A n c] w (OutPl (brW T.tb l) w) := by
  obtain ⟨i0, hi0, hz0, hz1, hz2⟩ := info_parts info3
  have hVd := errV_ok.1 hV
  have HEr := Lib.hid hV
  have hln := hR.1
  have HR := Lib.hid (fun W (g : Below w.heap.size w W) => hR.on g)
  have b0 := below_new w (.cells #[.int .i64 T.cl, .slice T.a1 T.n1 T.c1, .slice T.a2 T.n2 T.c2, .slice T.a3 T.n3 T.c3] 26)
  have HBg := Lib.hid (begun_yes T _ (hT.on b0) hV)
  have hsl : ∀ l', stW T.tb l' < T.n2 := fun l' => by have := stW_lt hVd l'; unfold TV.tb at this ⊢; simp only [listsOf_len] at this; have h2 := hT.r2.1; omega
  have HSt : Hid (∀ g m k (l' : List Int) v W, Below w.heap.size w W → Wkr w.heap.size W T g m k (stW T.tb l') → k ≤ 100000 → Calls Tryd.prog 114 #[.pointer (some ⟨g, 0, none⟩), .int .i64 v] W (OutS (ofB T.bd v) w.heap.size T g m (k + 1) (stW T.tb l') (stpW T.tb (stW T.tb l') v) W)) := Lib.hid (fun g m k l' v W hB hW hk => step_any T w hT hVd g m k _ v W hB hW hk (hsl l'))
  have HBk : Hid (∀ g m k (l' : List Int) W, Below w.heap.size w W → Wkr w.heap.size W T g m k (stW T.tb l') → Calls Tryd.prog 113 #[.pointer (some ⟨g, 0, none⟩)] W fun e w' => e = .returned (.bool (brkN T.tb (stW T.tb l'))) ∧ ∃ q, w' = W.drewN q) := Lib.hid (fun g m k l' W hB hW => breaks_any w.heap.size T g m k _ W hW (hT.on hB) hVd (hsl l'))
  have HNew : Hid (∀ (W : World) m, w.heap.size ≤ W.heap.size → w.heap.size ≤ m → m < W.heap.size → W.ownsMap Tryd.prog 21 (plainElem (H := Unit) Tryd.prog 3) m 0 (.map []) → Wkr w.heap.size (W.alloc (.cells #[.int .i64 T.cl, .slice T.a1 T.n1 T.c1, .slice T.a2 T.n2 T.c2, .slice T.a3 T.n3 T.c3, .map (some m), .int .i64 0] 151)) T W.heap.size m 0 0) := Lib.hid (fun W m h1 h2 h3 h4 => Wkr.new T h1 h2 h3 h4)
  have HLn := Lib.hid hln
  clear hT hR hV hVd hsl hln
  simp only [TV.v] at *
  go_enter Tryd.func101, Tryd.ntmps101
  go_wp2_with fail
  refine HBg.out.mono ?_
  rintro e w1 ⟨m, rfl, hm1, hm2, hown, g⟩
  go_wp2_with fail
  have bw1 : Below w.heap.size w w1 := below_call b0 b0.size g
  have hwk := HNew.out w1 m bw1.size (Nat.le_trans b0.size hm1) hm2 hown
  have bw2 := below_call bw1 bw1.size (below_new w1 (.cells #[.int .i64 T.cl, .slice T.a1 T.n1 T.c1, .slice T.a2 T.n2 T.c2, .slice T.a3 T.n3 T.c3, .map (some m), .int .i64 0] 151))
  have hgw : w1.heap.size < (w1.alloc (.cells #[.int .i64 T.cl, .slice T.a1 T.n1 T.c1, .slice T.a2 T.n2 T.c2, .slice T.a3 T.n3 T.c3, .map (some m), .int .i64 0] 151)).heap.size := by simp
  generalize w1.alloc (.cells #[.int .i64 T.cl, .slice T.a1 T.n1 T.c1, .slice T.a2 T.n2 T.c2, .slice T.a3 T.n3 T.c3, .map (some m), .int .i64 0] 151) = w2 at *
  generalize w1.heap.size = gw at *
  have hmw : m < w2.heap.size := by omega
  have hww : w.heap.size ≤ w2.heap.size := bw2.size
  have HW0 := Lib.hid hwk
  have HB0 := Lib.hid bw2
  clear g hown hm1 hm2 bw1 bw2 hwk HNew HBg b0
  go_loopw [8, 20] (fun vp vi wr => ∃ (k z : Nat) (A8 : Option Addr) (c8 : Nat), vi = .int .i64 k ∧ k ≤ n ∧ z ≤ k ∧ vp = .slice A8 z c8 ∧ Hid (z = (plK T.tb l k).length) ∧ Hid (wr.ownsRow w2.heap.size 3 1 (.slice A8 z c8) z (icells (plK T.tb l k))) ∧ Hid (okW T.tb (l.take k) = true) ∧ Hid (Wkr w.heap.size wr T gw m k (stW T.tb (l.take k))) ∧ Hid (Below w.heap.size w wr) ∧ Hid (w2.heap.size ≤ wr.heap.size)) (fun _ vi _ => n - (intOf vi).toNat)
  case atStart => exact ⟨0, 0, none, 0, rfl, Nat.zero_le _, Nat.le_refl _, rfl, Lib.hid rfl, Lib.hid (World.ownsRow_nil _ _ _ _), Lib.hid rfl, HW0, HB0, Lib.hid (Nat.le_refl _)⟩
  case round =>
    clear HW0 HB0
    obtain ⟨k, z, A8, c8, rfl, hk, hzk, rfl, HZ, HO, HK, HW, HB, HS⟩ := hrel
    obtain ⟨bk, hbk⟩ : ∃ bk, brkN T.tb (stW T.tb (l.take k)) = bk := ⟨_, rfl⟩
    have HBc := Lib.hid (HBk.out gw m k (l.take k) wr HB.out HW.out)
    rw [hbk] at HBc
    have HPl : Hid (plK T.tb l (k + 1) = plK T.tb l k ++ (if bk then [(k : Int)] else [])) := Lib.hid (by rw [plK_succ, hbk])
    clear hbk
    by_cases hlt : k < n
    · have kl : k < l.length := by rw [HLn.out]; exact hlt
      obtain ⟨bb, oo, hA, _, q⟩ := (HR.out _ HB.out).at kl
      subst hA
      have HTk : Hid (l.take (k + 1) = l.take k ++ [l[k]]) := Lib.hid (take_one kl)
      have HNo : Hid (ofB T.bd l[k] = false → okW T.tb l = false) := Lib.hid (fun h => okW_take_no (k := k + 1) (by rw [HTk.out, okW_snoc, show T.tb.bd = T.bd from rfl, h, Bool.and_false]))
      have HYes : Hid (ofB T.bd l[k] = true → okW T.tb (l.take (k + 1)) = true) := Lib.hid (fun h => by rw [HTk.out, okW_snoc, show T.tb.bd = T.bd from rfl, h, HK.out]; rfl)
      have HGo : Hid (stpW T.tb (stW T.tb (l.take k)) l[k] = stW T.tb (l.take (k + 1))) := Lib.hid (by rw [HTk.out, stW_snoc])
      have HC : Hid (∀ W, Below w.heap.size w W → Wkr w.heap.size W T gw m k (stW T.tb (l.take k)) → Calls Tryd.prog 114 #[.pointer (some ⟨gw, 0, none⟩), .int .i64 l[k]] W (OutS (ofB T.bd l[k]) w.heap.size T gw m (k + 1) (stW T.tb (l.take k)) (stpW T.tb (stW T.tb (l.take k)) l[k]) W)) := Lib.hid (fun W h1 h2 => HSt.out gw m k (l.take k) l[k] W h1 h2 (by omega))
      clear HTk HK
      generalize l[k] = x at *
      obtain ⟨qb, hqb⟩ : ∃ qb, ofB T.bd x = qb := ⟨_, rfl⟩
      rw [hqb] at HNo HYes HC
      rw [HGo.out] at HC
      clear hqb HGo
      go_wp2_with fail
      refine HBc.out.mono ?_
      rintro e w4 ⟨rfl, dq, rfl⟩
      have gd := below_drewN (Below.refl wr.heap.size wr) dq
      have HB4 := Lib.hid (below_drewN HB.out dq)
      have HW4 := Lib.hid (HW.out.on gd)
      have HO4 := Lib.hid (own_below HO.out gd)
      have HS4 : Hid (w2.heap.size ≤ (wr.drewN dq).heap.size) := Lib.hid (Nat.le_trans HS.out gd.size)
      clear HBc gd HB HW HO HS q
      generalize wr.drewN dq = w4 at *
      cases bk
      case false =>
        simp only [Bool.false_eq_true, if_false, List.append_nil] at HPl
        go_wp2_with fail
        refine (HC.out _ HB4.out HW4.out).mono ?_
        rintro e w5 ⟨rfl, hb5, ⟨s2, hw5, hs2⟩, hkr⟩
        have HB5 := Lib.hid (HB4.out.trans hb5)
        have HO5 := Lib.hid (hkr _ _ _ _ _ _ hgw hmw HO4.out)
        have HS5 : Hid (w2.heap.size ≤ w5.heap.size) := Lib.hid (Nat.le_trans HS4.out hb5.size)
        clear hb5 hkr HC
        cases qb
        case false =>
          have HE := Lib.hid (HNo.out rfl)
          go_wp2_with fail
          go_ret2
          exact OutPl.no (brW_none HE.out) HB5.out
        case true =>
          obtain rfl := hs2 rfl
          have HW5 := Lib.hid hw5
          have HK5 := Lib.hid (HYes.out rfl)
          clear hw5 hs2 HNo HYes
          go_wp2_with fail
          go_roundw
          case rel => exact ⟨k + 1, z, _, _, by go_num, by omega, by omega, rfl, Lib.hid (by rw [HPl.out]; exact HZ.out), Lib.hid (by rw [HPl.out]; exact HO5.out), HK5, HW5, HB5, HS5⟩
          case measure => simp [intOf]; omega
      case true =>
        simp only [if_true] at HPl
        have HRd := Lib.hid (reads_int w4 (k : Int))
        have HOne := Lib.hid (icells_one [(k : Int)])
        have HOa := Lib.hid (HO4.out.alloc (.cells #[.int .i64 (k : Int)] 3))
        have ga := below_new w4 (.cells #[.int .i64 (k : Int)] 3)
        have HWa := Lib.hid (HW4.out.on ga)
        have HBa := Lib.hid (HB4.out.trans (ga.mono HB4.out.size))
        have HSa : Hid (w2.heap.size ≤ (w4.alloc (.cells #[.int .i64 (k : Int)] 3)).heap.size) := Lib.hid (Nat.le_trans HS4.out ga.size)
        have HWs : Hid (w.heap.size ≤ (w4.alloc (.cells #[.int .i64 (k : Int)] 3)).heap.size) := Lib.hid HBa.out.size
        have hs4 := HS4.out
        clear ga
        go_wp2_with (at_builtin; refine wpList_append_src rfl _ _ 51 rfl w2.heap.size 3 i0 _ 1 8 Tryd.underlying51 hi0 hz0 hz1 hz2 rfl (by decide) _ _ _ rfl HOa.out (some ⟨w4.heap.size, 0, none⟩) 1 1 (w4.heap.size + 1) (icells [(k : Int)]) rfl (fun h => by cases h) HRd.out HOne.out ?n3 ?n4 ?n5 ?_)
        case n3 => unfold maxLen; omega
        case n4 => omega
        case n5 => simp; omega
        intro A9 c9 w9 hown9 hn9 hgrow9
        have HW9 := Lib.hid (HWa.out.grown hgrow9 (fun j hj => by have h1 := (HOa.out.lt j hj).1; exact ⟨by omega, by omega⟩))
        have HB9 := Lib.hid (HBa.out.grown hgrow9 HWs.out (fun j hj => Nat.le_trans hww (HOa.out.lt j hj).1))
        have HS9 : Hid (w2.heap.size ≤ w9.heap.size) := Lib.hid (Nat.le_trans HSa.out hgrow9.size)
        have HO9 : Hid (w9.ownsRow w2.heap.size 3 1 (.slice A9 (z + 1) c9) (z + 1) (icells (plK T.tb l (k + 1)))) := Lib.hid (by
          rw [HPl.out, icells_snoc]; exact hown9)
        have HZ9 : Hid (z + 1 = (plK T.tb l (k + 1)).length) := Lib.hid (by rw [HPl.out, List.length_append, ← HZ.out]; rfl)
        clear hown9 hgrow9 HOa HRd HOne HWa HBa HSa HWs HB4 HW4 HO4 HS4
        go_wp2_with fail
        refine (HC.out _ HB9.out HW9.out).mono ?_
        rintro e w5 ⟨rfl, hb5, ⟨s2, hw5, hs2⟩, hkr⟩
        have HB5 := Lib.hid (HB9.out.trans hb5)
        have HO5 := Lib.hid (hkr _ _ _ _ _ _ hgw hmw HO9.out)
        have HS5 : Hid (w2.heap.size ≤ w5.heap.size) := Lib.hid (Nat.le_trans HS9.out hb5.size)
        clear hb5 hkr HC
        cases qb
        case false =>
          have HE := Lib.hid (HNo.out rfl)
          go_wp2_with fail
          go_ret2
          exact OutPl.no (brW_none HE.out) HB5.out
        case true =>
          obtain rfl := hs2 rfl
          have HW5 := Lib.hid hw5
          have HK5 := Lib.hid (HYes.out rfl)
          clear hw5 hs2 HNo HYes
          go_wp2_with fail
          go_roundw
          case rel => exact ⟨k + 1, z + 1, _, _, by go_num, by omega, by omega, rfl, HZ9, HO5, HK5, HW5, HB5, HS5⟩
          case measure => simp [intOf]; omega
    · obtain rfl : k = n := by omega
      have HTl : Hid (l.take k = l) := Lib.hid (List.take_of_length_le (by rw [HLn.out]; exact Nat.le_refl _))
      rw [HTl.out] at HK
      have HFin : Hid (plK T.tb l k ++ (if bk then [(k : Int)] else []) = plK T.tb l (l.length + 1)) := Lib.hid (by rw [← HPl.out, HLn.out])
      go_wp2_with fail
      refine HBc.out.mono ?_
      rintro e w4 ⟨rfl, dq, rfl⟩
      have gd := below_drewN (Below.refl wr.heap.size wr) dq
      have HB4 := Lib.hid (below_drewN HB.out dq)
      have HW4 := Lib.hid (HW.out.on gd)
      have HO4 := Lib.hid (own_below HO.out gd)
      have HS4 : Hid (w2.heap.size ≤ (wr.drewN dq).heap.size) := Lib.hid (Nat.le_trans HS.out gd.size)
      clear HBc gd HB HW HO HS HTl
      generalize wr.drewN dq = w4 at *
      cases bk
      case false =>
        simp only [Bool.false_eq_true, if_false, List.append_nil] at HFin
        go_wp2_with fail
        go_ret2
        exact OutPl.yes HEr.out HK.out HFin.out HZ.out HO4.out hww HB4.out
      case true =>
        simp only [if_true] at HPl HFin
        have HRd := Lib.hid (reads_int w4 (k : Int))
        have HOne := Lib.hid (icells_one [(k : Int)])
        have HOa := Lib.hid (HO4.out.alloc (.cells #[.int .i64 (k : Int)] 3))
        have ga := below_new w4 (.cells #[.int .i64 (k : Int)] 3)
        have HWa := Lib.hid (HW4.out.on ga)
        have HBa := Lib.hid (HB4.out.trans (ga.mono HB4.out.size))
        have HSa : Hid (w2.heap.size ≤ (w4.alloc (.cells #[.int .i64 (k : Int)] 3)).heap.size) := Lib.hid (Nat.le_trans HS4.out ga.size)
        have HWs : Hid (w.heap.size ≤ (w4.alloc (.cells #[.int .i64 (k : Int)] 3)).heap.size) := Lib.hid HBa.out.size
        have hs4 := HS4.out
        clear ga
        go_wp2_with (at_builtin; refine wpList_append_src rfl _ _ 51 rfl w2.heap.size 3 i0 _ 1 8 Tryd.underlying51 hi0 hz0 hz1 hz2 rfl (by decide) _ _ _ rfl HOa.out (some ⟨w4.heap.size, 0, none⟩) 1 1 (w4.heap.size + 1) (icells [(k : Int)]) rfl (fun h => by cases h) HRd.out HOne.out ?n3 ?n4 ?n5 ?_)
        case n3 => unfold maxLen; omega
        case n4 => omega
        case n5 => simp; omega
        intro A9 c9 w9 hown9 hn9 hgrow9
        have HW9 := Lib.hid (HWa.out.grown hgrow9 (fun j hj => by have h1 := (HOa.out.lt j hj).1; exact ⟨by omega, by omega⟩))
        have HB9 := Lib.hid (HBa.out.grown hgrow9 HWs.out (fun j hj => Nat.le_trans hww (HOa.out.lt j hj).1))
        have HS9 : Hid (w2.heap.size ≤ w9.heap.size) := Lib.hid (Nat.le_trans HSa.out hgrow9.size)
        have HO9 : Hid (w9.ownsRow w2.heap.size 3 1 (.slice A9 (z + 1) c9) (z + 1) (icells (plK T.tb l (k + 1)))) := Lib.hid (by
          rw [HPl.out, icells_snoc]; exact hown9)
        have HZ9 : Hid (z + 1 = (plK T.tb l (k + 1)).length) := Lib.hid (by rw [HPl.out, List.length_append, ← HZ.out]; rfl)
        clear hown9 hgrow9 HOa HRd HOne HWa HBa HSa HWs HB4 HW4 HO4 HS4
        go_wp2_with fail
        go_ret2
        exact OutPl.yes HEr.out HK.out (by rw [HPl.out]; exact HFin.out) HZ9.out HO9.out hww HB9.out
end Go.Proofs.YtmhfgncffkfelaaDoor

