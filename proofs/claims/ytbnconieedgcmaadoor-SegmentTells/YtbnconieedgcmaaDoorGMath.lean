/- Plain mathematics of a text's breaks (stage 9): where pieces begin, at which bytes there is a break, what is cut. No program. -/
import Derived.Test.YtbnconieedgcmaaDoorWMath
import Derived.Test.YtbnconieedgcmaaDoorUWakes
namespace Go.Proofs.YtbnconieedgcmaaDoor
set_option linter.unusedVariables false
set_option linter.unusedSimpArgs false
open U (Pp Tr piecesAt tris tri pieceOf piece_fits piecesAt_cons piecesAt_nil isB)

/-- Where the i-th piece of a row that begins at k begins; behind all: its end. -/
def atK (k : Nat) (L : List UInt8) (i : Nat) : Nat := if h : i < (piecesAt k L).length then (piecesAt k L)[i].at_ else k + L.length
theorem atK_nil (k i : Nat) : atK k [] i = k := by unfold atK; simp [piecesAt_nil]
theorem atK_zero (k : Nat) (L : List UInt8) : atK k L 0 = k := by
  cases L with
  | nil => exact atK_nil k 0
  | cons b r => unfold atK; simp [piecesAt_cons]
theorem atK_succ (k : Nat) (b : UInt8) (r : List UInt8) (i : Nat) : atK k (b :: r) (i + 1) = atK (k + (pieceOf (b :: r)).n) ((b :: r).drop (pieceOf (b :: r)).n) i := by
  have hf := (piece_fits b r).2.2.1
  have hl : ((b :: r).drop (pieceOf (b :: r)).n).length = (b :: r).length - (pieceOf (b :: r)).n := List.length_drop
  have he := piecesAt_cons k b r
  unfold atK
  by_cases h : i < (piecesAt (k + (pieceOf (b :: r)).n) ((b :: r).drop (pieceOf (b :: r)).n)).length
  · rw [dif_pos h, dif_pos (by rw [he, List.length_cons]; omega)]
    simp only [he, List.getElem_cons_succ]
  · rw [dif_neg h, dif_neg (by rw [he, List.length_cons]; omega), hl]
    omega
theorem atK_ge (n : Nat) : ∀ (k : Nat) (L : List UInt8) (i : Nat), L.length ≤ n → k ≤ atK k L i := by
  induction n with
  | zero =>
    intro k L i h
    obtain rfl : L = [] := List.eq_nil_of_length_eq_zero (by omega)
    rw [atK_nil]; exact Nat.le_refl _
  | succ n ih =>
    intro k L i h
    match L, i with
    | [], i => rw [atK_nil]; exact Nat.le_refl _
    | b :: r, 0 => rw [atK_zero]; exact Nat.le_refl _
    | b :: r, i + 1 =>
      have hf := (piece_fits b r).1
      rw [atK_succ]
      have := ih (k + (pieceOf (b :: r)).n) ((b :: r).drop (pieceOf (b :: r)).n) i (by rw [List.length_drop]; simp at h ⊢; omega)
      omega
/-- They rise. -/
theorem atK_rise (n : Nat) : ∀ (k : Nat) (L : List UInt8) (i j : Nat), L.length ≤ n → i < j → j ≤ (piecesAt k L).length → atK k L i < atK k L j := by
  induction n with
  | zero =>
    intro k L i j h hi hj
    obtain rfl : L = [] := List.eq_nil_of_length_eq_zero (by omega)
    rw [piecesAt_nil] at hj; simp at hj; omega
  | succ n ih =>
    intro k L i j h hi hj
    match L, j with
    | [], j => rw [piecesAt_nil] at hj; simp at hj; omega
    | b :: r, 0 => omega
    | b :: r, j + 1 =>
      have hf := (piece_fits b r).1
      have hl : ((b :: r).drop (pieceOf (b :: r)).n).length ≤ n := by rw [List.length_drop]; simp at h ⊢; omega
      have hj' : j ≤ (piecesAt (k + (pieceOf (b :: r)).n) ((b :: r).drop (pieceOf (b :: r)).n)).length := by rw [piecesAt_cons, List.length_cons] at hj; omega
      rw [atK_succ]
      match i with
      | 0 =>
        rw [atK_zero]
        have := atK_ge n (k + (pieceOf (b :: r)).n) _ j hl
        omega
      | i + 1 =>
        rw [atK_succ]
        exact ih _ _ i j hl (by omega) hj'
theorem atK_end (k : Nat) (L : List UInt8) : atK k L (piecesAt k L).length = k + L.length := by
  unfold atK; rw [dif_neg (by omega)]

/-- Of a text. -/
def atL (L : List UInt8) (i : Nat) : Nat := atK 0 L i
def nP (L : List UInt8) : Nat := (piecesAt 0 L).length
theorem atL_zero (L : List UInt8) : atL L 0 = 0 := atK_zero 0 L
theorem atL_end (L : List UInt8) : atL L (nP L) = L.length := by unfold atL nP; rw [atK_end]; omega
theorem atL_rise (L : List UInt8) {i j : Nat} (h : i < j) (hj : j ≤ nP L) : atL L i < atL L j := atK_rise _ 0 L i j (Nat.le_refl _) h hj
theorem atL_mono (L : List UInt8) {i j : Nat} (h : i ≤ j) (hj : j ≤ nP L) : atL L i ≤ atL L j := by
  rcases Nat.lt_or_ge i j with q | q
  · exact Nat.le_of_lt (atL_rise L q hj)
  · obtain rfl : i = j := by omega
    exact Nat.le_refl _
theorem atL_le (L : List UInt8) {i : Nat} (h : i ≤ nP L) : atL L i ≤ L.length := by
  have := atL_mono L h (Nat.le_refl _)
  rw [atL_end] at this; exact this
theorem atL_inj (L : List UInt8) {i j : Nat} (hi : i ≤ nP L) (hj : j ≤ nP L) (h : atL L i = atL L j) : i = j := by
  rcases Nat.lt_trichotomy i j with q | q | q
  · have := atL_rise L q hj; omega
  · exact q
  · have := atL_rise L q hi; omega
theorem nP_le (L : List UInt8) : nP L ≤ L.length := U.piecesAt_len _ 0 L (Nat.le_refl _)
theorem tris_len (L : List UInt8) : (tris L).length = nP L := by unfold tris nP; simp

/-- The pieces, and one of no bytes at the end. -/
def endE (L : List UInt8) : List Tr := tris L ++ [⟨0, (L.length : Int), 0⟩]
theorem endE_len (L : List UInt8) : (endE L).length = nP L + 1 := by unfold endE; rw [List.length_append, tris_len]; rfl
theorem endE_at (L : List UInt8) {i : Nat} (h : i < (endE L).length) : (endE L)[i].a = (atL L i : Int) := by
  have hl := endE_len L
  unfold endE at h ⊢
  by_cases q : i < (tris L).length
  · rw [List.getElem_append_left q]
    have q2 : i < (piecesAt 0 L).length := by rw [tris_len] at q; exact q
    have e : (tris L)[i] = tri (piecesAt 0 L)[i] := List.getElem_map tri
    rw [e]
    unfold atL atK
    rw [dif_pos q2]
    rfl
  · have e : i = (tris L).length := by simp at h; omega
    subst e
    rw [List.getElem_append_right (Nat.le_refl _)]
    simp only [Nat.sub_self, List.getElem_cons_zero]
    rw [tris_len, atL_end]
theorem endE_ne (L : List UInt8) {i j : Nat} (hi : i < (endE L).length) (hj : j < (endE L).length) : (endE L)[i] = (endE L)[j] ↔ atL L i = atL L j := by
  constructor
  · intro h
    have h1 := endE_at L hi
    have h2 := endE_at L hj
    rw [h] at h1
    omega
  · intro h
    have hl := endE_len L
    have := atL_inj L (i := i) (j := j) (by omega) (by omega) h
    subst this; rfl

/-- The scalars. -/
def valsL (L : List UInt8) : List Int := (tris L).map (·.v)
theorem valsL_len (L : List UInt8) : (valsL L).length = nP L := by unfold valsL; rw [List.length_map, tris_len]
theorem valsL_vals (L : List UInt8) : valsL L = (piecesAt 0 L).map (·.v) := by
  unfold valsL tris
  rw [List.map_map]
  rfl
theorem vals_scal (n : Nat) : ∀ (k : Nat) (L : List UInt8), L.length ≤ n → ((piecesAt k L).map (·.v)).all isB = true := by
  induction n with
  | zero =>
    intro k L h
    obtain rfl : L = [] := List.eq_nil_of_length_eq_zero (by omega)
    simp [piecesAt_nil]
  | succ n ih =>
    intro k L h
    match L with
    | [] => simp [piecesAt_nil]
    | b :: r =>
      have hf := (piece_fits b r).1
      have := ih (k + (pieceOf (b :: r)).n) ((b :: r).drop (pieceOf (b :: r)).n) (by rw [List.length_drop]; simp at h ⊢; omega)
      rw [piecesAt_cons, List.map_cons, List.all_cons, this]
      simp [U.piece_isB b r]
theorem isB_scalB (v : Int) : isB v = scalB v := by
  cases h : scalB v with
  | true => exact (U.isB_iff v).2 ((scalB_iff v).1 h)
  | false =>
    cases q : isB v with
    | false => rfl
    | true => rw [(scalB_iff v).2 ((U.isB_iff v).1 q)] at h; cases h
theorem okW_vals {t : Tb} (h : Vd t) (L : List UInt8) : okW t (valsL L) = true := by
  have := vals_scal _ 0 L (Nat.le_refl _)
  rw [← valsL_vals] at this
  unfold okW
  rw [List.all_eq_true] at this ⊢
  intro x hx
  rw [ofB_vd h, ← isB_scalB]
  exact this x hx

/-- The places that break, as natural numbers. -/
def plN (t : Tb) (l : List Int) (k : Nat) : List Nat := (List.range k).filter fun i => brkN t (stW t (l.take i))
theorem plK_plN (t : Tb) (l : List Int) (k : Nat) : plK t l k = (plN t l k).map fun i => ((i : Nat) : Int) := rfl
theorem plN_lt {t : Tb} {l : List Int} {k i : Nat} (h : i ∈ plN t l k) : i < k := by
  unfold plN at h
  have := (List.mem_filter.1 h).1
  simpa using this
theorem plN_sorted (t : Tb) (l : List Int) (k : Nat) : (plN t l k).Pairwise (· < ·) := List.Pairwise.filter _ List.pairwise_lt_range
theorem brW_is (t : Tb) (L : List UInt8) : brW t (valsL L) = if errV t = 0 then some (plK t (valsL L) (nP L + 1)) else none := by
  unfold brW
  rw [valsL_len]
  by_cases h : errV t = 0
  · rw [if_pos h, if_pos ⟨h, okW_vals (errV_ok.1 h) L⟩]
  · rw [if_neg h, if_neg (fun x => h x.1)]

/-- The pieces ahead of which there is a break. -/
def brN (t : Tb) (L : List UInt8) : List Nat := plN t (valsL L) (nP L + 1)
theorem brN_le {t : Tb} {L : List UInt8} {i : Nat} (h : i ∈ brN t L) : i ≤ nP L := by have := plN_lt h; omega
theorem brN_sorted (t : Tb) (L : List UInt8) : (brN t L).Pairwise (· < ·) := plN_sorted _ _ _
theorem brN_len (t : Tb) (L : List UInt8) : (brN t L).length ≤ nP L + 1 := by
  have := plK_len t (valsL L) (nP L + 1)
  rw [plK_plN, List.length_map] at this
  exact this
/-- The bytes. -/
def ofA (t : Tb) (L : List UInt8) : List Nat := (brN t L).map (atL L)
def natI (l : List Nat) : List Int := l.map fun i => ((i : Nat) : Int)
def ofS (t : Tb) (L : List UInt8) : Option (List Int) := if errV t = 0 then some (natI (ofA t L)) else none
theorem ofA_len (t : Tb) (L : List UInt8) : (ofA t L).length = (brN t L).length := by unfold ofA; simp
theorem pairwise_at (L : List UInt8) : ∀ (l : List Nat), (∀ i ∈ l, i ≤ nP L) → l.Pairwise (· < ·) → (l.map (atL L)).Pairwise (· < ·)
  | [], _, _ => by simp
  | a :: l, h, hp => by
    rw [List.pairwise_cons] at hp
    rw [List.map_cons, List.pairwise_cons]
    refine ⟨fun x hx => ?_, pairwise_at L l (fun i hi => h i (List.mem_cons_of_mem _ hi)) hp.2⟩
    obtain ⟨i, hi, rfl⟩ := List.mem_map.1 hx
    exact atL_rise L (hp.1 i hi) (h i (List.mem_cons_of_mem _ hi))
theorem ofA_sorted (t : Tb) (L : List UInt8) : (ofA t L).Pairwise (· < ·) := pairwise_at L _ (fun i hi => brN_le hi) (brN_sorted t L)
theorem ofA_le {t : Tb} {L : List UInt8} {x : Nat} (h : x ∈ ofA t L) : x ≤ L.length := by
  obtain ⟨i, hi, rfl⟩ := List.mem_map.1 h
  exact atL_le L (brN_le hi)

/-- What is cut from f on at these places. -/
def cutsF (L : List UInt8) : Nat → List Nat → List (List UInt8)
  | _, [] => []
  | f, x :: r => (if f < x then [(L.drop f).take (x - f)] else []) ++ cutsF L x r
def cutA (t : Tb) (L : List UInt8) : List (List UInt8) := cutsF L 0 (ofA t L ++ [L.length])
def cutS (t : Tb) (L : List UInt8) : Option (List (List UInt8)) := if errV t = 0 then some (cutA t L) else none
theorem cutsF_len (L : List UInt8) : ∀ (r : List Nat) (f : Nat), (cutsF L f r).length ≤ r.length
  | [], _ => by simp [cutsF]
  | x :: r, f => by
    have := cutsF_len L r x
    unfold cutsF
    rw [List.length_append, List.length_cons]
    split <;> simp <;> omega
theorem cutsF_ne (L : List UInt8) : ∀ (r : List Nat) (f : Nat), (∀ x ∈ r, x ≤ L.length) → ∀ b ∈ cutsF L f r, b ≠ []
  | [], _, _, b, h => by simp [cutsF] at h
  | x :: r, f, hx, b, h => by
    unfold cutsF at h
    rcases List.mem_append.1 h with h | h
    · by_cases q : f < x
      · rw [if_pos q] at h
        simp only [List.mem_singleton] at h
        subst h
        intro e
        have := congrArg List.length e
        have h2 := hx x (by simp)
        simp [List.length_take, List.length_drop] at this
        omega
      · rw [if_neg q] at h; simp at h
    · exact cutsF_ne L r x (fun y hy => hx y (List.mem_cons_of_mem _ hy)) b h
/-- One behind the other they are the text from there to the last one. -/
theorem cutsF_flat (L : List UInt8) : ∀ (r : List Nat) (f z : Nat), (r ++ [z]).Pairwise (· ≤ ·) → (∀ x ∈ r ++ [z], f ≤ x ∧ x ≤ L.length) → (cutsF L f (r ++ [z])).flatten = (L.drop f).take (z - f)
  | [], f, z, _, h => by
    have := h z (by simp)
    simp only [List.nil_append, cutsF, List.append_nil]
    split
    · simp
    · rw [show z - f = 0 by omega]; simp
  | x :: r, f, z, hp, h => by
    have hx := h x (by simp)
    have hz := h z (by simp)
    rw [List.cons_append, List.pairwise_cons] at hp
    have hxz := hp.1 z (by simp)
    have ih := cutsF_flat L r x z hp.2 (fun y hy => ⟨hp.1 y hy, (h y (by simpa using Or.inr (by simpa using hy))).2⟩)
    rw [List.cons_append, cutsF, List.flatten_append, ih]
    split
    · rename_i q
      simp only [List.flatten_cons, List.flatten_nil, List.append_nil]
      rw [show z - f = (x - f) + (z - x) by omega, List.take_add, List.drop_drop, show f + (x - f) = x by omega]
    · rename_i q
      obtain rfl : f = x := by omega
      simp
theorem pairwise_le {l : List Nat} (h : l.Pairwise (· < ·)) : l.Pairwise (· ≤ ·) := h.imp (fun q => Nat.le_of_lt q)
theorem ends_le (t : Tb) (L : List UInt8) : (ofA t L ++ [L.length]).Pairwise (· ≤ ·) := by
  rw [List.pairwise_append]
  exact ⟨pairwise_le (ofA_sorted t L), by simp, fun a ha b hb => by simp at hb; subst hb; exact ofA_le ha⟩
theorem cutA_flat (t : Tb) (L : List UInt8) : (cutA t L).flatten = L := by
  unfold cutA
  rw [cutsF_flat L _ 0 _ (ends_le t L) (fun x hx => ⟨Nat.zero_le _, by
    rcases List.mem_append.1 hx with h | h
    · exact ofA_le h
    · simp at h; omega⟩)]
  simp
/-- As many as breaks within, and one, of a text that is not empty. -/
def inL (n : Nat) (x : Nat) : Bool := decide (0 < x) && decide (x < n)
theorem cutsF_count (L : List UInt8) : ∀ (r : List Nat) (f : Nat), (r ++ [L.length]).Pairwise (· ≤ ·) → r.Pairwise (· < ·) → (∀ x ∈ r, f < x) → f < L.length → (cutsF L f (r ++ [L.length])).length = (r.filter (fun x => decide (x < L.length))).length + 1
  | [], f, _, _, _, hf => by simp [cutsF, hf]
  | x :: r, f, hp, hs, h, hf => by
    have hx := h x (by simp)
    rw [List.cons_append, List.pairwise_cons] at hp
    rw [List.pairwise_cons] at hs
    have hxL := hp.1 L.length (by simp)
    rw [List.cons_append, cutsF, if_pos hx, List.length_append]
    by_cases q : x < L.length
    · rw [cutsF_count L r x hp.2 hs.2 hs.1 q, List.filter_cons, if_pos (by simpa using q)]
      simp; omega
    · have hr : r = [] := by
        cases r with
        | nil => rfl
        | cons y r =>
          have h1 := hs.1 y (by simp)
          have h2 := (List.pairwise_cons.1 hp.2).1 L.length (by simp)
          omega
      subst hr
      rw [List.filter_cons, if_neg (by simpa using q)]
      simp [cutsF, show ¬ x < L.length from q]
theorem cutA_count (t : Tb) (L : List UInt8) (h : L ≠ []) : (cutA t L).length = ((ofA t L).filter (inL L.length)).length + 1 := by
  have hL : 0 < L.length := by cases L with
    | nil => exact absurd rfl h
    | cons a b => simp
  have hs := ofA_sorted t L
  have hp := ends_le t L
  unfold cutA
  revert hs hp
  generalize ofA t L = r
  intro hs hp
  cases r with
  | nil => simp [cutsF, hL]
  | cons x r =>
    rw [List.cons_append, List.pairwise_cons] at hp
    rw [List.pairwise_cons] at hs
    have hin : ∀ l : List Nat, (∀ y ∈ l, 0 < y) → l.filter (inL L.length) = l.filter (fun y => decide (y < L.length)) := fun l hl => List.filter_congr (fun y hy => by unfold inL; rw [decide_eq_true (hl y hy), Bool.true_and])
    by_cases q : 0 < x
    · rw [hin (x :: r) (fun y hy => by rcases List.mem_cons.1 hy with rfl | hy; exact q; have := hs.1 y hy; omega)]
      exact cutsF_count L (x :: r) 0 (by rw [List.cons_append, List.pairwise_cons]; exact hp) (by rw [List.pairwise_cons]; exact hs) (fun y hy => by rcases List.mem_cons.1 hy with rfl | hy; exact q; have := hs.1 y hy; omega) hL
    · obtain rfl : x = 0 := by omega
      rw [List.cons_append, cutsF, if_neg (by omega), List.nil_append, cutsF_count L r 0 hp.2 hs.2 (fun y hy => hs.1 y hy) hL, List.filter_cons, if_neg (by simp [inL]), hin r (fun y hy => hs.1 y hy)]
theorem cutA_nil (t : Tb) : cutA t [] = [] := by
  have h : ∀ x ∈ ofA t [], x = 0 := fun x hx => by have := ofA_le hx; simpa using this
  unfold cutA
  revert h
  generalize ofA t [] = r
  intro h
  have key : ∀ r : List Nat, (∀ x ∈ r, x = 0) → cutsF [] 0 r = [] := by
    intro r
    induction r with
    | nil => intro _; rfl
    | cons a r ih =>
      intro h
      obtain rfl := h a (by simp)
      rw [cutsF, if_neg (by omega), ih (fun x hx => h x (by simp [hx]))]; rfl
  exact key _ (fun x hx => by
    rcases List.mem_append.1 hx with q | q
    · exact h x q
    · simpa using q)
end Go.Proofs.YtbnconieedgcmaaDoor
