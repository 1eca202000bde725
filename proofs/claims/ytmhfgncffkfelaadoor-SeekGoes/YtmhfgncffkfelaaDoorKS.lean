/- Joined: Clone GMath GRow GOf GCutK GCut GWake. -/
import Derived.Shelf.Strconv.Clone
import Derived.Test.YtmhfgncffkfelaaDoorProg
import Derived.Handy
import Derived.Deep.DeepMust
import Derived.Test.YtmhfgncffkfelaaDoorKW
import Derived.Test.YtmhfgncffkfelaaDoorKU2
import Derived.Test.YtmhfgncffkfelaaDoorKWs
import Derived.BigQuiet
import Derived.Deep.RegionLaw
import Derived.Deep.CutRange
import Derived.Deep.RegionHeld3
import Derived.BigRegion
/- strings.Clone as this program holds it: its body is the one that the library's contract was proved of; the same bytes. -/
namespace Go.Proofs.YtmhfgncffkfelaaDoor
open Go.Shelf Go.RowKit
end Go.Proofs.YtmhfgncffkfelaaDoor

/- Plain mathematics of a text's breaks (stage 9): where pieces begin, at which bytes there is a break, what is cut. No program. -/
namespace Go.Proofs.YtmhfgncffkfelaaDoor
set_option linter.unusedVariables false
set_option linter.unusedSimpArgs false
open U (Pp Tr piecesAt tris tri pieceOf piece_fits piecesAt_cons piecesAt_nil isB)

/-- Where the i-th piece of a row that begins at k begins; behind all: its end. -/
def atK (k : Nat) (L : List UInt8) (i : Nat) : Nat := if h : i < (piecesAt k L).length then (piecesAt k L)[i].at_ else k + L.length
theorem atK_nil (k i : Nat) : atK k [] i = k := by unfold atK; simp [piecesAt_nil]
theorem atK_zero (k : Nat) (L : List UInt8) : atK k L 0 = k := by
  cases L with
  | nil => exact atK_nil k 0
  | cons b r => unfold atK; simp [piecesAt_cons]
theorem atK_succ (k : Nat) (b : UInt8) (r : List UInt8) (i : Nat) : atK k (b :: r) (i + 1) = atK (k + (pieceOf (b :: r)).n) ((b :: r).drop (pieceOf (b :: r)).n) i := by
  have hf := (piece_fits b r).2.2.1
  have hl : ((b :: r).drop (pieceOf (b :: r)).n).length = (b :: r).length - (pieceOf (b :: r)).n := List.length_drop
  have he := piecesAt_cons k b r
  unfold atK
  by_cases h : i < (piecesAt (k + (pieceOf (b :: r)).n) ((b :: r).drop (pieceOf (b :: r)).n)).length
  · rw [dif_pos h, dif_pos (by rw [he, List.length_cons]; omega)]
    simp only [he, List.getElem_cons_succ]
  · rw [dif_neg h, dif_neg (by rw [he, List.length_cons]; omega), hl]
    omega
theorem atK_ge (n : Nat) : ∀ (k : Nat) (L : List UInt8) (i : Nat), L.length ≤ n → k ≤ atK k L i := by
  induction n with
  | zero =>
    intro k L i h
    obtain rfl : L = [] := List.eq_nil_of_length_eq_zero (by omega)
    rw [atK_nil]; exact Nat.le_refl _
  | succ n ih =>
    intro k L i h
    match L, i with
    | [], i => rw [atK_nil]; exact Nat.le_refl _
    | b :: r, 0 => rw [atK_zero]; exact Nat.le_refl _
    | b :: r, i + 1 =>
      have hf := (piece_fits b r).1
      rw [atK_succ]
      have := ih (k + (pieceOf (b :: r)).n) ((b :: r).drop (pieceOf (b :: r)).n) i (by rw [List.length_drop]; simp at h ⊢; omega)
      omega
/-- They rise. -/
theorem atK_rise (n : Nat) : ∀ (k : Nat) (L : List UInt8) (i j : Nat), L.length ≤ n → i < j → j ≤ (piecesAt k L).length → atK k L i < atK k L j := by
  induction n with
  | zero =>
    intro k L i j h hi hj
    obtain rfl : L = [] := List.eq_nil_of_length_eq_zero (by omega)
    rw [piecesAt_nil] at hj; simp at hj; omega
  | succ n ih =>
    intro k L i j h hi hj
    match L, j with
    | [], j => rw [piecesAt_nil] at hj; simp at hj; omega
    | b :: r, 0 => omega
    | b :: r, j + 1 =>
      have hf := (piece_fits b r).1
      have hl : ((b :: r).drop (pieceOf (b :: r)).n).length ≤ n := by rw [List.length_drop]; simp at h ⊢; omega
      have hj' : j ≤ (piecesAt (k + (pieceOf (b :: r)).n) ((b :: r).drop (pieceOf (b :: r)).n)).length := by rw [piecesAt_cons, List.length_cons] at hj; omega
      rw [atK_succ]
      match i with
      | 0 =>
        rw [atK_zero]
        have := atK_ge n (k + (pieceOf (b :: r)).n) _ j hl
        omega
      | i + 1 =>
        rw [atK_succ]
        exact ih _ _ i j hl (by omega) hj'
theorem atK_end (k : Nat) (L : List UInt8) : atK k L (piecesAt k L).length = k + L.length := by
  unfold atK; rw [dif_neg (by omega)]

/-- Of a text. -/
def atL (L : List UInt8) (i : Nat) : Nat := atK 0 L i
def nP (L : List UInt8) : Nat := (piecesAt 0 L).length
theorem atL_zero (L : List UInt8) : atL L 0 = 0 := atK_zero 0 L
theorem atL_end (L : List UInt8) : atL L (nP L) = L.length := by unfold atL nP; rw [atK_end]; omega
theorem atL_rise (L : List UInt8) {i j : Nat} (h : i < j) (hj : j ≤ nP L) : atL L i < atL L j := atK_rise _ 0 L i j (Nat.le_refl _) h hj
theorem atL_mono (L : List UInt8) {i j : Nat} (h : i ≤ j) (hj : j ≤ nP L) : atL L i ≤ atL L j := by
  rcases Nat.lt_or_ge i j with q | q
  · exact Nat.le_of_lt (atL_rise L q hj)
  · obtain rfl : i = j := by omega
    exact Nat.le_refl _
theorem atL_le (L : List UInt8) {i : Nat} (h : i ≤ nP L) : atL L i ≤ L.length := by
  have := atL_mono L h (Nat.le_refl _)
  rw [atL_end] at this; exact this
theorem atL_inj (L : List UInt8) {i j : Nat} (hi : i ≤ nP L) (hj : j ≤ nP L) (h : atL L i = atL L j) : i = j := by
  rcases Nat.lt_trichotomy i j with q | q | q
  · have := atL_rise L q hj; omega
  · exact q
  · have := atL_rise L q hi; omega
theorem nP_le (L : List UInt8) : nP L ≤ L.length := U.piecesAt_len _ 0 L (Nat.le_refl _)
theorem tris_len (L : List UInt8) : (tris L).length = nP L := by unfold tris nP; simp

/-- The pieces, and one of no bytes at the end. -/
def endE (L : List UInt8) : List Tr := tris L ++ [⟨0, (L.length : Int), 0⟩]
theorem endE_len (L : List UInt8) : (endE L).length = nP L + 1 := by unfold endE; rw [List.length_append, tris_len]; rfl
theorem endE_at (L : List UInt8) {i : Nat} (h : i < (endE L).length) : (endE L)[i].a = (atL L i : Int) := by
  have hl := endE_len L
  unfold endE at h ⊢
  by_cases q : i < (tris L).length
  · rw [List.getElem_append_left q]
    have q2 : i < (piecesAt 0 L).length := by rw [tris_len] at q; exact q
    have e : (tris L)[i] = tri (piecesAt 0 L)[i] := List.getElem_map tri
    rw [e]
    unfold atL atK
    rw [dif_pos q2]
    rfl
  · have e : i = (tris L).length := by simp at h; omega
    subst e
    rw [List.getElem_append_right (Nat.le_refl _)]
    simp only [Nat.sub_self, List.getElem_cons_zero]
    rw [tris_len, atL_end]
theorem endE_ne (L : List UInt8) {i j : Nat} (hi : i < (endE L).length) (hj : j < (endE L).length) : (endE L)[i] = (endE L)[j] ↔ atL L i = atL L j := by
  constructor
  · intro h
    have h1 := endE_at L hi
    have h2 := endE_at L hj
    rw [h] at h1
    omega
  · intro h
    have hl := endE_len L
    have := atL_inj L (i := i) (j := j) (by omega) (by omega) h
    subst this; rfl

/-- The scalars. -/
def valsL (L : List UInt8) : List Int := (tris L).map (·.v)
theorem valsL_len (L : List UInt8) : (valsL L).length = nP L := by unfold valsL; rw [List.length_map, tris_len]
theorem valsL_vals (L : List UInt8) : valsL L = (piecesAt 0 L).map (·.v) := by
  unfold valsL tris
  rw [List.map_map]
  rfl
theorem vals_scal (n : Nat) : ∀ (k : Nat) (L : List UInt8), L.length ≤ n → ((piecesAt k L).map (·.v)).all isB = true := by
  induction n with
  | zero =>
    intro k L h
    obtain rfl : L = [] := List.eq_nil_of_length_eq_zero (by omega)
    simp [piecesAt_nil]
  | succ n ih =>
    intro k L h
    match L with
    | [] => simp [piecesAt_nil]
    | b :: r =>
      have hf := (piece_fits b r).1
      have := ih (k + (pieceOf (b :: r)).n) ((b :: r).drop (pieceOf (b :: r)).n) (by rw [List.length_drop]; simp at h ⊢; omega)
      rw [piecesAt_cons, List.map_cons, List.all_cons, this]
      simp [U.piece_isB b r]
theorem isB_scalB (v : Int) : isB v = scalB v := by
  cases h : scalB v with
  | true => exact (U.isB_iff v).2 ((scalB_iff v).1 h)
  | false =>
    cases q : isB v with
    | false => rfl
    | true => rw [(scalB_iff v).2 ((U.isB_iff v).1 q)] at h; cases h
theorem okW_vals {t : Tb} (h : Vd t) (L : List UInt8) : okW t (valsL L) = true := by
  have := vals_scal _ 0 L (Nat.le_refl _)
  rw [← valsL_vals] at this
  unfold okW
  rw [List.all_eq_true] at this ⊢
  intro x hx
  rw [ofB_vd h, ← isB_scalB]
  exact this x hx

/-- The places that break, as natural numbers. -/
def plN (t : Tb) (l : List Int) (k : Nat) : List Nat := (List.range k).filter fun i => brkN t (stW t (l.take i))
theorem plK_plN (t : Tb) (l : List Int) (k : Nat) : plK t l k = (plN t l k).map fun i => ((i : Nat) : Int) := rfl
theorem plN_lt {t : Tb} {l : List Int} {k i : Nat} (h : i ∈ plN t l k) : i < k := by
  unfold plN at h
  have := (List.mem_filter.1 h).1
  simpa using this
theorem plN_sorted (t : Tb) (l : List Int) (k : Nat) : (plN t l k).Pairwise (· < ·) := List.Pairwise.filter _ List.pairwise_lt_range
theorem brW_is (t : Tb) (L : List UInt8) : brW t (valsL L) = if errV t = 0 then some (plK t (valsL L) (nP L + 1)) else none := by
  unfold brW
  rw [valsL_len]
  by_cases h : errV t = 0
  · rw [if_pos h, if_pos ⟨h, okW_vals (errV_ok.1 h) L⟩]
  · rw [if_neg h, if_neg (fun x => h x.1)]

/-- The pieces ahead of which there is a break. -/
def brN (t : Tb) (L : List UInt8) : List Nat := plN t (valsL L) (nP L + 1)
theorem brN_le {t : Tb} {L : List UInt8} {i : Nat} (h : i ∈ brN t L) : i ≤ nP L := by have := plN_lt h; omega
theorem brN_sorted (t : Tb) (L : List UInt8) : (brN t L).Pairwise (· < ·) := plN_sorted _ _ _
theorem brN_len (t : Tb) (L : List UInt8) : (brN t L).length ≤ nP L + 1 := by
  have := plK_len t (valsL L) (nP L + 1)
  rw [plK_plN, List.length_map] at this
  exact this
/-- The bytes. -/
def ofA (t : Tb) (L : List UInt8) : List Nat := (brN t L).map (atL L)
def natI (l : List Nat) : List Int := l.map fun i => ((i : Nat) : Int)
def ofS (t : Tb) (L : List UInt8) : Option (List Int) := if errV t = 0 then some (natI (ofA t L)) else none
theorem ofA_len (t : Tb) (L : List UInt8) : (ofA t L).length = (brN t L).length := by unfold ofA; simp
theorem pairwise_at (L : List UInt8) : ∀ (l : List Nat), (∀ i ∈ l, i ≤ nP L) → l.Pairwise (· < ·) → (l.map (atL L)).Pairwise (· < ·)
  | [], _, _ => by simp
  | a :: l, h, hp => by
    rw [List.pairwise_cons] at hp
    rw [List.map_cons, List.pairwise_cons]
    refine ⟨fun x hx => ?_, pairwise_at L l (fun i hi => h i (List.mem_cons_of_mem _ hi)) hp.2⟩
    obtain ⟨i, hi, rfl⟩ := List.mem_map.1 hx
    exact atL_rise L (hp.1 i hi) (h i (List.mem_cons_of_mem _ hi))
theorem ofA_sorted (t : Tb) (L : List UInt8) : (ofA t L).Pairwise (· < ·) := pairwise_at L _ (fun i hi => brN_le hi) (brN_sorted t L)
theorem ofA_le {t : Tb} {L : List UInt8} {x : Nat} (h : x ∈ ofA t L) : x ≤ L.length := by
  obtain ⟨i, hi, rfl⟩ := List.mem_map.1 h
  exact atL_le L (brN_le hi)

/-- What is cut from f on at these places. -/
def cutsF (L : List UInt8) : Nat → List Nat → List (List UInt8)
  | _, [] => []
  | f, x :: r => (if f < x then [(L.drop f).take (x - f)] else []) ++ cutsF L x r
def cutA (t : Tb) (L : List UInt8) : List (List UInt8) := cutsF L 0 (ofA t L ++ [L.length])
def cutS (t : Tb) (L : List UInt8) : Option (List (List UInt8)) := if errV t = 0 then some (cutA t L) else none
theorem cutsF_len (L : List UInt8) : ∀ (r : List Nat) (f : Nat), (cutsF L f r).length ≤ r.length
  | [], _ => by simp [cutsF]
  | x :: r, f => by
    have := cutsF_len L r x
    unfold cutsF
    rw [List.length_append, List.length_cons]
    split <;> simp <;> omega
theorem cutsF_ne (L : List UInt8) : ∀ (r : List Nat) (f : Nat), (∀ x ∈ r, x ≤ L.length) → ∀ b ∈ cutsF L f r, b ≠ []
  | [], _, _, b, h => by simp [cutsF] at h
  | x :: r, f, hx, b, h => by
    unfold cutsF at h
    rcases List.mem_append.1 h with h | h
    · by_cases q : f < x
      · rw [if_pos q] at h
        simp only [List.mem_singleton] at h
        subst h
        intro e
        have := congrArg List.length e
        have h2 := hx x (by simp)
        simp [List.length_take, List.length_drop] at this
        omega
      · rw [if_neg q] at h; simp at h
    · exact cutsF_ne L r x (fun y hy => hx y (List.mem_cons_of_mem _ hy)) b h
/-- One behind the other they are the text from there to the last one. -/
theorem cutsF_flat (L : List UInt8) : ∀ (r : List Nat) (f z : Nat), (r ++ [z]).Pairwise (· ≤ ·) → (∀ x ∈ r ++ [z], f ≤ x ∧ x ≤ L.length) → (cutsF L f (r ++ [z])).flatten = (L.drop f).take (z - f)
  | [], f, z, _, h => by
    have := h z (by simp)
    simp only [List.nil_append, cutsF, List.append_nil]
    split
    · simp
    · rw [show z - f = 0 by omega]; simp
  | x :: r, f, z, hp, h => by
    have hx := h x (by simp)
    have hz := h z (by simp)
    rw [List.cons_append, List.pairwise_cons] at hp
    have hxz := hp.1 z (by simp)
    have ih := cutsF_flat L r x z hp.2 (fun y hy => ⟨hp.1 y hy, (h y (by simpa using Or.inr (by simpa using hy))).2⟩)
    rw [List.cons_append, cutsF, List.flatten_append, ih]
    split
    · rename_i q
      simp only [List.flatten_cons, List.flatten_nil, List.append_nil]
      rw [show z - f = (x - f) + (z - x) by omega, List.take_add, List.drop_drop, show f + (x - f) = x by omega]
    · rename_i q
      obtain rfl : f = x := by omega
      simp
theorem pairwise_le {l : List Nat} (h : l.Pairwise (· < ·)) : l.Pairwise (· ≤ ·) := h.imp (fun q => Nat.le_of_lt q)
theorem ends_le (t : Tb) (L : List UInt8) : (ofA t L ++ [L.length]).Pairwise (· ≤ ·) := by
  rw [List.pairwise_append]
  exact ⟨pairwise_le (ofA_sorted t L), by simp, fun a ha b hb => by simp at hb; subst hb; exact ofA_le ha⟩
theorem cutA_flat (t : Tb) (L : List UInt8) : (cutA t L).flatten = L := by
  unfold cutA
  rw [cutsF_flat L _ 0 _ (ends_le t L) (fun x hx => ⟨Nat.zero_le _, by
    rcases List.mem_append.1 hx with h | h
    · exact ofA_le h
    · simp at h; omega⟩)]
  simp
/-- As many as breaks within, and one, of a text that is not empty. -/
def inL (n : Nat) (x : Nat) : Bool := decide (0 < x) && decide (x < n)
theorem cutsF_count (L : List UInt8) : ∀ (r : List Nat) (f : Nat), (r ++ [L.length]).Pairwise (· ≤ ·) → r.Pairwise (· < ·) → (∀ x ∈ r, f < x) → f < L.length → (cutsF L f (r ++ [L.length])).length = (r.filter (fun x => decide (x < L.length))).length + 1
  | [], f, _, _, _, hf => by simp [cutsF, hf]
  | x :: r, f, hp, hs, h, hf => by
    have hx := h x (by simp)
    rw [List.cons_append, List.pairwise_cons] at hp
    rw [List.pairwise_cons] at hs
    have hxL := hp.1 L.length (by simp)
    rw [List.cons_append, cutsF, if_pos hx, List.length_append]
    by_cases q : x < L.length
    · rw [cutsF_count L r x hp.2 hs.2 hs.1 q, List.filter_cons, if_pos (by simpa using q)]
      simp; omega
    · have hr : r = [] := by
        cases r with
        | nil => rfl
        | cons y r =>
          have h1 := hs.1 y (by simp)
          have h2 := (List.pairwise_cons.1 hp.2).1 L.length (by simp)
          omega
      subst hr
      rw [List.filter_cons, if_neg (by simpa using q)]
      simp [cutsF, show ¬ x < L.length from q]
theorem cutA_count (t : Tb) (L : List UInt8) (h : L ≠ []) : (cutA t L).length = ((ofA t L).filter (inL L.length)).length + 1 := by
  have hL : 0 < L.length := by cases L with
    | nil => exact absurd rfl h
    | cons a b => simp
  have hs := ofA_sorted t L
  have hp := ends_le t L
  unfold cutA
  revert hs hp
  generalize ofA t L = r
  intro hs hp
  cases r with
  | nil => simp [cutsF, hL]
  | cons x r =>
    rw [List.cons_append, List.pairwise_cons] at hp
    rw [List.pairwise_cons] at hs
    have hin : ∀ l : List Nat, (∀ y ∈ l, 0 < y) → l.filter (inL L.length) = l.filter (fun y => decide (y < L.length)) := fun l hl => List.filter_congr (fun y hy => by unfold inL; rw [decide_eq_true (hl y hy), Bool.true_and])
    by_cases q : 0 < x
    · rw [hin (x :: r) (fun y hy => by rcases List.mem_cons.1 hy with rfl | hy; exact q; have := hs.1 y hy; omega)]
      exact cutsF_count L (x :: r) 0 (by rw [List.cons_append, List.pairwise_cons]; exact hp) (by rw [List.pairwise_cons]; exact hs) (fun y hy => by rcases List.mem_cons.1 hy with rfl | hy; exact q; have := hs.1 y hy; omega) hL
    · obtain rfl : x = 0 := by omega
      rw [List.cons_append, cutsF, if_neg (by omega), List.nil_append, cutsF_count L r 0 hp.2 hs.2 (fun y hy => hs.1 y hy) hL, List.filter_cons, if_neg (by simp [inL]), hin r (fun y hy => hs.1 y hy)]
theorem cutA_nil (t : Tb) : cutA t [] = [] := by
  have h : ∀ x ∈ ofA t [], x = 0 := fun x hx => by have := ofA_le hx; simpa using this
  unfold cutA
  revert h
  generalize ofA t [] = r
  intro h
  have key : ∀ r : List Nat, (∀ x ∈ r, x = 0) → cutsF [] 0 r = [] := by
    intro r
    induction r with
    | nil => intro _; rfl
    | cons a r ih =>
      intro h
      obtain rfl := h a (by simp)
      rw [cutsF, if_neg (by omega), ih (fun x hx => h x (by simp [hx]))]; rfl
  exact key _ (fun x hx => by
    rcases List.mem_append.1 hx with q | q
    · exact h x q
    · simpa using q)
end Go.Proofs.YtmhfgncffkfelaaDoor

/- Rows of pieces and of texts (stage 9); what endedPieces and brokenAhead return. -/
namespace Go.Proofs.YtmhfgncffkfelaaDoor
open Go.RowKit Go.BigFrame
open U (Tr tcells tcell tris Tab)
set_option linter.unusedVariables false
set_option maxRecDepth 4000
set_option linter.unusedSimpArgs false

theorem infoP : (Tryd.prog.info? 70).map (fun i => (i.zero, i.size, i.bytes)) = some (some (.agg #[.int .i64 0, .int .i64 0, .int .i64 0]), 3, 24) := by kernel_rfl
theorem infoSt : (Tryd.prog.info? 9).map (fun i => (i.zero, i.size, i.bytes)) = some (some (.string ⟨#[]⟩), 1, 16) := by kernel_rfl
/-- A row of pieces. -/
def RP (w : World) (B : Nat) (A : Option Addr) (n : Nat) (E : List Tr) : Prop := E.length = n ∧ Reads w B 3 A n (tcells E)
theorem RP.on {w w' : World} {n : Nat} {A : Option Addr} {l : List Tr} (h : RP w w.heap.size A n l) (g : Below w.heap.size w w') : RP w' w'.heap.size A n l := ⟨h.1, reads_on h.2 g⟩
theorem own_RP {w : World} {base n c : Nat} {A : Option Addr} {l : List Tr} (h : w.ownsRow base 70 3 (.slice A n c) n (tcells l)) : RP w w.heap.size A n l := ⟨by have := h.1; rw [U.tcells_len] at this; omega, Reads.of_own h⟩
theorem RP.at {w : World} {B n : Nat} {A : Option Addr} {l : List Tr} (h : RP w B A n l) {k : Nat} (hk : k < l.length) : ∃ b o, A = some ⟨b, o, none⟩ ∧ b < B ∧ w.cell? ⟨b, o + k * 3, none⟩ = some (.int .i64 l[k].v) ∧ w.cell? ⟨b, o + k * 3 + 1, none⟩ = some (.int .i64 l[k].a) ∧ w.cell? ⟨b, o + k * 3 + 2, none⟩ = some (.int .i64 l[k].n) := by
  have h1 := h.1
  obtain ⟨b, o, rfl, hb, hc⟩ := h.2.2 (by omega)
  obtain ⟨h0, h1, h2⟩ := U.tcells_at l k hk
  exact ⟨b, o, rfl, hb, hc _ _ h0, by rw [Nat.add_assoc]; exact hc _ _ h1, by rw [Nat.add_assoc]; exact hc _ _ h2⟩
theorem tcells_one (l : List Tr) : ∀ u ∈ tcells l, u.oneCell' = true := by
  intro u hu
  simp only [tcells, List.mem_flatMap] at hu
  obtain ⟨p, _, hp⟩ := hu
  simp [tcell] at hp
  rcases hp with rfl | rfl | rfl <;> rfl
theorem tcells_snoc (l : List Tr) (p : Tr) : tcells (l ++ [p]) = tcells l ++ tcell p := by simp [tcells]
theorem reads_tr (w : World) (x y z : Int) (t : TypeId) : Reads (w.alloc (.cells #[.int .i64 x, .int .i64 y, .int .i64 z] t)) (w.heap.size + 1) 3 (some ⟨w.heap.size, 0, none⟩) 1 (tcells [⟨x, y, z⟩]) := U.reads_new w [⟨x, y, z⟩] t
theorem RP.take {w : World} {B n : Nat} {A : Option Addr} {l : List Tr} (h : RP w B A n l) {k : Nat} (hk : k ≤ n) : RP w B A k (l.take k) := by
  have hl := h.1
  refine ⟨by rw [List.length_take]; omega, by rw [U.tcells_len, List.length_take]; omega, fun hp => ?_⟩
  obtain ⟨b, o, e, hb, hc⟩ := h.2.2 (by omega)
  refine ⟨b, o, e, hb, fun j u hu => hc j u ?_⟩
  have e2 : tcells l = tcells (l.take k) ++ tcells (l.drop k) := by
    have : l = l.take k ++ l.drop k := (List.take_append_drop k l).symm
    unfold tcells
    rw [← List.flatMap_append, List.take_append_drop]
  rw [e2, List.getElem?_append_left (List.getElem?_eq_some_iff.1 hu).1]
  exact hu
/-- A row of texts. -/
def scells (l : List (List UInt8)) : List Value := l.map fun b => .string (U.strOf b)
theorem scells_len (l : List (List UInt8)) : (scells l).length = l.length := by simp [scells]
theorem scells_snoc (l : List (List UInt8)) (x : List UInt8) : scells (l ++ [x]) = scells l ++ [.string (U.strOf x)] := by simp [scells]
theorem scells_one (l : List (List UInt8)) : ∀ u ∈ scells l, u.oneCell' = true := by
  intro u hu
  simp only [scells, List.mem_map] at hu
  obtain ⟨x, _, rfl⟩ := hu
  rfl
def RS (w : World) (B : Nat) (A : Option Addr) (n : Nat) (l : List (List UInt8)) : Prop := l.length = n ∧ Reads w B 1 A n (scells l)
theorem RS.on {w w' : World} {n : Nat} {A : Option Addr} {l : List (List UInt8)} (h : RS w w.heap.size A n l) (g : Below w.heap.size w w') : RS w' w'.heap.size A n l := ⟨h.1, reads_on h.2 g⟩
theorem own_RS {w : World} {base n c : Nat} {A : Option Addr} {l : List (List UInt8)} (h : w.ownsRow base 9 1 (.slice A n c) n (scells l)) : RS w w.heap.size A n l := ⟨by have := h.1; rw [scells_len] at this; omega, Reads.of_own h⟩
theorem RS.at {w : World} {B n : Nat} {A : Option Addr} {l : List (List UInt8)} (h : RS w B A n l) {k : Nat} (hk : k < l.length) : ∃ b o, A = some ⟨b, o, none⟩ ∧ b < B ∧ w.cell? ⟨b, o + k, none⟩ = some (.string (U.strOf l[k])) := by
  have h1 := h.1
  obtain ⟨b, o, rfl, hb, hc⟩ := h.2.2 (by omega)
  exact ⟨b, o, rfl, hb, hc k _ (by unfold scells; rw [List.getElem?_map, List.getElem?_eq_getElem hk]; rfl)⟩
theorem reads_st (w : World) (x : List UInt8) (t : TypeId) : Reads (w.alloc (.cells #[.string (U.strOf x)] t)) (w.heap.size + 1) 1 (some ⟨w.heap.size, 0, none⟩) 1 (scells [x]) := by
  refine ⟨rfl, fun _ => ⟨w.heap.size, 0, rfl, by omega, fun j u hu => ?_⟩⟩
  rw [World.cell?_alloc_mark, Nat.zero_add]
  simpa [scells] using hu

theorem pieces_own (s : ByteArray) (w : World) (hs : s.size ≤ 1048576) (hT : Tab w) : Calls Tryd.prog 38 #[.string s] w fun e w' => ∃ A c, e = .returned (.slice A (nP s.data.toList) c) ∧ w'.ownsRow w.heap.size 70 3 (.slice A (nP s.data.toList) c) (nP s.data.toList) (tcells (tris s.data.toList)) ∧ Below w.heap.size w w' :=
  (U.pieces_any s w hs hT).mono fun e w' ⟨A, c, he, ho, hb⟩ => ⟨A, c, he, by unfold U.tris; rw [U.tcells_tri]; exact ho, hb⟩
def OutE (L : List UInt8) (w : World) (e : Ending) (w' : World) : Prop := ∃ A c, e = .returned (.slice A (nP L + 1) c) ∧ w'.ownsRow w.heap.size 70 3 (.slice A (nP L + 1) c) (nP L + 1) (tcells (endE L)) ∧ Below w.heap.size w w'
set_option maxHeartbeats 2000000 in
theorem ended_any (s : ByteArray) (w : World) (hs : s.size ≤ 100000) (hT : Tab w) : Calls Tryd.prog 85 #[.string s] w (OutE s.data.toList w) := by
  obtain ⟨i0, hi0, hz0, hz1, hz2⟩ := info_parts infoP
  have HP := Lib.hid (pieces_own s w (by omega) hT)
  have HN : Hid (nP s.data.toList ≤ 100000) := Lib.hid (by have := nP_le s.data.toList; have h2 : s.data.toList.length = s.size := Array.length_toList; omega)
  have HE : Hid (tcells (endE s.data.toList) = tcells (tris s.data.toList) ++ tcells [⟨0, (s.size : Int), 0⟩]) := Lib.hid (by
    have h2 : s.data.toList.length = s.size := Array.length_toList
    unfold endE tcells
    rw [List.flatMap_append, h2])
  clear hT
  unfold OutE
  rw [HE.out]
  generalize tcells (tris s.data.toList) = cs at *
  have hn := HN.out
  generalize nP s.data.toList = n at *
  clear HE HN
  go_enter Tryd.func85, Tryd.ntmps85
  go_wp2_with fail
  refine HP.out.mono ?_
  rintro e w1 ⟨A, c, rfl, hown, g⟩
  have HRd := Lib.hid (reads_tr w1 0 s.size 0 70)
  have HOne := Lib.hid (tcells_one [⟨0, (s.size : Int), 0⟩])
  have HOa := Lib.hid (hown.alloc (.cells #[.int .i64 0, .int .i64 s.size, .int .i64 0] 70))
  have hsz := g.size
  have HB := Lib.hid (g.trans ((below_new w1 (.cells #[.int .i64 0, .int .i64 s.size, .int .i64 0] 70)).mono hsz))
  clear hown g HP
  go_wp2_with (at_builtin; refine wpList_append_src rfl _ _ 67 rfl w.heap.size 70 i0 _ 3 24 Tryd.underlying67 hi0 hz0 hz1 hz2 rfl (by decide) _ _ _ rfl HOa.out (some ⟨w1.heap.size, 0, none⟩) 1 1 (w1.heap.size + 1) (tcells [⟨0, (s.size : Int), 0⟩]) rfl (fun h => by cases h) HRd.out HOne.out ?n3 ?n4 ?n5 ?_)
  case n3 => unfold maxLen; omega
  case n4 => omega
  case n5 => first | omega | (simp; omega)
  intro A9 c9 w9 hown9 hn9 hgrow9
  have HB9 := Lib.hid (below_grown HB.out HB.out.size HOa.out hgrow9)
  have HO9 := Lib.hid hown9
  clear hown9 hgrow9 HOa HRd HOne HB
  go_wp2_with fail
  go_ret
  exact ⟨A9, c9, rfl, HO9.out, HB9.out⟩

/-- The pieces ahead of which there is a break. -/
def trAt (L : List UInt8) (i : Nat) : Tr := (endE L).getD i ⟨0, 0, 0⟩
theorem trAt_is (L : List UInt8) {i : Nat} (h : i < (endE L).length) : trAt L i = (endE L)[i] := by unfold trAt; rw [List.getD_eq_getElem?_getD, List.getElem?_eq_getElem h]; rfl
theorem trAt_a (L : List UInt8) {i : Nat} (h : i ≤ nP L) : (trAt L i).a = (atL L i : Int) := by
  have hl := endE_len L
  rw [trAt_is L (by omega)]; exact endE_at L (by omega)
def brT (t : Tb) (L : List UInt8) : List Tr := (brN t L).map (trAt L)
def brE (t : Tb) (L : List UInt8) : Option (List Tr) := if errV t = 0 then some (brT t L) else none
theorem brT_len (t : Tb) (L : List UInt8) : (brT t L).length = (brN t L).length := by unfold brT; simp
theorem brT_a (t : Tb) (L : List UInt8) : (brT t L).map (·.a) = natI (ofA t L) := by
  unfold brT natI ofA
  rw [List.map_map, List.map_map]
  refine List.map_congr_left fun i hi => ?_
  exact trAt_a L (brN_le hi)
def OutTp (r : Option (List Tr)) (w : World) (e : Ending) (w' : World) : Prop := ∃ (A : Option Addr) (c : Nat), e = .returned (.tuple #[.slice A (r.getD []).length c, .bool r.isSome]) ∧ w'.ownsRow w.heap.size 70 3 (.slice A (r.getD []).length c) (r.getD []).length (tcells (r.getD [])) ∧ Below w.heap.size w w'
theorem OutTp.no {r : Option (List Tr)} {w w' : World} (h : r = none) (b : Below w.heap.size w w') : OutTp r w (.returned (.tuple #[.slice none 0 0, .bool false])) w' := by
  subst h
  exact ⟨none, 0, rfl, World.ownsRow_nil _ _ _ _, b⟩
theorem vals_take (L : List UInt8) {k : Nat} (hk : k < nP L) (h : k < (endE L).length) : (valsL L).take (k + 1) = (valsL L).take k ++ [(endE L)[k].v] := by
  have hl := valsL_len L
  have hk2 : k < (tris L).length := by rw [tris_len]; exact hk
  have hk3 : k < (valsL L).length := by omega
  have e1 : (valsL L)[k] = (tris L)[k].v := List.getElem_map _
  have e2 : (endE L)[k] = (tris L)[k] := List.getElem_append_left hk2
  rw [take_one hk3, e1, e2]
theorem icells_snoc' (l : List Int) (x : Int) : icells (l ++ [x]) = icells l ++ icells [x] := by simp [icells]
theorem natK_at (l : List Nat) {k : Nat} (h : k < l.length) (h2 : k < (natI l).length) : (natI l)[k] = (l[k] : Int) := List.getElem_map _

set_option maxHeartbeats 8000000 in
theorem broken_any (T : TV) (L : List UInt8) (M n : Nat) (hM : nP L = M) (hn : n = M + 1) (A : Option Addr) (c : Nat) (w : World) (hT : T.ok w) (hR : RP w w.heap.size A n (endE L)) (hc : n ≤ c) (hb : M ≤ 99999) :
    Calls Tryd.prog 84 #[T.v, .slice A n c] w (OutTp (brE T.tb L) w) := by
  obtain ⟨i0, hi0, hz0, hz1, hz2⟩ := info_parts info3
  obtain ⟨j0, hj0, hy0, hy1, hy2⟩ := info_parts infoP
  have b0 := below_new w (.cells #[.int .i64 T.cl, .slice T.a1 T.n1 T.c1, .slice T.a2 T.n2 T.c2, .slice T.a3 T.n3 T.c3] 26)
  have HX := Lib.hid (box_new w T)
  have HLe : Hid ((endE L).length = n) := Lib.hid hR.1
  have HMn : Hid (n = M + 1) := Lib.hid hn
  have HLv : Hid ((valsL L).length = M) := Lib.hid (by rw [valsL_len, hM])
  have HMp := Lib.hid hM
  obtain ⟨bA, oA, hA, hcl⟩ := hR.at (k := 0) (by rw [HLe.out]; omega)
  clear hcl
  subst hA
  have HR := Lib.hid (fun W (g : Below w.heap.size w W) => hR.on g)
  have HBr : Hid (∀ A' c' V, Below w.heap.size w V → RI V V.heap.size A' M (valsL L) → Calls Tryd.prog 101 #[T.v, .slice A' M c'] V (OutPl (if errV T.tb = 0 then some (plK T.tb (valsL L) (M + 1)) else none) V)) := Lib.hid (fun A' c' V g h2 => by
    have := wbreaks_any T (valsL L) M A' c' V (hT.on g) h2 (by omega)
    rwa [brW_is, hM] at this)
  have HPl : Hid (plK T.tb (valsL L) (M + 1) = natI (brN T.tb L)) := Lib.hid (by rw [← hM]; rfl)
  have HZl : Hid ((brN T.tb L).length ≤ M + 1) := Lib.hid (by rw [← hM]; exact brN_len T.tb L)
  have HZm : Hid (∀ k (h : k < (brN T.tb L).length), (brN T.tb L)[k] < n) := Lib.hid (fun k h => by have := brN_le (List.getElem_mem h); omega)
  have h1n : 1 ≤ n := by omega
  have hMc : M ≤ c := by omega
  have hnb : n ≤ 100000 := by omega
  have e1 : IntKind.i64.wrap ((n : Int) - 1) = (M : Int) := by rw [IntKind.wrap_i64]; omega
  have e2 : (n : Int) - 1 = (M : Int) := by omega
  clear hT hR hM hn
  simp only [TV.v] at *
  generalize T.tb = tb at *
  obtain ⟨_, p0, p1, p2, p3⟩ := HX.out
  go_enter Tryd.func84, Tryd.ntmps84
  go_wp2_with fail
  generalize w.alloc (.cells #[.int .i64 T.cl, .slice T.a1 T.n1 T.c1, .slice T.a2 T.n2 T.c2, .slice T.a3 T.n3 T.c3] 26) = w1 at *
  clear p0 p1 p2 p3
  have hw1 : w.heap.size ≤ w1.heap.size := b0.size
  have HB1 := Lib.hid b0
  clear b0
  go_loopw [6, 20] (fun vs vi wr => ∃ (k c6 : Nat) (A6 : Option Addr), vi = .int .i64 k ∧ k ≤ M ∧ vs = .slice A6 k c6 ∧ Hid (wr.ownsRow w1.heap.size 3 1 (.slice A6 k c6) k (icells ((valsL L).take k))) ∧ Hid (Below w1.heap.size w1 wr)) (fun _ vi _ => M - (intOf vi).toNat)
  case atStart => exact ⟨0, 0, none, rfl, Nat.zero_le _, rfl, Lib.hid (World.ownsRow_nil _ _ _ _), Lib.hid (Below.refl _ _)⟩
  case round =>
    obtain ⟨k, c6, A6, rfl, hk, rfl, HO, HB⟩ := hrel
    by_cases hlt : k < M
    · have kl : k < (endE L).length := by have := HLe.out; omega
      obtain ⟨bb, oo, hA, _, q0, q1, q2⟩ := (HR.out _ (HB1.out.trans (HB.out.mono hw1))).at kl
      injection hA with hA
      injection hA with hA1 hA2
      subst hA1 hA2
      have HTk : Hid ((valsL L).take (k + 1) = (valsL L).take k ++ [(endE L)[k].v]) := Lib.hid (vals_take L (by rw [HMp.out]; exact hlt) kl)
      generalize (endE L)[k].v = x at *
      generalize (endE L)[k].a = y at *
      generalize (endE L)[k].n = z at *
      have hws := HB.out.size
      have HRd : Hid (Reads ((wr.alloc (.cells #[.int .i64 x, .int .i64 y, .int .i64 z] 70)).alloc (.cells #[.int .i64 x] 3)) (wr.heap.size + 1 + 1) 1 (some ⟨wr.heap.size + 1, 0, none⟩) 1 (icells [x])) := Lib.hid (by
        have h := reads_int (wr.alloc (.cells #[.int .i64 x, .int .i64 y, .int .i64 z] 70)) x
        simpa using h)
      have HOne := Lib.hid (icells_one [x])
      have HOa := Lib.hid ((HO.out.alloc (.cells #[.int .i64 x, .int .i64 y, .int .i64 z] 70)).alloc (.cells #[.int .i64 x] 3))
      have HBa := Lib.hid ((HB.out.alloc hws (.cells #[.int .i64 x, .int .i64 y, .int .i64 z] 70)).alloc (by simp; omega) (.cells #[.int .i64 x] 3))
      clear HO HB
      go_wp2_with (at_builtin; refine wpList_append_src rfl _ _ 51 rfl w1.heap.size 3 i0 _ 1 8 Tryd.underlying51 hi0 hz0 hz1 hz2 rfl (by decide) _ _ _ rfl HOa.out (some ⟨wr.heap.size + 1, 0, none⟩) 1 1 (wr.heap.size + 1 + 1) (icells [x]) rfl (fun h => by cases h) HRd.out HOne.out ?n3 ?n4 ?n5 ?_)
      case n3 => unfold maxLen; omega
      case n4 => omega
      case n5 => first | omega | (simp; omega)
      intro A9 c9 w9 hown9 hn9 hgrow9
      have HB9 : Hid (Below w1.heap.size w1 w9) := Lib.hid (below_grown HBa.out HBa.out.size HOa.out hgrow9)
      have HO9 : Hid (w9.ownsRow w1.heap.size 3 1 (.slice A9 (k + 1) c9) (k + 1) (icells ((valsL L).take (k + 1)))) := Lib.hid (by rw [HTk.out, icells_snoc']; exact hown9)
      clear hown9 hgrow9 HOa HRd HOne HBa HTk q0 q1 q2
      go_wp2_with fail
      go_roundw
      case rel => exact ⟨k + 1, c9, A9, by go_num, by omega, rfl, HO9, HB9⟩
      case measure => simp [intOf]; omega
    · obtain rfl : k = M := by omega
      have HTl : Hid ((valsL L).take k = valsL L) := Lib.hid (List.take_of_length_le (by rw [HLv.out]; exact Nat.le_refl _))
      rw [HTl.out] at HO
      obtain ⟨_, p0, p1, p2, p3⟩ := HX.out.on HB.out
      have HC := Lib.hid (HBr.out A6 c6 wr (HB1.out.trans (HB.out.mono hw1)) (own_RI HO.out))
      have HB2 := Lib.hid (HB1.out.trans (HB.out.mono hw1))
      clear HTl HBr HB1 HB HO HX
      by_cases he : errV tb = 0
      case neg =>
        rw [if_neg he] at HC
        have HE : Hid (brE tb L = none) := Lib.hid (by unfold brE; rw [if_neg he])
        clear he
        go_wp2_with fail
        refine HC.out.mono ?_
        rintro e w3 ⟨A3, c3, rfl, hown, g⟩
        simp only [Option.isSome_none, Option.getD_none, List.length_nil]
        have HB3 := Lib.hid (HB2.out.trans (g.mono HB2.out.size))
        clear hown g HC
        go_wp2_with fail
        go_ret2
        exact OutTp.no HE.out HB3.out
      case pos =>
        rw [if_pos he, HPl.out] at HC
        have HE : Hid (brE tb L = some (brT tb L)) := Lib.hid (by unfold brE; rw [if_pos he])
        have HNl : Hid ((natI (brN tb L)).length = (brN tb L).length) := Lib.hid (by simp [natI])
        have HTl : Hid ((brT tb L).length = (brN tb L).length) := Lib.hid (brT_len tb L)
        have HTa : Hid (∀ j (h : j < (brN tb L).length) (h2 : (brN tb L)[j] < (endE L).length), (brT tb L).take (j + 1) = (brT tb L).take j ++ [(endE L)[(brN tb L)[j]]]) := Lib.hid (fun j h h2 => by
          have h3 : j < (brT tb L).length := by rw [brT_len]; exact h
          have e1 : (brT tb L)[j] = trAt L (brN tb L)[j] := List.getElem_map _
          rw [take_one h3, e1, trAt_is L h2])
        clear he HPl
        go_wp2_with fail
        refine HC.out.mono ?_
        rintro e w3 ⟨A3, c3, rfl, hown, g⟩
        simp only [Option.isSome_some, Option.getD_some] at hown ⊢
        have HB3 := Lib.hid (HB2.out.trans (g.mono HB2.out.size))
        have HRI := Lib.hid (own_RI hown)
        have hw3 := HB3.out.size
        clear hown g HC HB2 p0 p1 p2 p3
        obtain ⟨Z, hZ⟩ : ∃ Z, (brN tb L).length = Z := ⟨_, rfl⟩
        have hZb : Z ≤ 100000 := by have := HZl.out; omega
        rw [HNl.out, hZ] at HRI ⊢
        rw [hZ] at HTl
        have HZ := Lib.hid hZ
        clear hZ
        go_wp2_with fail
        go_loopw [11, 40] (fun vs vi wx => ∃ (j c7 : Nat) (A7 : Option Addr), vi = .int .i64 j ∧ j ≤ Z ∧ vs = .slice A7 j c7 ∧ Hid (wx.ownsRow w3.heap.size 70 3 (.slice A7 j c7) j (tcells ((brT tb L).take j))) ∧ Hid (Below w3.heap.size w3 wx)) (fun _ vi _ => Z - (intOf vi).toNat)
        case atStart => exact ⟨0, 0, none, rfl, Nat.zero_le _, rfl, Lib.hid (World.ownsRow_nil _ _ _ _), Lib.hid (Below.refl _ _)⟩
        case round =>
          rename World => wx
          obtain ⟨j, c7, A7, rfl, hj, rfl, HO, HB⟩ := hrel
          by_cases hjl : j < Z
          · have jl : j < (brN tb L).length := by rw [HZ.out]; exact hjl
            have jn : j < (natI (brN tb L)).length := by rw [HNl.out]; exact jl
            obtain ⟨b8, o8, hA8, _, r0⟩ := (HRI.out.on HB.out).at jn
            rw [natK_at _ jl jn] at r0
            have hpl := HZm.out j jl
            have kl : (brN tb L)[j] < (endE L).length := by rw [HLe.out]; exact hpl
            have HTk := Lib.hid (HTa.out j jl kl)
            obtain ⟨bb, oo, hA, _, q0, q1, q2⟩ := (HR.out _ (HB3.out.trans (HB.out.mono hw3))).at kl
            injection hA with hA
            injection hA with hA1 hA2
            subst hA1 hA2 hA8
            generalize (endE L)[(brN tb L)[j]] = P at *
            generalize (brN tb L)[j] = pl at *
            obtain ⟨x, y, z⟩ := P
            simp only [] at q0 q1 q2
            have hws := HB.out.size
            have HRd := Lib.hid (reads_tr wx x y z 70)
            have HOne := Lib.hid (tcells_one [⟨x, y, z⟩])
            have HOa := Lib.hid (HO.out.alloc (.cells #[.int .i64 x, .int .i64 y, .int .i64 z] 70))
            have HBa := Lib.hid (HB.out.alloc hws (.cells #[.int .i64 x, .int .i64 y, .int .i64 z] 70))
            have hplI : (pl : Int) < (n : Int) := by omega
            clear HO HB
            go_wp2_with (at_builtin; refine wpList_append_src rfl _ _ 67 rfl w3.heap.size 70 j0 _ 3 24 Tryd.underlying67 hj0 hy0 hy1 hy2 rfl (by decide) _ _ _ rfl HOa.out (some ⟨wx.heap.size, 0, none⟩) 1 1 (wx.heap.size + 1) (tcells [⟨x, y, z⟩]) rfl (fun h => by cases h) HRd.out HOne.out ?n3 ?n4 ?n5 ?_)
            case n3 => unfold maxLen; omega
            case n4 => omega
            case n5 => first | omega | (simp; omega)
            intro A9 c9 w9 hown9 hn9 hgrow9
            have HB9 : Hid (Below w3.heap.size w3 w9) := Lib.hid (below_grown HBa.out HBa.out.size HOa.out hgrow9)
            have HO9 : Hid (w9.ownsRow w3.heap.size 70 3 (.slice A9 (j + 1) c9) (j + 1) (tcells ((brT tb L).take (j + 1)))) := Lib.hid (by
              have e : tcells ((brT tb L).take (j + 1)) = tcells ((brT tb L).take j) ++ tcells [⟨x, y, z⟩] := by rw [HTk.out]; unfold tcells; rw [List.flatMap_append]
              rw [e]; exact hown9)
            clear hown9 hgrow9 HOa HRd HOne HBa HTk q0 q1 q2 r0
            go_wp2_with fail
            go_roundw
            case rel => exact ⟨j + 1, c9, A9, by go_num, by omega, rfl, HO9, HB9⟩
            case measure => simp [intOf]; omega
          · obtain rfl : j = Z := by omega
            have HTe : Hid ((brT tb L).take j = brT tb L) := Lib.hid (List.take_of_length_le (by rw [HTl.out]; exact Nat.le_refl _))
            rw [HTe.out] at HO
            have HBf := Lib.hid (HB3.out.trans (HB.out.mono hw3))
            clear HB HB3 HR HRI
            go_wp2_with fail
            go_ret2
            rw [HE.out]
            refine ⟨A7, c7, ?_, ?_, HBf.out⟩
            · rw [Option.getD_some, HTl.out]; rfl
            · rw [Option.getD_some, HTl.out]; exact HO.out.mono hw3
end Go.Proofs.YtmhfgncffkfelaaDoor

/- At which bytes a text is broken: what segment.Of and the document's Of return. -/
namespace Go.Proofs.YtmhfgncffkfelaaDoor
open Go.RowKit Go.BigFrame
open U (Tr tcells tcell tris Tab)
set_option linter.unusedVariables false
set_option maxRecDepth 4000
set_option linter.unusedSimpArgs false

theorem OutPl.of {r : Option (List Int)} {z : Nat} {w w' : World} {A : Option Addr} {c base : Nat} {l : List Int} (h : r = some l) (hz : l.length = z) (ho : w'.ownsRow base 3 1 (.slice A z c) z (icells l)) (hb : w.heap.size ≤ base) (b : Below w.heap.size w w') : OutPl r w (.returned (.tuple #[.slice A z c, .bool true])) w' := by
  subst h hz
  exact ⟨A, c, rfl, ho.mono hb, b⟩
theorem natI_len (l : List Nat) : (natI l).length = l.length := by simp [natI]
set_option maxHeartbeats 8000000 in
theorem of_any (T : TV) (s : ByteArray) (w : World) (hT : T.ok w) (hs : s.size ≤ 90000) (hTab : Tab w) :
    Calls Tryd.prog 36 #[T.v, .string s] w (OutPl (ofS T.tb s.data.toList) w) := by
  obtain ⟨i0, hi0, hz0, hz1, hz2⟩ := info_parts info3
  obtain ⟨L, hL⟩ : ∃ L, s.data.toList = L := ⟨_, rfl⟩
  have hsz : nP L ≤ 90000 := by have := nP_le L; have h2 : s.data.toList.length = s.size := Array.length_toList; rw [hL] at h2; omega
  obtain ⟨M, hM⟩ : ∃ M, nP L = M := ⟨_, rfl⟩
  have HEn : Hid (∀ V, Below w.heap.size w V → Calls Tryd.prog 85 #[.string s] V fun e w' => ∃ A c, e = .returned (.slice A (M + 1) c) ∧ RP w' w'.heap.size A (M + 1) (endE L) ∧ M + 1 ≤ c ∧ Below V.heap.size V w') := Lib.hid (fun V g => (ended_any s V (by omega) (hTab.below g)).mono fun e w' ⟨A, c, he, ho, hb⟩ => by
    rw [hL, hM] at ho he
    exact ⟨A, c, he, own_RP ho, (own_shp ho).2.1, hb⟩)
  have HBk : Hid (∀ V A c, Below w.heap.size w V → RP V V.heap.size A (M + 1) (endE L) → M + 1 ≤ c → Calls Tryd.prog 84 #[T.v, .slice A (M + 1) c] V (OutTp (brE T.tb L) V)) := Lib.hid (fun V A c g h1 h2 => broken_any T L M (M + 1) hM rfl A c V (hT.on g) h1 h2 (by omega))
  rw [hL]
  have b0 := below_new w (.cells #[.int .i64 T.cl, .slice T.a1 T.n1 T.c1, .slice T.a2 T.n2 T.c2, .slice T.a3 T.n3 T.c3] 26)
  have HX := Lib.hid (box_new w T)
  have hZM : (brT T.tb L).length ≤ M + 1 := by rw [brT_len, ← hM]; exact brN_len _ _
  have hMb : M ≤ 90000 := by omega
  clear hT hTab hsz hM hL
  simp only [TV.v] at *
  generalize T.tb = tb at *
  obtain ⟨_, p0, p1, p2, p3⟩ := HX.out
  go_enter Tryd.func36, Tryd.ntmps36
  go_wp2_with fail
  generalize w.alloc (.cells #[.int .i64 T.cl, .slice T.a1 T.n1 T.c1, .slice T.a2 T.n2 T.c2, .slice T.a3 T.n3 T.c3] 26) = w1 at *
  have hw1 : w.heap.size ≤ w1.heap.size := b0.size
  have hS0 : w1.cell? ⟨w.heap.size, 0, none⟩ = some (.int .i64 T.cl) ∧ w1.cell? ⟨w.heap.size, 1, none⟩ = some (.slice T.a1 T.n1 T.c1) ∧ w1.cell? ⟨w.heap.size, 2, none⟩ = some (.slice T.a2 T.n2 T.c2) ∧ w1.cell? ⟨w.heap.size, 3, none⟩ = some (.slice T.a3 T.n3 T.c3) ∧ Below w.heap.size w w1 := ⟨p0, p1, p2, p3, b0⟩
  have hS1 := sOn (Below.drew (Below.refl w1.heap.size w1)) hS0
  clear p0 p1 p2 p3 b0 HX
  go_region_held3 (fun V => V.cell? ⟨w.heap.size, 0, none⟩ = some (.int .i64 T.cl) ∧ V.cell? ⟨w.heap.size, 1, none⟩ = some (.slice T.a1 T.n1 T.c1) ∧ V.cell? ⟨w.heap.size, 2, none⟩ = some (.slice T.a2 T.n2 T.c2) ∧ V.cell? ⟨w.heap.size, 3, none⟩ = some (.slice T.a3 T.n3 T.c3) ∧ Below w.heap.size w V) (with_reducible (first | assumption | exact hS0 | exact hS1)) (first | (go_at_call 85; (with_reducible refine Calls.mono (HEn.out _ ?_) ?_); (first | exact hS1.2.2.2.2 | exact hS0.2.2.2.2); rintro e v1 ⟨A1, c1, rfl, hr1, hc1, g1⟩; have hS2 := sOn g1 (by with_reducible (first | assumption | exact hS1 | exact hS0))) | (go_at_call 84; (with_reducible refine Calls.mono (HBk.out _ _ _ ?_ ?_ ?_) ?_); exact hS2.2.2.2.2; exact hr1; exact hc1; rintro e v2 ⟨A2, c2, rfl, hown2, g2⟩; have hS3 := sOn g2 hS2))
  have HB3 := Lib.hid hS3.2.2.2.2
  clear hS0 hS1 hS2 hS3 hr1 hc1 g1 g2 HEn HBk
  by_cases he : errV tb = 0
  case neg =>
    have HE : Hid (ofS tb L = none) := Lib.hid (by unfold ofS; rw [if_neg he])
    have hE2 : brE tb L = none := by unfold brE; rw [if_neg he]
    simp only [hE2, Option.isSome_none, Option.getD_none, List.length_nil] at hown2 ⊢
    clear he hE2 hown2
    go_wp2_with fail
    go_ret2
    exact OutPl.no HE.out HB3.out
  case pos =>
    have HE : Hid (ofS tb L = some (natI (ofA tb L))) := Lib.hid (by unfold ofS; rw [if_pos he])
    have hE2 : brE tb L = some (brT tb L) := by unfold brE; rw [if_pos he]
    simp only [hE2, Option.isSome_some, Option.getD_some] at hown2 ⊢
    have HRP := Lib.hid (own_RP hown2)
    have HAl : Hid ((natI (ofA tb L)).length = (brT tb L).length) := Lib.hid (by rw [← brT_a]; simp)
    have HTa : Hid (∀ j (h : j < (brT tb L).length), (natI (ofA tb L)).take (j + 1) = (natI (ofA tb L)).take j ++ [(brT tb L)[j].a]) := Lib.hid (fun j h => by
      have h3 : j < ((brT tb L).map (·.a)).length := by simpa using h
      have e1 : ((brT tb L).map (·.a))[j] = (brT tb L)[j].a := List.getElem_map _
      rw [← brT_a, take_one h3, e1])
    have hw3 := HB3.out.size
    clear he hE2 hown2
    rename World => w3
    obtain ⟨Z, hZ⟩ : ∃ Z, (brT tb L).length = Z := ⟨_, rfl⟩
    rw [hZ] at HRP HAl hZM ⊢
    have HZ := Lib.hid hZ
    clear hZ
    have hZb : Z ≤ 100000 := by omega
    go_wp2_with fail
    go_loopw [8, 22] (fun vs vi wx => ∃ (j c7 : Nat) (A7 : Option Addr), vi = .int .i64 j ∧ j ≤ Z ∧ vs = .slice A7 j c7 ∧ Hid (wx.ownsRow w3.heap.size 3 1 (.slice A7 j c7) j (icells ((natI (ofA tb L)).take j))) ∧ Hid (Below w3.heap.size w3 wx)) (fun _ vi _ => Z - (intOf vi).toNat)
    case atStart => exact ⟨0, 0, none, rfl, Nat.zero_le _, rfl, Lib.hid (World.ownsRow_nil _ _ _ _), Lib.hid (Below.refl _ _)⟩
    case round =>
      rename World => wx
      obtain ⟨k, c6, A6, rfl, hk, rfl, HO, HB⟩ := hrel
      by_cases hlt : k < Z
      · have kl : k < (brT tb L).length := by rw [HZ.out]; exact hlt
        obtain ⟨bb, oo, hA, _, q0, q1, q2⟩ := (HRP.out.on HB.out).at kl
        subst hA
        have HTk := Lib.hid (HTa.out k kl)
        generalize (brT tb L)[k] = P at *
        obtain ⟨x, y, z⟩ := P
        simp only [] at q0 q1 q2 HTk
        have hws := HB.out.size
        have HRd : Hid (Reads ((wx.alloc (.cells #[.int .i64 x, .int .i64 y, .int .i64 z] 70)).alloc (.cells #[.int .i64 y] 3)) (wx.heap.size + 1 + 1) 1 (some ⟨wx.heap.size + 1, 0, none⟩) 1 (icells [y])) := Lib.hid (by
          have h := reads_int (wx.alloc (.cells #[.int .i64 x, .int .i64 y, .int .i64 z] 70)) y
          simpa using h)
        have HOne := Lib.hid (icells_one [y])
        have HOa := Lib.hid ((HO.out.alloc (.cells #[.int .i64 x, .int .i64 y, .int .i64 z] 70)).alloc (.cells #[.int .i64 y] 3))
        have HBa := Lib.hid ((HB.out.alloc hws (.cells #[.int .i64 x, .int .i64 y, .int .i64 z] 70)).alloc (by simp; omega) (.cells #[.int .i64 y] 3))
        clear HO HB
        go_wp2_with (at_builtin; refine wpList_append_src rfl _ _ 51 rfl w3.heap.size 3 i0 _ 1 8 Tryd.underlying51 hi0 hz0 hz1 hz2 rfl (by decide) _ _ _ rfl HOa.out (some ⟨wx.heap.size + 1, 0, none⟩) 1 1 (wx.heap.size + 1 + 1) (icells [y]) rfl (fun h => by cases h) HRd.out HOne.out ?n3 ?n4 ?n5 ?_)
        case n3 => unfold maxLen; omega
        case n4 => omega
        case n5 => first | omega | (simp; omega)
        intro A9 c9 w9 hown9 hn9 hgrow9
        have HB9 : Hid (Below w3.heap.size w3 w9) := Lib.hid (below_grown HBa.out HBa.out.size HOa.out hgrow9)
        have HO9 : Hid (w9.ownsRow w3.heap.size 3 1 (.slice A9 (k + 1) c9) (k + 1) (icells ((natI (ofA tb L)).take (k + 1)))) := Lib.hid (by rw [HTk.out, icells_snoc']; exact hown9)
        clear hown9 hgrow9 HOa HRd HOne HBa HTk q0 q1 q2
        go_wp2_with fail
        go_roundw
        case rel => exact ⟨k + 1, c9, A9, by go_num, by omega, rfl, HO9, HB9⟩
        case measure => simp [intOf]; omega
      · obtain rfl : k = Z := by omega
        have HTe : Hid ((natI (ofA tb L)).take k = natI (ofA tb L)) := Lib.hid (List.take_of_length_le (by rw [HAl.out]; exact Nat.le_refl _))
        rw [HTe.out] at HO
        have HBf := Lib.hid (HB3.out.trans (HB.out.mono hw3))
        clear HB HB3 HRP
        go_wp2_with fail
        go_ret2
        exact OutPl.of HE.out HAl.out HO.out hw3 HBf.out

end Go.Proofs.YtmhfgncffkfelaaDoor

/- What is cut: words for it. -/
namespace Go.Proofs.YtmhfgncffkfelaaDoor
open Go.RowKit Go.BigFrame
open U (Tr tcells tcell tris Tab strOf)
set_option linter.unusedVariables false
set_option maxRecDepth 4000
set_option linter.unusedSimpArgs false

/-- A piece in a box of its own. -/
structure B3 (w : World) (g : Nat) (p : Tr) : Prop where
  c0 : w.cell? ⟨g, 0, none⟩ = some (.int .i64 p.v)
  c1 : w.cell? ⟨g, 1, none⟩ = some (.int .i64 p.a)
  c2 : w.cell? ⟨g, 2, none⟩ = some (.int .i64 p.n)
  f : ∀ k, w.frozen? ⟨g, k, none⟩ = false
theorem B3.below {w w' : World} {B g : Nat} {p : Tr} (h : B3 w g p) (hg : g < B) (b : Below B w w') : B3 w' g p :=
  ⟨(b.cell (p := ⟨g, 0, none⟩) hg).trans h.c0, (b.cell (p := ⟨g, 1, none⟩) hg).trans h.c1, (b.cell (p := ⟨g, 2, none⟩) hg).trans h.c2, fun k => (b.frozen (p := ⟨g, k, none⟩) hg).trans (h.f k)⟩
theorem b3_new (w : World) (x y z : Int) (t : TypeId) : B3 (w.alloc (.cells #[.int .i64 x, .int .i64 y, .int .i64 z] t)) w.heap.size ⟨x, y, z⟩ := ⟨by simp, by simp, by simp, fun k => World.frozen?_alloc_new _ _ _ k⟩
theorem b3_on {w : World} {g : Nat} {p : Tr} (h : B3 w g p) (o : Obj) : B3 (w.alloc o) g p := h.below (World.block_lt_of_cell? _ _ h.c0) (below_new w o)
theorem B3.set {w : World} {g : Nat} {p : Tr} (h : B3 w g p) (x y z : Int) : B3 (((w.setCell ⟨g, 0, none⟩ (.int .i64 x)).setCell ⟨g, 1, none⟩ (.int .i64 y)).setCell ⟨g, 2, none⟩ (.int .i64 z)) g ⟨x, y, z⟩ :=
  ⟨by simp [go_sem, h.c0, h.c1, h.c2], by simp [go_sem, h.c0, h.c1, h.c2], by simp [go_sem, h.c0, h.c1, h.c2], fun k => by rw [World.frozen?_setCell, World.frozen?_setCell, World.frozen?_setCell]; exact h.f k⟩
theorem far3 {w : World} {g k i : Nat} {u v0 v1 v2 : Value} (h : w.cell? ⟨k, i, none⟩ = some u) (hne : g ≠ k) : (((w.setCell ⟨g, 0, none⟩ v0).setCell ⟨g, 1, none⟩ v1).setCell ⟨g, 2, none⟩ v2).cell? ⟨k, i, none⟩ = some u := by
  rw [World.cell?_setCell_far _ _ _ _ hne, World.cell?_setCell_far _ _ _ _ hne, World.cell?_setCell_far _ _ _ _ hne]; exact h
theorem below3 {w0 w : World} {B g : Nat} {v0 v1 v2 : Value} (hb : Below B w0 w) (hBg : B ≤ g) : Below B w0 (((w.setCell ⟨g, 0, none⟩ v0).setCell ⟨g, 1, none⟩ v1).setCell ⟨g, 2, none⟩ v2) :=
  ((hb.setCell (p := ⟨g, 0, none⟩) hBg _).setCell (p := ⟨g, 1, none⟩) hBg _).setCell (p := ⟨g, 2, none⟩) hBg _
theorem own3 {w : World} {g base size n : Nat} {e : TypeId} {v v0 v1 v2 : Value} {xs : List Value} (h : g < base) (ho : w.ownsRow base e size v n xs) : (((w.setCell ⟨g, 0, none⟩ v0).setCell ⟨g, 1, none⟩ v1).setCell ⟨g, 2, none⟩ v2).ownsRow base e size v n xs :=
  ownsRow_setCell_below (ownsRow_setCell_below (ownsRow_setCell_below ho h _) h _) h _
theorem rp3 {w : World} {B g gR n : Nat} {v0 v1 v2 : Value} {R : List Tr} (h : RP w B (some ⟨gR, 0, none⟩) n R) (hne : g ≠ gR) : RP (((w.setCell ⟨g, 0, none⟩ v0).setCell ⟨g, 1, none⟩ v1).setCell ⟨g, 2, none⟩ v2) B (some ⟨gR, 0, none⟩) n R := by
  refine ⟨h.1, h.2.1, fun hn => ?_⟩
  obtain ⟨b, o, e, hb, hc⟩ := h.2.2 hn
  refine ⟨b, o, e, hb, fun j u hu => far3 (hc j u hu) ?_⟩
  injection e with e
  injection e with e1 e2
  omega
theorem RP.below {w w' : World} {B n : Nat} {A : Option Addr} {l : List Tr} (h : RP w B A n l) (g : Below B w w') : RP w' B A n l := ⟨h.1, h.2.below g⟩
def OutSs (r : Option (List (List UInt8))) (w : World) (e : Ending) (w' : World) : Prop := ∃ (A : Option Addr) (c : Nat), e = .returned (.tuple #[.slice A (r.getD []).length c, .bool r.isSome]) ∧ w'.ownsRow w.heap.size 9 1 (.slice A (r.getD []).length c) (r.getD []).length (scells (r.getD [])) ∧ Below w.heap.size w w'
theorem OutSs.no {r : Option (List (List UInt8))} {w w' : World} (h : r = none) (b : Below w.heap.size w w') : OutSs r w (.returned (.tuple #[.slice none 0 0, .bool false])) w' := by
  subst h
  exact ⟨none, 0, rfl, World.ownsRow_nil _ _ _ _, b⟩
theorem OutSs.of {r : Option (List (List UInt8))} {z : Nat} {w w' : World} {A : Option Addr} {c base : Nat} {l : List (List UInt8)} (h : r = some l) (hz : l.length = z) (ho : w'.ownsRow base 9 1 (.slice A z c) z (scells l)) (hb : w.heap.size ≤ base) (b : Below w.heap.size w w') : OutSs r w (.returned (.tuple #[.slice A z c, .bool true])) w' := by
  subst h hz
  exact ⟨A, c, rfl, ho.mono hb, b⟩
theorem extract_mid9 (s : ByteArray) (k m : Nat) : (s.extract k (k + m)).data.toList = (s.data.toList.drop k).take m := by
  simp [ByteArray.data_extract, List.take_drop]
theorem cut_str (s : ByteArray) (L : List UInt8) (hL : s.data.toList = L) (a b : Nat) (h : a ≤ b) : s.extract a b = strOf ((L.drop a).take (b - a)) := by
  have e : s.extract a b = strOf (s.extract a b).data.toList := (U.strOf_of _).symm
  rw [e]
  congr 1
  obtain ⟨m, rfl⟩ : ∃ m, b = a + m := ⟨b - a, by omega⟩
  rw [extract_mid9, hL]
  congr 1
  omega
theorem strOf_sz (s : ByteArray) (L : List UInt8) (hL : s.data.toList = L) : L.length = s.size := by rw [← hL]; exact Array.length_toList
/-- The places of what is cut. -/
def cutQ (t : Tb) (L : List UInt8) : List Nat := brN t L ++ [nP L]
theorem cutQ_at (t : Tb) (L : List UInt8) : (cutQ t L).map (atL L) = ofA t L ++ [L.length] := by unfold cutQ ofA; rw [List.map_append, List.map_singleton, atL_end]
theorem cutQ_le {t : Tb} {L : List UInt8} {q : Nat} (h : q ∈ cutQ t L) : q ≤ nP L := by
  rcases List.mem_append.1 h with h | h
  · exact brN_le h
  · simp at h; omega
theorem cutQ_sorted (t : Tb) (L : List UInt8) : (cutQ t L).Pairwise (· ≤ ·) := by
  unfold cutQ
  rw [List.pairwise_append]
  exact ⟨pairwise_le (brN_sorted t L), by simp, fun a ha b hb => by simp at hb; subst hb; exact brN_le ha⟩
theorem cutQ_next (t : Tb) (L : List UInt8) {j k : Nat} (hj : j < (cutQ t L).length) (hk : k < (cutQ t L).length) (h : j < k) : (cutQ t L)[j] ≤ (cutQ t L)[k] := List.pairwise_iff_getElem.1 (cutQ_sorted t L) j k hj hk h
theorem trAt_eq (L : List UInt8) {i q : Nat} (hi : i ≤ nP L) (hq : q ≤ nP L) : trAt L q = trAt L i ↔ atL L q = atL L i := by
  have hl := endE_len L
  rw [trAt_is L (by omega), trAt_is L (by omega)]
  exact endE_ne L (by omega) (by omega)
theorem drop_one {α : Type} {l : List α} {k : Nat} (h : k < l.length) : l.drop k = l[k] :: l.drop (k + 1) := List.drop_eq_getElem_cons h

end Go.Proofs.YtmhfgncffkfelaaDoor

/- What segment.Cut returns. -/
namespace Go.Proofs.YtmhfgncffkfelaaDoor
open Go.RowKit Go.BigFrame
open U (Tr tcells tcell tris Tab strOf)
set_option linter.unusedVariables false
set_option maxRecDepth 4000
set_option linter.unusedSimpArgs false

/-! The program's Cut. -/
theorem B3.grown {w w' : World} {g : Nat} {row : Option Nat} {p : Tr} (h : B3 w g p) (hg : w.grownBy w' row) (hne : some g ≠ row) : B3 w' g p := by
  have hl : g < w.heap.size := World.block_lt_of_cell? _ _ h.c0
  exact ⟨(hg.cell_far ⟨g, 0, none⟩ hl hne).trans h.c0, (hg.cell_far ⟨g, 1, none⟩ hl hne).trans h.c1, (hg.cell_far ⟨g, 2, none⟩ hl hne).trans h.c2, fun k => (hg.frozen_far ⟨g, k, none⟩ hl hne).trans (h.f k)⟩
theorem cut_boxes (W : World) (x y z x' y' z' : Int) (t t' : TypeId) : B3 ((W.alloc (.cells #[.int .i64 x, .int .i64 y, .int .i64 z] t)).alloc (.cells #[.int .i64 x', .int .i64 y', .int .i64 z'] t')).drew W.heap.size ⟨x, y, z⟩ ∧ B3 ((W.alloc (.cells #[.int .i64 x, .int .i64 y, .int .i64 z] t)).alloc (.cells #[.int .i64 x', .int .i64 y', .int .i64 z'] t')).drew (W.heap.size + 1) ⟨x', y', z'⟩ ∧ Below W.heap.size W ((W.alloc (.cells #[.int .i64 x, .int .i64 y, .int .i64 z] t)).alloc (.cells #[.int .i64 x', .int .i64 y', .int .i64 z'] t')).drew ∧ ((W.alloc (.cells #[.int .i64 x, .int .i64 y, .int .i64 z] t)).alloc (.cells #[.int .i64 x', .int .i64 y', .int .i64 z'] t')).drew.heap.size = W.heap.size + 2 := by
  have h1 := b3_on (b3_new W x y z t) (.cells #[.int .i64 x', .int .i64 y', .int .i64 z'] t')
  have h2 := b3_new (W.alloc (.cells #[.int .i64 x, .int .i64 y, .int .i64 z] t)) x' y' z' t'
  rw [show (W.alloc (.cells #[.int .i64 x, .int .i64 y, .int .i64 z] t)).heap.size = W.heap.size + 1 by simp] at h2
  have hd : ∀ V : World, Below V.heap.size V V.drew := fun V => Below.drew (Below.refl _ _)
  exact ⟨h1.below (World.block_lt_of_cell? _ _ h1.c0) (hd _), h2.below (World.block_lt_of_cell? _ _ h2.c0) (hd _), Below.drew (((Below.refl _ _).alloc (Nat.le_refl _) _).alloc (by simp) _), by show ((W.alloc _).alloc _).heap.size = _; simp⟩
end Go.Proofs.YtmhfgncffkfelaaDoor

/- The example of stage 9's statements; texts row by row compared. -/
namespace Go.Proofs.YtmhfgncffkfelaaDoor
open Go.RowKit Go.BigFrame
open U (Tr tcells tcell tris Tab strOf)
set_option linter.unusedVariables false
set_option maxRecDepth 4000
set_option linter.unusedSimpArgs false

theorem str_ne9 {x y : ByteArray} (h : ¬ x.data.toList = y.data.toList) : (x == y) = false ∧ (x.toList == y.toList) = false ∧ (x.data.toList == y.data.toList) = false := by
  have h2 : (x.data.toList == y.data.toList) = false := by rw [beq_eq_false_iff_ne]; exact h
  exact ⟨by rw [beq_toListBytes, ByteArray.toList_eq, ByteArray.toList_eq]; exact h2, by rw [ByteArray.toList_eq, ByteArray.toList_eq]; exact h2, h2⟩
def exL : List UInt8 := [97, 98, 195, 169, 97]
theorem ex_of : ofS tTo exL = some [1, 5] := by decide +kernel
theorem ex_cut : cutS tTo exL = some [[97], [98, 195, 169, 97]] := by decide +kernel
theorem rs_lit (W : World) (a : Nat) (ha : a = W.heap.size) (l : List (List UInt8)) (k : Nat) (cells : Array Value) (hc : cells.toList = scells l) (hk : l.length = k) (hk4 : k ≤ 1000) : RS (W.alloc (.cells cells 9)) (W.alloc (.cells cells 9)).heap.size (some ⟨a, 0, none⟩) k l := by
  subst ha
  have h := World.ownsRow_lit (e := 9) (size := 1) W cells k (Nat.le_refl _) (by unfold maxLen; omega) (by rw [← Array.length_toList, hc, scells_len, hk, Nat.mul_one])
  rw [hc] at h
  exact own_RS h
end Go.Proofs.YtmhfgncffkfelaaDoor

