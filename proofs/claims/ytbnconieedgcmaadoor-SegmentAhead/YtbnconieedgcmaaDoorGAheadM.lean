/- Plain mathematics: the breaks of a text that has another one behind it. No program. -/
import Derived.Test.YtbnconieedgcmaaDoorKS
namespace Go.Proofs.YtbnconieedgcmaaDoor
set_option linter.unusedVariables false
set_option linter.unusedSimpArgs false
open U (Pp Tr piecesAt tris tri pieceOf piecesAt_nil isB validL)

theorem atK_app (k : Nat) (s u : List UInt8) (h : piecesAt k (s ++ u) = piecesAt k s ++ piecesAt (k + s.length) u) (i : Nat) (hi : i ≤ (piecesAt k s).length) : atK k (s ++ u) i = atK k s i := by
  rcases Nat.lt_or_ge i (piecesAt k s).length with q | q
  · have h2 : i < (piecesAt k (s ++ u)).length := by rw [h, List.length_append]; omega
    unfold atK
    rw [dif_pos q, dif_pos h2]
    congr 1
    simp only [h]
    exact List.getElem_append_left q
  · obtain rfl : i = (piecesAt k s).length := by omega
    have e0 := atK_zero (k + s.length) u
    rw [atK_end]
    by_cases h0 : 0 < (piecesAt (k + s.length) u).length
    · have h2 : (piecesAt k s).length < (piecesAt k (s ++ u)).length := by rw [h, List.length_append]; omega
      unfold atK at e0 ⊢
      rw [dif_pos h0] at e0
      rw [dif_pos h2, ← e0]
      congr 1
      simp only [h]
      rw [List.getElem_append_right (Nat.le_refl _)]
      simp
    · have hu : (piecesAt (k + s.length) u).length = 0 := by omega
      have h2 : ¬ (piecesAt k s).length < (piecesAt k (s ++ u)).length := by rw [h, List.length_append]; omega
      unfold atK at e0 ⊢
      rw [dif_neg h0] at e0
      rw [dif_neg h2, List.length_append]
      omega
theorem range_upto (n : Nat) : ∀ k, n + 1 ≤ k → (List.range k).filter (fun i => decide (i ≤ n)) = List.range (n + 1)
  | 0, h => by omega
  | k + 1, h => by
    by_cases e : n = k
    · subst e
      rw [List.filter_eq_self]
      intro x hx
      have := List.mem_range.1 hx
      simp; omega
    · rw [List.range_succ, List.filter_append, range_upto n k (by omega), List.filter_cons, if_neg (by simp; omega)]
      simp
theorem plN_upto (t : Tb) (l : List Int) (n k : Nat) (h : n + 1 ≤ k) : (plN t l k).filter (fun i => decide (i ≤ n)) = plN t l (n + 1) := by
  unfold plN
  rw [← range_upto n k h, List.filter_filter, List.filter_filter]
  refine List.filter_congr (fun x _ => ?_)
  exact Bool.and_comm _ _
theorem plN_app (t : Tb) (l m : List Int) : plN t (l ++ m) (l.length + 1) = plN t l (l.length + 1) := by
  unfold plN
  refine List.filter_congr (fun x hx => ?_)
  have := List.mem_range.1 hx
  rw [List.take_append_of_le_length (by omega)]
theorem atL_app {L X : List UInt8} (h : validL L = true) {i : Nat} (hi : i ≤ nP L) : atL (L ++ X) i = atL L i := atK_app 0 L X (U.piecesAt_row L X 0 h) i hi
theorem valsL_app {L X : List UInt8} (h : validL L = true) : ∃ m, valsL (L ++ X) = valsL L ++ m ∧ nP (L ++ X) = nP L + m.length := by
  refine ⟨(piecesAt (0 + L.length) X).map (·.v), ?_, ?_⟩
  · rw [valsL_vals, U.piecesAt_row L X 0 h, List.map_append, ← valsL_vals]
  · unfold nP; rw [U.piecesAt_row L X 0 h, List.length_append, List.length_map]
/-- Up to the first text's end the breaks are its own. -/
theorem ofA_app (t : Tb) {L X : List UInt8} (h : validL L = true) : (ofA t (L ++ X)).filter (fun x => decide (x ≤ L.length)) = ofA t L := by
  obtain ⟨m, hv, hn⟩ := valsL_app (X := X) h
  have hl := valsL_len L
  unfold ofA
  rw [List.filter_map]
  have e1 : (brN t (L ++ X)).filter ((fun x => decide (x ≤ L.length)) ∘ atL (L ++ X)) = (brN t (L ++ X)).filter (fun i => decide (i ≤ nP L)) := List.filter_congr (fun i hi => by
    have hi2 := brN_le hi
    have e : atL (L ++ X) (nP L) = L.length := by rw [atL_app h (Nat.le_refl _), atL_end]
    simp only [Function.comp]
    rcases Nat.lt_or_ge (nP L) i with q | q
    · have := atL_rise (L ++ X) q hi2
      rw [decide_eq_false (by omega), decide_eq_false (by omega)]
    · have := atL_mono (L ++ X) q (by omega)
      rw [decide_eq_true (by omega), decide_eq_true (by omega)])
  have e2 : (brN t (L ++ X)).filter (fun i => decide (i ≤ nP L)) = brN t L := by
    unfold brN
    rw [hv, hn, plN_upto t _ (nP L) _ (by omega), ← hl]
    exact plN_app t (valsL L) m
  rw [e1, e2]
  refine List.map_congr_left (fun i hi => atL_app h (brN_le hi))
def uptoA (n : Nat) (l : List Nat) : List Nat := l.filter (fun x => decide (x ≤ n))
theorem uptoA_take (n : Nat) (l : List Nat) {k : Nat} (h : k < l.length) : uptoA n (l.take (k + 1)) = uptoA n (l.take k) ++ (if l[k] ≤ n then [l[k]] else []) := by
  unfold uptoA
  rw [take_one h, List.filter_append, List.filter_cons]
  by_cases q : l[k] ≤ n
  · rw [if_pos (by simpa using q), if_pos q]; simp
  · rw [if_neg (by simpa using q), if_neg q]; simp
end Go.Proofs.YtbnconieedgcmaaDoor
