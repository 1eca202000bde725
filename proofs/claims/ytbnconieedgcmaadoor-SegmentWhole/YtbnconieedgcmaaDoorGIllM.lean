/- Plain mathematics: the text in which whatever is ill-formed is put as the sign that stands for it. No program. -/
import Derived.Test.YtbnconieedgcmaaDoorKS
namespace Go.Proofs.YtbnconieedgcmaaDoor
set_option linter.unusedVariables false
set_option linter.unusedSimpArgs false
open U (Pp Tr piecesAt tris tri pieceOf piecesAt_nil isB validL textL bytesOf scalarsAt allB allB_cons)

theorem sc_vals (vs : List Int) : ∀ k, (scalarsAt k vs).map (·.v) = vs := by
  induction vs with
  | nil => intro k; rfl
  | cons v vs ih => intro k; simp only [scalarsAt, List.map_cons]; rw [ih]
theorem sc_text (vs : List Int) (h : allB vs = true) : piecesAt 0 (textL vs) = scalarsAt 0 vs := by
  have h1 := U.piecesAt_text vs 0 [] h
  rw [List.append_nil, piecesAt_nil, List.append_nil] at h1
  exact h1
theorem sc_len (vs : List Int) : ∀ k, (scalarsAt k vs).length = vs.length := by
  induction vs with
  | nil => intro k; rfl
  | cons v vs ih => intro k; simp only [scalarsAt, List.length_cons]; rw [ih]
theorem sc_at (vs : List Int) : ∀ (k i : Nat) (h : i < (scalarsAt k vs).length), (scalarsAt k vs)[i].at_ = k + (textL (vs.take i)).length := by
  induction vs with
  | nil => intro k i h; simp [scalarsAt] at h
  | cons v vs ih =>
    intro k i h
    match i with
    | 0 => simp [scalarsAt, textL]
    | i + 1 =>
      have h' : i < (scalarsAt (k + (bytesOf v).length) vs).length := by simp only [scalarsAt, List.length_cons] at h; omega
      have := ih (k + (bytesOf v).length) i h'
      simp only [scalarsAt, List.getElem_cons_succ, this, List.take_succ_cons, U.textL_cons, List.length_append]
      omega
theorem valsL_allB (L : List UInt8) : allB (valsL L) = true := by
  rw [valsL_vals]
  exact vals_scal _ 0 L (Nat.le_refl _)
/-- The text of a text's scalars. -/
def putL (L : List UInt8) : List UInt8 := textL (valsL L)
theorem putL_pieces (L : List UInt8) : piecesAt 0 (putL L) = scalarsAt 0 (valsL L) := sc_text _ (valsL_allB L)
theorem putL_nP (L : List UInt8) : nP (putL L) = nP L := by
  have h : nP (putL L) = (scalarsAt 0 (valsL L)).length := by unfold nP; rw [putL_pieces]
  rw [h, sc_len, valsL_len]
theorem putL_vals (L : List UInt8) : valsL (putL L) = valsL L := by rw [valsL_vals, putL_pieces, sc_vals]
theorem putL_brN (t : Tb) (L : List UInt8) : brN t (putL L) = brN t L := by unfold brN; rw [putL_vals, putL_nP]
theorem putL_at (L : List UInt8) {i : Nat} (h : i ≤ nP L) : atL (putL L) i = (textL ((valsL L).take i)).length := by
  rcases Nat.lt_or_ge i (nP L) with q | q
  · have h2 : i < (piecesAt 0 (putL L)).length := by have := putL_nP L; unfold nP at this q; omega
    have h3 : i < (scalarsAt 0 (valsL L)).length := by rw [sc_len, valsL_len]; exact q
    unfold atL atK
    rw [dif_pos h2]
    have e : (piecesAt 0 (putL L))[i] = (scalarsAt 0 (valsL L))[i] := by simp only [putL_pieces]
    rw [e, sc_at _ _ _ h3]
    omega
  · obtain rfl : i = nP L := by omega
    have e := atL_end (putL L)
    rw [putL_nP] at e
    rw [e, List.take_of_length_le (by rw [valsL_len]; exact Nat.le_refl _)]
    rfl
theorem putL_len (L : List UInt8) : (putL L).length ≤ 4 * nP L := by
  have := U.textL_len (valsL L)
  rw [valsL_len] at this
  exact this
/-- Where pieces begin, so many of them. -/
def fromN (L : List UInt8) (k : Nat) : List Nat := (List.range k).map (atL L)
theorem fromN_len (L : List UInt8) (k : Nat) : (fromN L k).length = k := by simp [fromN]
theorem fromN_succ (L : List UInt8) (k : Nat) : fromN L (k + 1) = fromN L k ++ [atL L k] := by unfold fromN; rw [List.range_succ, List.map_append]; rfl
theorem fromN_at (L : List UInt8) {k i : Nat} (h : i < (fromN L k).length) : (fromN L k)[i] = atL L i := by
  have h2 : i < (List.range k).length := by rw [fromN_len] at h; simpa using h
  have e : (fromN L k)[i] = atL L (List.range k)[i] := List.getElem_map _
  rw [e, List.getElem_range]
theorem textL_take {L : List UInt8} {k : Nat} (h : k < (tris L).length) : textL ((valsL L).take (k + 1)) = textL ((valsL L).take k) ++ bytesOf (tris L)[k].v := by
  have hk3 : k < (valsL L).length := by rw [valsL_len, ← tris_len]; exact h
  have e1 : (valsL L)[k] = (tris L)[k].v := List.getElem_map _
  rw [take_one hk3, e1, U.textL_append]
  simp [textL]
theorem tris_at9 (L : List UInt8) {k : Nat} (h : k < (tris L).length) : (tris L)[k].a = (atL L k : Int) := by
  have hl := endE_len L
  have ht := tris_len L
  have h2 : k < (endE L).length := by omega
  have e := endE_at L h2
  have e2 : (endE L)[k] = (tris L)[k] := List.getElem_append_left h
  rwa [e2] at e
theorem vals_take9 (L : List UInt8) {k : Nat} (h : k < (tris L).length) : (valsL L).take (k + 1) = (valsL L).take k ++ [(tris L)[k].v] := by
  have hl := valsL_len L
  have hk3 : k < (valsL L).length := by rw [hl, ← tris_len]; exact h
  have e1 : (valsL L)[k] = (tris L)[k].v := List.getElem_map _
  rw [take_one hk3, e1]
theorem tris_isB {L : List UInt8} {k : Nat} (h : k < (tris L).length) : isB (tris L)[k].v = true := by
  have h1 := valsL_allB L
  unfold U.allB at h1
  rw [List.all_eq_true] at h1
  refine h1 _ ?_
  unfold valsL
  exact List.mem_map.2 ⟨_, List.getElem_mem h, rfl⟩
end Go.Proofs.YtbnconieedgcmaaDoor
