/- The plain mathematics of layer 2, second part: all pieces of a row of bytes, the text of a row of scalars. No program stands in it. -/
import Derived.Test.YtbnconieedgcmaaDoorUMath
namespace Go.Proofs.YtbnconieedgcmaaDoor.U

/-- A piece where it stands. -/
structure Pp where
  v : Int
  at_ : Nat
  n : Nat
  ok : Bool

def piecesF : Nat → Nat → List UInt8 → List Pp
  | 0, _, _ => []
  | _ + 1, _, [] => []
  | f + 1, k, b :: r => ⟨(pieceOf (b :: r)).v, k, (pieceOf (b :: r)).n, (pieceOf (b :: r)).ok⟩ :: piecesF f (k + (pieceOf (b :: r)).n) ((b :: r).drop (pieceOf (b :: r)).n)

theorem piecesF_enough (f : Nat) : ∀ (g k : Nat) (l : List UInt8), l.length ≤ f → l.length ≤ g → piecesF f k l = piecesF g k l := by
  induction f with
  | zero =>
    intro g k l h _
    obtain rfl : l = [] := List.eq_nil_of_length_eq_zero (by omega)
    cases g <;> rfl
  | succ f ih =>
    intro g k l h hg
    match g, l with
    | 0, l =>
      obtain rfl : l = [] := List.eq_nil_of_length_eq_zero (by omega)
      rfl
    | _ + 1, [] => rfl
    | g + 1, b :: r =>
      have hf := piece_fits b r
      have hl : ((b :: r).drop (pieceOf (b :: r)).n).length ≤ r.length := by
        rw [List.length_drop, List.length_cons]; have := hf.1; omega
      simp only [piecesF]
      rw [ih g _ _ (by simp at h; omega) (by simp at hg; omega)]

/-- All pieces of a row of bytes that begins at a place. -/
def piecesAt (k : Nat) (l : List UInt8) : List Pp := piecesF l.length k l
theorem piecesAt_nil (k : Nat) : piecesAt k [] = [] := rfl
theorem piecesAt_cons (k : Nat) (b : UInt8) (r : List UInt8) :
    piecesAt k (b :: r) = ⟨(pieceOf (b :: r)).v, k, (pieceOf (b :: r)).n, (pieceOf (b :: r)).ok⟩ :: piecesAt (k + (pieceOf (b :: r)).n) ((b :: r).drop (pieceOf (b :: r)).n) := by
  have hf := piece_fits b r
  unfold piecesAt
  rw [List.length_cons]
  simp only [piecesF]
  rw [piecesF_enough r.length _ _ _ (by rw [List.length_drop, List.length_cons]; have := hf.1; omega) (Nat.le_refl _)]

theorem ne_nil_cons {l : List UInt8} (h : l ≠ []) : ∃ b r, l = b :: r := by
  cases l with
  | nil => exact absurd rfl h
  | cons b r => exact ⟨b, r, rfl⟩

/-- By the first piece. -/
theorem piecesAt_step (k : Nat) (l : List UInt8) (h : l ≠ []) :
    piecesAt k l = ⟨(pieceOf l).v, k, (pieceOf l).n, (pieceOf l).ok⟩ :: piecesAt (k + (pieceOf l).n) (l.drop (pieceOf l).n) := by
  obtain ⟨b, r, rfl⟩ := ne_nil_cons h
  exact piecesAt_cons k b r

theorem bytesOf_ne (v : Int) (h : isB v = true) : bytesOf v ≠ [] := by
  unfold bytesOf
  rw [if_neg (isB_no h)]
  split
  · simp
  split
  · simp
  split <;> simp
theorem bytesOf_len (v : Int) : (bytesOf v).length ≤ 4 := by
  unfold bytesOf
  split
  · simp
  split
  · simp
  split
  · simp
  split <;> simp

theorem piecesAt_bytes (k : Nat) (v : Int) (r : List UInt8) (h : isB v = true) :
    piecesAt k (bytesOf v ++ r) = ⟨v, k, (bytesOf v).length, true⟩ :: piecesAt (k + (bytesOf v).length) r := by
  rw [piecesAt_step k _ (by simp [bytesOf_ne v h]), piece_bytes v r h]
  simp

/-- The bytes of a row of scalars. -/
def textL (l : List Int) : List UInt8 := l.flatMap bytesOf
theorem textL_cons (v : Int) (l : List Int) : textL (v :: l) = bytesOf v ++ textL l := by simp [textL]
theorem textL_append (a b : List Int) : textL (a ++ b) = textL a ++ textL b := by simp [textL]

/-- The pieces of scalars that begin at a place. -/
def scalarsAt : Nat → List Int → List Pp
  | _, [] => []
  | k, v :: l => ⟨v, k, (bytesOf v).length, true⟩ :: scalarsAt (k + (bytesOf v).length) l
def allB (l : List Int) : Bool := l.all isB
theorem allB_cons (v : Int) (l : List Int) : allB (v :: l) = (isB v && allB l) := rfl

theorem piecesAt_text (l : List Int) : ∀ (k : Nat) (r : List UInt8), allB l = true → piecesAt k (textL l ++ r) = scalarsAt k l ++ piecesAt (k + (textL l).length) r := by
  induction l with
  | nil => intro k r _; simp [textL, scalarsAt]
  | cons v l ih =>
    intro k r h
    rw [allB_cons, Bool.and_eq_true] at h
    rw [textL_cons, List.append_assoc, piecesAt_bytes k v _ h.1, ih _ _ h.2, List.length_append, Nat.add_assoc]
    rfl

/-- Nothing ill-formed? -/
def validL (l : List UInt8) : Bool := (piecesAt 0 l).all (·.ok)
def okAll (l : List Pp) : Bool := l.all (·.ok)

theorem okAll_shift (n : Nat) : ∀ (k j : Nat) (l : List UInt8), l.length ≤ n → okAll (piecesAt k l) = okAll (piecesAt j l) ∧ (piecesAt k l).length = (piecesAt j l).length := by
  induction n with
  | zero =>
    intro k j l h
    obtain rfl : l = [] := List.eq_nil_of_length_eq_zero (by omega)
    exact ⟨rfl, rfl⟩
  | succ n ih =>
    intro k j l h
    match l with
    | [] => exact ⟨rfl, rfl⟩
    | b :: r =>
      have hf := piece_fits b r
      have hi := ih (k + (pieceOf (b :: r)).n) (j + (pieceOf (b :: r)).n) ((b :: r).drop (pieceOf (b :: r)).n) (by rw [List.length_drop]; have := hf.1; simp at h ⊢; omega)
      rw [piecesAt_cons k, piecesAt_cons j]
      exact ⟨by simp only [okAll, List.all_cons] at hi ⊢; rw [hi.1], by simp only [List.length_cons]; rw [hi.2]⟩

/-- What is well formed is a row of scalars' text. -/
theorem valid_text (n : Nat) : ∀ (k : Nat) (l : List UInt8), l.length ≤ n → okAll (piecesAt k l) = true → ∃ vs, allB vs = true ∧ l = textL vs := by
  induction n with
  | zero =>
    intro k l h _
    obtain rfl : l = [] := List.eq_nil_of_length_eq_zero (by omega)
    exact ⟨[], rfl, rfl⟩
  | succ n ih =>
    intro k l h ho
    cases l with
    | nil => exact ⟨[], rfl, rfl⟩
    | cons b r =>
      rw [piecesAt_cons] at ho
      simp only [okAll, List.all_cons, Bool.and_eq_true] at ho
      obtain ⟨h1, h2⟩ := ho
      have hw := piece_ok (b :: r)
      have hp := (piece_fits b r).1
      have hb : ∀ (x : Int) (r' : List UInt8), isB x = true → b :: r = bytesOf x ++ r' → pieceOf (b :: r) = ⟨x, (bytesOf x).length, true⟩ := fun x r' hx e => by rw [e]; exact piece_bytes x r' hx
      generalize pieceOf (b :: r) = p at *
      obtain ⟨hB, r', hr⟩ := hw h1
      have hn : p.n = (bytesOf p.v).length := congrArg Pc.n (hb p.v r' hB hr)
      have hd : (b :: r).drop p.n = r' := by rw [hr, hn]; simp
      have hlen : r'.length ≤ n := by
        have e : (b :: r).length = (bytesOf p.v).length + r'.length := by rw [hr, List.length_append]
        rw [List.length_cons] at h e
        omega
      rw [hd] at h2
      obtain ⟨vs, hv, hvs⟩ := ih _ r' hlen h2
      exact ⟨p.v :: vs, by rw [allB_cons, hB, hv]; rfl, by rw [textL_cons, ← hvs]; exact hr⟩

theorem valid_iff (l : List UInt8) : validL l = true ↔ ∃ vs, allB vs = true ∧ l = textL vs := by
  constructor
  · intro h; exact valid_text _ 0 l (Nat.le_refl _) h
  · rintro ⟨vs, hv, rfl⟩
    have h := piecesAt_text vs 0 [] hv
    rw [List.append_nil, piecesAt_nil, List.append_nil] at h
    unfold validL
    rw [h]
    clear h hv
    generalize 0 = k
    induction vs generalizing k with
    | nil => rfl
    | cons v vs ih => simp only [scalarsAt, List.all_cons, Bool.true_and]; exact ih _

/-- A row behind one that is well formed. -/
theorem piecesAt_row (s t : List UInt8) (k : Nat) (h : validL s = true) : piecesAt k (s ++ t) = piecesAt k s ++ piecesAt (k + s.length) t := by
  obtain ⟨vs, hv, rfl⟩ := (valid_iff s).1 h
  have h1 := piecesAt_text vs k [] hv
  rw [List.append_nil, piecesAt_nil, List.append_nil] at h1
  rw [piecesAt_text vs k t hv, h1]

/-- Moved on. -/
def Pp.move (d : Nat) (p : Pp) : Pp := ⟨p.v, p.at_ + d, p.n, p.ok⟩
theorem move_mk (d : Nat) (v : Int) (k n : Nat) (ok : Bool) : Pp.move d ⟨v, k, n, ok⟩ = ⟨v, k + d, n, ok⟩ := rfl
theorem piecesAt_move (n : Nat) : ∀ (k d : Nat) (l : List UInt8), l.length ≤ n → piecesAt (k + d) l = (piecesAt k l).map (Pp.move d) := by
  induction n with
  | zero =>
    intro k d l h
    obtain rfl : l = [] := List.eq_nil_of_length_eq_zero (by omega)
    rfl
  | succ n ih =>
    intro k d l h
    match l with
    | [] => rfl
    | b :: r =>
      have hf := piece_fits b r
      have hi := ih (k + (pieceOf (b :: r)).n) d ((b :: r).drop (pieceOf (b :: r)).n) (by rw [List.length_drop]; have := hf.1; simp at h ⊢; omega)
      rw [piecesAt_cons, piecesAt_cons k, List.map_cons, ← hi, move_mk]
      rw [show k + d + (pieceOf (b :: r)).n = k + (pieceOf (b :: r)).n + d by omega]

/-- Pieces: how many, how long each, that they follow one another. -/
theorem piecesAt_len (n : Nat) : ∀ (k : Nat) (l : List UInt8), l.length ≤ n → (piecesAt k l).length ≤ l.length := by
  induction n with
  | zero =>
    intro k l h
    obtain rfl : l = [] := List.eq_nil_of_length_eq_zero (by omega)
    simp [piecesAt_nil]
  | succ n ih =>
    intro k l h
    match l with
    | [] => simp [piecesAt_nil]
    | b :: r =>
      have hf := piece_fits b r
      have hl : ((b :: r).drop (pieceOf (b :: r)).n).length + 1 ≤ (b :: r).length := by rw [List.length_drop]; have := hf.1; have := hf.2.2.1; omega
      have hi := ih (k + (pieceOf (b :: r)).n) ((b :: r).drop (pieceOf (b :: r)).n) (by omega)
      rw [piecesAt_cons, List.length_cons]
      omega
end Go.Proofs.YtbnconieedgcmaaDoor.U
