/- The plain mathematics of layer 2: a scalar's bytes, the piece at the head of a row of bytes, the pieces of a row. No program stands in it. -/
import Derived.Test.YtbnconieedgcmaaDoorUScal
namespace Go.Proofs.YtbnconieedgcmaaDoor.U
set_option linter.unusedVariables false

theorem isB_iff (v : Int) : isB v = true ↔ (0 ≤ v ∧ v < 55296 ∨ 57344 ≤ v ∧ v ≤ 1114111) := by
  unfold isB; exact decide_eq_true_iff
theorem isB_no {v : Int} (h : isB v = true) : ¬ isB v = false := by rw [h]; decide

/-- A byte as a number. -/
def nb (b : UInt8) : Int := b.toNat
theorem nb_bd (b : UInt8) : 0 ≤ nb b ∧ nb b < 256 := ⟨by unfold nb; omega, by unfold nb; have := b.toNat_lt; omega⟩
/-- A number as a byte. -/
def ub (n : Int) : UInt8 := UInt8.ofNat n.toNat
theorem nb_ub (n : Int) (h0 : 0 ≤ n) (h1 : n < 256) : nb (ub n) = n := by
  unfold nb ub
  rw [UInt8.toNat_ofNat']
  omega
theorem ub_nb (b : UInt8) : ub (nb b) = b := by
  unfold nb ub
  rw [Int.toNat_natCast, UInt8.ofNat_toNat]

/-- A byte that goes on. -/
abbrev tl (b : UInt8) : Prop := 128 ≤ nb b ∧ nb b < 192

/-- A piece: its scalar, how many bytes, whether it is a scalar's bytes as a whole. -/
structure Pc where
  v : Int
  n : Nat
  ok : Bool

/-- The sign that stands for what is ill-formed. -/
def repl : Int := 65533
theorem isB_repl : isB repl = true := (isB_iff _).2 (by unfold repl; omega)
def bad (n : Nat) : Pc := ⟨repl, n, false⟩

def piece2 (x : Int) : List UInt8 → Pc
  | [] => bad 1
  | y :: _ => if tl y ∧ 128 ≤ (x - 192) * 64 + nb y % 64 then ⟨(x - 192) * 64 + nb y % 64, 2, true⟩ else bad 1
def piece3b (v : Int) : List UInt8 → Pc
  | [] => bad 2
  | z :: _ => if tl z then ⟨v * 64 + nb z % 64, 3, true⟩ else bad 2
abbrev go3 (v : Int) : Prop := 32 ≤ v ∧ (v < 864 ∨ 896 ≤ v)
def piece3 (x : Int) : List UInt8 → Pc
  | [] => bad 1
  | y :: r => if tl y ∧ go3 ((x - 224) * 64 + nb y % 64) then piece3b ((x - 224) * 64 + nb y % 64) r else bad 1
def piece4c (v : Int) : List UInt8 → Pc
  | [] => bad 3
  | z :: _ => if tl z then ⟨v * 64 + nb z % 64, 4, true⟩ else bad 3
def piece4b (v : Int) : List UInt8 → Pc
  | [] => bad 2
  | z :: r => if tl z then piece4c (v * 64 + nb z % 64) r else bad 2
abbrev go4 (v : Int) : Prop := 16 ≤ v ∧ v < 272
def piece4 (x : Int) : List UInt8 → Pc
  | [] => bad 1
  | y :: r => if tl y ∧ go4 ((x - 240) * 64 + nb y % 64) then piece4b ((x - 240) * 64 + nb y % 64) r else bad 1

/-- The piece at the head of a row of bytes. -/
def pieceOf : List UInt8 → Pc
  | [] => bad 0
  | b :: r =>
    if nb b < 128 then ⟨nb b, 1, true⟩
    else if nb b < 192 then bad 1
    else if nb b < 224 then piece2 (nb b) r
    else if nb b < 240 then piece3 (nb b) r
    else if nb b < 248 then piece4 (nb b) r
    else bad 1

/-- A scalar's bytes; of what is none: nothing. -/
def bytesOf (v : Int) : List UInt8 :=
  if isB v = false then []
  else if v < 128 then [ub v]
  else if v < 2048 then [ub (192 + v / 64), ub (128 + v % 64)]
  else if v < 65536 then [ub (224 + v / 4096), ub (128 + v / 64 % 64), ub (128 + v % 64)]
  else [ub (240 + v / 262144), ub (128 + v / 4096 % 64), ub (128 + v / 64 % 64), ub (128 + v % 64)]

/-- What the head of a row is, if it is a scalar's bytes. -/
theorem piece_bytes (v : Int) (r : List UInt8) (h : isB v = true) : pieceOf (bytesOf v ++ r) = ⟨v, (bytesOf v).length, true⟩ := by
  have hb := (isB_iff v).1 h
  unfold bytesOf
  rw [if_neg (isB_no h)]
  split
  · rename_i h1
    have e := nb_ub v (by omega) (by omega)
    simp only [List.cons_append, List.nil_append, pieceOf, e]
    rw [if_pos h1]; rfl
  · split
    · rename_i h1 h2
      have e := nb_ub (192 + v / 64) (by omega) (by omega)
      have f := nb_ub (128 + v % 64) (by omega) (by omega)
      simp only [List.cons_append, List.nil_append, pieceOf, piece2, tl, e, f]
      rw [if_neg (by omega), if_neg (by omega), if_pos (by omega), if_pos (by omega)]
      simp only [List.length_cons, List.length_nil, Pc.mk.injEq, and_true]
      omega
    · split
      · rename_i h1 h2 h3
        have e := nb_ub (224 + v / 4096) (by omega) (by omega)
        have f := nb_ub (128 + v / 64 % 64) (by omega) (by omega)
        have g := nb_ub (128 + v % 64) (by omega) (by omega)
        simp only [List.cons_append, List.nil_append, pieceOf, piece3, piece3b, tl, go3, e, f, g]
        rw [if_neg (by omega), if_neg (by omega), if_neg (by omega), if_pos (by omega), if_pos (by omega), if_pos (by omega)]
        simp only [List.length_cons, List.length_nil, Pc.mk.injEq, and_true]
        omega
      · rename_i h1 h2 h3
        have e := nb_ub (240 + v / 262144) (by omega) (by omega)
        have f := nb_ub (128 + v / 4096 % 64) (by omega) (by omega)
        have g := nb_ub (128 + v / 64 % 64) (by omega) (by omega)
        have g' := nb_ub (128 + v % 64) (by omega) (by omega)
        simp only [List.cons_append, List.nil_append, pieceOf, piece4, piece4b, piece4c, tl, go4, e, f, g, g']
        rw [if_neg (by omega), if_neg (by omega), if_neg (by omega), if_neg (by omega), if_pos (by omega), if_pos (by omega), if_pos (by omega), if_pos (by omega)]
        simp only [List.length_cons, List.length_nil, Pc.mk.injEq, and_true]
        omega


def Whole (l : List UInt8) (p : Pc) : Prop := p.ok = true → isB p.v = true ∧ ∃ r, l = bytesOf p.v ++ r
theorem whole_bad (l : List UInt8) (n : Nat) : Whole l (bad n) := fun h => by simp [bad] at h
theorem whole_if {l : List UInt8} {c : Prop} [Decidable c] {p q : Pc} (h1 : c → Whole l p) (h2 : ¬ c → Whole l q) : Whole l (if c then p else q) := by
  by_cases h : c
  · rw [if_pos h]; exact h1 h
  · rw [if_neg h]; exact h2 h

theorem whole1 (b : UInt8) (r : List UInt8) (h : nb b < 128) : Whole (b :: r) ⟨nb b, 1, true⟩ := fun _ => by
  have bb := nb_bd b
  have hub := ub_nb b
  have hi : isB (nb b) = true := (isB_iff _).2 (by omega)
  refine ⟨hi, r, ?_⟩
  unfold bytesOf
  rw [if_neg (isB_no hi), if_pos h, hub]; rfl
theorem whole2 (b : UInt8) (l : List UInt8) (h0 : 192 ≤ nb b) (h1 : nb b < 224) : Whole (b :: l) (piece2 (nb b) l) := by
  have hub := ub_nb b
  match l with
  | [] => exact whole_bad _ _
  | y :: r =>
    refine whole_if (fun c => ?_) (fun _ => whole_bad _ _)
    intro _
    have by_ := nb_bd y
    have huy := ub_nb y
    obtain ⟨⟨t0, t1⟩, c5⟩ := c
    have hi : isB ((nb b - 192) * 64 + nb y % 64) = true := (isB_iff _).2 (by omega)
    refine ⟨hi, r, ?_⟩
    show b :: y :: r = bytesOf ((nb b - 192) * 64 + nb y % 64) ++ r
    unfold bytesOf
    rw [if_neg (isB_no hi), if_neg (by omega), if_pos (by omega), show 192 + ((nb b - 192) * 64 + nb y % 64) / 64 = nb b by omega, show 128 + ((nb b - 192) * 64 + nb y % 64) % 64 = nb y by omega, hub, huy]; rfl
theorem whole3 (b : UInt8) (l : List UInt8) (h0 : 224 ≤ nb b) (h1 : nb b < 240) : Whole (b :: l) (piece3 (nb b) l) := by
  have hub := ub_nb b
  match l with
  | [] => exact whole_bad _ _
  | y :: r =>
    refine whole_if (fun c => ?_) (fun _ => whole_bad _ _)
    have by_ := nb_bd y
    have huy := ub_nb y
    obtain ⟨⟨t0, t1⟩, c6, c7⟩ := c
    match r with
    | [] => exact whole_bad _ _
    | z :: r =>
      refine whole_if (fun c => ?_) (fun _ => whole_bad _ _)
      intro _
      have bz := nb_bd z
      have huz := ub_nb z
      obtain ⟨u0, u1⟩ := c
      have hi : isB (((nb b - 224) * 64 + nb y % 64) * 64 + nb z % 64) = true := (isB_iff _).2 (by omega)
      refine ⟨hi, r, ?_⟩
      show b :: y :: z :: r = bytesOf (((nb b - 224) * 64 + nb y % 64) * 64 + nb z % 64) ++ r
      unfold bytesOf
      rw [if_neg (isB_no hi), if_neg (by omega), if_neg (by omega), if_pos (by omega),
        show 224 + (((nb b - 224) * 64 + nb y % 64) * 64 + nb z % 64) / 4096 = nb b by omega,
        show 128 + (((nb b - 224) * 64 + nb y % 64) * 64 + nb z % 64) / 64 % 64 = nb y by omega,
        show 128 + (((nb b - 224) * 64 + nb y % 64) * 64 + nb z % 64) % 64 = nb z by omega, hub, huy, huz]; rfl
theorem whole4 (b : UInt8) (l : List UInt8) (h0 : 240 ≤ nb b) (h1 : nb b < 248) : Whole (b :: l) (piece4 (nb b) l) := by
  have hub := ub_nb b
  match l with
  | [] => exact whole_bad _ _
  | y :: r =>
    refine whole_if (fun c => ?_) (fun _ => whole_bad _ _)
    have by_ := nb_bd y
    have huy := ub_nb y
    obtain ⟨⟨t0, t1⟩, c7, c8⟩ := c
    match r with
    | [] => exact whole_bad _ _
    | z :: r =>
      refine whole_if (fun c => ?_) (fun _ => whole_bad _ _)
      have bz := nb_bd z
      have huz := ub_nb z
      obtain ⟨u0, u1⟩ := c
      match r with
      | [] => exact whole_bad _ _
      | q :: r =>
        refine whole_if (fun c => ?_) (fun _ => whole_bad _ _)
        intro _
        have bq := nb_bd q
        have huq := ub_nb q
        obtain ⟨q0, q1⟩ := c
        have hi : isB ((((nb b - 240) * 64 + nb y % 64) * 64 + nb z % 64) * 64 + nb q % 64) = true := (isB_iff _).2 (by omega)
        refine ⟨hi, r, ?_⟩
        show b :: y :: z :: q :: r = bytesOf ((((nb b - 240) * 64 + nb y % 64) * 64 + nb z % 64) * 64 + nb q % 64) ++ r
        unfold bytesOf
        rw [if_neg (isB_no hi), if_neg (by omega), if_neg (by omega), if_neg (by omega),
          show 240 + ((((nb b - 240) * 64 + nb y % 64) * 64 + nb z % 64) * 64 + nb q % 64) / 262144 = nb b by omega,
          show 128 + ((((nb b - 240) * 64 + nb y % 64) * 64 + nb z % 64) * 64 + nb q % 64) / 4096 % 64 = nb y by omega,
          show 128 + ((((nb b - 240) * 64 + nb y % 64) * 64 + nb z % 64) * 64 + nb q % 64) / 64 % 64 = nb z by omega,
          show 128 + ((((nb b - 240) * 64 + nb y % 64) * 64 + nb z % 64) * 64 + nb q % 64) % 64 = nb q by omega, hub, huy, huz, huq]; rfl

theorem pieceOf_cons (b : UInt8) (r : List UInt8) : pieceOf (b :: r) = if nb b < 128 then ⟨nb b, 1, true⟩
    else if nb b < 192 then bad 1
    else if nb b < 224 then piece2 (nb b) r
    else if nb b < 240 then piece3 (nb b) r
    else if nb b < 248 then piece4 (nb b) r
    else bad 1 := rfl

/-- A head that is whole is its scalar's bytes. -/
theorem piece_ok (l : List UInt8) : Whole l (pieceOf l) := by
  match l with
  | [] => exact whole_bad _ _
  | b :: r =>
    rw [pieceOf_cons]
    exact whole_if (fun h => whole1 b r h) fun h1 => whole_if (fun _ => whole_bad _ _) fun h2 => whole_if (fun h => whole2 b r (by omega) h) fun h3 =>
      whole_if (fun h => whole3 b r (by omega) h) fun h4 => whole_if (fun h => whole4 b r (by omega) h) fun _ => whole_bad _ _

/-- How long a head is. -/
def Fits (l : List UInt8) (p : Pc) : Prop := 1 ≤ p.n ∧ p.n ≤ 4 ∧ p.n ≤ l.length ∧ (p.ok = false → p.v = repl)
theorem fits_bad {l : List UInt8} {n : Nat} (h0 : 1 ≤ n) (h1 : n ≤ 4) (h2 : n ≤ l.length) : Fits l (bad n) := ⟨h0, h1, h2, fun _ => rfl⟩
theorem fits_mk {l : List UInt8} {n : Nat} {v : Int} (h0 : 1 ≤ n) (h1 : n ≤ 4) (h2 : n ≤ l.length) : Fits l ⟨v, n, true⟩ := ⟨h0, h1, h2, fun h => by cases h⟩
theorem fits_if {l : List UInt8} {c : Prop} [Decidable c] {p q : Pc} (h1 : Fits l p) (h2 : Fits l q) : Fits l (if c then p else q) := by
  by_cases h : c
  · rw [if_pos h]; exact h1
  · rw [if_neg h]; exact h2
theorem fits2 (b : UInt8) (x : Int) (l : List UInt8) : Fits (b :: l) (piece2 x l) := by
  match l with
  | [] => exact fits_bad (by omega) (by omega) (by simp)
  | y :: r => exact fits_if (fits_mk (by omega) (by omega) (by simp)) (fits_bad (by omega) (by omega) (by simp))
theorem fits3 (b : UInt8) (x : Int) (l : List UInt8) : Fits (b :: l) (piece3 x l) := by
  match l with
  | [] => exact fits_bad (by omega) (by omega) (by simp)
  | [y] => exact fits_if (fits_bad (by omega) (by omega) (by simp)) (fits_bad (by omega) (by omega) (by simp))
  | y :: z :: r => exact fits_if (fits_if (fits_mk (by omega) (by omega) (by simp)) (fits_bad (by omega) (by omega) (by simp))) (fits_bad (by omega) (by omega) (by simp))
theorem fits4 (b : UInt8) (x : Int) (l : List UInt8) : Fits (b :: l) (piece4 x l) := by
  match l with
  | [] => exact fits_bad (by omega) (by omega) (by simp)
  | [y] => exact fits_if (fits_bad (by omega) (by omega) (by simp)) (fits_bad (by omega) (by omega) (by simp))
  | [y, z] => exact fits_if (fits_if (fits_bad (by omega) (by omega) (by simp)) (fits_bad (by omega) (by omega) (by simp))) (fits_bad (by omega) (by omega) (by simp))
  | y :: z :: q :: r => exact fits_if (fits_if (fits_if (fits_mk (by omega) (by omega) (by simp)) (fits_bad (by omega) (by omega) (by simp))) (fits_bad (by omega) (by omega) (by simp))) (fits_bad (by omega) (by omega) (by simp))
theorem piece_fits (b : UInt8) (r : List UInt8) : Fits (b :: r) (pieceOf (b :: r)) := by
  rw [pieceOf_cons]
  exact fits_if (fits_mk (by omega) (by omega) (by simp)) (fits_if (fits_bad (by omega) (by omega) (by simp)) (fits_if (fits2 _ _ _) (fits_if (fits3 _ _ _) (fits_if (fits4 _ _ _) (fits_bad (by omega) (by omega) (by simp))))))
theorem piece_isB (b : UInt8) (r : List UInt8) : isB (pieceOf (b :: r)).v = true := by
  cases h : (pieceOf (b :: r)).ok
  · rw [(piece_fits b r).2.2.2 h]; exact isB_repl
  · exact (piece_ok (b :: r) h).1

/-- A scalar's bytes cut short are one piece that is ill-formed. -/
theorem piece_cut (v : Int) (k : Nat) (h : isB v = true) (h0 : 0 < k) (h1 : k < (bytesOf v).length) : pieceOf ((bytesOf v).take k) = bad k := by
  have hb := (isB_iff v).1 h
  unfold bytesOf at h1 ⊢
  rw [if_neg (isB_no h)] at h1 ⊢
  split at h1
  · simp at h1; omega
  rename_i c1
  rw [if_neg c1]
  split at h1
  · rename_i c2
    rw [if_pos c2]
    obtain rfl : k = 1 := by simp at h1; omega
    have e := nb_ub (192 + v / 64) (by omega) (by omega)
    simp only [List.take_succ_cons, List.take_zero, pieceOf, piece2, e]
    rw [if_neg (by omega), if_neg (by omega), if_pos (by omega)]
  rename_i c2
  rw [if_neg c2]
  split at h1
  · rename_i c3
    rw [if_pos c3]
    have e := nb_ub (224 + v / 4096) (by omega) (by omega)
    have f := nb_ub (128 + v / 64 % 64) (by omega) (by omega)
    have hk : k = 1 ∨ k = 2 := by simp at h1; omega
    rcases hk with rfl | rfl
    · simp only [List.take_succ_cons, List.take_zero, pieceOf, piece3, e]
      rw [if_neg (by omega), if_neg (by omega), if_neg (by omega), if_pos (by omega)]
    · simp only [List.take_succ_cons, List.take_zero, pieceOf, piece3, piece3b, tl, go3, e, f]
      rw [if_neg (by omega), if_neg (by omega), if_neg (by omega), if_pos (by omega), if_pos (by omega)]
  · rename_i c3
    rw [if_neg c3]
    have e := nb_ub (240 + v / 262144) (by omega) (by omega)
    have f := nb_ub (128 + v / 4096 % 64) (by omega) (by omega)
    have g := nb_ub (128 + v / 64 % 64) (by omega) (by omega)
    have hk : k = 1 ∨ k = 2 ∨ k = 3 := by simp at h1; omega
    rcases hk with rfl | rfl | rfl
    · simp only [List.take_succ_cons, List.take_zero, pieceOf, piece4, e]
      rw [if_neg (by omega), if_neg (by omega), if_neg (by omega), if_neg (by omega), if_pos (by omega)]
    · simp only [List.take_succ_cons, List.take_zero, pieceOf, piece4, piece4b, tl, go4, e, f]
      rw [if_neg (by omega), if_neg (by omega), if_neg (by omega), if_neg (by omega), if_pos (by omega), if_pos (by omega)]
    · simp only [List.take_succ_cons, List.take_zero, pieceOf, piece4, piece4b, piece4c, tl, go4, e, f, g]
      rw [if_neg (by omega), if_neg (by omega), if_neg (by omega), if_neg (by omega), if_pos (by omega), if_pos (by omega), if_pos (by omega)]

/-- A byte that begins no scalar's bytes is a piece by itself. -/
theorem piece_odd (b : UInt8) (r : List UInt8) (h : 128 ≤ nb b ∧ nb b < 194 ∨ 245 ≤ nb b) : pieceOf (b :: r) = bad 1 := by
  have bb := nb_bd b
  rw [pieceOf_cons]
  rw [if_neg (by omega)]
  split
  · rfl
  split
  · match r with
    | [] => rfl
    | y :: r =>
      have := nb_bd y
      simp only [piece2]
      rw [if_neg (by omega)]
  rw [if_neg (by omega)]
  split
  · match r with
    | [] => rfl
    | y :: r =>
      have := nb_bd y
      exact if_neg (fun c => by have := c.2; unfold go4 at this; omega)
  · rfl
end Go.Proofs.YtbnconieedgcmaaDoor.U
