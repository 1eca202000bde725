/- The plain mathematics of layer 2, third part: pieces by the document's own way, which asks of each beginning whether it begins some scalar's bytes. No program stands in it. -/
import Derived.Test.YtbnconieedgcmaaDoorURefBegins
namespace Go.Proofs.YtbnconieedgcmaaDoor.U
set_option linter.unusedVariables false

theorem p3b_ge (v : Int) (r : List UInt8) : 2 ≤ (piece3b v r).n := by
  cases r with
  | nil => exact Nat.le_refl _
  | cons z r =>
    by_cases h : tl z
    · rw [p3b_n h]; omega
    · rw [p3b_no h]; omega
theorem p4c_ge (v : Int) (r : List UInt8) : 3 ≤ (piece4c v r).n := by
  cases r with
  | nil => exact Nat.le_refl _
  | cons z r =>
    by_cases h : tl z
    · rw [p4c_n h]; omega
    · rw [p4c_no h]; omega
theorem p4b_ge (v : Int) (r : List UInt8) : 2 ≤ (piece4b v r).n := by
  cases r with
  | nil => exact Nat.le_refl _
  | cons z r =>
    by_cases h : tl z
    · rw [p4b_yes h]; have := p4c_ge (v * 64 + nb z % 64) r; omega
    · rw [p4b_no h]; omega

/-- A kind's piece of what is cut behind m bytes. -/
theorem cut2 (x : Int) (r : List UInt8) (m : Nat) (hm : m ≤ r.length) : (piece2 x (r.take m)).n = min (m + 1) (piece2 x r).n := by
  match m, r with
  | 0, r => 
    have h1 : 1 ≤ (piece2 x r).n := by
      cases r with
      | nil => exact Nat.le_refl _
      | cons y r =>
        by_cases h : tl y ∧ 128 ≤ (x - 192) * 64 + nb y % 64
        · have : piece2 x (y :: r) = ⟨(x - 192) * 64 + nb y % 64, 2, true⟩ := if_pos h
          rw [this]; exact (by decide : 1 ≤ 2)
        · have : piece2 x (y :: r) = bad 1 := if_neg h
          rw [this]; exact Nat.le_refl _
    show 1 = min (0 + 1) _
    omega
  | m + 1, [] => simp at hm
  | m + 1, y :: r =>
    have e : (y :: r).take (m + 1) = y :: r.take m := rfl
    rw [e]
    by_cases h : tl y ∧ 128 ≤ (x - 192) * 64 + nb y % 64
    · have e1 : ∀ q, piece2 x (y :: q) = ⟨(x - 192) * 64 + nb y % 64, 2, true⟩ := fun q => if_pos h
      rw [e1, e1]; show 2 = min (m + 1 + 1) 2; omega
    · have e1 : ∀ q, piece2 x (y :: q) = bad 1 := fun q => if_neg h
      rw [e1, e1]; show 1 = min (m + 1 + 1) 1; omega
theorem cut3b (v : Int) (r : List UInt8) (m : Nat) (hm : m ≤ r.length) : (piece3b v (r.take m)).n = min (m + 2) (piece3b v r).n := by
  match m, r with
  | 0, r => have := p3b_ge v r; show 2 = min (0 + 2) _; omega
  | m + 1, [] => simp at hm
  | m + 1, z :: r =>
    have e : (z :: r).take (m + 1) = z :: r.take m := rfl
    rw [e]
    by_cases h : tl z
    · rw [p3b_n h, p3b_n h]; omega
    · rw [p3b_no h, p3b_no h]; omega
theorem cut3 (x : Int) (r : List UInt8) (m : Nat) (hm : m ≤ r.length) : (piece3 x (r.take m)).n = min (m + 1) (piece3 x r).n := by
  match m, r with
  | 0, r =>
    have h1 : 1 ≤ (piece3 x r).n := by
      cases r with
      | nil => exact Nat.le_refl _
      | cons y r =>
        by_cases h : tl y ∧ go3 ((x - 224) * 64 + nb y % 64)
        · rw [p3_yes h]; have := p3b_ge ((x - 224) * 64 + nb y % 64) r; omega
        · rw [p3_no h]; omega
    show 1 = min (0 + 1) _
    omega
  | m + 1, [] => simp at hm
  | m + 1, y :: r =>
    have e : (y :: r).take (m + 1) = y :: r.take m := rfl
    rw [e]
    by_cases h : tl y ∧ go3 ((x - 224) * 64 + nb y % 64)
    · rw [p3_yes h, p3_yes h, cut3b _ _ _ (by simpa using hm)]
    · rw [p3_no h, p3_no h]; omega
theorem cut4c (v : Int) (r : List UInt8) (m : Nat) (hm : m ≤ r.length) : (piece4c v (r.take m)).n = min (m + 3) (piece4c v r).n := by
  match m, r with
  | 0, r => have := p4c_ge v r; show 3 = min (0 + 3) _; omega
  | m + 1, [] => simp at hm
  | m + 1, z :: r =>
    have e : (z :: r).take (m + 1) = z :: r.take m := rfl
    rw [e]
    by_cases h : tl z
    · rw [p4c_n h, p4c_n h]; omega
    · rw [p4c_no h, p4c_no h]; omega
theorem cut4b (v : Int) (r : List UInt8) (m : Nat) (hm : m ≤ r.length) : (piece4b v (r.take m)).n = min (m + 2) (piece4b v r).n := by
  match m, r with
  | 0, r => have := p4b_ge v r; show 2 = min (0 + 2) _; omega
  | m + 1, [] => simp at hm
  | m + 1, z :: r =>
    have e : (z :: r).take (m + 1) = z :: r.take m := rfl
    rw [e]
    by_cases h : tl z
    · rw [p4b_yes h, p4b_yes h, cut4c _ _ _ (by simpa using hm)]
    · rw [p4b_no h, p4b_no h]; omega
theorem cut4 (x : Int) (r : List UInt8) (m : Nat) (hm : m ≤ r.length) : (piece4 x (r.take m)).n = min (m + 1) (piece4 x r).n := by
  match m, r with
  | 0, r =>
    have h1 : 1 ≤ (piece4 x r).n := by
      cases r with
      | nil => exact Nat.le_refl _
      | cons y r =>
        by_cases h : tl y ∧ go4 ((x - 240) * 64 + nb y % 64)
        · rw [p4_yes h]; have := p4b_ge ((x - 240) * 64 + nb y % 64) r; omega
        · rw [p4_no h]; omega
    show 1 = min (0 + 1) _
    omega
  | m + 1, [] => simp at hm
  | m + 1, y :: r =>
    have e : (y :: r).take (m + 1) = y :: r.take m := rfl
    rw [e]
    by_cases h : tl y ∧ go4 ((x - 240) * 64 + nb y % 64)
    · rw [p4_yes h, p4_yes h, cut4b _ _ _ (by simpa using hm)]
    · rw [p4_no h, p4_no h]; omega

/-- The piece of what is cut is as long as it may be. -/
theorem piece_take (b : UInt8) (r : List UInt8) (m : Nat) (hm : m ≤ r.length) : (pieceOf (b :: r.take m)).n = min (m + 1) (pieceOf (b :: r)).n := by
  have bb := nb_bd b
  by_cases h1 : nb b < 128
  · rw [po1 h1, po1 h1]; show 1 = min (m + 1) 1; omega
  by_cases h2 : nb b < 192
  · rw [piece_odd b _ (by omega), piece_odd b _ (by omega)]; show 1 = min (m + 1) 1; omega
  by_cases h3 : nb b < 224
  · rw [po2 (by omega) h3, po2 (by omega) h3, cut2 _ _ _ hm]
  by_cases h4 : nb b < 240
  · rw [po3 (by omega) h4, po3 (by omega) h4, cut3 _ _ _ hm]
  by_cases h5 : nb b < 248
  · rw [po4 (by omega) h5, po4 (by omega) h5, cut4 _ _ _ hm]
  · rw [piece_odd b _ (by omega), piece_odd b _ (by omega)]; show 1 = min (m + 1) 1; omega

/-- How many bytes the document's own way finds. -/
def findN (b : UInt8) (r : List UInt8) : Nat := if needN (nb b) = 0 then 0 else (pieceOf (b :: r)).n
theorem need_zero {b : UInt8} {r : List UInt8} (h : needN (nb b) = 0) : pieceOf (b :: r) = bad 1 := by
  have bb := nb_bd b
  apply piece_odd
  by_cases c1 : nb b < 128
  · rw [needN1 c1] at h; omega
  by_cases c2 : nb b < 194
  · omega
  by_cases c3 : nb b < 224
  · rw [needN2 (by omega) c3] at h; omega
  by_cases c4 : nb b < 240
  · rw [needN3 (by omega) c4] at h; omega
  by_cases c5 : nb b < 245
  · rw [needN4 (by omega) c5] at h; omega
  · omega

theorem begL_take (b : UInt8) (r : List UInt8) (m : Nat) (hm : m ≤ r.length) : begL (b :: r.take m) = decide (m < findN b r) := by
  have hl : (r.take m).length = m := by rw [List.length_take]; omega
  rw [begL_cons, hl, piece_take b r m hm]
  unfold findN
  by_cases h : needN (nb b) = 0
  · rw [if_pos h, decide_eq_false (fun c => c.1 h), decide_eq_false (by omega)]
  · rw [if_neg h]
    by_cases c : m < (pieceOf (b :: r)).n
    · rw [decide_eq_true ⟨h, by omega⟩, decide_eq_true c]
    · rw [decide_eq_false (fun x => by have := x.2; omega), decide_eq_false c]

/-- The ways that a piece may be, by the document's own way. -/
def Way (b : UInt8) (r : List UInt8) (p : Pc) : Prop :=
  (needN (nb b) = 0 ∧ p = bad 1) ∨
  (∃ (N : Nat) (K : Int), needN (nb b) = K ∧ K ≠ 0 ∧ 1 ≤ N ∧ N ≤ 3 ∧ (N : Int) ≠ K ∧ p = bad N) ∨
  (nb b < 128 ∧ p = ⟨nb b, 1, true⟩) ∨
  (∃ (y : UInt8) (q : List UInt8), r = y :: q ∧ 194 ≤ nb b ∧ nb b < 224 ∧ tl y ∧ p = ⟨(nb b - 192) * 64 + nb y - 128, 2, true⟩) ∨
  (∃ (y z : UInt8) (q : List UInt8), r = y :: z :: q ∧ 224 ≤ nb b ∧ nb b < 240 ∧ tl y ∧ tl z ∧ p = ⟨((nb b - 224) * 64 + nb y - 128) * 64 + nb z - 128, 3, true⟩) ∨
  (∃ (y z u : UInt8) (q : List UInt8), r = y :: z :: u :: q ∧ 240 ≤ nb b ∧ nb b < 245 ∧ tl y ∧ tl z ∧ tl u ∧ p = ⟨(((nb b - 240) * 64 + nb y - 128) * 64 + nb z - 128) * 64 + nb u - 128, 4, true⟩)
theorem Way.none {b : UInt8} {r : List UInt8} (h : needN (nb b) = 0) : Way b r (bad 1) := .inl ⟨h, rfl⟩
theorem Way.short {b : UInt8} {r : List UInt8} (N : Nat) (K : Int) (hK : needN (nb b) = K) (h : K ≠ 0) (h1 : 1 ≤ N) (h2 : N ≤ 3) (hne : (N : Int) ≠ K) : Way b r (bad N) := .inr (.inl ⟨N, K, hK, h, h1, h2, hne, rfl⟩)
theorem Way.one {b : UInt8} {r : List UInt8} (h : nb b < 128) : Way b r ⟨nb b, 1, true⟩ := .inr (.inr (.inl ⟨h, rfl⟩))
theorem Way.two {b : UInt8} {r : List UInt8} (y : UInt8) (q : List UInt8) (hr : r = y :: q) (h0 : 194 ≤ nb b) (h1 : nb b < 224) (hy : tl y) : Way b r ⟨(nb b - 192) * 64 + nb y - 128, 2, true⟩ := .inr (.inr (.inr (.inl ⟨y, q, hr, h0, h1, hy, rfl⟩)))
theorem Way.three {b : UInt8} {r : List UInt8} (y z : UInt8) (q : List UInt8) (hr : r = y :: z :: q) (h0 : 224 ≤ nb b) (h1 : nb b < 240) (hy : tl y) (hz : tl z) : Way b r ⟨((nb b - 224) * 64 + nb y - 128) * 64 + nb z - 128, 3, true⟩ := .inr (.inr (.inr (.inr (.inl ⟨y, z, q, hr, h0, h1, hy, hz, rfl⟩))))
theorem Way.four {b : UInt8} {r : List UInt8} (y z u : UInt8) (q : List UInt8) (hr : r = y :: z :: u :: q) (h0 : 240 ≤ nb b) (h1 : nb b < 245) (hy : tl y) (hz : tl z) (hu : tl u) : Way b r ⟨(((nb b - 240) * 64 + nb y - 128) * 64 + nb z - 128) * 64 + nb u - 128, 4, true⟩ := .inr (.inr (.inr (.inr (.inr ⟨y, z, u, q, hr, h0, h1, hy, hz, hu, rfl⟩))))

theorem way_of (b : UInt8) (r : List UInt8) : Way b r (pieceOf (b :: r)) := by
  have bb := nb_bd b
  by_cases c1 : nb b < 128
  · rw [po1 c1]; exact .one c1
  by_cases c2 : nb b < 194
  · have h : needN (nb b) = 0 := needN0 (by omega)
    rw [need_zero h]; exact .none h
  by_cases c3 : nb b < 224
  · have hK := needN2 (by omega) c3
    rw [po2 (by omega) c3]
    cases r with
    | nil => exact .short 1 2 hK (by omega) (by omega) (by omega) (by omega)
    | cons y q =>
      by_cases h : tl y ∧ 128 ≤ (nb b - 192) * 64 + nb y % 64
      · have e : piece2 (nb b) (y :: q) = ⟨(nb b - 192) * 64 + nb y % 64, 2, true⟩ := if_pos h
        have ht := h.1
        unfold tl at ht
        rw [e, show (nb b - 192) * 64 + nb y % 64 = (nb b - 192) * 64 + nb y - 128 by omega]
        exact .two y q rfl (by omega) c3 h.1
      · have e : piece2 (nb b) (y :: q) = bad 1 := if_neg h
        rw [e]; exact .short 1 2 hK (by omega) (by omega) (by omega) (by omega)
  by_cases c4 : nb b < 240
  · have hK := needN3 (by omega) c4
    rw [po3 (by omega) c4]
    cases r with
    | nil => exact .short 1 3 hK (by omega) (by omega) (by omega) (by omega)
    | cons y r =>
      by_cases h : tl y ∧ go3 ((nb b - 224) * 64 + nb y % 64)
      · rw [p3_yes h]
        have ht := h.1
        unfold tl at ht
        cases r with
        | nil => exact .short 2 3 hK (by omega) (by omega) (by omega) (by omega)
        | cons z q =>
          by_cases g : tl z
          · have e : piece3b ((nb b - 224) * 64 + nb y % 64) (z :: q) = ⟨((nb b - 224) * 64 + nb y % 64) * 64 + nb z % 64, 3, true⟩ := if_pos g
            have gt := g
            unfold tl at gt
            rw [e, show ((nb b - 224) * 64 + nb y % 64) * 64 + nb z % 64 = ((nb b - 224) * 64 + nb y - 128) * 64 + nb z - 128 by omega]
            exact .three y z q rfl (by omega) c4 h.1 g
          · have e : piece3b ((nb b - 224) * 64 + nb y % 64) (z :: q) = bad 2 := if_neg g
            rw [e]; exact .short 2 3 hK (by omega) (by omega) (by omega) (by omega)
      · have e : piece3 (nb b) (y :: r) = bad 1 := if_neg h
        rw [e]; exact .short 1 3 hK (by omega) (by omega) (by omega) (by omega)
  by_cases c5 : nb b < 245
  · have hK := needN4 (by omega) c5
    rw [po4 (by omega) (by omega)]
    cases r with
    | nil => exact .short 1 4 hK (by omega) (by omega) (by omega) (by omega)
    | cons y r =>
      by_cases h : tl y ∧ go4 ((nb b - 240) * 64 + nb y % 64)
      · rw [p4_yes h]
        have ht := h.1
        unfold tl at ht
        cases r with
        | nil => exact .short 2 4 hK (by omega) (by omega) (by omega) (by omega)
        | cons z r =>
          by_cases g : tl z
          · rw [p4b_yes g]
            have gt := g
            unfold tl at gt
            cases r with
            | nil => exact .short 3 4 hK (by omega) (by omega) (by omega) (by omega)
            | cons u q =>
              by_cases f : tl u
              · have e : piece4c (((nb b - 240) * 64 + nb y % 64) * 64 + nb z % 64) (u :: q) = ⟨(((nb b - 240) * 64 + nb y % 64) * 64 + nb z % 64) * 64 + nb u % 64, 4, true⟩ := if_pos f
                have ft := f
                unfold tl at ft
                rw [e, show (((nb b - 240) * 64 + nb y % 64) * 64 + nb z % 64) * 64 + nb u % 64 = (((nb b - 240) * 64 + nb y - 128) * 64 + nb z - 128) * 64 + nb u - 128 by omega]
                exact .four y z u q rfl (by omega) c5 h.1 g f
              · have e : piece4c (((nb b - 240) * 64 + nb y % 64) * 64 + nb z % 64) (u :: q) = bad 3 := if_neg f
                rw [e]; exact .short 3 4 hK (by omega) (by omega) (by omega) (by omega)
          · have e : piece4b ((nb b - 240) * 64 + nb y % 64) (z :: r) = bad 2 := if_neg g
            rw [e]; exact .short 2 4 hK (by omega) (by omega) (by omega) (by omega)
      · have e : piece4 (nb b) (y :: r) = bad 1 := if_neg h
        rw [e]; exact .short 1 4 hK (by omega) (by omega) (by omega) (by omega)
  · have h : needN (nb b) = 0 := needN0 (by omega)
    rw [need_zero h]; exact .none h
end Go.Proofs.YtbnconieedgcmaaDoor.U
