/- Plain mathematics: neighbors of neighbors. No program. -/
import Derived.Test.YtmhfgncffkfelaaDoorSkM
namespace Go.Proofs.YtmhfgncffkfelaaDoor
set_option linter.unusedVariables false
set_option linter.unusedSimpArgs false
open U (Pp Tr piecesAt tris tri pieceOf piece_fits piecesAt_cons piecesAt_nil isB)

theorem cont_snoc (l : List Int) (x a : Int) : (l ++ [x]).contains a = (l.contains a || a == x) := by rw [Bool.eq_iff_iff]; simp
theorem up_in {l : List Int} {n a y : Int} (h : NextIs l n a y) (h0 : 0 ≤ a) (hm : a ∈ l) : PrevIs l y a :=
  ⟨h.gt, by omega, fun j h1 h2 => h.bt j h1 h2, fun _ => hm⟩
theorem up_out {l : List Int} {n a y z : Int} (h : NextIs l n a y) (g : PrevIs l a z) (hm : a ∉ l) : PrevIs l y z :=
  ⟨by have := h.gt; have := g.lt; omega, g.ge, fun j h1 h2 => by
    rcases Int.lt_trichotomy j a with q | q | q
    · exact g.bt j h1 q
    · subst q; exact hm
    · exact h.bt j q h2, g.on⟩
theorem dn_in {l : List Int} {n a z : Int} (g : PrevIs l a z) (h1 : a ≤ n) (hm : a ∈ l) : NextIs l n z a :=
  ⟨g.lt, by omega, fun j h1 h2 => g.bt j h1 h2, fun _ => hm⟩
theorem dn_out {l : List Int} {n a y z : Int} (h : NextIs l n a y) (g : PrevIs l a z) (hm : a ∉ l) : NextIs l n z y :=
  ⟨by have := h.gt; have := g.lt; omega, h.le, fun j h1 h2 => by
    rcases Int.lt_trichotomy j a with q | q | q
    · exact g.bt j h1 q
    · subst q; exact hm
    · exact h.bt j q h2, h.on⟩
/-- A piece's end is where the next one begins. -/
theorem atK_next (n : Nat) : ∀ (k : Nat) (L : List UInt8) (i : Nat), L.length ≤ n → (h : i < (piecesAt k L).length) → atK k L i + (piecesAt k L)[i].n = atK k L (i + 1) := by
  induction n with
  | zero =>
    intro k L i h hi
    obtain rfl : L = [] := List.eq_nil_of_length_eq_zero (by omega)
    rw [piecesAt_nil] at hi; simp at hi
  | succ n ih =>
    intro k L i h hi
    match L, i with
    | [], i => rw [piecesAt_nil] at hi; simp at hi
    | b :: r, 0 =>
      have he := piecesAt_cons k b r
      have e : (piecesAt k (b :: r))[0].n = (pieceOf (b :: r)).n := by simp only [he, List.getElem_cons_zero]
      rw [atK_succ, atK_zero, atK_zero, e]
    | b :: r, i + 1 =>
      have hf := (piece_fits b r).1
      have hl : ((b :: r).drop (pieceOf (b :: r)).n).length ≤ n := by rw [List.length_drop]; simp at h ⊢; omega
      have hi' : i < (piecesAt (k + (pieceOf (b :: r)).n) ((b :: r).drop (pieceOf (b :: r)).n)).length := by rw [piecesAt_cons, List.length_cons] at hi; omega
      have he := piecesAt_cons k b r
      have e0 := List.getElem_of_eq he hi
      rw [List.getElem_cons_succ] at e0
      have e := congrArg Pp.n e0
      rw [atK_succ, atK_succ, e]
      exact ih _ _ i hl hi'
theorem tris_a (L : List UInt8) {k : Nat} (h : k < (tris L).length) : (tris L)[k].a = (atL L k : Int) ∧ (tris L)[k].a + (tris L)[k].n = (atL L (k + 1) : Int) := by
  have hl := endE_len L
  have ht := tris_len L
  have h2 : k < (endE L).length := by omega
  have e := endE_at L h2
  have e2 : (endE L)[k] = (tris L)[k] := List.getElem_append_left h
  rw [e2] at e
  have q2 : k < (piecesAt 0 L).length := by rw [ht] at h; exact h
  have e3 : (tris L)[k] = tri (piecesAt 0 L)[k] := List.getElem_map tri
  have hn := atK_next L.length 0 L k (Nat.le_refl _) q2
  have e4 : (tris L)[k].n = ((piecesAt 0 L)[k].n : Int) := by rw [e3]; rfl
  refine ⟨e, ?_⟩
  rw [e, e4]
  show ((atK 0 L k : Nat) : Int) + _ = ((atK 0 L (k + 1) : Nat) : Int)
  omega
/-- No break stands within a piece. -/
theorem brk_within (t : Tb) (L : List UInt8) {k : Nat} (h : k < nP L) {a : Int} (h1 : (atL L k : Int) < a) (h2 : a < (atL L (k + 1) : Int)) : a ∉ natI (ofA t L) := fun hm => by
  obtain ⟨i, hi, rfl⟩ := natI_mem.1 hm
  unfold ofA at hi
  obtain ⟨j, hj, rfl⟩ := List.mem_map.1 hi
  have hjn := brN_le hj
  rcases Nat.lt_or_ge j (k + 1) with q | q
  · have := atL_mono L (i := j) (j := k) (by omega) (by omega)
    omega
  · have := atL_mono L q hjn
    omega
/-- Two rising lists of the same members are one. -/
theorem sorted_ext : ∀ {l m : List Int}, l.Pairwise (· < ·) → m.Pairwise (· < ·) → (∀ x, x ∈ l ↔ x ∈ m) → l = m
  | [], [], _, _, _ => rfl
  | [], b :: m, _, _, h => absurd ((h b).2 (by simp)) (by simp)
  | a :: l, [], _, _, h => absurd ((h a).1 (by simp)) (by simp)
  | a :: l, b :: m, hl, hm, h => by
    have h1 : ∀ {x}, x ∈ l → a < x := fun hx => List.rel_of_pairwise_cons hl hx
    have h2 : ∀ {x}, x ∈ m → b < x := fun hx => List.rel_of_pairwise_cons hm hx
    have e : a = b := by
      rcases List.mem_cons.1 ((h a).1 (by simp)) with q | q
      · exact q
      · rcases List.mem_cons.1 ((h b).2 (by simp)) with r | r
        · exact r.symm
        · have := h1 r; have := h2 q; omega
    subst e
    congr 1
    refine sorted_ext hl.of_cons hm.of_cons (fun x => ⟨fun hx => ?_, fun hx => ?_⟩)
    · rcases List.mem_cons.1 ((h x).1 (by simp [hx])) with q | q
      · have := h1 hx; omega
      · exact q
    · rcases List.mem_cons.1 ((h x).2 (by simp [hx])) with q | q
      · have := h2 hx; omega
      · exact q
def upL (l : List Int) (a : Int) : List Int := l.filter fun x => decide (x ≤ a)
def dnL (l : List Int) (a : Int) : List Int := l.filter fun x => decide (a ≤ x)
theorem mem_upL {l : List Int} {a x : Int} : x ∈ upL l a ↔ x ∈ l ∧ x ≤ a := by unfold upL; simp
theorem mem_dnL {l : List Int} {a x : Int} : x ∈ dnL l a ↔ x ∈ l ∧ a ≤ x := by unfold dnL; simp
theorem upL_len (l : List Int) (a : Int) : (upL l a).length ≤ l.length := List.length_filter_le _ _
theorem dnL_len (l : List Int) (a : Int) : (dnL l a).length ≤ l.length := List.length_filter_le _ _
theorem upL_step {l : List Int} {n a y : Int} (hs : l.Pairwise (· < ·)) (h : NextIs l n a y) (hy : y ≤ n) : upL l y = upL l a ++ [y] := by
  have hgt := h.gt
  refine sorted_ext (hs.filter _) (List.pairwise_append.2 ⟨hs.filter _, by simp, fun x hx z hz => ?_⟩) (fun x => ?_)
  · have := (mem_upL.1 hx).2
    simp at hz
    omega
  · rw [List.mem_append, mem_upL, mem_upL, List.mem_singleton]
    constructor
    · rintro ⟨h1, h2⟩
      rcases Int.lt_or_le a x with q | q
      · rcases Int.lt_or_le x y with r | r
        · exact absurd h1 (h.bt x q r)
        · exact .inr (by omega)
      · exact .inl ⟨h1, q⟩
    · rintro (⟨h1, h2⟩ | rfl)
      · exact ⟨h1, by omega⟩
      · exact ⟨h.on hy, Int.le_refl _⟩
theorem upL_end {l : List Int} {n a y : Int} (hl : ∀ x ∈ l, x ≤ n) (h : NextIs l n a y) (hy : n < y) : upL l a = l :=
  List.filter_eq_self.2 (fun x hx => by
    have := hl x hx
    by_cases q : x ≤ a
    · simpa using q
    · exact absurd hx (h.bt x (by omega) (by omega)))
theorem upL_yes {l : List Int} (hs : l.Pairwise (· < ·)) (hl : ∀ x ∈ l, (0 : Int) ≤ x) (h : (0 : Int) ∈ l) : upL l 0 = [0] :=
  sorted_ext (hs.filter _) (by simp) (fun x => by
    rw [mem_upL, List.mem_singleton]
    exact ⟨fun ⟨h1, h2⟩ => by have := hl x h1; omega, fun e => by subst e; exact ⟨h, Int.le_refl _⟩⟩)
theorem upL_no {l : List Int} (hl : ∀ x ∈ l, (0 : Int) ≤ x) (h : (0 : Int) ∉ l) : upL l 0 = [] :=
  List.filter_eq_nil_iff.2 (fun x hx => by
    have := hl x hx
    have : x ≠ 0 := fun e => h (e ▸ hx)
    simp; omega)
theorem dnL_step {l : List Int} {a z : Int} (hs : l.Pairwise (· < ·)) (h : PrevIs l a z) (hz : 0 ≤ z) : dnL l z = [z] ++ dnL l a := by
  have hlt := h.lt
  refine sorted_ext (hs.filter _) (List.pairwise_append.2 ⟨by simp, hs.filter _, fun x hx y hy => ?_⟩) (fun x => ?_)
  · have := (mem_dnL.1 hy).2
    simp at hx
    omega
  · rw [List.mem_append, mem_dnL, mem_dnL, List.mem_singleton]
    constructor
    · rintro ⟨h1, h2⟩
      rcases Int.lt_or_le x a with q | q
      · rcases Int.lt_or_le z x with r | r
        · exact absurd h1 (h.bt x r q)
        · exact .inl (by omega)
      · exact .inr ⟨h1, q⟩
    · rintro (rfl | ⟨h1, h2⟩)
      · exact ⟨h.on hz, Int.le_refl _⟩
      · exact ⟨h1, by omega⟩
theorem dnL_end {l : List Int} {a z : Int} (hl : ∀ x ∈ l, (0 : Int) ≤ x) (h : PrevIs l a z) (hz : z < 0) : dnL l a = l :=
  List.filter_eq_self.2 (fun x hx => by
    have := hl x hx
    by_cases q : a ≤ x
    · simpa using q
    · exact absurd hx (h.bt x (by omega) (by omega)))
theorem dnL_yes {l : List Int} {n : Int} (hs : l.Pairwise (· < ·)) (hl : ∀ x ∈ l, x ≤ n) (h : n ∈ l) : dnL l n = [n] :=
  sorted_ext (hs.filter _) (by simp) (fun x => by
    rw [mem_dnL, List.mem_singleton]
    exact ⟨fun ⟨h1, h2⟩ => by have := hl x h1; omega, fun e => by subst e; exact ⟨h, Int.le_refl _⟩⟩)
theorem dnL_no {l : List Int} {n : Int} (hl : ∀ x ∈ l, x ≤ n) (h : n ∉ l) : dnL l n = [] :=
  List.filter_eq_nil_iff.2 (fun x hx => by
    have := hl x hx
    have : x ≠ n := fun e => h (e ▸ hx)
    simp; omega)
end Go.Proofs.YtmhfgncffkfelaaDoor
