/- Plain mathematics of a table as bytes (for stage 6): its bytes, the table of bytes, there and back. No program. -/
import Derived.Test.YtbnconieedgcmaaDoorMath
namespace Go.Proofs.YtbnconieedgcmaaDoor

/-! Rows of pieces of one length. -/
section
variable {α : Type}
theorem flat_len (f : α → List Nat) (w : Nat) (l : List α) (hw : ∀ x ∈ l, (f x).length = w) : (l.flatMap f).length = w * l.length := by
  induction l with
  | nil => simp
  | cons x l ih =>
    rw [List.flatMap_cons, List.length_append, hw x (by simp), ih (fun y hy => hw y (by simp [hy])), List.length_cons, Nat.mul_succ]
    omega
theorem flat_at (f : α → List Nat) (w : Nat) (l : List α) (hw : ∀ x ∈ l, (f x).length = w) (i : Nat) (hi : i < l.length) : ((l.flatMap f).drop (w * i)).take w = f l[i] := by
  induction l generalizing i with
  | nil => simp at hi
  | cons x l ih =>
    rw [List.flatMap_cons]
    cases i with
    | zero => rw [Nat.mul_zero, List.drop_zero, List.take_left' (hw x (by simp))]; rfl
    | succ i =>
      have hx : (f x).length = w := hw x (by simp)
      rw [show w * (i + 1) = (f x).length + w * i by rw [hx, Nat.mul_succ]; omega, ← List.drop_drop, List.drop_left]
      exact ih (fun y hy => hw y (by simp [hy])) i (by simpa using hi)
end
/-- A row cut into pieces of w. -/
def chunk (w : Nat) (B : List Nat) (i : Nat) : List Nat := (B.drop (w * i)).take w
theorem chunk_len (w : Nat) (B : List Nat) (i k : Nat) (hB : B.length = w * k) (hi : i < k) : (chunk w B i).length = w := by
  unfold chunk
  rw [List.length_take, List.length_drop, hB]
  have : w * (i + 1) ≤ w * k := Nat.mul_le_mul_left w hi
  rw [Nat.mul_succ] at this
  omega
theorem chunk_flat (w k : Nat) (B : List Nat) (hB : B.length = w * k) : (List.range k).flatMap (chunk w B) = B := by
  induction k generalizing B with
  | zero => rw [Nat.mul_zero] at hB; rw [List.eq_nil_of_length_eq_zero hB]; rfl
  | succ k ih =>
    rw [List.range_succ_eq_map, List.flatMap_cons, List.flatMap_map]
    have h1 : chunk w B 0 = B.take w := by unfold chunk; rw [Nat.mul_zero, List.drop_zero]
    have h2 : ∀ i, chunk w B (i + 1) = chunk w (B.drop w) i := fun i => by
      unfold chunk; rw [List.drop_drop, Nat.mul_succ, Nat.add_comm]
    have h3 : (fun i => chunk w B (i + 1)) = chunk w (B.drop w) := funext h2
    rw [h1, show (fun a => chunk w B (Nat.succ a)) = chunk w (B.drop w) from h3, ih (B.drop w) (by rw [List.length_drop, hB, Nat.mul_succ]; omega), List.take_append_drop]
theorem chunk_mem {w : Nat} {B : List Nat} {i x : Nat} (h : x ∈ chunk w B i) : x ∈ B := List.mem_of_mem_drop (List.mem_of_mem_take h)

/-! A table. -/
structure Tb where
  cl : Int
  bd : List (Int × Int)
  nx : List (List Int)
  br : List Bool
def byteI (v : Int) : Prop := 0 ≤ v ∧ v ≤ 255
structure MayT (t : Tb) : Prop where
  c1 : 1 ≤ t.cl
  c2 : t.cl ≤ 255
  n1 : 1 ≤ t.nx.length
  n2 : t.nx.length ≤ 255
  b1 : t.br.length = t.nx.length
  k1 : t.bd.length ≤ 255
  bd : ∀ x ∈ t.bd, (0 ≤ x.1 ∧ x.1 ≤ 16777215) ∧ byteI x.2
  nx : ∀ r ∈ t.nx, (r.length : Int) = t.cl ∧ ∀ x ∈ r, byteI x
def bandB (x : Int × Int) : List Nat := lowB x.1 3 ++ [x.2.toNat]
def rowB (r : List Int) : List Nat := r.map Int.toNat
def markB : List Nat := [66, 82, 75, 49]
def headB (t : Tb) : List Nat := markB ++ [t.cl.toNat, t.nx.length, t.bd.length]
/-- All but the sum. -/
def bodyB (t : Tb) (y : List Nat) : List Nat := headB t ++ (t.bd.flatMap bandB ++ (t.nx.flatMap rowB ++ y))
def sealB (x : List Nat) : List Nat := x ++ lowB (sumL x : Nat) 4
def IsEnc (b : List Nat) (t : Tb) : Prop := MayT t ∧ ∃ y, IsBits y t.br ∧ b = sealB (bodyB t y)
theorem IsEnc.uniq {b b' : List Nat} {t : Tb} (h : IsEnc b t) (h' : IsEnc b' t) : b = b' := by
  obtain ⟨_, y, hy, rfl⟩ := h
  obtain ⟨_, y', hy', rfl⟩ := h'
  rw [hy.uniq hy']
/-- How many bytes. -/
def lenT (c s k : Nat) : Nat := 7 + 4 * k + s * c + (s + 7) / 8 + 4
theorem bandB_len (x : Int × Int) : (bandB x).length = 4 := by simp [bandB, lowB_len]
theorem rowB_len (r : List Int) : (rowB r).length = r.length := by simp [rowB]
theorem headB_len (t : Tb) : (headB t).length = 7 := by simp [headB, markB]
theorem sealB_len (x : List Nat) : (sealB x).length = x.length + 4 := by simp [sealB, lowB_len]
section
variable {t : Tb} {y : List Nat}
theorem bands_len (t : Tb) : (t.bd.flatMap bandB).length = 4 * t.bd.length := flat_len _ 4 _ (fun x _ => bandB_len x)
theorem rows_w (h : MayT t) : ∀ r ∈ t.nx, (rowB r).length = t.cl.toNat := fun r hr => by
  have := (h.nx r hr).1
  rw [rowB_len]; omega
theorem rows_len (h : MayT t) : (t.nx.flatMap rowB).length = t.cl.toNat * t.nx.length := flat_len _ _ _ (rows_w h)
theorem body_len (h : MayT t) (hy : IsBits y t.br) : (bodyB t y).length = 7 + (4 * t.bd.length + (t.cl.toNat * t.nx.length + (t.nx.length + 7) / 8)) := by
  unfold bodyB
  rw [List.length_append, List.length_append, List.length_append, headB_len, bands_len, rows_len h, hy.1, h.b1]
theorem enc_len {b : List Nat} (h : IsEnc b t) : b.length = lenT t.cl.toNat t.nx.length t.bd.length := by
  obtain ⟨hm, y, hy, rfl⟩ := h
  rw [sealB_len, body_len hm hy]
  unfold lenT
  rw [Nat.mul_comm t.nx.length]
  omega
theorem bandB_lt (x : Int × Int) (h : byteI x.2) : ∀ z ∈ bandB x, z < 256 := fun z hz => by
  unfold bandB at hz
  rcases List.mem_append.1 hz with hz | hz
  · exact lowB_lt _ _ z hz
  · rw [List.mem_singleton] at hz; subst hz
    have := h.2
    have := h.1
    omega
theorem body_lt (h : MayT t) (hy : IsBits y t.br) : ∀ z ∈ bodyB t y, z < 256 := fun z hz => by
  unfold bodyB headB markB at hz
  have c1 := h.c1
  have c2 := h.c2
  have n2 := h.n2
  have k1 := h.k1
  rcases List.mem_append.1 hz with hz | hz
  · simp at hz
    rcases hz with rfl | rfl | rfl | rfl | rfl | rfl | rfl <;> omega
  rcases List.mem_append.1 hz with hz | hz
  · obtain ⟨x, hx, hz⟩ := List.mem_flatMap.1 hz
    exact bandB_lt x (h.bd x hx).2 z hz
  rcases List.mem_append.1 hz with hz | hz
  · obtain ⟨r, hr, hz⟩ := List.mem_flatMap.1 hz
    unfold rowB at hz
    obtain ⟨v, hv, rfl⟩ := List.mem_map.1 hz
    have := (h.nx r hr).2 v hv
    have h1 := this.1
    have h2 := this.2
    omega
  · exact hy.2.1 z hz
theorem seal_lt {x : List Nat} (h : ∀ z ∈ x, z < 256) : ∀ z ∈ sealB x, z < 256 := fun z hz => by
  unfold sealB at hz
  rcases List.mem_append.1 hz with hz | hz
  · exact h z hz
  · exact lowB_lt _ _ z hz
end
/-- A sealed row's last four bytes are the sum of those ahead, and say it. -/
theorem seal_sum (x : List Nat) : ((sealB x).drop x.length) = lowB (sumL x : Nat) 4 ∧ numL (lowB (sumL x : Nat) 4) = sumL x := by
  refine ⟨by unfold sealB; rw [List.drop_left], ?_⟩
  rw [numL_low _ _ (by decide)]
  exact Nat.mod_eq_of_lt (sumL_lt x)
theorem seal_take (x : List Nat) : (sealB x).take x.length = x := by unfold sealB; rw [List.take_left]
theorem numL_inj4 {a b c d a' b' c' d' : Nat} (h : numL [a, b, c, d] = numL [a', b', c', d']) (h1 : b < 256) (h2 : c < 256) (h3 : d < 256) (h1' : b' < 256) (h2' : c' < 256) (h3' : d' < 256) : a = a' ∧ b = b' ∧ c = c' ∧ d = d' := by
  simp only [numL, List.foldl_cons, List.foldl_nil] at h
  omega
theorem low_num3 (x y z : Nat) (hx : x < 256) (hy : y < 256) (hz : z < 256) : lowB (numL [x, y, z] : Nat) 3 = [x, y, z] := by
  simp only [numL, List.foldl_cons, List.foldl_nil, lowB, byteN]
  simp only [List.cons.injEq, and_true]
  omega
theorem low_num4 (x y z u : Nat) (hx : x < 256) (hy : y < 256) (hz : z < 256) (hu : u < 256) : lowB (numL [x, y, z, u] : Nat) 4 = [x, y, z, u] := by
  simp only [numL, List.foldl_cons, List.foldl_nil, lowB, byteN]
  simp only [List.cons.injEq, and_true]
  omega

/-! The table of bytes. -/
/-- A band out of four bytes. -/
def bandOf (ch : List Nat) : Int × Int := ((numL (ch.take 3) : Nat), ((ch.drop 3).headD 0 : Nat))
theorem bandOf_band (x : Int × Int) (h1 : 0 ≤ x.1 ∧ x.1 ≤ 16777215) (h2 : byteI x.2) : bandOf (bandB x) = x := by
  unfold bandOf bandB
  obtain ⟨f, c⟩ := x
  obtain ⟨f, rfl⟩ := Int.eq_ofNat_of_zero_le h1.1
  obtain ⟨c, rfl⟩ := Int.eq_ofNat_of_zero_le h2.1
  have e1 : ((lowB (f : Int) 3 ++ [((c : Int)).toNat]).take 3) = lowB (f : Int) 3 := List.take_left' (lowB_len _ _)
  have e2 : ((lowB (f : Int) 3 ++ [((c : Int)).toNat]).drop 3) = [c] := by
    rw [List.drop_left' (lowB_len _ _), Int.toNat_natCast]
  simp only [e1, e2]
  rw [numL_low f 3 (by decide)]
  have := h1.2
  simp only [List.headD_cons, Prod.mk.injEq]
  exact ⟨by simp only at this; rw [Nat.mod_eq_of_lt (by omega)], trivial⟩
theorem band_bandOf (ch : List Nat) (hl : ch.length = 4) (hb : ∀ x ∈ ch, x < 256) : bandB (bandOf ch) = ch ∧ (0 ≤ (bandOf ch).1 ∧ (bandOf ch).1 ≤ 16777215) ∧ byteI (bandOf ch).2 := by
  match ch, hl with
  | [a, b, c, d], _ =>
    have ha := hb a (by simp)
    have hb' := hb b (by simp)
    have hc := hb c (by simp)
    have hd := hb d (by simp)
    have e : bandOf [a, b, c, d] = (((numL [a, b, c] : Nat) : Int), ((d : Nat) : Int)) := rfl
    rw [e]
    refine ⟨?_, ⟨?_, ?_⟩, ?_⟩
    · unfold bandB
      rw [low_num3 a b c ha hb' hc]
      simp
    · exact Int.natCast_nonneg _
    · simp only [numL, List.foldl_cons, List.foldl_nil]; omega
    · unfold byteI; simp only; omega
/-- The pieces of a row of bytes of a table of c classes, n states, k bands. -/
def tabOf (b : List Nat) (l : List Bool) : Tb :=
  { cl := ((b[4]?.getD 0 : Nat) : Int), bd := (List.range (b[6]?.getD 0)).map fun i => bandOf (chunk 4 (b.drop 7) i), nx := (List.range (b[5]?.getD 0)).map fun s => (chunk (b[4]?.getD 0) (b.drop (7 + 4 * b[6]?.getD 0)) s).map Int.ofNat, br := l }
open Classical in
/-- Why bytes are no table's; 0: they are. -/
noncomputable def errT (b : List Nat) : Nat :=
  if b.length < 11 then 21
  else if b.take 4 ≠ markB then 22
  else if numL (b.drop (b.length - 4)) ≠ sumL (b.take (b.length - 4)) then 23
  else if ¬ ((1 ≤ b[4]?.getD 0 ∧ b[4]?.getD 0 ≤ 8) ∧ (1 ≤ b[5]?.getD 0 ∧ b[5]?.getD 0 ≤ 5) ∧ (1 ≤ b[6]?.getD 0 ∧ b[6]?.getD 0 ≤ 60) ∧ lenT (b[4]?.getD 0) (b[5]?.getD 0) (b[6]?.getD 0) = b.length) then 24
  else if unbR ((b.take (b.length - 4)).drop (7 + 4 * b[6]?.getD 0 + b[5]?.getD 0 * b[4]?.getD 0)) (b[5]?.getD 0 : Nat) = none then 25
  else 0
/-- The table of bytes. -/
noncomputable def decT (b : List Nat) : Tb := tabOf b ((unbR ((b.take (b.length - 4)).drop (7 + 4 * b[6]?.getD 0 + b[5]?.getD 0 * b[4]?.getD 0)) (b[5]?.getD 0 : Nat)).getD [])
theorem chunk_flatMap {α : Type} (f : α → List Nat) (w : Nat) (l : List α) (hw : ∀ x ∈ l, (f x).length = w) (r : List Nat) (i : Nat) (hi : i < l.length) : chunk w (l.flatMap f ++ r) i = f l[i] := by
  unfold chunk
  have hl := flat_len f w l hw
  have : w * (i + 1) ≤ w * l.length := Nat.mul_le_mul_left w hi
  rw [Nat.mul_succ] at this
  rw [List.drop_append_of_le_length (by omega), List.take_append_of_le_length (by rw [List.length_drop]; omega), flat_at f w l hw i hi]
/-- The parts of a table's bytes. -/
theorem body_parts {t : Tb} {y : List Nat} (r : List Nat) : (bodyB t y ++ r).take 4 = markB ∧ (bodyB t y ++ r)[4]?.getD 0 = t.cl.toNat ∧ (bodyB t y ++ r)[5]?.getD 0 = t.nx.length ∧ (bodyB t y ++ r)[6]?.getD 0 = t.bd.length ∧ (bodyB t y ++ r).drop 7 = t.bd.flatMap bandB ++ (t.nx.flatMap rowB ++ (y ++ r)) := by
  unfold bodyB headB markB
  refine ⟨by simp, by simp, by simp, by simp, by simp⟩
theorem tabOf_body {t : Tb} {y : List Nat} (h : MayT t) (r : List Nat) : tabOf (bodyB t y ++ r) t.br = t := by
  obtain ⟨_, e4, e5, e6, e7⟩ := body_parts (t := t) (y := y) r
  have e8 : (bodyB t y ++ r).drop (7 + 4 * t.bd.length) = t.nx.flatMap rowB ++ (y ++ r) := by
    rw [← List.drop_drop, e7, List.drop_left' (bands_len t)]
  have c1 := h.c1
  obtain ⟨cl, bd, nx, br⟩ := t
  unfold tabOf
  simp only [e4, e5, e6, e7] at *
  rw [e8]
  congr 1
  · omega
  · apply List.ext_getElem (by simp)
    intro i h1 h2
    rw [List.getElem_map, List.getElem_range, chunk_flatMap bandB 4 bd (fun x _ => bandB_len x) _ i h2]
    have := h.bd bd[i] (List.getElem_mem h2)
    exact bandOf_band _ this.1 this.2
  · apply List.ext_getElem (by simp)
    intro i h1 h2
    rw [List.getElem_map, List.getElem_range, chunk_flatMap rowB _ nx (rows_w h) _ i h2]
    unfold rowB
    rw [List.map_map]
    have hr := (h.nx nx[i] (List.getElem_mem h2)).2
    conv => rhs; rw [← List.map_id nx[i]]
    refine List.map_congr_left fun x hx => ?_
    have := (hr x hx).1
    simp only [Function.comp, id]
    exact Int.toNat_of_nonneg this
end Go.Proofs.YtbnconieedgcmaaDoor
