/- Joined: Math TMath Own App Bit Get Get2 GetK3 GetK4 RefGet Cat Put RefPut Bits Unbits RefUnbits RefBits Keep Sum LawKit TMath2 TMath3 Tabs. -/
import Derived.Laws.BitsAllLaws
import Derived.Laws.BitsLemmas
import Derived.Test.YtnilejdokgagbaaDoorChecked
import Derived.Lib.Hide
import Derived.Deep.QuietTactic
import Derived.BigQuiet
import Derived.Laws.StructEq
import Derived.Handy
import Derived.Laws.Cover1
import Derived.Deep.AppendLies
import Derived.Laws.OwnMore
import Derived.Deep.Draws
import Derived.OwnWalk
import Derived.Laws.AppendOwnNone
import Derived.Deep.RegionLaw
import Derived.BigRegion
import Derived.Laws.IdiomCopy
import Derived.Deep.RegionHeld3
import Derived.Laws.CopyOwn
import Derived.Lib.AppendZeros
import Derived.Laws.MakeOwn
import Derived.Laws.BytesArg
/- Plain mathematics of package pack: a number's bytes, the sum, bits. No program. -/
namespace Go.Proofs.YtnilejdokgagbaaDoor

/-! The sum. -/
/-- Turned left by five bits. -/
def rot (t : Nat) : Nat := t % 134217728 * 32 + t / 134217728
def stp (s x : Nat) : Nat := (rot (s ^^^ x) + 2654435761) % 4294967296
def seed0 : Nat := 2166136261
theorem seed0_lt : seed0 < 4294967296 := by unfold seed0; omega
def sumFrom (s : Nat) (l : List Nat) : Nat := l.foldl stp s
theorem sumFrom_nil (s : Nat) : sumFrom s [] = s := rfl
theorem sumFrom_cons (s x : Nat) (l : List Nat) : sumFrom s (x :: l) = sumFrom (stp s x) l := by unfold sumFrom; rw [List.foldl_cons]
theorem sumFrom_app (s : Nat) (l m : List Nat) : sumFrom s (l ++ m) = sumFrom (sumFrom s l) m := List.foldl_append
def sumL (l : List Nat) : Nat := sumFrom seed0 l
attribute [irreducible] sumFrom seed0
theorem rot_lt {t : Nat} (h : t < 4294967296) : rot t < 4294967296 := by unfold rot; omega
theorem rot_inj {a b : Nat} (ha : a < 4294967296) (hb : b < 4294967296) (h : rot a = rot b) : a = b := by unfold rot at h; omega
theorem xor_lt {s x : Nat} (hs : s < 4294967296) (hx : x < 256) : s ^^^ x < 4294967296 := Nat.xor_lt_two_pow (n := 32) hs (by omega)
theorem stp_lt (s x : Nat) : stp s x < 4294967296 := Nat.mod_lt _ (by decide)
theorem xor_right {a b c : Nat} (h : a ^^^ c = b ^^^ c) : a = b := by
  have := congrArg (· ^^^ c) h
  simpa [Nat.xor_assoc] using this
theorem xor_left {a b c : Nat} (h : c ^^^ a = c ^^^ b) : a = b := by
  rw [Nat.xor_comm c a, Nat.xor_comm c b] at h; exact xor_right h
theorem stp_inj {s t x y : Nat} (hs : s < 4294967296) (ht : t < 4294967296) (hx : x < 256) (hy : y < 256) (h : stp s x = stp t y) : s ^^^ x = t ^^^ y := by
  have h1 := xor_lt hs hx
  have h2 := xor_lt ht hy
  have r1 := rot_lt h1
  have r2 := rot_lt h2
  refine rot_inj h1 h2 ?_
  unfold stp at h
  omega
theorem stp_left {s t x : Nat} (hs : s < 4294967296) (ht : t < 4294967296) (hx : x < 256) (h : stp s x = stp t x) : s = t := xor_right (stp_inj hs ht hx hx h)
theorem stp_right {s x y : Nat} (hs : s < 4294967296) (hx : x < 256) (hy : y < 256) (h : stp s x = stp s y) : x = y := xor_left (stp_inj hs hs hx hy h)
attribute [irreducible] stp
theorem fold_lt {s : Nat} (hs : s < 4294967296) (l : List Nat) : sumFrom s l < 4294967296 := by
  induction l generalizing s with
  | nil => rw [sumFrom_nil]; exact hs
  | cons x l ih => rw [sumFrom_cons]; exact ih (stp_lt _ _)
theorem sumL_lt (l : List Nat) : sumL l < 4294967296 := fold_lt seed0_lt l
theorem sumL_snoc (l : List Nat) (x : Nat) : sumL (l ++ [x]) = stp (sumL l) x := by unfold sumL; rw [sumFrom_app, sumFrom_cons, sumFrom_nil]
theorem fold_inj {s t : Nat} (hs : s < 4294967296) (ht : t < 4294967296) (l : List Nat) (hl : ∀ x ∈ l, x < 256) (h : sumFrom s l = sumFrom t l) : s = t := by
  induction l generalizing s t with
  | nil => rw [sumFrom_nil, sumFrom_nil] at h; exact h
  | cons x l ih =>
    rw [sumFrom_cons, sumFrom_cons] at h
    exact stp_left hs ht (hl x (by simp)) (ih (stp_lt _ _) (stp_lt _ _) (fun y hy => hl y (by simp [hy])) h)
/-- One byte turned: another sum. -/
theorem sumL_set (l : List Nat) (hl : ∀ x ∈ l, x < 256) (k y : Nat) (hk : k < l.length) (hy : y < 256) : sumL l = sumL (l.set k y) ↔ l[k] = y := by
  have hsplit : l = l.take k ++ l[k] :: l.drop (k + 1) := by rw [List.getElem_cons_drop, List.take_append_drop]
  have hset : l.set k y = l.take k ++ y :: l.drop (k + 1) := by rw [List.set_eq_take_append_cons_drop, if_pos hk]
  constructor
  · intro h
    rw [hset] at h
    rw [show sumL l = sumL (l.take k ++ l[k] :: l.drop (k + 1)) from congrArg sumL hsplit] at h
    unfold sumL at h
    rw [sumFrom_app, sumFrom_app, sumFrom_cons, sumFrom_cons] at h
    have hb : sumFrom seed0 (l.take k) < 4294967296 := fold_lt seed0_lt _
    have := fold_inj (stp_lt _ _) (stp_lt _ _) _ (fun x hx => hl x (List.mem_of_mem_drop hx)) h
    exact stp_right hb (hl _ (List.getElem_mem hk)) hy this
  · intro h
    rw [← h, List.set_getElem_self]

/-! A number's lowest bytes. -/
/-- Byte i of a number, the lowest is 0. -/
def byteN (v : Int) (i : Nat) : Nat := (v / 256 ^ i % 256).toNat
theorem byteN_lt (v : Int) (i : Nat) : byteN v i < 256 := by unfold byteN; omega
/-- The lowest k bytes, the highest first. -/
def lowB (v : Int) : Nat → List Nat
  | 0 => []
  | k + 1 => byteN v k :: lowB v k
theorem lowB_len (v : Int) (k : Nat) : (lowB v k).length = k := by induction k with | zero => rfl | succ k ih => simp [lowB, ih]
theorem lowB_lt (v : Int) (k : Nat) : ∀ x ∈ lowB v k, x < 256 := by
  induction k with
  | zero => intro x hx; simp [lowB] at hx
  | succ k ih =>
    intro x hx
    simp only [lowB, List.mem_cons] at hx
    rcases hx with rfl | hx
    · exact byteN_lt _ _
    · exact ih x hx
/-- The number that stands in bytes. -/
def numL (l : List Nat) : Nat := l.foldl (fun v x => v * 256 + x) 0
theorem numL_snoc (l : List Nat) (x : Nat) : numL (l ++ [x]) = numL l * 256 + x := by unfold numL; rw [List.foldl_append]; rfl
theorem numL_low (v : Nat) (k : Nat) (hk : k ≤ 4) : numL (lowB v k) = v % 256 ^ k := by
  match k, hk with
  | 0, _ => simp [lowB, numL, Nat.mod_one]
  | 1, _ => simp [lowB, numL, byteN]; omega
  | 2, _ => simp [lowB, numL, byteN]; omega
  | 3, _ => simp [lowB, numL, byteN]; omega
  | 4, _ => simp [lowB, numL, byteN]; omega

/-! Bits. -/
/-- The bit of a place. -/
def bitY (b : List Nat) (i : Nat) : Bool := ((b[i / 8]?).getD 0).testBit (i % 8)
theorem bitY_eq (b : List Nat) (i : Nat) (h : i / 8 < b.length) : bitY b i = b[i / 8].testBit (i % 8) := by unfold bitY; rw [List.getElem?_eq_getElem h]; rfl
theorem bitY_out (b : List Nat) (i : Nat) (h : b.length * 8 ≤ i) : bitY b i = false := by unfold bitY; rw [List.getElem?_eq_none (by omega)]; simp
/-- Bytes are told by their bits. -/
theorem bits_uniq {a b : List Nat} (hl : a.length = b.length) (ha : ∀ x ∈ a, x < 256) (hb : ∀ x ∈ b, x < 256) (h : ∀ i, i < a.length * 8 → bitY a i = bitY b i) : a = b := by
  refine List.ext_getElem hl fun k h1 h2 => Nat.eq_of_testBit_eq fun j => ?_
  by_cases hj : j < 8
  · have := h (k * 8 + j) (by omega)
    have e1 : (k * 8 + j) / 8 = k := by omega
    have e2 : (k * 8 + j) % 8 = j := by omega
    rw [bitY_eq a _ (by omega), bitY_eq b _ (by omega)] at this
    simp only [e1, e2] at this
    exact this
  · have p : 256 ≤ 2 ^ j := Nat.le_trans (show 256 ≤ 2 ^ 8 by decide) (Nat.pow_le_pow_right (by decide) (by omega))
    rw [Nat.testBit_lt_two_pow (Nat.lt_of_lt_of_le (ha _ (List.getElem_mem h1)) p), Nat.testBit_lt_two_pow (Nat.lt_of_lt_of_le (hb _ (List.getElem_mem h2)) p)]
/-- Bytes of these bits. -/
def IsBits (b : List Nat) (l : List Bool) : Prop := b.length = (l.length + 7) / 8 ∧ (∀ x ∈ b, x < 256) ∧ ∀ i, bitY b i = (l[i]?).getD false
theorem IsBits.uniq {a b : List Nat} {l : List Bool} (ha : IsBits a l) (hb : IsBits b l) : a = b := bits_uniq (by rw [ha.1, hb.1]) ha.2.1 hb.2.1 fun i _ => by rw [ha.2.2, hb.2.2]
/-- One bit set. -/
theorem bitY_set (b : List Nat) (i j : Nat) (h : i / 8 < b.length) : bitY (b.set (i / 8) (b[i / 8] ||| 2 ^ (i % 8))) j = (bitY b j || decide (j = i)) := by
  unfold bitY
  rw [List.getElem?_set]
  by_cases e : i / 8 = j / 8
  · rw [if_pos e, if_pos (by omega), Option.getD_some, Nat.testBit_or, Nat.testBit_two_pow, ← e, List.getElem?_eq_getElem h, Option.getD_some]
    congr 1
    by_cases f : j = i
    · subst f; simp
    · have : i % 8 ≠ j % 8 := by omega
      simp [f, this]
  · rw [if_neg e]
    have : j ≠ i := by intro f; subst f; exact e rfl
    simp [this]
theorem set_or_lt {x i : Nat} (h : x < 256) : x ||| 2 ^ (i % 8) < 256 := Nat.or_lt_two_pow (n := 8) (by omega) (by
  have : i % 8 < 8 := Nat.mod_lt _ (by decide)
  exact Nat.pow_lt_pow_right (by decide) this)
theorem set_lt {b : List Nat} (hb : ∀ x ∈ b, x < 256) (k y : Nat) (hy : y < 256) : ∀ x ∈ b.set k y, x < 256 := fun x hx => by
  rcases List.mem_or_eq_of_mem_set hx with h | h
  · exact hb x h
  · subst h; exact hy
open Classical in
/-- What Unbits tells. -/
noncomputable def unbR (b : List Nat) (n : Int) : Option (List Bool) :=
  if 0 ≤ n ∧ n ≤ 8 * b.length ∧ (b.length : Int) ≤ (n + 7) / 8 ∧ (∀ i, n.toNat ≤ i → i < 8 * b.length → bitY b i = false) then some ((List.range n.toNat).map (bitY b)) else none
end Go.Proofs.YtnilejdokgagbaaDoor

/- Plain mathematics of a table as bytes (for stage 6): its bytes, the table of bytes, there and back. No program. -/
namespace Go.Proofs.YtnilejdokgagbaaDoor

/-! Rows of pieces of one length. -/
section
variable {α : Type}
theorem flat_len (f : α → List Nat) (w : Nat) (l : List α) (hw : ∀ x ∈ l, (f x).length = w) : (l.flatMap f).length = w * l.length := by
  induction l with
  | nil => simp
  | cons x l ih =>
    rw [List.flatMap_cons, List.length_append, hw x (by simp), ih (fun y hy => hw y (by simp [hy])), List.length_cons, Nat.mul_succ]
    omega
theorem flat_at (f : α → List Nat) (w : Nat) (l : List α) (hw : ∀ x ∈ l, (f x).length = w) (i : Nat) (hi : i < l.length) : ((l.flatMap f).drop (w * i)).take w = f l[i] := by
  induction l generalizing i with
  | nil => simp at hi
  | cons x l ih =>
    rw [List.flatMap_cons]
    cases i with
    | zero => rw [Nat.mul_zero, List.drop_zero, List.take_left' (hw x (by simp))]; rfl
    | succ i =>
      have hx : (f x).length = w := hw x (by simp)
      rw [show w * (i + 1) = (f x).length + w * i by rw [hx, Nat.mul_succ]; omega, ← List.drop_drop, List.drop_left]
      exact ih (fun y hy => hw y (by simp [hy])) i (by simpa using hi)
end
/-- A row cut into pieces of w. -/
def chunk (w : Nat) (B : List Nat) (i : Nat) : List Nat := (B.drop (w * i)).take w
theorem chunk_len (w : Nat) (B : List Nat) (i k : Nat) (hB : B.length = w * k) (hi : i < k) : (chunk w B i).length = w := by
  unfold chunk
  rw [List.length_take, List.length_drop, hB]
  have : w * (i + 1) ≤ w * k := Nat.mul_le_mul_left w hi
  rw [Nat.mul_succ] at this
  omega
theorem chunk_flat (w k : Nat) (B : List Nat) (hB : B.length = w * k) : (List.range k).flatMap (chunk w B) = B := by
  induction k generalizing B with
  | zero => rw [Nat.mul_zero] at hB; rw [List.eq_nil_of_length_eq_zero hB]; rfl
  | succ k ih =>
    rw [List.range_succ_eq_map, List.flatMap_cons, List.flatMap_map]
    have h1 : chunk w B 0 = B.take w := by unfold chunk; rw [Nat.mul_zero, List.drop_zero]
    have h2 : ∀ i, chunk w B (i + 1) = chunk w (B.drop w) i := fun i => by
      unfold chunk; rw [List.drop_drop, Nat.mul_succ, Nat.add_comm]
    have h3 : (fun i => chunk w B (i + 1)) = chunk w (B.drop w) := funext h2
    rw [h1, show (fun a => chunk w B (Nat.succ a)) = chunk w (B.drop w) from h3, ih (B.drop w) (by rw [List.length_drop, hB, Nat.mul_succ]; omega), List.take_append_drop]
theorem chunk_mem {w : Nat} {B : List Nat} {i x : Nat} (h : x ∈ chunk w B i) : x ∈ B := List.mem_of_mem_drop (List.mem_of_mem_take h)

/-! A table. -/
structure Tb where
  cl : Int
  bd : List (Int × Int)
  nx : List (List Int)
  br : List Bool
def byteI (v : Int) : Prop := 0 ≤ v ∧ v ≤ 255
structure MayT (t : Tb) : Prop where
  c1 : 1 ≤ t.cl
  c2 : t.cl ≤ 255
  n1 : 1 ≤ t.nx.length
  n2 : t.nx.length ≤ 255
  b1 : t.br.length = t.nx.length
  k1 : t.bd.length ≤ 255
  bd : ∀ x ∈ t.bd, (0 ≤ x.1 ∧ x.1 ≤ 16777215) ∧ byteI x.2
  nx : ∀ r ∈ t.nx, (r.length : Int) = t.cl ∧ ∀ x ∈ r, byteI x
def bandB (x : Int × Int) : List Nat := lowB x.1 3 ++ [x.2.toNat]
def rowB (r : List Int) : List Nat := r.map Int.toNat
def markB : List Nat := [66, 82, 75, 49]
def headB (t : Tb) : List Nat := markB ++ [t.cl.toNat, t.nx.length, t.bd.length]
/-- All but the sum. -/
def bodyB (t : Tb) (y : List Nat) : List Nat := headB t ++ (t.bd.flatMap bandB ++ (t.nx.flatMap rowB ++ y))
def sealB (x : List Nat) : List Nat := x ++ lowB (sumL x : Nat) 4
def IsEnc (b : List Nat) (t : Tb) : Prop := MayT t ∧ ∃ y, IsBits y t.br ∧ b = sealB (bodyB t y)
theorem IsEnc.uniq {b b' : List Nat} {t : Tb} (h : IsEnc b t) (h' : IsEnc b' t) : b = b' := by
  obtain ⟨_, y, hy, rfl⟩ := h
  obtain ⟨_, y', hy', rfl⟩ := h'
  rw [hy.uniq hy']
/-- How many bytes. -/
def lenT (c s k : Nat) : Nat := 7 + 4 * k + s * c + (s + 7) / 8 + 4
theorem bandB_len (x : Int × Int) : (bandB x).length = 4 := by simp [bandB, lowB_len]
theorem rowB_len (r : List Int) : (rowB r).length = r.length := by simp [rowB]
theorem headB_len (t : Tb) : (headB t).length = 7 := by simp [headB, markB]
theorem sealB_len (x : List Nat) : (sealB x).length = x.length + 4 := by simp [sealB, lowB_len]
section
variable {t : Tb} {y : List Nat}
theorem bands_len (t : Tb) : (t.bd.flatMap bandB).length = 4 * t.bd.length := flat_len _ 4 _ (fun x _ => bandB_len x)
theorem rows_w (h : MayT t) : ∀ r ∈ t.nx, (rowB r).length = t.cl.toNat := fun r hr => by
  have := (h.nx r hr).1
  rw [rowB_len]; omega
theorem rows_len (h : MayT t) : (t.nx.flatMap rowB).length = t.cl.toNat * t.nx.length := flat_len _ _ _ (rows_w h)
theorem body_len (h : MayT t) (hy : IsBits y t.br) : (bodyB t y).length = 7 + (4 * t.bd.length + (t.cl.toNat * t.nx.length + (t.nx.length + 7) / 8)) := by
  unfold bodyB
  rw [List.length_append, List.length_append, List.length_append, headB_len, bands_len, rows_len h, hy.1, h.b1]
theorem enc_len {b : List Nat} (h : IsEnc b t) : b.length = lenT t.cl.toNat t.nx.length t.bd.length := by
  obtain ⟨hm, y, hy, rfl⟩ := h
  rw [sealB_len, body_len hm hy]
  unfold lenT
  rw [Nat.mul_comm t.nx.length]
  omega
theorem bandB_lt (x : Int × Int) (h : byteI x.2) : ∀ z ∈ bandB x, z < 256 := fun z hz => by
  unfold bandB at hz
  rcases List.mem_append.1 hz with hz | hz
  · exact lowB_lt _ _ z hz
  · rw [List.mem_singleton] at hz; subst hz
    have := h.2
    have := h.1
    omega
theorem body_lt (h : MayT t) (hy : IsBits y t.br) : ∀ z ∈ bodyB t y, z < 256 := fun z hz => by
  unfold bodyB headB markB at hz
  have c1 := h.c1
  have c2 := h.c2
  have n2 := h.n2
  have k1 := h.k1
  rcases List.mem_append.1 hz with hz | hz
  · simp at hz
    rcases hz with rfl | rfl | rfl | rfl | rfl | rfl | rfl <;> omega
  rcases List.mem_append.1 hz with hz | hz
  · obtain ⟨x, hx, hz⟩ := List.mem_flatMap.1 hz
    exact bandB_lt x (h.bd x hx).2 z hz
  rcases List.mem_append.1 hz with hz | hz
  · obtain ⟨r, hr, hz⟩ := List.mem_flatMap.1 hz
    unfold rowB at hz
    obtain ⟨v, hv, rfl⟩ := List.mem_map.1 hz
    have := (h.nx r hr).2 v hv
    have h1 := this.1
    have h2 := this.2
    omega
  · exact hy.2.1 z hz
theorem seal_lt {x : List Nat} (h : ∀ z ∈ x, z < 256) : ∀ z ∈ sealB x, z < 256 := fun z hz => by
  unfold sealB at hz
  rcases List.mem_append.1 hz with hz | hz
  · exact h z hz
  · exact lowB_lt _ _ z hz
end
/-- A sealed row's last four bytes are the sum of those ahead, and say it. -/
theorem seal_sum (x : List Nat) : ((sealB x).drop x.length) = lowB (sumL x : Nat) 4 ∧ numL (lowB (sumL x : Nat) 4) = sumL x := by
  refine ⟨by unfold sealB; rw [List.drop_left], ?_⟩
  rw [numL_low _ _ (by decide)]
  exact Nat.mod_eq_of_lt (sumL_lt x)
theorem seal_take (x : List Nat) : (sealB x).take x.length = x := by unfold sealB; rw [List.take_left]
theorem numL_inj4 {a b c d a' b' c' d' : Nat} (h : numL [a, b, c, d] = numL [a', b', c', d']) (h1 : b < 256) (h2 : c < 256) (h3 : d < 256) (h1' : b' < 256) (h2' : c' < 256) (h3' : d' < 256) : a = a' ∧ b = b' ∧ c = c' ∧ d = d' := by
  simp only [numL, List.foldl_cons, List.foldl_nil] at h
  omega
theorem low_num3 (x y z : Nat) (hx : x < 256) (hy : y < 256) (hz : z < 256) : lowB (numL [x, y, z] : Nat) 3 = [x, y, z] := by
  simp only [numL, List.foldl_cons, List.foldl_nil, lowB, byteN]
  simp only [List.cons.injEq, and_true]
  omega
theorem low_num4 (x y z u : Nat) (hx : x < 256) (hy : y < 256) (hz : z < 256) (hu : u < 256) : lowB (numL [x, y, z, u] : Nat) 4 = [x, y, z, u] := by
  simp only [numL, List.foldl_cons, List.foldl_nil, lowB, byteN]
  simp only [List.cons.injEq, and_true]
  omega

/-! The table of bytes. -/
/-- A band out of four bytes. -/
def bandOf (ch : List Nat) : Int × Int := ((numL (ch.take 3) : Nat), ((ch.drop 3).headD 0 : Nat))
theorem bandOf_band (x : Int × Int) (h1 : 0 ≤ x.1 ∧ x.1 ≤ 16777215) (h2 : byteI x.2) : bandOf (bandB x) = x := by
  unfold bandOf bandB
  obtain ⟨f, c⟩ := x
  obtain ⟨f, rfl⟩ := Int.eq_ofNat_of_zero_le h1.1
  obtain ⟨c, rfl⟩ := Int.eq_ofNat_of_zero_le h2.1
  have e1 : ((lowB (f : Int) 3 ++ [((c : Int)).toNat]).take 3) = lowB (f : Int) 3 := List.take_left' (lowB_len _ _)
  have e2 : ((lowB (f : Int) 3 ++ [((c : Int)).toNat]).drop 3) = [c] := by
    rw [List.drop_left' (lowB_len _ _), Int.toNat_natCast]
  simp only [e1, e2]
  rw [numL_low f 3 (by decide)]
  have := h1.2
  simp only [List.headD_cons, Prod.mk.injEq]
  exact ⟨by simp only at this; rw [Nat.mod_eq_of_lt (by omega)], trivial⟩
theorem band_bandOf (ch : List Nat) (hl : ch.length = 4) (hb : ∀ x ∈ ch, x < 256) : bandB (bandOf ch) = ch ∧ (0 ≤ (bandOf ch).1 ∧ (bandOf ch).1 ≤ 16777215) ∧ byteI (bandOf ch).2 := by
  match ch, hl with
  | [a, b, c, d], _ =>
    have ha := hb a (by simp)
    have hb' := hb b (by simp)
    have hc := hb c (by simp)
    have hd := hb d (by simp)
    have e : bandOf [a, b, c, d] = (((numL [a, b, c] : Nat) : Int), ((d : Nat) : Int)) := rfl
    rw [e]
    refine ⟨?_, ⟨?_, ?_⟩, ?_⟩
    · unfold bandB
      rw [low_num3 a b c ha hb' hc]
      simp
    · exact Int.natCast_nonneg _
    · simp only [numL, List.foldl_cons, List.foldl_nil]; omega
    · unfold byteI; simp only; omega
/-- The pieces of a row of bytes of a table of c classes, n states, k bands. -/
def tabOf (b : List Nat) (l : List Bool) : Tb :=
  { cl := ((b[4]?.getD 0 : Nat) : Int), bd := (List.range (b[6]?.getD 0)).map fun i => bandOf (chunk 4 (b.drop 7) i), nx := (List.range (b[5]?.getD 0)).map fun s => (chunk (b[4]?.getD 0) (b.drop (7 + 4 * b[6]?.getD 0)) s).map Int.ofNat, br := l }
open Classical in
/-- Why bytes are no table's; 0: they are. -/
noncomputable def errT (b : List Nat) : Nat :=
  if b.length < 11 then 21
  else if b.take 4 ≠ markB then 22
  else if numL (b.drop (b.length - 4)) ≠ sumL (b.take (b.length - 4)) then 23
  else if ¬ ((1 ≤ b[4]?.getD 0 ∧ b[4]?.getD 0 ≤ 8) ∧ (1 ≤ b[5]?.getD 0 ∧ b[5]?.getD 0 ≤ 5) ∧ (1 ≤ b[6]?.getD 0 ∧ b[6]?.getD 0 ≤ 60) ∧ lenT (b[4]?.getD 0) (b[5]?.getD 0) (b[6]?.getD 0) = b.length) then 24
  else if unbR ((b.take (b.length - 4)).drop (7 + 4 * b[6]?.getD 0 + b[5]?.getD 0 * b[4]?.getD 0)) (b[5]?.getD 0 : Nat) = none then 25
  else 0
/-- The table of bytes. -/
noncomputable def decT (b : List Nat) : Tb := tabOf b ((unbR ((b.take (b.length - 4)).drop (7 + 4 * b[6]?.getD 0 + b[5]?.getD 0 * b[4]?.getD 0)) (b[5]?.getD 0 : Nat)).getD [])
theorem chunk_flatMap {α : Type} (f : α → List Nat) (w : Nat) (l : List α) (hw : ∀ x ∈ l, (f x).length = w) (r : List Nat) (i : Nat) (hi : i < l.length) : chunk w (l.flatMap f ++ r) i = f l[i] := by
  unfold chunk
  have hl := flat_len f w l hw
  have : w * (i + 1) ≤ w * l.length := Nat.mul_le_mul_left w hi
  rw [Nat.mul_succ] at this
  rw [List.drop_append_of_le_length (by omega), List.take_append_of_le_length (by rw [List.length_drop]; omega), flat_at f w l hw i hi]
/-- The parts of a table's bytes. -/
theorem body_parts {t : Tb} {y : List Nat} (r : List Nat) : (bodyB t y ++ r).take 4 = markB ∧ (bodyB t y ++ r)[4]?.getD 0 = t.cl.toNat ∧ (bodyB t y ++ r)[5]?.getD 0 = t.nx.length ∧ (bodyB t y ++ r)[6]?.getD 0 = t.bd.length ∧ (bodyB t y ++ r).drop 7 = t.bd.flatMap bandB ++ (t.nx.flatMap rowB ++ (y ++ r)) := by
  unfold bodyB headB markB
  refine ⟨by simp, by simp, by simp, by simp, by simp⟩
theorem tabOf_body {t : Tb} {y : List Nat} (h : MayT t) (r : List Nat) : tabOf (bodyB t y ++ r) t.br = t := by
  obtain ⟨_, e4, e5, e6, e7⟩ := body_parts (t := t) (y := y) r
  have e8 : (bodyB t y ++ r).drop (7 + 4 * t.bd.length) = t.nx.flatMap rowB ++ (y ++ r) := by
    rw [← List.drop_drop, e7, List.drop_left' (bands_len t)]
  have c1 := h.c1
  obtain ⟨cl, bd, nx, br⟩ := t
  unfold tabOf
  simp only [e4, e5, e6, e7] at *
  rw [e8]
  congr 1
  · omega
  · apply List.ext_getElem (by simp)
    intro i h1 h2
    rw [List.getElem_map, List.getElem_range, chunk_flatMap bandB 4 bd (fun x _ => bandB_len x) _ i h2]
    have := h.bd bd[i] (List.getElem_mem h2)
    exact bandOf_band _ this.1 this.2
  · apply List.ext_getElem (by simp)
    intro i h1 h2
    rw [List.getElem_map, List.getElem_range, chunk_flatMap rowB _ nx (rows_w h) _ i h2]
    unfold rowB
    rw [List.map_map]
    have hr := (h.nx nx[i] (List.getElem_mem h2)).2
    conv => rhs; rw [← List.map_id nx[i]]
    refine List.map_congr_left fun x hx => ?_
    have := (hr x hx).1
    simp only [Function.comp, id]
    exact Int.toNat_of_nonneg this
end Go.Proofs.YtnilejdokgagbaaDoor

/- Words for memory: a slice that reads as a list, nil let in; a row of the call's own over calls that lay new memory. -/
namespace Go.Proofs.YtnilejdokgagbaaDoor
open Go.RowKit

theorem block_of_add (a : Addr) (n : Nat) : (a.add n).block = a.block := by unfold Addr.add; split <;> rfl

/-- A slice value that holds these cells, and lies below block B. -/
def Reads (w : World) (B size : Nat) (A : Option Addr) (n : Nat) (xs : List Value) : Prop :=
  xs.length = n * size ∧ (0 < n → ∃ b o, A = some ⟨b, o, none⟩ ∧ b < B ∧ ∀ j u, xs[j]? = some u → w.cell? ⟨b, o + j, none⟩ = some u)

section
variable {w w' : World} {B B' size n : Nat} {A : Option Addr} {xs : List Value}
theorem Reads.none_ : Reads w B size A 0 [] := ⟨by simp, fun h => absurd h (by omega)⟩
theorem Reads.keep (h : Reads w B size A n xs) (hk : ∀ p : Addr, p.block < B → w'.cell? p = w.cell? p) : Reads w' B size A n xs :=
  ⟨h.1, fun hn => by
    obtain ⟨b, o, e, hb, hc⟩ := h.2 hn
    exact ⟨b, o, e, hb, fun j u hu => (hk ⟨b, o + j, none⟩ hb).trans (hc j u hu)⟩⟩
theorem Reads.more (h : Reads w B size A n xs) (hB : B ≤ B') : Reads w B' size A n xs :=
  ⟨h.1, fun hn => by
    obtain ⟨b, o, e, hb, hc⟩ := h.2 hn
    exact ⟨b, o, e, by omega, hc⟩⟩
theorem Reads.below (h : Reads w B size A n xs) (hb : Below B w w') : Reads w' B size A n xs := h.keep fun _ hp => hb.cell hp
theorem Reads.alloc (h : Reads w B size A n xs) (hB : B ≤ w.heap.size) (o : Obj) : Reads (w.alloc o) B size A n xs := h.keep fun p hp => World.cell?_alloc_lt w o p (by omega)
theorem Reads.of_own {base : Nat} {e : TypeId} {c : Nat} (h : w.ownsRow base e size (.slice A n c) n xs) : Reads w w.heap.size size A n xs := by
  refine ⟨h.1, fun hn => ?_⟩
  obtain ⟨g, cap, hv, _, hlt⟩ := h.form hn
  have hA : A = some ⟨g, 0, none⟩ := by injection hv
  subst hA
  refine ⟨g, 0, rfl, hlt, fun j u hu => ?_⟩
  have := h.cells (g := g) rfl j u hu
  rw [Nat.zero_add]
  by_cases hj : j = 0
  · subst hj; simpa [Addr.add] using this
  · simpa [Addr.add, hj] using this
end

/-- A row of the call's own over a call that lays new memory. -/
theorem own_below {w w' : World} {base : Nat} {e : TypeId} {size n : Nat} {v : Value} {xs : List Value} (h : w.ownsRow base e size v n xs) (hb : Below w.heap.size w w') : w'.ownsRow base e size v n xs :=
  h.kept (row := none) ⟨hb.os, hb.tape, hb.output, hb.size, fun i hi _ => hb.block i hi⟩ (by
    cases h' : v.ownBlock with
    | none => exact .inl rfl
    | some g => exact .inr (by simp))
/-- Below, over a step that writes a row of the call's own and new memory alone. -/
theorem below_grown {w0 w w' : World} {base : Nat} {e : TypeId} {size n : Nat} {v : Value} {xs : List Value} (h : Below base w0 w) (hz : base ≤ w.heap.size) (ho : w.ownsRow base e size v n xs) (hg : w.grownBy w' v.ownBlock) : Below base w0 w' :=
  h.grown hg hz (fun k hk => (ho.lt k hk).1)

theorem below_new (w : World) (o : Obj) : Below w.heap.size w (w.alloc o) := (Below.refl _ _).alloc (Nat.le_refl _) _
theorem kept_cell {w w' : World} {a : Addr} {u : Value} (g : Below w.heap.size w w') (h : w.cell? a = some u) : w'.cell? a = some u :=
  (g.cell (p := a) (World.block_lt_of_cell? w a h)).trans h
theorem below_drewN {B : Nat} {a w : World} (h : Below B a w) (n : Nat) : Below B a (w.drewN n) := ⟨h.os, h.tape, h.output, h.size, h.block⟩
theorem reads_on {w w' : World} {size n : Nat} {A : Option Addr} {xs : List Value} (h : Reads w w.heap.size size A n xs) (g : Below w.heap.size w w') : Reads w' w'.heap.size size A n xs := (h.below g).more g.size

/-- Cells of bytes, of bools, of 32-bit numbers. -/
def ycells (l : List Nat) : List Value := l.map fun (x : Nat) => .int .u8 (x : Int)
def ucells (l : List Nat) : List Value := l.map fun (x : Nat) => .int .u32 (x : Int)
def bcells (l : List Bool) : List Value := l.map .bool
theorem ycells_len (l : List Nat) : (ycells l).length = l.length := by simp [ycells]
theorem ucells_len (l : List Nat) : (ucells l).length = l.length := by simp [ucells]
theorem bcells_len (l : List Bool) : (bcells l).length = l.length := by simp [bcells]
theorem ycells_nil : ycells [] = [] := rfl
theorem ycells_app (l m : List Nat) : ycells (l ++ m) = ycells l ++ ycells m := by simp [ycells]
theorem bcells_app (l m : List Bool) : bcells (l ++ m) = bcells l ++ bcells m := by simp [bcells]
theorem ycells_one (l : List Nat) : ∀ u ∈ ycells l, u.oneCell' = true := by
  intro u hu
  simp only [ycells, List.mem_map] at hu
  obtain ⟨x, _, rfl⟩ := hu
  rfl
theorem bcells_one (l : List Bool) : ∀ u ∈ bcells l, u.oneCell' = true := by
  intro u hu
  simp only [bcells, List.mem_map] at hu
  obtain ⟨x, _, rfl⟩ := hu
  rfl
/-- A row of bytes. -/
def RB (w : World) (B : Nat) (A : Option Addr) (n : Nat) (l : List Nat) : Prop := l.length = n ∧ Reads w B 1 A n (ycells l) ∧ ∀ x ∈ l, x < 256
/-- A row of bools. -/
def RL (w : World) (B : Nat) (A : Option Addr) (n : Nat) (l : List Bool) : Prop := l.length = n ∧ Reads w B 1 A n (bcells l)
/-- A row of 32-bit numbers. -/
def RU (w : World) (B : Nat) (A : Option Addr) (n : Nat) (l : List Nat) : Prop := l.length = n ∧ Reads w B 1 A n (ucells l) ∧ ∀ x ∈ l, x < 4294967296
theorem RB.on {w w' : World} {n : Nat} {A : Option Addr} {l : List Nat} (h : RB w w.heap.size A n l) (g : Below w.heap.size w w') : RB w' w'.heap.size A n l := ⟨h.1, reads_on h.2.1 g, h.2.2⟩
theorem RL.on {w w' : World} {n : Nat} {A : Option Addr} {l : List Bool} (h : RL w w.heap.size A n l) (g : Below w.heap.size w w') : RL w' w'.heap.size A n l := ⟨h.1, reads_on h.2 g⟩
theorem RU.on {w w' : World} {n : Nat} {A : Option Addr} {l : List Nat} (h : RU w w.heap.size A n l) (g : Below w.heap.size w w') : RU w' w'.heap.size A n l := ⟨h.1, reads_on h.2.1 g, h.2.2⟩
theorem RB.nil (w : World) (B : Nat) (A : Option Addr) : RB w B A 0 [] := ⟨rfl, Reads.none_, fun x hx => by simp at hx⟩
theorem RL.nil (w : World) (B : Nat) (A : Option Addr) : RL w B A 0 [] := ⟨rfl, Reads.none_⟩
theorem RB.at {w : World} {B n : Nat} {A : Option Addr} {l : List Nat} (h : RB w B A n l) {k : Nat} (hk : k < l.length) : ∃ b o, A = some ⟨b, o, none⟩ ∧ b < B ∧ w.cell? ⟨b, o + k, none⟩ = some (.int .u8 (l[k] : Int)) ∧ l[k] < 256 := by
  obtain ⟨b, o, rfl, hb, hc⟩ := h.2.1.2 (by have := h.1; omega)
  exact ⟨b, o, rfl, hb, hc k _ (by unfold ycells; rw [List.getElem?_map, List.getElem?_eq_getElem hk]; rfl), h.2.2 _ (List.getElem_mem hk)⟩
theorem RU.at {w : World} {B n : Nat} {A : Option Addr} {l : List Nat} (h : RU w B A n l) {k : Nat} (hk : k < l.length) : ∃ b o, A = some ⟨b, o, none⟩ ∧ b < B ∧ w.cell? ⟨b, o + k, none⟩ = some (.int .u32 (l[k] : Int)) ∧ l[k] < 4294967296 := by
  obtain ⟨b, o, rfl, hb, hc⟩ := h.2.1.2 (by have := h.1; omega)
  exact ⟨b, o, rfl, hb, hc k _ (by unfold ucells; rw [List.getElem?_map, List.getElem?_eq_getElem hk]; rfl), h.2.2 _ (List.getElem_mem hk)⟩
theorem RL.at {w : World} {B n : Nat} {A : Option Addr} {l : List Bool} (h : RL w B A n l) {k : Nat} (hk : k < l.length) : ∃ b o, A = some ⟨b, o, none⟩ ∧ b < B ∧ w.cell? ⟨b, o + k, none⟩ = some (.bool l[k]) := by
  obtain ⟨b, o, rfl, hb, hc⟩ := h.2.2 (by have := h.1; omega)
  exact ⟨b, o, rfl, hb, hc k _ (by unfold bcells; rw [List.getElem?_map, List.getElem?_eq_getElem hk]; rfl)⟩
/-- The first k of a row. -/
theorem RB.take {w : World} {B n : Nat} {A : Option Addr} {l : List Nat} (h : RB w B A n l) {k : Nat} (hk : k ≤ n) : RB w B A k (l.take k) := by
  refine ⟨by rw [List.length_take, h.1]; omega, ⟨by rw [ycells_len, List.length_take, h.1]; omega, fun hp => ?_⟩, fun x hx => h.2.2 x (List.mem_of_mem_take hx)⟩
  obtain ⟨b, o, e, hb, hc⟩ := h.2.1.2 (by omega)
  refine ⟨b, o, e, hb, fun j u hu => hc j u ?_⟩
  have hj : j < k := by
    have := (List.getElem?_eq_some_iff.1 hu).1
    rw [ycells_len, List.length_take] at this
    omega
  rw [← hu]
  unfold ycells
  rw [List.getElem?_map, List.getElem?_map, List.getElem?_take_of_lt hj]

theorem info5 : (Tryd.prog.info? 5).map (fun i => (i.zero, i.size, i.bytes)) = some (some (.int .u8 0), 1, 1) := by kernel_rfl
theorem info4 : (Tryd.prog.info? 4).map (fun i => (i.zero, i.size, i.bytes)) = some (some (.bool false), 1, 1) := by kernel_rfl
theorem info_parts {P : Program} {t : TypeId} {z : Option Value} {n b : Nat} (h : (P.info? t).map (fun i => (i.zero, i.size, i.bytes)) = some (z, n, b)) : ∃ i, P.info? t = some i ∧ i.zero = z ∧ i.size = n ∧ i.bytes = b := by
  obtain ⟨i, hi, he⟩ := Option.map_eq_some_iff.1 h
  simp only [Prod.mk.injEq] at he
  exact ⟨i, hi, he.1, he.2.1, he.2.2⟩
theorem ret_bool {a b : Bool} (h : a = b) : Ending.returned (.bool a) = .returned (.bool b) := by rw [h]
/-- A new row of bytes, of bools. -/
def OutY (l : List Nat) (n : Nat) (w : World) (e : Ending) (w' : World) : Prop :=
  ∃ (A : Option Addr) (c : Nat), e = .returned (.slice A n c) ∧ l.length = n ∧ (∀ x ∈ l, x < 256) ∧ w'.ownsRow w.heap.size 5 1 (.slice A n c) n (ycells l) ∧ Below w.heap.size w w'
end Go.Proofs.YtnilejdokgagbaaDoor

/- append onto a row of the call's own, from a slice that reads, nil or empty let in. -/
namespace Go.Proofs.YtnilejdokgagbaaDoor
open Go.RowKit
set_option linter.unusedVariables false

theorem own_form {w : World} {base size n : Nat} {e : TypeId} {v : Value} {xs : List Value} (h : w.ownsRow base e size v n xs) : ∃ A c, v = .slice A n c ∧ (A = none → c = 0 ∧ n = 0) := by
  rcases h.2 with ⟨rfl, rfl⟩ | ⟨g, cap, cur, rfl, _⟩
  · exact ⟨none, 0, rfl, fun _ => ⟨rfl, rfl⟩⟩
  · exact ⟨some ⟨g, 0, none⟩, cap, rfl, fun h => by cases h⟩

/-- A slice's own bounds. -/
def Shp (A : Option Addr) (n c : Nat) : Prop := (A = none → c = 0) ∧ n ≤ c ∧ c ≤ maxLen
theorem own_shp {w : World} {base size n : Nat} {e : TypeId} {A : Option Addr} {c : Nat} {xs : List Value} (h : w.ownsRow base e size (.slice A n c) n xs) : Shp A n c := by
  rcases h.2 with ⟨h, hn⟩ | ⟨g, cap, cur, h, _, _, h1, h2, _⟩
  · injection h with ha _ hc
    subst ha hc hn
    exact ⟨fun _ => rfl, Nat.le_refl _, Nat.zero_le _⟩
  · injection h with ha _ hc
    subst ha hc
    exact ⟨fun h => (by cases h), h1, h2⟩
theorem own_nil {w : World} {base size n m : Nat} {e : TypeId} {A : Option Addr} {c : Nat} {xs : List Value} (h : w.ownsRow base e size (.slice A n c) m xs) : A = none → c = 0 := by
  intro hA
  subst hA
  rcases h.2 with ⟨h, _⟩ | ⟨g, cap, cur, h, _⟩
  · injection h
  · injection h with h; cases h

theorem wp_append_src {P : Program} {w : World} {o : Oper} {a : Act} {K : Act → World → Prop} {Q : Exit → Act → World → Prop} (s x : Operand) (t : TypeId)
    (ho : o.op = .call { callee := .builtin .append, args := #[s, x], argTypes := #[t, t] })
    (base : Nat) (e : TypeId) (i : TypeInfo) (z : Value) (size bytes : Nat) (ht : P.underlying t = some (.slice e)) (hi : P.info? e = some i) (hz : i.zero = some z)
    (hsize : i.size = size) (hby : i.bytes = bytes) (hzs : z.cells.size = size) (hsz : 0 < size)
    (v : Value) (n : Nat) (xs : List Value) (hs : a.eval s = v) (hown : w.ownsRow base e size v n xs)
    (A : Option Addr) (m c B : Nat) (news : List Value) (hx : a.eval x = .slice A m c) (hnil : A = none → c = 0) (hR : Reads w B size A m news) (h1 : ∀ u ∈ news, u.oneCell' = true)
    (h63 : n + m ≤ maxLen) (hbytes : (n + m) * bytes ≤ 140737488355328) (hbase : base ≤ w.heap.size)
    (h : ∀ A' c' w', w'.ownsRow base e size (.slice A' (n + m) c') (n + m) (xs ++ news) → (A' = none → c' = 0) → w.grownBy w' v.ownBlock → K (a.put o.dst (.slice A' (n + m) c')) w') : o.wp P a w K Q := by
  cases A with
  | none =>
    obtain rfl := hnil rfl
    have hm : m = 0 := by
      rcases Nat.eq_zero_or_pos m with h | h
      · exact h
      · obtain ⟨_, _, h, _⟩ := hR.2 h; cases h
    subst hm
    have hne : news = [] := List.eq_nil_of_length_eq_zero (by have := hR.1; omega)
    subst hne
    obtain ⟨A', c', rfl, hn'⟩ := own_form hown
    have hrun := run_append_owned_none (P := P) (w := w) base t o.type e i size ht hi _ n xs hown
    unfold Oper.wp
    simp [execOp, ho, resolve, invoke, builtin, hs, hx, hrun, Result.andThen]
    have := h A' c' w (by simpa using hown) (fun e => (hn' e).1) ⟨rfl, rfl, rfl, Nat.le_refl _, fun _ _ _ => rfl⟩
    rw [Nat.add_zero] at this
    exact this
  | some ad =>
    refine wp_append_own w s x t ho base e i z size bytes ht hi hz hsize hby hzs hsz v n xs hs hown ad m c news hx hR.1 (fun j u hj => ?_) h1 h63 hbytes hbase fun v' w' h2 h3 h4 => ?_
    · have hm : 0 < m := by
        have := (List.getElem?_eq_some_iff.1 hj).1
        rw [hR.1] at this
        rcases Nat.eq_zero_or_pos m with h | h
        · subst h; omega
        · exact h
      obtain ⟨b, o', he, _, hc⟩ := hR.2 hm
      injection he with he
      subst he
      have := hc j u hj
      by_cases h0 : j = 0
      · subst h0; simpa [Addr.add] using this
      · simpa [Addr.add, h0] using this
    · obtain ⟨A', c', rfl, hn'⟩ := own_form h2
      exact h A' c' w' h2 (fun e => (hn' e).1) h3

theorem wpList_append_src {P : Program} {w : World} {ops : Array Oper} {rest : List Oper} {o : Oper} {a : Act} {Q : Exit → Act → World → Prop} (hgd : o.guard = none) (s x : Operand) (t : TypeId)
    (ho : o.op = .call { callee := .builtin .append, args := #[s, x], argTypes := #[t, t] })
    (base : Nat) (e : TypeId) (i : TypeInfo) (z : Value) (size bytes : Nat) (ht : P.underlying t = some (.slice e)) (hi : P.info? e = some i) (hz : i.zero = some z)
    (hsize : i.size = size) (hby : i.bytes = bytes) (hzs : z.cells.size = size) (hsz : 0 < size)
    (v : Value) (n : Nat) (xs : List Value) (hs : a.eval s = v) (hown : w.ownsRow base e size v n xs)
    (A : Option Addr) (m c B : Nat) (news : List Value) (hx : a.eval x = .slice A m c) (hnil : A = none → c = 0) (hR : Reads w B size A m news) (h1 : ∀ u ∈ news, u.oneCell' = true)
    (h63 : n + m ≤ maxLen) (hbytes : (n + m) * bytes ≤ 140737488355328) (hbase : base ≤ w.heap.size)
    (h : ∀ A' c' w', w'.ownsRow base e size (.slice A' (n + m) c') (n + m) (xs ++ news) → (A' = none → c' = 0) → w.grownBy w' v.ownBlock → wpList P ops Q rest (a.put o.dst (.slice A' (n + m) c')) w') : wpList P ops Q (o :: rest) a w :=
  wpList_plain hgd fun _ hK => wp_append_src s x t ho base e i z size bytes ht hi hz hsize hby hzs hsz v n xs hs hown A m c B news hx hnil hR h1 h63 hbytes hbase fun A' c' w' h2 h3 h4 => hK _ _ (h A' c' w' h2 h3 h4)

theorem step_append_src {P : Program} {w : World} {ops : Array Oper} {o : Oper} {a : Act} {K : Act → World → Prop} {Q : Exit → Act → World → Prop} {E : Prop} (hgd : o.guard = none) (s x : Operand) (t : TypeId)
    (ho : o.op = .call { callee := .builtin .append, args := #[s, x], argTypes := #[t, t] })
    (base : Nat) (e : TypeId) (i : TypeInfo) (z : Value) (size bytes : Nat) (ht : P.underlying t = some (.slice e)) (hi : P.info? e = some i) (hz : i.zero = some z)
    (hsize : i.size = size) (hby : i.bytes = bytes) (hzs : z.cells.size = size) (hsz : 0 < size)
    (v : Value) (n : Nat) (xs : List Value) (hs : a.eval s = v) (hown : w.ownsRow base e size v n xs)
    (A : Option Addr) (m c B : Nat) (news : List Value) (hx : a.eval x = .slice A m c) (hnil : A = none → c = 0) (hR : Reads w B size A m news) (h1 : ∀ u ∈ news, u.oneCell' = true)
    (h63 : n + m ≤ maxLen) (hbytes : (n + m) * bytes ≤ 140737488355328) (hbase : base ≤ w.heap.size)
    (h : ∀ A' c' w', w'.ownsRow base e size (.slice A' (n + m) c') (n + m) (xs ++ news) → (A' = none → c' = 0) → w.grownBy w' v.ownBlock → K (a.put o.dst (.slice A' (n + m) c')) w') :
    if Region.wanted o (yielded ops a.tmps) = true then Oper.wp P o a w K Q else E := by
  have hw : Region.wanted o (yielded ops a.tmps) = true := by simp [Region.wanted, hgd]
  rw [if_pos hw]
  exact wp_append_src s x t ho base e i z size bytes ht hi hz hsize hby hzs hsz v n xs hs hown A m c B news hx hnil hR h1 h63 hbytes hbase h
end Go.Proofs.YtnilejdokgagbaaDoor

/- What bytesFor and bitAt return. -/
namespace Go.Proofs.YtnilejdokgagbaaDoor
open Go.RowKit
set_option linter.unusedVariables false
set_option linter.unusedSimpArgs false

theorem bytesFor_any (n : Nat) (hn : n ≤ 10000000) (w : World) : Calls Tryd.prog 69 #[.int .i64 n] w fun e w' => e = .returned (.int .i64 (((n + 7) / 8 : Nat) : Int)) ∧ w' = w := by
  go_enter Tryd.func69, Tryd.ntmps69
  go_wp2_with fail
  go_ret
  refine ⟨congrArg (fun z => Ending.returned (.int .i64 z)) (show ((n : Int) + 8 - 1) / 8 = _ by omega), rfl⟩
/-- The bit that is shifted down and masked. -/
theorem bit_and (x j : Nat) (hx : x < 256) : bits .and .u8 ((x : Int) / 2 ^ j) 1 = ((x / 2 ^ j % 2 : Nat) : Int) := by
  have h0 : x / 2 ^ j < 256 := Nat.lt_of_le_of_lt (Nat.div_le_self _ _) hx
  have h := u8_and_nat (x / 2 ^ j) 1 h0 (by decide)
  rw [Nat.and_one_is_mod] at h
  rw [← h]
  congr 1
theorem bit_test (x j : Nat) (hx : x < 256) : (bits .and .u8 ((x : Int) / 2 ^ j) 1 == 1) = x.testBit j := by
  rw [bit_and x j hx, Nat.testBit_eq_decide_div_mod_eq]
  by_cases h : x / 2 ^ j % 2 = 1
  · rw [h]; simp
  · have : x / 2 ^ j % 2 = 0 := by omega
    rw [this]; simp
theorem bitAt_any (l : List Nat) (n i : Nat) (A : Option Addr) (c : Nat) (w : World) (hR : RB w w.heap.size A n l) (hi : i / 8 < n) (hn : n ≤ 1048576) :
    Calls Tryd.prog 72 #[.slice A n c, .int .i64 i] w fun e w' => e = .returned (.bool (bitY l i)) ∧ w' = w := by
  have kl : i / 8 < l.length := by rw [hR.1]; exact hi
  obtain ⟨b, o, rfl, _, p0, px⟩ := hR.at kl
  have HB := Lib.hid (bitY_eq l i kl)
  generalize l[i / 8] = x at *
  clear hR
  go_enter Tryd.func72, Tryd.ntmps72
  go_wp2_with fail
  go_ret
  exact ⟨congrArg (fun z => Ending.returned (.bool z)) ((bit_test x (i % 8) px).trans HB.out.symm), rfl⟩
end Go.Proofs.YtnilejdokgagbaaDoor

/- What value and Get return. -/
namespace Go.Proofs.YtnilejdokgagbaaDoor
open Go.RowKit Go.BigFrame
set_option linter.unusedVariables false
set_option linter.unusedSimpArgs false


theorem or_i64 (a x : Nat) (ha : a < 4294967296) (hx : x < 256) : bits .or .i64 ((a : Int) * 256) (x : Int) = ((a * 256 + x : Nat) : Int) := by
  have h0 : a * 256 ||| x = a * 256 + x := nat_join8 _ _ (by omega) hx
  show IntKind.i64.wrap ((BitVec.ofInt 64 ((a : Int) * 256) ||| BitVec.ofInt 64 (x : Int)).toNat : Int) = _
  have e1 : (BitVec.ofInt 64 ((a : Int) * 256)).toNat = a * 256 := by
    rw [show ((a : Int) * 256) = ((a * 256 : Nat) : Int) by omega, BitVec.ofInt_natCast, BitVec.toNat_ofNat]; exact Nat.mod_eq_of_lt (by omega)
  have e2 : (BitVec.ofInt 64 (x : Int)).toNat = x := by
    rw [BitVec.ofInt_natCast, BitVec.toNat_ofNat]; exact Nat.mod_eq_of_lt (by omega)
  rw [BitVec.toNat_or, e1, e2, h0, IntKind.wrap_i64]
  omega
theorem value_any (x0 x1 x2 x3 : Nat) (h0 : x0 < 256) (h1 : x1 < 256) (h2 : x2 < 256) (h3 : x3 < 256) (w : World) :
    Calls Tryd.prog 81 #[.agg #[.int .u8 x0, .int .u8 x1, .int .u8 x2, .int .u8 x3]] w fun e w' => e = .returned (.int .i64 (numL [x0, x1, x2, x3] : Nat)) ∧ Below w.heap.size w w' := by
  have r0 : bits .or .i64 0 (x0 : Int) = (x0 : Int) := by
    have h := or_i64 0 x0 (by omega) h0
    rw [show 0 * 256 + x0 = x0 by omega] at h
    exact h
  obtain ⟨v1, hv1⟩ : ∃ v, v = x0 * 256 + x1 := ⟨_, rfl⟩
  obtain ⟨v2, hv2⟩ : ∃ v, v = v1 * 256 + x2 := ⟨_, rfl⟩
  obtain ⟨v3, hv3⟩ : ∃ v, v = v2 * 256 + x3 := ⟨_, rfl⟩
  have r1 : bits .or .i64 ((x0 : Int) * 256) (x1 : Int) = (v1 : Int) := by rw [hv1]; exact or_i64 x0 x1 (by omega) h1
  have r2 : bits .or .i64 ((v1 : Int) * 256) (x2 : Int) = (v2 : Int) := by rw [hv2]; exact or_i64 v1 x2 (by omega) h2
  have r3 : bits .or .i64 ((v2 : Int) * 256) (x3 : Int) = (v3 : Int) := by rw [hv3]; exact or_i64 v2 x3 (by omega) h3
  have l1 : v1 < 65536 := by omega
  have l2 : v2 < 16777216 := by omega
  have l3 : v3 < 4294967296 := by omega
  have HV : Hid (numL [x0, x1, x2, x3] = v3) := Lib.hid (by rw [hv3, hv2, hv1]; simp [numL])
  clear hv1 hv2 hv3
  have ix0 : ∀ (W : World), (Instr.index 91 (.agg #[.int .u8 x0, .int .u8 x1, .int .u8 x2, .int .u8 x3]) (.int .i64 0)).run Tryd.prog W = .ok (.int .u8 x0) W := fun W => by kernel_rfl
  have ix1 : ∀ (W : World), (Instr.index 91 (.agg #[.int .u8 x0, .int .u8 x1, .int .u8 x2, .int .u8 x3]) (.int .i64 1)).run Tryd.prog W = .ok (.int .u8 x1) W := fun W => by kernel_rfl
  have ix2 : ∀ (W : World), (Instr.index 91 (.agg #[.int .u8 x0, .int .u8 x1, .int .u8 x2, .int .u8 x3]) (.int .i64 2)).run Tryd.prog W = .ok (.int .u8 x2) W := fun W => by kernel_rfl
  have ix3 : ∀ (W : World), (Instr.index 91 (.agg #[.int .u8 x0, .int .u8 x1, .int .u8 x2, .int .u8 x3]) (.int .i64 3)).run Tryd.prog W = .ok (.int .u8 x3) W := fun W => by kernel_rfl
  go_enter Tryd.func81, Tryd.ntmps81
  go_wp2_with fail
  refine wp_loop_rounds 5 ?_
  rw [rounds_succ]
  go_wp2_with fail
  rw [rounds_succ]
  go_wp2_with fail
  rw [rounds_succ]
  go_wp2_with fail
  rw [rounds_succ]
  go_wp2_with fail
  rw [rounds_succ]
  go_wp2_with fail
  go_ret
  exact ⟨congrArg (fun z => Ending.returned (.int .i64 ((z : Nat) : Int))) HV.out.symm, below_new _ _⟩
end Go.Proofs.YtnilejdokgagbaaDoor

/- What Get returns. -/
namespace Go.Proofs.YtnilejdokgagbaaDoor
open Go.RowKit Go.BigFrame
set_option linter.unusedVariables false
set_option linter.unusedSimpArgs false


open Classical in
/-- What Get tells. -/
noncomputable def getR (l : List Nat) (at' size : Int) : Option Nat :=
  if 1 ≤ size ∧ size ≤ 4 ∧ 0 ≤ at' ∧ at' ≤ (l.length : Int) - size then some (numL ((l.drop at'.toNat).take size.toNat)) else none
def OutN (r : Option Nat) (w : World) (e : Ending) (w' : World) : Prop := e = .returned (.tuple #[.int .i64 ((r.getD 0 : Nat) : Int), .bool r.isSome]) ∧ Below w.heap.size w w'
theorem getR_no {l : List Nat} {a s : Int} (h : ¬ (1 ≤ s ∧ s ≤ 4 ∧ 0 ≤ a ∧ a ≤ (l.length : Int) - s)) : getR l a s = none := by unfold getR; rw [if_neg h]
theorem getR_yes {l : List Nat} {a k : Nat} (h1 : 1 ≤ k) (h2 : k ≤ 4) (h : a + k ≤ l.length) : getR l a k = some (numL ((l.drop a).take k)) := by
  unfold getR; rw [if_pos (by omega), Int.toNat_natCast, Int.toNat_natCast]
theorem get_no (l : List Nat) (n : Nat) (A : Option Addr) (c : Nat) (a s : Int) (w : World) (hl : l.length = n) (hn : n ≤ 100000) (h : ¬ (1 ≤ s ∧ s ≤ 4 ∧ 0 ≤ a ∧ a ≤ (n : Int) - s)) :
    Calls Tryd.prog 71 #[.slice A n c, .int .i64 a, .int .i64 s] w (OutN none w) := by
  by_cases h1 : s < 1
  · clear h
    go_enter Tryd.func71, Tryd.ntmps71
    go_wp2_with fail
    go_ret2
    exact ⟨rfl, Below.refl _ _⟩
  by_cases h2 : 4 < s
  · clear h
    go_enter Tryd.func71, Tryd.ntmps71
    go_wp2_with fail
    go_ret2
    exact ⟨rfl, Below.refl _ _⟩
  by_cases h3 : a < 0
  · clear h
    go_enter Tryd.func71, Tryd.ntmps71
    go_wp2_with fail
    go_ret2
    exact ⟨rfl, Below.refl _ _⟩
  have h4 : (n : Int) - s < a := by omega
  clear h
  go_enter Tryd.func71, Tryd.ntmps71
  go_wp2_with fail
  go_ret2
  exact ⟨rfl, Below.refl _ _⟩
/-- Cells of a block: what a copy from place a on reads. -/
theorem RB.src {w : World} {B n a k : Nat} {A : Option Addr} {l : List Nat} (h : RB w B A n l) (hk : a + k ≤ n) (hp : 0 < k) : ∃ b o, A = some ⟨b, o, none⟩ ∧ b < B ∧ ∀ W : World, Below B w W → ∀ j v, (ycells ((l.drop a).take k))[j]? = some v → W.cell? ((⟨b, o + a, none⟩ : Addr).add j) = some v := by
  obtain ⟨b, o, rfl, hb, hc⟩ := h.2.1.2 (by omega)
  refine ⟨b, o, rfl, hb, fun W g j v hv => ?_⟩
  have e : (⟨b, o + a, none⟩ : Addr).add j = ⟨b, o + (a + j), none⟩ := by
    unfold Addr.add; split <;> simp_all [Nat.add_assoc]
  rw [e, g.cell (p := ⟨b, o + (a + j), none⟩) hb]
  refine hc (a + j) v ?_
  rw [← hv]
  unfold ycells
  have hj : j < k := by
    have := (List.getElem?_eq_some_iff.1 hv).1
    rw [ycells_len, List.length_take] at this
    omega
  rw [List.getElem?_map, List.getElem?_map, List.getElem?_take_of_lt hj, List.getElem?_drop]

end Go.Proofs.YtnilejdokgagbaaDoor

/- What Get returns, of 3 bytes. -/
namespace Go.Proofs.YtnilejdokgagbaaDoor
open Go.RowKit Go.BigFrame
set_option linter.unusedVariables false
set_option maxRecDepth 4000
set_option linter.unusedSimpArgs false


set_option maxHeartbeats 1000000 in
theorem get_3 (l : List Nat) (n a : Nat) (A : Option Addr) (c : Nat) (w : World) (hR : RB w w.heap.size A n l) (hc : n ≤ c) (hn : n ≤ 100000) (h : a + 3 ≤ n) :
    Calls Tryd.prog 71 #[.slice A n c, .int .i64 a, .int .i64 3] w (OutN (some (numL ((l.drop a).take 3))) w) := by
  have h0 : ¬ ((a : Int) < 0) := by omega
  have h1 : (a : Int) ≤ (n : Int) - 3 := by omega
  have h2 : (a : Int) ≤ (n : Int) := by omega
  have h3 : (n : Int) ≤ (c : Int) := by omega
  have h4 : ¬ c = a := by omega
  have h5 : IntKind.i64.wrap 1 = 1 := by kernel_rfl
  have hmin : Hid (3 = Nat.min (n - a) 3) := Lib.hid (Nat.min_eq_right (by omega)).symm
  obtain ⟨b0, o0, rfl, hb0, hsrc⟩ := hR.src (a := a) (k := 3) h (by decide)
  have hL : ((l.drop a).take 3).length = 3 := by rw [List.length_take, List.length_drop, hR.1]; omega
  have hY : ∀ x ∈ (l.drop a).take 3, x < 256 := fun x hx => hR.2.2 x (List.mem_of_mem_drop (List.mem_of_mem_take hx))
  generalize (l.drop a).take 3 = L at *
  match L, hL with
  | [x0, x1, x2], _ =>
  have HSrc := Lib.hid hsrc
  have y0 := hY x0 (by simp)
  have y1 := hY x1 (by simp)
  have y2 := hY x2 (by simp)
  have HN : Hid (numL [0, x0, x1, x2] = numL [x0, x1, x2]) := Lib.hid (by simp [numL])
  have HOne := Lib.hid (ycells_one [x0, x1, x2])
  clear hR hsrc hY
  have hsz5 : (Tryd.prog.info? 5).map (·.size) = some 1 := by kernel_rfl
  go_enter Tryd.func71, Tryd.ntmps71
  go_wp2_with fail
  go_region_law (refine step_copy_splice rfl (.tmp 29) (.tmp 32) 27 27 rfl 5 Tryd.underlying27 hsz5 (some ⟨w.heap.size, 1, none⟩) (some ⟨b0, o0 + a, none⟩) 3 3 (n - a) (c - a) (by rfl) (by rfl) w.heap.size 1 [.int .u8 0, .int .u8 0, .int .u8 0, .int .u8 0] 91 (heap_alloc_new w _) (ycells [x0, x1, x2]) hmin.out (fun _ => ⟨rfl, _, rfl, HSrc.out _ (Below.drew (below_new _ _))⟩) (by rw [ycells_len]; exact Nat.le_refl 4) HOne.out w.heap.size w (Below.drew (below_new _ _)) (Nat.le_refl _) ?_; intro w4 hg4 hb4)
  have hg5 : w4.heap[w.heap.size]? = some (.cells #[.int .u8 0, .int .u8 (x0 : Int), .int .u8 (x1 : Int), .int .u8 (x2 : Int)] 91 (0, 0)) := hg4.out
  have q0 : w4.cell? ⟨w.heap.size, 0, none⟩ = some (.int .u8 0) := by rw [cell_of_row w4 w.heap.size 0 _ 91 (0, 0) hg5]; rfl
  have q1 : w4.cell? ⟨w.heap.size, 1, none⟩ = some (.int .u8 (x0 : Int)) := by rw [cell_of_row w4 w.heap.size 1 _ 91 (0, 0) hg5]; rfl
  have q2 : w4.cell? ⟨w.heap.size, 2, none⟩ = some (.int .u8 (x1 : Int)) := by rw [cell_of_row w4 w.heap.size 2 _ 91 (0, 0) hg5]; rfl
  have q3 : w4.cell? ⟨w.heap.size, 3, none⟩ = some (.int .u8 (x2 : Int)) := by rw [cell_of_row w4 w.heap.size 3 _ 91 (0, 0) hg5]; rfl
  clear hg4 hg5 HSrc HOne
  go_wp2_with fail
  refine (value_any 0 x0 x1 x2 (by decide) y0 y1 y2 _).mono ?_
  rintro e w5 ⟨rfl, g5⟩
  have b6 : Below w.heap.size w w5 := hb4.trans (g5.mono hb4.size)
  rw [HN.out]
  generalize numL [x0, x1, x2] = v at *
  clear g5 hb4 q0 q1 q2 q3
  go_wp2_with fail
  go_ret2
  exact ⟨rfl, b6⟩
end Go.Proofs.YtnilejdokgagbaaDoor

/- What Get returns, of 4 bytes. -/
namespace Go.Proofs.YtnilejdokgagbaaDoor
open Go.RowKit Go.BigFrame
set_option linter.unusedVariables false
set_option maxRecDepth 4000
set_option linter.unusedSimpArgs false


set_option maxHeartbeats 1000000 in
theorem get_4 (l : List Nat) (n a : Nat) (A : Option Addr) (c : Nat) (w : World) (hR : RB w w.heap.size A n l) (hc : n ≤ c) (hn : n ≤ 100000) (h : a + 4 ≤ n) :
    Calls Tryd.prog 71 #[.slice A n c, .int .i64 a, .int .i64 4] w (OutN (some (numL ((l.drop a).take 4))) w) := by
  have h0 : ¬ ((a : Int) < 0) := by omega
  have h1 : (a : Int) ≤ (n : Int) - 4 := by omega
  have h2 : (a : Int) ≤ (n : Int) := by omega
  have h3 : (n : Int) ≤ (c : Int) := by omega
  have h4 : ¬ c = a := by omega
  have h5 : IntKind.i64.wrap 0 = 0 := by kernel_rfl
  have hmin : Hid (4 = Nat.min (n - a) 4) := Lib.hid (Nat.min_eq_right (by omega)).symm
  obtain ⟨b0, o0, rfl, hb0, hsrc⟩ := hR.src (a := a) (k := 4) h (by decide)
  have hL : ((l.drop a).take 4).length = 4 := by rw [List.length_take, List.length_drop, hR.1]; omega
  have hY : ∀ x ∈ (l.drop a).take 4, x < 256 := fun x hx => hR.2.2 x (List.mem_of_mem_drop (List.mem_of_mem_take hx))
  generalize (l.drop a).take 4 = L at *
  match L, hL with
  | [x0, x1, x2, x3], _ =>
  have HSrc := Lib.hid hsrc
  have y0 := hY x0 (by simp)
  have y1 := hY x1 (by simp)
  have y2 := hY x2 (by simp)
  have y3 := hY x3 (by simp)
  have HN : Hid (numL [x0, x1, x2, x3] = numL [x0, x1, x2, x3]) := Lib.hid (by simp [numL])
  have HOne := Lib.hid (ycells_one [x0, x1, x2, x3])
  clear hR hsrc hY
  have hsz5 : (Tryd.prog.info? 5).map (·.size) = some 1 := by kernel_rfl
  go_enter Tryd.func71, Tryd.ntmps71
  go_wp2_with fail
  go_region_law (refine step_copy_splice rfl (.tmp 29) (.tmp 32) 27 27 rfl 5 Tryd.underlying27 hsz5 (some ⟨w.heap.size, 0, none⟩) (some ⟨b0, o0 + a, none⟩) 4 4 (n - a) (c - a) (by rfl) (by rfl) w.heap.size 0 [.int .u8 0, .int .u8 0, .int .u8 0, .int .u8 0] 91 (heap_alloc_new w _) (ycells [x0, x1, x2, x3]) hmin.out (fun _ => ⟨rfl, _, rfl, HSrc.out _ (Below.drew (below_new _ _))⟩) (by rw [ycells_len]; exact Nat.le_refl 4) HOne.out w.heap.size w (Below.drew (below_new _ _)) (Nat.le_refl _) ?_; intro w4 hg4 hb4)
  have hg5 : w4.heap[w.heap.size]? = some (.cells #[.int .u8 (x0 : Int), .int .u8 (x1 : Int), .int .u8 (x2 : Int), .int .u8 (x3 : Int)] 91 (0, 0)) := hg4.out
  have q0 : w4.cell? ⟨w.heap.size, 0, none⟩ = some (.int .u8 (x0 : Int)) := by rw [cell_of_row w4 w.heap.size 0 _ 91 (0, 0) hg5]; rfl
  have q1 : w4.cell? ⟨w.heap.size, 1, none⟩ = some (.int .u8 (x1 : Int)) := by rw [cell_of_row w4 w.heap.size 1 _ 91 (0, 0) hg5]; rfl
  have q2 : w4.cell? ⟨w.heap.size, 2, none⟩ = some (.int .u8 (x2 : Int)) := by rw [cell_of_row w4 w.heap.size 2 _ 91 (0, 0) hg5]; rfl
  have q3 : w4.cell? ⟨w.heap.size, 3, none⟩ = some (.int .u8 (x3 : Int)) := by rw [cell_of_row w4 w.heap.size 3 _ 91 (0, 0) hg5]; rfl
  clear hg4 hg5 HSrc HOne
  go_wp2_with fail
  refine (value_any x0 x1 x2 x3 y0 y1 y2 y3 _).mono ?_
  rintro e w5 ⟨rfl, g5⟩
  have b6 : Below w.heap.size w w5 := hb4.trans (g5.mono hb4.size)
  generalize numL [x0, x1, x2, x3] = v at *
  clear g5 hb4 q0 q1 q2 q3
  go_wp2_with fail
  go_ret2
  exact ⟨rfl, b6⟩
end Go.Proofs.YtnilejdokgagbaaDoor

/- What the document's Get returns. -/
namespace Go.Proofs.YtnilejdokgagbaaDoor
open Go.RowKit Go.BigFrame
set_option linter.unusedVariables false
set_option maxRecDepth 4000
set_option linter.unusedSimpArgs false


def OutG (r : Option Nat) (w : World) (e : Ending) (w' : World) : Prop := e = .returned (.agg #[.int .i64 ((r.getD 0 : Nat) : Int), .bool r.isSome]) ∧ Below w.heap.size w w'
theorem numL_lt (l : List Nat) (h : ∀ x ∈ l, x < 256) (k : Nat) (hk : l.length ≤ k) : numL l < 256 ^ k := by
  induction k generalizing l with
  | zero => obtain rfl := List.eq_nil_of_length_eq_zero (Nat.le_zero.1 hk); simp [numL]
  | succ k ih =>
    rcases List.eq_nil_or_concat l with rfl | ⟨l', x, rfl⟩
    · simp [numL]; exact Nat.pow_pos (by decide)
    · rw [List.concat_eq_append] at h hk ⊢
      rw [numL_snoc, Nat.pow_succ]
      have h1 := ih l' (fun y hy => h y (by simp [hy])) (by simp at hk; omega)
      have h2 := h x (by simp)
      omega
theorem refGet_no (l : List Nat) (n : Nat) (A : Option Addr) (c : Nat) (a s : Int) (w : World) (hl : l.length = n) (hn : n ≤ 100000) (h : ¬ (1 ≤ s ∧ s ≤ 4 ∧ 0 ≤ a ∧ a ≤ (n : Int) - s)) :
    Calls Tryd.prog 41 #[.slice A n c, .int .i64 a, .int .i64 s] w (OutG none w) := by
  by_cases h1 : s < 1
  · clear h
    go_enter Tryd.func41, Tryd.ntmps41
    go_wp2_with fail
    exact bodyPost_ret (v := .agg #[.int .i64 0, .bool false]) (by simp [results, Tryd.results41, go_sem]) rfl ⟨rfl, below_new _ _⟩
  by_cases h2 : 4 < s
  · clear h
    go_enter Tryd.func41, Tryd.ntmps41
    go_wp2_with fail
    exact bodyPost_ret (v := .agg #[.int .i64 0, .bool false]) (by simp [results, Tryd.results41, go_sem]) rfl ⟨rfl, below_new _ _⟩
  by_cases h3 : a < 0
  · clear h
    go_enter Tryd.func41, Tryd.ntmps41
    go_wp2_with fail
    exact bodyPost_ret (v := .agg #[.int .i64 0, .bool false]) (by simp [results, Tryd.results41, go_sem]) rfl ⟨rfl, below_new _ _⟩
  have h4 : (n : Int) - s < a := by omega
  clear h
  go_enter Tryd.func41, Tryd.ntmps41
  go_wp2_with fail
  exact bodyPost_ret (v := .agg #[.int .i64 0, .bool false]) (by simp [results, Tryd.results41, go_sem]) rfl ⟨rfl, below_new _ _⟩
set_option maxHeartbeats 1000000 in
theorem refGet_yes (l : List Nat) (n a k : Nat) (A : Option Addr) (c : Nat) (w : World) (hR : RB w w.heap.size A n l) (hn : n ≤ 100000) (h1 : 1 ≤ k) (h2 : k ≤ 4) (h : a + k ≤ n) :
    Calls Tryd.prog 41 #[.slice A n c, .int .i64 a, .int .i64 k] w (OutG (some (numL ((l.drop a).take k))) w) := by
  have g1 : ¬ ((k : Int) < 1) := by omega
  have g2 : ¬ (4 < (k : Int)) := by omega
  have g3 : ¬ ((a : Int) < 0) := by omega
  have g4 : (a : Int) ≤ (n : Int) - (k : Int) := by omega
  have g5 : ¬ ((n : Int) - (k : Int) < (a : Int)) := by omega
  have HR := Lib.hid (hR.on (below_new w (.cells #[.int .i64 0, .bool false] 70)))
  have HL := Lib.hid hR.1
  have HY := Lib.hid hR.2.2
  clear hR
  go_enter Tryd.func41, Tryd.ntmps41
  go_wp2_with fail
  go_loopw [7, 8] (fun v i wr => ∃ (j : Nat), j ≤ k ∧ i = .int .i64 j ∧ v = .int .i64 (numL ((l.drop a).take j) : Nat) ∧ wr = w.alloc (.cells #[.int .i64 0, .bool false] 70)) (fun _ i _ => k - (intOf i).toNat)
  case atStart => exact ⟨0, Nat.zero_le _, rfl, by simp [numL], rfl⟩
  case round =>
    obtain ⟨j, hj, rfl, rfl, rfl⟩ := hrel
    by_cases hlt : j < k
    · have kl : a + j < l.length := by rw [HL.out]; omega
      obtain ⟨b, o, rfl, _, p0, px⟩ := HR.out.at kl
      have kd : j < (l.drop a).length := by rw [List.length_drop]; omega
      have HS : Hid (numL ((l.drop a).take (j + 1)) = numL ((l.drop a).take j) * 256 + l[a + j]) := Lib.hid (by
        rw [List.take_succ_eq_append_getElem kd, numL_snoc, List.getElem_drop])
      have hv : numL ((l.drop a).take j) < 16777216 := by
        have := numL_lt ((l.drop a).take j) (fun x hx => HY.out x (List.mem_of_mem_drop (List.mem_of_mem_take hx))) 3 (by rw [List.length_take]; omega)
        simpa using this
      generalize l[a + j] = x at *
      generalize numL ((l.drop a).take j) = v at *
      have hs : (a : Int) + (j : Int) < (n : Int) := by omega
      go_wp2_with fail
      go_roundw
      case rel => exact ⟨j + 1, by omega, by go_num, congrArg (Value.int .i64) (show _ = ((numL ((l.drop a).take (j + 1)) : Nat) : Int) by rw [HS.out]; omega), trivial⟩
      case measure => simp [intOf]; omega
    · obtain rfl : j = k := by omega
      generalize numL ((l.drop a).take j) = v at *
      go_wp2_with fail
      exact bodyPost_ret (v := .agg #[.int .i64 (v : Int), .bool true]) (by simp [results, Tryd.results41, go_sem]) rfl ⟨rfl, below_new _ _⟩
theorem refGet_any (l : List Nat) (n : Nat) (A : Option Addr) (c : Nat) (a s : Int) (w : World) (hR : RB w w.heap.size A n l) (hn : n ≤ 100000) :
    Calls Tryd.prog 41 #[.slice A n c, .int .i64 a, .int .i64 s] w (OutG (getR l a s) w) := by
  by_cases h : 1 ≤ s ∧ s ≤ 4 ∧ 0 ≤ a ∧ a ≤ (n : Int) - s
  · obtain ⟨a, rfl⟩ := Int.eq_ofNat_of_zero_le h.2.2.1
    obtain ⟨k, rfl⟩ := Int.eq_ofNat_of_zero_le (show 0 ≤ s by omega)
    have hl := hR.1
    rw [show getR l a k = _ from getR_yes (by omega) (by omega) (by omega)]
    exact refGet_yes l n a k A c w hR hn (by omega) (by omega) (by omega)
  · rw [getR_no (by rw [hR.1]; exact h)]; exact refGet_no l n A c a s w hR.1 hn h
end Go.Proofs.YtnilejdokgagbaaDoor

/- What slices.Grow and slices.Concat return. -/
namespace Go.Proofs.YtnilejdokgagbaaDoor
open Go.RowKit Go.BigFrame
set_option linter.unusedVariables false
set_option maxRecDepth 4000
set_option linter.unusedSimpArgs false

theorem grow_any (n : Nat) (w : World) (hn : n ≤ 100000) :
    Calls Tryd.prog 80 #[.slice none 0 0, .int .i64 n] w (OutY [] 0 w) := by
  obtain ⟨i0, hi0, hz0, hz1, hz2⟩ := info_parts info5
  by_cases h0 : n = 0
  · subst h0
    go_enter Tryd.func80, Tryd.ntmps80
    go_wp2_with fail
    go_ret
    exact ⟨none, 0, rfl, rfl, fun x hx => by simp at hx, World.ownsRow_nil _ _ _ _, Below.refl _ _⟩
  · have hpos : 0 < n := by omega
    have hrz := fun ty => Lib.run_append_nil_zeros (P := Tryd.prog) w 27 3 ty 5 i0 _ .i64 .i64 Tryd.underlying27 Tryd.underlying3 hi0 hz0 n hpos (by omega) (by omega) (by rw [hz2]; omega)
    have hcap := grownCap_le_maxLen w n 0 5 (by unfold maxLen; omega)
    have hge := grownCap_ge w n 0 5
    have hsz : (Builtin.zeroCells (Value.int .u8 0).cells n ++ Builtin.zeroCells (Value.int .u8 0).cells (grownCap w n 0 5 - n)).size = grownCap w n 0 5 * 1 := by
      rw [Array.size_append, size_zeroCells, size_zeroCells, show (Value.int .u8 0).cells.size = 1 from rfl]
      omega
    generalize Builtin.zeroCells (Value.int .u8 0).cells n ++ Builtin.zeroCells (Value.int .u8 0).cells (grownCap w n 0 5 - n) = Z at *
    generalize grownCap w n 0 5 = cap at *
    have HRZ := Lib.hid hrz
    have HSZ := Lib.hid hsz
    clear hrz hsz
    go_enter Tryd.func80, Tryd.ntmps80
    go_wp2_with (at_builtin; refine Lib.wpList_append_run _ rfl _ _ 27 3 rfl (.slice none 0 0) (.int .i64 n) rfl rfl (.slice (some ⟨w.heap.size, 0, none⟩) n cap) (w.drew.alloc (.cells Z 5)) (HRZ.out _) ?_)
    go_wp2_with fail
    go_ret
    exact ⟨some ⟨w.heap.size, 0, none⟩, cap, rfl, rfl, fun x hx => by simp at hx, World.ownsRow_made (size := 1) w.drew Z cap (Nat.le_refl _) hcap HSZ.out, (Below.drew (Below.refl _ _)).alloc (Nat.le_refl _) _⟩

set_option maxHeartbeats 1000000 in
theorem concat_any (a b : List Nat) (n m : Nat) (A B : Option Addr) (c d g k : Nat) (w : World) (hA : A = none → c = 0) (hB : B = none → d = 0)
    (g0 : w.cell? ⟨g, 0, none⟩ = some (.slice A n c)) (g1 : w.cell? ⟨g, 1, none⟩ = some (.slice B m d)) (hRa0 : RB w w.heap.size A n a) (hRb0 : RB w w.heap.size B m b) (hn : n ≤ 10000) (hm : m ≤ 10000) :
    Calls Tryd.prog 68 #[.slice (some ⟨g, 0, none⟩) 2 k] w (OutY (a ++ b) (n + m) w) := by
  obtain ⟨i0, hi0, hz0, hz1, hz2⟩ := info_parts info5
  have HL : Hid ((a ++ b).length = n + m) := Lib.hid (by rw [List.length_append, hRa0.1, hRb0.1])
  have HLT : Hid (∀ x ∈ a ++ b, x < 256) := Lib.hid (fun x hx => (List.mem_append.1 hx).elim (hRa0.2.2 x) (hRb0.2.2 x))
  have hRa := hRa0.2.1
  have hRb := hRb0.2.1
  have HRa := Lib.hid hRa
  have HRb := Lib.hid hRb
  have HA := Lib.hid hA
  have HB := Lib.hid hB
  clear hRa hRb hA hB hRa0 hRb0
  go_enter Tryd.func68, Tryd.ntmps68
  go_wp2_with fail
  refine wp_loop_rounds 3 ?_
  rw [rounds_succ]
  go_wp2_with fail
  rw [rounds_succ]
  go_wp2_with fail
  rw [rounds_succ]
  go_wp2_with fail
  refine (grow_any (n + m) _ (by omega)).mono ?_
  rintro e w1 ⟨A1, c1, rfl, _, _, hown, hb1⟩
  have g0' := kept_cell hb1 g0
  have g1' := kept_cell hb1 g1
  have HRa1 := Lib.hid ((HRa.out.below hb1))
  have G1 := Lib.hid g1
  have hs1 := hb1.size
  clear g0 g1 HRa
  go_wp2_with fail
  refine wp_loop_rounds 3 ?_
  rw [rounds_succ]
  go_wp2_with (at_builtin; refine wpList_append_src rfl _ _ 27 rfl w.heap.size 5 i0 _ 1 1 Tryd.underlying27 hi0 hz0 hz1 hz2 rfl (by decide) _ _ _ rfl hown A n c w.heap.size (ycells a) rfl HA.out HRa1.out (ycells_one a) ?c3 ?c4 ?c5 ?_)
  case c3 => unfold maxLen; omega
  case c4 => omega
  case c5 => exact hs1
  intro A2 c2 w2 hown2 hn2 hgrow2
  have b2 : Below w.heap.size w w2 := below_grown hb1 hs1 hown hgrow2
  have g1'' := kept_cell b2 G1.out
  have hs2 := b2.size
  have HRb2 := Lib.hid ((HRb.out.below b2))
  simp only [Nat.zero_add, ycells_nil, List.nil_append] at hown2 ⊢
  clear g0' g1' G1 hgrow2 hown HRa1 HRb
  go_wp2_with fail
  rw [rounds_succ]
  go_wp2_with (at_builtin; refine wpList_append_src rfl _ _ 27 rfl w.heap.size 5 i0 _ 1 1 Tryd.underlying27 hi0 hz0 hz1 hz2 rfl (by decide) _ _ _ rfl hown2 B m d w.heap.size (ycells b) rfl HB.out HRb2.out (ycells_one b) ?c3 ?c4 ?c5 ?_)
  case c3 => unfold maxLen; omega
  case c4 => omega
  case c5 => exact hs2
  intro A3 c3 w3 hown3 hn3 hgrow3
  have b3 : Below w.heap.size w w3 := below_grown b2 hs2 hown2 hgrow3
  have HO3 : Hid (w3.ownsRow w.heap.size 5 1 (.slice A3 (n + m) c3) (n + m) (ycells (a ++ b))) := Lib.hid (by rw [ycells_app]; exact hown3)
  clear hown3 hgrow3 hown2
  go_wp2_with fail
  rw [rounds_succ]
  go_wp2_with fail
  go_ret
  exact ⟨A3, c3, rfl, HL.out, HLT.out, HO3.out, b3⟩

end Go.Proofs.YtnilejdokgagbaaDoor

/- What lowest and Put return. -/
namespace Go.Proofs.YtnilejdokgagbaaDoor
open Go.RowKit
set_option linter.unusedVariables false
set_option maxRecDepth 4000
set_option linter.unusedSimpArgs false

def low4 (v : Int) : Value := .agg #[.int .u8 (byteN v 3 : Nat), .int .u8 (byteN v 2 : Nat), .int .u8 (byteN v 1 : Nat), .int .u8 (byteN v 0 : Nat)]
theorem low4_eq (v : Int) : Value.agg #[.int .u8 (v / 16777216 % 256), .int .u8 (v / 65536 % 256), .int .u8 (v / 256 % 256), .int .u8 (v % 256)] = low4 v := by
  unfold low4 byteN
  rw [show v / 16777216 % 256 = (((v / 256 ^ 3 % 256).toNat : Nat) : Int) by omega, show v / 65536 % 256 = (((v / 256 ^ 2 % 256).toNat : Nat) : Int) by omega, show v / 256 % 256 = (((v / 256 ^ 1 % 256).toNat : Nat) : Int) by omega, show v % 256 = (((v / 256 ^ 0 % 256).toNat : Nat) : Int) by omega]
theorem lowest_any (v : Int) (w : World) : Calls Tryd.prog 67 #[.int .i64 v] w fun e w' => e = .returned (low4 v) ∧ Below w.heap.size w w' := by
  have H := Lib.hid (low4_eq v)
  go_enter Tryd.func67, Tryd.ntmps67
  go_wp2_with fail
  exact bodyPost_ret (v := Value.agg #[.int .u8 (v / 16777216 % 256), .int .u8 (v / 65536 % 256), .int .u8 (v / 256 % 256), .int .u8 (v % 256)]) (by simp [results, Tryd.results67, go_sem]) rfl ⟨congrArg Ending.returned H.out, below_new _ _⟩
/-- The lowest bytes, as they lie in an array of four. -/
theorem rb_low (W : World) (B g : Nat) (v : Int) (k : Nat) (hk : k ≤ 4) (hB : g < B) (c0 : W.cell? ⟨g, 0, none⟩ = some (.int .u8 (byteN v 3 : Nat))) (c1 : W.cell? ⟨g, 1, none⟩ = some (.int .u8 (byteN v 2 : Nat))) (c2 : W.cell? ⟨g, 2, none⟩ = some (.int .u8 (byteN v 1 : Nat))) (c3 : W.cell? ⟨g, 3, none⟩ = some (.int .u8 (byteN v 0 : Nat))) :
    RB W B (some ⟨g, 4 - k, none⟩) k (lowB v k) := by
  refine ⟨lowB_len v k, ⟨by rw [ycells_len, lowB_len]; omega, fun hp => ⟨g, 4 - k, rfl, hB, ?_⟩⟩, lowB_lt v k⟩
  match k, hk with
  | 0, _ => omega
  | 1, _ =>
    intro j u hu
    match j, hu with
    | 0, hu => injection hu with hu; subst hu; exact c3
  | 2, _ =>
    intro j u hu
    match j, hu with
    | 0, hu => injection hu with hu; subst hu; exact c2
    | 1, hu => injection hu with hu; subst hu; exact c3
  | 3, _ =>
    intro j u hu
    match j, hu with
    | 0, hu => injection hu with hu; subst hu; exact c1
    | 1, hu => injection hu with hu; subst hu; exact c2
    | 2, hu => injection hu with hu; subst hu; exact c3
  | 4, _ =>
    intro j u hu
    match j, hu with
    | 0, hu => injection hu with hu; subst hu; exact c0
    | 1, hu => injection hu with hu; subst hu; exact c1
    | 2, hu => injection hu with hu; subst hu; exact c2
    | 3, hu => injection hu with hu; subst hu; exact c3

theorem own_base {w : World} {base base' : Nat} {e : TypeId} {size n : Nat} {v : Value} {xs : List Value} (h : w.ownsRow base e size v n xs) (hb : base' ≤ base) : w.ownsRow base' e size v n xs := by
  refine ⟨h.1, ?_⟩
  rcases h.2 with h | ⟨g, cap, cur, h1, h2, h3⟩
  · exact .inl h
  · exact .inr ⟨g, cap, cur, h1, Nat.le_trans hb h2, h3⟩

theorem put_neg (b : List Nat) (n : Nat) (A : Option Addr) (c : Nat) (v : Int) (size : Int) (hs : size < 0) (w : World) (hA : A = none → c = 0) (hR : RB w w.heap.size A n b) (hn : n ≤ 10000) :
    Calls Tryd.prog 27 #[.slice A n c, .int .i64 v, .int .i64 size] w (OutY (b ++ lowB v 0) (n + 0) w) := by
  have HR := Lib.hid hR
  have HA := Lib.hid hA
  have HLow := Lib.hid (fun W B g => rb_low W B g v 0 (by decide))
  clear hR hA
  go_enter Tryd.func27, Tryd.ntmps27
  go_wp2_with fail
  refine (lowest_any v _).mono ?_
  rintro e w1 ⟨rfl, b1⟩
  have HR1 := Lib.hid (HR.out.on b1)
  clear HR
  unfold low4
  generalize byteN v 3 = q3 at *
  generalize byteN v 2 = q2 at *
  generalize byteN v 1 = q1 at *
  generalize byteN v 0 = q0 at *
  go_wp2_with fail
  refine (concat_any b (lowB v 0) n 0 A (some ⟨w1.heap.size, 0, none⟩) c 0 _ _ _ HA.out (fun h => by cases h) ?g0 ?g1 ?g2 ?g3 (by omega) (by omega)).mono ?_
  case g0 => simp
  case g1 => simp
  case g2 => exact (HR1.out.on (below_new _ _)).on (below_new _ _)
  case g3 => exact RB.nil _ _ _
  rintro e w2 ⟨A2, c2, rfl, l2, y2, o2, b2⟩
  have b3 : Below w.heap.size w w2 := (b1.trans (((below_new _ _).trans ((below_new _ _).mono (by simp))).mono b1.size)).trans (b2.mono (by have := b1.size; simp; omega))
  have HO := Lib.hid o2
  clear o2 b2
  have HL2 := Lib.hid l2
  have HY2 := Lib.hid y2
  clear l2 y2 HLow HR1
  go_wp2_with fail
  go_ret
  exact ⟨A2, c2, rfl, HL2.out, HY2.out, own_base HO.out (by have := b1.size; simp; omega), b3⟩

theorem put_0 (b : List Nat) (n : Nat) (A : Option Addr) (c : Nat) (v : Int)  (w : World) (hA : A = none → c = 0) (hR : RB w w.heap.size A n b) (hn : n ≤ 10000) :
    Calls Tryd.prog 27 #[.slice A n c, .int .i64 v, .int .i64 0] w (OutY (b ++ lowB v 0) (n + 0) w) := by
  have HR := Lib.hid hR
  have HA := Lib.hid hA
  have HLow := Lib.hid (fun W B g => rb_low W B g v 0 (by decide))
  clear hR hA
  go_enter Tryd.func27, Tryd.ntmps27
  go_wp2_with fail
  refine (lowest_any v _).mono ?_
  rintro e w1 ⟨rfl, b1⟩
  have HR1 := Lib.hid (HR.out.on b1)
  clear HR
  unfold low4
  generalize byteN v 3 = q3 at *
  generalize byteN v 2 = q2 at *
  generalize byteN v 1 = q1 at *
  generalize byteN v 0 = q0 at *
  go_wp2_with fail
  refine (concat_any b (lowB v 0) n 0 A (some ⟨w1.heap.size, 0, none⟩) c 0 _ _ _ HA.out (fun h => by cases h) ?g0 ?g1 ?g2 ?g3 (by omega) (by omega)).mono ?_
  case g0 => simp
  case g1 => simp
  case g2 => exact (HR1.out.on (below_new _ _)).on (below_new _ _)
  case g3 => exact RB.nil _ _ _
  rintro e w2 ⟨A2, c2, rfl, l2, y2, o2, b2⟩
  have b3 : Below w.heap.size w w2 := (b1.trans (((below_new _ _).trans ((below_new _ _).mono (by simp))).mono b1.size)).trans (b2.mono (by have := b1.size; simp; omega))
  have HO := Lib.hid o2
  clear o2 b2
  have HL2 := Lib.hid l2
  have HY2 := Lib.hid y2
  clear l2 y2 HLow HR1
  go_wp2_with fail
  go_ret
  exact ⟨A2, c2, rfl, HL2.out, HY2.out, own_base HO.out (by have := b1.size; simp; omega), b3⟩

theorem put_1 (b : List Nat) (n : Nat) (A : Option Addr) (c : Nat) (v : Int)  (w : World) (hA : A = none → c = 0) (hR : RB w w.heap.size A n b) (hn : n ≤ 10000) :
    Calls Tryd.prog 27 #[.slice A n c, .int .i64 v, .int .i64 1] w (OutY (b ++ lowB v 1) (n + 1) w) := by
  have HR := Lib.hid hR
  have HA := Lib.hid hA
  have HLow := Lib.hid (fun W B g => rb_low W B g v 1 (by decide))
  clear hR hA
  go_enter Tryd.func27, Tryd.ntmps27
  go_wp2_with fail
  refine (lowest_any v _).mono ?_
  rintro e w1 ⟨rfl, b1⟩
  have HR1 := Lib.hid (HR.out.on b1)
  clear HR
  unfold low4
  generalize byteN v 3 = q3 at *
  generalize byteN v 2 = q2 at *
  generalize byteN v 1 = q1 at *
  generalize byteN v 0 = q0 at *
  go_wp2_with fail
  refine (concat_any b (lowB v 1) n 1 A (some ⟨w1.heap.size, 4 - 1, none⟩) c 1 _ _ _ HA.out (fun h => by cases h) ?g0 ?g1 ?g2 ?g3 (by omega) (by omega)).mono ?_
  case g0 => simp
  case g1 => simp
  case g2 => exact (HR1.out.on (below_new _ _)).on (below_new _ _)
  case g3 => exact HLow.out _ _ _ (by simp; omega) (by simp) (by simp) (by simp) (by simp)
  rintro e w2 ⟨A2, c2, rfl, l2, y2, o2, b2⟩
  have b3 : Below w.heap.size w w2 := (b1.trans (((below_new _ _).trans ((below_new _ _).mono (by simp))).mono b1.size)).trans (b2.mono (by have := b1.size; simp; omega))
  have HO := Lib.hid o2
  clear o2 b2
  have HL2 := Lib.hid l2
  have HY2 := Lib.hid y2
  clear l2 y2 HLow HR1
  go_wp2_with fail
  go_ret
  exact ⟨A2, c2, rfl, HL2.out, HY2.out, own_base HO.out (by have := b1.size; simp; omega), b3⟩

theorem put_2 (b : List Nat) (n : Nat) (A : Option Addr) (c : Nat) (v : Int)  (w : World) (hA : A = none → c = 0) (hR : RB w w.heap.size A n b) (hn : n ≤ 10000) :
    Calls Tryd.prog 27 #[.slice A n c, .int .i64 v, .int .i64 2] w (OutY (b ++ lowB v 2) (n + 2) w) := by
  have HR := Lib.hid hR
  have HA := Lib.hid hA
  have HLow := Lib.hid (fun W B g => rb_low W B g v 2 (by decide))
  clear hR hA
  go_enter Tryd.func27, Tryd.ntmps27
  go_wp2_with fail
  refine (lowest_any v _).mono ?_
  rintro e w1 ⟨rfl, b1⟩
  have HR1 := Lib.hid (HR.out.on b1)
  clear HR
  unfold low4
  generalize byteN v 3 = q3 at *
  generalize byteN v 2 = q2 at *
  generalize byteN v 1 = q1 at *
  generalize byteN v 0 = q0 at *
  go_wp2_with fail
  refine (concat_any b (lowB v 2) n 2 A (some ⟨w1.heap.size, 4 - 2, none⟩) c 2 _ _ _ HA.out (fun h => by cases h) ?g0 ?g1 ?g2 ?g3 (by omega) (by omega)).mono ?_
  case g0 => simp
  case g1 => simp
  case g2 => exact (HR1.out.on (below_new _ _)).on (below_new _ _)
  case g3 => exact HLow.out _ _ _ (by simp; omega) (by simp) (by simp) (by simp) (by simp)
  rintro e w2 ⟨A2, c2, rfl, l2, y2, o2, b2⟩
  have b3 : Below w.heap.size w w2 := (b1.trans (((below_new _ _).trans ((below_new _ _).mono (by simp))).mono b1.size)).trans (b2.mono (by have := b1.size; simp; omega))
  have HO := Lib.hid o2
  clear o2 b2
  have HL2 := Lib.hid l2
  have HY2 := Lib.hid y2
  clear l2 y2 HLow HR1
  go_wp2_with fail
  go_ret
  exact ⟨A2, c2, rfl, HL2.out, HY2.out, own_base HO.out (by have := b1.size; simp; omega), b3⟩

theorem put_3 (b : List Nat) (n : Nat) (A : Option Addr) (c : Nat) (v : Int)  (w : World) (hA : A = none → c = 0) (hR : RB w w.heap.size A n b) (hn : n ≤ 10000) :
    Calls Tryd.prog 27 #[.slice A n c, .int .i64 v, .int .i64 3] w (OutY (b ++ lowB v 3) (n + 3) w) := by
  have HR := Lib.hid hR
  have HA := Lib.hid hA
  have HLow := Lib.hid (fun W B g => rb_low W B g v 3 (by decide))
  clear hR hA
  go_enter Tryd.func27, Tryd.ntmps27
  go_wp2_with fail
  refine (lowest_any v _).mono ?_
  rintro e w1 ⟨rfl, b1⟩
  have HR1 := Lib.hid (HR.out.on b1)
  clear HR
  unfold low4
  generalize byteN v 3 = q3 at *
  generalize byteN v 2 = q2 at *
  generalize byteN v 1 = q1 at *
  generalize byteN v 0 = q0 at *
  go_wp2_with fail
  refine (concat_any b (lowB v 3) n 3 A (some ⟨w1.heap.size, 4 - 3, none⟩) c 3 _ _ _ HA.out (fun h => by cases h) ?g0 ?g1 ?g2 ?g3 (by omega) (by omega)).mono ?_
  case g0 => simp
  case g1 => simp
  case g2 => exact (HR1.out.on (below_new _ _)).on (below_new _ _)
  case g3 => exact HLow.out _ _ _ (by simp; omega) (by simp) (by simp) (by simp) (by simp)
  rintro e w2 ⟨A2, c2, rfl, l2, y2, o2, b2⟩
  have b3 : Below w.heap.size w w2 := (b1.trans (((below_new _ _).trans ((below_new _ _).mono (by simp))).mono b1.size)).trans (b2.mono (by have := b1.size; simp; omega))
  have HO := Lib.hid o2
  clear o2 b2
  have HL2 := Lib.hid l2
  have HY2 := Lib.hid y2
  clear l2 y2 HLow HR1
  go_wp2_with fail
  go_ret
  exact ⟨A2, c2, rfl, HL2.out, HY2.out, own_base HO.out (by have := b1.size; simp; omega), b3⟩

theorem put_4 (b : List Nat) (n : Nat) (A : Option Addr) (c : Nat) (v : Int)  (w : World) (hA : A = none → c = 0) (hR : RB w w.heap.size A n b) (hn : n ≤ 10000) :
    Calls Tryd.prog 27 #[.slice A n c, .int .i64 v, .int .i64 4] w (OutY (b ++ lowB v 4) (n + 4) w) := by
  have HR := Lib.hid hR
  have HA := Lib.hid hA
  have HLow := Lib.hid (fun W B g => rb_low W B g v 4 (by decide))
  clear hR hA
  go_enter Tryd.func27, Tryd.ntmps27
  go_wp2_with fail
  refine (lowest_any v _).mono ?_
  rintro e w1 ⟨rfl, b1⟩
  have HR1 := Lib.hid (HR.out.on b1)
  clear HR
  unfold low4
  generalize byteN v 3 = q3 at *
  generalize byteN v 2 = q2 at *
  generalize byteN v 1 = q1 at *
  generalize byteN v 0 = q0 at *
  go_wp2_with fail
  refine (concat_any b (lowB v 4) n 4 A (some ⟨w1.heap.size, 4 - 4, none⟩) c 4 _ _ _ HA.out (fun h => by cases h) ?g0 ?g1 ?g2 ?g3 (by omega) (by omega)).mono ?_
  case g0 => simp
  case g1 => simp
  case g2 => exact (HR1.out.on (below_new _ _)).on (below_new _ _)
  case g3 => exact HLow.out _ _ _ (by simp; omega) (by simp) (by simp) (by simp) (by simp)
  rintro e w2 ⟨A2, c2, rfl, l2, y2, o2, b2⟩
  have b3 : Below w.heap.size w w2 := (b1.trans (((below_new _ _).trans ((below_new _ _).mono (by simp))).mono b1.size)).trans (b2.mono (by have := b1.size; simp; omega))
  have HO := Lib.hid o2
  clear o2 b2
  have HL2 := Lib.hid l2
  have HY2 := Lib.hid y2
  clear l2 y2 HLow HR1
  go_wp2_with fail
  go_ret
  exact ⟨A2, c2, rfl, HL2.out, HY2.out, own_base HO.out (by have := b1.size; simp; omega), b3⟩

theorem put_big (b : List Nat) (n : Nat) (A : Option Addr) (c : Nat) (v : Int) (size : Int) (hs : 4 < size) (w : World) (hA : A = none → c = 0) (hR : RB w w.heap.size A n b) (hn : n ≤ 10000) :
    Calls Tryd.prog 27 #[.slice A n c, .int .i64 v, .int .i64 size] w (OutY (b ++ lowB v 4) (n + 4) w) := by
  have HR := Lib.hid hR
  have HA := Lib.hid hA
  have HLow := Lib.hid (fun W B g => rb_low W B g v 4 (by decide))
  clear hR hA
  go_enter Tryd.func27, Tryd.ntmps27
  go_wp2_with fail
  refine (lowest_any v _).mono ?_
  rintro e w1 ⟨rfl, b1⟩
  have HR1 := Lib.hid (HR.out.on b1)
  clear HR
  unfold low4
  generalize byteN v 3 = q3 at *
  generalize byteN v 2 = q2 at *
  generalize byteN v 1 = q1 at *
  generalize byteN v 0 = q0 at *
  go_wp2_with fail
  refine (concat_any b (lowB v 4) n 4 A (some ⟨w1.heap.size, 4 - 4, none⟩) c 4 _ _ _ HA.out (fun h => by cases h) ?g0 ?g1 ?g2 ?g3 (by omega) (by omega)).mono ?_
  case g0 => simp
  case g1 => simp
  case g2 => exact (HR1.out.on (below_new _ _)).on (below_new _ _)
  case g3 => exact HLow.out _ _ _ (by simp; omega) (by simp) (by simp) (by simp) (by simp)
  rintro e w2 ⟨A2, c2, rfl, l2, y2, o2, b2⟩
  have b3 : Below w.heap.size w w2 := (b1.trans (((below_new _ _).trans ((below_new _ _).mono (by simp))).mono b1.size)).trans (b2.mono (by have := b1.size; simp; omega))
  have HO := Lib.hid o2
  clear o2 b2
  have HL2 := Lib.hid l2
  have HY2 := Lib.hid y2
  clear l2 y2 HLow HR1
  go_wp2_with fail
  go_ret
  exact ⟨A2, c2, rfl, HL2.out, HY2.out, own_base HO.out (by have := b1.size; simp; omega), b3⟩

/-- A size cut to 0 .. 4. -/
def cutN (size : Int) : Nat := (min (max size 0) 4).toNat
theorem put_any (b : List Nat) (n : Nat) (A : Option Addr) (c : Nat) (v size : Int) (w : World) (hA : A = none → c = 0) (hR : RB w w.heap.size A n b) (hn : n ≤ 10000) :
    Calls Tryd.prog 27 #[.slice A n c, .int .i64 v, .int .i64 size] w (OutY (b ++ lowB v (cutN size)) (n + cutN size) w) := by
  by_cases h0 : size < 0
  · rw [show cutN size = 0 by unfold cutN; omega]; exact put_neg b n A c v size h0 w hA hR hn
  by_cases h4 : 4 < size
  · rw [show cutN size = 4 by unfold cutN; omega]; exact put_big b n A c v size h4 w hA hR hn
  have : size = 0 ∨ size = 1 ∨ size = 2 ∨ size = 3 ∨ size = 4 := by omega
  rcases this with rfl | rfl | rfl | rfl | rfl
  · exact put_0 b n A c v w hA hR hn
  · exact put_1 b n A c v w hA hR hn
  · exact put_2 b n A c v w hA hR hn
  · exact put_3 b n A c v w hA hR hn
  · exact put_4 b n A c v w hA hR hn
end Go.Proofs.YtnilejdokgagbaaDoor

/- What the document's Put returns. -/
namespace Go.Proofs.YtnilejdokgagbaaDoor
open Go.RowKit Go.BigFrame
set_option linter.unusedVariables false
set_option maxRecDepth 4000
set_option linter.unusedSimpArgs false


set_option maxHeartbeats 2000000 in
theorem refPut_neg (b : List Nat) (n : Nat) (A : Option Addr) (c : Nat) (v : Int) (size : Int) (hs : size < 0) (w : World) (hA : A = none → c = 0) (hR : RB w w.heap.size A n b) (hn : n ≤ 10000) :
    Calls Tryd.prog 31 #[.slice A n c, .int .i64 v, .int .i64 size] w (OutY (b ++ lowB v 0) (n + 0) w) := by
  obtain ⟨i0, hi0, hz0, hz1, hz2⟩ := info_parts info5
  have HR := Lib.hid hR.2.1
  have HL := Lib.hid hR.1
  have HY := Lib.hid hR.2.2
  have HA := Lib.hid hA
  clear hR hA
  have hk4 : 0 ≤ 4 := by omega
  go_enter Tryd.func31, Tryd.ntmps31
  go_wp2_with (at_builtin; refine wpList_append_src rfl _ _ 27 rfl w.heap.size 5 i0 _ 1 1 Tryd.underlying27 hi0 hz0 hz1 hz2 rfl (by decide) _ _ _ rfl (World.ownsRow_made (size := 1) w #[] 0 (Nat.le_refl _) (Nat.zero_le _) (by simp)) A n c w.heap.size (ycells b) rfl HA.out (HR.out.alloc (Nat.le_refl _) _) (ycells_one b) ?c3 ?c4 ?c5 ?_)
  case c3 => unfold maxLen; omega
  case c4 => omega
  case c5 => simp
  intro A1 c1 w1 hown1 hn1 hgrow1
  have b1 : Below w.heap.size w w1 := below_grown (below_new _ _) (by simp) (World.ownsRow_made (size := 1) w #[] 0 (Nat.le_refl _) (Nat.zero_le _) (by simp)) hgrow1
  try simp only [Nat.zero_add, List.nil_append] at hown1 ⊢
  have HO : Hid (w1.ownsRow w.heap.size 5 1 (.slice A1 n c1) n (ycells b)) := Lib.hid (by simpa using hown1)
  clear hown1 hgrow1 hn1 HR
  go_wp2_with fail
  go_loopw [7, 8] (fun vo i wr => ∃ (r : Nat) (A2 : Option Addr) (c2 : Nat) (hi : List Nat) (z : Nat), r ≤ 0 ∧ i = .int .i64 ((r : Int) - 1) ∧ vo = .slice A2 z c2 ∧ z ≤ 20000 ∧ Hid (z = n + hi.length) ∧ Hid (hi ++ lowB v r = lowB v 0) ∧ Hid (wr.ownsRow w.heap.size 5 1 (.slice A2 z c2) z (ycells (b ++ hi))) ∧ Below w.heap.size w wr) (fun _ i _ => (intOf i + 1).toNat)
  case atStart => exact ⟨0, A1, c1, [], n, Nat.le_refl _, congrArg (Value.int .i64) (by omega), rfl, by omega, Lib.hid (by simp), Lib.hid (by simp), Lib.hid (by rw [List.append_nil]; exact HO.out), b1⟩
  case round =>
    clear HO b1
    obtain ⟨r, A2, c2, hi, z, hr, rfl, rfl, hz, HZ, HLo, HO, hb⟩ := hrel
    have hsz := hb.size
    have hzz : z ≤ n + 0 := by
      have h1 := congrArg List.length HLo.out
      rw [List.length_append, lowB_len, lowB_len] at h1
      have := HZ.out
      omega
    match r, hr with
    | 0, _ =>
      go_wp2_with fail
      go_ret
      have e1 : hi = lowB v 0 := by have h := HLo.out; rwa [show lowB v 0 = [] from rfl, List.append_nil] at h
      have e2 : z = n + 0 := by rw [HZ.out, e1, lowB_len]
      subst e2
      rw [e1] at HO
      exact ⟨A2, c2, rfl, by rw [List.length_append, HL.out, lowB_len], fun x hx => (List.mem_append.1 hx).elim (HY.out x) (lowB_lt v _ x), HO.out, hb⟩
    | r + 1, hr => omega

set_option maxHeartbeats 2000000 in
theorem refPut_big (b : List Nat) (n : Nat) (A : Option Addr) (c : Nat) (v : Int) (size : Int) (hs : 4 < size) (w : World) (hA : A = none → c = 0) (hR : RB w w.heap.size A n b) (hn : n ≤ 10000) :
    Calls Tryd.prog 31 #[.slice A n c, .int .i64 v, .int .i64 size] w (OutY (b ++ lowB v 4) (n + 4) w) := by
  obtain ⟨i0, hi0, hz0, hz1, hz2⟩ := info_parts info5
  have HR := Lib.hid hR.2.1
  have HL := Lib.hid hR.1
  have HY := Lib.hid hR.2.2
  have HA := Lib.hid hA
  clear hR hA
  have hk4 : 4 ≤ 4 := by omega
  go_enter Tryd.func31, Tryd.ntmps31
  go_wp2_with (at_builtin; refine wpList_append_src rfl _ _ 27 rfl w.heap.size 5 i0 _ 1 1 Tryd.underlying27 hi0 hz0 hz1 hz2 rfl (by decide) _ _ _ rfl (World.ownsRow_made (size := 1) w #[] 0 (Nat.le_refl _) (Nat.zero_le _) (by simp)) A n c w.heap.size (ycells b) rfl HA.out (HR.out.alloc (Nat.le_refl _) _) (ycells_one b) ?c3 ?c4 ?c5 ?_)
  case c3 => unfold maxLen; omega
  case c4 => omega
  case c5 => simp
  intro A1 c1 w1 hown1 hn1 hgrow1
  have b1 : Below w.heap.size w w1 := below_grown (below_new _ _) (by simp) (World.ownsRow_made (size := 1) w #[] 0 (Nat.le_refl _) (Nat.zero_le _) (by simp)) hgrow1
  try simp only [Nat.zero_add, List.nil_append] at hown1 ⊢
  have HO : Hid (w1.ownsRow w.heap.size 5 1 (.slice A1 n c1) n (ycells b)) := Lib.hid (by simpa using hown1)
  clear hown1 hgrow1 hn1 HR
  go_wp2_with fail
  go_loopw [7, 8] (fun vo i wr => ∃ (r : Nat) (A2 : Option Addr) (c2 : Nat) (hi : List Nat) (z : Nat), r ≤ 4 ∧ i = .int .i64 ((r : Int) - 1) ∧ vo = .slice A2 z c2 ∧ z ≤ 20000 ∧ Hid (z = n + hi.length) ∧ Hid (hi ++ lowB v r = lowB v 4) ∧ Hid (wr.ownsRow w.heap.size 5 1 (.slice A2 z c2) z (ycells (b ++ hi))) ∧ Below w.heap.size w wr) (fun _ i _ => (intOf i + 1).toNat)
  case atStart => exact ⟨4, A1, c1, [], n, Nat.le_refl _, congrArg (Value.int .i64) (by omega), rfl, by omega, Lib.hid (by simp), Lib.hid (by simp), Lib.hid (by rw [List.append_nil]; exact HO.out), b1⟩
  case round =>
    clear HO b1
    obtain ⟨r, A2, c2, hi, z, hr, rfl, rfl, hz, HZ, HLo, HO, hb⟩ := hrel
    have hsz := hb.size
    have hzz : z ≤ n + 4 := by
      have h1 := congrArg List.length HLo.out
      rw [List.length_append, lowB_len, lowB_len] at h1
      have := HZ.out
      omega
    match r, hr with
    | 0, _ =>
      go_wp2_with fail
      go_ret
      have e1 : hi = lowB v 4 := by have h := HLo.out; rwa [show lowB v 0 = [] from rfl, List.append_nil] at h
      have e2 : z = n + 4 := by rw [HZ.out, e1, lowB_len]
      subst e2
      rw [e1] at HO
      exact ⟨A2, c2, rfl, by rw [List.length_append, HL.out, lowB_len], fun x hx => (List.mem_append.1 hx).elim (HY.out x) (lowB_lt v _ x), HO.out, hb⟩
    | 1, hr =>
      have HB : Hid (v % 256 = ((byteN v 0 : Nat) : Int)) := Lib.hid (by unfold byteN; omega)
      have HS : Hid (hi ++ [byteN v 0] ++ lowB v 0 = lowB v 4) := Lib.hid (by rw [← HLo.out]; simp [lowB])
      have HOne := Lib.hid (ycells_one [byteN v 0])
      have hReads : Hid (Reads (wr.alloc (.cells #[.int .u8 (v % 256)] 5)) (wr.heap.size + 1) 1 (some ⟨wr.heap.size, 0, none⟩) 1 (ycells [byteN v 0])) := Lib.hid ⟨rfl, fun _ => ⟨_, _, rfl, by omega, fun i u hu => by
        match i, hu with
        | 0, hu => injection hu with hu; subst hu; rw [HB.out]; simp⟩⟩
      have HOa := Lib.hid (HO.out.alloc (.cells #[.int .u8 (v % 256)] 5))
      have hba := hb.alloc hsz (.cells #[.int .u8 (v % 256)] 5)
      clear HLo HO HB
      go_wp2_with (at_builtin; refine wpList_append_src rfl _ _ 27 rfl w.heap.size 5 i0 _ 1 1 Tryd.underlying27 hi0 hz0 hz1 hz2 rfl (by decide) _ _ _ rfl HOa.out (some ⟨wr.heap.size, 0, none⟩) 1 1 (wr.heap.size + 1) (ycells [byteN v 0]) rfl (fun h => by cases h) hReads.out HOne.out ?n3 ?n4 ?n5 ?_)
      case n3 => unfold maxLen; omega
      case n4 => omega
      case n5 => simp; omega
      intro A3 c3 w3 hown3 hn3 hgrow3
      have b3 : Below w.heap.size w w3 := below_grown hba (by simp; omega) HOa.out hgrow3
      have HO3 : Hid (w3.ownsRow w.heap.size 5 1 (.slice A3 (z + 1) c3) (z + 1) (ycells (b ++ (hi ++ [byteN v 0])))) := Lib.hid (by
        rw [← List.append_assoc, ycells_app]; exact hown3)
      clear hown3 hgrow3 HOa hReads hba hb
      go_wp2_with fail
      go_roundw
      case rel => exact ⟨0, A3, c3, hi ++ [byteN v 0], z + 1, by omega, by go_num, rfl, by omega, Lib.hid (by have := HZ.out; simp; omega), HS, HO3, b3⟩
      case measure => simp [intOf]
    | 2, hr =>
      have HB : Hid (v / 256 % 256 = ((byteN v 1 : Nat) : Int)) := Lib.hid (by unfold byteN; omega)
      have HS : Hid (hi ++ [byteN v 1] ++ lowB v 1 = lowB v 4) := Lib.hid (by rw [← HLo.out]; simp [lowB])
      have HOne := Lib.hid (ycells_one [byteN v 1])
      have hReads : Hid (Reads (wr.alloc (.cells #[.int .u8 (v / 256 % 256)] 5)) (wr.heap.size + 1) 1 (some ⟨wr.heap.size, 0, none⟩) 1 (ycells [byteN v 1])) := Lib.hid ⟨rfl, fun _ => ⟨_, _, rfl, by omega, fun i u hu => by
        match i, hu with
        | 0, hu => injection hu with hu; subst hu; rw [HB.out]; simp⟩⟩
      have HOa := Lib.hid (HO.out.alloc (.cells #[.int .u8 (v / 256 % 256)] 5))
      have hba := hb.alloc hsz (.cells #[.int .u8 (v / 256 % 256)] 5)
      clear HLo HO HB
      go_wp2_with (at_builtin; refine wpList_append_src rfl _ _ 27 rfl w.heap.size 5 i0 _ 1 1 Tryd.underlying27 hi0 hz0 hz1 hz2 rfl (by decide) _ _ _ rfl HOa.out (some ⟨wr.heap.size, 0, none⟩) 1 1 (wr.heap.size + 1) (ycells [byteN v 1]) rfl (fun h => by cases h) hReads.out HOne.out ?n3 ?n4 ?n5 ?_)
      case n3 => unfold maxLen; omega
      case n4 => omega
      case n5 => simp; omega
      intro A3 c3 w3 hown3 hn3 hgrow3
      have b3 : Below w.heap.size w w3 := below_grown hba (by simp; omega) HOa.out hgrow3
      have HO3 : Hid (w3.ownsRow w.heap.size 5 1 (.slice A3 (z + 1) c3) (z + 1) (ycells (b ++ (hi ++ [byteN v 1])))) := Lib.hid (by
        rw [← List.append_assoc, ycells_app]; exact hown3)
      clear hown3 hgrow3 HOa hReads hba hb
      go_wp2_with fail
      go_roundw
      case rel => exact ⟨1, A3, c3, hi ++ [byteN v 1], z + 1, by omega, by go_num, rfl, by omega, Lib.hid (by have := HZ.out; simp; omega), HS, HO3, b3⟩
      case measure => simp [intOf]
    | 3, hr =>
      have HB : Hid (v / 65536 % 256 = ((byteN v 2 : Nat) : Int)) := Lib.hid (by unfold byteN; omega)
      have HS : Hid (hi ++ [byteN v 2] ++ lowB v 2 = lowB v 4) := Lib.hid (by rw [← HLo.out]; simp [lowB])
      have HOne := Lib.hid (ycells_one [byteN v 2])
      have hReads : Hid (Reads (wr.alloc (.cells #[.int .u8 (v / 65536 % 256)] 5)) (wr.heap.size + 1) 1 (some ⟨wr.heap.size, 0, none⟩) 1 (ycells [byteN v 2])) := Lib.hid ⟨rfl, fun _ => ⟨_, _, rfl, by omega, fun i u hu => by
        match i, hu with
        | 0, hu => injection hu with hu; subst hu; rw [HB.out]; simp⟩⟩
      have HOa := Lib.hid (HO.out.alloc (.cells #[.int .u8 (v / 65536 % 256)] 5))
      have hba := hb.alloc hsz (.cells #[.int .u8 (v / 65536 % 256)] 5)
      clear HLo HO HB
      go_wp2_with (at_builtin; refine wpList_append_src rfl _ _ 27 rfl w.heap.size 5 i0 _ 1 1 Tryd.underlying27 hi0 hz0 hz1 hz2 rfl (by decide) _ _ _ rfl HOa.out (some ⟨wr.heap.size, 0, none⟩) 1 1 (wr.heap.size + 1) (ycells [byteN v 2]) rfl (fun h => by cases h) hReads.out HOne.out ?n3 ?n4 ?n5 ?_)
      case n3 => unfold maxLen; omega
      case n4 => omega
      case n5 => simp; omega
      intro A3 c3 w3 hown3 hn3 hgrow3
      have b3 : Below w.heap.size w w3 := below_grown hba (by simp; omega) HOa.out hgrow3
      have HO3 : Hid (w3.ownsRow w.heap.size 5 1 (.slice A3 (z + 1) c3) (z + 1) (ycells (b ++ (hi ++ [byteN v 2])))) := Lib.hid (by
        rw [← List.append_assoc, ycells_app]; exact hown3)
      clear hown3 hgrow3 HOa hReads hba hb
      go_wp2_with fail
      go_roundw
      case rel => exact ⟨2, A3, c3, hi ++ [byteN v 2], z + 1, by omega, by go_num, rfl, by omega, Lib.hid (by have := HZ.out; simp; omega), HS, HO3, b3⟩
      case measure => simp [intOf]
    | 4, hr =>
      have HB : Hid (v / 16777216 % 256 = ((byteN v 3 : Nat) : Int)) := Lib.hid (by unfold byteN; omega)
      have HS : Hid (hi ++ [byteN v 3] ++ lowB v 3 = lowB v 4) := Lib.hid (by rw [← HLo.out]; simp [lowB])
      have HOne := Lib.hid (ycells_one [byteN v 3])
      have hReads : Hid (Reads (wr.alloc (.cells #[.int .u8 (v / 16777216 % 256)] 5)) (wr.heap.size + 1) 1 (some ⟨wr.heap.size, 0, none⟩) 1 (ycells [byteN v 3])) := Lib.hid ⟨rfl, fun _ => ⟨_, _, rfl, by omega, fun i u hu => by
        match i, hu with
        | 0, hu => injection hu with hu; subst hu; rw [HB.out]; simp⟩⟩
      have HOa := Lib.hid (HO.out.alloc (.cells #[.int .u8 (v / 16777216 % 256)] 5))
      have hba := hb.alloc hsz (.cells #[.int .u8 (v / 16777216 % 256)] 5)
      clear HLo HO HB
      go_wp2_with (at_builtin; refine wpList_append_src rfl _ _ 27 rfl w.heap.size 5 i0 _ 1 1 Tryd.underlying27 hi0 hz0 hz1 hz2 rfl (by decide) _ _ _ rfl HOa.out (some ⟨wr.heap.size, 0, none⟩) 1 1 (wr.heap.size + 1) (ycells [byteN v 3]) rfl (fun h => by cases h) hReads.out HOne.out ?n3 ?n4 ?n5 ?_)
      case n3 => unfold maxLen; omega
      case n4 => omega
      case n5 => simp; omega
      intro A3 c3 w3 hown3 hn3 hgrow3
      have b3 : Below w.heap.size w w3 := below_grown hba (by simp; omega) HOa.out hgrow3
      have HO3 : Hid (w3.ownsRow w.heap.size 5 1 (.slice A3 (z + 1) c3) (z + 1) (ycells (b ++ (hi ++ [byteN v 3])))) := Lib.hid (by
        rw [← List.append_assoc, ycells_app]; exact hown3)
      clear hown3 hgrow3 HOa hReads hba hb
      go_wp2_with fail
      go_roundw
      case rel => exact ⟨3, A3, c3, hi ++ [byteN v 3], z + 1, by omega, by go_num, rfl, by omega, Lib.hid (by have := HZ.out; simp; omega), HS, HO3, b3⟩
      case measure => simp [intOf]
    | r + 5, hr => omega

set_option maxHeartbeats 2000000 in
theorem refPut_0 (b : List Nat) (n : Nat) (A : Option Addr) (c : Nat) (v : Int)  (w : World) (hA : A = none → c = 0) (hR : RB w w.heap.size A n b) (hn : n ≤ 10000) :
    Calls Tryd.prog 31 #[.slice A n c, .int .i64 v, .int .i64 0] w (OutY (b ++ lowB v 0) (n + 0) w) := by
  obtain ⟨i0, hi0, hz0, hz1, hz2⟩ := info_parts info5
  have HR := Lib.hid hR.2.1
  have HL := Lib.hid hR.1
  have HY := Lib.hid hR.2.2
  have HA := Lib.hid hA
  clear hR hA
  have hk4 : 0 ≤ 4 := by omega
  go_enter Tryd.func31, Tryd.ntmps31
  go_wp2_with (at_builtin; refine wpList_append_src rfl _ _ 27 rfl w.heap.size 5 i0 _ 1 1 Tryd.underlying27 hi0 hz0 hz1 hz2 rfl (by decide) _ _ _ rfl (World.ownsRow_made (size := 1) w #[] 0 (Nat.le_refl _) (Nat.zero_le _) (by simp)) A n c w.heap.size (ycells b) rfl HA.out (HR.out.alloc (Nat.le_refl _) _) (ycells_one b) ?c3 ?c4 ?c5 ?_)
  case c3 => unfold maxLen; omega
  case c4 => omega
  case c5 => simp
  intro A1 c1 w1 hown1 hn1 hgrow1
  have b1 : Below w.heap.size w w1 := below_grown (below_new _ _) (by simp) (World.ownsRow_made (size := 1) w #[] 0 (Nat.le_refl _) (Nat.zero_le _) (by simp)) hgrow1
  try simp only [Nat.zero_add, List.nil_append] at hown1 ⊢
  have HO : Hid (w1.ownsRow w.heap.size 5 1 (.slice A1 n c1) n (ycells b)) := Lib.hid (by simpa using hown1)
  clear hown1 hgrow1 hn1 HR
  go_wp2_with fail
  go_loopw [7, 8] (fun vo i wr => ∃ (r : Nat) (A2 : Option Addr) (c2 : Nat) (hi : List Nat) (z : Nat), r ≤ 0 ∧ i = .int .i64 ((r : Int) - 1) ∧ vo = .slice A2 z c2 ∧ z ≤ 20000 ∧ Hid (z = n + hi.length) ∧ Hid (hi ++ lowB v r = lowB v 0) ∧ Hid (wr.ownsRow w.heap.size 5 1 (.slice A2 z c2) z (ycells (b ++ hi))) ∧ Below w.heap.size w wr) (fun _ i _ => (intOf i + 1).toNat)
  case atStart => exact ⟨0, A1, c1, [], n, Nat.le_refl _, congrArg (Value.int .i64) (by omega), rfl, by omega, Lib.hid (by simp), Lib.hid (by simp), Lib.hid (by rw [List.append_nil]; exact HO.out), b1⟩
  case round =>
    clear HO b1
    obtain ⟨r, A2, c2, hi, z, hr, rfl, rfl, hz, HZ, HLo, HO, hb⟩ := hrel
    have hsz := hb.size
    have hzz : z ≤ n + 0 := by
      have h1 := congrArg List.length HLo.out
      rw [List.length_append, lowB_len, lowB_len] at h1
      have := HZ.out
      omega
    match r, hr with
    | 0, _ =>
      go_wp2_with fail
      go_ret
      have e1 : hi = lowB v 0 := by have h := HLo.out; rwa [show lowB v 0 = [] from rfl, List.append_nil] at h
      have e2 : z = n + 0 := by rw [HZ.out, e1, lowB_len]
      subst e2
      rw [e1] at HO
      exact ⟨A2, c2, rfl, by rw [List.length_append, HL.out, lowB_len], fun x hx => (List.mem_append.1 hx).elim (HY.out x) (lowB_lt v _ x), HO.out, hb⟩
    | r + 1, hr => omega

set_option maxHeartbeats 2000000 in
theorem refPut_1 (b : List Nat) (n : Nat) (A : Option Addr) (c : Nat) (v : Int)  (w : World) (hA : A = none → c = 0) (hR : RB w w.heap.size A n b) (hn : n ≤ 10000) :
    Calls Tryd.prog 31 #[.slice A n c, .int .i64 v, .int .i64 1] w (OutY (b ++ lowB v 1) (n + 1) w) := by
  obtain ⟨i0, hi0, hz0, hz1, hz2⟩ := info_parts info5
  have HR := Lib.hid hR.2.1
  have HL := Lib.hid hR.1
  have HY := Lib.hid hR.2.2
  have HA := Lib.hid hA
  clear hR hA
  have hk4 : 1 ≤ 4 := by omega
  go_enter Tryd.func31, Tryd.ntmps31
  go_wp2_with (at_builtin; refine wpList_append_src rfl _ _ 27 rfl w.heap.size 5 i0 _ 1 1 Tryd.underlying27 hi0 hz0 hz1 hz2 rfl (by decide) _ _ _ rfl (World.ownsRow_made (size := 1) w #[] 0 (Nat.le_refl _) (Nat.zero_le _) (by simp)) A n c w.heap.size (ycells b) rfl HA.out (HR.out.alloc (Nat.le_refl _) _) (ycells_one b) ?c3 ?c4 ?c5 ?_)
  case c3 => unfold maxLen; omega
  case c4 => omega
  case c5 => simp
  intro A1 c1 w1 hown1 hn1 hgrow1
  have b1 : Below w.heap.size w w1 := below_grown (below_new _ _) (by simp) (World.ownsRow_made (size := 1) w #[] 0 (Nat.le_refl _) (Nat.zero_le _) (by simp)) hgrow1
  try simp only [Nat.zero_add, List.nil_append] at hown1 ⊢
  have HO : Hid (w1.ownsRow w.heap.size 5 1 (.slice A1 n c1) n (ycells b)) := Lib.hid (by simpa using hown1)
  clear hown1 hgrow1 hn1 HR
  go_wp2_with fail
  go_loopw [7, 8] (fun vo i wr => ∃ (r : Nat) (A2 : Option Addr) (c2 : Nat) (hi : List Nat) (z : Nat), r ≤ 1 ∧ i = .int .i64 ((r : Int) - 1) ∧ vo = .slice A2 z c2 ∧ z ≤ 20000 ∧ Hid (z = n + hi.length) ∧ Hid (hi ++ lowB v r = lowB v 1) ∧ Hid (wr.ownsRow w.heap.size 5 1 (.slice A2 z c2) z (ycells (b ++ hi))) ∧ Below w.heap.size w wr) (fun _ i _ => (intOf i + 1).toNat)
  case atStart => exact ⟨1, A1, c1, [], n, Nat.le_refl _, congrArg (Value.int .i64) (by omega), rfl, by omega, Lib.hid (by simp), Lib.hid (by simp), Lib.hid (by rw [List.append_nil]; exact HO.out), b1⟩
  case round =>
    clear HO b1
    obtain ⟨r, A2, c2, hi, z, hr, rfl, rfl, hz, HZ, HLo, HO, hb⟩ := hrel
    have hsz := hb.size
    have hzz : z ≤ n + 1 := by
      have h1 := congrArg List.length HLo.out
      rw [List.length_append, lowB_len, lowB_len] at h1
      have := HZ.out
      omega
    match r, hr with
    | 0, _ =>
      go_wp2_with fail
      go_ret
      have e1 : hi = lowB v 1 := by have h := HLo.out; rwa [show lowB v 0 = [] from rfl, List.append_nil] at h
      have e2 : z = n + 1 := by rw [HZ.out, e1, lowB_len]
      subst e2
      rw [e1] at HO
      exact ⟨A2, c2, rfl, by rw [List.length_append, HL.out, lowB_len], fun x hx => (List.mem_append.1 hx).elim (HY.out x) (lowB_lt v _ x), HO.out, hb⟩
    | 1, hr =>
      have HB : Hid (v % 256 = ((byteN v 0 : Nat) : Int)) := Lib.hid (by unfold byteN; omega)
      have HS : Hid (hi ++ [byteN v 0] ++ lowB v 0 = lowB v 1) := Lib.hid (by rw [← HLo.out]; simp [lowB])
      have HOne := Lib.hid (ycells_one [byteN v 0])
      have hReads : Hid (Reads (wr.alloc (.cells #[.int .u8 (v % 256)] 5)) (wr.heap.size + 1) 1 (some ⟨wr.heap.size, 0, none⟩) 1 (ycells [byteN v 0])) := Lib.hid ⟨rfl, fun _ => ⟨_, _, rfl, by omega, fun i u hu => by
        match i, hu with
        | 0, hu => injection hu with hu; subst hu; rw [HB.out]; simp⟩⟩
      have HOa := Lib.hid (HO.out.alloc (.cells #[.int .u8 (v % 256)] 5))
      have hba := hb.alloc hsz (.cells #[.int .u8 (v % 256)] 5)
      clear HLo HO HB
      go_wp2_with (at_builtin; refine wpList_append_src rfl _ _ 27 rfl w.heap.size 5 i0 _ 1 1 Tryd.underlying27 hi0 hz0 hz1 hz2 rfl (by decide) _ _ _ rfl HOa.out (some ⟨wr.heap.size, 0, none⟩) 1 1 (wr.heap.size + 1) (ycells [byteN v 0]) rfl (fun h => by cases h) hReads.out HOne.out ?n3 ?n4 ?n5 ?_)
      case n3 => unfold maxLen; omega
      case n4 => omega
      case n5 => simp; omega
      intro A3 c3 w3 hown3 hn3 hgrow3
      have b3 : Below w.heap.size w w3 := below_grown hba (by simp; omega) HOa.out hgrow3
      have HO3 : Hid (w3.ownsRow w.heap.size 5 1 (.slice A3 (z + 1) c3) (z + 1) (ycells (b ++ (hi ++ [byteN v 0])))) := Lib.hid (by
        rw [← List.append_assoc, ycells_app]; exact hown3)
      clear hown3 hgrow3 HOa hReads hba hb
      go_wp2_with fail
      go_roundw
      case rel => exact ⟨0, A3, c3, hi ++ [byteN v 0], z + 1, by omega, by go_num, rfl, by omega, Lib.hid (by have := HZ.out; simp; omega), HS, HO3, b3⟩
      case measure => simp [intOf]
    | r + 2, hr => omega

set_option maxHeartbeats 2000000 in
theorem refPut_2 (b : List Nat) (n : Nat) (A : Option Addr) (c : Nat) (v : Int)  (w : World) (hA : A = none → c = 0) (hR : RB w w.heap.size A n b) (hn : n ≤ 10000) :
    Calls Tryd.prog 31 #[.slice A n c, .int .i64 v, .int .i64 2] w (OutY (b ++ lowB v 2) (n + 2) w) := by
  obtain ⟨i0, hi0, hz0, hz1, hz2⟩ := info_parts info5
  have HR := Lib.hid hR.2.1
  have HL := Lib.hid hR.1
  have HY := Lib.hid hR.2.2
  have HA := Lib.hid hA
  clear hR hA
  have hk4 : 2 ≤ 4 := by omega
  go_enter Tryd.func31, Tryd.ntmps31
  go_wp2_with (at_builtin; refine wpList_append_src rfl _ _ 27 rfl w.heap.size 5 i0 _ 1 1 Tryd.underlying27 hi0 hz0 hz1 hz2 rfl (by decide) _ _ _ rfl (World.ownsRow_made (size := 1) w #[] 0 (Nat.le_refl _) (Nat.zero_le _) (by simp)) A n c w.heap.size (ycells b) rfl HA.out (HR.out.alloc (Nat.le_refl _) _) (ycells_one b) ?c3 ?c4 ?c5 ?_)
  case c3 => unfold maxLen; omega
  case c4 => omega
  case c5 => simp
  intro A1 c1 w1 hown1 hn1 hgrow1
  have b1 : Below w.heap.size w w1 := below_grown (below_new _ _) (by simp) (World.ownsRow_made (size := 1) w #[] 0 (Nat.le_refl _) (Nat.zero_le _) (by simp)) hgrow1
  try simp only [Nat.zero_add, List.nil_append] at hown1 ⊢
  have HO : Hid (w1.ownsRow w.heap.size 5 1 (.slice A1 n c1) n (ycells b)) := Lib.hid (by simpa using hown1)
  clear hown1 hgrow1 hn1 HR
  go_wp2_with fail
  go_loopw [7, 8] (fun vo i wr => ∃ (r : Nat) (A2 : Option Addr) (c2 : Nat) (hi : List Nat) (z : Nat), r ≤ 2 ∧ i = .int .i64 ((r : Int) - 1) ∧ vo = .slice A2 z c2 ∧ z ≤ 20000 ∧ Hid (z = n + hi.length) ∧ Hid (hi ++ lowB v r = lowB v 2) ∧ Hid (wr.ownsRow w.heap.size 5 1 (.slice A2 z c2) z (ycells (b ++ hi))) ∧ Below w.heap.size w wr) (fun _ i _ => (intOf i + 1).toNat)
  case atStart => exact ⟨2, A1, c1, [], n, Nat.le_refl _, congrArg (Value.int .i64) (by omega), rfl, by omega, Lib.hid (by simp), Lib.hid (by simp), Lib.hid (by rw [List.append_nil]; exact HO.out), b1⟩
  case round =>
    clear HO b1
    obtain ⟨r, A2, c2, hi, z, hr, rfl, rfl, hz, HZ, HLo, HO, hb⟩ := hrel
    have hsz := hb.size
    have hzz : z ≤ n + 2 := by
      have h1 := congrArg List.length HLo.out
      rw [List.length_append, lowB_len, lowB_len] at h1
      have := HZ.out
      omega
    match r, hr with
    | 0, _ =>
      go_wp2_with fail
      go_ret
      have e1 : hi = lowB v 2 := by have h := HLo.out; rwa [show lowB v 0 = [] from rfl, List.append_nil] at h
      have e2 : z = n + 2 := by rw [HZ.out, e1, lowB_len]
      subst e2
      rw [e1] at HO
      exact ⟨A2, c2, rfl, by rw [List.length_append, HL.out, lowB_len], fun x hx => (List.mem_append.1 hx).elim (HY.out x) (lowB_lt v _ x), HO.out, hb⟩
    | 1, hr =>
      have HB : Hid (v % 256 = ((byteN v 0 : Nat) : Int)) := Lib.hid (by unfold byteN; omega)
      have HS : Hid (hi ++ [byteN v 0] ++ lowB v 0 = lowB v 2) := Lib.hid (by rw [← HLo.out]; simp [lowB])
      have HOne := Lib.hid (ycells_one [byteN v 0])
      have hReads : Hid (Reads (wr.alloc (.cells #[.int .u8 (v % 256)] 5)) (wr.heap.size + 1) 1 (some ⟨wr.heap.size, 0, none⟩) 1 (ycells [byteN v 0])) := Lib.hid ⟨rfl, fun _ => ⟨_, _, rfl, by omega, fun i u hu => by
        match i, hu with
        | 0, hu => injection hu with hu; subst hu; rw [HB.out]; simp⟩⟩
      have HOa := Lib.hid (HO.out.alloc (.cells #[.int .u8 (v % 256)] 5))
      have hba := hb.alloc hsz (.cells #[.int .u8 (v % 256)] 5)
      clear HLo HO HB
      go_wp2_with (at_builtin; refine wpList_append_src rfl _ _ 27 rfl w.heap.size 5 i0 _ 1 1 Tryd.underlying27 hi0 hz0 hz1 hz2 rfl (by decide) _ _ _ rfl HOa.out (some ⟨wr.heap.size, 0, none⟩) 1 1 (wr.heap.size + 1) (ycells [byteN v 0]) rfl (fun h => by cases h) hReads.out HOne.out ?n3 ?n4 ?n5 ?_)
      case n3 => unfold maxLen; omega
      case n4 => omega
      case n5 => simp; omega
      intro A3 c3 w3 hown3 hn3 hgrow3
      have b3 : Below w.heap.size w w3 := below_grown hba (by simp; omega) HOa.out hgrow3
      have HO3 : Hid (w3.ownsRow w.heap.size 5 1 (.slice A3 (z + 1) c3) (z + 1) (ycells (b ++ (hi ++ [byteN v 0])))) := Lib.hid (by
        rw [← List.append_assoc, ycells_app]; exact hown3)
      clear hown3 hgrow3 HOa hReads hba hb
      go_wp2_with fail
      go_roundw
      case rel => exact ⟨0, A3, c3, hi ++ [byteN v 0], z + 1, by omega, by go_num, rfl, by omega, Lib.hid (by have := HZ.out; simp; omega), HS, HO3, b3⟩
      case measure => simp [intOf]
    | 2, hr =>
      have HB : Hid (v / 256 % 256 = ((byteN v 1 : Nat) : Int)) := Lib.hid (by unfold byteN; omega)
      have HS : Hid (hi ++ [byteN v 1] ++ lowB v 1 = lowB v 2) := Lib.hid (by rw [← HLo.out]; simp [lowB])
      have HOne := Lib.hid (ycells_one [byteN v 1])
      have hReads : Hid (Reads (wr.alloc (.cells #[.int .u8 (v / 256 % 256)] 5)) (wr.heap.size + 1) 1 (some ⟨wr.heap.size, 0, none⟩) 1 (ycells [byteN v 1])) := Lib.hid ⟨rfl, fun _ => ⟨_, _, rfl, by omega, fun i u hu => by
        match i, hu with
        | 0, hu => injection hu with hu; subst hu; rw [HB.out]; simp⟩⟩
      have HOa := Lib.hid (HO.out.alloc (.cells #[.int .u8 (v / 256 % 256)] 5))
      have hba := hb.alloc hsz (.cells #[.int .u8 (v / 256 % 256)] 5)
      clear HLo HO HB
      go_wp2_with (at_builtin; refine wpList_append_src rfl _ _ 27 rfl w.heap.size 5 i0 _ 1 1 Tryd.underlying27 hi0 hz0 hz1 hz2 rfl (by decide) _ _ _ rfl HOa.out (some ⟨wr.heap.size, 0, none⟩) 1 1 (wr.heap.size + 1) (ycells [byteN v 1]) rfl (fun h => by cases h) hReads.out HOne.out ?n3 ?n4 ?n5 ?_)
      case n3 => unfold maxLen; omega
      case n4 => omega
      case n5 => simp; omega
      intro A3 c3 w3 hown3 hn3 hgrow3
      have b3 : Below w.heap.size w w3 := below_grown hba (by simp; omega) HOa.out hgrow3
      have HO3 : Hid (w3.ownsRow w.heap.size 5 1 (.slice A3 (z + 1) c3) (z + 1) (ycells (b ++ (hi ++ [byteN v 1])))) := Lib.hid (by
        rw [← List.append_assoc, ycells_app]; exact hown3)
      clear hown3 hgrow3 HOa hReads hba hb
      go_wp2_with fail
      go_roundw
      case rel => exact ⟨1, A3, c3, hi ++ [byteN v 1], z + 1, by omega, by go_num, rfl, by omega, Lib.hid (by have := HZ.out; simp; omega), HS, HO3, b3⟩
      case measure => simp [intOf]
    | r + 3, hr => omega

set_option maxHeartbeats 2000000 in
theorem refPut_3 (b : List Nat) (n : Nat) (A : Option Addr) (c : Nat) (v : Int)  (w : World) (hA : A = none → c = 0) (hR : RB w w.heap.size A n b) (hn : n ≤ 10000) :
    Calls Tryd.prog 31 #[.slice A n c, .int .i64 v, .int .i64 3] w (OutY (b ++ lowB v 3) (n + 3) w) := by
  obtain ⟨i0, hi0, hz0, hz1, hz2⟩ := info_parts info5
  have HR := Lib.hid hR.2.1
  have HL := Lib.hid hR.1
  have HY := Lib.hid hR.2.2
  have HA := Lib.hid hA
  clear hR hA
  have hk4 : 3 ≤ 4 := by omega
  go_enter Tryd.func31, Tryd.ntmps31
  go_wp2_with (at_builtin; refine wpList_append_src rfl _ _ 27 rfl w.heap.size 5 i0 _ 1 1 Tryd.underlying27 hi0 hz0 hz1 hz2 rfl (by decide) _ _ _ rfl (World.ownsRow_made (size := 1) w #[] 0 (Nat.le_refl _) (Nat.zero_le _) (by simp)) A n c w.heap.size (ycells b) rfl HA.out (HR.out.alloc (Nat.le_refl _) _) (ycells_one b) ?c3 ?c4 ?c5 ?_)
  case c3 => unfold maxLen; omega
  case c4 => omega
  case c5 => simp
  intro A1 c1 w1 hown1 hn1 hgrow1
  have b1 : Below w.heap.size w w1 := below_grown (below_new _ _) (by simp) (World.ownsRow_made (size := 1) w #[] 0 (Nat.le_refl _) (Nat.zero_le _) (by simp)) hgrow1
  try simp only [Nat.zero_add, List.nil_append] at hown1 ⊢
  have HO : Hid (w1.ownsRow w.heap.size 5 1 (.slice A1 n c1) n (ycells b)) := Lib.hid (by simpa using hown1)
  clear hown1 hgrow1 hn1 HR
  go_wp2_with fail
  go_loopw [7, 8] (fun vo i wr => ∃ (r : Nat) (A2 : Option Addr) (c2 : Nat) (hi : List Nat) (z : Nat), r ≤ 3 ∧ i = .int .i64 ((r : Int) - 1) ∧ vo = .slice A2 z c2 ∧ z ≤ 20000 ∧ Hid (z = n + hi.length) ∧ Hid (hi ++ lowB v r = lowB v 3) ∧ Hid (wr.ownsRow w.heap.size 5 1 (.slice A2 z c2) z (ycells (b ++ hi))) ∧ Below w.heap.size w wr) (fun _ i _ => (intOf i + 1).toNat)
  case atStart => exact ⟨3, A1, c1, [], n, Nat.le_refl _, congrArg (Value.int .i64) (by omega), rfl, by omega, Lib.hid (by simp), Lib.hid (by simp), Lib.hid (by rw [List.append_nil]; exact HO.out), b1⟩
  case round =>
    clear HO b1
    obtain ⟨r, A2, c2, hi, z, hr, rfl, rfl, hz, HZ, HLo, HO, hb⟩ := hrel
    have hsz := hb.size
    have hzz : z ≤ n + 3 := by
      have h1 := congrArg List.length HLo.out
      rw [List.length_append, lowB_len, lowB_len] at h1
      have := HZ.out
      omega
    match r, hr with
    | 0, _ =>
      go_wp2_with fail
      go_ret
      have e1 : hi = lowB v 3 := by have h := HLo.out; rwa [show lowB v 0 = [] from rfl, List.append_nil] at h
      have e2 : z = n + 3 := by rw [HZ.out, e1, lowB_len]
      subst e2
      rw [e1] at HO
      exact ⟨A2, c2, rfl, by rw [List.length_append, HL.out, lowB_len], fun x hx => (List.mem_append.1 hx).elim (HY.out x) (lowB_lt v _ x), HO.out, hb⟩
    | 1, hr =>
      have HB : Hid (v % 256 = ((byteN v 0 : Nat) : Int)) := Lib.hid (by unfold byteN; omega)
      have HS : Hid (hi ++ [byteN v 0] ++ lowB v 0 = lowB v 3) := Lib.hid (by rw [← HLo.out]; simp [lowB])
      have HOne := Lib.hid (ycells_one [byteN v 0])
      have hReads : Hid (Reads (wr.alloc (.cells #[.int .u8 (v % 256)] 5)) (wr.heap.size + 1) 1 (some ⟨wr.heap.size, 0, none⟩) 1 (ycells [byteN v 0])) := Lib.hid ⟨rfl, fun _ => ⟨_, _, rfl, by omega, fun i u hu => by
        match i, hu with
        | 0, hu => injection hu with hu; subst hu; rw [HB.out]; simp⟩⟩
      have HOa := Lib.hid (HO.out.alloc (.cells #[.int .u8 (v % 256)] 5))
      have hba := hb.alloc hsz (.cells #[.int .u8 (v % 256)] 5)
      clear HLo HO HB
      go_wp2_with (at_builtin; refine wpList_append_src rfl _ _ 27 rfl w.heap.size 5 i0 _ 1 1 Tryd.underlying27 hi0 hz0 hz1 hz2 rfl (by decide) _ _ _ rfl HOa.out (some ⟨wr.heap.size, 0, none⟩) 1 1 (wr.heap.size + 1) (ycells [byteN v 0]) rfl (fun h => by cases h) hReads.out HOne.out ?n3 ?n4 ?n5 ?_)
      case n3 => unfold maxLen; omega
      case n4 => omega
      case n5 => simp; omega
      intro A3 c3 w3 hown3 hn3 hgrow3
      have b3 : Below w.heap.size w w3 := below_grown hba (by simp; omega) HOa.out hgrow3
      have HO3 : Hid (w3.ownsRow w.heap.size 5 1 (.slice A3 (z + 1) c3) (z + 1) (ycells (b ++ (hi ++ [byteN v 0])))) := Lib.hid (by
        rw [← List.append_assoc, ycells_app]; exact hown3)
      clear hown3 hgrow3 HOa hReads hba hb
      go_wp2_with fail
      go_roundw
      case rel => exact ⟨0, A3, c3, hi ++ [byteN v 0], z + 1, by omega, by go_num, rfl, by omega, Lib.hid (by have := HZ.out; simp; omega), HS, HO3, b3⟩
      case measure => simp [intOf]
    | 2, hr =>
      have HB : Hid (v / 256 % 256 = ((byteN v 1 : Nat) : Int)) := Lib.hid (by unfold byteN; omega)
      have HS : Hid (hi ++ [byteN v 1] ++ lowB v 1 = lowB v 3) := Lib.hid (by rw [← HLo.out]; simp [lowB])
      have HOne := Lib.hid (ycells_one [byteN v 1])
      have hReads : Hid (Reads (wr.alloc (.cells #[.int .u8 (v / 256 % 256)] 5)) (wr.heap.size + 1) 1 (some ⟨wr.heap.size, 0, none⟩) 1 (ycells [byteN v 1])) := Lib.hid ⟨rfl, fun _ => ⟨_, _, rfl, by omega, fun i u hu => by
        match i, hu with
        | 0, hu => injection hu with hu; subst hu; rw [HB.out]; simp⟩⟩
      have HOa := Lib.hid (HO.out.alloc (.cells #[.int .u8 (v / 256 % 256)] 5))
      have hba := hb.alloc hsz (.cells #[.int .u8 (v / 256 % 256)] 5)
      clear HLo HO HB
      go_wp2_with (at_builtin; refine wpList_append_src rfl _ _ 27 rfl w.heap.size 5 i0 _ 1 1 Tryd.underlying27 hi0 hz0 hz1 hz2 rfl (by decide) _ _ _ rfl HOa.out (some ⟨wr.heap.size, 0, none⟩) 1 1 (wr.heap.size + 1) (ycells [byteN v 1]) rfl (fun h => by cases h) hReads.out HOne.out ?n3 ?n4 ?n5 ?_)
      case n3 => unfold maxLen; omega
      case n4 => omega
      case n5 => simp; omega
      intro A3 c3 w3 hown3 hn3 hgrow3
      have b3 : Below w.heap.size w w3 := below_grown hba (by simp; omega) HOa.out hgrow3
      have HO3 : Hid (w3.ownsRow w.heap.size 5 1 (.slice A3 (z + 1) c3) (z + 1) (ycells (b ++ (hi ++ [byteN v 1])))) := Lib.hid (by
        rw [← List.append_assoc, ycells_app]; exact hown3)
      clear hown3 hgrow3 HOa hReads hba hb
      go_wp2_with fail
      go_roundw
      case rel => exact ⟨1, A3, c3, hi ++ [byteN v 1], z + 1, by omega, by go_num, rfl, by omega, Lib.hid (by have := HZ.out; simp; omega), HS, HO3, b3⟩
      case measure => simp [intOf]
    | 3, hr =>
      have HB : Hid (v / 65536 % 256 = ((byteN v 2 : Nat) : Int)) := Lib.hid (by unfold byteN; omega)
      have HS : Hid (hi ++ [byteN v 2] ++ lowB v 2 = lowB v 3) := Lib.hid (by rw [← HLo.out]; simp [lowB])
      have HOne := Lib.hid (ycells_one [byteN v 2])
      have hReads : Hid (Reads (wr.alloc (.cells #[.int .u8 (v / 65536 % 256)] 5)) (wr.heap.size + 1) 1 (some ⟨wr.heap.size, 0, none⟩) 1 (ycells [byteN v 2])) := Lib.hid ⟨rfl, fun _ => ⟨_, _, rfl, by omega, fun i u hu => by
        match i, hu with
        | 0, hu => injection hu with hu; subst hu; rw [HB.out]; simp⟩⟩
      have HOa := Lib.hid (HO.out.alloc (.cells #[.int .u8 (v / 65536 % 256)] 5))
      have hba := hb.alloc hsz (.cells #[.int .u8 (v / 65536 % 256)] 5)
      clear HLo HO HB
      go_wp2_with (at_builtin; refine wpList_append_src rfl _ _ 27 rfl w.heap.size 5 i0 _ 1 1 Tryd.underlying27 hi0 hz0 hz1 hz2 rfl (by decide) _ _ _ rfl HOa.out (some ⟨wr.heap.size, 0, none⟩) 1 1 (wr.heap.size + 1) (ycells [byteN v 2]) rfl (fun h => by cases h) hReads.out HOne.out ?n3 ?n4 ?n5 ?_)
      case n3 => unfold maxLen; omega
      case n4 => omega
      case n5 => simp; omega
      intro A3 c3 w3 hown3 hn3 hgrow3
      have b3 : Below w.heap.size w w3 := below_grown hba (by simp; omega) HOa.out hgrow3
      have HO3 : Hid (w3.ownsRow w.heap.size 5 1 (.slice A3 (z + 1) c3) (z + 1) (ycells (b ++ (hi ++ [byteN v 2])))) := Lib.hid (by
        rw [← List.append_assoc, ycells_app]; exact hown3)
      clear hown3 hgrow3 HOa hReads hba hb
      go_wp2_with fail
      go_roundw
      case rel => exact ⟨2, A3, c3, hi ++ [byteN v 2], z + 1, by omega, by go_num, rfl, by omega, Lib.hid (by have := HZ.out; simp; omega), HS, HO3, b3⟩
      case measure => simp [intOf]
    | r + 4, hr => omega

set_option maxHeartbeats 2000000 in
theorem refPut_4 (b : List Nat) (n : Nat) (A : Option Addr) (c : Nat) (v : Int)  (w : World) (hA : A = none → c = 0) (hR : RB w w.heap.size A n b) (hn : n ≤ 10000) :
    Calls Tryd.prog 31 #[.slice A n c, .int .i64 v, .int .i64 4] w (OutY (b ++ lowB v 4) (n + 4) w) := by
  obtain ⟨i0, hi0, hz0, hz1, hz2⟩ := info_parts info5
  have HR := Lib.hid hR.2.1
  have HL := Lib.hid hR.1
  have HY := Lib.hid hR.2.2
  have HA := Lib.hid hA
  clear hR hA
  have hk4 : 4 ≤ 4 := by omega
  go_enter Tryd.func31, Tryd.ntmps31
  go_wp2_with (at_builtin; refine wpList_append_src rfl _ _ 27 rfl w.heap.size 5 i0 _ 1 1 Tryd.underlying27 hi0 hz0 hz1 hz2 rfl (by decide) _ _ _ rfl (World.ownsRow_made (size := 1) w #[] 0 (Nat.le_refl _) (Nat.zero_le _) (by simp)) A n c w.heap.size (ycells b) rfl HA.out (HR.out.alloc (Nat.le_refl _) _) (ycells_one b) ?c3 ?c4 ?c5 ?_)
  case c3 => unfold maxLen; omega
  case c4 => omega
  case c5 => simp
  intro A1 c1 w1 hown1 hn1 hgrow1
  have b1 : Below w.heap.size w w1 := below_grown (below_new _ _) (by simp) (World.ownsRow_made (size := 1) w #[] 0 (Nat.le_refl _) (Nat.zero_le _) (by simp)) hgrow1
  try simp only [Nat.zero_add, List.nil_append] at hown1 ⊢
  have HO : Hid (w1.ownsRow w.heap.size 5 1 (.slice A1 n c1) n (ycells b)) := Lib.hid (by simpa using hown1)
  clear hown1 hgrow1 hn1 HR
  go_wp2_with fail
  go_loopw [7, 8] (fun vo i wr => ∃ (r : Nat) (A2 : Option Addr) (c2 : Nat) (hi : List Nat) (z : Nat), r ≤ 4 ∧ i = .int .i64 ((r : Int) - 1) ∧ vo = .slice A2 z c2 ∧ z ≤ 20000 ∧ Hid (z = n + hi.length) ∧ Hid (hi ++ lowB v r = lowB v 4) ∧ Hid (wr.ownsRow w.heap.size 5 1 (.slice A2 z c2) z (ycells (b ++ hi))) ∧ Below w.heap.size w wr) (fun _ i _ => (intOf i + 1).toNat)
  case atStart => exact ⟨4, A1, c1, [], n, Nat.le_refl _, congrArg (Value.int .i64) (by omega), rfl, by omega, Lib.hid (by simp), Lib.hid (by simp), Lib.hid (by rw [List.append_nil]; exact HO.out), b1⟩
  case round =>
    clear HO b1
    obtain ⟨r, A2, c2, hi, z, hr, rfl, rfl, hz, HZ, HLo, HO, hb⟩ := hrel
    have hsz := hb.size
    have hzz : z ≤ n + 4 := by
      have h1 := congrArg List.length HLo.out
      rw [List.length_append, lowB_len, lowB_len] at h1
      have := HZ.out
      omega
    match r, hr with
    | 0, _ =>
      go_wp2_with fail
      go_ret
      have e1 : hi = lowB v 4 := by have h := HLo.out; rwa [show lowB v 0 = [] from rfl, List.append_nil] at h
      have e2 : z = n + 4 := by rw [HZ.out, e1, lowB_len]
      subst e2
      rw [e1] at HO
      exact ⟨A2, c2, rfl, by rw [List.length_append, HL.out, lowB_len], fun x hx => (List.mem_append.1 hx).elim (HY.out x) (lowB_lt v _ x), HO.out, hb⟩
    | 1, hr =>
      have HB : Hid (v % 256 = ((byteN v 0 : Nat) : Int)) := Lib.hid (by unfold byteN; omega)
      have HS : Hid (hi ++ [byteN v 0] ++ lowB v 0 = lowB v 4) := Lib.hid (by rw [← HLo.out]; simp [lowB])
      have HOne := Lib.hid (ycells_one [byteN v 0])
      have hReads : Hid (Reads (wr.alloc (.cells #[.int .u8 (v % 256)] 5)) (wr.heap.size + 1) 1 (some ⟨wr.heap.size, 0, none⟩) 1 (ycells [byteN v 0])) := Lib.hid ⟨rfl, fun _ => ⟨_, _, rfl, by omega, fun i u hu => by
        match i, hu with
        | 0, hu => injection hu with hu; subst hu; rw [HB.out]; simp⟩⟩
      have HOa := Lib.hid (HO.out.alloc (.cells #[.int .u8 (v % 256)] 5))
      have hba := hb.alloc hsz (.cells #[.int .u8 (v % 256)] 5)
      clear HLo HO HB
      go_wp2_with (at_builtin; refine wpList_append_src rfl _ _ 27 rfl w.heap.size 5 i0 _ 1 1 Tryd.underlying27 hi0 hz0 hz1 hz2 rfl (by decide) _ _ _ rfl HOa.out (some ⟨wr.heap.size, 0, none⟩) 1 1 (wr.heap.size + 1) (ycells [byteN v 0]) rfl (fun h => by cases h) hReads.out HOne.out ?n3 ?n4 ?n5 ?_)
      case n3 => unfold maxLen; omega
      case n4 => omega
      case n5 => simp; omega
      intro A3 c3 w3 hown3 hn3 hgrow3
      have b3 : Below w.heap.size w w3 := below_grown hba (by simp; omega) HOa.out hgrow3
      have HO3 : Hid (w3.ownsRow w.heap.size 5 1 (.slice A3 (z + 1) c3) (z + 1) (ycells (b ++ (hi ++ [byteN v 0])))) := Lib.hid (by
        rw [← List.append_assoc, ycells_app]; exact hown3)
      clear hown3 hgrow3 HOa hReads hba hb
      go_wp2_with fail
      go_roundw
      case rel => exact ⟨0, A3, c3, hi ++ [byteN v 0], z + 1, by omega, by go_num, rfl, by omega, Lib.hid (by have := HZ.out; simp; omega), HS, HO3, b3⟩
      case measure => simp [intOf]
    | 2, hr =>
      have HB : Hid (v / 256 % 256 = ((byteN v 1 : Nat) : Int)) := Lib.hid (by unfold byteN; omega)
      have HS : Hid (hi ++ [byteN v 1] ++ lowB v 1 = lowB v 4) := Lib.hid (by rw [← HLo.out]; simp [lowB])
      have HOne := Lib.hid (ycells_one [byteN v 1])
      have hReads : Hid (Reads (wr.alloc (.cells #[.int .u8 (v / 256 % 256)] 5)) (wr.heap.size + 1) 1 (some ⟨wr.heap.size, 0, none⟩) 1 (ycells [byteN v 1])) := Lib.hid ⟨rfl, fun _ => ⟨_, _, rfl, by omega, fun i u hu => by
        match i, hu with
        | 0, hu => injection hu with hu; subst hu; rw [HB.out]; simp⟩⟩
      have HOa := Lib.hid (HO.out.alloc (.cells #[.int .u8 (v / 256 % 256)] 5))
      have hba := hb.alloc hsz (.cells #[.int .u8 (v / 256 % 256)] 5)
      clear HLo HO HB
      go_wp2_with (at_builtin; refine wpList_append_src rfl _ _ 27 rfl w.heap.size 5 i0 _ 1 1 Tryd.underlying27 hi0 hz0 hz1 hz2 rfl (by decide) _ _ _ rfl HOa.out (some ⟨wr.heap.size, 0, none⟩) 1 1 (wr.heap.size + 1) (ycells [byteN v 1]) rfl (fun h => by cases h) hReads.out HOne.out ?n3 ?n4 ?n5 ?_)
      case n3 => unfold maxLen; omega
      case n4 => omega
      case n5 => simp; omega
      intro A3 c3 w3 hown3 hn3 hgrow3
      have b3 : Below w.heap.size w w3 := below_grown hba (by simp; omega) HOa.out hgrow3
      have HO3 : Hid (w3.ownsRow w.heap.size 5 1 (.slice A3 (z + 1) c3) (z + 1) (ycells (b ++ (hi ++ [byteN v 1])))) := Lib.hid (by
        rw [← List.append_assoc, ycells_app]; exact hown3)
      clear hown3 hgrow3 HOa hReads hba hb
      go_wp2_with fail
      go_roundw
      case rel => exact ⟨1, A3, c3, hi ++ [byteN v 1], z + 1, by omega, by go_num, rfl, by omega, Lib.hid (by have := HZ.out; simp; omega), HS, HO3, b3⟩
      case measure => simp [intOf]
    | 3, hr =>
      have HB : Hid (v / 65536 % 256 = ((byteN v 2 : Nat) : Int)) := Lib.hid (by unfold byteN; omega)
      have HS : Hid (hi ++ [byteN v 2] ++ lowB v 2 = lowB v 4) := Lib.hid (by rw [← HLo.out]; simp [lowB])
      have HOne := Lib.hid (ycells_one [byteN v 2])
      have hReads : Hid (Reads (wr.alloc (.cells #[.int .u8 (v / 65536 % 256)] 5)) (wr.heap.size + 1) 1 (some ⟨wr.heap.size, 0, none⟩) 1 (ycells [byteN v 2])) := Lib.hid ⟨rfl, fun _ => ⟨_, _, rfl, by omega, fun i u hu => by
        match i, hu with
        | 0, hu => injection hu with hu; subst hu; rw [HB.out]; simp⟩⟩
      have HOa := Lib.hid (HO.out.alloc (.cells #[.int .u8 (v / 65536 % 256)] 5))
      have hba := hb.alloc hsz (.cells #[.int .u8 (v / 65536 % 256)] 5)
      clear HLo HO HB
      go_wp2_with (at_builtin; refine wpList_append_src rfl _ _ 27 rfl w.heap.size 5 i0 _ 1 1 Tryd.underlying27 hi0 hz0 hz1 hz2 rfl (by decide) _ _ _ rfl HOa.out (some ⟨wr.heap.size, 0, none⟩) 1 1 (wr.heap.size + 1) (ycells [byteN v 2]) rfl (fun h => by cases h) hReads.out HOne.out ?n3 ?n4 ?n5 ?_)
      case n3 => unfold maxLen; omega
      case n4 => omega
      case n5 => simp; omega
      intro A3 c3 w3 hown3 hn3 hgrow3
      have b3 : Below w.heap.size w w3 := below_grown hba (by simp; omega) HOa.out hgrow3
      have HO3 : Hid (w3.ownsRow w.heap.size 5 1 (.slice A3 (z + 1) c3) (z + 1) (ycells (b ++ (hi ++ [byteN v 2])))) := Lib.hid (by
        rw [← List.append_assoc, ycells_app]; exact hown3)
      clear hown3 hgrow3 HOa hReads hba hb
      go_wp2_with fail
      go_roundw
      case rel => exact ⟨2, A3, c3, hi ++ [byteN v 2], z + 1, by omega, by go_num, rfl, by omega, Lib.hid (by have := HZ.out; simp; omega), HS, HO3, b3⟩
      case measure => simp [intOf]
    | 4, hr =>
      have HB : Hid (v / 16777216 % 256 = ((byteN v 3 : Nat) : Int)) := Lib.hid (by unfold byteN; omega)
      have HS : Hid (hi ++ [byteN v 3] ++ lowB v 3 = lowB v 4) := Lib.hid (by rw [← HLo.out]; simp [lowB])
      have HOne := Lib.hid (ycells_one [byteN v 3])
      have hReads : Hid (Reads (wr.alloc (.cells #[.int .u8 (v / 16777216 % 256)] 5)) (wr.heap.size + 1) 1 (some ⟨wr.heap.size, 0, none⟩) 1 (ycells [byteN v 3])) := Lib.hid ⟨rfl, fun _ => ⟨_, _, rfl, by omega, fun i u hu => by
        match i, hu with
        | 0, hu => injection hu with hu; subst hu; rw [HB.out]; simp⟩⟩
      have HOa := Lib.hid (HO.out.alloc (.cells #[.int .u8 (v / 16777216 % 256)] 5))
      have hba := hb.alloc hsz (.cells #[.int .u8 (v / 16777216 % 256)] 5)
      clear HLo HO HB
      go_wp2_with (at_builtin; refine wpList_append_src rfl _ _ 27 rfl w.heap.size 5 i0 _ 1 1 Tryd.underlying27 hi0 hz0 hz1 hz2 rfl (by decide) _ _ _ rfl HOa.out (some ⟨wr.heap.size, 0, none⟩) 1 1 (wr.heap.size + 1) (ycells [byteN v 3]) rfl (fun h => by cases h) hReads.out HOne.out ?n3 ?n4 ?n5 ?_)
      case n3 => unfold maxLen; omega
      case n4 => omega
      case n5 => simp; omega
      intro A3 c3 w3 hown3 hn3 hgrow3
      have b3 : Below w.heap.size w w3 := below_grown hba (by simp; omega) HOa.out hgrow3
      have HO3 : Hid (w3.ownsRow w.heap.size 5 1 (.slice A3 (z + 1) c3) (z + 1) (ycells (b ++ (hi ++ [byteN v 3])))) := Lib.hid (by
        rw [← List.append_assoc, ycells_app]; exact hown3)
      clear hown3 hgrow3 HOa hReads hba hb
      go_wp2_with fail
      go_roundw
      case rel => exact ⟨3, A3, c3, hi ++ [byteN v 3], z + 1, by omega, by go_num, rfl, by omega, Lib.hid (by have := HZ.out; simp; omega), HS, HO3, b3⟩
      case measure => simp [intOf]
    | r + 5, hr => omega

theorem refPut_any (b : List Nat) (n : Nat) (A : Option Addr) (c : Nat) (v size : Int) (w : World) (hA : A = none → c = 0) (hR : RB w w.heap.size A n b) (hn : n ≤ 10000) :
    Calls Tryd.prog 31 #[.slice A n c, .int .i64 v, .int .i64 size] w (OutY (b ++ lowB v (cutN size)) (n + cutN size) w) := by
  by_cases h0 : size < 0
  · rw [show cutN size = 0 by unfold cutN; omega]; exact refPut_neg b n A c v size h0 w hA hR hn
  by_cases h4 : 4 < size
  · rw [show cutN size = 4 by unfold cutN; omega]; exact refPut_big b n A c v size h4 w hA hR hn
  have : size = 0 ∨ size = 1 ∨ size = 2 ∨ size = 3 ∨ size = 4 := by omega
  rcases this with rfl | rfl | rfl | rfl | rfl
  · exact refPut_0 b n A c v w hA hR hn
  · exact refPut_1 b n A c v w hA hR hn
  · exact refPut_2 b n A c v w hA hR hn
  · exact refPut_3 b n A c v w hA hR hn
  · exact refPut_4 b n A c v w hA hR hn
end Go.Proofs.YtnilejdokgagbaaDoor

/- What Bits and the document's Bits return. -/
namespace Go.Proofs.YtnilejdokgagbaaDoor
open Go.RowKit Go.BigFrame
set_option linter.unusedVariables false
set_option linter.unusedSimpArgs false



theorem ycells_set (l : List Nat) (k y : Nat) : (ycells l).set k (.int .u8 (y : Int)) = ycells (l.set k y) := by
  unfold ycells; rw [List.map_set]
theorem ycells_rep (m : Nat) : (madeCells #[Value.int .u8 0] m).toList = ycells (List.replicate m 0) := by rw [toList_madeCells_one]; simp [ycells]
theorem own_byte {w : World} {base g z : Nat} {l : List Nat} (h : w.ownsRow base 5 1 (.slice (some ⟨g, 0, none⟩) z z) z (ycells l)) {k : Nat} (hk : k < l.length) : w.cell? ⟨g, k, none⟩ = some (.int .u8 (l[k] : Int)) := by
  have q := h.cellAt k (by have := h.1; rw [ycells_len] at this; omega)
  rwa [show (ycells l)[k]? = some (.int .u8 (l[k] : Int)) by unfold ycells; rw [List.getElem?_map, List.getElem?_eq_getElem hk]; rfl] at q
/-- The bits of the first k are laid. -/
def BInv (l : List Bool) (k m : Nat) (bs : List Nat) : Prop := bs.length = m ∧ (∀ x ∈ bs, x < 256) ∧ ∀ j, bitY bs j = ((l.take k)[j]?).getD false
theorem binv_0 (l : List Bool) (m : Nat) : BInv l 0 m (List.replicate m 0) := by
  refine ⟨by simp, fun x hx => by rw [List.eq_of_mem_replicate hx]; decide, fun j => ?_⟩
  unfold bitY
  rw [List.getElem?_replicate]
  split <;> simp
theorem take_getD (l : List Bool) (k j : Nat) (hk : k < l.length) : ((l.take (k + 1))[j]?).getD false = (((l.take k)[j]?).getD false || (decide (j = k) && l[k])) := by
  rw [List.take_succ_eq_append_getElem hk]
  rcases Nat.lt_trichotomy j k with h | h | h
  · rw [List.getElem?_append_left (by rw [List.length_take]; omega), decide_eq_false (by omega), Bool.false_and, Bool.or_false]
  · subst h
    rw [List.getElem?_append_right (by rw [List.length_take]; omega), List.length_take, Nat.min_eq_left (by omega), Nat.sub_self, decide_eq_true rfl, show (l.take j)[j]? = none from List.getElem?_eq_none (by rw [List.length_take]; omega)]
    simp
  · rw [List.getElem?_eq_none (by simp; omega), List.getElem?_eq_none (by rw [List.length_take]; omega), decide_eq_false (by omega)]; rfl
theorem binv_skip {l : List Bool} {k m : Nat} {bs : List Nat} (h : BInv l k m bs) (hk : k < l.length) (he : l[k] = false) : BInv l (k + 1) m bs :=
  ⟨h.1, h.2.1, fun j => by rw [take_getD l k j hk, he, Bool.and_false, Bool.or_false]; exact h.2.2 j⟩
theorem binv_set {l : List Bool} {k m : Nat} {bs : List Nat} (h : BInv l k m bs) (hk : k < l.length) (he : l[k] = true) (hb : k / 8 < bs.length) : BInv l (k + 1) m (bs.set (k / 8) (bs[k / 8] ||| 2 ^ (k % 8))) :=
  ⟨by rw [List.length_set]; exact h.1, set_lt h.2.1 _ _ (set_or_lt (h.2.1 _ (List.getElem_mem hb))), fun j => by rw [take_getD l k j hk, he, Bool.and_true, bitY_set bs k j hb, h.2.2 j]⟩
theorem binv_all {l : List Bool} {n m : Nat} {bs : List Nat} (h : BInv l n m bs) (hl : l.length = n) (hm : (n + 7) / 8 = m) : IsBits bs l :=
  ⟨by rw [h.1, hl, hm], h.2.1, fun j => by rw [h.2.2 j, List.take_of_length_le (by omega)]⟩

theorem or_u8 (x r : Nat) (hx : x < 256) (hr : r < 8) : bits .or .u8 (x : Int) (2 ^ r % 256) = ((x ||| 2 ^ r : Nat) : Int) := by
  have hp : 2 ^ r < 256 := Nat.pow_lt_pow_right (a := 2) (by decide) hr
  have h := u8_or_nat x (2 ^ r) hx hp
  have e : (2 : Int) ^ r = ((2 ^ r : Nat) : Int) := by rw [Int.natCast_pow]; rfl
  have e2 : ((2 ^ r : Nat) : Int) % 256 = ((2 ^ r : Nat) : Int) := Int.emod_eq_of_lt (Int.natCast_nonneg _) (Int.ofNat_lt.2 hp)
  rw [← h, e, e2]
set_option maxHeartbeats 1000000 in
theorem bits_any (l : List Bool) (n : Nat) (A : Option Addr) (c : Nat) (w : World) (hR : RL w w.heap.size A n l) (hn : n ≤ 10000) :
    Calls Tryd.prog 28 #[.slice A n c] w fun e w' => ∃ b, IsBits b l ∧ OutY b ((n + 7) / 8) w e w' := by
  obtain ⟨i0, hi0, hz0, hz1, hz2⟩ := info_parts info5
  have HR := Lib.hid hR
  have HBF := Lib.hid (bytesFor_any n (by omega))
  obtain ⟨m, hm⟩ : ∃ m, (n + 7) / 8 = m := ⟨_, rfl⟩
  have hmn : n ≤ 8 * m := by omega
  have hmm : m ≤ 2000 := by omega
  rw [hm] at HBF ⊢
  have HM := Lib.hid hm
  clear hR hm
  go_enter Tryd.func28, Tryd.ntmps28
  go_wp2_with fail
  refine (HBF.out _).mono ?_
  rintro e w1 ⟨rfl, rfl⟩
  go_wp2_with (at_make; refine wpList_make_full _ rfl _ _ 27 rfl w1.heap.size 5 i0 _ 1 Tryd.underlying27 hi0 hz0 hz1 .i64 .i64 m m m rfl rfl rfl rfl ?k1 ?k2 (Nat.le_refl _) ?_)
  case k1 => rw [hz2]; omega
  case k2 => unfold maxLen; omega
  first | (intro w3 hown3 hgrow3) | (rename_i w3 hown3 hgrow3)
  have HW : Hid (w3.ownsRow w1.heap.size 5 1 (.slice (some ⟨w1.heap.size, 0, none⟩) m m) m (ycells (List.replicate m 0))) := Lib.hid (by
    rw [← ycells_rep]; exact hown3)
  have b3 : Below w1.heap.size w1 w3 := (Below.refl _ _).grown hgrow3 (Nat.le_refl _) (fun k hk => by cases hk)
  clear hown3 hgrow3 HBF
  go_wp2_with fail
  go_loopw [12] (fun i wr => ∃ (k : Nat) (bs : List Nat), k ≤ n ∧ i = .int .i64 k ∧ Hid (BInv l k m bs) ∧ Hid (wr.ownsRow w1.heap.size 5 1 (.slice (some ⟨w1.heap.size, 0, none⟩) m m) m (ycells bs)) ∧ Below w1.heap.size w1 wr) (fun i _ => n - (intOf i).toNat)
  case atStart => exact ⟨0, _, Nat.zero_le _, rfl, Lib.hid (binv_0 l m), HW, b3⟩
  case round =>
    obtain ⟨k, bs, hk, rfl, HI, HO, hb⟩ := hrel
    clear HW b3
    by_cases hlt : k < n
    · have kl : k < l.length := by rw [HR.out.1]; exact hlt
      have kb : k / 8 < bs.length := by rw [HI.out.1]; omega
      obtain ⟨b, o, rfl, hbb, p0⟩ := RL.at ⟨HR.out.1, HR.out.2.below hb⟩ kl
      have km : k / 8 < m := by omega
      cases hx : l[k]
      · rw [hx] at p0
        have HI' := Lib.hid (binv_skip HI.out kl hx)
        clear HI hx
        go_wp2_with fail
        go_roundw
        case rel => exact ⟨k + 1, bs, by omega, by go_num, HI', HO, hb⟩
        case measure => simp [intOf]; omega
      · rw [hx] at p0
        have HI' := Lib.hid (binv_set HI.out kl hx kb)
        have hb0 := HI.out.2.1 _ (List.getElem_mem kb)
        have q0 := own_byte HO.out kb
        have f0 := HO.out.frozenAt (k / 8)
        have HSt : Hid (∀ y : Nat, (wr.setCell ⟨w1.heap.size, k / 8, none⟩ (.int .u8 (y : Int))).ownsRow w1.heap.size 5 1 (.slice (some ⟨w1.heap.size, 0, none⟩) m m) m (ycells (bs.set (k / 8) y))) := Lib.hid (fun y => by
          have h := (HO.out.stored (k / 8) (.int .u8 (y : Int))).1
          rwa [ycells_set] at h)
        clear HI hx
        generalize bs[k / 8] = x at *
        obtain ⟨q, hq⟩ : ∃ q, k / 8 = q := ⟨_, rfl⟩
        obtain ⟨r, hr⟩ : ∃ r, k % 8 = r := ⟨_, rfl⟩
        have hr8 : r < 8 := by omega
        rw [hq] at km q0 f0 HSt HI'
        rw [hr] at HI'
        have i1 : (k : Int) / 8 = (q : Int) := by omega
        have i2 : (k : Int) % 8 = (r : Int) := by omega
        have i3 : Int.tdiv (k : Int) 8 = (q : Int) := by rw [Int.tdiv_eq_ediv_of_nonneg (by omega)]; exact i1
        have i4 : Int.tmod (k : Int) 8 = (r : Int) := by rw [Int.tmod_eq_emod_of_nonneg (by omega)]; exact i2
        have i5 : (0 : Int) ≤ (q : Int) := by omega
        have i6 : (q : Int) < (m : Int) := by omega
        have i7 : (0 : Int) ≤ (r : Int) := by omega
        have i8 : (r : Int) < 8 := by omega
        have i9 : min r 8 = r := by omega
        have iw : IntKind.i64.wrap (q : Int) = (q : Int) := by rw [IntKind.wrap_i64]; omega
        clear hq hr
        go_wp2_with fail
        have hor := or_u8 x r hb0 hr8
        have HSt2 : Hid ((wr.setCell ⟨w1.heap.size, q, none⟩ (.int .u8 (bits .or .u8 (x : Int) (2 ^ r % 256)))).drew.ownsRow w1.heap.size 5 1 (.slice (some ⟨w1.heap.size, 0, none⟩) m m) m (ycells (bs.set q (x ||| 2 ^ r)))) := Lib.hid (by
          rw [hor]; exact (HSt.out (x ||| 2 ^ r)).drew)
        have b9 : Below w1.heap.size w1 (wr.setCell ⟨w1.heap.size, q, none⟩ (.int .u8 (bits .or .u8 (x : Int) (2 ^ r % 256)))).drew := Below.drew (hb.setCell (p := ⟨w1.heap.size, q, none⟩) (Nat.le_refl _) _)
        clear hor HSt hb0 kb
        go_region
        generalize (wr.setCell ⟨w1.heap.size, q, none⟩ (.int .u8 (bits .or .u8 (x : Int) (2 ^ r % 256)))).drew = w9 at *
        clear p0 q0 f0 HO hb
        go_wp2_with fail
        go_roundw
        case rel => exact ⟨k + 1, _, by omega, by go_num, HI', HSt2, b9⟩
        case measure => simp [intOf]; omega
    · have HI' : Hid (IsBits bs l) := Lib.hid (binv_all (by have h := HI.out; rwa [show k = n by omega] at h) HR.out.1 HM.out)
      have HLen : Hid (bs.length = m ∧ ∀ x ∈ bs, x < 256) := Lib.hid ⟨HI.out.1, HI.out.2.1⟩
      clear HI
      go_wp2_with fail
      go_ret
      exact ⟨bs, HI'.out, _, _, rfl, HLen.out.1, HLen.out.2, HO.out, hb⟩
end Go.Proofs.YtnilejdokgagbaaDoor

/- What Unbits returns. -/
namespace Go.Proofs.YtnilejdokgagbaaDoor
open Go.RowKit Go.BigFrame
set_option linter.unusedVariables false
set_option linter.unusedSimpArgs false


def OutU (r : Option (List Bool)) (w : World) (e : Ending) (w' : World) : Prop :=
  ∃ (A : Option Addr) (c : Nat), e = .returned (.tuple #[.slice A (r.getD []).length c, .bool r.isSome]) ∧ w'.ownsRow w.heap.size 4 1 (.slice A (r.getD []).length c) (r.getD []).length (bcells (r.getD [])) ∧ Below w.heap.size w w'
theorem outU_no (w w' : World) (g : Below w.heap.size w w') : OutU none w (.returned (.tuple #[.slice none 0 0, .bool false])) w' :=
  ⟨none, 0, rfl, World.ownsRow_nil _ _ _ _, g⟩
theorem unbR_no {b : List Nat} {n : Int} (h : ¬ (0 ≤ n ∧ n ≤ 8 * b.length ∧ (b.length : Int) ≤ (n + 7) / 8 ∧ (∀ i, n.toNat ≤ i → i < 8 * b.length → bitY b i = false))) : unbR b n = none := by unfold unbR; rw [if_neg h]
theorem unbR_yes {b : List Nat} {n : Nat} (h1 : n ≤ 8 * b.length) (h2 : b.length ≤ (n + 7) / 8) (h : ∀ i, n ≤ i → i < 8 * b.length → bitY b i = false) : unbR b n = some ((List.range n).map (bitY b)) := by
  unfold unbR; rw [if_pos ⟨by omega, by omega, by omega, by rw [Int.toNat_natCast]; exact h⟩, Int.toNat_natCast]
theorem bcells_set (l : List Bool) (k : Nat) (y : Bool) : (bcells l).set k (.bool y) = bcells (l.set k y) := by
  unfold bcells; rw [List.map_set]
theorem bcells_rep (m : Nat) : (madeCells #[Value.bool false] m).toList = bcells (List.replicate m false) := by rw [toList_madeCells_one]; simp [bcells]
theorem own_RL {w : World} {base n c : Nat} {A : Option Addr} {l : List Bool} (h : w.ownsRow base 4 1 (.slice A n c) n (bcells l)) : RL w w.heap.size A n l := ⟨by have := h.1; rw [bcells_len] at this; omega, Reads.of_own h⟩
theorem own_RB {w : World} {base n c : Nat} {A : Option Addr} {l : List Nat} (h : w.ownsRow base 5 1 (.slice A n c) n (ycells l)) (hl : ∀ x ∈ l, x < 256) : RB w w.heap.size A n l := ⟨by have := h.1; rw [ycells_len] at this; omega, Reads.of_own h, hl⟩
/-- The first k bits are laid. -/
def UInv (b : List Nat) (k n : Nat) (bs : List Bool) : Prop := bs.length = n ∧ ∀ j, j < k → bs[j]? = some (bitY b j)
theorem uinv_set {b : List Nat} {k n : Nat} {bs : List Bool} (h : UInv b k n bs) (hk : k < n) : UInv b (k + 1) n (bs.set k (bitY b k)) := by
  refine ⟨by rw [List.length_set]; exact h.1, fun j hj => ?_⟩
  rw [List.getElem?_set]
  by_cases e : k = j
  · subst e; rw [if_pos rfl, if_pos (by rw [h.1]; exact hk)]
  · rw [if_neg e]; exact h.2 j (by omega)
theorem uinv_all {b : List Nat} {n : Nat} {bs : List Bool} (h : UInv b n n bs) : bs = (List.range n).map (bitY b) := by
  apply List.ext_getElem?
  intro j
  by_cases hj : j < n
  · rw [h.2 j hj, List.getElem?_map, List.getElem?_range hj]; rfl
  · rw [List.getElem?_eq_none (by rw [h.1]; omega), List.getElem?_eq_none (by simp; omega)]

set_option maxHeartbeats 2000000 in
theorem unbits_any (l : List Nat) (m : Nat) (A : Option Addr) (c : Nat) (n : Int) (w : World) (hR : RB w w.heap.size A m l) (hm : m ≤ 10000) :
    Calls Tryd.prog 38 #[.slice A m c, .int .i64 n] w (OutU (unbR l n) w) := by
  obtain ⟨i0, hi0, hz0, hz1, hz2⟩ := info_parts info4
  have hl := hR.1
  by_cases h1 : n < 0
  · rw [unbR_no (by omega)]
    clear hR hl
    go_enter Tryd.func38, Tryd.ntmps38
    go_wp2_with fail
    go_ret2
    exact outU_no _ _ (Below.refl _ _)
  by_cases h2 : 8 * (m : Int) < n
  · rw [unbR_no (by omega)]
    clear hR hl
    go_enter Tryd.func38, Tryd.ntmps38
    go_wp2_with fail
    go_ret2
    exact outU_no _ _ (Below.refl _ _)
  obtain ⟨k, rfl⟩ := Int.eq_ofNat_of_zero_le (show 0 ≤ n by omega)
  have HBF := Lib.hid (bytesFor_any k (by omega))
  obtain ⟨z, hz⟩ : ∃ z, (k + 7) / 8 = z := ⟨_, rfl⟩
  rw [hz] at HBF
  have hk8 : k ≤ 8 * m := by omega
  by_cases h3 : z < m
  · rw [unbR_no (by omega)]
    have h3' : (z : Int) < (m : Int) := by omega
    clear hR hl
    go_enter Tryd.func38, Tryd.ntmps38
    go_wp2_with fail
    refine (HBF.out _).mono ?_
    rintro e w1 ⟨rfl, rfl⟩
    go_wp2_with fail
    go_ret2
    exact outU_no _ _ (Below.refl _ _)
  have h3' : ¬ ((z : Int) < (m : Int)) := by omega
  have HR := Lib.hid hR
  have HMZ : Hid (l.length ≤ (k + 7) / 8) := Lib.hid (by omega)
  have HL := Lib.hid hl
  clear hR hl hz
  go_enter Tryd.func38, Tryd.ntmps38
  go_wp2_with fail
  refine (HBF.out _).mono ?_
  rintro e w1 ⟨rfl, rfl⟩
  go_wp2_with fail
  go_loopw [6] (fun i wr => ∃ (j : Nat), k ≤ j ∧ j ≤ 8 * m ∧ i = .int .i64 j ∧ wr = w1 ∧ Hid (∀ q, k ≤ q → q < j → bitY l q = false)) (fun i _ => 8 * m - (intOf i).toNat)
  case atStart => exact ⟨k, Nat.le_refl _, by omega, rfl, rfl, Lib.hid (fun q h1 h2 => by omega)⟩
  case round =>
    obtain ⟨j, hj0, hj1, rfl, rfl, HG⟩ := hrel
    by_cases hlt : j < 8 * m
    · have hltI : (j : Int) < 8 * (m : Int) := by omega
      have HB := Lib.hid (bitAt_any l m j A c _ HR.out (by omega) (by omega))
      cases hx : bitY l j
      · rw [hx] at HB
        have HG' : Hid (∀ q, k ≤ q → q < j + 1 → bitY l q = false) := Lib.hid (fun q h1 h2 => by
          by_cases e : q = j
          · rw [e]; exact hx
          · exact HG.out q h1 (by omega))
        clear HG hx
        go_wp2_with fail
        refine HB.out.mono ?_
        rintro e w2 ⟨rfl, rfl⟩
        go_wp2_with fail
        go_roundw
        case rel => exact ⟨j + 1, by omega, by omega, by go_num, trivial, HG'⟩
        case measure => simp [intOf]; omega
      · rw [hx] at HB
        have HNo : Hid (unbR l k = none) := Lib.hid (unbR_no (fun h => by
          have := h.2.2.2 j (by rw [Int.toNat_natCast]; exact hj0) (by rw [HL.out]; exact hlt)
          rw [hx] at this; cases this))
        clear HG hx
        go_wp2_with fail
        refine HB.out.mono ?_
        rintro e w2 ⟨rfl, rfl⟩
        go_wp2_with fail
        go_ret2
        rw [HNo.out]
        exact outU_no _ _ (Below.refl _ _)
    · have hltI : ¬ ((j : Int) < 8 * (m : Int)) := by omega
      have HYes : Hid (unbR l k = some ((List.range k).map (bitY l))) := Lib.hid (unbR_yes (by rw [HL.out]; omega) HMZ.out (fun q h1 h2 => HG.out q h1 (by rw [HL.out] at h2; omega)))
      clear HG
      rename World => w2
      go_wp2_with (at_make; refine wpList_make_full _ rfl _ _ 24 rfl w2.heap.size 4 i0 _ 1 Tryd.underlying24 hi0 hz0 hz1 .i64 .i64 k k k rfl rfl rfl rfl ?k1 ?k2 (Nat.le_refl _) ?_)
      case k1 => first | omega | (rw [hz2]; omega)
      case k2 => unfold maxLen; omega
      first | (intro w3 hown3 hgrow3) | (rename_i w3 hown3 hgrow3)
      have HW : Hid (w3.ownsRow w2.heap.size 4 1 (.slice (some ⟨w2.heap.size, 0, none⟩) k k) k (bcells (List.replicate k false))) := Lib.hid (by
        rw [← bcells_rep]; exact hown3)
      have b3 : Below w2.heap.size w2 w3 := (Below.refl _ _).grown hgrow3 (Nat.le_refl _) (fun k hk => by cases hk)
      clear hown3 hgrow3
      go_wp2_with fail
      go_loopw [40] (fun i wr => ∃ (j : Nat) (bs : List Bool), j ≤ k ∧ i = .int .i64 j ∧ Hid (UInv l j k bs) ∧ Hid (wr.ownsRow w2.heap.size 4 1 (.slice (some ⟨w2.heap.size, 0, none⟩) k k) k (bcells bs)) ∧ Below w2.heap.size w2 wr) (fun i _ => k - (intOf i).toNat)
      case atStart => exact ⟨0, _, Nat.zero_le _, rfl, Lib.hid ⟨by simp, fun j hj => by omega⟩, HW, b3⟩
      case round =>
        clear HW b3
        obtain ⟨q, bs, hq, rfl, HI, HO, hb⟩ := hrel
        by_cases hlt2 : q < k
        · have HB := Lib.hid (bitAt_any l m q A c wr (HR.out.on hb) (by omega) (by omega))
          have ql : q < bs.length := by rw [HI.out.1]; exact hlt2
          have HI' := Lib.hid (uinv_set HI.out hlt2)
          have q0 : wr.cell? ⟨w2.heap.size, q, none⟩ = some (.bool bs[q]) := (HO.out.cellAt q (by omega)).trans (by unfold bcells; rw [List.getElem?_map, List.getElem?_eq_getElem ql]; rfl)
          have f0 := HO.out.frozenAt q
          have HSt : Hid ((wr.setCell ⟨w2.heap.size, q, none⟩ (.bool (bitY l q))).ownsRow w2.heap.size 4 1 (.slice (some ⟨w2.heap.size, 0, none⟩) k k) k (bcells (bs.set q (bitY l q)))) := Lib.hid (by
            have h := (HO.out.stored q (.bool (bitY l q))).1
            rwa [bcells_set] at h)
          have b9 : Below w2.heap.size w2 (wr.setCell ⟨w2.heap.size, q, none⟩ (.bool (bitY l q))) := hb.setCell (p := ⟨w2.heap.size, q, none⟩) (Nat.le_refl _) _
          generalize bitY l q = x at *
          generalize bs[q] = y at *
          clear HI HO hb ql
          go_wp2_with fail
          refine HB.out.mono ?_
          rintro e w4 ⟨rfl, rfl⟩
          go_wp2_with fail
          go_roundw
          case rel => exact ⟨q + 1, _, by omega, by go_num, HI', HSt, b9⟩
          case measure => simp [intOf]; omega
        · have HE : Hid (bs = (List.range k).map (bitY l)) := Lib.hid (uinv_all (by have h := HI.out; rwa [show q = k by omega] at h))
          have HLn : Hid (bs.length = k) := Lib.hid HI.out.1
          clear HI
          go_wp2_with fail
          go_ret2
          rw [HYes.out, ← HE.out]
          have hle := HLn.out
          refine ⟨some ⟨w2.heap.size, 0, none⟩, k, ?_, ?_, hb⟩
          · rw [show ((some bs).getD []).length = k from hle]; rfl
          · rw [show ((some bs).getD []).length = k from hle]; exact HO.out
end Go.Proofs.YtnilejdokgagbaaDoor

/- What the document's Unbits returns. -/
namespace Go.Proofs.YtnilejdokgagbaaDoor
open Go.RowKit Go.BigFrame
set_option linter.unusedVariables false
set_option maxRecDepth 4000
set_option linter.unusedSimpArgs false


theorem range_snoc (b : List Nat) (o : Nat) : bcells ((List.range (o + 1)).map (bitY b)) = bcells ((List.range o).map (bitY b)) ++ [.bool (bitY b o)] := by
  rw [List.range_succ, List.map_append, bcells_app]; rfl
set_option maxHeartbeats 2000000 in
theorem refUnbits_any (l : List Nat) (m : Nat) (A : Option Addr) (c : Nat) (n : Int) (w : World) (hR : RB w w.heap.size A m l) (hm : m ≤ 10000) :
    Calls Tryd.prog 42 #[.slice A m c, .int .i64 n] w (OutU (unbR l n) w) := by
  obtain ⟨i0, hi0, hz0, hz1, hz2⟩ := info_parts info4
  have hl := hR.1
  by_cases h1 : n < 0
  · rw [unbR_no (by omega)]
    clear hR hl
    go_enter Tryd.func42, Tryd.ntmps42
    go_wp2_with fail
    go_ret2
    exact outU_no _ _ (Below.refl _ _)
  by_cases h2 : 8 * (m : Int) < n
  · rw [unbR_no (by omega)]
    clear hR hl
    go_enter Tryd.func42, Tryd.ntmps42
    go_wp2_with fail
    go_ret2
    exact outU_no _ _ (Below.refl _ _)
  obtain ⟨k, rfl⟩ := Int.eq_ofNat_of_zero_le (show 0 ≤ n by omega)
  have hk8 : k ≤ 8 * m := by omega
  by_cases h3 : (k + 7) / 8 < m
  · rw [unbR_no (by omega)]
    have h3' : (((k : Int) + 7) / 8 != (m : Int)) = true := by rw [bne_iff_ne]; omega
    clear hR hl
    go_enter Tryd.func42, Tryd.ntmps42
    go_wp2_with fail
    go_ret2
    exact outU_no _ _ (Below.refl _ _)
  have h3' : (((k : Int) + 7) / 8 != (m : Int)) = false := by rw [bne_eq_false_iff_eq]; omega
  have HR := Lib.hid hR
  have HMZ : Hid (l.length ≤ (k + 7) / 8) := Lib.hid (by omega)
  have HL := Lib.hid hl
  clear hR hl
  go_enter Tryd.func42, Tryd.ntmps42
  go_wp2_with fail
  go_loopw [6, 7] (fun vo i wr => ∃ (j o : Nat) (A2 : Option Addr) (c2 : Nat), j ≤ 8 * m ∧ Hid (o = min j k) ∧ o ≤ 100000 ∧ i = .int .i64 j ∧ vo = .slice A2 o c2 ∧ Hid (wr.ownsRow w.heap.size 4 1 (.slice A2 o c2) o (bcells ((List.range o).map (bitY l)))) ∧ Below w.heap.size w wr ∧ Hid (∀ q, k ≤ q → q < j → bitY l q = false)) (fun _ i _ => 8 * m - (intOf i).toNat)
  case atStart => exact ⟨0, 0, none, 0, by omega, Lib.hid (by omega), by omega, rfl, rfl, Lib.hid (World.ownsRow_nil _ _ _ _), Below.refl _ _, Lib.hid (fun q h1 h2 => by omega)⟩
  case round =>
    obtain ⟨j, o, A2, c2, hj1, HO, ho, rfl, rfl, HW, hb, HG⟩ := hrel
    have hsz := hb.size
    by_cases hlt : j < 8 * m
    · have hltI : (j : Int) < 8 * (m : Int) := by omega
      have kl : j / 8 < l.length := by rw [HL.out]; omega
      obtain ⟨b, off, rfl, _, p0, px⟩ := (HR.out.on hb).at kl
      have HBT := Lib.hid ((bit_test l[j / 8] (j % 8) px).trans (bitY_eq l j kl).symm)
      obtain ⟨q, hq⟩ : ∃ q, j / 8 = q := ⟨_, rfl⟩
      obtain ⟨r, hr⟩ : ∃ r, j % 8 = r := ⟨_, rfl⟩
      have hr8 : r < 8 := by omega
      have i1 : (j : Int) / 8 = (q : Int) := by omega
      have i2 : (j : Int) % 8 = (r : Int) := by omega
      have i3 : q < m := by omega
      rw [hr] at HBT
      generalize l[j / 8] = x at *
      rw [hq] at p0
      have hbt := HBT.out
      clear HBT kl hq hr
      by_cases hjk : j < k
      · have hjkI : (j : Int) < (k : Int) := by omega
        have HW' : Hid (wr.ownsRow w.heap.size 4 1 (.slice A2 o c2) o (bcells ((List.range o).map (bitY l)))) := HW
        have HOj : Hid (o = j) := Lib.hid (by have := HO.out; omega)
        have HG' : Hid (∀ q, k ≤ q → q < j + 1 → bitY l q = false) := Lib.hid (fun q h1 h2 => by omega)
        have HNil := Lib.hid (own_nil HW.out)
        have HOne := Lib.hid (bcells_one [bitY l j])
        clear HO HG HW
        generalize hbj : bitY l j = bj at *
        have hReads : Hid (Reads (wr.alloc (.cells #[.bool bj] 4)) (wr.heap.size + 1) 1 (some ⟨wr.heap.size, 0, none⟩) 1 [.bool bj]) := Lib.hid ⟨rfl, fun _ => ⟨_, _, rfl, by omega, fun i u hu => by
          match i, hu with
          | 0, hu => injection hu with hu; subst hu; simp⟩⟩
        have HOa := Lib.hid (HW'.out.alloc (.cells #[.bool bj] 4))
        have hba := hb.alloc hsz (.cells #[.bool bj] 4)
        go_wp2_with (at_builtin; refine wpList_append_src rfl _ _ 24 rfl w.heap.size 4 i0 _ 1 1 Tryd.underlying24 hi0 hz0 hz1 hz2 rfl (by decide) _ _ _ rfl HOa.out (some ⟨wr.heap.size, 0, none⟩) 1 1 (wr.heap.size + 1) [.bool bj] rfl (fun h => by cases h) hReads.out HOne.out ?n3 ?n4 ?n5 ?_)
        case n3 => unfold maxLen; omega
        case n4 => omega
        case n5 => simp; omega
        intro A3 c3 w3 hown3 hn3 hgrow3
        have b3 : Below w.heap.size w w3 := below_grown hba (by simp; omega) HOa.out hgrow3
        have HO3 : Hid (w3.ownsRow w.heap.size 4 1 (.slice A3 (o + 1) c3) (o + 1) (bcells ((List.range (o + 1)).map (bitY l)))) := Lib.hid (by
          rw [range_snoc, HOj.out, hbj, ← HOj.out]; exact hown3)
        clear hown3 hgrow3 HOa hReads HW' hba hb
        go_wp2_with fail
        go_roundw
        case rel => exact ⟨j + 1, o + 1, A3, c3, by omega, Lib.hid (by have := HOj.out; omega), by have := HOj.out; omega, by go_num, rfl, HO3, b3, HG'⟩
        case measure => simp [intOf]; omega
      · have hjkI : ¬ ((j : Int) < (k : Int)) := by omega
        have HO' : Hid (o = min (j + 1) k) := Lib.hid (by have := HO.out; omega)
        cases hx : bitY l j
        · have HG' : Hid (∀ q, k ≤ q → q < j + 1 → bitY l q = false) := Lib.hid (fun q h1 h2 => by
            by_cases e : q = j
            · rw [e]; exact hx
            · exact HG.out q h1 (by omega))
          rw [hx] at hbt
          clear HG hx HO
          go_wp2_with fail
          go_roundw
          case rel => exact ⟨j + 1, o, A2, c2, by omega, HO', ho, by go_num, rfl, HW, hb, HG'⟩
          case measure => simp [intOf]; omega
        · have HNo : Hid (unbR l k = none) := Lib.hid (unbR_no (fun h => by
            have := h.2.2.2 j (by rw [Int.toNat_natCast]; omega) (by rw [HL.out]; exact hlt)
            rw [hx] at this; cases this))
          rw [hx] at hbt
          clear HG hx HO
          go_wp2_with fail
          go_ret2
          rw [HNo.out]
          exact outU_no _ _ hb
    · have hltI : ¬ ((j : Int) < 8 * (m : Int)) := by omega
      have HYes : Hid (unbR l k = some ((List.range k).map (bitY l))) := Lib.hid (unbR_yes (by rw [HL.out]; omega) HMZ.out (fun q h1 h2 => HG.out q h1 (by rw [HL.out] at h2; omega)))
      have HOk : Hid (o = k) := Lib.hid (by have := HO.out; omega)
      have HS := Lib.hid (own_shp HW.out)
      clear HG HO
      go_wp2_with fail
      go_ret2
      rw [HYes.out]
      have hle : ((some ((List.range k).map (bitY l))).getD []).length = k := by simp
      obtain rfl := HOk.out
      refine ⟨A2, c2, ?_, ?_, hb⟩
      · rw [hle]; rfl
      · rw [hle]; exact HW.out
end Go.Proofs.YtnilejdokgagbaaDoor

/- What the document's Bits returns. -/
namespace Go.Proofs.YtnilejdokgagbaaDoor
open Go.RowKit Go.BigFrame
set_option linter.unusedVariables false
set_option linter.unusedSimpArgs false

set_option maxHeartbeats 1000000 in
theorem refBits_any (l : List Bool) (n : Nat) (A : Option Addr) (c : Nat) (w : World) (hR : RL w w.heap.size A n l) (hn : n ≤ 10000) :
    Calls Tryd.prog 32 #[.slice A n c] w fun e w' => ∃ b, IsBits b l ∧ OutY b ((n + 7) / 8) w e w' := by
  obtain ⟨i0, hi0, hz0, hz1, hz2⟩ := info_parts info5
  have HR := Lib.hid hR
  obtain ⟨m, hm⟩ : ∃ m, (n + 7) / 8 = m := ⟨_, rfl⟩
  have hmn : n ≤ 8 * m := by omega
  have hmm : m ≤ 2000 := by omega
  rw [hm]
  have hmI : ((n : Int) + 7) / 8 = (m : Int) := by omega
  have HM := Lib.hid hm
  clear hR hm
  go_enter Tryd.func32, Tryd.ntmps32
  go_wp2_with (at_make; refine wpList_make_full _ rfl _ _ 27 rfl w.heap.size 5 i0 _ 1 Tryd.underlying27 hi0 hz0 hz1 .i64 .i64 (((n : Int) + 7) / 8) (((n : Int) + 7) / 8) m rfl rfl hmI hmI ?k1 ?k2 (Nat.le_refl _) ?_)
  case k1 => rw [hz2]; omega
  case k2 => unfold maxLen; omega
  first | (intro w3 hown3 hgrow3) | (rename_i w3 hown3 hgrow3)
  have HW : Hid (w3.ownsRow w.heap.size 5 1 (.slice (some ⟨w.heap.size, 0, none⟩) m m) m (ycells (List.replicate m 0))) := Lib.hid (by
    rw [← ycells_rep]; exact hown3)
  have b3 : Below w.heap.size w w3 := (Below.refl _ _).grown hgrow3 (Nat.le_refl _) (fun k hk => by cases hk)
  clear hown3 hgrow3
  go_wp2_with fail
  go_loopw [4] (fun i wr => ∃ (k : Nat) (bs : List Nat), k ≤ n ∧ i = .int .i64 k ∧ Hid (BInv l k m bs) ∧ Hid (wr.ownsRow w.heap.size 5 1 (.slice (some ⟨w.heap.size, 0, none⟩) m m) m (ycells bs)) ∧ Below w.heap.size w wr) (fun i _ => n - (intOf i).toNat)
  case atStart => exact ⟨0, _, Nat.zero_le _, rfl, Lib.hid (binv_0 l m), HW, b3⟩
  case round =>
    obtain ⟨k, bs, hk, rfl, HI, HO, hb⟩ := hrel
    clear HW b3
    by_cases hlt : k < n
    · have kl : k < l.length := by rw [HR.out.1]; exact hlt
      have kb : k / 8 < bs.length := by rw [HI.out.1]; omega
      obtain ⟨b, o, rfl, hbb, p0⟩ := RL.at ⟨HR.out.1, HR.out.2.below hb⟩ kl
      have km : k / 8 < m := by omega
      cases hx : l[k]
      · rw [hx] at p0
        have HI' := Lib.hid (binv_skip HI.out kl hx)
        clear HI hx
        go_wp2_with fail
        go_roundw
        case rel => exact ⟨k + 1, bs, by omega, by go_num, HI', HO, hb⟩
        case measure => simp [intOf]; omega
      · rw [hx] at p0
        have HI' := Lib.hid (binv_set HI.out kl hx kb)
        have hb0 := HI.out.2.1 _ (List.getElem_mem kb)
        have q0 := own_byte HO.out kb
        have f0 := HO.out.frozenAt (k / 8)
        have HSt : Hid (∀ y : Nat, (wr.setCell ⟨w.heap.size, k / 8, none⟩ (.int .u8 (y : Int))).ownsRow w.heap.size 5 1 (.slice (some ⟨w.heap.size, 0, none⟩) m m) m (ycells (bs.set (k / 8) y))) := Lib.hid (fun y => by
          have h := (HO.out.stored (k / 8) (.int .u8 (y : Int))).1
          rwa [ycells_set] at h)
        clear HI hx
        generalize bs[k / 8] = x at *
        obtain ⟨q, hq⟩ : ∃ q, k / 8 = q := ⟨_, rfl⟩
        obtain ⟨r, hr⟩ : ∃ r, k % 8 = r := ⟨_, rfl⟩
        have hr8 : r < 8 := by omega
        rw [hq] at km q0 f0 HSt HI'
        rw [hr] at HI'
        have i1 : (k : Int) / 8 = (q : Int) := by omega
        have i2 : (k : Int) % 8 = (r : Int) := by omega
        have i3 : Int.tdiv (k : Int) 8 = (q : Int) := by rw [Int.tdiv_eq_ediv_of_nonneg (by omega)]; exact i1
        have i4 : Int.tmod (k : Int) 8 = (r : Int) := by rw [Int.tmod_eq_emod_of_nonneg (by omega)]; exact i2
        have i5 : (0 : Int) ≤ (q : Int) := by omega
        have i6 : (q : Int) < (m : Int) := by omega
        have i7 : (0 : Int) ≤ (r : Int) := by omega
        have i8 : (r : Int) < 8 := by omega
        have i9 : min r 8 = r := by omega
        have iw : IntKind.i64.wrap (q : Int) = (q : Int) := by rw [IntKind.wrap_i64]; omega
        have hor := or_u8 x r hb0 hr8
        have HSt2 : Hid ((wr.setCell ⟨w.heap.size, q, none⟩ (.int .u8 (bits .or .u8 (x : Int) (2 ^ r % 256)))).ownsRow w.heap.size 5 1 (.slice (some ⟨w.heap.size, 0, none⟩) m m) m (ycells (bs.set q (x ||| 2 ^ r)))) := Lib.hid (by
          rw [hor]; exact HSt.out (x ||| 2 ^ r))
        have b9 : Below w.heap.size w (wr.setCell ⟨w.heap.size, q, none⟩ (.int .u8 (bits .or .u8 (x : Int) (2 ^ r % 256)))) := hb.setCell (p := ⟨w.heap.size, q, none⟩) (Nat.le_refl _) _
        clear hor HSt hb0 kb hq hr
        go_wp2_with fail
        go_roundw
        case rel => exact ⟨k + 1, _, by omega, by go_num, HI', HSt2, b9⟩
        case measure => simp [intOf]; omega
    · have HI' : Hid (IsBits bs l) := Lib.hid (binv_all (by have h := HI.out; rwa [show k = n by omega] at h) HR.out.1 HM.out)
      have HLen : Hid (bs.length = m ∧ ∀ x ∈ bs, x < 256) := Lib.hid ⟨HI.out.1, HI.out.2.1⟩
      clear HI
      go_wp2_with fail
      go_ret
      exact ⟨bs, HI'.out, _, _, rfl, HLen.out.1, HLen.out.2, HO.out, hb⟩
end Go.Proofs.YtnilejdokgagbaaDoor

/- What the small helpers of the statements return: Bools, Bytes. -/
namespace Go.Proofs.YtnilejdokgagbaaDoor
open Go.RowKit Go.BigFrame
set_option linter.unusedVariables false
set_option linter.unusedSimpArgs false


noncomputable def eqX {α : Type} (a b : List α) : Bool := @decide (a = b) (Classical.propDecidable _)
theorem eqX_yes {α : Type} {a b : List α} (h : a = b) : eqX a b = true := by unfold eqX; exact @decide_eq_true _ (Classical.propDecidable _) h
theorem eqX_no {α : Type} {a b : List α} (h : ¬ a = b) : eqX a b = false := by unfold eqX; exact @decide_eq_false _ (Classical.propDecidable _) h
set_option maxHeartbeats 1000000 in
theorem keepBools_same (n : Nat) (P Q : List Bool) (A B : Option Addr) (c d : Nat) (w : World) (hP : RL w w.heap.size A n P) (hQ : RL w w.heap.size B n Q) (hn : n ≤ 1048576) :
    Calls Tryd.prog 45 #[.slice A n c, .slice B n d] w fun e w' => e = .returned (.bool (eqX P Q)) ∧ Below w.heap.size w w' := by
  have HP := Lib.hid hP
  have HQ := Lib.hid hQ
  have LP := Lib.hid hP.1
  have LQ := Lib.hid hQ.1
  have hnn : ((n : Int) != (n : Int)) = false := by simp
  clear hP hQ
  go_enter Tryd.func45, Tryd.ntmps45
  go_wp2_with fail
  go_loopw [5] (fun i wr => ∃ (k q : Nat), k ≤ n ∧ i = .int .i64 k ∧ wr = w.drewN q ∧ Hid (P.take k = Q.take k)) (fun i _ => n - (intOf i).toNat)
  case atStart => exact ⟨0, 0, Nat.zero_le _, rfl, rfl, Lib.hid rfl⟩
  case round =>
    obtain ⟨k, q, hk, rfl, rfl, HE⟩ := hrel
    by_cases hlt : k < n
    · have kP : k < P.length := by rw [LP.out]; exact hlt
      have kQ : k < Q.length := by rw [LQ.out]; exact hlt
      obtain ⟨b, o, rfl, _, p0⟩ := HP.out.at kP
      obtain ⟨b', o', rfl, _, q0⟩ := HQ.out.at kQ
      have HtP : Hid (P.take (k + 1) = P.take k ++ [P[k]]) := Lib.hid (List.take_succ_eq_append_getElem kP)
      have HtQ : Hid (Q.take (k + 1) = Q.take k ++ [Q[k]]) := Lib.hid (List.take_succ_eq_append_getElem kQ)
      have HK : Hid (P = Q → P[k] = Q[k]) := Lib.hid (fun h => by subst h; rfl)
      have HN : Hid (P[k] = Q[k] → P.take (k + 1) = Q.take (k + 1)) := Lib.hid (fun h => by rw [HtP.out, HtQ.out, HE.out, h])
      generalize P[k] = x at *
      generalize Q[k] = y at *
      clear HtP HtQ kP kQ
      by_cases hxy : x = y
      · subst hxy
        have hne : (x != x) = false := by simp
        have hne2 : (!x == x) = false := by simp
        have HE' := Lib.hid (HN.out rfl)
        clear HN HK HE
        go_wp2_with fail
        go_quiet (fail)
        go_wp2_with fail
        go_roundw
        case rel => exact ⟨k + 1, _, by omega, by go_num, rfl, HE'⟩
        case measure => simp [intOf]; omega
      · have hne : (x != y) = true := by rw [bne_iff_ne]; exact hxy
        have hne2 : (!x == y) = true := by cases x <;> cases y <;> simp_all
        have HD : Hid (eqX P Q = false) := Lib.hid (eqX_no (fun h => hxy (HK.out h)))
        clear HN HK HE hxy
        go_wp2_with fail
        go_quiet (fail)
        go_wp2_with fail
        go_ret
        exact ⟨ret_bool HD.out.symm, below_drewN (below_drewN (Below.refl _ _) _) _⟩
    · have HD : Hid (eqX P Q = true) := Lib.hid (eqX_yes (by
        have h := HE.out
        rw [List.take_of_length_le (by rw [LP.out]; omega), List.take_of_length_le (by rw [LQ.out]; omega)] at h
        exact h))
      go_wp2_with fail
      go_ret
      exact ⟨ret_bool HD.out.symm, below_drewN (Below.refl _ _) _⟩
theorem keepBools_other (n m : Nat) (A B : Option Addr) (c d : Nat) (w : World) (h : n ≠ m) :
    Calls Tryd.prog 45 #[.slice A n c, .slice B m d] w fun e w' => e = .returned (.bool false) ∧ Below w.heap.size w w' := by
  have h' : ((n : Int) != (m : Int)) = true := by rw [bne_iff_ne]; omega
  clear h
  go_enter Tryd.func45, Tryd.ntmps45
  go_wp2_with fail
  go_ret
  exact ⟨rfl, Below.refl _ _⟩
theorem keepBools_n (P Q : List Bool) (n m : Nat) (A B : Option Addr) (c d : Nat) (w : World) (hP : RL w w.heap.size A n P) (hQ : RL w w.heap.size B m Q) (hn : n ≤ 1048576) :
    Calls Tryd.prog 45 #[.slice A n c, .slice B m d] w fun e w' => e = .returned (.bool (eqX P Q)) ∧ Below w.heap.size w w' := by
  by_cases h : n = m
  · subst h; exact keepBools_same n P Q A B c d w hP hQ hn
  · rw [eqX_no (fun e => h (by rw [← hP.1, ← hQ.1, e]))]; exact keepBools_other n m A B c d w h


/-- The string of bytes. -/
def strY (l : List Nat) : ByteArray := strOfNums (l.map Int.ofNat)
theorem strY_data (l : List Nat) : (strY l).data.toList = l.map UInt8.ofNat := by
  unfold strY; rw [strOfNums_data, List.map_map]; rfl
theorem map_ofNat_inj {P Q : List Nat} (hP : ∀ x ∈ P, x < 256) (hQ : ∀ x ∈ Q, x < 256) (h : P.map UInt8.ofNat = Q.map UInt8.ofNat) : P = Q := by
  induction P generalizing Q with
  | nil => cases Q with
    | nil => rfl
    | cons y Q => simp at h
  | cons x P ih => cases Q with
    | nil => simp at h
    | cons y Q =>
      simp only [List.map_cons, List.cons.injEq] at h
      have hx := hP x (by simp)
      have hy := hQ y (by simp)
      have e : x = y := by
        have := congrArg UInt8.toNat h.1
        rw [UInt8.toNat_ofNat', UInt8.toNat_ofNat'] at this
        omega
      rw [e, ih (fun z hz => hP z (by simp [hz])) (fun z hz => hQ z (by simp [hz])) h.2]
theorem strY_inj {P Q : List Nat} (hP : ∀ x ∈ P, x < 256) (hQ : ∀ x ∈ Q, x < 256) (h : strY P = strY Q) : P = Q :=
  map_ofNat_inj hP hQ (by rw [← strY_data, ← strY_data, h])
theorem conv_y {w : World} {B n c : Nat} {A : Option Addr} {l : List Nat} (h : RB w B A n l) : (convert 27 9 (.slice A n c)).run Tryd.prog w = .ok (.string (strY l)) w := by
  rcases Nat.eq_zero_or_pos n with h0 | h0
  · subst h0
    obtain rfl : l = [] := List.eq_nil_of_length_eq_zero h.1
    cases A with
    | none => exact run_convert_bytes_nil w 27 5 Tryd.underlying27 Tryd.underlying5 0 c 9 Tryd.underlying9
    | some a =>
      rw [run_convert_bytes_string w 27 9 5 _ 0 c Tryd.underlying27 Tryd.underlying5 Tryd.underlying9, run_bytesToString w a 0 c [] (by simpa using run_loadCells_list (P := Tryd.prog) w a [] (fun j v hj => by simp at hj))]
      rfl
  · obtain ⟨b, o, rfl, hb, hc⟩ := h.2.1.2 h0
    refine run_convert_bytes_arg w 27 5 Tryd.underlying27 Tryd.underlying5 b o n c (l.map Int.ofNat) (by rw [List.length_map]; exact h.1) (fun i hi => ?_) 9 Tryd.underlying9
    have hl : i < l.length := by rw [h.1]; exact hi
    refine hc i _ ?_
    unfold ycells
    rw [List.getElem?_map, List.getElem?_eq_getElem hl]
    simp [List.getD, hl]
theorem keepBytes_n (P Q : List Nat) (n m : Nat) (A B : Option Addr) (c d : Nat) (w : World) (hP : RB w w.heap.size A n P) (hQ : RB w w.heap.size B m Q) :
    Calls Tryd.prog 12 #[.slice A n c, .slice B m d] w fun e w' => e = .returned (.bool (eqX P Q)) ∧ w' = w := by
  have c1 := conv_y (c := c) hP
  have c2 := conv_y (c := d) hQ
  have H : Hid (((strY P).toList == (strY Q).toList) = eqX P Q) := Lib.hid (by
    by_cases h : P = Q
    · rw [eqX_yes h, h]; simp
    · rw [eqX_no h, beq_eq_false_iff_ne, ByteArray.toList_eq, ByteArray.toList_eq, strY_data, strY_data]
      exact fun e => h (map_ofNat_inj hP.2.2 hQ.2.2 e))
  generalize strY P = s at *
  generalize strY Q = t at *
  clear hP hQ
  go_enter Tryd.func12, Tryd.ntmps12
  go_wp2_with fail
  go_ret
  exact ⟨ret_bool H.out, rfl⟩
end Go.Proofs.YtnilejdokgagbaaDoor

/- What bits.RotateLeft32, Sum and the document's Sum return. -/
namespace Go.Proofs.YtnilejdokgagbaaDoor
open Go.RowKit
set_option linter.unusedVariables false
set_option linter.unusedSimpArgs false

theorem rot_bits (x : Nat) (hx : x < 4294967296) : bits .or .u32 ((x : Int) * 32 % 4294967296) ((x : Int) / 134217728) = ((rot x : Nat) : Int) := by
  have h := u32_or_nat (x * 32 % 4294967296) (x / 134217728) (by omega) (by omega)
  rw [nat_join5 _ _ (by omega) (by omega)] at h
  rw [show ((x : Int) * 32 % 4294967296) = ((x * 32 % 4294967296 : Nat) : Int) by omega, show ((x : Int) / 134217728) = ((x / 134217728 : Nat) : Int) by omega, h]
  unfold rot
  omega
theorem rot_any (x : Nat) (hx : x < 4294967296) (w : World) : Calls Tryd.prog 70 #[.int .u32 x, .int .i64 5] w fun e w' => e = .returned (.int .u32 (rot x : Nat)) ∧ w' = w := by
  have H := Lib.hid (rot_bits x hx)
  have h5 : bits .and .u64 5 31 = 5 := by kernel_rfl
  go_enter Tryd.func70, Tryd.ntmps70
  go_wp2_with fail
  go_ret
  exact ⟨congrArg (fun z => Ending.returned (.int .u32 z)) H.out, rfl⟩

theorem xor_u32 (s x : Nat) (hs : s < 4294967296) (hx : x < 256) : bits .xor .u32 (s : Int) (x : Int) = ((s ^^^ x : Nat) : Int) := u32_xor_nat s x hs (by omega)
/-- One byte more. -/
theorem sum_step (l : List Nat) (k : Nat) (hk : k < l.length) : ((rot (sumL (l.take k) ^^^ l[k]) : Nat) + 2654435761 : Int) % 4294967296 = ((sumL (l.take (k + 1)) : Nat) : Int) := by
  rw [List.take_succ_eq_append_getElem hk, sumL_snoc]
  unfold stp
  omega
set_option maxHeartbeats 1000000 in
theorem sum_any (l : List Nat) (n : Nat) (A : Option Addr) (c : Nat) (w : World) (hR : RB w w.heap.size A n l) (hn : n ≤ 1048576) :
    Calls Tryd.prog 29 #[.slice A n c] w fun e w' => e = .returned (.int .u32 (sumL l : Nat)) ∧ w' = w := by
  have HR := Lib.hid hR
  clear hR
  go_enter Tryd.func29, Tryd.ntmps29
  go_wp2_with fail
  go_loopw [3, 8] (fun s i wr => ∃ (k : Nat), k ≤ n ∧ i = .int .i64 k ∧ s = .int .u32 (sumL (l.take k) : Nat) ∧ wr = w) (fun _ i _ => n - (intOf i).toNat)
  case atStart => exact ⟨0, Nat.zero_le _, rfl, by rw [List.take_zero]; unfold sumL; rw [sumFrom_nil]; unfold seed0; rfl, rfl⟩
  case round =>
    obtain ⟨k, hk, rfl, rfl, rfl⟩ := hrel
    by_cases hlt : k < n
    · have kl : k < l.length := by rw [HR.out.1]; exact hlt
      obtain ⟨b, o, rfl, _, p0, px⟩ := HR.out.at kl
      have hs := sumL_lt (l.take k)
      have hxor := xor_u32 _ _ hs px
      have HS := Lib.hid (sum_step l k kl)
      have hy := xor_lt hs px
      have HY := Lib.hid hs
      clear hs
      generalize l[k] = x at *
      generalize sumL (l.take k) = s at *
      generalize s ^^^ x = y at *
      go_wp2_with fail
      refine (rot_any y hy _).mono ?_
      rintro e w1 ⟨rfl, rfl⟩
      generalize rot y = r at *
      go_wp2_with fail
      go_roundw
      case rel => exact ⟨k + 1, by omega, by go_num, congrArg (Value.int .u32) HS.out, trivial⟩
      case measure => simp [intOf]; omega
    · have HD : Hid (l.take k = l) := Lib.hid (List.take_of_length_le (by rw [HR.out.1]; omega))
      go_wp2_with fail
      go_ret
      exact ⟨by rw [← congrArg sumL HD.out]; rfl, rfl⟩

set_option maxHeartbeats 1000000 in
theorem refSum_any (l : List Nat) (n : Nat) (A : Option Addr) (c : Nat) (w : World) (hR : RB w w.heap.size A n l) (hn : n ≤ 1048576) :
    Calls Tryd.prog 33 #[.slice A n c] w fun e w' => e = .returned (.int .u32 (sumL l : Nat)) ∧ w' = w := by
  have HR := Lib.hid hR
  clear hR
  go_enter Tryd.func33, Tryd.ntmps33
  go_wp2_with fail
  go_loopw [3, 4] (fun s i wr => ∃ (k : Nat), k ≤ n ∧ i = .int .i64 k ∧ s = .int .u32 (sumL (l.take k) : Nat) ∧ wr = w) (fun _ i _ => n - (intOf i).toNat)
  case atStart => exact ⟨0, Nat.zero_le _, rfl, by rw [List.take_zero]; unfold sumL; rw [sumFrom_nil]; unfold seed0; rfl, rfl⟩
  case round =>
    obtain ⟨k, hk, rfl, rfl, rfl⟩ := hrel
    by_cases hlt : k < n
    · have kl : k < l.length := by rw [HR.out.1]; exact hlt
      obtain ⟨b, o, rfl, _, p0, px⟩ := HR.out.at kl
      have hs := sumL_lt (l.take k)
      have hxor := xor_u32 _ _ hs px
      have HS := Lib.hid (sum_step l k kl)
      have hy := xor_lt hs px
      have HY := Lib.hid hs
      clear hs
      generalize l[k] = x at *
      generalize sumL (l.take k) = s at *
      generalize s ^^^ x = y at *
      have hor := rot_bits y hy
      generalize rot y = r at *
      go_wp2_with fail
      go_roundw
      case rel => exact ⟨k + 1, by omega, by go_num, congrArg (Value.int .u32) HS.out, trivial⟩
      case measure => simp [intOf]; omega
    · have HD : Hid (l.take k = l) := Lib.hid (List.take_of_length_le (by rw [HR.out.1]; omega))
      go_wp2_with fail
      go_ret
      exact ⟨by rw [← congrArg sumL HD.out]; rfl, rfl⟩
end Go.Proofs.YtnilejdokgagbaaDoor

/- Words for the laws: rows that are written out; what the calls of the example answer. -/
namespace Go.Proofs.YtnilejdokgagbaaDoor
open Go.RowKit Go.BigFrame
set_option linter.unusedVariables false
set_option maxRecDepth 4000
set_option linter.unusedSimpArgs false


theorem rb_lit (W : World) (a : Nat) (ha : a = W.heap.size) (l : List Nat) (k : Nat) (cells : Array Value) (hc : cells.toList = ycells l) (hk : l.length = k) (hk4 : k ≤ 1000) (hy : ∀ x ∈ l, x < 256) : RB (W.alloc (.cells cells 5)) (W.alloc (.cells cells 5)).heap.size (some ⟨a, 0, none⟩) k l := by
  subst ha
  have h := World.ownsRow_lit (e := 5) (size := 1) W cells k (Nat.le_refl _) (by unfold maxLen; omega) (by rw [← Array.length_toList, hc, ycells_len, hk, Nat.mul_one])
  rw [hc] at h
  exact own_RB h hy
theorem rl_lit (W : World) (a : Nat) (ha : a = W.heap.size) (l : List Bool) (k : Nat) (cells : Array Value) (hc : cells.toList = bcells l) (hk : l.length = k) (hk4 : k ≤ 1000) : RL (W.alloc (.cells cells 4)) (W.alloc (.cells cells 4)).heap.size (some ⟨a, 0, none⟩) k l := by
  subst ha
  have h := World.ownsRow_lit (e := 4) (size := 1) W cells k (Nat.le_refl _) (by unfold maxLen; omega) (by rw [← Array.length_toList, hc, bcells_len, hk, Nat.mul_one])
  rw [hc] at h
  exact own_RL h
theorem keepBytes_b (P Q : List Nat) (n m : Nat) (A B : Option Addr) (c d : Nat) (w : World) (hP : RB w w.heap.size A n P) (hQ : RB w w.heap.size B m Q) :
    Calls Tryd.prog 12 #[.slice A n c, .slice B m d] w fun e w' => e = .returned (.bool (eqX P Q)) ∧ Below w.heap.size w w' :=
  (keepBytes_n P Q n m A B c d w hP hQ).mono fun _ _ ⟨he, hw⟩ => ⟨he, by rw [hw]; exact Below.refl _ _⟩
theorem keepBytes_yes (P Q : List Nat) (h : P = Q) (n m : Nat) (A B : Option Addr) (c d : Nat) (w : World) (hP : RB w w.heap.size A n P) (hQ : RB w w.heap.size B m Q) :
    Calls Tryd.prog 12 #[.slice A n c, .slice B m d] w fun e w' => e = .returned (.bool true) ∧ Below w.heap.size w w' := by
  have := keepBytes_b P Q n m A B c d w hP hQ
  rwa [eqX_yes h] at this
theorem keepBools_yes (P Q : List Bool) (h : P = Q) (n m : Nat) (A B : Option Addr) (c d : Nat) (w : World) (hP : RL w w.heap.size A n P) (hQ : RL w w.heap.size B m Q) (hn : n ≤ 1048576) :
    Calls Tryd.prog 45 #[.slice A n c, .slice B m d] w fun e w' => e = .returned (.bool true) ∧ Below w.heap.size w w' := by
  have := keepBools_n P Q n m A B c d w hP hQ hn
  rwa [eqX_yes h] at this
theorem sum_b (l : List Nat) (n : Nat) (A : Option Addr) (c : Nat) (w : World) (hR : RB w w.heap.size A n l) (hn : n ≤ 1048576) :
    Calls Tryd.prog 29 #[.slice A n c] w fun e w' => e = .returned (.int .u32 (sumL l : Nat)) ∧ Below w.heap.size w w' :=
  (sum_any l n A c w hR hn).mono fun _ _ ⟨he, hw⟩ => ⟨he, by rw [hw]; exact Below.refl _ _⟩
theorem refSum_b (l : List Nat) (n : Nat) (A : Option Addr) (c : Nat) (w : World) (hR : RB w w.heap.size A n l) (hn : n ≤ 1048576) :
    Calls Tryd.prog 33 #[.slice A n c] w fun e w' => e = .returned (.int .u32 (sumL l : Nat)) ∧ Below w.heap.size w w' :=
  (refSum_any l n A c w hR hn).mono fun _ _ ⟨he, hw⟩ => ⟨he, by rw [hw]; exact Below.refl _ _⟩
/-- A new row of bytes, read. -/
def OutR (l : List Nat) (n : Nat) (w : World) (e : Ending) (w' : World) : Prop :=
  ∃ (A : Option Addr) (c : Nat), e = .returned (.slice A n c) ∧ RB w' w'.heap.size A n l ∧ Shp A n c ∧ Below w.heap.size w w'
theorem OutY.r {l : List Nat} {n : Nat} {w w' : World} {e : Ending} (h : OutY l n w e w') : OutR l n w e w' := by
  obtain ⟨A, c, he, _, hy, ho, hb⟩ := h
  exact ⟨A, c, he, own_RB ho hy, own_shp ho, hb⟩
theorem put_r (b : List Nat) (n : Nat) (A : Option Addr) (c : Nat) (v size : Int) (w : World) (hA : Shp A n c) (hR : RB w w.heap.size A n b) (hn : n ≤ 10000) :
    Calls Tryd.prog 27 #[.slice A n c, .int .i64 v, .int .i64 size] w (OutR (b ++ lowB v (cutN size)) (n + cutN size) w) := (put_any b n A c v size w hA.1 hR hn).mono fun _ _ h => h.r
theorem refPut_r (b : List Nat) (n : Nat) (A : Option Addr) (c : Nat) (v size : Int) (w : World) (hA : Shp A n c) (hR : RB w w.heap.size A n b) (hn : n ≤ 10000) :
    Calls Tryd.prog 31 #[.slice A n c, .int .i64 v, .int .i64 size] w (OutR (b ++ lowB v (cutN size)) (n + cutN size) w) := (refPut_any b n A c v size w hA.1 hR hn).mono fun _ _ h => h.r

theorem bits_is (b : List Nat) (m : Nat) (l : List Bool) (hb : IsBits b l) (n : Nat) (hm : (n + 7) / 8 = m) (A : Option Addr) (c : Nat) (w : World) (hR : RL w w.heap.size A n l) (hn : n ≤ 10000) :
    Calls Tryd.prog 28 #[.slice A n c] w (OutR b m w) :=
  (bits_any l n A c w hR hn).mono fun _ _ ⟨b', h', ho⟩ => by rw [hb.uniq h', ← hm]; exact ho.r
theorem refBits_is (b : List Nat) (m : Nat) (l : List Bool) (hb : IsBits b l) (n : Nat) (hm : (n + 7) / 8 = m) (A : Option Addr) (c : Nat) (w : World) (hR : RL w w.heap.size A n l) (hn : n ≤ 10000) :
    Calls Tryd.prog 32 #[.slice A n c] w (OutR b m w) :=
  (refBits_any l n A c w hR hn).mono fun _ _ ⟨b', h', ho⟩ => by rw [hb.uniq h', ← hm]; exact ho.r
theorem isBits_some (l : List Bool) : ∃ b, IsBits b l := by
  have key : ∀ k, k ≤ l.length → ∃ bs, BInv l k ((l.length + 7) / 8) bs := by
    intro k
    induction k with
    | zero => exact fun _ => ⟨_, binv_0 l _⟩
    | succ k ih =>
      intro hk
      obtain ⟨bs, h⟩ := ih (by omega)
      cases hx : l[k]
      · exact ⟨bs, binv_skip h (by omega) hx⟩
      · exact ⟨_, binv_set h (by omega) hx (by rw [h.1]; omega)⟩
  obtain ⟨bs, h⟩ := key l.length (Nat.le_refl _)
  exact ⟨bs, binv_all h rfl rfl⟩

end Go.Proofs.YtnilejdokgagbaaDoor

/- Plain mathematics of a table as bytes (for stage 6): Decode of Encode, Encode of Decode, one byte turned. No program. -/
namespace Go.Proofs.YtnilejdokgagbaaDoor

theorem unb_of_bits {b : List Nat} {l : List Bool} (h : IsBits b l) : unbR b l.length = some l := by
  have hb := h.1
  have hr : (List.range l.length).map (bitY b) = l := by
    apply List.ext_getElem?
    intro j
    by_cases hj : j < l.length
    · rw [List.getElem?_map, List.getElem?_range hj, Option.map_some, h.2.2 j, List.getElem?_eq_getElem hj]; rfl
    · rw [List.getElem?_eq_none (by simp; omega), List.getElem?_eq_none (by omega)]
  unfold unbR
  rw [if_pos ⟨by omega, by omega, by omega, fun i h1 _ => by rw [Int.toNat_natCast] at h1; rw [h.2.2 i, List.getElem?_eq_none h1]; rfl⟩, Int.toNat_natCast, hr]
theorem bits_of_unb {b : List Nat} {n : Nat} {l : List Bool} (hb : ∀ x ∈ b, x < 256) (h : unbR b n = some l) : IsBits b l ∧ l.length = n := by
  unfold unbR at h
  split at h
  · rename_i hc
    obtain ⟨_, h2, h3, h4⟩ := hc
    rw [Int.toNat_natCast] at h4
    injection h with h
    rw [Int.toNat_natCast] at h
    subst h
    refine ⟨⟨by simp; omega, hb, fun i => ?_⟩, by simp⟩
    by_cases hi : i < n
    · rw [List.getElem?_map, List.getElem?_range hi]; rfl
    · rw [List.getElem?_eq_none (by simp; omega)]
      by_cases hl : i < 8 * b.length
      · exact h4 i (by omega) hl
      · exact bitY_out b i (by omega)
  · cases h

section
variable {t : Tb} {y : List Nat}
theorem body_rest (h : MayT t) : (bodyB t y).drop (7 + 4 * t.bd.length + t.nx.length * t.cl.toNat) = y := by
  obtain ⟨_, _, _, _, e7⟩ := body_parts (t := t) (y := y) []
  rw [List.append_nil] at e7
  rw [← List.drop_drop, ← List.drop_drop, e7, List.drop_left' (bands_len t), List.drop_left' (by rw [rows_len h, Nat.mul_comm]), List.append_nil]
/-- What Decode says of Encode's bytes. -/
theorem err_enc {b : List Nat} (h : IsEnc b t) : errT b = (if (t.cl ≤ 8 ∧ t.nx.length ≤ 5 ∧ 1 ≤ t.bd.length ∧ t.bd.length ≤ 60) then 0 else 24) ∧ decT b = t := by
  have hlen := enc_len h
  obtain ⟨hm, y, hy, rfl⟩ := h
  have hbl := body_len hm hy
  have c1 := hm.c1
  have n1 := hm.n1
  obtain ⟨e0, e4, e5, e6, _⟩ := body_parts (t := t) (y := y) (lowB (sumL (bodyB t y) : Nat) 4)
  have hsl := sealB_len (bodyB t y)
  have e1 : (sealB (bodyB t y)).length - 4 = (bodyB t y).length := by omega
  have e2 : (sealB (bodyB t y)).take (bodyB t y).length = bodyB t y := seal_take _
  obtain ⟨s1, s2⟩ := seal_sum (bodyB t y)
  have e3 : unbR ((bodyB t y).drop (7 + 4 * t.bd.length + t.nx.length * t.cl.toNat)) (t.nx.length : Nat) = some t.br := by
    rw [body_rest hm, ← hm.b1]; exact unb_of_bits hy
  have d4 : (sealB (bodyB t y))[4]?.getD 0 = t.cl.toNat := e4
  have d5 : (sealB (bodyB t y))[5]?.getD 0 = t.nx.length := e5
  have d6 : (sealB (bodyB t y))[6]?.getD 0 = t.bd.length := e6
  have d0 : (sealB (bodyB t y)).take 4 = markB := e0
  constructor
  · unfold errT
    rw [if_neg (by omega), if_neg (by rw [d0]; simp), e1, s1, e2, if_neg (by rw [s2]; simp), d4, d5, d6, e3]
    by_cases hc : t.cl ≤ 8 ∧ t.nx.length ≤ 5 ∧ 1 ≤ t.bd.length ∧ t.bd.length ≤ 60
    · rw [if_pos hc, if_neg (by
        rw [Decidable.not_not]
        exact ⟨⟨by omega, by omega⟩, ⟨by omega, by omega⟩, ⟨by omega, by omega⟩, by omega⟩), if_neg (by simp)]
    · rw [if_neg hc, if_pos (by intro hh; exact hc ⟨by omega, by omega, by omega, by omega⟩)]
  · unfold decT
    rw [e1, e2, d4, d5, d6, e3]
    exact tabOf_body hm _
end
theorem lt_of_mem {b : List Nat} (hb : ∀ x ∈ b, x < 256) (i : Nat) : b[i]?.getD 0 < 256 := by
  by_cases h : i < b.length
  · rw [List.getElem?_eq_getElem h]; exact hb _ (List.getElem_mem h)
  · rw [List.getElem?_eq_none (by omega)]; decide
theorem chunk_take (w k : Nat) (B : List Nat) (i : Nat) (hi : i < k) : chunk w (B.take (w * k)) i = chunk w B i := by
  unfold chunk
  have : w * (i + 1) ≤ w * k := Nat.mul_le_mul_left w hi
  rw [Nat.mul_succ] at this
  rw [List.drop_take, List.take_take, Nat.min_eq_left (by omega)]
theorem three {b : List Nat} (h : 6 < b.length) : (b.drop 4).take 3 = [b[4]?.getD 0, b[5]?.getD 0, b[6]?.getD 0] := by
  rw [List.drop_eq_getElem_cons (show 4 < b.length by omega), List.drop_eq_getElem_cons (show 4 + 1 < b.length by omega), List.drop_eq_getElem_cons (show 4 + 1 + 1 < b.length by omega), List.getElem?_eq_getElem (show 4 < b.length by omega), List.getElem?_eq_getElem (show 5 < b.length by omega), List.getElem?_eq_getElem (show 6 < b.length by omega)]
  rfl
/-- What is decoded is encoded to the same bytes. -/
theorem enc_dec {b : List Nat} (hb : ∀ x ∈ b, x < 256) (h : errT b = 0) : IsEnc b (decT b) := by
  unfold errT at h
  split at h
  · cases h
  split at h
  · cases h
  split at h
  · cases h
  split at h
  · cases h
  split at h
  · cases h
  rename_i h1 h2 h3 h4 h5
  rw [Decidable.not_not] at h2 h3 h4
  obtain ⟨⟨c1, c2⟩, ⟨n1, n2⟩, ⟨k1, k2⟩, hl⟩ := h4
  obtain ⟨l, hu⟩ := Option.ne_none_iff_exists'.1 h5
  unfold decT
  rw [hu, Option.getD_some]
  generalize hc : b[4]?.getD 0 = c at *
  generalize hn : b[5]?.getD 0 = n at *
  generalize hk : b[6]?.getD 0 = k at *
  obtain ⟨D, hD⟩ : ∃ D, b.take (b.length - 4) = D := ⟨_, rfl⟩
  obtain ⟨S, hS⟩ : ∃ S, b.drop (b.length - 4) = S := ⟨_, rfl⟩
  have hbDS : b = D ++ S := by rw [← hD, ← hS, List.take_append_drop]
  have lS : S.length = 4 := by rw [← hS, List.length_drop]; omega
  have lD : D.length = 7 + (4 * k + (c * n + (n + 7) / 8)) := by
    have : b.length = D.length + 4 := by rw [hbDS, List.length_append, lS]
    unfold lenT at hl
    rw [Nat.mul_comm n c] at hl
    omega
  rw [hD, hS] at h3
  rw [hD] at hu
  have hDb : ∀ x ∈ D, x < 256 := fun x hx => hb x (by rw [hbDS]; exact List.mem_append_left _ hx)
  have hSb : ∀ x ∈ S, x < 256 := fun x hx => hb x (by rw [hbDS]; exact List.mem_append_right _ hx)
  have hSeal : S = lowB (sumL D : Nat) 4 := by
    rw [← h3]
    match S, lS with
    | [a, b, c, d], _ => exact (low_num4 a b c d (hSb a (by simp)) (hSb b (by simp)) (hSb c (by simp)) (hSb d (by simp))).symm
  -- the rest behind the head
  have hb7 : b.drop 7 = D.drop 7 ++ S := by rw [hbDS, List.drop_append_of_le_length (by omega)]
  obtain ⟨E, hE⟩ : ∃ E, D.drop 7 = E := ⟨_, rfl⟩
  have lE : E.length = 4 * k + (c * n + (n + 7) / 8) := by rw [← hE, List.length_drop]; omega
  have hEb : ∀ x ∈ E, x < 256 := fun x hx => hDb x (by rw [← hE] at hx; exact List.mem_of_mem_drop hx)
  have hHead : D.take 7 = markB ++ [c, n, k] := by
    have hx : b.take 7 = D.take 7 := by rw [hbDS, List.take_append_of_le_length (by omega)]
    rw [← hx]
    have l7 : (b.drop 4).take 3 = [c, n, k] := by rw [three (show 6 < b.length by omega), hc, hn, hk]
    rw [show (7 : Nat) = 4 + 3 from rfl, List.take_add, h2, l7]
  -- bands
  have lB : (E.take (4 * k)).length = 4 * k := by rw [List.length_take]; omega
  have hBands : ((List.range k).map fun i => bandOf (chunk 4 (E ++ S) i)).flatMap bandB = E.take (4 * k) := by
    rw [List.flatMap_map]
    conv => rhs; rw [← chunk_flat 4 k _ lB]
    rw [List.flatMap_def, List.flatMap_def]
    congr 1
    refine List.map_congr_left fun i hi => ?_
    have hik := List.mem_range.1 hi
    have e : chunk 4 (E ++ S) i = chunk 4 (E.take (4 * k)) i := by
      rw [chunk_take 4 k E i hik]
      have := Nat.mul_le_mul_left 4 hik
      unfold chunk
      rw [List.drop_append_of_le_length (by omega), List.take_append_of_le_length (by rw [List.length_drop]; omega)]
    rw [e]
    exact (band_bandOf _ (chunk_len 4 _ i k lB hik) (fun x hx => hEb x (List.mem_of_mem_take (chunk_mem hx)))).1
  have hBandsOk : ∀ x ∈ (List.range k).map fun i => bandOf (chunk 4 (E ++ S) i), (0 ≤ x.1 ∧ x.1 ≤ 16777215) ∧ byteI x.2 := fun x hx => by
    obtain ⟨i, hi, rfl⟩ := List.mem_map.1 hx
    have hik := List.mem_range.1 hi
    have := Nat.mul_le_mul_left 4 hik
    refine (band_bandOf _ ?_ (fun x hx => ?_)).2
    · unfold chunk; rw [List.length_take, List.length_drop, List.length_append]; omega
    · have := chunk_mem hx
      rcases List.mem_append.1 this with h | h
      · exact hEb x h
      · exact hSb x h
  -- rows
  obtain ⟨F, hF⟩ : ∃ F, E.drop (4 * k) = F := ⟨_, rfl⟩
  have lF : F.length = c * n + (n + 7) / 8 := by rw [← hF, List.length_drop]; omega
  have hFb : ∀ x ∈ F, x < 256 := fun x hx => hEb x (by rw [← hF] at hx; exact List.mem_of_mem_drop hx)
  have hb8 : b.drop (7 + 4 * k) = F ++ S := by rw [← List.drop_drop, hb7, hE, List.drop_append_of_le_length (by omega), hF]
  have lR : (F.take (c * n)).length = c * n := by rw [List.length_take]; omega
  have eR : ∀ i, i < n → chunk c (F ++ S) i = chunk c (F.take (c * n)) i := fun i hi => by
    rw [chunk_take c n F i hi]
    have h9 := Nat.mul_le_mul_left c hi
    rw [Nat.mul_succ] at h9
    unfold chunk
    rw [List.drop_append_of_le_length (by omega), List.take_append_of_le_length (by rw [List.length_drop]; omega)]
  have hRows : ((List.range n).map fun s => (chunk c (F ++ S) s).map Int.ofNat).flatMap rowB = F.take (c * n) := by
    rw [List.flatMap_map]
    conv => rhs; rw [← chunk_flat c n _ lR]
    rw [List.flatMap_def, List.flatMap_def]
    congr 1
    refine List.map_congr_left fun i hi => ?_
    rw [eR i (List.mem_range.1 hi)]
    unfold rowB
    rw [List.map_map]
    conv => rhs; rw [← List.map_id (chunk c (F.take (c * n)) i)]
    exact List.map_congr_left fun x _ => rfl
  have hRowsOk : ∀ r ∈ (List.range n).map fun s => (chunk c (F ++ S) s).map Int.ofNat, (r.length : Int) = ((c : Nat) : Int) ∧ ∀ x ∈ r, byteI x := fun r hr => by
    obtain ⟨i, hi, rfl⟩ := List.mem_map.1 hr
    have hin := List.mem_range.1 hi
    rw [eR i hin]
    refine ⟨by rw [List.length_map, chunk_len c _ i n lR hin], fun x hx => ?_⟩
    obtain ⟨v, hv, rfl⟩ := List.mem_map.1 hx
    have := hFb v (List.mem_of_mem_take (chunk_mem hv))
    exact ⟨Int.natCast_nonneg _, by show (v : Int) ≤ 255; omega⟩
  -- bits
  have hY : D.drop (7 + 4 * k + n * c) = F.drop (c * n) := by
    rw [← List.drop_drop, ← List.drop_drop, hE, hF, Nat.mul_comm]
  rw [hY] at hu
  obtain ⟨hbits, hll⟩ := bits_of_unb (fun x hx => hFb x (List.mem_of_mem_drop hx)) hu
  unfold tabOf
  rw [hc, hn, hk, hb7, hE, hb8]
  refine ⟨⟨by show (1 : Int) ≤ (c : Int); omega, by show (c : Int) ≤ 255; omega, by simp; omega, by simp; omega, by simp [hll], by simp; omega, hBandsOk, hRowsOk⟩, F.drop (c * n), hbits, ?_⟩
  have hBody : bodyB { cl := ((c : Nat) : Int), bd := (List.range k).map fun i => bandOf (chunk 4 (E ++ S) i), nx := (List.range n).map fun s => (chunk c (F ++ S) s).map Int.ofNat, br := l } (F.drop (c * n)) = D := by
    unfold bodyB headB
    simp only [List.length_map, List.length_range, Int.toNat_natCast]
    rw [hBands, hRows, List.take_append_drop, ← hF, List.take_append_drop, ← hHead, ← hE, List.take_append_drop]
  rw [hBody]
  unfold sealB
  rw [← hSeal]
  exact hbDS

/-- One byte of a table's bytes turned: the mark is another, or the sum. -/
theorem err_turn {b : List Nat} {t : Tb} (h : IsEnc b t) (i y : Nat) (hi : i < b.length) (hy : y < 256) (hne : b[i] ≠ y) : errT (b.set i y) = 22 ∨ errT (b.set i y) = 23 := by
  have hlen := enc_len h
  obtain ⟨hm, z, hz, rfl⟩ := h
  have hbl := body_len hm hz
  have hlt := body_lt hm hz
  have hsl := sealB_len (bodyB t z)
  generalize hX : bodyB t z = X at *
  have e1 : ((sealB X).set i y).length - 4 = X.length := by rw [List.length_set]; omega
  unfold errT
  rw [if_neg (by rw [List.length_set]; omega)]
  by_cases hmk : ((sealB X).set i y).take 4 ≠ markB
  · rw [if_pos hmk]; exact .inl rfl
  · rw [if_neg hmk, if_pos]
    · exact .inr rfl
    · rw [e1]
      intro hs
      by_cases hiX : i < X.length
      · have d1 : ((sealB X).set i y).drop X.length = lowB (sumL X : Nat) 4 := by
          unfold sealB
          rw [List.set_append, if_pos hiX, List.drop_left' (by rw [List.length_set])]
        have d2 : ((sealB X).set i y).take X.length = X.set i y := by
          unfold sealB
          rw [List.set_append, if_pos hiX, List.take_left' (by rw [List.length_set])]
        rw [d1, d2, (seal_sum X).2] at hs
        have := (sumL_set X hlt i y hiX hy).1 hs
        apply hne
        rw [← this]
        simp only [sealB]
        rw [List.getElem_append_left hiX]
      · have d2 : ((sealB X).set i y).take X.length = X := by
          unfold sealB
          rw [List.set_append, if_neg hiX, List.take_left]
        have d1 : ((sealB X).set i y).drop X.length = (lowB (sumL X : Nat) 4).set (i - X.length) y := by
          unfold sealB
          rw [List.set_append, if_neg hiX, List.drop_left]
        rw [d1, d2] at hs
        have hq := (seal_sum X).2
        have hlow := lowB_lt (sumL X : Nat) 4
        have hll := lowB_len (sumL X : Nat) 4
        have hne' : (lowB (sumL X : Nat) 4)[i - X.length]? ≠ some y := by
          intro e
          apply hne
          have e9 : (sealB X)[i]? = some y := by
            unfold sealB
            rw [List.getElem?_append_right (by omega)]; exact e
          rw [List.getElem?_eq_getElem hi] at e9
          exact Option.some.inj e9
        generalize lowB (sumL X : Nat) 4 = L at *
        obtain ⟨j, hj⟩ : ∃ j, i - X.length = j := ⟨_, rfl⟩
        have hj4 : j < 4 := by omega
        simp only [hj] at hs hne'
        match L, hll with
        | [a, b, c, d], _ =>
          have ha := hlow a (by simp)
          have hb := hlow b (by simp)
          have hc := hlow c (by simp)
          have hd := hlow d (by simp)
          rw [← hq] at hs
          match j, hj4 with
          | 0, _ => exact hne' (congrArg some (numL_inj4 hs hb hc hd hb hc hd).1.symm)
          | 1, _ => exact hne' (congrArg some (numL_inj4 hs hy hc hd hb hc hd).2.1.symm)
          | 2, _ => exact hne' (congrArg some (numL_inj4 hs hb hy hd hb hc hd).2.2.1.symm)
          | 3, _ => exact hne' (congrArg some (numL_inj4 hs hb hc hy hb hc hd).2.2.2.symm)
end Go.Proofs.YtnilejdokgagbaaDoor

/- Plain mathematics of a table as bytes (for stage 6): rows that are sealed anew: cut, longer, with another count, with a bit beyond. No program. -/
namespace Go.Proofs.YtnilejdokgagbaaDoor

theorem getD_app {Z S : List Nat} (i : Nat) (h : i < Z.length) : (Z ++ S)[i]?.getD 0 = Z[i]?.getD 0 := by rw [List.getElem?_append_left h]
theorem drop_set_ge (l : List Nat) (i k v : Nat) (h : k ≤ i) : (l.set i v).drop k = (l.drop k).set (i - k) v := by
  rw [List.drop_set, if_neg (by omega)]
def CountsOk (Z : List Nat) : Prop := (1 ≤ Z[4]?.getD 0 ∧ Z[4]?.getD 0 ≤ 8) ∧ (1 ≤ Z[5]?.getD 0 ∧ Z[5]?.getD 0 ≤ 5) ∧ (1 ≤ Z[6]?.getD 0 ∧ Z[6]?.getD 0 ≤ 60) ∧ lenT (Z[4]?.getD 0) (Z[5]?.getD 0) (Z[6]?.getD 0) = Z.length + 4
open Classical in
/-- What Decode says of a row that is sealed by its sum. -/
theorem err_seal (Z : List Nat) (h : 7 ≤ Z.length) : errT (sealB Z) = (if Z.take 4 ≠ markB then 22 else if ¬ CountsOk Z then 24 else if unbR (Z.drop (7 + 4 * Z[6]?.getD 0 + Z[5]?.getD 0 * Z[4]?.getD 0)) (Z[5]?.getD 0 : Nat) = none then 25 else 0) := by
  have hsl := sealB_len Z
  have e1 : (sealB Z).length - 4 = Z.length := by omega
  have e2 : (sealB Z).take Z.length = Z := seal_take _
  obtain ⟨s1, s2⟩ := seal_sum Z
  have d4 : (sealB Z)[4]?.getD 0 = Z[4]?.getD 0 := getD_app 4 (by omega)
  have d5 : (sealB Z)[5]?.getD 0 = Z[5]?.getD 0 := getD_app 5 (by omega)
  have d6 : (sealB Z)[6]?.getD 0 = Z[6]?.getD 0 := getD_app 6 (by omega)
  have d0 : (sealB Z).take 4 = Z.take 4 := by unfold sealB; rw [List.take_append_of_le_length (by omega)]
  unfold errT
  rw [if_neg (by omega), d0, e1, s1, e2, if_neg (show ¬ (numL (lowB (sumL Z : Nat) 4) ≠ sumL Z) by rw [s2]; simp), d4, d5, d6, hsl]
  unfold CountsOk
  congr
theorem err_short {b : List Nat} (h : b.length < 11) : errT b = 21 := by unfold errT; rw [if_pos h]
section
variable {t : Tb} {y : List Nat}
theorem head_of (Z : List Nat) : (bodyB t y ++ Z).take 4 = markB ∧ (bodyB t y ++ Z)[4]?.getD 0 = t.cl.toNat ∧ (bodyB t y ++ Z)[5]?.getD 0 = t.nx.length ∧ (bodyB t y ++ Z)[6]?.getD 0 = t.bd.length := by
  obtain ⟨a, b, c, d, _⟩ := body_parts (t := t) (y := y) Z
  exact ⟨a, b, c, d⟩
/-- Cut, and sealed anew. -/
theorem err_cut (h : MayT t) (hy : IsBits y t.br) (k : Nat) (hk : k < (bodyB t y).length) : errT (sealB ((bodyB t y).take k)) = (if k < 7 then 21 else 24) := by
  have hl : ((bodyB t y).take k).length = k := by rw [List.length_take]; omega
  have hbl := body_len h hy
  by_cases h7 : k < 7
  · rw [if_pos h7]; exact err_short (by rw [sealB_len, hl]; omega)
  · rw [if_neg h7, err_seal _ (by omega)]
    obtain ⟨a, b, c, d⟩ := head_of (t := t) (y := y) []
    rw [List.append_nil] at a b c d
    have g : ∀ i, i < k → ((bodyB t y).take k)[i]?.getD 0 = (bodyB t y)[i]?.getD 0 := fun i hi => by rw [List.getElem?_take_of_lt hi]
    rw [if_neg (by rw [List.take_take, Nat.min_eq_left (by omega), a]; simp), if_pos]
    intro hc
    have := hc.2.2.2
    rw [g 4 (by omega), g 5 (by omega), g 6 (by omega), b, c, d, hl] at this
    unfold lenT at this
    rw [Nat.mul_comm t.nx.length] at this
    omega
/-- Longer, and sealed anew. -/
theorem err_long (h : MayT t) (hy : IsBits y t.br) (m : Nat) : errT (sealB (bodyB t y ++ [m])) = 24 := by
  have hbl := body_len h hy
  obtain ⟨a, b, c, d⟩ := head_of (t := t) (y := y) [m]
  have hl : (bodyB t y ++ [m]).length = (bodyB t y).length + 1 := by simp
  rw [err_seal _ (by omega), if_neg (by rw [a]; simp), if_pos]
  intro hc
  have := hc.2.2.2
  rw [b, c, d, hl] at this
  unfold lenT at this
  rw [Nat.mul_comm t.nx.length] at this
  omega
/-- More states than there may be, and sealed anew. -/
theorem err_states (Z : List Nat) (h : 7 ≤ Z.length) (hm : Z.take 4 = markB) (s : Nat) (hs : 6 ≤ s) : errT (sealB (Z.set 5 s)) = 24 := by
  rw [err_seal _ (by rw [List.length_set]; omega), if_neg (by rw [List.take_set_of_le (by decide), hm]; simp), if_pos]
  intro hc
  have := hc.2.1.2
  rw [List.getElem?_set_self (by omega), Option.getD_some] at this
  omega
/-- A bit beyond the states, and sealed anew. -/
theorem err_beyond (h : MayT t) (hy : IsBits y t.br) (hc : t.cl ≤ 8) (hn : t.nx.length ≤ 5) (hk : 1 ≤ t.bd.length) (hk2 : t.bd.length ≤ 60) (v : Nat) (hv : v.testBit 7 = true) : errT (sealB ((bodyB t y).set ((bodyB t y).length - 1) v)) = 25 := by
  have hbl := body_len h hy
  have hyl := hy.1
  have c1 := h.c1
  have n1 := h.n1
  have b1 := h.b1
  obtain ⟨a, b, c, d⟩ := head_of (t := t) (y := y) []
  rw [List.append_nil] at a b c d
  have g : ∀ i, i < 7 → ((bodyB t y).set ((bodyB t y).length - 1) v)[i]?.getD 0 = (bodyB t y)[i]?.getD 0 := fun i hi => by rw [List.getElem?_set_ne (by omega)]
  rw [err_seal _ (by rw [List.length_set]; omega), if_neg (by rw [List.take_set_of_le (by omega), a]; simp), if_neg, if_pos]
  · rw [g 4 (by decide), g 5 (by decide), g 6 (by decide), b, c, d, drop_set_ge _ _ _ _ (by rw [Nat.mul_comm t.nx.length]; omega), body_rest h]
    rw [unbR, if_neg]
    rintro ⟨_, _, _, h4⟩
    have := h4 7 (by rw [Int.toNat_natCast]; omega) (by rw [List.length_set]; omega)
    unfold bitY at this
    rw [show (7 / 8 : Nat) = 0 from rfl, show (7 % 8 : Nat) = 7 from rfl, show (bodyB t y).length - 1 - (7 + 4 * t.bd.length + t.nx.length * t.cl.toNat) = 0 by rw [Nat.mul_comm t.nx.length]; omega, List.getElem?_set_self (by omega), Option.getD_some, hv] at this
    cases this
  · intro hno
    apply hno
    unfold CountsOk
    rw [g 4 (by decide), g 5 (by decide), g 6 (by decide), b, c, d, List.length_set]
    refine ⟨⟨by omega, by omega⟩, ⟨by omega, by omega⟩, ⟨by omega, by omega⟩, ?_⟩
    unfold lenT
    rw [Nat.mul_comm t.nx.length]
    omega
end
end Go.Proofs.YtnilejdokgagbaaDoor

/- Words for memory: rows of integers, of bands, of rows; a table's value; the mark. -/
namespace Go.Proofs.YtnilejdokgagbaaDoor
open Go.RowKit Go.BigFrame
set_option linter.unusedVariables false
set_option maxRecDepth 4000
set_option linter.unusedSimpArgs false

abbrev Rg := Int × Int
/-- A range's two cells; all of them. -/
def rcell (p : Rg) : List Value := [.int .i64 p.1, .int .i64 p.2]
def rcells (l : List Rg) : List Value := l.flatMap rcell
theorem rcells_nil : rcells [] = [] := rfl
theorem rcells_app (l m : List Rg) : rcells (l ++ m) = rcells l ++ rcells m := by simp [rcells]
theorem rcells_snoc (l : List Rg) (p : Rg) : rcells (l ++ [p]) = rcells l ++ rcell p := by simp [rcells]
theorem rcells_len (l : List Rg) : (rcells l).length = l.length * 2 := by
  induction l with
  | nil => rfl
  | cons p l ih =>
    have e : rcells (p :: l) = rcell p ++ rcells l := by simp [rcells]
    rw [e, List.length_append, ih]
    simp [rcell]
    omega
theorem rcells_at (l : List Rg) : ∀ (k : Nat) (h : k < l.length), (rcells l)[k * 2]? = some (.int .i64 l[k].1) ∧ (rcells l)[k * 2 + 1]? = some (.int .i64 l[k].2) := by
  induction l with
  | nil => intro k h; simp at h
  | cons p l ih =>
    intro k h
    have e : rcells (p :: l) = .int .i64 p.1 :: .int .i64 p.2 :: rcells l := by simp [rcells, rcell]
    rw [e]
    match k, h with
    | 0, _ => exact ⟨rfl, rfl⟩
    | k + 1, h =>
      have := ih k (by simpa using h)
      rw [show (k + 1) * 2 = k * 2 + 1 + 1 by omega, show k * 2 + 1 + 1 + 1 = (k * 2 + 1) + 1 + 1 by omega]
      simpa using this
theorem rcells_one (l : List Rg) : ∀ u ∈ rcells l, u.oneCell' = true := by
  intro u hu
  simp only [rcells, List.mem_flatMap] at hu
  obtain ⟨p, _, hp⟩ := hu
  simp [rcell] at hp
  rcases hp with rfl | rfl <;> rfl
/-- The cells of the k-th range. -/
theorem Reads.rg {w : World} {B n : Nat} {A : Option Addr} {P : List Rg} (h : Reads w B 2 A n (rcells P)) {k : Nat} (hk : k < P.length) :
    ∃ b o, A = some ⟨b, o, none⟩ ∧ b < B ∧ w.cell? ⟨b, o + k * 2, none⟩ = some (.int .i64 P[k].1) ∧ w.cell? ⟨b, o + k * 2 + 1, none⟩ = some (.int .i64 P[k].2) := by
  have h1 := h.1
  rw [rcells_len] at h1
  obtain ⟨b, o, rfl, hb, hc⟩ := h.2 (by omega)
  obtain ⟨h0, h1⟩ := rcells_at P k hk
  exact ⟨b, o, rfl, hb, hc _ _ h0, by rw [Nat.add_assoc]; exact hc _ _ h1⟩
/-- Cells of ints. -/
def icells (l : List Int) : List Value := l.map (.int .i64)
theorem icells_len (l : List Int) : (icells l).length = l.length := by simp [icells]
theorem icells_snoc (l : List Int) (x : Int) : icells (l ++ [x]) = icells l ++ [.int .i64 x] := by simp [icells]
theorem icells_one (l : List Int) : ∀ u ∈ icells l, u.oneCell' = true := by
  intro u hu
  simp only [icells, List.mem_map] at hu
  obtain ⟨x, _, rfl⟩ := hu
  rfl
theorem Reads.int {w : World} {B n : Nat} {A : Option Addr} {l : List Int} (h : Reads w B 1 A n (icells l)) {k : Nat} (hk : k < l.length) : ∃ b o, A = some ⟨b, o, none⟩ ∧ b < B ∧ w.cell? ⟨b, o + k, none⟩ = some (.int .i64 l[k]) := by
  have h1 := h.1
  rw [icells_len] at h1
  obtain ⟨b, o, rfl, hb, hc⟩ := h.2 (by omega)
  exact ⟨b, o, rfl, hb, hc k _ (by unfold icells; rw [List.getElem?_map, List.getElem?_eq_getElem hk]; rfl)⟩
/-- A row of integers. -/
def RI (w : World) (B : Nat) (A : Option Addr) (n : Nat) (l : List Int) : Prop := l.length = n ∧ Reads w B 1 A n (icells l)
/-- A row of bands. -/
def RD (w : World) (B : Nat) (A : Option Addr) (n : Nat) (l : List Rg) : Prop := l.length = n ∧ Reads w B 2 A n (rcells l)
theorem RI.on {w w' : World} {n : Nat} {A : Option Addr} {l : List Int} (h : RI w w.heap.size A n l) (g : Below w.heap.size w w') : RI w' w'.heap.size A n l := ⟨h.1, reads_on h.2 g⟩
theorem RD.on {w w' : World} {n : Nat} {A : Option Addr} {l : List Rg} (h : RD w w.heap.size A n l) (g : Below w.heap.size w w') : RD w' w'.heap.size A n l := ⟨h.1, reads_on h.2 g⟩
theorem RI.at {w : World} {B n : Nat} {A : Option Addr} {l : List Int} (h : RI w B A n l) {k : Nat} (hk : k < l.length) : ∃ b o, A = some ⟨b, o, none⟩ ∧ b < B ∧ w.cell? ⟨b, o + k, none⟩ = some (.int .i64 l[k]) := h.2.int hk
theorem RD.at {w : World} {B n : Nat} {A : Option Addr} {l : List Rg} (h : RD w B A n l) {k : Nat} (hk : k < l.length) : ∃ b o, A = some ⟨b, o, none⟩ ∧ b < B ∧ w.cell? ⟨b, o + k * 2, none⟩ = some (.int .i64 l[k].1) ∧ w.cell? ⟨b, o + k * 2 + 1, none⟩ = some (.int .i64 l[k].2) := h.2.rg hk
theorem RI.nil (w : World) (B : Nat) (A : Option Addr) : RI w B A 0 [] := ⟨rfl, Reads.none_⟩
theorem RD.nil (w : World) (B : Nat) (A : Option Addr) : RD w B A 0 [] := ⟨rfl, Reads.none_⟩
theorem own_RI {w : World} {base n c : Nat} {A : Option Addr} {l : List Int} (h : w.ownsRow base 3 1 (.slice A n c) n (icells l)) : RI w w.heap.size A n l := ⟨by have := h.1; rw [icells_len] at this; omega, Reads.of_own h⟩
theorem own_RD {w : World} {base n c : Nat} {A : Option Addr} {l : List Rg} (h : w.ownsRow base 50 2 (.slice A n c) n (rcells l)) : RD w w.heap.size A n l := ⟨by have := h.1; rw [rcells_len] at this; omega, Reads.of_own h⟩
/-- A slice of lists. -/
structure Hi where
  a : Option Addr
  n : Nat
  c : Nat
  l : List Int
def Hi.v (h : Hi) : Value := .slice h.a h.n h.c
def Hi.ok (w : World) (B : Nat) (h : Hi) : Prop := RI w B h.a h.n h.l ∧ Shp h.a h.n h.c
def icellsOf (H : List Hi) : List Value := H.map Hi.v
def listsOf (H : List Hi) : List (List Int) := H.map (·.l)
theorem icellsOf_len (H : List Hi) : (icellsOf H).length = H.length := by simp [icellsOf]
theorem listsOf_len (H : List Hi) : (listsOf H).length = H.length := by simp [listsOf]
/-- A row of rows of integers. -/
def RN (w : World) (B : Nat) (A : Option Addr) (n : Nat) (H : List Hi) : Prop := H.length = n ∧ Reads w B 1 A n (icellsOf H) ∧ ∀ h ∈ H, h.ok w B
theorem RN.on {w w' : World} {n : Nat} {A : Option Addr} {H : List Hi} (h : RN w w.heap.size A n H) (g : Below w.heap.size w w') : RN w' w'.heap.size A n H := ⟨h.1, reads_on h.2.1 g, fun x hx => ⟨(h.2.2 x hx).1.on g, (h.2.2 x hx).2⟩⟩
theorem RN.at {w : World} {B n : Nat} {A : Option Addr} {H : List Hi} (h : RN w B A n H) {k : Nat} (hk : k < H.length) : ∃ b o, A = some ⟨b, o, none⟩ ∧ b < B ∧ w.cell? ⟨b, o + k, none⟩ = some (.slice H[k].a H[k].n H[k].c) ∧ RI w B H[k].a H[k].n H[k].l ∧ Shp H[k].a H[k].n H[k].c := by
  have h1 := h.1
  obtain ⟨b, o, rfl, hb, hc⟩ := h.2.1.2 (by omega)
  exact ⟨b, o, rfl, hb, hc k _ (by unfold icellsOf; rw [List.getElem?_map, List.getElem?_eq_getElem hk]; rfl), h.2.2 _ (List.getElem_mem hk)⟩
theorem RN.nil (w : World) (B : Nat) (A : Option Addr) : RN w B A 0 [] := ⟨rfl, Reads.none_, fun h hh => by simp at hh⟩
/-- A row of rows that the call itself builds. -/
structure OwnI (w : World) (base : Nat) (A : Option Addr) (z c : Nat) (H : List Hi) : Prop where
  len : H.length = z
  out : w.ownsRow base 51 1 (.slice A z c) z (icellsOf H)
  inn : ∀ h ∈ H, h.l.length = h.n ∧ w.ownsRow base 3 1 h.v h.n (icells h.l)
theorem own_block {w : World} {base : Nat} {e : TypeId} {size n : Nat} {v : Value} {xs : List Value} (h : w.ownsRow base e size v n xs) {g : Nat} (hg : v.ownBlock = some g) : ∃ cur, w.heap[g]? = some (.cells cur e (0, 0)) := by
  rcases h.2 with ⟨rfl, _⟩ | ⟨g', cap, cur, rfl, _, hc, _⟩
  · simp [Value.ownBlock] at hg
  · simp [Value.ownBlock] at hg
    subst hg
    exact ⟨cur, hc⟩
theorem own_unlike' {w : World} {base base' : Nat} {e e' : TypeId} {size size' n n' : Nat} {v v' : Value} {xs xs' : List Value} (hne : e ≠ e') (h : w.ownsRow base e size v n xs) (h' : w.ownsRow base' e' size' v' n' xs') : v.ownBlock = none ∨ v.ownBlock ≠ v'.ownBlock := by
  cases hg : v.ownBlock with
  | none => exact .inl rfl
  | some g =>
    refine .inr fun e' => ?_
    obtain ⟨c1, h1⟩ := own_block h hg
    obtain ⟨c2, h2⟩ := own_block h' e'.symm
    rw [h1] at h2
    injection h2 with h2
    injection h2 with _ h2
    exact hne h2
theorem ne_sym {x y : Option Nat} (h : x = none ∨ x ≠ y) : y = none ∨ y ≠ x := by
  rcases h with h | h
  · cases hy : y with
    | none => exact .inl rfl
    | some g => exact .inr (by rw [h]; simp)
  · exact .inr (Ne.symm h)
theorem OwnI.nil (w : World) (base : Nat) : OwnI w base none 0 0 [] := ⟨rfl, World.ownsRow_nil _ _ _ _, fun h hh => by simp at hh⟩
theorem OwnI.on {w w' : World} {base z c : Nat} {A : Option Addr} {H : List Hi} (h : OwnI w base A z c H) (g : Below w.heap.size w w') : OwnI w' base A z c H := ⟨h.len, own_below h.out g, fun x hx => ⟨(h.inn x hx).1, own_below (h.inn x hx).2 g⟩⟩
theorem OwnI.snoc {w w' : World} {base z c g cap : Nat} {A : Option Addr} {H : List Hi} {x : Hi} (h : OwnI w base A z c H) (hx : x.l.length = x.n ∧ w.ownsRow base 3 1 x.v x.n (icells x.l)) (ho : w'.ownsRow base 51 1 (.slice (some ⟨g, 0, none⟩) (z + 1) cap) (z + 1) (icellsOf H ++ [x.v])) (hg : w.grownBy w' (Value.slice A z c).ownBlock) :
    OwnI w' base (some ⟨g, 0, none⟩) (z + 1) cap (H ++ [x]) := by
  refine ⟨by rw [List.length_append, h.len]; rfl, ?_, ?_⟩
  · have e : icellsOf (H ++ [x]) = icellsOf H ++ [x.v] := by simp [icellsOf]
    rw [e]; exact ho
  · intro y hy
    have key : ∀ y : Hi, y.l.length = y.n ∧ w.ownsRow base 3 1 y.v y.n (icells y.l) → y.l.length = y.n ∧ w'.ownsRow base 3 1 y.v y.n (icells y.l) := fun y hy => ⟨hy.1, hy.2.kept hg (ne_sym (own_unlike' (by decide) h.out hy.2))⟩
    rcases List.mem_append.1 hy with hy | hy
    · exact key y (h.inn y hy)
    · rw [List.mem_singleton] at hy; subst hy; exact key _ hx
theorem OwnI.nest {w : World} {base z c : Nat} {A : Option Addr} {H : List Hi} (h : OwnI w base A z c H) : RN w w.heap.size A z H ∧ Shp A z c :=
  ⟨⟨h.len, Reads.of_own h.out, fun x hx => ⟨own_RI (h.inn x hx).2, own_shp (h.inn x hx).2⟩⟩, own_shp h.out⟩
theorem info53 : (Tryd.prog.info? 51).map (fun i => (i.zero, i.size, i.bytes)) = some (some (.slice none 0 0), 1, 24) := by kernel_rfl
theorem info52 : (Tryd.prog.info? 50).map (fun i => (i.zero, i.size, i.bytes)) = some (some (.agg #[.int .i64 0, .int .i64 0]), 2, 16) := by kernel_rfl
theorem info3 : (Tryd.prog.info? 3).map (fun i => (i.zero, i.size, i.bytes)) = some (some (.int .i64 0), 1, 8) := by kernel_rfl

/-! A table. -/
/-- A table's value, and what it holds. -/
structure TV where
  cl : Int
  a1 : Option Addr
  n1 : Nat
  c1 : Nat
  bd : List Rg
  a2 : Option Addr
  n2 : Nat
  c2 : Nat
  hs : List Hi
  a3 : Option Addr
  n3 : Nat
  c3 : Nat
  br : List Bool
def TV.v (T : TV) : Value := .agg #[.int .i64 T.cl, .slice T.a1 T.n1 T.c1, .slice T.a2 T.n2 T.c2, .slice T.a3 T.n3 T.c3]
def TV.tb (T : TV) : Tb := { cl := T.cl, bd := T.bd, nx := listsOf T.hs, br := T.br }
structure TV.ok (w : World) (T : TV) : Prop where
  r1 : RD w w.heap.size T.a1 T.n1 T.bd
  s1 : Shp T.a1 T.n1 T.c1
  r2 : RN w w.heap.size T.a2 T.n2 T.hs
  s2 : Shp T.a2 T.n2 T.c2
  r3 : RL w w.heap.size T.a3 T.n3 T.br
  s3 : Shp T.a3 T.n3 T.c3
theorem TV.ok.on {w w' : World} {T : TV} (h : T.ok w) (g : Below w.heap.size w w') : T.ok w' := ⟨h.r1.on g, h.s1, h.r2.on g, h.s2, h.r3.on g, h.s3⟩
/-- How many lists and integers there are, at most so. -/
def bulk (L : List (List Int)) : Nat := (L.map fun r => 1 + r.length).sum
theorem bulk_nil : bulk [] = 0 := rfl
theorem bulk_app (L M : List (List Int)) : bulk (L ++ M) = bulk L + bulk M := by simp [bulk]
theorem bulk_mem {L : List (List Int)} {r : List Int} (h : r ∈ L) : 1 + r.length ≤ bulk L := by
  induction L with
  | nil => simp at h
  | cons x L ih =>
    have e : bulk (x :: L) = 1 + x.length + bulk L := by simp [bulk]
    rcases List.mem_cons.1 h with rfl | h
    · omega
    · have := ih h; omega
theorem bulk_len (L : List (List Int)) : L.length ≤ bulk L := by
  induction L with
  | nil => simp
  | cons x L ih =>
    have e : bulk (x :: L) = 1 + x.length + bulk L := by simp [bulk]
    rw [List.length_cons]; omega
/-- A table of such a size. -/
structure Small (t : Tb) : Prop where
  k : t.bd.length ≤ 400
  n : bulk t.nx ≤ 3000
  b : t.br.length ≤ 1000
theorem bulk_rect {L : List (List Int)} {c : Nat} (h : ∀ r ∈ L, r.length = c) : bulk L = L.length + L.length * c := by
  induction L with
  | nil => simp [bulk]
  | cons x L ih =>
    have e : bulk (x :: L) = 1 + x.length + bulk L := by simp [bulk]
    rw [e, ih (fun r hr => h r (by simp [hr])), h x (by simp), List.length_cons, Nat.succ_mul]
    omega
theorem Small.cells {t : Tb} (h : Small t) (hm : MayT t) : t.nx.length * t.cl.toNat ≤ 3000 := by
  have := bulk_rect (L := t.nx) (c := t.cl.toNat) (fun r hr => by have := (hm.nx r hr).1; omega)
  have := h.n
  omega

/-! The mark. -/
/-- The mark's four cells. -/
def Mark (w : World) : Prop := 0 < w.heap.size ∧ w.cell? ⟨0, 0, none⟩ = some (.int .u8 66) ∧ w.cell? ⟨0, 1, none⟩ = some (.int .u8 82) ∧ w.cell? ⟨0, 2, none⟩ = some (.int .u8 75) ∧ w.cell? ⟨0, 3, none⟩ = some (.int .u8 49)
theorem Mark.on {w w' : World} (h : Mark w) (hb : Below w.heap.size w w') : Mark w' := by
  have hs := h.1
  have hc : ∀ i, w'.cell? ⟨0, i, none⟩ = w.cell? ⟨0, i, none⟩ := fun i => hb.cell (p := ⟨0, i, none⟩) hs
  unfold Mark at h ⊢
  simp only [hc]
  exact ⟨Nat.lt_of_lt_of_le hs hb.size, h.2⟩
end Go.Proofs.YtnilejdokgagbaaDoor

