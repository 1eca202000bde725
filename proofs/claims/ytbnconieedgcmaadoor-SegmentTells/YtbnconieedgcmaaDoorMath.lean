/- Plain mathematics of package pack: a number's bytes, the sum, bits. No program. -/
import Derived.Laws.BitsAllLaws
import Derived.Laws.BitsLemmas
namespace Go.Proofs.YtbnconieedgcmaaDoor

/-! The sum. -/
/-- Turned left by five bits. -/
def rot (t : Nat) : Nat := t % 134217728 * 32 + t / 134217728
def stp (s x : Nat) : Nat := (rot (s ^^^ x) + 2654435761) % 4294967296
def seed0 : Nat := 2166136261
theorem seed0_lt : seed0 < 4294967296 := by unfold seed0; omega
def sumFrom (s : Nat) (l : List Nat) : Nat := l.foldl stp s
theorem sumFrom_nil (s : Nat) : sumFrom s [] = s := rfl
theorem sumFrom_cons (s x : Nat) (l : List Nat) : sumFrom s (x :: l) = sumFrom (stp s x) l := by unfold sumFrom; rw [List.foldl_cons]
theorem sumFrom_app (s : Nat) (l m : List Nat) : sumFrom s (l ++ m) = sumFrom (sumFrom s l) m := List.foldl_append
def sumL (l : List Nat) : Nat := sumFrom seed0 l
attribute [irreducible] sumFrom seed0
theorem rot_lt {t : Nat} (h : t < 4294967296) : rot t < 4294967296 := by unfold rot; omega
theorem rot_inj {a b : Nat} (ha : a < 4294967296) (hb : b < 4294967296) (h : rot a = rot b) : a = b := by unfold rot at h; omega
theorem xor_lt {s x : Nat} (hs : s < 4294967296) (hx : x < 256) : s ^^^ x < 4294967296 := Nat.xor_lt_two_pow (n := 32) hs (by omega)
theorem stp_lt (s x : Nat) : stp s x < 4294967296 := Nat.mod_lt _ (by decide)
theorem xor_right {a b c : Nat} (h : a ^^^ c = b ^^^ c) : a = b := by
  have := congrArg (· ^^^ c) h
  simpa [Nat.xor_assoc] using this
theorem xor_left {a b c : Nat} (h : c ^^^ a = c ^^^ b) : a = b := by
  rw [Nat.xor_comm c a, Nat.xor_comm c b] at h; exact xor_right h
theorem stp_inj {s t x y : Nat} (hs : s < 4294967296) (ht : t < 4294967296) (hx : x < 256) (hy : y < 256) (h : stp s x = stp t y) : s ^^^ x = t ^^^ y := by
  have h1 := xor_lt hs hx
  have h2 := xor_lt ht hy
  have r1 := rot_lt h1
  have r2 := rot_lt h2
  refine rot_inj h1 h2 ?_
  unfold stp at h
  omega
theorem stp_left {s t x : Nat} (hs : s < 4294967296) (ht : t < 4294967296) (hx : x < 256) (h : stp s x = stp t x) : s = t := xor_right (stp_inj hs ht hx hx h)
theorem stp_right {s x y : Nat} (hs : s < 4294967296) (hx : x < 256) (hy : y < 256) (h : stp s x = stp s y) : x = y := xor_left (stp_inj hs hs hx hy h)
attribute [irreducible] stp
theorem fold_lt {s : Nat} (hs : s < 4294967296) (l : List Nat) : sumFrom s l < 4294967296 := by
  induction l generalizing s with
  | nil => rw [sumFrom_nil]; exact hs
  | cons x l ih => rw [sumFrom_cons]; exact ih (stp_lt _ _)
theorem sumL_lt (l : List Nat) : sumL l < 4294967296 := fold_lt seed0_lt l
theorem sumL_snoc (l : List Nat) (x : Nat) : sumL (l ++ [x]) = stp (sumL l) x := by unfold sumL; rw [sumFrom_app, sumFrom_cons, sumFrom_nil]
theorem fold_inj {s t : Nat} (hs : s < 4294967296) (ht : t < 4294967296) (l : List Nat) (hl : ∀ x ∈ l, x < 256) (h : sumFrom s l = sumFrom t l) : s = t := by
  induction l generalizing s t with
  | nil => rw [sumFrom_nil, sumFrom_nil] at h; exact h
  | cons x l ih =>
    rw [sumFrom_cons, sumFrom_cons] at h
    exact stp_left hs ht (hl x (by simp)) (ih (stp_lt _ _) (stp_lt _ _) (fun y hy => hl y (by simp [hy])) h)
/-- One byte turned: another sum. -/
theorem sumL_set (l : List Nat) (hl : ∀ x ∈ l, x < 256) (k y : Nat) (hk : k < l.length) (hy : y < 256) : sumL l = sumL (l.set k y) ↔ l[k] = y := by
  have hsplit : l = l.take k ++ l[k] :: l.drop (k + 1) := by rw [List.getElem_cons_drop, List.take_append_drop]
  have hset : l.set k y = l.take k ++ y :: l.drop (k + 1) := by rw [List.set_eq_take_append_cons_drop, if_pos hk]
  constructor
  · intro h
    rw [hset] at h
    rw [show sumL l = sumL (l.take k ++ l[k] :: l.drop (k + 1)) from congrArg sumL hsplit] at h
    unfold sumL at h
    rw [sumFrom_app, sumFrom_app, sumFrom_cons, sumFrom_cons] at h
    have hb : sumFrom seed0 (l.take k) < 4294967296 := fold_lt seed0_lt _
    have := fold_inj (stp_lt _ _) (stp_lt _ _) _ (fun x hx => hl x (List.mem_of_mem_drop hx)) h
    exact stp_right hb (hl _ (List.getElem_mem hk)) hy this
  · intro h
    rw [← h, List.set_getElem_self]

/-! A number's lowest bytes. -/
/-- Byte i of a number, the lowest is 0. -/
def byteN (v : Int) (i : Nat) : Nat := (v / 256 ^ i % 256).toNat
theorem byteN_lt (v : Int) (i : Nat) : byteN v i < 256 := by unfold byteN; omega
/-- The lowest k bytes, the highest first. -/
def lowB (v : Int) : Nat → List Nat
  | 0 => []
  | k + 1 => byteN v k :: lowB v k
theorem lowB_len (v : Int) (k : Nat) : (lowB v k).length = k := by induction k with | zero => rfl | succ k ih => simp [lowB, ih]
theorem lowB_lt (v : Int) (k : Nat) : ∀ x ∈ lowB v k, x < 256 := by
  induction k with
  | zero => intro x hx; simp [lowB] at hx
  | succ k ih =>
    intro x hx
    simp only [lowB, List.mem_cons] at hx
    rcases hx with rfl | hx
    · exact byteN_lt _ _
    · exact ih x hx
/-- The number that stands in bytes. -/
def numL (l : List Nat) : Nat := l.foldl (fun v x => v * 256 + x) 0
theorem numL_snoc (l : List Nat) (x : Nat) : numL (l ++ [x]) = numL l * 256 + x := by unfold numL; rw [List.foldl_append]; rfl
theorem numL_low (v : Nat) (k : Nat) (hk : k ≤ 4) : numL (lowB v k) = v % 256 ^ k := by
  match k, hk with
  | 0, _ => simp [lowB, numL, Nat.mod_one]
  | 1, _ => simp [lowB, numL, byteN]; omega
  | 2, _ => simp [lowB, numL, byteN]; omega
  | 3, _ => simp [lowB, numL, byteN]; omega
  | 4, _ => simp [lowB, numL, byteN]; omega

/-! Bits. -/
/-- The bit of a place. -/
def bitY (b : List Nat) (i : Nat) : Bool := ((b[i / 8]?).getD 0).testBit (i % 8)
theorem bitY_eq (b : List Nat) (i : Nat) (h : i / 8 < b.length) : bitY b i = b[i / 8].testBit (i % 8) := by unfold bitY; rw [List.getElem?_eq_getElem h]; rfl
theorem bitY_out (b : List Nat) (i : Nat) (h : b.length * 8 ≤ i) : bitY b i = false := by unfold bitY; rw [List.getElem?_eq_none (by omega)]; simp
/-- Bytes are told by their bits. -/
theorem bits_uniq {a b : List Nat} (hl : a.length = b.length) (ha : ∀ x ∈ a, x < 256) (hb : ∀ x ∈ b, x < 256) (h : ∀ i, i < a.length * 8 → bitY a i = bitY b i) : a = b := by
  refine List.ext_getElem hl fun k h1 h2 => Nat.eq_of_testBit_eq fun j => ?_
  by_cases hj : j < 8
  · have := h (k * 8 + j) (by omega)
    have e1 : (k * 8 + j) / 8 = k := by omega
    have e2 : (k * 8 + j) % 8 = j := by omega
    rw [bitY_eq a _ (by omega), bitY_eq b _ (by omega)] at this
    simp only [e1, e2] at this
    exact this
  · have p : 256 ≤ 2 ^ j := Nat.le_trans (show 256 ≤ 2 ^ 8 by decide) (Nat.pow_le_pow_right (by decide) (by omega))
    rw [Nat.testBit_lt_two_pow (Nat.lt_of_lt_of_le (ha _ (List.getElem_mem h1)) p), Nat.testBit_lt_two_pow (Nat.lt_of_lt_of_le (hb _ (List.getElem_mem h2)) p)]
/-- Bytes of these bits. -/
def IsBits (b : List Nat) (l : List Bool) : Prop := b.length = (l.length + 7) / 8 ∧ (∀ x ∈ b, x < 256) ∧ ∀ i, bitY b i = (l[i]?).getD false
theorem IsBits.uniq {a b : List Nat} {l : List Bool} (ha : IsBits a l) (hb : IsBits b l) : a = b := bits_uniq (by rw [ha.1, hb.1]) ha.2.1 hb.2.1 fun i _ => by rw [ha.2.2, hb.2.2]
/-- One bit set. -/
theorem bitY_set (b : List Nat) (i j : Nat) (h : i / 8 < b.length) : bitY (b.set (i / 8) (b[i / 8] ||| 2 ^ (i % 8))) j = (bitY b j || decide (j = i)) := by
  unfold bitY
  rw [List.getElem?_set]
  by_cases e : i / 8 = j / 8
  · rw [if_pos e, if_pos (by omega), Option.getD_some, Nat.testBit_or, Nat.testBit_two_pow, ← e, List.getElem?_eq_getElem h, Option.getD_some]
    congr 1
    by_cases f : j = i
    · subst f; simp
    · have : i % 8 ≠ j % 8 := by omega
      simp [f, this]
  · rw [if_neg e]
    have : j ≠ i := by intro f; subst f; exact e rfl
    simp [this]
theorem set_or_lt {x i : Nat} (h : x < 256) : x ||| 2 ^ (i % 8) < 256 := Nat.or_lt_two_pow (n := 8) (by omega) (by
  have : i % 8 < 8 := Nat.mod_lt _ (by decide)
  exact Nat.pow_lt_pow_right (by decide) this)
theorem set_lt {b : List Nat} (hb : ∀ x ∈ b, x < 256) (k y : Nat) (hy : y < 256) : ∀ x ∈ b.set k y, x < 256 := fun x hx => by
  rcases List.mem_or_eq_of_mem_set hx with h | h
  · exact hb x h
  · subst h; exact hy
open Classical in
/-- What Unbits tells. -/
noncomputable def unbR (b : List Nat) (n : Int) : Option (List Bool) :=
  if 0 ≤ n ∧ n ≤ 8 * b.length ∧ (b.length : Int) ≤ (n + 7) / 8 ∧ (∀ i, n.toNat ≤ i → i < 8 * b.length → bitY b i = false) then some ((List.range n.toNat).map (bitY b)) else none
end Go.Proofs.YtbnconieedgcmaaDoor
