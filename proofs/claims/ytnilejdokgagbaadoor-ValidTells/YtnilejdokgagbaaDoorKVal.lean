/- Package valid: its mathematics, and what its functions return. -/
import Derived.Test.YtnilejdokgagbaaDoorKA1
import Derived.Test.YtnilejdokgagbaaDoorKA2
import Derived.Deep.DeepMust
import Derived.Maps.OwnSet
import Derived.DeepKeys4
/- Plain mathematics of a table that may be (stage 7): what is broken first, which states are apart. No program. -/
namespace Go.Proofs.YtnilejdokgagbaaDoor

/-- Counts. -/
def cntV (t : Tb) : Bool := decide (1 ≤ t.cl) && decide (t.cl ≤ 8) && decide (1 ≤ t.nx.length) && decide (t.nx.length ≤ 5) && decide (1 ≤ t.bd.length) && decide (t.bd.length ≤ 60) && decide (t.br.length = t.nx.length) && t.nx.all (fun r => decide ((r.length : Int) = t.cl))
structure CntV (t : Tb) : Prop where
  c1 : 1 ≤ t.cl
  c2 : t.cl ≤ 8
  n1 : 1 ≤ t.nx.length
  n2 : t.nx.length ≤ 5
  k1 : 1 ≤ t.bd.length
  k2 : t.bd.length ≤ 60
  b1 : t.br.length = t.nx.length
  rw : ∀ r ∈ t.nx, (r.length : Int) = t.cl
theorem cntV_iff (t : Tb) : cntV t = true ↔ CntV t := by
  unfold cntV
  simp only [Bool.and_eq_true, decide_eq_true_eq, List.all_eq_true]
  constructor
  · rintro ⟨⟨⟨⟨⟨⟨⟨a, b⟩, c⟩, d⟩, e⟩, f⟩, g⟩, h⟩
    exact ⟨a, b, c, d, e, f, g, h⟩
  · rintro ⟨a, b, c, d, e, f, g, h⟩
    exact ⟨⟨⟨⟨⟨⟨⟨a, b⟩, c⟩, d⟩, e⟩, f⟩, g⟩, h⟩
/-- A scalar. -/
def scalB (v : Int) : Bool := (decide (0 ≤ v) && decide (v < 55296)) || (decide (57343 < v) && decide (v ≤ 1114111))
/-- The i-th band is good behind the one ahead of it. -/
def bandAt (l : List (Int × Int)) (i : Nat) : Int × Int := l.getD i (0, 0)
def okBand (l : List (Int × Int)) (i : Nat) : Bool :=
  (i != 0 || (bandAt l i).1 == 0) && scalB (bandAt l i).1 && (i == 0 || (decide ((bandAt l (i - 1)).1 < (bandAt l i).1) && (bandAt l i).2 != (bandAt l (i - 1)).2))
def bandsB (l : List (Int × Int)) : Bool := (List.range l.length).all (okBand l)
theorem bandsB_no {l : List (Int × Int)} {i : Nat} (hi : i < l.length) (h : okBand l i = false) : bandsB l = false := by
  cases hb : bandsB l with
  | false => rfl
  | true =>
    unfold bandsB at hb
    rw [List.all_eq_true] at hb
    rw [hb i (by simpa using hi)] at h
    cases h
theorem bandsB_yes {l : List (Int × Int)} (h : ∀ i < l.length, okBand l i = true) : bandsB l = true := by
  unfold bandsB
  rw [List.all_eq_true]
  intro i hi
  exact h i (by simpa using hi)
theorem bandsB_all {l : List (Int × Int)} (h : bandsB l = true) : ∀ i < l.length, okBand l i = true := by
  unfold bandsB at h
  rw [List.all_eq_true] at h
  intro i hi
  exact h i (by simpa using hi)
/-- Classes as they come. -/
def clScan : List (Int × Int) → Int → Option Int
  | [], m => some m
  | p :: l, m => if 0 ≤ p.2 ∧ p.2 ≤ m then clScan l (max m (p.2 + 1)) else none
theorem clScan_ge : ∀ (l : List (Int × Int)) (m r : Int), clScan l m = some r → m ≤ r
  | [], m, r, h => by simp [clScan] at h; omega
  | p :: l, m, r, h => by
    unfold clScan at h
    split at h
    · have := clScan_ge l _ _ h
      omega
    · cases h
def classB (t : Tb) : Bool := clScan t.bd 0 == some t.cl
/-- Nexts are states. -/
def stB (t : Tb) (v : Int) : Bool := decide (0 ≤ v) && decide (v < t.nx.length)
def nextB (t : Tb) : Bool := t.nx.all (fun r => r.all (stB t))
theorem nextB_all {t : Tb} (h : nextB t = true) {r : List Int} (hr : r ∈ t.nx) {v : Int} (hv : v ∈ r) : 0 ≤ v ∧ v < t.nx.length := by
  unfold nextB at h
  rw [List.all_eq_true] at h
  have := List.all_eq_true.1 (h r hr) v hv
  simpa [stB] using this
/-- States as they are met. -/
def ordRow : List Int → Int → Option Int
  | [], m => some m
  | v :: l, m => if m < v then none else ordRow l (max m (v + 1))
def ordScan : List (List Int) → Int → Int → Bool
  | [], _, _ => true
  | r :: L, s, m => if m ≤ s then false else match ordRow r m with | none => false | some m' => ordScan L (s + 1) m'
def orderB (t : Tb) : Bool := ordScan t.nx 0 1
/-- A table's parts by their numbers. -/
def brkN (t : Tb) (a : Nat) : Bool := t.br.getD a false
def nxI (t : Tb) (a c : Nat) : Int := (t.nx.getD a []).getD c 0
def nxN (t : Tb) (a c : Nat) : Nat := (nxI t a c).toNat
/-- Apart by a row of at most r classes. -/
def far (t : Tb) : Nat → Nat → Nat → Bool
  | 0, a, b => brkN t a != brkN t b
  | r + 1, a, b => far t r a b || (List.range t.cl.toNat).any (fun c => far t r (nxN t a c) (nxN t b c))
def farB (t : Tb) (a b : Nat) : Bool := far t (t.nx.length * t.nx.length) a b
def leastB (t : Tb) : Bool := (List.range t.nx.length).all fun b => (List.range b).all fun a => farB t a b
def colEq (t : Tb) (a b : Nat) : Bool := (List.range t.nx.length).all fun s => nxI t s a == nxI t s b
def colB (t : Tb) : Bool := (List.range t.cl.toNat).all fun b => (List.range b).all fun a => !colEq t a b
/-- What is broken first. -/
def errV (t : Tb) : Int :=
  if cntV t = false then 24 else if bandsB t.bd = false then 26 else if classB t = false then 27 else if nextB t = false then 28 else if orderB t = false then 29 else if leastB t = false then 30 else if colB t = false then 31 else 0
def alikeV (t : Tb) (a b : Int) : Bool := cntV t && nextB t && stB t a && stB t b && !farB t a.toNat b.toNat

/-! Apart. -/
theorem far_mono1 {t : Tb} {r a b : Nat} (h : far t r a b = true) : far t (r + 1) a b = true := by
  unfold far; rw [h]; rfl
theorem far_mono {t : Tb} {r r' a b : Nat} (h : far t r a b = true) (hr : r ≤ r') : far t r' a b = true := by
  induction hr with
  | refl => exact h
  | step _ ih => exact far_mono1 ih
theorem far_step {t : Tb} {r a b c : Nat} (hc : c < t.cl.toNat) (h : far t r (nxN t a c) (nxN t b c) = true) : far t (r + 1) a b = true := by
  unfold far
  rw [Bool.or_eq_true]
  exact .inr (List.any_eq_true.2 ⟨c, by simpa using hc, h⟩)
theorem far_cases {t : Tb} {r a b : Nat} (h : far t (r + 1) a b = true) : far t r a b = true ∨ ∃ c < t.cl.toNat, far t r (nxN t a c) (nxN t b c) = true := by
  unfold far at h
  rw [Bool.or_eq_true] at h
  rcases h with h | h
  · exact .inl h
  · obtain ⟨c, hc, h⟩ := List.any_eq_true.1 h
    exact .inr ⟨c, by simpa using hc, h⟩
theorem far_irr (t : Tb) (r a : Nat) : far t r a a = false := by
  induction r generalizing a with
  | zero => simp [far]
  | succ r ih =>
    cases h : far t (r + 1) a a with
    | false => rfl
    | true =>
      rcases far_cases h with h | ⟨c, _, h⟩
      · rw [ih] at h; cases h
      · rw [ih] at h; cases h
theorem far_symm (t : Tb) (r a b : Nat) : far t r a b = far t r b a := by
  induction r generalizing a b with
  | zero => simp only [far]; cases brkN t a <;> cases brkN t b <;> rfl
  | succ r ih =>
    unfold far
    rw [ih a b]
    congr 1
    congr 1
    funext c
    exact ih _ _
theorem far_tri {t : Tb} {r a b c : Nat} (h1 : far t r a b = false) (h2 : far t r b c = false) : far t r a c = false := by
  induction r generalizing a b c with
  | zero =>
    simp only [far, bne_eq_false_iff_eq] at h1 h2 ⊢
    rw [h1, h2]
  | succ r ih =>
    cases h : far t (r + 1) a c with
    | false => rfl
    | true =>
      have g : ∀ x y, far t (r + 1) x y = false → far t r x y = false ∧ ∀ k < t.cl.toNat, far t r (nxN t x k) (nxN t y k) = false := by
        intro x y hxy
        constructor
        · cases e : far t r x y with
          | false => rfl
          | true => rw [far_mono1 e] at hxy; cases hxy
        · intro k hk
          cases e : far t r (nxN t x k) (nxN t y k) with
          | false => rfl
          | true => rw [far_step hk e] at hxy; cases hxy
      obtain ⟨p1, p2⟩ := g _ _ h1
      obtain ⟨q1, q2⟩ := g _ _ h2
      rcases far_cases h with h | ⟨k, hk, h⟩
      · rw [ih p1 q1] at h; cases h
      · rw [ih (p2 k hk) (q2 k hk)] at h; cases h
/-- Nexts as numbers. -/
theorem nxN_lt {t : Tb} (hn : nextB t = true) (h0 : 0 < t.nx.length) (a c : Nat) : nxN t a c < t.nx.length := by
  unfold nxN nxI
  rw [List.getD_eq_getElem?_getD, List.getD_eq_getElem?_getD]
  cases ha : t.nx[a]? with
  | none => simpa using h0
  | some r =>
    have hr := List.mem_of_getElem? ha
    simp only [Option.getD_some]
    cases hc : r[c]? with
    | none => simpa using h0
    | some v =>
      have := nextB_all hn hr (List.mem_of_getElem? hc)
      simp only [Option.getD_some]
      omega
/-- The pairs that are apart by r. -/
def cntP (t : Tb) (r : Nat) : Nat := ((List.range t.nx.length).flatMap fun a => (List.range t.nx.length).map fun b => (a, b)).countP fun p => far t r p.1 p.2
theorem countP_lt {α : Type} {p q : α → Bool} {l : List α} (h : ∀ x ∈ l, p x = true → q x = true) {y : α} (hy : y ∈ l) (h1 : p y = false) (h2 : q y = true) : l.countP p < l.countP q := by
  induction l with
  | nil => simp at hy
  | cons x l ih =>
    have hle : l.countP p ≤ l.countP q := List.countP_mono_left (fun z hz => h z (by simp [hz]))
    rw [List.countP_cons, List.countP_cons]
    rcases List.mem_cons.1 hy with rfl | hy
    · rw [if_neg (by rw [h1]; simp), if_pos h2]; omega
    · have := ih (fun z hz => h z (by simp [hz])) hy
      have hx := h x (by simp)
      cases e : p x with
      | false => rw [if_neg (by simp)]; split <;> omega
      | true => rw [if_pos rfl, if_pos (hx e)]; omega
theorem pairs_len (n m : Nat) : ((List.range n).flatMap fun a => (List.range m).map fun b => (a, b)).length = n * m := by
  induction n with
  | zero => simp
  | succ n ih => rw [List.range_succ, List.flatMap_append, List.length_append, ih]; simp [Nat.succ_mul]
theorem pairs_mem {n m a b : Nat} : (a, b) ∈ ((List.range n).flatMap fun a => (List.range m).map fun b => (a, b)) ↔ a < n ∧ b < m := by
  simp only [List.mem_flatMap, List.mem_map, List.mem_range, Prod.mk.injEq]
  constructor
  · rintro ⟨x, hx, y, hy, rfl, rfl⟩; exact ⟨hx, hy⟩
  · rintro ⟨h1, h2⟩; exact ⟨a, h1, b, h2, rfl, rfl⟩
/-- Nothing new at r: nothing new ever. -/
theorem far_stable {t : Tb} (hn : nextB t = true) (h0 : 0 < t.nx.length) {r : Nat} (hs : ∀ a < t.nx.length, ∀ b < t.nx.length, far t (r + 1) a b = true → far t r a b = true) :
    ∀ k, ∀ a < t.nx.length, ∀ b < t.nx.length, far t (r + k) a b = true → far t r a b = true
  | 0, a, ha, b, hb, h => h
  | k + 1, a, ha, b, hb, h => by
    rcases far_cases (r := r + k) h with h | ⟨c, hc, h⟩
    · exact far_stable hn h0 hs k a ha b hb h
    · exact hs a ha b hb (far_step hc (far_stable hn h0 hs k _ (nxN_lt hn h0 a c) _ (nxN_lt hn h0 b c) h))
theorem far_grows {t : Tb} (hn : nextB t = true) (h0 : 0 < t.nx.length) : ∀ r, (∃ r' ≤ r, ∀ a < t.nx.length, ∀ b < t.nx.length, far t (r' + 1) a b = true → far t r' a b = true) ∨ r < cntP t r + 1
  | 0 => .inr (by omega)
  | r + 1 => by
    rcases far_grows hn h0 r with ⟨r', hr, h⟩ | h
    · exact .inl ⟨r', by omega, h⟩
    · by_cases hs : ∀ a < t.nx.length, ∀ b < t.nx.length, far t (r + 1) a b = true → far t r a b = true
      · exact .inl ⟨r, by omega, hs⟩
      · refine .inr ?_
        have : ∃ a < t.nx.length, ∃ b < t.nx.length, far t (r + 1) a b = true ∧ far t r a b = false := by
          false_or_by_contra
          rename_i hne
          refine hs fun a ha b hb h => ?_
          cases e : far t r a b with
          | true => rfl
          | false => exact absurd ⟨a, ha, b, hb, h, e⟩ hne
        obtain ⟨a, ha, b, hb, h1, h2⟩ := this
        have := countP_lt (p := fun p => far t r p.1 p.2) (q := fun p => far t (r + 1) p.1 p.2) (l := (List.range t.nx.length).flatMap fun a => (List.range t.nx.length).map fun b => (a, b)) (fun x _ hx => far_mono1 hx) (y := (a, b)) (pairs_mem.2 ⟨ha, hb⟩) h2 h1
        unfold cntP at h ⊢
        omega
theorem cntP_full {t : Tb} {r : Nat} (h : t.nx.length * t.nx.length ≤ cntP t r) {a b : Nat} (ha : a < t.nx.length) (hb : b < t.nx.length) : far t r a b = true := by
  have h1 : cntP t r = ((List.range t.nx.length).flatMap fun a => (List.range t.nx.length).map fun b => (a, b)).length := by
    have := List.countP_le_length (p := fun p : Nat × Nat => far t r p.1 p.2) (l := (List.range t.nx.length).flatMap fun a => (List.range t.nx.length).map fun b => (a, b))
    unfold cntP at h ⊢
    rw [pairs_len] at this ⊢
    omega
  exact List.countP_eq_length.1 h1 (a, b) (pairs_mem.2 ⟨ha, hb⟩)
theorem farB_top {t : Tb} (hn : nextB t = true) {a b r : Nat} (ha : a < t.nx.length) (hb : b < t.nx.length) (h : far t r a b = true) : farB t a b = true := by
  have h0 : 0 < t.nx.length := by omega
  unfold farB
  rcases far_grows hn h0 (t.nx.length * t.nx.length) with ⟨r', hr, hs⟩ | hc
  · have h1 := far_stable hn h0 hs r a ha b hb (far_mono h (by omega))
    exact far_mono h1 hr
  · exact cntP_full (by omega) ha hb
/-- What is closed under steps holds all that is apart. -/
theorem farB_closed {t : Tb} (hn : nextB t = true) (S : Nat → Nat → Prop) (h0 : ∀ a < t.nx.length, ∀ b < t.nx.length, brkN t a ≠ brkN t b → S a b)
    (h1 : ∀ a < t.nx.length, ∀ b < t.nx.length, ∀ c < t.cl.toNat, S (nxN t a c) (nxN t b c) → S a b) :
    ∀ r, ∀ a < t.nx.length, ∀ b < t.nx.length, far t r a b = true → S a b
  | 0, a, ha, b, hb, h => h0 a ha b hb (by simpa [far] using h)
  | r + 1, a, ha, b, hb, h => by
    have hp : 0 < t.nx.length := by omega
    rcases far_cases h with h | ⟨c, hc, h⟩
    · exact farB_closed hn S h0 h1 r a ha b hb h
    · exact h1 a ha b hb c hc (farB_closed hn S h0 h1 r _ (nxN_lt hn hp a c) _ (nxN_lt hn hp b c) h)
theorem farB_brk {t : Tb} (hn : nextB t = true) {a b : Nat} (ha : a < t.nx.length) (hb : b < t.nx.length) (h : brkN t a ≠ brkN t b) : farB t a b = true :=
  farB_top hn (r := 0) ha hb (by simpa [far] using h)
theorem farB_next {t : Tb} (hn : nextB t = true) {a b c : Nat} (ha : a < t.nx.length) (hb : b < t.nx.length) (hc : c < t.cl.toNat) (h : farB t (nxN t a c) (nxN t b c) = true) : farB t a b = true :=
  farB_top hn ha hb (far_step hc h)
theorem farB_symm (t : Tb) (a b : Nat) : farB t a b = farB t b a := far_symm _ _ _ _
theorem farB_irr (t : Tb) (a : Nat) : farB t a a = false := far_irr _ _ _
theorem farB_tri {t : Tb} {a b c : Nat} (h1 : farB t a b = false) (h2 : farB t b c = false) : farB t a c = false := far_tri h1 h2
theorem leastB_all {t : Tb} (h : leastB t = true) {a b : Nat} (hab : a < b) (hb : b < t.nx.length) : farB t a b = true := by
  unfold leastB at h
  rw [List.all_eq_true] at h
  exact List.all_eq_true.1 (h b (by simpa using hb)) a (by simpa using hab)
theorem leastB_yes {t : Tb} (h : ∀ b < t.nx.length, ∀ a < b, farB t a b = true) : leastB t = true := by
  unfold leastB
  rw [List.all_eq_true]
  intro b hb
  rw [List.all_eq_true]
  intro a ha
  exact h b (by simpa using hb) a (by simpa using ha)
theorem leastB_no {t : Tb} {a b : Nat} (hab : a < b) (hb : b < t.nx.length) (h : farB t a b = false) : leastB t = false := by
  cases e : leastB t with
  | false => rfl
  | true => rw [leastB_all e hab hb] at h; cases h
theorem colB_no {t : Tb} {a b : Nat} (hab : a < b) (hb : b < t.cl.toNat) (h : colEq t a b = true) : colB t = false := by
  cases e : colB t with
  | false => rfl
  | true =>
    unfold colB at e
    rw [List.all_eq_true] at e
    have := List.all_eq_true.1 (e b (by simpa using hb)) a (by simpa using hab)
    rw [h] at this; cases this
theorem colB_yes {t : Tb} (h : ∀ b < t.cl.toNat, ∀ a < b, colEq t a b = false) : colB t = true := by
  unfold colB
  rw [List.all_eq_true]
  intro b hb
  rw [List.all_eq_true]
  intro a ha
  rw [h b (by simpa using hb) a (by simpa using ha)]; rfl
theorem colEq_yes {t : Tb} {a b : Nat} (h : ∀ s < t.nx.length, nxI t s a = nxI t s b) : colEq t a b = true := by
  unfold colEq
  rw [List.all_eq_true]
  intro s hs
  rw [h s (by simpa using hs)]; exact beq_self_eq_true _
theorem colEq_no {t : Tb} {a b s : Nat} (hs : s < t.nx.length) (h : nxI t s a ≠ nxI t s b) : colEq t a b = false := by
  cases e : colEq t a b with
  | false => rfl
  | true =>
    unfold colEq at e
    rw [List.all_eq_true] at e
    have := e s (by simpa using hs)
    exact absurd (by simpa using this) h
/-- What errV says. -/
structure Vd (t : Tb) : Prop where
  cnt : cntV t = true
  bds : bandsB t.bd = true
  cls : classB t = true
  nxt : nextB t = true
  ord : orderB t = true
  lst : leastB t = true
  col : colB t = true
theorem errV_ok {t : Tb} : errV t = 0 ↔ Vd t := by
  unfold errV
  constructor
  · intro h
    cases h1 : cntV t <;> simp [h1] at h
    cases h2 : bandsB t.bd <;> simp [h2] at h
    cases h3 : classB t <;> simp [h3] at h
    cases h4 : nextB t <;> simp [h4] at h
    cases h5 : orderB t <;> simp [h5] at h
    cases h6 : leastB t <;> simp [h6] at h
    cases h7 : colB t <;> simp [h7] at h
    exact ⟨h1, h2, h3, h4, h5, h6, h7⟩
  · rintro ⟨h1, h2, h3, h4, h5, h6, h7⟩
    simp [h1, h2, h3, h4, h5, h6, h7]
end Go.Proofs.YtnilejdokgagbaaDoor
/- Plain mathematics of stage 7's statements: breaks turned, alike states. No program. -/
namespace Go.Proofs.YtnilejdokgagbaaDoor

theorem errV_cnt {t : Tb} (h : cntV t = false) : errV t = 24 := by unfold errV; simp [h]
theorem errV_br {t : Tb} (h : Vd t) (br' : List Bool) (hl : br'.length = t.br.length) : errV { t with br := br' } = if leastB { t with br := br' } = false then 30 else 0 := by
  have h1 : cntV { t with br := br' } = true := by
    have := h.cnt
    rw [cntV_iff] at this ⊢
    exact ⟨this.c1, this.c2, this.n1, this.n2, this.k1, this.k2, by show br'.length = _; rw [hl]; exact this.b1, this.rw⟩
  have h2 : bandsB ({ t with br := br' } : Tb).bd = true := h.bds
  have h3 : classB { t with br := br' } = true := h.cls
  have h4 : nextB { t with br := br' } = true := h.nxt
  have h5 : orderB { t with br := br' } = true := h.ord
  have h7 : colB { t with br := br' } = true := h.col
  unfold errV
  rw [h1, h2, h3, h4, h5, h7]
  simp
theorem far_turn {t : Tb} (hn : nextB t = true) (hl : t.br.length = t.nx.length) : ∀ r, ∀ a < t.nx.length, ∀ b < t.nx.length, far { t with br := t.br.map (!·) } r a b = far t r a b
  | 0, a, ha, b, hb => by
    have e : ∀ x < t.nx.length, brkN { t with br := t.br.map (!·) } x = !brkN t x := by
      intro x hx
      unfold brkN
      rw [List.getD_eq_getElem?_getD, List.getD_eq_getElem?_getD]
      show ((t.br.map (!·))[x]?.getD false) = _
      rw [List.getElem?_map, List.getElem?_eq_getElem (by omega)]
      rfl
    unfold far
    rw [e a ha, e b hb]
    cases brkN t a <;> cases brkN t b <;> rfl
  | r + 1, a, ha, b, hb => by
    have h0 : 0 < t.nx.length := by omega
    unfold far
    rw [far_turn hn hl r a ha b hb]
    congr 1
    have : ∀ c, far { t with br := t.br.map (!·) } r (nxN { t with br := t.br.map (!·) } a c) (nxN { t with br := t.br.map (!·) } b c) = far t r (nxN t a c) (nxN t b c) := fun c => far_turn hn hl r _ (nxN_lt hn h0 a c) _ (nxN_lt hn h0 b c)
    show (List.range t.cl.toNat).any _ = _
    congr 1
    funext c
    exact this c
theorem errV_turn {t : Tb} (h : Vd t) : errV { t with br := t.br.map (!·) } = 0 := by
  rw [errV_br h _ (by simp)]
  have hc := (cntV_iff t).1 h.cnt
  have : leastB { t with br := t.br.map (!·) } = true := leastB_yes fun b hb a ha => by
    have e := far_turn h.nxt hc.b1 (t.nx.length * t.nx.length) a (Nat.lt_trans ha hb) b hb
    have f := leastB_all h.lst ha hb
    unfold farB at f ⊢
    exact e.trans f
  rw [this]
  simp
/-- Two states alike, in words of far. -/
theorem alikeV_of {t : Tb} (h1 : cntV t = true) (h2 : nextB t = true) {a b : Nat} (ha : a < t.nx.length) (hb : b < t.nx.length) : alikeV t a b = !farB t a b := by
  have s : ∀ x : Nat, x < t.nx.length → stB t (x : Int) = true := fun x hx => by unfold stB; simp; omega
  unfold alikeV
  rw [h1, h2, s a ha, s b hb]
  simp
theorem alikeV_symm (t : Tb) (a b : Int) : alikeV t a b = alikeV t b a := by
  unfold alikeV
  rw [farB_symm t a.toNat b.toNat]
  cases cntV t <;> cases nextB t <;> cases stB t a <;> cases stB t b <;> rfl
theorem alikeV_yes {t : Tb} {a b : Int} (h : alikeV t a b = true) : cntV t = true ∧ nextB t = true ∧ stB t a = true ∧ stB t b = true ∧ farB t a.toNat b.toNat = false := by
  unfold alikeV at h
  simpa [and_assoc] using h
theorem alikeV_mk {t : Tb} {a b : Int} (h1 : cntV t = true) (h2 : nextB t = true) (h3 : stB t a = true) (h4 : stB t b = true) (h5 : farB t a.toNat b.toNat = false) : alikeV t a b = true := by
  unfold alikeV
  rw [h1, h2, h3, h4, h5]; rfl
theorem alikeV_tri {t : Tb} {a b c : Int} (h1 : alikeV t a b = true) (h2 : alikeV t b c = true) : alikeV t a c = true := by
  obtain ⟨p1, p2, p3, p4, p5⟩ := alikeV_yes h1
  obtain ⟨_, _, _, q4, q5⟩ := alikeV_yes h2
  exact alikeV_mk p1 p2 p3 q4 (farB_tri p5 q5)
theorem alikeV_self {t : Tb} {a b : Int} (h1 : alikeV t a b = true) : alikeV t a a = true := by
  obtain ⟨p1, p2, p3, p4, p5⟩ := alikeV_yes h1
  exact alikeV_mk p1 p2 p3 p3 (farB_irr _ _)
theorem alikeV_least {t : Tb} (h : Vd t) {a b : Int} (ha : stB t a = true) (hb : stB t b = true) : alikeV t a b = (a == b) := by
  by_cases e : a = b
  · subst e
    rw [alikeV_mk h.cnt h.nxt ha ha (farB_irr _ _)]
    simp
  · rw [show (a == b) = false by simpa using e]
    cases hx : alikeV t a b with
    | false => rfl
    | true =>
      obtain ⟨_, _, _, _, p5⟩ := alikeV_yes hx
      unfold stB at ha hb
      simp at ha hb
      rcases Nat.lt_or_ge a.toNat b.toNat with hlt | hge
      · rw [leastB_all h.lst hlt (by omega)] at p5; cases p5
      · rw [farB_symm, leastB_all h.lst (show b.toNat < a.toNat by omega) (by omega)] at p5; cases p5
/-- Whether some two are alike, as one walks over the pairs. -/
theorem least_alike {t : Tb} (h1 : cntV t = true) (h2 : nextB t = true) : ((List.range t.nx.length).any fun a => (List.range a).any fun b => alikeV t a b) = !leastB t := by
  cases e : leastB t with
  | true =>
    simp only [Bool.not_true]
    rw [List.any_eq_false]
    intro a ha
    rw [Bool.not_eq_true, List.any_eq_false]
    intro b hb
    simp only [List.mem_range] at ha hb
    rw [alikeV_of h1 h2 ha (by omega), farB_symm, leastB_all e hb ha]
    simp
  | false =>
    simp only [Bool.not_false]
    false_or_by_contra
    rename_i hne
    rw [Bool.not_eq_true, List.any_eq_false] at hne
    have : leastB t = true := leastB_yes fun b hb a ha => by
      have := hne b (by simpa using hb)
      rw [Bool.not_eq_true, List.any_eq_false] at this
      have := this a (by simpa using ha)
      rw [alikeV_of h1 h2 hb (by omega), farB_symm] at this
      simpa using this
    rw [this] at e; cases e
end Go.Proofs.YtnilejdokgagbaaDoor
/- What within, Is, isState and countsHold of package valid return. -/
namespace Go.Proofs.YtnilejdokgagbaaDoor
open Go.RowKit Go.BigFrame
set_option linter.unusedVariables false
set_option maxRecDepth 4000
set_option linter.unusedSimpArgs false

theorem vWithin_t (v a b : Int) (h : a ≤ v ∧ v ≤ b) (w : World) : Calls Tryd.prog 74 #[.int .i64 v, .int .i64 a, .int .i64 b] w fun e w' => e = .returned (.bool true) ∧ w' = w := by
  obtain ⟨h1, h2⟩ := h
  go_enter Tryd.func74, Tryd.ntmps74
  go_wp2_with fail
  go_ret
  exact ⟨rfl, rfl⟩
theorem vWithin_f (v a b : Int) (h : ¬ (a ≤ v ∧ v ≤ b)) (w : World) : Calls Tryd.prog 74 #[.int .i64 v, .int .i64 a, .int .i64 b] w fun e w' => e = .returned (.bool false) ∧ w' = w := by
  by_cases h1 : a ≤ v
  · have h2 : ¬ v ≤ b := fun h2 => h ⟨h1, h2⟩
    clear h
    go_enter Tryd.func74, Tryd.ntmps74
    go_wp2_with fail
    go_ret
    exact ⟨rfl, rfl⟩
  · clear h
    go_enter Tryd.func74, Tryd.ntmps74
    go_wp2_with fail
    go_ret
    exact ⟨rfl, rfl⟩
/-- From one number to another? -/
def inB (v a b : Int) : Bool := decide (a ≤ v ∧ v ≤ b)
theorem vWithin_any (v a b : Int) (w : World) : Calls Tryd.prog 74 #[.int .i64 v, .int .i64 a, .int .i64 b] w fun e w' => e = .returned (.bool (inB v a b)) ∧ w' = w := by
  by_cases h : a ≤ v ∧ v ≤ b
  · unfold inB; rw [decide_eq_true h]; exact vWithin_t v a b h w
  · unfold inB; rw [decide_eq_false h]; exact vWithin_f v a b h w
theorem validRune_yes (v : Int) (w : World) (h : 0 ≤ v ∧ v < 55296 ∨ 57344 ≤ v ∧ v ≤ 1114111) :
    Calls Tryd.prog 82 #[.int .i32 v] w fun e w' => e = .returned (.bool true) ∧ w = w' := by
  rcases h with ⟨h0, h1⟩ | ⟨h0, h1⟩
  · go_enter Tryd.func82, Tryd.ntmps82
    go_wp2
    go_ret
    exact ⟨rfl, rfl⟩
  · have h2 : ¬ v < 55296 := by omega
    have h3 : 0 ≤ v := by omega
    have h4 : 57343 < v := by omega
    go_enter Tryd.func82, Tryd.ntmps82
    go_wp2
    go_ret
    exact ⟨rfl, rfl⟩
theorem validRune_no (v : Int) (w : World) (h : v < 0 ∨ 55296 ≤ v ∧ v < 57344 ∨ 1114111 < v) :
    Calls Tryd.prog 82 #[.int .i32 v] w fun e w' => e = .returned (.bool false) ∧ w = w' := by
  rcases h with h0 | ⟨h0, h1⟩ | h0
  all_goals
    go_enter Tryd.func82, Tryd.ntmps82
    go_wp2
    go_ret
    exact ⟨rfl, rfl⟩
theorem scalIs_yes (v : Int) (w : World) (h : 0 ≤ v ∧ v < 55296 ∨ 57344 ≤ v ∧ v ≤ 1114111) :
    Calls Tryd.prog 75 #[.int .i64 v] w fun e w' => e = .returned (.bool true) ∧ w = w' := by
  have h0 : 0 ≤ v := by omega
  have h1 : v ≤ 1114111 := by omega
  have H := Lib.hid h
  clear h
  go_enter Tryd.func75, Tryd.ntmps75
  go_wp2_with (first | (go_at_call 82; go_must (refine (validRune_yes _ _ H.out).mono ?_; rintro e w' ⟨rfl, rfl⟩)))
  go_ret
  exact ⟨rfl, rfl⟩
theorem scalIs_no (v : Int) (w : World) (h : v < 0 ∨ 55296 ≤ v ∧ v < 57344 ∨ 1114111 < v) :
    Calls Tryd.prog 75 #[.int .i64 v] w fun e w' => e = .returned (.bool false) ∧ w = w' := by
  by_cases hr : -2147483648 ≤ v ∧ v ≤ 2147483647
  · obtain ⟨h0, h1⟩ := hr
    have H := Lib.hid h
    clear h
    go_enter Tryd.func75, Tryd.ntmps75
    go_wp2_with (first | (go_at_call 82; go_must (refine (validRune_no _ _ H.out).mono ?_; rintro e w' ⟨rfl, rfl⟩)))
    go_ret
    exact ⟨rfl, rfl⟩
  · have hw : (RowKit.wrap64 (RowKit.wrap32 v) == v) = false := by
      rw [beq_eq_false_iff_ne]
      unfold RowKit.wrap64 RowKit.wrap32
      omega
    clear h hr
    go_enter Tryd.func75, Tryd.ntmps75
    go_wp2
    go_ret
    exact ⟨rfl, rfl⟩
theorem scalB_iff (v : Int) : scalB v = true ↔ (0 ≤ v ∧ v < 55296 ∨ 57344 ≤ v ∧ v ≤ 1114111) := by unfold scalB; simp; omega
theorem scalIs_any (v : Int) (w : World) : Calls Tryd.prog 75 #[.int .i64 v] w fun e w' => e = .returned (.bool (scalB v)) ∧ w' = w := by
  by_cases h : 0 ≤ v ∧ v < 55296 ∨ 57344 ≤ v ∧ v ≤ 1114111
  · rw [(scalB_iff v).2 h]
    exact (scalIs_yes v w h).mono (fun e w' ⟨a, b⟩ => ⟨a, b.symm⟩)
  · have : scalB v = false := by
      cases hb : scalB v with
      | false => rfl
      | true => exact absurd ((scalB_iff v).1 hb) h
    rw [this]
    exact (scalIs_no v w (by omega)).mono (fun e w' ⟨a, b⟩ => ⟨a, b.symm⟩)
theorem refIs_any (v : Int) (w : World) : Calls Tryd.prog 59 #[.int .i64 v] w fun e w' => e = .returned (.bool (scalB v)) ∧ w' = w := by
  by_cases h1 : 0 ≤ v
  · by_cases h2 : v < 55296
    · have H := Lib.hid ((scalB_iff v).2 (.inl ⟨h1, h2⟩))
      go_enter Tryd.func59, Tryd.ntmps59
      go_wp2_with fail
      go_ret
      exact ⟨ret_bool H.out.symm, rfl⟩
    · by_cases h3 : 57344 ≤ v
      · by_cases h4 : v ≤ 1114111
        · have H := Lib.hid ((scalB_iff v).2 (.inr ⟨h3, h4⟩))
          go_enter Tryd.func59, Tryd.ntmps59
          go_wp2_with fail
          go_ret
          exact ⟨ret_bool H.out.symm, rfl⟩
        · have H : Hid (scalB v = false) := Lib.hid (by
            cases hb : scalB v with
            | false => rfl
            | true => exact absurd ((scalB_iff v).1 hb) (by omega))
          go_enter Tryd.func59, Tryd.ntmps59
          go_wp2_with fail
          go_ret
          exact ⟨ret_bool H.out.symm, rfl⟩
      · have H : Hid (scalB v = false) := Lib.hid (by
          cases hb : scalB v with
          | false => rfl
          | true => exact absurd ((scalB_iff v).1 hb) (by omega))
        go_enter Tryd.func59, Tryd.ntmps59
        go_wp2_with fail
        go_ret
        exact ⟨ret_bool H.out.symm, rfl⟩
  · have h5 : ¬ 57344 ≤ v := by omega
    have H : Hid (scalB v = false) := Lib.hid (by
      cases hb : scalB v with
      | false => rfl
      | true => exact absurd ((scalB_iff v).1 hb) (by omega))
    go_enter Tryd.func59, Tryd.ntmps59
    go_wp2_with fail
    go_ret
    exact ⟨ret_bool H.out.symm, rfl⟩
/-- A state of so many? -/
theorem isState_any (T : TV) (v : Int) (w : World) (hn : T.n2 ≤ 9223372036854775807) (hl : T.hs.length = T.n2) :
    Calls Tryd.prog 62 #[T.v, .int .i64 v] w fun e w' => e = .returned (.bool (stB T.tb v)) ∧ Below w.heap.size w w' := by
  obtain ⟨cl, a1, n1, c1, bd, a2, n2, c2, hs, a3, n3, c3, br⟩ := T
  simp only [TV.v] at *
  have H : Hid (inB v 0 ((n2 : Int) - 1) = stB (TV.tb ⟨cl, a1, n1, c1, bd, a2, n2, c2, hs, a3, n3, c3, br⟩) v) := Lib.hid (by
    unfold inB stB TV.tb
    simp only [listsOf_len, hl, ← Bool.decide_and]
    congr 1
    apply propext
    omega)
  have HW := Lib.hid (vWithin_any v 0 ((n2 : Int) - 1))
  go_enter Tryd.func62, Tryd.ntmps62
  go_wp2_with fail
  refine (HW.out _).mono ?_
  rintro e w1 ⟨rfl, rfl⟩
  go_wp2_with fail
  go_ret
  exact ⟨ret_bool H.out, below_new _ _⟩
set_option maxHeartbeats 2000000 in
theorem countsHold_any (T : TV) (w : World) (hT : T.ok w) :
    Calls Tryd.prog 51 #[T.v] w fun e w' => e = .returned (.bool (cntV T.tb)) ∧ Below w.heap.size w w' := by
  obtain ⟨cl, a1, n1, c1, bd, a2, n2, c2, hs, a3, n3, c3, br⟩ := T
  simp only [TV.v] at *
  have B1 : n1 ≤ 9223372036854775807 := by have := hT.s1.2; unfold maxLen at this; simp only [] at this; omega
  have B2 : n2 ≤ 9223372036854775807 := by have := hT.s2.2; unfold maxLen at this; simp only [] at this; omega
  have B3 : n3 ≤ 9223372036854775807 := by have := hT.s3.2; unfold maxLen at this; simp only [] at this; omega
  have BR : Hid (∀ h ∈ hs, h.n ≤ 9223372036854775807) := Lib.hid (fun h hh => by
    have := (hT.r2.2.2 h hh).2.2
    unfold maxLen at this
    omega)
  have L1 : bd.length = n1 := hT.r1.1
  have L2 : hs.length = n2 := hT.r2.1
  have L3 : br.length = n3 := hT.r3.1
  have HC := Lib.hid (cntV_iff (TV.tb ⟨cl, a1, n1, c1, bd, a2, n2, c2, hs, a3, n3, c3, br⟩))
  have HF : Hid (¬ CntV (TV.tb ⟨cl, a1, n1, c1, bd, a2, n2, c2, hs, a3, n3, c3, br⟩) → cntV (TV.tb ⟨cl, a1, n1, c1, bd, a2, n2, c2, hs, a3, n3, c3, br⟩) = false) := Lib.hid (fun h => by
    cases hb : cntV (TV.tb ⟨cl, a1, n1, c1, bd, a2, n2, c2, hs, a3, n3, c3, br⟩) with
    | false => rfl
    | true => exact absurd (HC.out.1 hb) h)
  have HP : Hid (CntV (TV.tb ⟨cl, a1, n1, c1, bd, a2, n2, c2, hs, a3, n3, c3, br⟩) ↔ ((1 ≤ cl ∧ cl ≤ 8) ∧ (1 ≤ (n2 : Int) ∧ (n2 : Int) ≤ 5) ∧ (1 ≤ (n1 : Int) ∧ (n1 : Int) ≤ 60) ∧ (n3 : Int) = n2 ∧ ∀ h ∈ hs, (h.n : Int) = cl)) := Lib.hid (by
    have e : ∀ h ∈ hs, h.l.length = h.n := fun h hh => (hT.r2.2.2 h hh).1.1
    constructor
    · rintro ⟨a, b, c, d, e1, f, g, r⟩
      simp only [TV.tb, listsOf_len] at a b c d e1 f g r
      refine ⟨⟨a, b⟩, ⟨by omega, by omega⟩, ⟨by omega, by omega⟩, by omega, fun h hh => ?_⟩
      have := r h.l (List.mem_map.2 ⟨h, hh, rfl⟩)
      rw [e h hh] at this
      exact this
    · rintro ⟨⟨a, b⟩, ⟨c, d⟩, ⟨f, g⟩, i, r⟩
      refine ⟨a, b, ?_, ?_, ?_, ?_, ?_, ?_⟩ <;> simp only [TV.tb, listsOf_len] <;> try omega
      intro r' hr'
      obtain ⟨h, hh, rfl⟩ := List.mem_map.1 hr'
      rw [e h hh]
      exact r h hh)
  have HN := Lib.hid (hT.r2.on (below_new w (.cells #[.int .i64 cl, .slice a1 n1 c1, .slice a2 n2 c2, .slice a3 n3 c3] 26)))
  clear hT L1 L2 L3 HC
  by_cases h1 : 1 ≤ cl ∧ cl ≤ 8
  case neg =>
    have HR := Lib.hid (HF.out (fun h => h1 (HP.out.1 h).1))
    go_enter Tryd.func51, Tryd.ntmps51
    go_wp2_with fail
    refine (vWithin_f _ _ _ h1 _).mono ?_
    rintro e w1 ⟨rfl, rfl⟩
    go_wp2_with fail
    go_ret
    exact ⟨ret_bool HR.out.symm, below_new _ _⟩
  by_cases h2 : 1 ≤ (n2 : Int) ∧ (n2 : Int) ≤ 5
  case neg =>
    have HR := Lib.hid (HF.out (fun h => h2 (HP.out.1 h).2.1))
    go_enter Tryd.func51, Tryd.ntmps51
    go_wp2_with fail
    refine (vWithin_t _ _ _ h1 _).mono ?_
    rintro e w1 ⟨rfl, rfl⟩
    go_wp2_with fail
    refine (vWithin_f _ _ _ h2 _).mono ?_
    rintro e w1 ⟨rfl, rfl⟩
    go_wp2_with fail
    go_ret
    exact ⟨ret_bool HR.out.symm, below_new _ _⟩
  by_cases h3 : 1 ≤ (n1 : Int) ∧ (n1 : Int) ≤ 60
  case neg =>
    have HR := Lib.hid (HF.out (fun h => h3 (HP.out.1 h).2.2.1))
    go_enter Tryd.func51, Tryd.ntmps51
    go_wp2_with fail
    refine (vWithin_t _ _ _ h1 _).mono ?_
    rintro e w1 ⟨rfl, rfl⟩
    go_wp2_with fail
    refine (vWithin_t _ _ _ h2 _).mono ?_
    rintro e w1 ⟨rfl, rfl⟩
    go_wp2_with fail
    refine (vWithin_f _ _ _ h3 _).mono ?_
    rintro e w1 ⟨rfl, rfl⟩
    go_wp2_with fail
    go_ret
    exact ⟨ret_bool HR.out.symm, below_new _ _⟩
  have h2a := h2.1
  have h2b := h2.2
  by_cases h4 : (n3 : Int) = n2
  case neg =>
    have HR := Lib.hid (HF.out (fun h => h4 (HP.out.1 h).2.2.2.1))
    have h4' : ((n3 : Int) != (n2 : Int)) = true := by simpa using h4
    go_enter Tryd.func51, Tryd.ntmps51
    go_wp2_with fail
    refine (vWithin_t _ _ _ h1 _).mono ?_
    rintro e w1 ⟨rfl, rfl⟩
    go_wp2_with fail
    refine (vWithin_t _ _ _ h2 _).mono ?_
    rintro e w1 ⟨rfl, rfl⟩
    go_wp2_with fail
    refine (vWithin_t _ _ _ h3 _).mono ?_
    rintro e w1 ⟨rfl, rfl⟩
    go_wp2_with fail
    go_ret
    exact ⟨ret_bool HR.out.symm, below_new _ _⟩
  have h4' : ((n3 : Int) != (n2 : Int)) = false := by simpa using h4
  have HP' : Hid ((∀ h ∈ hs, (h.n : Int) = cl) → CntV (TV.tb ⟨cl, a1, n1, c1, bd, a2, n2, c2, hs, a3, n3, c3, br⟩)) := Lib.hid (fun r => HP.out.2 ⟨h1, h2, h3, h4, r⟩)
  have HQ' : Hid (CntV (TV.tb ⟨cl, a1, n1, c1, bd, a2, n2, c2, hs, a3, n3, c3, br⟩) → (∀ h ∈ hs, (h.n : Int) = cl)) := Lib.hid (fun r => (HP.out.1 r).2.2.2.2)
  have HC := Lib.hid (cntV_iff (TV.tb ⟨cl, a1, n1, c1, bd, a2, n2, c2, hs, a3, n3, c3, br⟩))
  clear HP
  go_enter Tryd.func51, Tryd.ntmps51
  go_wp2_with fail
  refine (vWithin_t _ _ _ h1 _).mono ?_
  rintro e w1 ⟨rfl, rfl⟩
  go_wp2_with fail
  refine (vWithin_t _ _ _ h2 _).mono ?_
  rintro e w1 ⟨rfl, rfl⟩
  go_wp2_with fail
  refine (vWithin_t _ _ _ h3 _).mono ?_
  rintro e w1 ⟨rfl, rfl⟩
  go_wp2_with fail
  have p0 : (w.alloc (.cells #[.int .i64 cl, .slice a1 n1 c1, .slice a2 n2 c2, .slice a3 n3 c3] 26)).cell? ⟨w.heap.size, 0, none⟩ = some (.int .i64 cl) := by simp
  have b0 := below_new w (.cells #[.int .i64 cl, .slice a1 n1 c1, .slice a2 n2 c2, .slice a3 n3 c3] 26)
  generalize w.alloc (.cells #[.int .i64 cl, .slice a1 n1 c1, .slice a2 n2 c2, .slice a3 n3 c3] 26) = W at *
  have hz := b0.size
  go_loopw [35] (fun i wr => ∃ (k : Nat), k ≤ n2 ∧ i = .int .i64 k ∧ wr = W ∧ Hid (∀ h ∈ hs.take k, (h.n : Int) = cl)) (fun i _ => n2 - (intOf i).toNat)
  case atStart => exact ⟨0, Nat.zero_le _, rfl, rfl, Lib.hid (by simp)⟩
  case round =>
    obtain ⟨k, hk, rfl, rfl, HE⟩ := hrel
    by_cases hlt : k < n2
    · have kl : k < hs.length := by rw [HN.out.1]; exact hlt
      obtain ⟨b, o, rfl, _, q0, _, _⟩ := HN.out.at kl
      have HX := Lib.hid (List.getElem_mem kl)
      have HT : Hid (∀ h ∈ hs.take (k + 1), h ∈ hs.take k ∨ h = hs[k]) := Lib.hid (fun h hh => by
        rw [List.take_succ_eq_append_getElem kl] at hh
        rcases List.mem_append.1 hh with h1 | h1
        · exact .inl h1
        · exact .inr (List.mem_singleton.1 h1))
      have hxb := BR.out _ HX.out
      generalize hs[k] = x at *
      obtain ⟨xa, xn, xc, xs⟩ := x
      simp only [] at q0 hxb
      by_cases hx : (xn : Int) = cl
      · have hx' : ((xn : Int) != cl) = false := by simpa using hx
        have HE' : Hid (∀ h ∈ hs.take (k + 1), (h.n : Int) = cl) := Lib.hid (fun h hh => by
          rcases HT.out h hh with h1 | h1
          · exact HE.out h h1
          · subst h1; exact hx)
        clear hx HE HT HX
        go_wp2_with fail
        go_roundw
        case rel => exact ⟨k + 1, by omega, by go_num, trivial, HE'⟩
        case measure => simp [intOf]; omega
      · have hx' : ((xn : Int) != cl) = true := by simpa using hx
        have HR := Lib.hid (HF.out (fun h => hx (HQ'.out h _ HX.out)))
        clear hx HE HT HX
        go_wp2_with fail
        go_ret
        exact ⟨ret_bool HR.out.symm, b0⟩
    · have HR : Hid (cntV (TV.tb ⟨cl, a1, n1, c1, bd, a2, n2, c2, hs, a3, n3, c3, br⟩) = true) := Lib.hid (HC.out.2 (HP'.out (by
        have h := HE.out
        rwa [List.take_of_length_le (by rw [HN.out.1]; omega)] at h)))
      go_wp2_with fail
      go_ret
      exact ⟨ret_bool HR.out.symm, b0⟩
end Go.Proofs.YtnilejdokgagbaaDoor
/- What nextsHold, orderHolds, columnsAgree and columnsDiffer of package valid return. -/
namespace Go.Proofs.YtnilejdokgagbaaDoor
open Go.RowKit Go.BigFrame
set_option linter.unusedVariables false
set_option maxRecDepth 4000
set_option linter.unusedSimpArgs false

theorem nextB_yes {t : Tb} (h : ∀ r ∈ t.nx, r.all (stB t) = true) : nextB t = true := by
  unfold nextB; rw [List.all_eq_true]; exact h
theorem nextB_no {t : Tb} {r : List Int} (hr : r ∈ t.nx) {v : Int} (hv : v ∈ r) (h : stB t v = false) : nextB t = false := by
  cases hb : nextB t with
  | false => rfl
  | true =>
    unfold nextB at hb
    rw [List.all_eq_true] at hb
    have := List.all_eq_true.1 (hb r hr) v hv
    rw [h] at this; cases this
theorem below_call {B : Nat} {w W w1 : World} (h : Below B w W) (hB : B ≤ W.heap.size) (g : Below W.heap.size W w1) : Below B w w1 := h.trans (g.mono hB)
/-- The four cells of a table's box. -/
def Box (w : World) (g : Nat) (T : TV) : Prop := g < w.heap.size ∧ w.cell? ⟨g, 0, none⟩ = some (.int .i64 T.cl) ∧ w.cell? ⟨g, 1, none⟩ = some (.slice T.a1 T.n1 T.c1) ∧ w.cell? ⟨g, 2, none⟩ = some (.slice T.a2 T.n2 T.c2) ∧ w.cell? ⟨g, 3, none⟩ = some (.slice T.a3 T.n3 T.c3)
theorem Box.on {w w' : World} {g : Nat} {T : TV} (h : Box w g T) (b : Below w.heap.size w w') : Box w' g T :=
  ⟨Nat.lt_of_lt_of_le h.1 b.size, kept_cell b h.2.1, kept_cell b h.2.2.1, kept_cell b h.2.2.2.1, kept_cell b h.2.2.2.2⟩
theorem box_new (w : World) (T : TV) : Box (w.alloc (.cells #[.int .i64 T.cl, .slice T.a1 T.n1 T.c1, .slice T.a2 T.n2 T.c2, .slice T.a3 T.n3 T.c3] 26)) w.heap.size T := ⟨by simp, by simp, by simp, by simp, by simp⟩
set_option maxHeartbeats 4000000 in
theorem nextsHold_any (T : TV) (w : World) (hT : T.ok w) (hn : T.n2 ≤ 100) (hr : ∀ h ∈ T.hs, h.n ≤ 100) :
    Calls Tryd.prog 54 #[T.v] w fun e w' => e = .returned (.bool (nextB T.tb)) ∧ Below w.heap.size w w' := by
  have HIs := Lib.hid (fun v W => isState_any T v W (by omega) hT.r2.1)
  have HB0 := Lib.hid (box_new w T)
  have HF : Hid (∀ h ∈ T.hs, ∀ v ∈ h.l, stB T.tb v = false → nextB T.tb = false) := Lib.hid (fun h hh v hv e => nextB_no (t := T.tb) (List.mem_map.2 ⟨h, hh, rfl⟩) hv e)
  have HY : Hid ((∀ h ∈ T.hs, h.l.all (stB T.tb) = true) → nextB T.tb = true) := Lib.hid (fun h => nextB_yes (fun r hr => by
    obtain ⟨x, hx, rfl⟩ := List.mem_map.1 hr
    exact h x hx))
  generalize T.tb = t at *
  obtain ⟨cl, a1, n1, c1, bd, a2, n2, c2, hs, a3, n3, c3, br⟩ := T
  simp only [TV.v] at *
  have BR := Lib.hid hr
  have HN := Lib.hid (hT.r2.on (below_new w (.cells #[.int .i64 cl, .slice a1 n1 c1, .slice a2 n2 c2, .slice a3 n3 c3] 26)))
  clear hT hr
  go_enter Tryd.func54, Tryd.ntmps54
  go_wp2_with fail
  have b0 := below_new w (.cells #[.int .i64 cl, .slice a1 n1 c1, .slice a2 n2 c2, .slice a3 n3 c3] 26)
  generalize w.alloc (.cells #[.int .i64 cl, .slice a1 n1 c1, .slice a2 n2 c2, .slice a3 n3 c3] 26) = W at *
  have hbs := b0.size
  go_loopw [10] (fun vi wr => ∃ (k : Nat), k ≤ n2 ∧ vi = .int .i64 k ∧ Hid (Below W.heap.size W wr) ∧ Hid (∀ h ∈ hs.take k, h.l.all (stB t) = true)) (fun vi _ => n2 - (intOf vi).toNat)
  case atStart => exact ⟨0, Nat.zero_le _, rfl, Lib.hid (Below.refl _ _), Lib.hid (by simp)⟩
  case round =>
    obtain ⟨k, hk, rfl, HB, HE⟩ := hrel
    by_cases hlt : k < n2
    · have HNW := Lib.hid (HN.out.on HB.out)
      have kl : k < hs.length := by rw [HN.out.1]; exact hlt
      obtain ⟨b, o, rfl, hbl, q0, qr, _⟩ := HNW.out.at kl
      have HX := Lib.hid (List.getElem_mem kl)
      have HT : Hid (∀ h ∈ hs.take (k + 1), h ∈ hs.take k ∨ h = hs[k]) := Lib.hid (fun h hh => by
        rw [List.take_succ_eq_append_getElem kl] at hh
        rcases List.mem_append.1 hh with h1 | h1
        · exact .inl h1
        · exact .inr (List.mem_singleton.1 h1))
      have hxb := BR.out _ HX.out
      have HFx := Lib.hid (HF.out _ HX.out)
      generalize hs[k] = x at *
      obtain ⟨xa, xn, xc, xs⟩ := x
      simp only [] at q0 hxb qr HFx
      have HRX := Lib.hid qr
      clear qr
      go_wp2_with fail
      rename World => w0
      go_loopw [16] (fun vj wr => ∃ (j : Nat), j ≤ xn ∧ vj = .int .i64 j ∧ Hid (Below w0.heap.size w0 wr) ∧ Hid ((xs.take j).all (stB t) = true)) (fun vj _ => xn - (intOf vj).toNat)
      case atStart => exact ⟨0, Nat.zero_le _, rfl, Lib.hid (Below.refl _ _), Lib.hid (by simp)⟩
      case round =>
        obtain ⟨j, hj, rfl, HBj, HEj⟩ := hrel
        have HBw := Lib.hid (below_call HB.out HB.out.size HBj.out)
        by_cases hjn : j < xn
        · obtain ⟨bb, oo, rfl, _, r0⟩ := (HRX.out.on HBj.out).at (k := j) (by have := HRX.out.1; omega)
          have jl : j < xs.length := by have := HRX.out.1; omega
          obtain ⟨_, p0, p1, p2, p3⟩ := HB0.out.on HBw.out
          simp only [] at p0 p1 p2 p3
          have HA : Hid ((xs.take (j + 1)).all (stB t) = ((xs.take j).all (stB t) && stB t xs[j])) := Lib.hid (by rw [List.take_succ_eq_append_getElem jl, List.all_append]; simp)
          have HV := Lib.hid (List.getElem_mem jl)
          generalize xs[j] = y at *
          cases hy : stB t y
          · have HR := Lib.hid (HFx.out y HV.out hy)
            have HC := Lib.hid (HIs.out y wr)
            rw [hy] at HC
            clear HA HV HE HT HEj hy
            go_wp2_with fail
            refine HC.out.mono ?_
            rintro e w1 ⟨rfl, g⟩
            go_wp2_with fail
            go_ret
            exact ⟨ret_bool HR.out.symm, below_call b0 hbs (below_call HBw.out HBw.out.size g)⟩
          · have HEj2 : Hid ((xs.take (j + 1)).all (stB t) = true) := Lib.hid (by rw [HA.out, HEj.out, hy]; rfl)
            have HC := Lib.hid (HIs.out y wr)
            rw [hy] at HC
            clear HA HV HEj hy
            go_wp2_with fail
            refine HC.out.mono ?_
            rintro e w1 ⟨rfl, g⟩
            have HBj2 := Lib.hid (below_call HBj.out HBj.out.size g)
            go_wp2_with fail
            go_roundw
            case rel => exact ⟨j + 1, by omega, by go_num, HBj2, HEj2⟩
            case measure => simp [intOf]; omega
        · have HE2 : Hid (∀ h ∈ hs.take (k + 1), h.l.all (stB t) = true) := Lib.hid (fun h hh => by
            rcases HT.out h hh with h1 | h1
            · exact HE.out h h1
            · subst h1
              have h2 := HEj.out
              rwa [List.take_of_length_le (by have := HRX.out.1; omega)] at h2)
          clear HE HT HEj
          go_wp2_with fail
          go_roundw
          case rel => exact ⟨k + 1, by omega, by go_num, HBw, HE2⟩
          case measure => simp [intOf]; omega
    · have HR : Hid (nextB t = true) := Lib.hid (HY.out (by
        have h := HE.out
        rwa [List.take_of_length_le (by rw [HN.out.1]; omega)] at h))
      go_wp2_with fail
      go_ret
      exact ⟨ret_bool HR.out.symm, below_call b0 hbs HB.out⟩
theorem ordScan_cons (r : List Int) (L : List (List Int)) (s m : Int) : ordScan (r :: L) s m = (if m ≤ s then false else match ordRow r m with | none => false | some m' => ordScan L (s + 1) m') := rfl
theorem ordRow_cons (v : Int) (l : List Int) (m : Int) : ordRow (v :: l) m = if m < v then none else ordRow l (max m (v + 1)) := rfl
/-- What is left of the scan within a row. -/
def ordRest (l : List Int) (L : List (List Int)) (s m : Int) : Bool := match ordRow l m with | none => false | some m' => ordScan L (s + 1) m'
set_option maxHeartbeats 4000000 in
theorem orderHolds_any (T : TV) (w : World) (hT : T.ok w) (hn : T.n2 ≤ 100) (hr : ∀ h ∈ T.hs, h.n ≤ 100) (hv : ∀ h ∈ T.hs, ∀ v ∈ h.l, 0 ≤ v ∧ v ≤ 100) :
    Calls Tryd.prog 55 #[T.v] w fun e w' => e = .returned (.bool (orderB T.tb)) ∧ Below w.heap.size w w' := by
  have HO : Hid (orderB T.tb = ordScan (listsOf T.hs) 0 1) := Lib.hid rfl
  rw [HO.out]
  clear HO
  obtain ⟨cl, a1, n1, c1, bd, a2, n2, c2, hs, a3, n3, c3, br⟩ := T
  simp only [TV.v] at *
  have BR := Lib.hid hr
  have BV := Lib.hid hv
  have HN := Lib.hid (hT.r2.on (below_new w (.cells #[.int .i64 cl, .slice a1 n1 c1, .slice a2 n2 c2, .slice a3 n3 c3] 26)))
  clear hT hr hv
  go_enter Tryd.func55, Tryd.ntmps55
  go_wp2_with fail
  have b0 := below_new w (.cells #[.int .i64 cl, .slice a1 n1 c1, .slice a2 n2 c2, .slice a3 n3 c3] 26)
  generalize w.alloc (.cells #[.int .i64 cl, .slice a1 n1 c1, .slice a2 n2 c2, .slice a3 n3 c3] 26) = W at *
  go_loopw [3, 11] (fun vm vi wr => ∃ (k : Nat) (m : Int), k ≤ n2 ∧ vi = .int .i64 k ∧ vm = .int .i64 m ∧ 0 ≤ m ∧ m ≤ 101 ∧ wr = W ∧ Hid (ordScan (listsOf (hs.drop k)) k m = ordScan (listsOf hs) 0 1)) (fun vm vi _ => n2 - (intOf vi).toNat)
  case atStart => exact ⟨0, 1, Nat.zero_le _, rfl, rfl, by omega, by omega, rfl, Lib.hid rfl⟩
  case round =>
    obtain ⟨k, m, hk, rfl, rfl, hm0, hm1, rfl, HE⟩ := hrel
    by_cases hlt : k < n2
    · have kl : k < hs.length := by rw [HN.out.1]; exact hlt
      obtain ⟨b, o, rfl, hbl, q0, qr, _⟩ := HN.out.at kl
      have HX := Lib.hid (List.getElem_mem kl)
      have HD : Hid (listsOf (hs.drop k) = hs[k].l :: listsOf (hs.drop (k + 1))) := Lib.hid (by rw [List.drop_eq_getElem_cons kl]; rfl)
      have hxb := BR.out _ HX.out
      have HVx := Lib.hid (BV.out _ HX.out)
      generalize hs[k] = x at *
      obtain ⟨xa, xn, xc, xs⟩ := x
      simp only [] at q0 hxb qr HVx HD
      have HRX := Lib.hid qr
      clear qr
      by_cases hms : m ≤ k
      · have HR : Hid (ordScan (listsOf hs) 0 1 = false) := Lib.hid (by rw [← HE.out, HD.out, ordScan_cons, if_pos hms])
        clear HE HD
        go_wp2_with fail
        go_ret
        exact ⟨ret_bool HR.out.symm, b0⟩
      · have HE1 : Hid (ordRest xs (listsOf (hs.drop (k + 1))) k m = ordScan (listsOf hs) 0 1) := Lib.hid (by rw [← HE.out, HD.out, ordScan_cons, if_neg hms]; rfl)
        clear HE HD
        rename World => w0
        go_wp2_with fail
        go_loopw [3, 21] (fun vm vj wr => ∃ (j : Nat) (m : Int), j ≤ xn ∧ vj = .int .i64 j ∧ vm = .int .i64 m ∧ 0 ≤ m ∧ m ≤ 101 ∧ wr = w0 ∧ Hid (ordRest (xs.drop j) (listsOf (hs.drop (k + 1))) k m = ordScan (listsOf hs) 0 1)) (fun vm vj _ => xn - (intOf vj).toNat)
        case atStart => exact ⟨0, m, Nat.zero_le _, rfl, rfl, hm0, hm1, rfl, HE1⟩
        case round =>
          clear HE1 hms
          obtain ⟨j, m', hj, rfl, rfl, hm0', hm1', rfl, HEj⟩ := hrel
          by_cases hjn : j < xn
          · have jl : j < xs.length := by have := HRX.out.1; omega
            obtain ⟨bb, oo, rfl, _, r0⟩ := HRX.out.at jl
            obtain ⟨hy0, hy1⟩ := HVx.out _ (List.getElem_mem jl)
            have HD : Hid (xs.drop j = xs[j] :: xs.drop (j + 1)) := Lib.hid (List.drop_eq_getElem_cons jl)
            generalize xs[j] = y at *
            by_cases hym : m' < y
            · have HR : Hid (ordScan (listsOf hs) 0 1 = false) := Lib.hid (by
                rw [← HEj.out, HD.out]; unfold ordRest; rw [ordRow_cons, if_pos hym])
              clear HEj HD
              go_wp2_with fail
              go_ret
              exact ⟨ret_bool HR.out.symm, b0⟩
            · have HE2 : Hid (ordRest (xs.drop (j + 1)) (listsOf (hs.drop (k + 1))) k (max m' (y + 1)) = ordScan (listsOf hs) 0 1) := Lib.hid (by
                rw [← HEj.out, HD.out]; conv => rhs; unfold ordRest; rw [ordRow_cons, if_neg hym]
                rfl)
              have hx0 : 0 ≤ max m' (y + 1) := by omega
              have hx1 : max m' (y + 1) ≤ 101 := by omega
              clear HEj HD
              go_wp2_with fail
              go_roundw
              case rel => exact ⟨j + 1, max m' (y + 1), by omega, by go_num, by first | rfl | go_num, hx0, hx1, by first | rfl | trivial, HE2⟩
              case measure => simp [intOf]; omega
          · have HE2 : Hid (ordScan (listsOf (hs.drop (k + 1))) ((k + 1 : Nat) : Int) m' = ordScan (listsOf hs) 0 1) := Lib.hid (by
              have e : xs.drop j = [] := List.drop_eq_nil_of_le (by have := HRX.out.1; omega)
              rw [← HEj.out, e]
              unfold ordRest ordRow
              rw [Int.natCast_add]; rfl)
            clear HEj
            go_wp2_with fail
            go_roundw
            case rel => exact ⟨k + 1, m', by omega, by go_num, rfl, hm0', hm1', by first | rfl | trivial, HE2⟩
            case measure => simp [intOf]; omega
    · have HR : Hid (ordScan (listsOf hs) 0 1 = true) := Lib.hid (by
        rw [← HE.out, List.drop_eq_nil_of_le (by have := HN.out.1; omega)]; rfl)
      go_wp2_with fail
      go_ret
      exact ⟨ret_bool HR.out.symm, b0⟩
theorem nxI_at {T : TV} {s : Nat} (hs : s < T.hs.length) (c : Nat) : nxI T.tb s c = T.hs[s].l.getD c 0 := by
  have e : (T.hs.map (·.l)).getD s [] = T.hs[s].l := by
    rw [List.getD_eq_getElem?_getD, List.getElem?_map, List.getElem?_eq_getElem hs]
    rfl
  unfold nxI TV.tb listsOf
  simp only []
  rw [e]
theorem getD_ix {l : List Int} {c : Nat} (h : c < l.length) : l.getD c 0 = l[c] := by rw [List.getD_eq_getElem?_getD, List.getElem?_eq_getElem h]; rfl
set_option maxHeartbeats 4000000 in
theorem columnsAgree_any (T : TV) (a b : Nat) (w : World) (hT : T.ok w) (hn : T.n2 ≤ 100) (ha : ∀ h ∈ T.hs, a < h.n) (hb : ∀ h ∈ T.hs, b < h.n) (ha' : a ≤ 100) (hb' : b ≤ 100) :
    Calls Tryd.prog 76 #[T.v, .int .i64 a, .int .i64 b] w fun e w' => e = .returned (.bool (colEq T.tb a b)) ∧ Below w.heap.size w w' := by
  have HI := Lib.hid (fun s hs c => nxI_at (T := T) (s := s) hs c)
  have HL : Hid (T.tb.nx.length = T.n2) := Lib.hid (by unfold TV.tb; rw [listsOf_len]; exact hT.r2.1)
  have HF : Hid (∀ s < T.n2, nxI T.tb s a ≠ nxI T.tb s b → colEq T.tb a b = false) := Lib.hid (fun s hs h => colEq_no (by rw [HL.out]; exact hs) h)
  have HY : Hid ((∀ s < T.n2, nxI T.tb s a = nxI T.tb s b) → colEq T.tb a b = true) := Lib.hid (fun h => colEq_yes (fun s hs => h s (by rw [← HL.out]; exact hs)))
  clear HL
  generalize colEq T.tb a b = q at *
  generalize hq : nxI T.tb = f at *
  clear hq
  obtain ⟨cl, a1, n1, c1, bd, a2, n2, c2, hs, a3, n3, c3, br⟩ := T
  simp only [TV.v] at *
  have HA := Lib.hid ha
  have HBb := Lib.hid hb
  have HN := Lib.hid (hT.r2.on (below_new w (.cells #[.int .i64 cl, .slice a1 n1 c1, .slice a2 n2 c2, .slice a3 n3 c3] 26)))
  clear hT ha hb
  go_enter Tryd.func76, Tryd.ntmps76
  go_wp2_with fail
  have b0 := below_new w (.cells #[.int .i64 cl, .slice a1 n1 c1, .slice a2 n2 c2, .slice a3 n3 c3] 26)
  generalize w.alloc (.cells #[.int .i64 cl, .slice a1 n1 c1, .slice a2 n2 c2, .slice a3 n3 c3] 26) = W at *
  go_loopw [12] (fun vi wr => ∃ (k : Nat), k ≤ n2 ∧ vi = .int .i64 k ∧ Hid (Below W.heap.size W wr) ∧ Hid (∀ s < k, f s a = f s b)) (fun vi _ => n2 - (intOf vi).toNat)
  case atStart => exact ⟨0, Nat.zero_le _, rfl, Lib.hid (Below.refl _ _), Lib.hid (fun s hs => absurd hs (by omega))⟩
  case round =>
    obtain ⟨k, hk, rfl, HB, HE⟩ := hrel
    by_cases hlt : k < n2
    · have kl : k < hs.length := by rw [HN.out.1]; exact hlt
      have HNd := Lib.hid (HN.out.on HB.out)
      obtain ⟨bk, o, rfl, hbl, q0, qr, _⟩ := HNd.out.at kl
      have hxa := HA.out _ (List.getElem_mem kl)
      have hxb := HBb.out _ (List.getElem_mem kl)
      have HIa := Lib.hid (HI.out k kl a)
      have HIb := Lib.hid (HI.out k kl b)
      generalize hs[k] = x at *
      obtain ⟨xa, xn, xc, xs⟩ := x
      simp only [] at q0 hxa hxb qr HIa HIb
      have la : a < xs.length := by have := qr.1; omega
      have lb : b < xs.length := by have := qr.1; omega
      rw [getD_ix la] at HIa
      rw [getD_ix lb] at HIb
      obtain ⟨bb, oo, rfl, _, r0⟩ := qr.at la
      obtain ⟨bb', oo', hA', _, r1⟩ := qr.at lb
      injection hA' with hA'
      injection hA' with hA1 hA2
      subst hA1; subst hA2
      generalize xs[a] = ya at *
      generalize xs[b] = yb at *
      clear qr
      by_cases hy : ya = yb
      · have hy' : (ya != yb) = false := by simpa using hy
        have HE2 : Hid (∀ s < k + 1, f s a = f s b) := Lib.hid (fun s hs => by
          rcases Nat.lt_succ_iff_lt_or_eq.1 hs with h1 | h1
          · exact HE.out s h1
          · subst h1; rw [HIa.out, HIb.out]; exact hy)
        clear HE hy
        go_wp2_with fail
        go_quiet (fail)
        go_wp2_with fail
        go_roundw
        case rel => exact ⟨k + 1, by omega, by go_num, Lib.hid (below_drewN HB.out _), HE2⟩
        case measure => simp [intOf]; omega
      · have hy' : (ya != yb) = true := by simpa using hy
        have HR := Lib.hid (HF.out k hlt (by rw [HIa.out, HIb.out]; exact hy))
        clear HE hy
        go_wp2_with fail
        go_quiet (fail)
        go_wp2_with fail
        go_ret
        exact ⟨ret_bool HR.out.symm, below_drewN (below_call b0 b0.size HB.out) _⟩
    · have HR := Lib.hid (HY.out (fun s hs => HE.out s (by omega)))
      go_wp2_with fail
      go_ret
      exact ⟨ret_bool HR.out.symm, below_call b0 b0.size HB.out⟩
set_option maxHeartbeats 4000000 in
theorem columnsDiffer_any (T : TV) (w : World) (hT : T.ok w) (hn : T.n2 ≤ 100) (hc : 0 ≤ T.cl) (hc' : T.cl ≤ 100) (ha : ∀ h ∈ T.hs, (h.n : Int) = T.cl) :
    Calls Tryd.prog 57 #[T.v] w fun e w' => e = .returned (.bool (colB T.tb)) ∧ Below w.heap.size w w' := by
  have HAg := Lib.hid (fun (a b : Nat) W (g : Below w.heap.size w W) (h1 : a < T.cl.toNat) (h2 : b < T.cl.toNat) => columnsAgree_any T a b W (hT.on g) hn (fun h hh => by have := ha h hh; omega) (fun h hh => by have := ha h hh; omega) (by omega) (by omega))
  have HB0 := Lib.hid (box_new w T)
  have HF : Hid (∀ b < T.cl.toNat, ∀ a < b, colEq T.tb a b = true → colB T.tb = false) := Lib.hid (fun b hb a hab h => colB_no hab hb h)
  have HY : Hid ((∀ b < T.cl.toNat, ∀ a < b, colEq T.tb a b = false) → colB T.tb = true) := Lib.hid (fun h => colB_yes h)
  generalize colB T.tb = q at *
  generalize colEq T.tb = f at *
  obtain ⟨cl, a1, n1, c1, bd, a2, n2, c2, hs, a3, n3, c3, br⟩ := T
  simp only [TV.v] at *
  obtain ⟨K, rfl⟩ : ∃ K : Nat, cl = (K : Int) := ⟨cl.toNat, by omega⟩
  simp only [Int.toNat_natCast] at HAg HF HY
  clear hT ha
  go_enter Tryd.func57, Tryd.ntmps57
  go_wp2_with fail
  have b0 := below_new w (.cells #[.int .i64 K, .slice a1 n1 c1, .slice a2 n2 c2, .slice a3 n3 c3] 26)
  generalize w.alloc (.cells #[.int .i64 K, .slice a1 n1 c1, .slice a2 n2 c2, .slice a3 n3 c3] 26) = W at *
  have hbs := b0.size
  go_loopw [7] (fun vi wr => ∃ (b : Nat), b ≤ K ∧ vi = .int .i64 b ∧ Hid (Below W.heap.size W wr) ∧ Hid (∀ b' < b, ∀ a < b', f a b' = false)) (fun vi _ => K - (intOf vi).toNat)
  case atStart => exact ⟨0, Nat.zero_le _, rfl, Lib.hid (Below.refl _ _), Lib.hid (fun s hs => absurd hs (by omega))⟩
  case round =>
    obtain ⟨b, hb, rfl, HB, HE⟩ := hrel
    by_cases hlt : b < K
    · rename World => w0
      go_wp2_with fail
      go_loopw [11] (fun vj wr => ∃ (a : Nat), a ≤ b ∧ vj = .int .i64 a ∧ Hid (Below w0.heap.size w0 wr) ∧ Hid (∀ a' < a, f a' b = false)) (fun vj _ => b - (intOf vj).toNat)
      case atStart => exact ⟨0, Nat.zero_le _, rfl, Lib.hid (Below.refl _ _), Lib.hid (fun s hs => absurd hs (by omega))⟩
      case round =>
        obtain ⟨a, haa, rfl, HBj, HEj⟩ := hrel
        have HBw := Lib.hid (below_call HB.out HB.out.size HBj.out)
        by_cases hab : a < b
        · obtain ⟨_, p0, p1, p2, p3⟩ := HB0.out.on HBw.out
          simp only [] at p0 p1 p2 p3
          have HC := Lib.hid (HAg.out a b wr (below_call b0 hbs HBw.out) (by omega) hlt)
          cases hy : f a b
          · have HEj2 : Hid (∀ a' < a + 1, f a' b = false) := Lib.hid (fun s hs => by
              rcases Nat.lt_succ_iff_lt_or_eq.1 hs with h1 | h1
              · exact HEj.out s h1
              · subst h1; exact hy)
            rw [hy] at HC
            clear HEj hy
            go_wp2_with fail
            refine HC.out.mono ?_
            rintro e w1 ⟨rfl, g⟩
            have HBj2 := Lib.hid (below_call HBj.out HBj.out.size g)
            go_wp2_with fail
            go_roundw
            case rel => exact ⟨a + 1, by omega, by go_num, HBj2, HEj2⟩
            case measure => simp [intOf]; omega
          · have HR := Lib.hid (HF.out b hlt a hab hy)
            rw [hy] at HC
            clear HEj hy HE
            go_wp2_with fail
            refine HC.out.mono ?_
            rintro e w1 ⟨rfl, g⟩
            go_wp2_with fail
            go_ret
            exact ⟨ret_bool HR.out.symm, below_call b0 hbs (below_call HBw.out HBw.out.size g)⟩
        · have HE2 : Hid (∀ b' < b + 1, ∀ a < b', f a b' = false) := Lib.hid (fun s hs a' ha' => by
            rcases Nat.lt_succ_iff_lt_or_eq.1 hs with h1 | h1
            · exact HE.out s h1 a' ha'
            · subst h1; exact HEj.out a' (by omega))
          clear HE HEj
          go_wp2_with fail
          go_roundw
          case rel => exact ⟨b + 1, by omega, by go_num, HBw, HE2⟩
          case measure => simp [intOf]; omega
    · have HR := Lib.hid (HY.out (fun s hs => HE.out s (by omega)))
      go_wp2_with fail
      go_ret
      exact ⟨ret_bool HR.out.symm, below_call b0 hbs HB.out⟩
end Go.Proofs.YtnilejdokgagbaaDoor
/- A map by pairs: its keys' law, what a key reads as, the pairs that it holds. -/
namespace Go.Proofs.YtnilejdokgagbaaDoor
open Go.RowKit Go.BigFrame Go.Maps
set_option linter.unusedVariables false
set_option maxRecDepth 4000
set_option linter.unusedSimpArgs false

theorem laidAll : laidOutB Tryd.prog = true := by kernel_rfl
theorem row93 : (87 : TypeId) < Tryd.prog.types.size := of_decide_eq_true (by kernel_rfl)
theorem und93 : Tryd.prog.underlying 87 = some (.struct (Tryd.prog.fieldsOf 87)) := by kernel_rfl
theorem fields93 : Tryd.prog.underlying 87 = some (.struct #[Field.mk "low" 3 0 false "" "caesura/valid" 0, Field.mk "high" 3 1 false "" "caesura/valid" 8]) := by kernel_rfl
theorem cells93 : Tryd.prog.cellsOf 87 = 2 := by kernel_rfl
theorem cells3 : Tryd.prog.cellsOf 3 = 1 := by kernel_rfl
theorem und90 : Tryd.prog.underlying 84 = some (.map 87 81) := by kernel_rfl
theorem und3 : Tryd.prog.underlying 3 = some (.int .i64) := by kernel_rfl
theorem wide93 : (match Tryd.prog.underlying 87 with | some (.array _ _) | some (.struct _) => true | _ => false) = true := by rw [und93]
theorem law93 : Keyed Tryd.prog 87 := Keyed.of_law (deep_law_laid laidAll (m := 2) (by omega) row93 (by kernel_rfl) wide93)
theorem zero87 (w : World) : (zeroValue 81).run Tryd.prog w = .ok (.agg #[]) w := by kernel_rfl
/-- What a pair reads as. -/
noncomputable def kp (a b : Int) : Lit := .string (keyBytes [.int .i64 a, .int .i64 b])
theorem kp_key (a b : Int) (ha : -1000 ≤ a ∧ a ≤ 1000) (hb : -1000 ≤ b ∧ b ≤ 1000) : keyOf Tryd.prog 87 (.agg #[.int .i64 a, .int .i64 b]) = some (kp a b) := by
  have wa : (Lit.int .i64 a).wf = true := WalkArith.wf_i64 (by omega)
  have wb : (Lit.int .i64 b).wf = true := WalkArith.wf_i64 (by omega)
  have hk : Tryd.prog.keyType 87 = true := by kernel_rfl
  have hf : (Value.agg #[.int .i64 a, .int .i64 b]).formed Tryd.prog 87 = true := by kernel_rfl
  have hsz : Tryd.prog.types.size + 1 = 120 + 1 + 1 := by kernel_rfl
  have hl : Tryd.prog.keyLits (Tryd.prog.types.size + 1) 87 [.int .i64 a, .int .i64 b] = some [.int .i64 a, .int .i64 b] := by
    rw [hsz]
    have l1 : ∀ x : Int, (Lit.int .i64 x).wf = true → Tryd.prog.keyLits (120 + 1) 3 [.int .i64 x] = some [.int .i64 x] := fun x hx => by
      unfold Program.keyLits
      rw [und3]
      simp [hx]
    unfold Program.keyLits
    rw [fields93]
    simp only [cells93, cells3, List.length_cons, List.length_nil]
    rw [if_pos ⟨trivial, by kernel_rfl⟩]
    simp only [List.mapM_cons, List.mapM_nil, List.drop_zero, List.drop_succ_cons, List.take_succ_cons, List.take_zero, cells3, l1 a wa, l1 b wb]
    rfl
  unfold keyOf
  rw [und93]
  simp only [hk, hf, Bool.and_self, if_true]
  show (Tryd.prog.keyLits (Tryd.prog.types.size + 1) 87 [.int .i64 a, .int .i64 b]).map _ = _
  rw [hl]
  rfl
theorem kp_inj {a b c d : Int} (ha : -1000 ≤ a ∧ a ≤ 1000) (hb : -1000 ≤ b ∧ b ≤ 1000) (hc : -1000 ≤ c ∧ c ≤ 1000) (hd : -1000 ≤ d ∧ d ≤ 1000) (h : kp a b = kp c d) : a = c ∧ b = d := by
  have h1 := kp_key a b ha hb
  have h2 := kp_key c d hc hd
  rw [h] at h1
  have := law93.inj h1 h2
  injection this with this
  have := congrArg Array.toList this
  simp at this
  exact this
/-- All pairs of states, the lower one first. -/
def prs (n : Nat) : List (Nat × Nat) := (List.range n).flatMap fun b => (List.range b).map fun a => (a, b)
theorem prs_mem {n a b : Nat} : (a, b) ∈ prs n ↔ a < b ∧ b < n := by
  unfold prs
  simp only [List.mem_flatMap, List.mem_map, List.mem_range, Prod.mk.injEq]
  constructor
  · rintro ⟨x, hx, y, hy, rfl, rfl⟩; exact ⟨hy, hx⟩
  · rintro ⟨h1, h2⟩; exact ⟨b, h2, a, h1, rfl, rfl⟩
theorem prs_nodup {n : Nat} (h : n ≤ 5) : (prs n).Nodup := by
  have : ∀ k < 6, (prs k).Nodup := by decide
  exact this n (by omega)
theorem prs_len {n : Nat} (h : n ≤ 5) : (prs n).length = n * (n - 1) / 2 ∧ (prs n).length ≤ 10 := by
  have : ∀ k < 6, (prs k).length = k * (k - 1) / 2 ∧ (prs k).length ≤ 10 := by decide
  exact this n (by omega)
def cntS (n : Nat) (S : Nat → Nat → Bool) : Nat := (prs n).countP fun p => S p.1 p.2
/-- One pair more. -/
def addS (S : Nat → Nat → Bool) (a b : Nat) : Nat → Nat → Bool := fun x y => S x y || (x == a && y == b)
theorem addS_old {S : Nat → Nat → Bool} {a b : Nat} (h : S a b = true) : addS S a b = S := by
  funext x y
  unfold addS
  by_cases e : x = a ∧ y = b
  · obtain ⟨rfl, rfl⟩ := e; rw [h]; rfl
  · have : (x == a && y == b) = false := by simp; intro h1 h2; exact e ⟨h1, h2⟩
    rw [this, Bool.or_false]
theorem countP_add {α : Type} [DecidableEq α] {p : α → Bool} {l : List α} (hn : l.Nodup) {y : α} (hy : y ∈ l) (h : p y = false) : l.countP (fun x => p x || decide (x = y)) = l.countP p + 1 := by
  induction l with
  | nil => simp at hy
  | cons x l ih =>
    rw [List.nodup_cons] at hn
    rw [List.countP_cons, List.countP_cons]
    by_cases e : x = y
    · subst e
      have : l.countP (fun z => p z || decide (z = x)) = l.countP p := List.countP_congr (fun z hz => by
        have : z ≠ x := fun e => hn.1 (e ▸ hz)
        simp [this])
      rw [this, h]
      simp
    · have hy' : y ∈ l := by
        rcases List.mem_cons.1 hy with h1 | h1
        · exact absurd h1.symm e
        · exact h1
      rw [ih hn.2 hy']
      rw [decide_eq_false e, Bool.or_false]
      omega
theorem cntS_add {n : Nat} {S : Nat → Nat → Bool} (h5 : n ≤ 5) {a b : Nat} (hab : a < b) (hb : b < n) (h : S a b = false) : cntS n (addS S a b) = cntS n S + 1 := by
  unfold cntS
  rw [← countP_add (p := fun p : Nat × Nat => S p.1 p.2) (prs_nodup h5) (prs_mem.2 ⟨hab, hb⟩) h]
  congr 1
  funext p
  unfold addS
  obtain ⟨x, y⟩ := p
  have e : (x == a && y == b) = decide ((x, y) = (a, b)) := by rw [Bool.eq_iff_iff]; simp
  show (S x y || (x == a && y == b)) = (S x y || _)
  rw [e]
theorem cntS_le {n : Nat} (S : Nat → Nat → Bool) (h5 : n ≤ 5) : cntS n S ≤ 10 := Nat.le_trans List.countP_le_length (prs_len h5).2
theorem cntS_all {n : Nat} (S : Nat → Nat → Bool) (h5 : n ≤ 5) : cntS n S = n * (n - 1) / 2 ↔ ∀ b < n, ∀ a < b, S a b = true := by
  rw [← (prs_len h5).1]
  unfold cntS
  rw [List.countP_eq_length]
  constructor
  · intro h b hb a ha; exact h (a, b) (prs_mem.2 ⟨ha, hb⟩)
  · rintro h ⟨a, b⟩ hp; exact h b (prs_mem.1 hp).2 a (prs_mem.1 hp).1
/-- A map that holds these pairs. -/
structure MS (D : DataW Unit) (n : Nat) (S : Nat → Nat → Bool) : Prop where
  tidy : Tidy D
  has : ∀ a b : Nat, a ≤ 100 → b ≤ 100 → Maps.has D (kp a b) = S a b
  rng : ∀ a b, S a b = true → a < b ∧ b < n
  size : Maps.size D = cntS n S
theorem MS.start (n : Nat) : MS (.map []) n (fun _ _ => false) :=
  ⟨tidy_empty, fun a b _ _ => rfl, fun a b h => absurd h (by simp), by show 0 = cntS n _; unfold cntS; simp⟩
theorem MS.put {D : DataW Unit} {n : Nat} {S : Nat → Nat → Bool} (h : MS D n S) (h5 : n ≤ 5) {a b : Nat} (hab : a < b) (hb : b < n) : MS (D.put (kp a b) (.agg [])) n (addS S a b) := by
  have hk : WideAt.IsKeyLit (kp a b) := law93.key (kp_key a b (by omega) (by omega))
  refine ⟨h.tidy.put hk _, ?_, ?_, ?_⟩
  · intro x y hx hy
    by_cases e : x = a ∧ y = b
    · obtain ⟨rfl, rfl⟩ := e
      rw [has_put_same h.tidy.isMap hk]
      simp [addS]
    · have hne : kp x y ≠ kp a b := fun e' => by
        have := kp_inj (by omega) (by omega) (by omega) (by omega) e'
        exact e ⟨by omega, by omega⟩
      rw [has_put_other hne, h.has x y hx hy]
      have : (x == a && y == b) = false := by simp; intro h1 h2; exact e ⟨h1, h2⟩
      unfold addS
      rw [this, Bool.or_false]
  · intro x y hs
    unfold addS at hs
    rw [Bool.or_eq_true] at hs
    rcases hs with hs | hs
    · exact h.rng x y hs
    · simp at hs
      obtain ⟨rfl, rfl⟩ := hs
      exact ⟨hab, hb⟩
  · rw [size_put h.tidy, h.has a b (by omega) (by omega), h.size]
    cases e : S a b with
    | true => rw [addS_old e]; simp
    | false => rw [cntS_add h5 hab hb e]; simp
/-- The map at its own size. -/
theorem own_size {w : World} {b n : Nat} {D : DataW Unit} (h : w.ownsMap Tryd.prog 87 unitElem b n D) : w.ownsMap Tryd.prog 87 unitElem b (Maps.size D) D := by
  obtain ⟨es, clock, hb, F, hs, rfl⟩ := h
  exact ⟨es, clock, hb, F, by simp [Maps.size, length_sorted], rfl⟩
theorem ownM_on {w w' : World} {b n : Nat} {D : DataW Unit} (h : w.ownsMap Tryd.prog 87 unitElem b n D) (g : Below w.heap.size w w') : w'.ownsMap Tryd.prog 87 unitElem b n D :=
  h.kept (row := none) ⟨g.os, g.tape, g.output, g.size, fun i hi _ => g.block i hi⟩ (by simp)
/-- Just one breaks, or a class leads to two of these. -/
def pnB (t : Tb) (S : Nat → Nat → Bool) (a b : Nat) : Bool := (brkN t a != brkN t b) || (List.range t.cl.toNat).any fun c => S (min (nxN t a c) (nxN t b c)) (max (nxN t a c) (nxN t b c))
/-- Nothing more to find: what is held is what is apart. -/
theorem apart_is {t : Tb} (hn : nextB t = true) {S : Nat → Nat → Bool} (hr : ∀ a b, S a b = true → a < b ∧ b < t.nx.length) (hs : ∀ a b, S a b = true → farB t a b = true)
    (hc : ∀ b < t.nx.length, ∀ a < b, pnB t S a b = true → S a b = true) {a b : Nat} (hb : b < t.nx.length) (hab : a < b) : S a b = farB t a b := by
  cases e : farB t a b with
  | false =>
    cases e2 : S a b with
    | false => rfl
    | true => rw [hs a b e2] at e; cases e
  | true =>
    have key := farB_closed hn (fun x y => S (min x y) (max x y) = true) (fun x hx y hy hne => by
        have hxy : x ≠ y := fun e => hne (by rw [e])
        refine hc _ (by omega) _ (by omega) ?_
        unfold pnB
        rw [Bool.or_eq_true]
        refine .inl ?_
        rcases Nat.lt_or_ge x y with h | h
        · rw [Nat.min_eq_left (by omega), Nat.max_eq_right (by omega)]; simpa using hne
        · rw [Nat.min_eq_right (by omega), Nat.max_eq_left (by omega)]; simpa using fun e => hne e.symm)
      (fun x hx y hy c hcc h => by
        by_cases hxy : x = y
        · subst hxy
          have := (hr _ _ h).1
          omega
        · refine hc _ (by omega) _ (by omega) ?_
          unfold pnB
          rw [Bool.or_eq_true]
          refine .inr (List.any_eq_true.2 ⟨c, by simpa using hcc, ?_⟩)
          rcases Nat.lt_or_ge x y with h' | h'
          · rw [Nat.min_eq_left (a := x) (by omega), Nat.max_eq_right (a := x) (by omega)]; exact h
          · rw [Nat.min_eq_right (a := x) (by omega), Nat.max_eq_left (a := x) (by omega)]
            rw [Nat.min_comm, Nat.max_comm]; exact h) _ a (by omega) b hb e
    rw [Nat.min_eq_left (by omega), Nat.max_eq_right (by omega)] at key
    exact key
theorem pnB_sound {t : Tb} (hn : nextB t = true) {S : Nat → Nat → Bool} (hs : ∀ a b, S a b = true → farB t a b = true) {a b : Nat} (ha : a < t.nx.length) (hb : b < t.nx.length) (h : pnB t S a b = true) : farB t a b = true := by
  unfold pnB at h
  rw [Bool.or_eq_true] at h
  rcases h with h | h
  · exact farB_brk hn ha hb (by simpa using h)
  · obtain ⟨c, hc, h⟩ := List.any_eq_true.1 h
    refine farB_next hn ha hb (by simpa using hc) ?_
    have := hs _ _ h
    rcases Nat.le_total (nxN t a c) (nxN t b c) with h' | h'
    · rwa [Nat.min_eq_left h', Nat.max_eq_right h'] at this
    · rw [Nat.min_eq_right h', Nat.max_eq_left h'] at this
      rwa [farB_symm] at this
end Go.Proofs.YtnilejdokgagbaaDoor
/- What pairOf and partsNow of package valid return. -/
namespace Go.Proofs.YtnilejdokgagbaaDoor
open Go.RowKit Go.BigFrame Go.Maps
set_option linter.unusedVariables false
set_option maxRecDepth 4000
set_option linter.unusedSimpArgs false

theorem pairOf_any (a b : Nat) (w : World) : Calls Tryd.prog 64 #[.int .i64 a, .int .i64 b] w fun e w' => e = .returned (.agg #[.int .i64 ((min a b : Nat) : Int), .int .i64 ((max a b : Nat) : Int)]) ∧ Below w.heap.size w w' := by
  have HE : Hid ((((min a b : Nat) : Int) = min (a : Int) (b : Int)) ∧ (((max a b : Nat) : Int) = max (a : Int) (b : Int))) := Lib.hid (by omega)
  rw [HE.out.1, HE.out.2]
  clear HE
  generalize (a : Int) = a at *
  generalize (b : Int) = b at *
  go_enter Tryd.func64, Tryd.ntmps64
  go_wp2_with fail
  all_goals
    refine bodyPost_ret (v := .agg #[.int .i64 (min a b), .int .i64 (max a b)]) (by simp [results, Tryd.results64, go_sem] <;> omega) rfl ⟨rfl, by first | exact below_new _ _ | exact Below.setCells (below_new _ _) _ _ _ | (go_grown)⟩
theorem brkN_at {T : TV} {a : Nat} (h : a < T.br.length) : brkN T.tb a = T.br[a] := by
  unfold brkN TV.tb
  simp only []
  rw [List.getD_eq_getElem?_getD, List.getElem?_eq_getElem h]; rfl
/-- What partsNow says of the classes ahead of c. -/
def anyS (t : Tb) (S : Nat → Nat → Bool) (a b c : Nat) : Bool := (List.range c).any fun c => S (min (nxN t a c) (nxN t b c)) (max (nxN t a c) (nxN t b c))
theorem anyS_succ (t : Tb) (S : Nat → Nat → Bool) (a b c : Nat) : anyS t S a b (c + 1) = (anyS t S a b c || S (min (nxN t a c) (nxN t b c)) (max (nxN t a c) (nxN t b c))) := by
  unfold anyS; rw [List.range_succ, List.any_append]; simp
theorem anyS_le {t : Tb} {S : Nat → Nat → Bool} {a b c : Nat} (hc : c < t.cl.toNat) (h : S (min (nxN t a c) (nxN t b c)) (max (nxN t a c) (nxN t b c)) = true) : pnB t S a b = true := by
  unfold pnB
  rw [Bool.or_eq_true]
  exact .inr (List.any_eq_true.2 ⟨c, by simpa using hc, h⟩)
set_option maxHeartbeats 4000000 in
theorem partsNow_any (T : TV) (M : Nat) (D : DataW Unit) (S : Nat → Nat → Bool) (lo hi : Nat) (w : World) (hT : T.ok w) (hC : CntV T.tb) (hN : nextB T.tb = true) (hM : w.ownsMap Tryd.prog 87 unitElem M (Maps.size D) D) (hS : MS D T.n2 S) (hlo : lo < T.n2) (hhi : hi < T.n2) :
    Calls Tryd.prog 77 #[T.v, .map (some M), .agg #[.int .i64 lo, .int .i64 hi]] w fun e w' => e = .returned (.bool (pnB T.tb S lo hi)) ∧ Below w.heap.size w w' := by
  have h2 : T.hs.length = T.n2 := hT.r2.1
  have h3 : T.br.length = T.n3 := hT.r3.1
  have n5 : T.n2 ≤ 5 := by have := hC.n2; unfold TV.tb at this; simp only [listsOf_len] at this; omega
  have e3 : T.n3 = T.n2 := by have := hC.b1; unfold TV.tb at this; simp only [listsOf_len] at this; omega
  have l0 : lo < T.br.length := by omega
  have l1 : hi < T.br.length := by omega
  have B1 := Lib.hid (brkN_at (T := T) (a := lo) l0)
  have B2 := Lib.hid (brkN_at (T := T) (a := hi) l1)
  have K8 : T.cl.toNat ≤ 8 := by have := hC.c2; unfold TV.tb at this; simp only [] at this; omega
  have m0 : lo < T.hs.length := by omega
  have m1 : hi < T.hs.length := by omega
  have i0 : (lo : Int) < (T.n3 : Int) := by omega
  have i1 : (hi : Int) < (T.n3 : Int) := by omega
  have i2 : (lo : Int) < (T.n2 : Int) := by omega
  have i3 : (hi : Int) < (T.n2 : Int) := by omega
  have HRow : Hid (∀ h ∈ T.hs, h.n = T.cl.toNat) := Lib.hid (fun h hh => by
    have h1 := hC.rw h.l (List.mem_map.2 ⟨h, hh, rfl⟩)
    have h2 := (hT.r2.2.2 h hh).1.1
    have h4 : T.tb.cl = T.cl := rfl
    omega)
  have HNx : Hid (∀ s c, nxN T.tb s c < T.n2) := Lib.hid (fun s c => by have := nxN_lt hN (by have := hC.n1; omega) s c; rw [show T.tb.nx.length = T.n2 by unfold TV.tb; simp only [listsOf_len]; exact h2] at this; exact this)
  have HI : Hid (∀ s (hs : s < T.hs.length) c (hc : c < T.hs[s].l.length), T.hs[s].l[c] = (nxN T.tb s c : Int)) := Lib.hid (fun s hs c hc => by
    have e := nxI_at (T := T) hs c
    rw [getD_ix hc] at e
    have := nextB_all hN (List.mem_map.2 ⟨_, List.getElem_mem hs, rfl⟩) (List.getElem_mem hc)
    unfold nxN
    rw [e]
    omega)
  have HP : Hid (pnB T.tb S lo hi = ((brkN T.tb lo != brkN T.tb hi) || anyS T.tb S lo hi T.cl.toNat)) := Lib.hid rfl
  have HY : Hid (∀ c < T.cl.toNat, S (min (nxN T.tb lo c) (nxN T.tb hi c)) (max (nxN T.tb lo c) (nxN T.tb hi c)) = true → pnB T.tb S lo hi = true) := Lib.hid (fun c hc h => anyS_le (t := T.tb) hc h)
  have HA : Hid (∀ c, anyS T.tb S lo hi (c + 1) = (anyS T.tb S lo hi c || S (min (nxN T.tb lo c) (nxN T.tb hi c)) (max (nxN T.tb lo c) (nxN T.tb hi c)))) := Lib.hid (anyS_succ T.tb S lo hi)
  have HA0 : Hid (anyS T.tb S lo hi 0 = false) := Lib.hid rfl
  obtain ⟨cl, a1, n1, c1, bd, a2, n2, c2, hs, a3, n3, c3, br⟩ := T
  clear e3 h2 h3
  simp only [TV.v] at *
  have bx := below_new w (.cells #[.int .i64 cl, .slice a1 n1 c1, .slice a2 n2 c2, .slice a3 n3 c3] 26)
  have by0 := below_new (w.alloc (.cells #[.int .i64 cl, .slice a1 n1 c1, .slice a2 n2 c2, .slice a3 n3 c3] 26)) (.cells #[.int .i64 lo, .int .i64 hi] 87)
  have b0 := below_call bx bx.size by0
  have HOk := Lib.hid (hT.on b0)
  have HM := Lib.hid (ownM_on hM b0)
  have HS := Lib.hid hS
  obtain ⟨bb, ob, hA3, _, rb0⟩ := HOk.out.r3.at l0
  obtain ⟨bb', ob', hA3', _, rb1⟩ := HOk.out.r3.at l1
  simp only [] at hA3 hA3' rb0 rb1
  rw [hA3] at hA3'
  injection hA3' with hA3'
  injection hA3' with hb1 hb2
  subst hb1; subst hb2; subst hA3
  obtain ⟨bn, on, hA2, _, rn0, rx0, _⟩ := HOk.out.r2.at m0
  obtain ⟨bn', on', hA2', _, rn1, rx1, _⟩ := HOk.out.r2.at m1
  simp only [] at hA2 hA2' rn0 rn1 rx0 rx1
  rw [hA2] at hA2'
  injection hA2' with hA2'
  injection hA2' with hb1 hb2
  subst hb1; subst hb2; subst hA2
  have HI0 := Lib.hid (HI.out lo m0)
  have HI1 := Lib.hid (HI.out hi m1)
  have hn0 := HRow.out _ (List.getElem_mem m0)
  have hn1 := HRow.out _ (List.getElem_mem m1)
  generalize hs[lo] = x0 at *
  generalize hs[hi] = x1 at *
  generalize br[lo] = y0 at *
  generalize br[hi] = y1 at *
  obtain ⟨xa, xn, xc, xs⟩ := x0
  obtain ⟨za, zn, zc, zs⟩ := x1
  simp only [] at hn0 hn1 rn0 rn1 rx0 rx1 HI0 HI1
  rw [B1.out, B2.out] at HP
  clear hT hC hN hM hS HI HRow B1 B2
  generalize pnB _ S lo hi = q at *
  generalize anyS _ S lo hi = g at *
  generalize nxN _ = f at *
  generalize cl.toNat = K at *
  subst hn0
  have HX0 := Lib.hid rx0
  have HX1 := Lib.hid rx1
  clear rx0 rx1 HOk bx by0 l0 l1 m0 m1
  go_enter Tryd.func77, Tryd.ntmps77
  go_wp2_with fail
  have p2 : ((w.alloc (.cells #[.int .i64 cl, .slice a1 n1 c1, .slice (some ⟨bn, on, none⟩) n2 c2, .slice (some ⟨bb, ob, none⟩) n3 c3] 26)).alloc (.cells #[.int .i64 lo, .int .i64 hi] 87)).cell? ⟨w.heap.size, 2, none⟩ = some (.slice (some ⟨bn, on, none⟩) n2 c2) := by simp
  have p3 : ((w.alloc (.cells #[.int .i64 cl, .slice a1 n1 c1, .slice (some ⟨bn, on, none⟩) n2 c2, .slice (some ⟨bb, ob, none⟩) n3 c3] 26)).alloc (.cells #[.int .i64 lo, .int .i64 hi] 87)).cell? ⟨w.heap.size, 3, none⟩ = some (.slice (some ⟨bb, ob, none⟩) n3 c3) := by simp
  have s0 : ((w.alloc (.cells #[.int .i64 cl, .slice a1 n1 c1, .slice (some ⟨bn, on, none⟩) n2 c2, .slice (some ⟨bb, ob, none⟩) n3 c3] 26)).alloc (.cells #[.int .i64 lo, .int .i64 hi] 87)).cell? ⟨w.heap.size + 1, 0, none⟩ = some (.int .i64 lo) := by simp
  have s1 : ((w.alloc (.cells #[.int .i64 cl, .slice a1 n1 c1, .slice (some ⟨bn, on, none⟩) n2 c2, .slice (some ⟨bb, ob, none⟩) n3 c3] 26)).alloc (.cells #[.int .i64 lo, .int .i64 hi] 87)).cell? ⟨w.heap.size + 1, 1, none⟩ = some (.int .i64 hi) := by simp
  generalize ((w.alloc (.cells #[.int .i64 cl, .slice a1 n1 c1, .slice (some ⟨bn, on, none⟩) n2 c2, .slice (some ⟨bb, ob, none⟩) n3 c3] 26)).alloc (.cells #[.int .i64 lo, .int .i64 hi] 87)) = W at *
  have hbs := b0.size
  cases hy : (y0 != y1)
  case true =>
    have HQ : Hid (q = true) := Lib.hid (by rw [HP.out, hy]; rfl)
    have hy2 : (y0 == y1) = false := by revert hy; cases y0 <;> cases y1 <;> simp
    have hy3 : (!(y0 == y1)) = true := hy
    clear HP HA HA0 HY
    go_quiet (fail)
    go_wp2_with fail
    go_ret
    exact ⟨ret_bool HQ.out.symm, below_drewN b0 _⟩
  case false =>
    have HQ : Hid (g xn = false → q = false) := Lib.hid (fun h => by rw [HP.out, hy, h]; rfl)
    have hy2 : (y0 == y1) = true := by revert hy; cases y0 <;> cases y1 <;> simp
    have hy3 : (!(y0 == y1)) = false := hy
    clear HP
    go_quiet (fail)
    have bd1 := below_drewN (Below.refl W.heap.size W) nq
    have p2 := kept_cell bd1 p2
    have p3 := kept_cell bd1 p3
    have s0 := kept_cell bd1 s0
    have s1 := kept_cell bd1 s1
    have rn0 := kept_cell bd1 rn0
    have rn1 := kept_cell bd1 rn1
    have HX0 := Lib.hid (HX0.out.on bd1)
    have HX1 := Lib.hid (HX1.out.on bd1)
    have HM := Lib.hid (ownM_on HM.out bd1)
    have b0 := below_call b0 hbs bd1
    generalize W.drewN nq = W1 at *
    have hbs := b0.size
    clear bd1
    go_wp2_with fail
    go_loopw [31] (fun vi wr => ∃ (c : Nat), c ≤ xn ∧ vi = .int .i64 c ∧ Hid (Below W1.heap.size W1 wr) ∧ Hid (g c = false)) (fun vi _ => xn - (intOf vi).toNat)
    case atStart => exact ⟨0, Nat.zero_le _, rfl, Lib.hid (Below.refl _ _), HA0⟩
    case round =>
      obtain ⟨c, hc, rfl, HB, HE⟩ := hrel
      by_cases hlt : c < xn
      · have p2 := kept_cell HB.out p2
        have s1 := kept_cell HB.out s1
        have rn1 := kept_cell HB.out rn1
        have cl0 : c < xs.length := by have := HX0.out.1; omega
        have cl1 : c < zs.length := by have := HX1.out.1; omega
        obtain ⟨b4, o4, rfl, _, r4⟩ := (HX0.out.on HB.out).at cl0
        obtain ⟨b5, o5, rfl, _, r5⟩ := (HX1.out.on HB.out).at cl1
        rw [HI0.out c cl0] at r4
        rw [HI1.out c cl1] at r5
        have hf0 := HNx.out lo c
        have hf1 := HNx.out hi c
        have HMw := Lib.hid (ownM_on HM.out HB.out)
        have HAc := Lib.hid (HA.out c)
        have HYc := Lib.hid (HY.out c hlt)
        generalize f lo c = u0 at *
        generalize f hi c = u1 at *
        have HK := Lib.hid (kp_key ((min u0 u1 : Nat) : Int) ((max u0 u1 : Nat) : Int) (by omega) (by omega))
        have HH := Lib.hid (HS.out.has (min u0 u1) (max u0 u1) (by omega) (by omega))
        have iz : (c : Int) < (zn : Int) := by omega
        cases hS : S (min u0 u1) (max u0 u1)
        all_goals rw [hS] at HH HAc HYc
        all_goals clear hS
        case false =>
          clear HA HY
          go_wp2_with fail
          refine (pairOf_any u0 u1 _).mono ?_
          rintro e w2 ⟨rfl, g2⟩
          have HM2 := Lib.hid (ownM_on HMw.out g2)
          have HB2 := Lib.hid (below_call HB.out HB.out.size g2)
          clear HMw g2
          go_wp2_with (at_lookup; refine wpList_lookup_own_unit _ rfl _ _ 84 rfl 87 81 law93 und90 (zero87 _) M _ D rfl HM2.out _ _ rfl HK.out ?_; rw [HH.out])
          have HE2 : Hid (g (c + 1) = false) := Lib.hid (by rw [HAc.out, HE.out]; rfl)
          go_roundw
          case rel => exact ⟨c + 1, by omega, by go_num, Lib.hid (below_call HB2.out HB2.out.size (below_new _ _)), HE2⟩
          case measure => simp [intOf]; omega
        case true =>
          clear HA HY
          go_wp2_with fail
          refine (pairOf_any u0 u1 _).mono ?_
          rintro e w2 ⟨rfl, g2⟩
          have HM2 := Lib.hid (ownM_on HMw.out g2)
          have HB2 := Lib.hid (below_call HB.out HB.out.size g2)
          clear HMw g2
          go_wp2_with (at_lookup; refine wpList_lookup_own_unit _ rfl _ _ 84 rfl 87 81 law93 und90 (zero87 _) M _ D rfl HM2.out _ _ rfl HK.out ?_; rw [HH.out])
          have HQ2 := Lib.hid (HYc.out (by first | rfl | trivial))
          go_ret
          exact ⟨ret_bool HQ2.out.symm, below_call b0 hbs (below_call HB2.out HB2.out.size (below_new _ _))⟩
      · have HQ2 : Hid (q = false) := Lib.hid (HQ.out (by rw [show xn = c by omega]; exact HE.out))
        go_wp2_with fail
        go_ret
        exact ⟨ret_bool HQ2.out.symm, below_call b0 hbs HB.out⟩
end Go.Proofs.YtnilejdokgagbaaDoor
/- What apart of package valid returns. -/
namespace Go.Proofs.YtnilejdokgagbaaDoor
open Go.RowKit Go.BigFrame Go.Maps
set_option linter.unusedVariables false
set_option maxRecDepth 4000
set_option linter.unusedSimpArgs false

/-- A map of the pairs that are apart. -/
def OutAp (t : Tb) (w : World) (e : Ending) (w' : World) : Prop := ∃ (M : Nat) (D : DataW Unit) (S : Nat → Nat → Bool), e = .returned (.map (some M)) ∧ w'.ownsMap Tryd.prog 87 unitElem M (Maps.size D) D ∧ MS D t.nx.length S ∧ (∀ b < t.nx.length, ∀ a < b, S a b = farB t a b) ∧ Below w.heap.size w w'
/-- The state of a round: since its start the map has only grown; if it has not, all that was looked at is closed. -/
structure Rnd (t : Tb) (S0 S : Nat → Nat → Bool) (done : Nat → Nat → Prop) : Prop where
  snd : ∀ a b, S a b = true → farB t a b = true
  ge : cntS t.nx.length S0 ≤ cntS t.nx.length S
  cls : cntS t.nx.length S = cntS t.nx.length S0 → S = S0 ∧ ∀ a b, done a b → pnB t S0 a b = true → S0 a b = true
theorem Rnd.no {t : Tb} {S0 S : Nat → Nat → Bool} {done done' : Nat → Nat → Prop} (h : Rnd t S0 S done) {a b : Nat} (hp : pnB t S a b = false) (hd : ∀ x y, done' x y → done x y ∨ (x = a ∧ y = b)) : Rnd t S0 S done' :=
  ⟨h.snd, h.ge, fun e => by
    obtain ⟨e1, h1⟩ := h.cls e
    refine ⟨e1, fun x y hxy hpn => ?_⟩
    rcases hd x y hxy with h2 | ⟨rfl, rfl⟩
    · exact h1 x y h2 hpn
    · rw [e1] at hp; rw [hp] at hpn; cases hpn⟩
theorem Rnd.yes {t : Tb} {S0 S : Nat → Nat → Bool} {done done' : Nat → Nat → Prop} (h : Rnd t S0 S done) (h5 : t.nx.length ≤ 5) (hn : nextB t = true) {a b : Nat} (hab : a < b) (hb : b < t.nx.length) (hp : pnB t S a b = true) (hd : ∀ x y, done' x y → done x y ∨ (x = a ∧ y = b)) : Rnd t S0 (addS S a b) done' := by
  refine ⟨?_, ?_, ?_⟩
  · intro x y hxy
    unfold addS at hxy
    rw [Bool.or_eq_true] at hxy
    rcases hxy with hxy | hxy
    · exact h.snd x y hxy
    · simp at hxy
      obtain ⟨rfl, rfl⟩ := hxy
      exact pnB_sound hn h.snd (by omega) hb hp
  · cases e : S a b with
    | true => rw [addS_old e]; exact h.ge
    | false => rw [cntS_add h5 hab hb e]; have := h.ge; omega
  · intro e'
    cases e : S a b with
    | true =>
      rw [addS_old e] at e' ⊢
      obtain ⟨e1, h1⟩ := h.cls e'
      refine ⟨e1, fun x y hxy hpn => ?_⟩
      rcases hd x y hxy with h2 | ⟨rfl, rfl⟩
      · exact h1 x y h2 hpn
      · rw [← e1]; exact e
    | false => rw [cntS_add h5 hab hb e] at e'; have := h.ge; omega
theorem Rnd.next {t : Tb} {S0 S : Nat → Nat → Bool} {done done' : Nat → Nat → Prop} (h : Rnd t S0 S done) (hd : ∀ x y, done' x y → done x y) : Rnd t S0 S done' :=
  ⟨h.snd, h.ge, fun e => ⟨(h.cls e).1, fun x y hxy hpn => (h.cls e).2 x y (hd x y hxy) hpn⟩⟩
/-- Between rounds: the count at the last round's start; if it is this one, nothing is left to find. -/
structure Btw (t : Tb) (bf : Int) (S : Nat → Nat → Bool) : Prop where
  snd : ∀ a b, S a b = true → farB t a b = true
  le : bf ≤ cntS t.nx.length S
  lo : -1 ≤ bf
  cls : bf = cntS t.nx.length S → ∀ b < t.nx.length, ∀ a < b, pnB t S a b = true → S a b = true
theorem Btw.start {t : Tb} {bf : Int} {S : Nat → Nat → Bool} (h : Btw t bf S) : Rnd t S S (fun _ _ => False) := ⟨h.snd, Nat.le_refl _, fun _ => ⟨rfl, fun _ _ h => h.elim⟩⟩
theorem Rnd.fin {t : Tb} {S0 S : Nat → Nat → Bool} (h : Rnd t S0 S (fun a b => a < b ∧ b < t.nx.length)) : Btw t (cntS t.nx.length S0 : Nat) S :=
  ⟨h.snd, by have := h.ge; omega, by omega, fun e b hb a hab hp => by
    obtain ⟨e1, h1⟩ := h.cls (by omega)
    rw [e1] at hp ⊢
    exact h1 a b ⟨hab, hb⟩ hp⟩
/-- Memory of the walk: the box and the map, a step further. -/
theorem own_turned {w w' : World} {M n : Nat} {base : Nat} {w0 : World} (h : Below base w0 w) (hb : base ≤ M) (g : w.grownBy w' (some M)) (hs : base ≤ w.heap.size) : Below base w0 w' := h.grown g hs (fun j hj => by cases hj; exact hb)
theorem Box.grown {w w' : World} {g M : Nat} {T : TV} (h : Box w g T) (hg : w.grownBy w' (some M)) (hne : g ≠ M) : Box w' g T :=
  ⟨Nat.lt_of_lt_of_le h.1 hg.size, hg.cell h.2.1 (by simpa using hne), hg.cell h.2.2.1 (by simpa using hne), hg.cell h.2.2.2.1 (by simpa using hne), hg.cell h.2.2.2.2 (by simpa using hne)⟩
set_option maxHeartbeats 8000000 in
theorem apart_any (T : TV) (w : World) (hT : T.ok w) (hC : CntV T.tb) (hN : nextB T.tb = true) :
    Calls Tryd.prog 63 #[T.v] w (OutAp T.tb w) := by
  have hmm := @run_makeMap Tryd.prog
  have hln : T.tb.nx.length = T.n2 := by unfold TV.tb; simp only [listsOf_len]; exact hT.r2.1
  have n5 : T.n2 ≤ 5 := by have := hC.n2; omega
  have HPn := Lib.hid (fun (M : Nat) (D : DataW Unit) S (lo hi : Nat) W (g : Below w.heap.size w W) hM hS hlo hhi => partsNow_any T M D S lo hi W (hT.on g) hC hN hM hS hlo hhi)
  have HNb := Lib.hid hN
  have HB0 := Lib.hid (box_new w T)
  have b0 := below_new w (.cells #[.int .i64 T.cl, .slice T.a1 T.n1 T.c1, .slice T.a2 T.n2 T.c2, .slice T.a3 T.n3 T.c3] 26)
  have HL := Lib.hid hln
  generalize T.tb = t at *
  clear hT hC hN hln
  obtain ⟨cl, a1, n1, c1, bd, a2, n2, c2, hs, a3, n3, c3, br⟩ := T
  simp only [TV.v] at *
  go_enter Tryd.func63, Tryd.ntmps63
  go_wp2_with fail
  have HBx : Hid (Box ((w.alloc (.cells #[.int .i64 cl, .slice a1 n1 c1, .slice a2 n2 c2, .slice a3 n3 c3] 26)).alloc (.map #[] 0)) w.heap.size ⟨cl, a1, n1, c1, bd, a2, n2, c2, hs, a3, n3, c3, br⟩) := Lib.hid (HB0.out.on (below_new _ _))
  have b1 : Below w.heap.size w ((w.alloc (.cells #[.int .i64 cl, .slice a1 n1 c1, .slice a2 n2 c2, .slice a3 n3 c3] 26)).alloc (.map #[] 0)) := below_call b0 b0.size (below_new _ _)
  have HOw : Hid (((w.alloc (.cells #[.int .i64 cl, .slice a1 n1 c1, .slice a2 n2 c2, .slice a3 n3 c3] 26)).alloc (.map #[] 0)).ownsMap Tryd.prog 87 (unitElem (H := Unit)) (w.heap.size + 1) 0 (.map [])) := Lib.hid (by
    have h := World.ownsMap_made (w.alloc (.cells #[.int .i64 cl, .slice a1 n1 c1, .slice a2 n2 c2, .slice a3 n3 c3] 26)) Tryd.prog 87 (unitElem (H := Unit))
    simpa using h)
  generalize ((w.alloc (.cells #[.int .i64 cl, .slice a1 n1 c1, .slice a2 n2 c2, .slice a3 n3 c3] 26)).alloc (.map #[] 0)) = W at *
  clear HB0 hmm b0
  go_loopw [4] (fun vb wr => ∃ (bf : Int) (D : DataW Unit) (S : Nat → Nat → Bool), vb = .int .i64 bf ∧ -1 ≤ bf ∧ bf ≤ 10 ∧ Hid (wr.ownsMap Tryd.prog 87 unitElem (w.heap.size + 1) (Maps.size D) D) ∧ Hid (MS D n2 S) ∧ Hid (Btw t bf S) ∧ Hid (Below w.heap.size w wr) ∧ Hid (Box wr w.heap.size ⟨cl, a1, n1, c1, bd, a2, n2, c2, hs, a3, n3, c3, br⟩)) (fun vb _ => (11 - (intOf vb)).toNat)
  case atStart =>
    refine ⟨-1, .map [], fun _ _ => false, rfl, by omega, by omega, HOw, Lib.hid (MS.start _), Lib.hid ⟨fun a b h => absurd h (by simp), by omega, by omega, fun h => by omega⟩, Lib.hid b1, HBx⟩
  case round =>
    obtain ⟨bf, D, S0, rfl, hb0, hb1, HM, HS, HBt, HB, HX⟩ := hrel
    have HSz : Hid (Maps.size D = cntS n2 S0) := Lib.hid HS.out.size
    have hsz : cntS n2 S0 ≤ 10 := cntS_le S0 n5
    have HCn : Hid (cntS t.nx.length S0 = cntS n2 S0) := Lib.hid (by rw [HL.out])
    by_cases hlt : bf < (cntS n2 S0 : Int)
    · obtain ⟨_, p0, p1, p2, p3⟩ := HX.out
      simp only [] at p0 p1 p2 p3
      have HR0 := Lib.hid HBt.out.start
      clear HBt
      rename World => w0
      go_wp2_with (first | (at_len; refine wpList_len_own _ rfl _ 84 rfl 87 81 und90 unitElem (w.heap.size + 1) _ D rfl HM.out ?_; rw [HSz.out]) | fail)
      clear p0 p1 p2 p3
      go_loopw [18] (fun vi wr => ∃ (h : Nat) (D : DataW Unit) (S : Nat → Nat → Bool), h ≤ n2 ∧ vi = .int .i64 h ∧ Hid (wr.ownsMap Tryd.prog 87 unitElem (w.heap.size + 1) (Maps.size D) D) ∧ Hid (MS D n2 S) ∧ Hid (Rnd t S0 S (fun a b => a < b ∧ b < h)) ∧ Hid (Below w.heap.size w wr) ∧ Hid (Box wr w.heap.size ⟨cl, a1, n1, c1, bd, a2, n2, c2, hs, a3, n3, c3, br⟩)) (fun vi _ => n2 - (intOf vi).toNat)
      case atStart => exact ⟨0, D, S0, Nat.zero_le _, rfl, HM, HS, Lib.hid (HR0.out.next (fun x y h => by omega)), HB, HX⟩
      case round =>
        clear HM HS HB HX HR0 HSz D
        obtain ⟨h, D, S, hh, rfl, HM, HS, HR, HB, HX⟩ := hrel
        by_cases hhn : h < n2
        · rename World => w1
          go_wp2_with fail
          go_loopw [22] (fun vi wr => ∃ (l : Nat) (D : DataW Unit) (S : Nat → Nat → Bool), l ≤ h ∧ vi = .int .i64 l ∧ Hid (wr.ownsMap Tryd.prog 87 unitElem (w.heap.size + 1) (Maps.size D) D) ∧ Hid (MS D n2 S) ∧ Hid (Rnd t S0 S (fun a b => a < b ∧ (b < h ∨ b = h ∧ a < l))) ∧ Hid (Below w.heap.size w wr) ∧ Hid (Box wr w.heap.size ⟨cl, a1, n1, c1, bd, a2, n2, c2, hs, a3, n3, c3, br⟩)) (fun vi _ => h - (intOf vi).toNat)
          case atStart => exact ⟨0, D, S, Nat.zero_le _, rfl, HM, HS, Lib.hid (HR.out.next (fun x y h => by omega)), HB, HX⟩
          case round =>
            clear HM HS HB HX HR D S
            obtain ⟨l, D, S, hl, rfl, HM, HS, HR, HB, HX⟩ := hrel
            by_cases hln : l < h
            · have bA := below_new wr (.cells #[.int .i64 l, .int .i64 h] 87)
              have HBA := Lib.hid (below_call HB.out HB.out.size bA)
              have HMA := Lib.hid (ownM_on HM.out bA)
              have HXA := Lib.hid (HX.out.on bA)
              have HC := Lib.hid (HPn.out (w.heap.size + 1) D S l h _ HBA.out HMA.out HS.out (by omega) hhn)
              obtain ⟨_, p0, p1, p2, p3⟩ := HXA.out
              simp only [] at p0 p1 p2 p3
              have s0 : (wr.alloc (.cells #[.int .i64 l, .int .i64 h] 87)).cell? ⟨wr.heap.size, 0, none⟩ = some (.int .i64 l) := by simp
              have s1 : (wr.alloc (.cells #[.int .i64 l, .int .i64 h] 87)).cell? ⟨wr.heap.size, 1, none⟩ = some (.int .i64 h) := by simp
              cases hp : pnB t S l h
              case false =>
                rw [hp] at HC
                have HR2 := Lib.hid (HR.out.no (done' := fun a b => a < b ∧ (b < h ∨ b = h ∧ a < l + 1)) hp (fun x y hxy => by omega))
                clear hp HR
                go_wp2_with fail
                refine HC.out.mono ?_
                rintro e w2 ⟨rfl, g2⟩
                have HB2 := Lib.hid (below_call HBA.out HBA.out.size g2)
                have HM2 := Lib.hid (ownM_on HMA.out g2)
                have HX2 := Lib.hid (HXA.out.on g2)
                clear g2 HBA HMA HXA HB HM HX HC bA p0 p1 p2 p3 s0 s1
                go_wp2_with fail
                go_roundw
                case rel => exact ⟨l + 1, D, S, by omega, by go_num, HM2, HS, HR2, HB2, HX2⟩
                case measure => simp [intOf]; omega
              case true =>
                rw [hp] at HC
                have HR2 := Lib.hid (HR.out.yes (done' := fun a b => a < b ∧ (b < h ∨ b = h ∧ a < l + 1)) (by rw [HL.out]; exact n5) HNb.out hln (by rw [HL.out]; exact hhn) hp (fun x y hxy => by omega))
                have HS2 := Lib.hid (HS.out.put n5 hln hhn)
                have HK := Lib.hid (kp_key (l : Int) (h : Int) (by omega) (by omega))
                have hsz2 : Maps.size D ≤ 10 := by rw [HS.out.size]; exact cntS_le S n5
                clear hp HR
                go_wp2_with fail
                refine HC.out.mono ?_
                rintro e w2 ⟨rfl, g2⟩
                have HB2 := Lib.hid (below_call HBA.out HBA.out.size g2)
                have HM2 := Lib.hid (ownM_on HMA.out g2)
                have HX2 := Lib.hid (HXA.out.on g2)
                have s0 := kept_cell g2 s0
                have s1 := kept_cell g2 s1
                clear g2 HBA HMA HXA HB HM HX HC bA p0 p1 p2 p3
                go_wp2_with (at_mapUpdate; refine wpList_mapUpdate_own _ rfl _ _ _ 84 rfl 87 81 law93 und90 (unitElem (H := Unit)) (w.heap.size + 1) _ D rfl HM2.out (by unfold maxLen; omega) _ _ _ rfl rfl HK.out _ [] unitElem_mk ?_; intro w3 hown3 hgrow3)
                first | skip | (rename_i w3 hown3 hgrow3)
                have HM3 := Lib.hid (own_size hown3)
                have HB3 := Lib.hid (HB2.out.grown hgrow3 HB2.out.size (fun j hj => by cases hj; omega))
                have HX3 := Lib.hid (HX2.out.grown hgrow3 (by omega))
                go_roundw
                case rel => exact ⟨l + 1, _, _, by omega, by go_num, HM3, HS2, HR2, HB3, HX3⟩
                case measure => simp [intOf]; omega
            · have HR2 := Lib.hid (HR.out.next (done' := fun a b => a < b ∧ b < h + 1) (fun x y hxy => by omega))
              clear HR
              go_wp2_with fail
              go_roundw
              case rel => exact ⟨h + 1, D, S, by omega, by go_num, HM, HS, HR2, HB, HX⟩
              case measure => simp [intOf]; omega
        · have HBt2 : Hid (Btw t (cntS n2 S0 : Nat) S) := Lib.hid (by
            have h := (HR.out.next (done' := fun a b => a < b ∧ b < t.nx.length) (fun x y hxy => by rw [HL.out] at hxy; omega)).fin
            rw [HCn.out] at h
            exact h)
          clear HR
          go_wp2_with fail
          go_roundw
          case rel => exact ⟨_, D, S, rfl, by omega, by omega, HM, HS, HBt2, HB, HX⟩
          case measure => simp [intOf]; omega
    · have HE : Hid (bf = cntS t.nx.length S0) := Lib.hid (by have := HBt.out.le; rw [HCn.out] at this ⊢; omega)
      have HF : Hid (∀ b < t.nx.length, ∀ a < b, S0 a b = farB t a b) := Lib.hid (fun b hb a hab => apart_is HNb.out (fun x y h => by rw [HL.out]; exact HS.out.rng x y h) HBt.out.snd (HBt.out.cls HE.out) hb hab)
      go_wp2_with (first | (at_len; refine wpList_len_own _ rfl _ 84 rfl 87 81 und90 unitElem (w.heap.size + 1) _ D rfl HM.out ?_; rw [HSz.out]) | fail)
      go_ret
      exact ⟨w.heap.size + 1, D, S0, rfl, HM.out, by rw [HL.out]; exact HS.out, HF.out, HB.out⟩
end Go.Proofs.YtnilejdokgagbaaDoor
/- What bandsHold and classesHold of package valid return. -/
namespace Go.Proofs.YtnilejdokgagbaaDoor
open Go.RowKit Go.BigFrame
set_option linter.unusedVariables false
set_option maxRecDepth 4000
set_option linter.unusedSimpArgs false

theorem okBand_0 {l : List (Int × Int)} (h : 0 < l.length) : okBand l 0 = (l[0].1 == 0 && scalB l[0].1) := by
  unfold okBand bandAt
  simp [List.getElem?_eq_getElem h]
theorem okBand_S {l : List (Int × Int)} {k : Nat} (h : k + 1 < l.length) : okBand l (k + 1) = (scalB l[k + 1].1 && (decide (l[k].1 < l[k + 1].1) && l[k + 1].2 != l[k].2)) := by
  have h' : k < l.length := by omega
  unfold okBand bandAt
  simp [List.getElem?_eq_getElem h, List.getElem?_eq_getElem h']
set_option maxHeartbeats 2000000 in
theorem bandsHold_any (l : List Rg) (n : Nat) (A : Option Addr) (c : Nat) (w : World) (hR : RD w w.heap.size A n l) (hn : n ≤ 100) :
    Calls Tryd.prog 52 #[.slice A n c] w fun e w' => e = .returned (.bool (bandsB l)) ∧ Below w.heap.size w w' := by
  have HR := Lib.hid hR
  have HIs := Lib.hid scalIs_any
  clear hR
  go_enter Tryd.func52, Tryd.ntmps52
  go_wp2_with fail
  go_loopw [7] (fun i wr => ∃ (k : Nat), k ≤ n ∧ i = .int .i64 k ∧ Hid (Below w.heap.size w wr) ∧ Hid (∀ j < k, okBand l j = true)) (fun i _ => n - (intOf i).toNat)
  case atStart => exact ⟨0, Nat.zero_le _, rfl, Lib.hid (Below.refl _ _), Lib.hid (fun j hj => absurd hj (by omega))⟩
  case round =>
    obtain ⟨k, hk, rfl, HB, HE⟩ := hrel
    by_cases hlt : k < n
    · have HRW := Lib.hid (HR.out.on HB.out)
      have kl : k < l.length := by rw [HR.out.1]; exact hlt
      have HE' : Hid (okBand l k = true → ∀ j < k + 1, okBand l j = true) := Lib.hid (fun h j hj => by
        rcases Nat.lt_succ_iff_lt_or_eq.1 hj with h1 | h1
        · exact HE.out j h1
        · subst h1; exact h)
      have HF : Hid (okBand l k = false → bandsB l = false) := Lib.hid (fun h => bandsB_no kl h)
      match k, hk, hlt, kl, HE', HF with
      | 0, hk, hlt, kl, HE', HF =>
        obtain ⟨b, o, rfl, hbl, q0, q1⟩ := HRW.out.at kl
        have HK := Lib.hid (okBand_0 kl)
        generalize l[0] = x at *
        obtain ⟨x0, x1⟩ := x
        simp only [Nat.zero_mul, Nat.add_zero] at q0 q1
        have HB' := Lib.hid (HB.out.trans ((below_new wr (.cells #[.int .i64 x0, .int .i64 x1] 50)).mono HB.out.size))
        by_cases hx : x0 = 0
        · subst hx
          have HO : Hid (okBand l 0 = true) := Lib.hid (by rw [HK.out]; rfl)
          have HE2 := Lib.hid (HE'.out HO.out)
          clear HE' HF HE HK HO
          go_wp2_with fail
          refine (HIs.out _ _).mono ?_
          rintro e w1 ⟨rfl, rfl⟩
          have hs0 : scalB 0 = true := by decide
          rw [hs0]
          go_wp2_with fail
          go_quiet (fail)
          go_wp2_with fail
          go_roundw
          case rel => exact ⟨1, by omega, by go_num, Lib.hid (below_drewN HB'.out _), HE2⟩
          case measure => simp [intOf]; omega
        · have HR2 : Hid (bandsB l = false) := Lib.hid (HF.out (by rw [HK.out]; simp [hx]))
          have hx' : (x0 != 0) = true := by simpa using hx
          clear HE' HF HE HK
          go_wp2_with fail
          go_ret
          exact ⟨ret_bool HR2.out.symm, HB'.out⟩
      | j + 1, hk, hlt, kl, HE', HF =>
        have kl' : j < l.length := by omega
        obtain ⟨b, o, hA, hbl, q0, q1⟩ := HRW.out.at kl
        obtain ⟨b', o', hA', _, r0, r1⟩ := HRW.out.at kl'
        rw [hA] at hA'
        injection hA' with hA'
        injection hA' with hA1 hA2
        subst hA1; subst hA2; subst hA
        have HK := Lib.hid (okBand_S kl)
        generalize l[j + 1] = x at *
        generalize l[j] = y at *
        obtain ⟨x0, x1⟩ := x
        obtain ⟨y0, y1⟩ := y
        simp only [] at q0 q1 r0 r1 HK
        have HB' := Lib.hid (HB.out.trans ((below_new wr (.cells #[.int .i64 x0, .int .i64 x1] 50)).mono HB.out.size))
        have r0' : (wr.alloc (.cells #[.int .i64 x0, .int .i64 x1] 50)).cell? ⟨b, o + j * 2, none⟩ = some (.int .i64 y0) := (World.cell?_alloc_lt wr _ _ hbl).trans r0
        have r1' : (wr.alloc (.cells #[.int .i64 x0, .int .i64 x1] 50)).cell? ⟨b, o + j * 2 + 1, none⟩ = some (.int .i64 y1) := (World.cell?_alloc_lt wr _ _ hbl).trans r1
        have hk0 : (((j + 1 : Nat) : Int) == 0) = false := by rw [beq_eq_false_iff_ne]; omega
        have hk1 : (0 : Int) < ((j + 1 : Nat) : Int) := by omega
        have hw : IntKind.i64.wrap (((j + 1 : Nat) : Int) - 1) = (j : Int) := by
          rw [show (((j + 1 : Nat) : Int) - 1) = (j : Int) by omega]
          rw [IntKind.wrap_i64]; omega
        cases hs : scalB x0
        · have HR2 : Hid (bandsB l = false) := Lib.hid (HF.out (by rw [HK.out, hs]; rfl))
          clear HE' HF HE HK
          go_wp2_with fail
          refine (HIs.out _ _).mono ?_
          rintro e w1 ⟨rfl, rfl⟩
          rw [hs]
          go_wp2_with fail
          go_ret
          exact ⟨ret_bool HR2.out.symm, HB'.out⟩
        · have hj0 : ((((j + 1 : Nat) : Int) - 1)).toNat = j := by omega
          by_cases h1 : x0 ≤ y0
          · have HR2 : Hid (bandsB l = false) := Lib.hid (HF.out (by rw [HK.out, hs, decide_eq_false (by omega)]; rfl))
            clear HE' HF HE HK
            go_wp2_with fail
            refine (HIs.out _ _).mono ?_
            rintro e w1 ⟨rfl, rfl⟩
            rw [hs]
            go_wp2_with fail
            go_quiet (fail)
            go_wp2_with fail
            go_ret
            exact ⟨ret_bool HR2.out.symm, below_drewN HB'.out _⟩
          · by_cases h2 : x1 = y1
            · have HR2 : Hid (bandsB l = false) := Lib.hid (HF.out (by rw [HK.out, hs, h2]; simp))
              have h2' : (x1 == y1) = true := by simpa using h2
              have h1' : decide (x0 ≤ y0) = false := decide_eq_false h1
              clear HE' HF HE HK h2 h1
              go_wp2_with fail
              refine (HIs.out _ _).mono ?_
              rintro e w1 ⟨rfl, rfl⟩
              rw [hs]
              go_wp2_with fail
              go_quiet (fail)
              go_wp2_with fail
              go_ret
              exact ⟨ret_bool HR2.out.symm, below_drewN HB'.out _⟩
            · have HE2 := Lib.hid (HE'.out (by rw [HK.out, hs, decide_eq_true (by omega)]; simpa using h2))
              have h2' : (x1 == y1) = false := by simpa using h2
              have h1' : decide (x0 ≤ y0) = false := decide_eq_false h1
              clear HE' HF HE HK h2 h1
              go_wp2_with fail
              refine (HIs.out _ _).mono ?_
              rintro e w1 ⟨rfl, rfl⟩
              rw [hs]
              go_wp2_with fail
              go_quiet (fail)
              go_wp2_with fail
              go_roundw
              case rel => exact ⟨j + 1 + 1, by omega, by go_num, Lib.hid (below_drewN HB'.out _), HE2⟩
              case measure => simp [intOf]; omega
    · have HD : Hid (bandsB l = true) := Lib.hid (bandsB_yes fun i hi => HE.out i (by have := HR.out.1; omega))
      go_wp2_with fail
      go_ret
      exact ⟨ret_bool HD.out.symm, HB.out⟩
set_option maxHeartbeats 2000000 in
theorem classesHold_any (T : TV) (w : World) (hT : T.ok w) (hn : T.n1 ≤ 100) :
    Calls Tryd.prog 53 #[T.v] w fun e w' => e = .returned (.bool (classB T.tb)) ∧ Below w.heap.size w w' := by
  obtain ⟨cl, a1, n1, c1, bd, a2, n2, c2, hs, a3, n3, c3, br⟩ := T
  simp only [TV.v] at *
  have HR := Lib.hid (hT.r1.on (below_new w (.cells #[.int .i64 cl, .slice a1 n1 c1, .slice a2 n2 c2, .slice a3 n3 c3] 26)))
  have HWi := Lib.hid vWithin_any
  have HCl : Hid (classB (TV.tb ⟨cl, a1, n1, c1, bd, a2, n2, c2, hs, a3, n3, c3, br⟩) = (clScan bd 0 == some cl)) := Lib.hid rfl
  rw [HCl.out]
  clear hT HCl
  go_enter Tryd.func53, Tryd.ntmps53
  go_wp2_with fail
  have p0 : (w.alloc (.cells #[.int .i64 cl, .slice a1 n1 c1, .slice a2 n2 c2, .slice a3 n3 c3] 26)).cell? ⟨w.heap.size, 0, none⟩ = some (.int .i64 cl) := by simp
  have b0 := below_new w (.cells #[.int .i64 cl, .slice a1 n1 c1, .slice a2 n2 c2, .slice a3 n3 c3] 26)
  have hz0 : w.heap.size < (w.alloc (.cells #[.int .i64 cl, .slice a1 n1 c1, .slice a2 n2 c2, .slice a3 n3 c3] 26)).heap.size := by simp
  generalize w.alloc (.cells #[.int .i64 cl, .slice a1 n1 c1, .slice a2 n2 c2, .slice a3 n3 c3] 26) = W at *
  go_loopw [3, 9] (fun vm vi wr => ∃ (k : Nat) (m : Int), k ≤ n1 ∧ vi = .int .i64 k ∧ vm = .int .i64 m ∧ 0 ≤ m ∧ m ≤ k ∧ Hid (Below W.heap.size W wr) ∧ Hid (clScan (bd.drop k) m = clScan bd 0)) (fun vm vi _ => n1 - (intOf vi).toNat)
  case atStart => exact ⟨0, 0, Nat.zero_le _, rfl, rfl, by omega, by omega, Lib.hid (Below.refl _ _), Lib.hid rfl⟩
  case round =>
    obtain ⟨k, m, hk, rfl, rfl, hm0, hm1, HB, HE⟩ := hrel
    have p0 := kept_cell HB.out p0
    by_cases hlt : k < n1
    · have HRW := Lib.hid (HR.out.on HB.out)
      have kl : k < bd.length := by rw [HR.out.1]; exact hlt
      obtain ⟨b, o, rfl, hbl, q0, q1⟩ := HRW.out.at kl
      have HD : Hid (bd.drop k = bd[k] :: bd.drop (k + 1)) := Lib.hid (List.drop_eq_getElem_cons kl)
      generalize bd[k] = x at *
      obtain ⟨x0, x1⟩ := x
      simp only [] at q0 q1
      have HB' := Lib.hid (HB.out.trans ((below_new wr (.cells #[.int .i64 x0, .int .i64 x1] 50)).mono HB.out.size))
      by_cases hx : 0 ≤ x1 ∧ x1 ≤ m
      · obtain ⟨hx0, hx1⟩ := hx
        have HE2 : Hid (clScan (bd.drop (k + 1)) (max m (x1 + 1)) = clScan bd 0) := Lib.hid (by
          rw [← HE.out, HD.out]
          conv => rhs; unfold clScan
          rw [if_pos ⟨hx0, hx1⟩])
        have hi : inB x1 0 m = true := decide_eq_true ⟨hx0, hx1⟩
        have hmx : max m (x1 + 1) ≤ ((k + 1 : Nat) : Int) := by omega
        have hmy : 0 ≤ max m (x1 + 1) := by omega
        clear HE HD
        go_wp2_with fail
        refine (HWi.out _ _ _ _).mono ?_
        rintro e w1 ⟨rfl, rfl⟩
        rw [hi]
        go_wp2_with fail
        go_roundw
        case rel => exact ⟨k + 1, max m (x1 + 1), by omega, by go_num, by first | rfl | go_num, hmy, hmx, HB', HE2⟩
        case measure => simp [intOf]; omega
      · have HR2 : Hid ((clScan bd 0 == some cl) = false) := Lib.hid (by
          rw [← HE.out, HD.out]
          unfold clScan
          rw [if_neg hx]; rfl)
        have hi : inB x1 0 m = false := decide_eq_false hx
        clear HE HD hx
        go_wp2_with fail
        refine (HWi.out _ _ _ _).mono ?_
        rintro e w1 ⟨rfl, rfl⟩
        rw [hi]
        go_wp2_with fail
        go_ret
        exact ⟨ret_bool HR2.out.symm, b0.trans (HB'.out.mono b0.size)⟩
    · have HR2 : Hid ((clScan bd 0 == some cl) = (m == cl)) := Lib.hid (by
        rw [← HE.out, List.drop_eq_nil_of_le (by have := HR.out.1; omega)]
        rfl)
      go_wp2_with fail
      go_ret
      exact ⟨ret_bool HR2.out.symm, b0.trans (HB.out.mono b0.size)⟩
end Go.Proofs.YtnilejdokgagbaaDoor
/- What isLeast, Table and Alike of package valid return. -/
namespace Go.Proofs.YtnilejdokgagbaaDoor
open Go.RowKit Go.BigFrame Go.Maps
set_option linter.unusedVariables false
set_option maxRecDepth 4000
set_option linter.unusedSimpArgs false

theorem least_cnt {t : Tb} (h5 : t.nx.length ≤ 5) {S : Nat → Nat → Bool} (h : ∀ b < t.nx.length, ∀ a < b, S a b = farB t a b) : (((cntS t.nx.length S : Nat) : Int) == ((t.nx.length * (t.nx.length - 1) / 2 : Nat) : Int)) = leastB t := by
  have key := cntS_all S h5
  cases e : leastB t with
  | true =>
    have : cntS t.nx.length S = t.nx.length * (t.nx.length - 1) / 2 := key.2 (fun b hb a ha => by rw [h b hb a ha]; exact leastB_all e ha hb)
    rw [this]; exact beq_self_eq_true _
  | false =>
    rw [beq_eq_false_iff_ne]
    intro e2
    have e3 : cntS t.nx.length S = t.nx.length * (t.nx.length - 1) / 2 := by omega
    have := leastB_yes (fun b hb a ha => by rw [← h b hb a ha]; exact key.1 e3 b hb a ha)
    rw [this] at e; cases e
set_option maxHeartbeats 4000000 in
theorem isLeast_any (T : TV) (w : World) (hT : T.ok w) (hC : CntV T.tb) (hN : nextB T.tb = true) :
    Calls Tryd.prog 56 #[T.v] w fun e w' => e = .returned (.bool (leastB T.tb)) ∧ Below w.heap.size w w' := by
  have hln : T.tb.nx.length = T.n2 := by unfold TV.tb; simp only [listsOf_len]; exact hT.r2.1
  have n5 : T.n2 ≤ 5 := by have := hC.n2; omega
  have HAp := Lib.hid (fun W (g : Below w.heap.size w W) => apart_any T W (hT.on g) hC hN)
  have HB0 := Lib.hid (box_new w T)
  have b0 := below_new w (.cells #[.int .i64 T.cl, .slice T.a1 T.n1 T.c1, .slice T.a2 T.n2 T.c2, .slice T.a3 T.n3 T.c3] 26)
  have HE : Hid (∀ S, (∀ b < T.tb.nx.length, ∀ a < b, S a b = farB T.tb a b) → (((cntS T.tb.nx.length S : Nat) : Int) == ((T.n2 * (T.n2 - 1) / 2 : Nat) : Int)) = leastB T.tb) := Lib.hid (fun S h => by rw [← hln]; exact least_cnt (by omega) h)
  generalize T.tb = t at *
  clear hT hC hN hln
  obtain ⟨cl, a1, n1, c1, bd, a2, n2, c2, hs, a3, n3, c3, br⟩ := T
  simp only [TV.v] at *
  have hq : (n2 = 0 ∨ n2 = 1 ∨ n2 = 2 ∨ n2 = 3 ∨ n2 = 4 ∨ n2 = 5) := by omega
  rcases hq with rfl | rfl | rfl | rfl | rfl | rfl
  all_goals
    go_enter Tryd.func56, Tryd.ntmps56
    go_wp2_with fail
    refine (HAp.out _ b0).mono ?_
    rintro e w1 ⟨M, D, S, rfl, hM, hS, hf, g⟩
    have HQ := Lib.hid (HE.out S hf)
    have HM := Lib.hid hM
    have HSz := Lib.hid hS.size
    have b1 := below_call b0 b0.size g
    clear hM hS hf g b0 HAp HE HB0
    go_wp2_with (first | (at_len; refine wpList_len_own _ rfl _ 84 rfl 87 81 und90 unitElem M _ D rfl HM.out ?_; rw [HSz.out]) | fail)
    go_ret
    exact ⟨ret_bool HQ.out, b1⟩
theorem ret_int64 {a b : Int} (h : a = b) : Ending.returned (.int .i64 a) = .returned (.int .i64 b) := by rw [h]
set_option maxHeartbeats 8000000 in
theorem validTable_any (T : TV) (w : World) (hT : T.ok w) :
    Calls Tryd.prog 20 #[T.v] w fun e w' => e = .returned (.int .i64 (errV T.tb)) ∧ Below w.heap.size w w' := by
  have l1 : T.tb.bd.length = T.n1 := hT.r1.1
  have l2 : T.tb.nx.length = T.n2 := by unfold TV.tb; simp only [listsOf_len]; exact hT.r2.1
  have lr : ∀ h ∈ T.hs, (h.n : Int) = h.l.length := fun h hh => by have := (hT.r2.2.2 h hh).1.1; omega
  have mr : ∀ h ∈ T.hs, h.l ∈ T.tb.nx := fun h hh => List.mem_map.2 ⟨h, hh, rfl⟩
  have HC1 : Hid (∀ W, Below w.heap.size w W → Calls Tryd.prog 51 #[T.v] W fun e w' => e = .returned (.bool (cntV T.tb)) ∧ Below W.heap.size W w') := Lib.hid (fun W g => countsHold_any T W (hT.on g))
  have HC2 : Hid (cntV T.tb = true → ∀ W, Below w.heap.size w W → Calls Tryd.prog 52 #[.slice T.a1 T.n1 T.c1] W fun e w' => e = .returned (.bool (bandsB T.tb.bd)) ∧ Below W.heap.size W w') := Lib.hid (fun h W g => bandsHold_any T.bd T.n1 T.a1 T.c1 W (hT.on g).r1 (by have := ((cntV_iff _).1 h).k2; omega))
  have HC3 : Hid (cntV T.tb = true → ∀ W, Below w.heap.size w W → Calls Tryd.prog 53 #[T.v] W fun e w' => e = .returned (.bool (classB T.tb)) ∧ Below W.heap.size W w') := Lib.hid (fun h W g => classesHold_any T W (hT.on g) (by have := ((cntV_iff _).1 h).k2; omega))
  have hrow : cntV T.tb = true → ∀ h ∈ T.hs, (h.n : Int) = T.cl := fun hc h hh => (lr h hh).trans (((cntV_iff _).1 hc).rw _ (mr h hh))
  have HC4 : Hid (cntV T.tb = true → ∀ W, Below w.heap.size w W → Calls Tryd.prog 54 #[T.v] W fun e w' => e = .returned (.bool (nextB T.tb)) ∧ Below W.heap.size W w') := Lib.hid (fun h W g => nextsHold_any T W (hT.on g) (by have := ((cntV_iff _).1 h).n2; omega) (fun x hx => by have h1 := hrow h x hx; have h2 := ((cntV_iff _).1 h).c2; have h3 : T.tb.cl = T.cl := rfl; omega))
  have HC5 : Hid (cntV T.tb = true → nextB T.tb = true → ∀ W, Below w.heap.size w W → Calls Tryd.prog 55 #[T.v] W fun e w' => e = .returned (.bool (orderB T.tb)) ∧ Below W.heap.size W w') := Lib.hid (fun h hn W g => orderHolds_any T W (hT.on g) (by have := ((cntV_iff _).1 h).n2; omega) (fun x hx => by have h1 := hrow h x hx; have h2 := ((cntV_iff _).1 h).c2; have h3 : T.tb.cl = T.cl := rfl; omega) (fun x hx v hv => by have h1 := nextB_all hn (mr x hx) hv; have h2 := ((cntV_iff _).1 h).n2; omega))
  have HC6 : Hid (cntV T.tb = true → nextB T.tb = true → ∀ W, Below w.heap.size w W → Calls Tryd.prog 56 #[T.v] W fun e w' => e = .returned (.bool (leastB T.tb)) ∧ Below W.heap.size W w') := Lib.hid (fun h hn W g => isLeast_any T W (hT.on g) ((cntV_iff _).1 h) hn)
  have HC7 : Hid (cntV T.tb = true → ∀ W, Below w.heap.size w W → Calls Tryd.prog 57 #[T.v] W fun e w' => e = .returned (.bool (colB T.tb)) ∧ Below W.heap.size W w') := Lib.hid (fun h W g => columnsDiffer_any T W (hT.on g) (by have := ((cntV_iff _).1 h).n2; omega) (by have := ((cntV_iff _).1 h).c1; have h3 : T.tb.cl = T.cl := rfl; omega) (by have := ((cntV_iff _).1 h).c2; have h3 : T.tb.cl = T.cl := rfl; omega) (hrow h))
  have HX := Lib.hid (box_new w T)
  have b0 := below_new w (.cells #[.int .i64 T.cl, .slice T.a1 T.n1 T.c1, .slice T.a2 T.n2 T.c2, .slice T.a3 T.n3 T.c3] 26)
  have HV : Hid (errV T.tb = if cntV T.tb = false then 24 else if bandsB T.tb.bd = false then 26 else if classB T.tb = false then 27 else if nextB T.tb = false then 28 else if orderB T.tb = false then 29 else if leastB T.tb = false then 30 else if colB T.tb = false then 31 else 0) := Lib.hid rfl
  generalize errV T.tb = ev at *
  generalize bandsB T.tb.bd = x2 at *
  generalize cntV T.tb = x1 at *
  generalize classB T.tb = x3 at *
  generalize nextB T.tb = x4 at *
  generalize orderB T.tb = x5 at *
  generalize leastB T.tb = x6 at *
  generalize colB T.tb = x7 at *
  clear hT l1 l2 lr mr hrow
  obtain ⟨cl, a1, n1, c1, bd, a2, n2, c2, hs, a3, n3, c3, br⟩ := T
  simp only [TV.v] at *
  go_enter Tryd.func20, Tryd.ntmps20
  go_wp2_with fail
  generalize w.alloc (.cells #[.int .i64 cl, .slice a1 n1 c1, .slice a2 n2 c2, .slice a3 n3 c3] 26) = W0 at *
  refine (HC1.out _ b0).mono ?_
  rintro e w1 ⟨rfl, g⟩
  have b1 := below_call b0 b0.size g
  have HX := Lib.hid (HX.out.on g)
  clear g
  obtain ⟨_, p0, p1, p2, p3⟩ := HX.out
  simp only [] at p0 p1 p2 p3
  cases x1
  case false =>
    go_wp2_with fail
    go_ret
    exact ⟨ret_int64 (by rw [HV.out]; rfl), b1⟩
  go_wp2_with fail
  clear p0 p1 p2 p3
  refine (HC2.out (by first | rfl | trivial) _ b1).mono ?_
  rintro e w2 ⟨rfl, g⟩
  have b2 := below_call b1 b1.size g
  have HX := Lib.hid (HX.out.on g)
  clear g
  obtain ⟨_, p0, p1, p2, p3⟩ := HX.out
  simp only [] at p0 p1 p2 p3
  cases x2
  case false =>
    go_wp2_with fail
    go_ret
    exact ⟨ret_int64 (by rw [HV.out]; rfl), b2⟩
  go_wp2_with fail
  clear p0 p1 p2 p3
  refine (HC3.out (by first | rfl | trivial) _ b2).mono ?_
  rintro e w3 ⟨rfl, g⟩
  have b3 := below_call b2 b2.size g
  have HX := Lib.hid (HX.out.on g)
  clear g
  obtain ⟨_, p0, p1, p2, p3⟩ := HX.out
  simp only [] at p0 p1 p2 p3
  cases x3
  case false =>
    go_wp2_with fail
    go_ret
    exact ⟨ret_int64 (by rw [HV.out]; rfl), b3⟩
  go_wp2_with fail
  clear p0 p1 p2 p3
  refine (HC4.out (by first | rfl | trivial) _ b3).mono ?_
  rintro e w4 ⟨rfl, g⟩
  have b4 := below_call b3 b3.size g
  have HX := Lib.hid (HX.out.on g)
  clear g
  obtain ⟨_, p0, p1, p2, p3⟩ := HX.out
  simp only [] at p0 p1 p2 p3
  cases x4
  case false =>
    go_wp2_with fail
    go_ret
    exact ⟨ret_int64 (by rw [HV.out]; rfl), b4⟩
  go_wp2_with fail
  clear p0 p1 p2 p3
  refine (HC5.out (by first | rfl | trivial) (by first | rfl | trivial) _ b4).mono ?_
  rintro e w5 ⟨rfl, g⟩
  have b5 := below_call b4 b4.size g
  have HX := Lib.hid (HX.out.on g)
  clear g
  obtain ⟨_, p0, p1, p2, p3⟩ := HX.out
  simp only [] at p0 p1 p2 p3
  cases x5
  case false =>
    go_wp2_with fail
    go_ret
    exact ⟨ret_int64 (by rw [HV.out]; rfl), b5⟩
  go_wp2_with fail
  clear p0 p1 p2 p3
  refine (HC6.out (by first | rfl | trivial) (by first | rfl | trivial) _ b5).mono ?_
  rintro e w6 ⟨rfl, g⟩
  have b6 := below_call b5 b5.size g
  have HX := Lib.hid (HX.out.on g)
  clear g
  obtain ⟨_, p0, p1, p2, p3⟩ := HX.out
  simp only [] at p0 p1 p2 p3
  cases x6
  case false =>
    go_wp2_with fail
    go_ret
    exact ⟨ret_int64 (by rw [HV.out]; rfl), b6⟩
  go_wp2_with fail
  clear p0 p1 p2 p3
  refine (HC7.out (by first | rfl | trivial) _ b6).mono ?_
  rintro e w7 ⟨rfl, g⟩
  have b7 := below_call b6 b6.size g
  have HX := Lib.hid (HX.out.on g)
  clear g
  obtain ⟨_, p0, p1, p2, p3⟩ := HX.out
  simp only [] at p0 p1 p2 p3
  cases x7
  case false =>
    go_wp2_with fail
    go_ret
    exact ⟨ret_int64 (by rw [HV.out]; rfl), b7⟩
  go_wp2_with fail
  clear p0 p1 p2 p3
  go_ret
  exact ⟨ret_int64 (by rw [HV.out]; rfl), b7⟩
theorem alikeV_no {t : Tb} {a b : Int} (h : (cntV t && nextB t && stB t a && stB t b) = false) : alikeV t a b = false := by
  unfold alikeV; rw [h]; rfl
set_option maxHeartbeats 8000000 in
theorem alike_any (T : TV) (a b : Int) (w : World) (hT : T.ok w) :
    Calls Tryd.prog 22 #[T.v, .int .i64 a, .int .i64 b] w fun e w' => e = .returned (.bool (alikeV T.tb a b)) ∧ Below w.heap.size w w' := by
  have l2 : T.tb.nx.length = T.n2 := by unfold TV.tb; simp only [listsOf_len]; exact hT.r2.1
  have lr : ∀ h ∈ T.hs, (h.n : Int) = h.l.length := fun h hh => by have := (hT.r2.2.2 h hh).1.1; omega
  have mr : ∀ h ∈ T.hs, h.l ∈ T.tb.nx := fun h hh => List.mem_map.2 ⟨h, hh, rfl⟩
  have B2 : T.n2 ≤ 9223372036854775807 := by have := hT.s2.2; unfold maxLen at this; omega
  have hrow : cntV T.tb = true → ∀ h ∈ T.hs, (h.n : Int) = T.cl := fun hc h hh => (lr h hh).trans (((cntV_iff _).1 hc).rw _ (mr h hh))
  have HC1 : Hid (∀ W, Below w.heap.size w W → Calls Tryd.prog 51 #[T.v] W fun e w' => e = .returned (.bool (cntV T.tb)) ∧ Below W.heap.size W w') := Lib.hid (fun W g => countsHold_any T W (hT.on g))
  have HC2 : Hid (cntV T.tb = true → ∀ W, Below w.heap.size w W → Calls Tryd.prog 54 #[T.v] W fun e w' => e = .returned (.bool (nextB T.tb)) ∧ Below W.heap.size W w') := Lib.hid (fun h W g => nextsHold_any T W (hT.on g) (by have := ((cntV_iff _).1 h).n2; omega) (fun x hx => by have h1 := hrow h x hx; have h2 := ((cntV_iff _).1 h).c2; have h3 : T.tb.cl = T.cl := rfl; omega))
  have HC3 : Hid (∀ v W, Calls Tryd.prog 62 #[T.v, .int .i64 v] W fun e w' => e = .returned (.bool (stB T.tb v)) ∧ Below W.heap.size W w') := Lib.hid (fun v W => isState_any T v W B2 hT.r2.1)
  have HC4 : Hid (cntV T.tb = true → nextB T.tb = true → ∀ W, Below w.heap.size w W → Calls Tryd.prog 63 #[T.v] W (OutAp T.tb W)) := Lib.hid (fun h hn W g => apart_any T W (hT.on g) ((cntV_iff _).1 h) hn)
  have HNo := Lib.hid (fun h => alikeV_no (t := T.tb) (a := a) (b := b) h)
  have HYes : Hid (cntV T.tb = true → nextB T.tb = true → stB T.tb a = true → stB T.tb b = true → ∃ a' b' : Nat, a = (a' : Int) ∧ b = (b' : Int) ∧ a' < 5 ∧ b' < 5 ∧ ∀ (D : DataW Unit) S, MS D T.tb.nx.length S → (∀ b < T.tb.nx.length, ∀ a < b, S a b = farB T.tb a b) → Maps.has D (kp ((min a' b' : Nat) : Int) ((max a' b' : Nat) : Int)) = !alikeV T.tb a b) := Lib.hid (fun h1 h2 h3 h4 => by
    have hc := (cntV_iff _).1 h1
    have n5 := hc.n2
    unfold stB at h3 h4
    simp at h3 h4
    refine ⟨a.toNat, b.toNat, by omega, by omega, by omega, by omega, fun D S hS hf => ?_⟩
    rw [hS.has _ _ (by omega) (by omega)]
    have e := alikeV_of h1 h2 (a := a.toNat) (b := b.toNat) (by omega) (by omega)
    rw [show ((a.toNat : Nat) : Int) = a by omega, show ((b.toNat : Nat) : Int) = b by omega] at e
    rw [e, Bool.not_not]
    rcases Nat.lt_trichotomy a.toNat b.toNat with h | h | h
    · rw [Nat.min_eq_left (by omega), Nat.max_eq_right (by omega)]; exact hf _ (by omega) _ h
    · rw [h, Nat.min_self, Nat.max_self, farB_irr]
      cases hs : S b.toNat b.toNat with
      | false => rfl
      | true => have := (hS.rng _ _ hs).1; omega
    · rw [Nat.min_eq_right (by omega), Nat.max_eq_left (by omega), farB_symm]; exact hf _ (by omega) _ h)
  have HX := Lib.hid (box_new w T)
  have b0 := below_new w (.cells #[.int .i64 T.cl, .slice T.a1 T.n1 T.c1, .slice T.a2 T.n2 T.c2, .slice T.a3 T.n3 T.c3] 26)
  generalize alikeV T.tb a b = q at *
  generalize cntV T.tb = x1 at *
  generalize nextB T.tb = x2 at *
  generalize T.tb = t at *
  generalize stB t = st at *
  clear hT l2 lr mr hrow B2
  obtain ⟨cl, a1, n1, c1, bd, a2, n2, c2, hs, a3, n3, c3, br⟩ := T
  simp only [TV.v] at *
  go_enter Tryd.func22, Tryd.ntmps22
  go_wp2_with fail
  generalize w.alloc (.cells #[.int .i64 cl, .slice a1 n1 c1, .slice a2 n2 c2, .slice a3 n3 c3] 26) = W0 at *
  refine (HC1.out _ b0).mono ?_
  rintro e w1 ⟨rfl, g⟩
  have b1 := below_call b0 b0.size g
  have HX := Lib.hid (HX.out.on g)
  clear g
  obtain ⟨_, p0, p1, p2, p3⟩ := HX.out
  simp only [] at p0 p1 p2 p3
  cases x1
  case false =>
    go_wp2_with fail
    go_ret
    exact ⟨ret_bool (HNo.out (by simp [*])).symm, b1⟩
  go_wp2_with fail
  clear p0 p1 p2 p3
  refine (HC2.out (by first | rfl | trivial) _ b1).mono ?_
  rintro e w2 ⟨rfl, g⟩
  have b2 := below_call b1 b1.size g
  have HX := Lib.hid (HX.out.on g)
  clear g
  obtain ⟨_, p0, p1, p2, p3⟩ := HX.out
  simp only [] at p0 p1 p2 p3
  cases x2
  case false =>
    go_wp2_with fail
    go_ret
    exact ⟨ret_bool (HNo.out (by simp [*])).symm, b2⟩
  go_wp2_with fail
  clear p0 p1 p2 p3
  refine (HC3.out a _).mono ?_
  rintro e w3 ⟨rfl, g⟩
  have b3 := below_call b2 b2.size g
  have HX := Lib.hid (HX.out.on g)
  clear g
  obtain ⟨_, p0, p1, p2, p3⟩ := HX.out
  simp only [] at p0 p1 p2 p3
  generalize hy1 : st a = y1 at *
  cases y1
  case false =>
    go_wp2_with fail
    go_ret
    exact ⟨ret_bool (HNo.out (by simp [*])).symm, b3⟩
  go_wp2_with fail
  clear p0 p1 p2 p3
  refine (HC3.out b _).mono ?_
  rintro e w4 ⟨rfl, g⟩
  have b4 := below_call b3 b3.size g
  have HX := Lib.hid (HX.out.on g)
  clear g
  obtain ⟨_, p0, p1, p2, p3⟩ := HX.out
  simp only [] at p0 p1 p2 p3
  generalize hy2 : st b = y2 at *
  cases y2
  case false =>
    go_wp2_with fail
    go_ret
    exact ⟨ret_bool (HNo.out (by simp [*])).symm, b4⟩
  go_wp2_with fail
  clear p0 p1 p2 p3
  obtain ⟨a', b', rfl, rfl, ha5, hb5, hq⟩ := HYes.out (by first | rfl | trivial) (by first | rfl | trivial) (by first | rfl | assumption | trivial) (by first | rfl | assumption | trivial)
  have HQ := Lib.hid hq
  have HK := Lib.hid (kp_key ((min a' b' : Nat) : Int) ((max a' b' : Nat) : Int) (by omega) (by omega))
  clear hq HYes HNo
  refine (HC4.out (by first | rfl | trivial) (by first | rfl | trivial) _ b4).mono ?_
  rintro e w5 ⟨M, D, S, rfl, hM, hS, hf, g⟩
  have HH := Lib.hid (HQ.out D S hS hf)
  have b5 := below_call b4 b4.size g
  have HM := Lib.hid hM
  clear g hM hS hf HQ
  go_wp2_with fail
  refine (pairOf_any a' b' _).mono ?_
  rintro e w6 ⟨rfl, g⟩
  have b6 := below_call b5 b5.size g
  have HM := Lib.hid (ownM_on HM.out g)
  clear g
  go_wp2_with (at_lookup; refine wpList_lookup_own_unit _ rfl _ _ 84 rfl 87 81 law93 und90 (zero87 _) M _ D rfl HM.out _ _ rfl HK.out ?_; rw [HH.out])
  go_ret
  exact ⟨ret_bool (by simp), below_call b6 b6.size (below_new _ _)⟩
end Go.Proofs.YtnilejdokgagbaaDoor

