/- What an expression takes from a place to a place of a row; what is remembered while it is asked. -/
import Derived.Test.YtfpiackfhdiapaaTrM
namespace Go.Proofs.Ytfpiackfhdiapaa.S
set_option linter.unusedVariables false
set_option linter.unusedSimpArgs false

inductive Rt (R : Nat → Nat → Prop) : Nat → Nat → Prop
  | refl (i : Nat) : Rt R i i
  | tail {i j k : Nat} : Rt R i j → R j k → Rt R i k
/-- What an expression takes, from a place of a row to a place. -/
def tk (l : List Int) : Ex → Nat → Nat → Prop
  | .never, _, _ => False
  | .empty, i, j => i = j ∧ i ≤ l.length
  | .one s _, i, j => ∃ h : i < l.length, j = i + 1 ∧ hasB s l[i] = true
  | .cat x y, i, j => ∃ m, tk l x i m ∧ tk l y m j
  | .alt x y, i, j => tk l x i j ∨ tk l y i j
  | .star x, i, j => i ≤ l.length ∧ Rt (tk l x) i j
theorem Rt.le {l : List Int} {R : Nat → Nat → Prop} (h : ∀ i j, R i j → i ≤ j ∧ j ≤ l.length) {i j : Nat} (r : Rt R i j) : i ≤ l.length → i ≤ j ∧ j ≤ l.length := by
  induction r with
  | refl => exact fun h => ⟨Nat.le_refl _, h⟩
  | tail r1 r2 ih => exact fun hi => ⟨Nat.le_trans (ih hi).1 (h _ _ r2).1, (h _ _ r2).2⟩
theorem tk_le (l : List Int) : ∀ (e : Ex) (i j : Nat), tk l e i j → i ≤ j ∧ j ≤ l.length
  | .never, _, _, h => h.elim
  | .empty, i, j, h => by obtain ⟨rfl, h⟩ := h; exact ⟨Nat.le_refl _, h⟩
  | .one s m, i, j, h => by obtain ⟨h, rfl, _⟩ := h; exact ⟨Nat.le_succ _, h⟩
  | .cat x y, i, j, h => by
    obtain ⟨m, h1, h2⟩ := h
    exact ⟨Nat.le_trans (tk_le l x _ _ h1).1 (tk_le l y _ _ h2).1, (tk_le l y _ _ h2).2⟩
  | .alt x y, i, j, h => by
    rcases h with h | h
    · exact tk_le l x _ _ h
    · exact tk_le l y _ _ h
  | .star x, i, j, h => h.2.le (tk_le l x) h.1

abbrev Tri := Nat × Nat × Nat
/-- A node has told of a place. -/
def Tol (L : List Tri) (k j : Nat) : Prop := ∃ i, (k, i, j) ∈ L
def rt (e : Ex) (o : Nat) : Nat := o + sz e - 1
theorem rt_cat (x y : Ex) (o : Nat) : rt (.cat x y) o = o + sz x + sz y := by simp only [rt, sz]; omega
theorem rt_alt (x y : Ex) (o : Nat) : rt (.alt x y) o = o + sz x + sz y := by simp only [rt, sz]; omega
theorem rt_star (x : Ex) (o : Nat) : rt (.star x) o = o + sz x := by simp only [rt, sz]; omega
theorem rt_lt (e : Ex) (o : Nat) : o ≤ rt e o ∧ rt e o < o + sz e := by have := sz_pos e; unfold rt; omega
/-- Of all places that are asked, what follows is told. -/
def Cl (l : List Int) (L : List Tri) : Ex → Nat → (Nat → Prop) → Prop
  | .never, _, _ => True
  | .empty, o, F => ∀ f, F f → Tol L (rt .empty o) f
  | .one s m, o, F => ∀ f (h : f < l.length), F f → hasB s l[f] = true → Tol L (rt (.one s m) o) (f + 1)
  | .cat x y, o, F => Cl l L x o F ∧ Cl l L y (o + sz x) (Tol L (rt x o)) ∧ ∀ j, Tol L (rt y (o + sz x)) j → Tol L (rt (.cat x y) o) j
  | .alt x y, o, F => Cl l L x o F ∧ Cl l L y (o + sz x) F ∧ (∀ j, Tol L (rt x o) j → Tol L (rt (.alt x y) o) j) ∧ ∀ j, Tol L (rt y (o + sz x)) j → Tol L (rt (.alt x y) o) j
  | .star x, o, F => (∀ f, F f → Tol L (rt (.star x) o) f) ∧ Cl l L x o (Tol L (rt (.star x) o)) ∧ ∀ j, Tol L (rt x o) j → Tol L (rt (.star x) o) j
/-- What is told is so. -/
def Sd (l : List Int) (L : List Tri) : Ex → Nat → Prop
  | .cat x y, o => (∀ i j, (rt (.cat x y) o, i, j) ∈ L → tk l (.cat x y) i j) ∧ Sd l L x o ∧ Sd l L y (o + sz x)
  | .alt x y, o => (∀ i j, (rt (.alt x y) o, i, j) ∈ L → tk l (.alt x y) i j) ∧ Sd l L x o ∧ Sd l L y (o + sz x)
  | .star x, o => (∀ i j, (rt (.star x) o, i, j) ∈ L → tk l (.star x) i j) ∧ Sd l L x o
  | .never, o => ∀ i j, (rt .never o, i, j) ∈ L → tk l .never i j
  | .empty, o => ∀ i j, (rt .empty o, i, j) ∈ L → tk l .empty i j
  | .one s m, o => ∀ i j, (rt (.one s m) o, i, j) ∈ L → tk l (.one s m) i j
theorem Sd.root {l : List Int} {L : List Tri} {e : Ex} {o : Nat} (h : Sd l L e o) {i j : Nat} (hm : (rt e o, i, j) ∈ L) : tk l e i j := by
  cases e
  · exact h i j hm
  · exact h i j hm
  · exact h i j hm
  · exact h.1 i j hm
  · exact h.1 i j hm
  · exact h.1 i j hm
/-- Alike for the nodes from a to b. -/
def Ag (L L' : List Tri) (a b : Nat) : Prop := ∀ k, a ≤ k → k < b → ∀ i j, (k, i, j) ∈ L' ↔ (k, i, j) ∈ L
theorem Ag.refl (L : List Tri) (a b : Nat) : Ag L L a b := fun _ _ _ _ _ => Iff.rfl
theorem Ag.sub {L L' : List Tri} {a b a' b' : Nat} (h : Ag L L' a b) (h1 : a ≤ a') (h2 : b' ≤ b) : Ag L L' a' b' := fun k k1 k2 => h k (by omega) (by omega)
theorem Ag.trans {L L' L2 : List Tri} {a b : Nat} (h : Ag L L' a b) (h' : Ag L' L2 a b) : Ag L L2 a b := fun k k1 k2 i j => (h' k k1 k2 i j).trans (h k k1 k2 i j)
theorem Ag.tol {L L' : List Tri} {a b : Nat} (h : Ag L L' a b) {k : Nat} (h1 : a ≤ k) (h2 : k < b) (j : Nat) : Tol L' k j ↔ Tol L k j :=
  ⟨fun ⟨i, hi⟩ => ⟨i, (h k h1 h2 i j).1 hi⟩, fun ⟨i, hi⟩ => ⟨i, (h k h1 h2 i j).2 hi⟩⟩
theorem Cl.mono {l : List Int} {L : List Tri} : ∀ {e : Ex} {o : Nat} {F F' : Nat → Prop}, Cl l L e o F → (∀ f, F' f → F f) → Cl l L e o F'
  | .never, _, _, _, _, _ => trivial
  | .empty, _, _, _, h, hf => fun f h1 => h f (hf f h1)
  | .one s m, _, _, _, h, hf => fun f hl h1 => h f hl (hf f h1)
  | .cat x y, _, _, _, h, hf => ⟨h.1.mono hf, h.2.1, h.2.2⟩
  | .alt x y, _, _, _, h, hf => ⟨h.1.mono hf, h.2.1.mono hf, h.2.2⟩
  | .star x, _, _, _, h, hf => ⟨fun f h1 => h.1 f (hf f h1), h.2⟩
theorem Cl.ag {l : List Int} {L L' : List Tri} : ∀ {e : Ex} {o : Nat} {F : Nat → Prop}, Cl l L e o F → Ag L L' o (o + sz e) → Cl l L' e o F
  | .never, _, _, _, _ => trivial
  | .empty, o, _, h, g => fun f h1 => (g.tol (rt_lt _ _).1 (rt_lt _ _).2 f).2 (h f h1)
  | .one s m, o, _, h, g => fun f hl h1 h2 => (g.tol (rt_lt _ _).1 (rt_lt _ _).2 _).2 (h f hl h1 h2)
  | .cat x y, o, F, h, g => by
    have gx : Ag L L' o (o + sz x) := g.sub (Nat.le_refl _) (by simp only [sz]; omega)
    have gy : Ag L L' (o + sz x) (o + sz x + sz y) := g.sub (by omega) (by simp only [sz]; omega)
    exact ⟨h.1.ag gx, (h.2.1.ag gy).mono fun f hf => (gx.tol (rt_lt _ _).1 (rt_lt _ _).2 f).1 hf,
      fun j hj => (g.tol (rt_lt _ _).1 (rt_lt _ _).2 j).2 (h.2.2 j ((gy.tol (rt_lt _ _).1 (rt_lt _ _).2 j).1 hj))⟩
  | .alt x y, o, F, h, g => by
    have gx : Ag L L' o (o + sz x) := g.sub (Nat.le_refl _) (by simp only [sz]; omega)
    have gy : Ag L L' (o + sz x) (o + sz x + sz y) := g.sub (by omega) (by simp only [sz]; omega)
    exact ⟨h.1.ag gx, h.2.1.ag gy, fun j hj => (g.tol (rt_lt _ _).1 (rt_lt _ _).2 j).2 (h.2.2.1 j ((gx.tol (rt_lt _ _).1 (rt_lt _ _).2 j).1 hj)),
      fun j hj => (g.tol (rt_lt _ _).1 (rt_lt _ _).2 j).2 (h.2.2.2 j ((gy.tol (rt_lt _ _).1 (rt_lt _ _).2 j).1 hj))⟩
  | .star x, o, F, h, g => by
    have gx : Ag L L' o (o + sz x) := g.sub (Nat.le_refl _) (by simp only [sz]; omega)
    exact ⟨fun f hf => (g.tol (rt_lt _ _).1 (rt_lt _ _).2 f).2 (h.1 f hf), (h.2.1.ag gx).mono fun f hf => (g.tol (rt_lt _ _).1 (rt_lt _ _).2 f).1 hf,
      fun j hj => (g.tol (rt_lt _ _).1 (rt_lt _ _).2 j).2 (h.2.2 j ((gx.tol (rt_lt _ _).1 (rt_lt _ _).2 j).1 hj))⟩
theorem Sd.ag {l : List Int} {L L' : List Tri} : ∀ {e : Ex} {o : Nat}, Sd l L e o → Ag L L' o (o + sz e) → Sd l L' e o
  | .never, o, h, g => fun i j hm => h i j ((g _ (rt_lt _ _).1 (rt_lt _ _).2 i j).1 hm)
  | .empty, o, h, g => fun i j hm => h i j ((g _ (rt_lt _ _).1 (rt_lt _ _).2 i j).1 hm)
  | .one s m, o, h, g => fun i j hm => h i j ((g _ (rt_lt _ _).1 (rt_lt _ _).2 i j).1 hm)
  | .cat x y, o, h, g => ⟨fun i j hm => h.1 i j ((g _ (rt_lt _ _).1 (rt_lt _ _).2 i j).1 hm), h.2.1.ag (g.sub (Nat.le_refl _) (by simp only [sz]; omega)), h.2.2.ag (g.sub (by omega) (by simp only [sz]; omega))⟩
  | .alt x y, o, h, g => ⟨fun i j hm => h.1 i j ((g _ (rt_lt _ _).1 (rt_lt _ _).2 i j).1 hm), h.2.1.ag (g.sub (Nat.le_refl _) (by simp only [sz]; omega)), h.2.2.ag (g.sub (by omega) (by simp only [sz]; omega))⟩
  | .star x, o, h, g => ⟨fun i j hm => h.1 i j ((g _ (rt_lt _ _).1 (rt_lt _ _).2 i j).1 hm), h.2.ag (g.sub (Nat.le_refl _) (by simp only [sz]; omega))⟩
/-- Nothing that follows is missed. -/
theorem Cl.full {l : List Int} {L : List Tri} : ∀ {e : Ex} {o : Nat} {F : Nat → Prop}, Cl l L e o F → ∀ {f j : Nat}, F f → tk l e f j → Tol L (rt e o) j
  | .never, _, _, _, _, _, _, h => h.elim
  | .empty, _, _, c, f, j, hf, h => by obtain ⟨rfl, _⟩ := h; exact c _ hf
  | .one s m, _, _, c, f, j, hf, h => by obtain ⟨hl, rfl, hb⟩ := h; exact c _ hl hf hb
  | .cat x y, _, _, c, f, j, hf, h => by
    obtain ⟨m, h1, h2⟩ := h
    exact c.2.2 _ (c.2.1.full (c.1.full hf h1) h2)
  | .alt x y, _, _, c, f, j, hf, h => by
    rcases h with h | h
    · exact c.2.2.1 _ (c.1.full hf h)
    · exact c.2.2.2 _ (c.2.1.full hf h)
  | .star x, o, _, c, f, j, hf, h => by
    obtain ⟨_, h⟩ := h
    have key : ∀ {i j}, Rt (tk l x) i j → Tol L (rt (.star x) o) i → Tol L (rt (.star x) o) j := by
      intro i j r
      induction r with
      | refl => exact id
      | tail r1 r2 ih => exact fun hi => c.2.2 _ (c.2.1.full (ih hi) r2)
    exact key h (c.1 _ hf)

theorem nd_len : ∀ (n : Nat) (R : List Nat), R.Nodup → (∀ j ∈ R, j < n) → R.length ≤ n
  | 0, R, _, h => by
    cases R with
    | nil => simp
    | cons a R => exact absurd (h a (by simp)) (by omega)
  | n + 1, R, hn, h => by
    have h1 := nd_len n (R.erase n) (hn.erase n) (fun j hj => by
      obtain ⟨h2, h3⟩ := hn.mem_erase_iff.1 hj
      have := h j h3
      omega)
    by_cases hm : n ∈ R
    · rw [List.length_erase_of_mem hm] at h1; omega
    · rw [List.erase_of_not_mem hm] at h1; omega

/-- New places put behind. -/
def lay (k f : Nat) (N : List Nat) : List Tri := N.map fun j => (k, f, j)
def addS (L : List Tri) (k f : Nat) (N : List Nat) (j : Nat) : List Nat := if (k, f, j) ∈ L ++ lay k f N then N else N ++ [j]
def adds (L : List Tri) (k f : Nat) (P : List Nat) : List Nat := P.foldl (addS L k f) []
theorem adds_nil (L : List Tri) (k f : Nat) : adds L k f [] = [] := rfl
theorem adds_snoc (L : List Tri) (k f : Nat) (P : List Nat) (j : Nat) : adds L k f (P ++ [j]) = addS L k f (adds L k f P) j := by simp [adds]
theorem lay_mem {k f : Nat} {N : List Nat} {a b c : Nat} : (a, b, c) ∈ lay k f N ↔ a = k ∧ b = f ∧ c ∈ N := by
  simp only [lay, List.mem_map, Prod.mk.injEq]
  constructor
  · rintro ⟨j, hj, rfl, rfl, rfl⟩; exact ⟨rfl, rfl, hj⟩
  · rintro ⟨rfl, rfl, h⟩; exact ⟨c, h, rfl, rfl, rfl⟩
theorem lay_snoc (k f : Nat) (N : List Nat) (j : Nat) : lay k f (N ++ [j]) = lay k f N ++ [(k, f, j)] := by simp [lay]
theorem addS_yes {L : List Tri} {k f : Nat} {N : List Nat} {j : Nat} (h : (k, f, j) ∈ L ++ lay k f N) : addS L k f N j = N := if_pos h
theorem addS_no {L : List Tri} {k f : Nat} {N : List Nat} {j : Nat} (h : (k, f, j) ∉ L ++ lay k f N) : addS L k f N j = N ++ [j] := if_neg h
structure Adds (L : List Tri) (k f : Nat) (P N : List Nat) : Prop where
  mem : ∀ j ∈ N, j ∈ P ∧ (k, f, j) ∉ L
  nd : N.Nodup
  all : ∀ j ∈ P, (k, f, j) ∈ L ++ lay k f N
theorem adds_is (L : List Tri) (k f : Nat) (P : List Nat) : Adds L k f P (adds L k f P) := by
  induction P using snocInd with
  | h0 => exact ⟨fun j h => by simp [adds_nil] at h, by simp [adds_nil], fun j h => by simp at h⟩
  | h1 P j ih =>
    rw [adds_snoc]
    by_cases h : (k, f, j) ∈ L ++ lay k f (adds L k f P)
    · rw [addS_yes h]
      refine ⟨fun i hi => ⟨by simp [(ih.mem i hi).1], (ih.mem i hi).2⟩, ih.nd, fun i hi => ?_⟩
      rcases List.mem_append.1 hi with hi | hi
      · exact ih.all i hi
      · simp at hi; subst hi; exact h
    · rw [addS_no h]
      have h1 : (k, f, j) ∉ L := fun e => h (List.mem_append.2 (.inl e))
      have h2 : j ∉ adds L k f P := fun e => h (List.mem_append.2 (.inr (lay_mem.2 ⟨rfl, rfl, e⟩)))
      refine ⟨fun i hi => ?_, ?_, fun i hi => ?_⟩
      · rcases List.mem_append.1 hi with hi | hi
        · exact ⟨by simp [(ih.mem i hi).1], (ih.mem i hi).2⟩
        · simp at hi; subst hi; exact ⟨by simp, h1⟩
      · rw [List.nodup_append]
        refine ⟨ih.nd, by simp, fun a ha b hb => ?_⟩
        simp at hb
        subst hb
        exact fun e => h2 (e ▸ ha)
      · rw [lay_snoc, ← List.append_assoc]
        rcases List.mem_append.1 hi with hi | hi
        · exact List.mem_append.2 (.inl (ih.all i hi))
        · simp at hi; subst hi; simp

/-- What is put behind lies within nodes from a to b. -/
def Wi (L L' : List Tri) (a b : Nat) : Prop := ∃ A, L' = L ++ A ∧ ∀ t ∈ A, a ≤ t.1 ∧ t.1 < b
theorem Wi.refl (L : List Tri) (a b : Nat) : Wi L L a b := ⟨[], by simp, fun t h => by simp at h⟩
theorem Wi.trans {L L' L2 : List Tri} {a b : Nat} (h : Wi L L' a b) (h2 : Wi L' L2 a b) : Wi L L2 a b := by
  obtain ⟨A, rfl, hA⟩ := h
  obtain ⟨B, rfl, hB⟩ := h2
  refine ⟨A ++ B, by simp, fun t ht => ?_⟩
  rcases List.mem_append.1 ht with h | h
  · exact hA t h
  · exact hB t h
theorem Wi.up {L L' : List Tri} {a b a' b' : Nat} (h : Wi L L' a b) (h1 : a' ≤ a) (h2 : b ≤ b') : Wi L L' a' b' := by
  obtain ⟨A, rfl, hA⟩ := h
  exact ⟨A, rfl, fun t ht => by have := hA t ht; omega⟩
theorem Wi.lay (L : List Tri) (k f : Nat) (N : List Nat) {a b : Nat} (h1 : a ≤ k) (h2 : k < b) : Wi L (L ++ S.lay k f N) a b :=
  ⟨_, rfl, fun t ht => by obtain ⟨t1, t2, t3⟩ := t; obtain ⟨rfl, _⟩ := lay_mem.1 ht; exact ⟨h1, h2⟩⟩
theorem Wi.ag {L L' : List Tri} {a b : Nat} (h : Wi L L' a b) {c d : Nat} (hd : d ≤ a ∨ b ≤ c) : Ag L L' c d := by
  obtain ⟨A, rfl, hA⟩ := h
  intro k h1 h2 i j
  constructor
  · intro hm
    rcases List.mem_append.1 hm with h | h
    · exact h
    · have := hA _ h; simp only at this; omega
  · exact fun hm => List.mem_append.2 (.inl hm)
theorem Wi.mem {L L' : List Tri} {a b : Nat} (h : Wi L L' a b) {t : Tri} (ht : t ∈ L) : t ∈ L' := by obtain ⟨A, rfl, _⟩ := h; exact List.mem_append.2 (.inl ht)
theorem Wi.tol {L L' : List Tri} {a b : Nat} (h : Wi L L' a b) {k j : Nat} (ht : Tol L k j) : Tol L' k j := ht.elim fun i hi => ⟨i, h.mem hi⟩

/-- What asking a node from place f does. -/
structure Asked (l : List Int) (L : List Tri) (e : Ex) (o : Nat) (F : Nat → Prop) (f : Nat) (R : List Nat) (L' : List Tri) : Prop where
  sd : Sd l L' e o
  cl : Cl l L' e o (fun x => F x ∨ x = f)
  wi : Wi L L' o (o + sz e)
  nw : ∀ j, Tol L' (rt e o) j → Tol L (rt e o) j ∨ j ∈ R
  rs : ∀ j ∈ R, (rt e o, f, j) ∈ L'
  nd : R.Nodup
theorem Asked.le {l : List Int} {L L' : List Tri} {e : Ex} {o f : Nat} {F : Nat → Prop} {R : List Nat} (h : Asked l L e o F f R L') : ∀ j ∈ R, j ≤ l.length :=
  fun j hj => (tk_le l e f j (h.sd.root (h.rs j hj))).2
theorem Asked.len {l : List Int} {L L' : List Tri} {e : Ex} {o f : Nat} {F : Nat → Prop} {R : List Nat} (h : Asked l L e o F f R L') : R.length ≤ l.length + 1 :=
  nd_len _ R h.nd (fun j hj => Nat.lt_succ_of_le (h.le j hj))

theorem tol_lay {L : List Tri} {k f : Nat} {N : List Nat} {j : Nat} (h : Tol (L ++ lay k f N) k j) : Tol L k j ∨ j ∈ N := by
  obtain ⟨i, hi⟩ := h
  rcases List.mem_append.1 hi with h | h
  · exact .inl ⟨i, h⟩
  · exact .inr (lay_mem.1 h).2.2
theorem tol_lay_other {L : List Tri} {k k' f : Nat} {N : List Nat} {j : Nat} (hk : k' ≠ k) : Tol (L ++ lay k f N) k' j ↔ Tol L k' j := by
  constructor
  · rintro ⟨i, hi⟩
    rcases List.mem_append.1 hi with h | h
    · exact ⟨i, h⟩
    · exact absurd (lay_mem.1 h).1 hk
  · rintro ⟨i, hi⟩; exact ⟨i, List.mem_append.2 (.inl hi)⟩

/-- A never: nothing. -/
theorem asked_never (l : List Int) (L : List Tri) (o : Nat) (F : Nat → Prop) (f : Nat) (h : Sd l L .never o) : Asked l L .never o F f [] L :=
  ⟨h, trivial, Wi.refl _ _ _, fun j h => .inl h, fun j h => by simp at h, List.nodup_nil⟩
theorem asked_empty (l : List Int) (L : List Tri) (o : Nat) (F : Nat → Prop) (f : Nat) (h : Sd l L .empty o) (c : Cl l L .empty o F) (hf : f ≤ l.length) :
    Asked l L .empty o F f (adds L (rt .empty o) f [f]) (L ++ lay (rt .empty o) f (adds L (rt .empty o) f [f])) := by
  have ha := adds_is L (rt .empty o) f [f]
  refine ⟨?_, ?_, Wi.lay _ _ _ _ (rt_lt _ _).1 (rt_lt _ _).2, fun j hj => tol_lay hj, fun j hj => List.mem_append.2 (.inr (lay_mem.2 ⟨rfl, rfl, hj⟩)), ha.nd⟩
  · intro i j hm
    rcases List.mem_append.1 hm with hm | hm
    · exact h i j hm
    · obtain ⟨_, rfl, hj⟩ := lay_mem.1 hm
      have := (ha.mem j hj).1
      simp at this
      subst this
      exact ⟨rfl, hf⟩
  · intro x hx
    rcases hx with hx | rfl
    · exact (Wi.lay L _ _ _ (rt_lt .empty o).1 (rt_lt .empty o).2).tol (c x hx)
    · exact ⟨x, ha.all x (by simp)⟩
theorem asked_one_no (l : List Int) (L : List Tri) (s : List Rg) (m : ByteArray) (o : Nat) (F : Nat → Prop) (f : Nat) (h : Sd l L (.one s m) o) (c : Cl l L (.one s m) o F) (hf : ∀ h : f < l.length, hasB s l[f] = false) :
    Asked l L (.one s m) o F f [] L := by
  refine ⟨h, ?_, Wi.refl _ _ _, fun j h => .inl h, fun j h => by simp at h, List.nodup_nil⟩
  intro x hl hx hb
  rcases hx with hx | rfl
  · exact c x hl hx hb
  · rw [hf hl] at hb; cases hb
theorem asked_one_yes (l : List Int) (L : List Tri) (s : List Rg) (m : ByteArray) (o : Nat) (F : Nat → Prop) (f : Nat) (h : Sd l L (.one s m) o) (c : Cl l L (.one s m) o F) (hl : f < l.length) (hb : hasB s l[f] = true) :
    Asked l L (.one s m) o F f (adds L (rt (.one s m) o) f [f + 1]) (L ++ lay (rt (.one s m) o) f (adds L (rt (.one s m) o) f [f + 1])) := by
  have ha := adds_is L (rt (.one s m) o) f [f + 1]
  refine ⟨?_, ?_, Wi.lay _ _ _ _ (rt_lt _ _).1 (rt_lt _ _).2, fun j hj => tol_lay hj, fun j hj => List.mem_append.2 (.inr (lay_mem.2 ⟨rfl, rfl, hj⟩)), ha.nd⟩
  · intro i j hm
    rcases List.mem_append.1 hm with hm | hm
    · exact h i j hm
    · obtain ⟨_, rfl, hj⟩ := lay_mem.1 hm
      have := (ha.mem j hj).1
      simp at this
      subst this
      exact ⟨hl, rfl, hb⟩
  · intro x hl2 hx hb2
    rcases hx with hx | rfl
    · exact (Wi.lay L _ _ _ (rt_lt (.one s m) o).1 (rt_lt (.one s m) o).2).tol (c x hl2 hx hb2)
    · exact ⟨x, ha.all _ (by simp)⟩

/-- While a Cat's second child is asked from the places that the first one came to. -/
structure CI (l : List Int) (F : Nat → Prop) (f : Nat) (L0 : List Tri) (x y : Ex) (o : Nat) (RX : List Nat) (q : Nat) (R : List Nat) (L : List Tri) : Prop where
  sx : Sd l L x o
  cx : Cl l L x o (fun j => F j ∨ j = f)
  sy : Sd l L y (o + sz x)
  cy : Cl l L y (o + sz x) (fun j => Tol L0 (rt x o) j ∨ j ∈ RX.take q)
  tx : ∀ j, Tol L (rt x o) j → Tol L0 (rt x o) j ∨ j ∈ RX
  rx : ∀ j ∈ RX, (rt x o, f, j) ∈ L
  sd : ∀ i j, (rt (.cat x y) o, i, j) ∈ L → tk l (.cat x y) i j
  rs : ∀ j ∈ R, (rt (.cat x y) o, f, j) ∈ L
  nd : R.Nodup
  nw : ∀ j, Tol L (rt (.cat x y) o) j → Tol L0 (rt (.cat x y) o) j ∨ j ∈ R
  ty : ∀ j, Tol L (rt y (o + sz x)) j → Tol L (rt (.cat x y) o) j
  wi : Wi L0 L o (o + sz (.cat x y))
theorem CI.start {l : List Int} {F : Nat → Prop} {f : Nat} {L0 L1 : List Tri} {x y : Ex} {o : Nat} {RX : List Nat} (hA : Asked l L0 x o F f RX L1) (h0 : Sd l L0 (.cat x y) o) (c0 : Cl l L0 (.cat x y) o F) :
    CI l F f L0 x y o RX 0 [] L1 := by
  have hy := rt_lt y (o + sz x)
  have ay : Ag L0 L1 (o + sz x) (o + sz x + sz y) := hA.wi.ag (.inr (Nat.le_refl _))
  have ak : Ag L0 L1 (rt (.cat x y) o) (rt (.cat x y) o + 1) := hA.wi.ag (.inr (by rw [rt_cat]; omega))
  refine ⟨hA.sd, hA.cl, h0.2.2.ag ay, ((c0.2.1.ag ay).mono fun j hj => ?_), hA.nw, hA.rs, fun i j hm => h0.1 i j ((ak _ (Nat.le_refl _) (by omega) i j).1 hm), fun j h => by simp at h, List.nodup_nil, fun j hj => .inl ((ak.tol (Nat.le_refl _) (by omega) j).1 hj), fun j hj => ?_, hA.wi.up (Nat.le_refl _) (by simp only [sz]; omega)⟩
  · rcases hj with hj | hj
    · exact hj
    · simp at hj
  · exact hA.wi.tol (c0.2.2 j ((ay.tol hy.1 hy.2 j).1 hj))
theorem CI.next {l : List Int} {F : Nat → Prop} {f : Nat} {L0 L L2 : List Tri} {x y : Ex} {o q : Nat} {RX R RY : List Nat} (h : CI l F f L0 x y o RX q R L) (hq : q < RX.length)
    (hA : Asked l L y (o + sz x) (fun j => Tol L0 (rt x o) j ∨ j ∈ RX.take q) RX[q] RY L2) :
    CI l F f L0 x y o RX (q + 1) (R ++ adds L2 (rt (.cat x y) o) f RY) (L2 ++ lay (rt (.cat x y) o) f (adds L2 (rt (.cat x y) o) f RY)) := by
  have hk := rt_cat x y o
  have hx := rt_lt x o
  have hy := rt_lt y (o + sz x)
  generalize hkk : rt (.cat x y) o = k at *
  have ha := adds_is L2 k f RY
  generalize hN : adds L2 k f RY = N at *
  have w1 : Wi L2 (L2 ++ lay k f N) k (k + 1) := Wi.lay _ _ _ _ (Nat.le_refl _) (by omega)
  have ax : Ag L (L2 ++ lay k f N) o (o + sz x) := (hA.wi.ag (.inl (Nat.le_refl _))).trans (w1.ag (.inl (by omega)))
  have ay : Ag L2 (L2 ++ lay k f N) (o + sz x) (o + sz x + sz y) := w1.ag (.inl (by omega))
  have ak : Ag L L2 k (k + 1) := hA.wi.ag (.inr (by omega))
  have hb : (rt x o, f, RX[q]) ∈ L := h.rx _ (List.getElem_mem hq)
  have hbx : tk l x f RX[q] := h.sx.root hb
  refine ⟨h.sx.ag ax, h.cx.ag ax, hA.sd.ag ay, (hA.cl.ag ay).mono fun j hj => ?_, fun j hj => h.tx j ((ax.tol hx.1 hx.2 j).1 hj), fun j hj => (ax _ hx.1 hx.2 _ _).2 (h.rx j hj), fun i j hm => ?_, fun j hj => ?_, ?_, fun j hj => ?_, fun j hj => ?_, ?_⟩
  · rcases hj with hj | hj
    · exact .inl (.inl hj)
    · rw [List.take_succ_eq_append_getElem hq] at hj
      rcases List.mem_append.1 hj with hj | hj
      · exact .inl (.inr hj)
      · simp at hj; exact .inr hj
  · rw [hkk] at hm
    rcases List.mem_append.1 hm with hm | hm
    · exact h.sd i j (by rw [hkk]; exact (ak _ (Nat.le_refl _) (by omega) i j).1 hm)
    · obtain ⟨_, rfl, hj⟩ := lay_mem.1 hm
      exact ⟨RX[q], hbx, hA.sd.root (hA.rs j (ha.mem j hj).1)⟩
  · rw [hkk]
    rcases List.mem_append.1 hj with hj | hj
    · have := h.rs j hj
      rw [hkk] at this
      exact List.mem_append.2 (.inl (hA.wi.mem this))
    · exact List.mem_append.2 (.inr (lay_mem.2 ⟨rfl, rfl, hj⟩))
  · rw [List.nodup_append]
    refine ⟨h.nd, ha.nd, fun a h1 b h2 e => ?_⟩
    subst e
    have := h.rs a h1
    rw [hkk] at this
    exact (ha.mem a h2).2 (hA.wi.mem this)
  · rw [hkk] at hj ⊢
    rcases tol_lay hj with hj | hj
    · have := h.nw j (by rw [hkk]; exact (ak.tol (Nat.le_refl _) (by omega) j).1 hj)
      rw [hkk] at this
      rcases this with h1 | h1
      · exact .inl h1
      · exact .inr (List.mem_append.2 (.inl h1))
    · exact .inr (List.mem_append.2 (.inr hj))
  · rw [hkk]
    have hj2 := (ay.tol hy.1 hy.2 j).1 hj
    rcases hA.nw j hj2 with h1 | h1
    · have := h.ty j h1
      rw [hkk] at this
      exact w1.tol (hA.wi.tol this)
    · exact ⟨f, ha.all j h1⟩
  · exact (h.wi.trans (hA.wi.up (by omega) (by simp only [sz]; omega))).trans (w1.up (by omega) (by simp only [sz]; omega))
theorem CI.done {l : List Int} {F : Nat → Prop} {f : Nat} {L0 L : List Tri} {x y : Ex} {o : Nat} {RX R : List Nat} (h : CI l F f L0 x y o RX RX.length R L) : Asked l L0 (.cat x y) o F f R L :=
  ⟨⟨h.sd, h.sx, h.sy⟩, ⟨h.cx, h.cy.mono (fun j hj => by rw [List.take_length]; exact h.tx j hj), h.ty⟩, h.wi, h.nw, h.rs, h.nd⟩
theorem CI.len {l : List Int} {F : Nat → Prop} {f : Nat} {L0 L : List Tri} {x y : Ex} {o q : Nat} {RX R : List Nat} (h : CI l F f L0 x y o RX q R L) : R.length ≤ l.length + 1 :=
  nd_len _ R h.nd (fun j hj => Nat.lt_succ_of_le (tk_le l _ _ _ (h.sd _ _ (h.rs j hj))).2)

/-- An Alt, its first child asked. -/
theorem alt_mid {l : List Int} {F : Nat → Prop} {f : Nat} {L0 L1 : List Tri} {x y : Ex} {o : Nat} {RX : List Nat} (h0 : Sd l L0 (.alt x y) o) (c0 : Cl l L0 (.alt x y) o F) (hA : Asked l L0 x o F f RX L1) (N : List Nat) :
    Sd l (L1 ++ lay (rt (.alt x y) o) f N) y (o + sz x) ∧ Cl l (L1 ++ lay (rt (.alt x y) o) f N) y (o + sz x) F := by
  have hk := rt_alt x y o
  have w1 : Wi L1 (L1 ++ lay (rt (.alt x y) o) f N) (rt (.alt x y) o) (rt (.alt x y) o + 1) := Wi.lay _ _ _ _ (Nat.le_refl _) (by omega)
  have ay : Ag L0 (L1 ++ lay (rt (.alt x y) o) f N) (o + sz x) (o + sz x + sz y) := (hA.wi.ag (.inr (Nat.le_refl _))).trans (w1.ag (.inl (by omega)))
  exact ⟨h0.2.2.ag ay, c0.2.1.ag ay⟩
theorem alt_done {l : List Int} {F : Nat → Prop} {f : Nat} {L0 L1 L2 : List Tri} {x y : Ex} {o : Nat} {RX RY : List Nat} (h0 : Sd l L0 (.alt x y) o) (c0 : Cl l L0 (.alt x y) o F) (hA : Asked l L0 x o F f RX L1)
    (hB : Asked l (L1 ++ lay (rt (.alt x y) o) f (adds L1 (rt (.alt x y) o) f RX)) y (o + sz x) F f RY L2) :
    Asked l L0 (.alt x y) o F f (adds L1 (rt (.alt x y) o) f RX ++ adds L2 (rt (.alt x y) o) f RY) (L2 ++ lay (rt (.alt x y) o) f (adds L2 (rt (.alt x y) o) f RY)) := by
  have hk := rt_alt x y o
  have hx := rt_lt x o
  have hy := rt_lt y (o + sz x)
  obtain ⟨s0, sx, sy⟩ := h0
  obtain ⟨cx, cy, tx, ty⟩ := c0
  generalize hkk : rt (.alt x y) o = k at *
  have ha := adds_is L1 k f RX
  have hb := adds_is L2 k f RY
  generalize adds L1 k f RX = N at *
  generalize adds L2 k f RY = N2 at *
  have w1 : Wi L1 (L1 ++ lay k f N) k (k + 1) := Wi.lay _ _ _ _ (Nat.le_refl _) (by omega)
  have w2 : Wi L2 (L2 ++ lay k f N2) k (k + 1) := Wi.lay _ _ _ _ (Nat.le_refl _) (by omega)
  have ax : Ag L1 (L2 ++ lay k f N2) o (o + sz x) := ((w1.ag (.inl (by omega))).trans (hB.wi.ag (.inl (Nat.le_refl _)))).trans (w2.ag (.inl (by omega)))
  have ay : Ag L2 (L2 ++ lay k f N2) (o + sz x) (o + sz x + sz y) := w2.ag (.inl (by omega))
  have ak0 : Ag L0 L1 k (k + 1) := hA.wi.ag (.inr (by omega))
  have ak2 : Ag (L1 ++ lay k f N) L2 k (k + 1) := hB.wi.ag (.inr (by omega))
  refine ⟨⟨fun i j hm => ?_, hA.sd.ag ax, hB.sd.ag ay⟩, ⟨hA.cl.ag ax, hB.cl.ag ay, fun j hj => ?_, fun j hj => ?_⟩, ?_, fun j hj => ?_, fun j hj => ?_, ?_⟩
  · rw [hkk] at hm
    rcases List.mem_append.1 hm with hm | hm
    · rcases List.mem_append.1 ((ak2 _ (Nat.le_refl _) (by omega) i j).1 hm) with hm | hm
      · exact s0 i j ((ak0 _ (Nat.le_refl _) (by omega) i j).1 hm)
      · obtain ⟨_, rfl, hj⟩ := lay_mem.1 hm
        exact .inl (hA.sd.root (hA.rs j (ha.mem j hj).1))
    · obtain ⟨_, rfl, hj⟩ := lay_mem.1 hm
      exact .inr (hB.sd.root (hB.rs j (hb.mem j hj).1))
  · rw [hkk]
    rcases hA.nw j ((ax.tol hx.1 hx.2 j).1 hj) with h1 | h1
    · exact w2.tol (hB.wi.tol (w1.tol (hA.wi.tol (tx j h1))))
    · exact w2.tol (hB.wi.tol ⟨f, ha.all j h1⟩)
  · rw [hkk]
    rcases hB.nw j ((ay.tol hy.1 hy.2 j).1 hj) with h1 | h1
    · have a0 : Ag L0 (L1 ++ lay k f N) (o + sz x) (o + sz x + sz y) := (hA.wi.ag (.inr (Nat.le_refl _))).trans (w1.ag (.inl (by omega)))
      exact w2.tol (hB.wi.tol (w1.tol (hA.wi.tol (ty j ((a0.tol hy.1 hy.2 j).1 h1)))))
    · exact ⟨f, hb.all j h1⟩
  · exact (((hA.wi.up (Nat.le_refl _) (by simp only [sz]; omega)).trans (w1.up (by omega) (by simp only [sz]; omega))).trans (hB.wi.up (by omega) (by simp only [sz]; omega))).trans (w2.up (by omega) (by simp only [sz]; omega))
  · rw [hkk] at hj ⊢
    rcases tol_lay hj with hj | hj
    · rcases tol_lay ((ak2.tol (Nat.le_refl _) (by omega) j).1 hj) with hj | hj
      · exact .inl ((ak0.tol (Nat.le_refl _) (by omega) j).1 hj)
      · exact .inr (List.mem_append.2 (.inl hj))
    · exact .inr (List.mem_append.2 (.inr hj))
  · rw [hkk]
    rcases List.mem_append.1 hj with hj | hj
    · exact w2.mem (hB.wi.mem (List.mem_append.2 (.inr (lay_mem.2 ⟨rfl, rfl, hj⟩))))
    · exact List.mem_append.2 (.inr (lay_mem.2 ⟨rfl, rfl, hj⟩))
  · rw [List.nodup_append]
    refine ⟨ha.nd, hb.nd, fun a h1 b h2 e => ?_⟩
    subst e
    exact (hb.mem a h2).2 (hB.wi.mem (List.mem_append.2 (.inr (lay_mem.2 ⟨rfl, rfl, h1⟩))))

/-- While a Star's child is asked from all that it has come to. -/
structure SI (l : List Int) (F : Nat → Prop) (f : Nat) (L0 : List Tri) (x : Ex) (o : Nat) (q : Nat) (R : List Nat) (L : List Tri) : Prop where
  sx : Sd l L x o
  cx : Cl l L x o (fun j => Tol L0 (rt (.star x) o) j ∨ j ∈ R.take q)
  sd : ∀ i j, (rt (.star x) o, i, j) ∈ L → tk l (.star x) i j
  rs : ∀ j ∈ R, (rt (.star x) o, f, j) ∈ L
  nd : R.Nodup
  nw : ∀ j, Tol L (rt (.star x) o) j → Tol L0 (rt (.star x) o) j ∨ j ∈ R
  tx : ∀ j, Tol L (rt x o) j → Tol L (rt (.star x) o) j
  tf : ∀ j, F j ∨ j = f → Tol L (rt (.star x) o) j
  wi : Wi L0 L o (o + sz (.star x))
theorem SI.start {l : List Int} {F : Nat → Prop} {f : Nat} {L0 : List Tri} {x : Ex} {o : Nat} (h0 : Sd l L0 (.star x) o) (c0 : Cl l L0 (.star x) o F) (hf : f ≤ l.length) :
    SI l F f L0 x o 0 (adds L0 (rt (.star x) o) f [f]) (L0 ++ lay (rt (.star x) o) f (adds L0 (rt (.star x) o) f [f])) := by
  have hk := rt_star x o
  have hx := rt_lt x o
  obtain ⟨s0, sx⟩ := h0
  obtain ⟨tf, cx, tx⟩ := c0
  generalize hkk : rt (.star x) o = k at *
  have ha := adds_is L0 k f [f]
  generalize adds L0 k f [f] = N at *
  have w1 : Wi L0 (L0 ++ lay k f N) k (k + 1) := Wi.lay _ _ _ _ (Nat.le_refl _) (by omega)
  have ax : Ag L0 (L0 ++ lay k f N) o (o + sz x) := w1.ag (.inl (by omega))
  refine ⟨sx.ag ax, (cx.ag ax).mono fun j hj => ?_, fun i j hm => ?_, fun j hj => ?_, ha.nd, fun j hj => ?_, fun j hj => ?_, fun j hj => ?_, w1.up (by omega) (by simp only [sz]; omega)⟩
  · rcases hj with hj | hj
    · rw [hkk] at hj; exact hj
    · simp at hj
  · rw [hkk] at hm
    rcases List.mem_append.1 hm with hm | hm
    · exact s0 i j hm
    · obtain ⟨_, rfl, hj⟩ := lay_mem.1 hm
      have := (ha.mem j hj).1
      simp at this
      subst this
      exact ⟨hf, .refl _⟩
  · rw [hkk]; exact List.mem_append.2 (.inr (lay_mem.2 ⟨rfl, rfl, hj⟩))
  · rw [hkk] at hj ⊢; exact tol_lay hj
  · rw [hkk]; exact w1.tol (tx j ((ax.tol hx.1 hx.2 j).1 hj))
  · rw [hkk]
    rcases hj with hj | rfl
    · exact w1.tol (tf j hj)
    · exact ⟨j, ha.all j (by simp)⟩
theorem SI.next {l : List Int} {F : Nat → Prop} {f : Nat} {L0 L L2 : List Tri} {x : Ex} {o q : Nat} {R RX : List Nat} (h : SI l F f L0 x o q R L) (hq : q < R.length)
    (hA : Asked l L x o (fun j => Tol L0 (rt (.star x) o) j ∨ j ∈ R.take q) R[q] RX L2) :
    SI l F f L0 x o (q + 1) (R ++ adds L2 (rt (.star x) o) f RX) (L2 ++ lay (rt (.star x) o) f (adds L2 (rt (.star x) o) f RX)) := by
  have hk := rt_star x o
  have hx := rt_lt x o
  have hb := h.rs _ (List.getElem_mem hq)
  have hbx := h.sd _ _ hb
  obtain ⟨sx, cx, sd, rs, nd, nw, tx, tf, wi⟩ := h
  generalize hkk : rt (.star x) o = k at *
  have ha := adds_is L2 k f RX
  generalize adds L2 k f RX = N at *
  have w1 : Wi L2 (L2 ++ lay k f N) k (k + 1) := Wi.lay _ _ _ _ (Nat.le_refl _) (by omega)
  have ax : Ag L2 (L2 ++ lay k f N) o (o + sz x) := w1.ag (.inl (by omega))
  have ak : Ag L L2 k (k + 1) := hA.wi.ag (.inr (by omega))
  refine ⟨hA.sd.ag ax, (hA.cl.ag ax).mono fun j hj => ?_, fun i j hm => ?_, fun j hj => ?_, ?_, fun j hj => ?_, fun j hj => ?_, fun j hj => ?_, ?_⟩
  · rw [hkk] at hj
    rcases hj with hj | hj
    · exact .inl (.inl hj)
    · rw [List.take_append_of_le_length (by omega), List.take_succ_eq_append_getElem hq] at hj
      rcases List.mem_append.1 hj with hj | hj
      · exact .inl (.inr hj)
      · simp at hj; exact .inr hj
  · rw [hkk] at hm
    rcases List.mem_append.1 hm with hm | hm
    · exact sd i j ((ak _ (Nat.le_refl _) (by omega) i j).1 hm)
    · obtain ⟨_, rfl, hj⟩ := lay_mem.1 hm
      exact ⟨hbx.1, .tail hbx.2 (hA.sd.root (hA.rs j (ha.mem j hj).1))⟩
  · rw [hkk]
    rcases List.mem_append.1 hj with hj | hj
    · exact List.mem_append.2 (.inl (hA.wi.mem (rs j hj)))
    · exact List.mem_append.2 (.inr (lay_mem.2 ⟨rfl, rfl, hj⟩))
  · rw [List.nodup_append]
    refine ⟨nd, ha.nd, fun a h1 b h2 e => ?_⟩
    subst e
    exact (ha.mem a h2).2 (hA.wi.mem (rs a h1))
  · rw [hkk] at hj ⊢
    rcases tol_lay hj with hj | hj
    · rcases nw j ((ak.tol (Nat.le_refl _) (by omega) j).1 hj) with h1 | h1
      · exact .inl h1
      · exact .inr (List.mem_append.2 (.inl h1))
    · exact .inr (List.mem_append.2 (.inr hj))
  · rw [hkk]
    rcases hA.nw j ((ax.tol hx.1 hx.2 j).1 hj) with h1 | h1
    · exact w1.tol (hA.wi.tol (tx j h1))
    · exact ⟨f, ha.all j h1⟩
  · rw [hkk]; exact w1.tol (hA.wi.tol (tf j hj))
  · exact (wi.trans (hA.wi.up (Nat.le_refl _) (by simp only [sz]; omega))).trans (w1.up (by omega) (by simp only [sz]; omega))
theorem SI.done {l : List Int} {F : Nat → Prop} {f : Nat} {L0 L : List Tri} {x : Ex} {o : Nat} {R : List Nat} (h : SI l F f L0 x o R.length R L) : Asked l L0 (.star x) o F f R L :=
  ⟨⟨h.sd, h.sx⟩, ⟨h.tf, h.cx.mono (fun j hj => by rw [List.take_length]; exact h.nw j hj), h.tx⟩, h.wi, h.nw, h.rs, h.nd⟩
theorem SI.len {l : List Int} {F : Nat → Prop} {f : Nat} {L0 L : List Tri} {x : Ex} {o q : Nat} {R : List Nat} (h : SI l F f L0 x o q R L) : R.length ≤ l.length + 1 :=
  nd_len _ R h.nd (fun j hj => Nat.lt_succ_of_le (tk_le l _ _ _ (h.sd _ _ (h.rs j hj))).2)

/-- At first nothing is remembered. -/
theorem sd_nil (l : List Int) : ∀ (e : Ex) (o : Nat), Sd l [] e o
  | .never, _ => fun _ _ h => by simp at h
  | .empty, _ => fun _ _ h => by simp at h
  | .one _ _, _ => fun _ _ h => by simp at h
  | .cat x y, o => ⟨fun _ _ h => by simp at h, sd_nil l x o, sd_nil l y _⟩
  | .alt x y, o => ⟨fun _ _ h => by simp at h, sd_nil l x o, sd_nil l y _⟩
  | .star x, o => ⟨fun _ _ h => by simp at h, sd_nil l x o⟩
theorem tol_nil (k j : Nat) : ¬ Tol [] k j := fun ⟨i, h⟩ => by simp at h
theorem cl_nil (l : List Int) : ∀ (e : Ex) (o : Nat) (F : Nat → Prop), (∀ f, ¬ F f) → Cl l [] e o F
  | .never, _, _, _ => trivial
  | .empty, _, _, hF => fun f h => absurd h (hF f)
  | .one _ _, _, _, hF => fun f _ h => absurd h (hF f)
  | .cat x y, o, F, hF => ⟨cl_nil l x o F hF, cl_nil l y _ _ (tol_nil _), fun j h => absurd h (tol_nil _ j)⟩
  | .alt x y, o, F, hF => ⟨cl_nil l x o F hF, cl_nil l y _ F hF, fun j h => absurd h (tol_nil _ j), fun j h => absurd h (tol_nil _ j)⟩
  | .star x, o, F, hF => ⟨fun f h => absurd h (hF f), cl_nil l x o _ (tol_nil _), fun j h => absurd h (tol_nil _ j)⟩
/-- The root, asked at first: from place 0 it has told just what it takes. -/
theorem asked_tells {l : List Int} {e : Ex} {R : List Nat} {L' : List Tri} (h : Asked l [] e 0 (fun _ => False) 0 R L') (j : Nat) : (rt e 0, 0, j) ∈ L' ↔ tk l e 0 j := by
  constructor
  · exact fun hm => h.sd.root hm
  · intro ht
    have := h.cl.full (.inr rfl) ht
    rcases h.nw j this with h1 | h1
    · exact absurd h1 (tol_nil _ _)
    · exact h.rs j h1
end Go.Proofs.Ytfpiackfhdiapaa.S
