/- The document's own way to a set, in plain mathematics: places where something may begin, and the stretches between them. -/
import Derived.Test.YtehikcddnjibcaaNMath
namespace Go.Proofs.Ytehikcddnjibcaa
set_option linter.unusedVariables false

/-- Numbers that rise, all above m. -/
def Inc : Int → List Int → Prop
  | _, [] => True
  | m, x :: l => m < x ∧ Inc x l
/-- A number put where it belongs. -/
def putL : List Int → Int → List Int
  | [], v => [v]
  | x :: l, v => if x < v then x :: putL l v else if x = v then x :: l else v :: x :: l
theorem putL_inc : ∀ (l : List Int) (m v : Int), Inc m l → m < v → Inc m (putL l v)
  | [], m, v, _, h => ⟨h, trivial⟩
  | x :: l, m, v, h, hv => by
    unfold putL
    split
    · exact ⟨h.1, putL_inc l x v h.2 (by assumption)⟩
    · split
      · exact h
      · exact ⟨hv, by omega, h.2⟩
theorem mem_putL : ∀ (l : List Int) (v x : Int), x ∈ putL l v ↔ x ∈ l ∨ x = v
  | [], v, x => by simp [putL]
  | y :: l, v, x => by
    unfold putL
    split
    · rw [List.mem_cons, mem_putL l v x, List.mem_cons, or_assoc]
    · split
      · rename_i h
        subst h
        rw [List.mem_cons]
        constructor
        · exact .inl
        · rintro (h | h)
          · exact h
          · exact .inl h
      · rw [List.mem_cons]
        exact Or.comm
theorem putL_len : ∀ (l : List Int) (v : Int), (putL l v).length ≤ l.length + 1
  | [], v => by simp [putL]
  | y :: l, v => by
    unfold putL
    have := putL_len l v
    split
    · simp; omega
    · split <;> simp
/-- Where it belongs: behind all that are below. -/
theorem putL_at : ∀ (l : List Int) (v : Int) (k : Nat), (∀ i (h : i < l.length), i < k → l[i] < v) → k ≤ l.length → (∀ h : k < l.length, ¬ l[k] < v) →
    putL l v = if (∃ h : k < l.length, l[k] = v) then l else l.take k ++ v :: l.drop k
  | [], v, k, _, hk, _ => by
    obtain rfl : k = 0 := by simpa using hk
    simp [putL]
  | y :: l, v, 0, _, _, hn => by
    have h0 : ¬ y < v := hn (by simp)
    unfold putL
    rw [if_neg h0]
    by_cases e : y = v
    · rw [if_pos e, if_pos ⟨by simp, e⟩]
    · rw [if_neg e, if_neg (fun ⟨_, h⟩ => e h)]; rfl
  | y :: l, v, k + 1, hl, hk, hn => by
    have h0 : y < v := hl 0 (by simp) (by omega)
    unfold putL
    rw [if_pos h0, putL_at l v k (fun i h hi => hl (i + 1) (by simpa using h) (by omega)) (by simpa using hk) (fun h => hn (by simpa using h))]
    by_cases e : ∃ h : k < l.length, l[k] = v
    · rw [if_pos e, if_pos (by obtain ⟨h, e⟩ := e; exact ⟨by simpa using h, e⟩)]
    · rw [if_neg e, if_neg (fun ⟨h, e'⟩ => e ⟨by simpa using h, e'⟩)]; rfl

/-- All places where something may begin. -/
def st1 (acc : List Int) (r : Rg) : List Int := if nextB r.2 then putL (putL acc r.1) (nextN r.2) else putL acc r.1
def stL : List Int → List Rg → List Int
  | acc, [] => acc
  | acc, r :: l => stL (st1 acc r) l
theorem stL_snoc (r : Rg) : ∀ (l : List Rg) (acc : List Int), stL acc (l ++ [r]) = st1 (stL acc l) r
  | [], acc => rfl
  | x :: l, acc => stL_snoc r l (st1 acc x)
/-- What the places are like. -/
def St (at_ : List Int) (l : List Rg) : Prop := Inc (-1) at_ ∧ 0 ∈ at_ ∧ (∀ x ∈ at_, Sc x) ∧ ∀ r ∈ l, r.1 ∈ at_ ∧ (r.2 < 1114111 → nx r.2 ∈ at_)
theorem st_start : St [0] [] := ⟨⟨by omega, trivial⟩, by simp, fun x hx => by simp at hx; subst hx; unfold Sc; omega, fun r hr => by simp at hr⟩
theorem st_step {at_ : List Int} {l : List Rg} (h : St at_ l) {r : Rg} (hr : Ok r) : St (st1 at_ r) (l ++ [r]) := by
  obtain ⟨h1, h2, h3, h4⟩ := h
  obtain ⟨s1, s2, s3⟩ := hr
  have hp : Inc (-1) (putL at_ r.1) := putL_inc _ _ _ h1 (by unfold Sc at s1; omega)
  by_cases hl : r.2 < 1114111
  · have hn := nextN_nx s2 hl
    have hS := nx_sc s2 hl
    have e : st1 at_ r = putL (putL at_ r.1) (nx r.2) := by
      unfold st1
      rw [if_pos (show nextB r.2 = true from decide_eq_true hl), hn]
    rw [e]
    refine ⟨putL_inc _ _ _ hp (by unfold Sc at hS; omega), ?_, fun x hx => ?_, fun q hq => ?_⟩
    · rw [mem_putL, mem_putL]; exact .inl (.inl h2)
    · rw [mem_putL, mem_putL] at hx
      rcases hx with (hx | rfl) | rfl
      · exact h3 x hx
      · exact s1
      · exact hS
    · rcases List.mem_append.1 hq with hq | hq
      · obtain ⟨a, b⟩ := h4 q hq
        refine ⟨?_, fun hh => ?_⟩
        · rw [mem_putL, mem_putL]; exact .inl (.inl a)
        · rw [mem_putL, mem_putL]; exact .inl (.inl (b hh))
      · rw [List.mem_singleton] at hq
        subst hq
        refine ⟨?_, fun _ => ?_⟩
        · rw [mem_putL, mem_putL]; exact .inl (.inr rfl)
        · rw [mem_putL]; exact .inr rfl
  · have e : st1 at_ r = putL at_ r.1 := by
      unfold st1
      rw [if_neg (by rw [show nextB r.2 = false from decide_eq_false hl]; decide)]
    rw [e]
    refine ⟨hp, ?_, fun x hx => ?_, fun q hq => ?_⟩
    · rw [mem_putL]; exact .inl h2
    · rw [mem_putL] at hx
      rcases hx with hx | rfl
      · exact h3 x hx
      · exact s1
    · rcases List.mem_append.1 hq with hq | hq
      · obtain ⟨a, b⟩ := h4 q hq
        refine ⟨?_, fun hh => ?_⟩
        · rw [mem_putL]; exact .inl a
        · rw [mem_putL]; exact .inl (b hh)
      · rw [List.mem_singleton] at hq
        subst hq
        refine ⟨?_, fun hh => absurd hh hl⟩
        rw [mem_putL]; exact .inr rfl

theorem Inc.lt : ∀ {l : List Int} {m : Int}, Inc m l → ∀ i (h : i < l.length), m < l[i]
  | x :: l, m, h, 0, _ => h.1
  | x :: l, m, h, i + 1, hi => by
    have h1 : i < l.length := by simpa using hi
    have h2 := Inc.lt h.2 i h1
    have h3 := h.1
    show m < l[i]'h1
    omega
theorem Inc.mono : ∀ {l : List Int} {m : Int}, Inc m l → ∀ i j (hi : i < l.length) (hj : j < l.length), i < j → l[i] < l[j]
  | x :: l, m, h, 0, j + 1, _, hj, _ => Inc.lt h.2 j (by simpa using hj)
  | x :: l, m, h, i + 1, j + 1, hi, hj, hij => Inc.mono h.2 i j (by simpa using hi) (by simpa using hj) (by omega)
/-- Between two places nothing begins: what is in a row of ranges stays so. -/
theorem st_const {at_ : List Int} {l q : List Rg} (h : St at_ l) (hq : ∀ r ∈ q, r ∈ l) (hok : ∀ r ∈ q, Ok r) (i : Nat) (hi : i < at_.length) (v : Int) (hv : Sc v) (h1 : at_[i] ≤ v) (h2 : ∀ hh : i + 1 < at_.length, v < at_[i + 1]) :
    In q v ↔ In q at_[i] := by
  obtain ⟨hinc, _, hsc, hst⟩ := h
  have hS := hsc _ (List.getElem_mem hi)
  have key : ∀ x ∈ at_, x ≤ v → x ≤ at_[i] := by
    intro x hx hxv
    obtain ⟨j, hj, rfl⟩ := List.getElem_of_mem hx
    rcases Nat.lt_trichotomy i j with hij | hij | hij
    · exfalso
      have h3 := h2 (by omega)
      rcases Nat.lt_or_ge (i + 1) j with h4 | h4
      · have := hinc.mono (i + 1) j (by omega) hj h4; omega
      · have e : j = i + 1 := by omega
        subst e; omega
    · subst hij; omega
    · have := hinc.mono j i hj hi hij; omega
  constructor
  · rintro ⟨r, hr, a, b⟩
    have hm := (hst r (hq r hr)).1
    exact ⟨r, hr, key _ hm a, by omega⟩
  · rintro ⟨r, hr, a, b⟩
    refine ⟨r, hr, by omega, ?_⟩
    rcases Int.lt_or_le r.2 v with h5 | h5
    · exfalso
      have ho := hok r hr
      have hlt : r.2 < 1114111 := by unfold Sc at hv; omega
      have hm := (hst r (hq r hr)).2 hlt
      have := key _ hm (nx_le ho.2.1 hv h5)
      have := nx_gt r.2
      omega
    · exact h5

/-- What has been built of the first i stretches. -/
def BdInv (at_ : List Int) (p : Int → Prop) (i : Nat) (acc : List Rg) : Prop :=
  acc.length ≤ i ∧ (acc = [] ∨ ∃ t x m, acc = t ++ [x] ∧ Upto t m ∧ m < x.1 ∧ Ok x ∧ ∀ h : i < at_.length, nx x.2 ≤ at_[i]) ∧ ∀ v, Sc v → (In acc v ↔ p v ∧ ∀ h : i < at_.length, v < at_[i])
/-- Places whose first is 0, and a p that stays so between two. -/
structure Places (at_ : List Int) (p : Int → Prop) : Prop where
  inc : Inc (-1) at_
  sc : ∀ x ∈ at_, Sc x
  zero : ∃ h : 0 < at_.length, at_[0] = 0
  const : ∀ i (hi : i < at_.length) v, Sc v → at_[i] ≤ v → (∀ hh : i + 1 < at_.length, v < at_[i + 1]) → (p v ↔ p at_[i])
theorem zero_first {at_ : List Int} (h1 : Inc (-1) at_) (h2 : 0 ∈ at_) : ∃ h : 0 < at_.length, at_[0] = 0 := by
  obtain ⟨j, hj, e⟩ := List.getElem_of_mem h2
  refine ⟨by omega, ?_⟩
  rcases Nat.eq_zero_or_pos j with rfl | hp
  · exact e
  · have := h1.mono 0 j (by omega) hj hp
    have := h1.lt 0 (by omega)
    omega
theorem bd_start {at_ : List Int} {p : Int → Prop} (h : Places at_ p) : BdInv at_ p 0 [] := by
  obtain ⟨h0, e⟩ := h.zero
  refine ⟨Nat.le_refl _, .inl rfl, fun v hv => ⟨fun hi => absurd hi (In_nil v), fun ⟨_, hh⟩ => ?_⟩⟩
  have := hh h0
  unfold Sc at hv
  omega
theorem bd_end {at_ : List Int} {p : Int → Prop} {i : Nat} {acc : List Rg} (h : BdInv at_ p i acc) (hi : ¬ i < at_.length) : IsSet acc p := by
  obtain ⟨_, h2, h3⟩ := h
  refine ⟨?_, fun v hv => ?_⟩
  · rcases h2 with rfl | ⟨t, x, m, rfl, hu, hm, hx, _⟩
    · trivial
    · exact (hu.snoc hm hx).gd
  · rw [h3 v hv]
    exact ⟨fun h => h.1, fun h => ⟨h, fun hh => absurd hh hi⟩⟩
theorem bd_skip {at_ : List Int} {p : Int → Prop} {i : Nat} {acc : List Rg} (P : Places at_ p) (h : BdInv at_ p i acc) (hi : i < at_.length) (hp : ¬ p at_[i]) : BdInv at_ p (i + 1) acc := by
  obtain ⟨h1, h2, h3⟩ := h
  refine ⟨by omega, ?_, fun v hv => ?_⟩
  · rcases h2 with h2 | ⟨t, x, m, e, hu, hm, hx, hn⟩
    · exact .inl h2
    · exact .inr ⟨t, x, m, e, hu, hm, hx, fun hh => by
        have := hn hi
        have := P.inc.mono i (i + 1) hi hh (by omega)
        omega⟩
  · rw [h3 v hv]
    constructor
    · rintro ⟨a, b⟩
      refine ⟨a, fun hh => ?_⟩
      have := b hi
      have := P.inc.mono i (i + 1) hi hh (by omega)
      omega
    · rintro ⟨a, b⟩
      refine ⟨a, fun _ => ?_⟩
      rcases Int.lt_or_le v at_[i] with h4 | h4
      · exact h4
      · exact absurd ((P.const i hi v hv h4 b).1 a) hp
/-- Where the i-th stretch ends. -/
def hiN (at_ : List Int) (i : Nat) : Int := if h : i + 1 < at_.length then prevN at_[i + 1] else 1114111
theorem hi_facts {at_ : List Int} {p : Int → Prop} (P : Places at_ p) {i : Nat} (hi : i < at_.length) : Ok (at_[i], hiN at_ i) ∧ (∀ h : i + 1 < at_.length, nx (hiN at_ i) = at_[i + 1]) ∧ ∀ v, Sc v → (v ≤ hiN at_ i ↔ ∀ hh : i + 1 < at_.length, v < at_[i + 1]) := by
  have hS := P.sc _ (List.getElem_mem hi)
  unfold hiN
  by_cases h : i + 1 < at_.length
  · rw [dif_pos h]
    have hS2 := P.sc _ (List.getElem_mem h)
    have hlt := P.inc.mono i (i + 1) hi h (by omega)
    have h0 : 0 < at_[i + 1] := by unfold Sc at hS; omega
    obtain ⟨p1, p2, p3⟩ := prev_facts hS2 h0
    refine ⟨⟨hS, p1, prev_ge hS hS2 hlt⟩, fun _ => p3, fun v hv => ⟨fun hh _ => by omega, fun hh => prev_ge hv hS2 (hh h)⟩⟩
  · rw [dif_neg h]
    refine ⟨⟨hS, by unfold Sc; omega, by unfold Sc at hS; omega⟩, fun hh => absurd hh h, fun v hv => ⟨fun _ hh => absurd hh h, fun _ => by unfold Sc at hv; omega⟩⟩
theorem bd_mem {at_ : List Int} {p : Int → Prop} {i : Nat} {acc : List Rg} (P : Places at_ p) (h : BdInv at_ p i acc) (hi : i < at_.length) (hp : p at_[i]) (v : Int) (hv : Sc v) :
    (p v ∧ ∀ hh : i + 1 < at_.length, v < at_[i + 1]) ↔ In acc v ∨ (at_[i] ≤ v ∧ v ≤ hiN at_ i) := by
  obtain ⟨_, _, h3⟩ := h
  obtain ⟨f1, f2, f3⟩ := hi_facts P hi
  rw [h3 v hv, f3 v hv]
  constructor
  · rintro ⟨a, b⟩
    rcases Int.lt_or_le v at_[i] with h4 | h4
    · exact .inl ⟨a, fun _ => h4⟩
    · exact .inr ⟨h4, b⟩
  · rintro (⟨a, b⟩ | ⟨a, b⟩)
    · refine ⟨a, fun hh => ?_⟩
      have := b hi
      have := P.inc.mono i (i + 1) hi hh (by omega)
      omega
    · exact ⟨(P.const i hi v hv a b).2 hp, b⟩
theorem bd_new {at_ : List Int} {p : Int → Prop} {i : Nat} {acc : List Rg} (P : Places at_ p) (h : BdInv at_ p i acc) (hi : i < at_.length) (hp : p at_[i]) (hne : ∀ t x, acc = t ++ [x] → nextN x.2 ≠ at_[i]) : BdInv at_ p (i + 1) (acc ++ [(at_[i], hiN at_ i)]) := by
  have hm := bd_mem P h hi hp
  obtain ⟨f1, f2, f3⟩ := hi_facts P hi
  obtain ⟨h1, h2, h3⟩ := h
  have hS := P.sc _ (List.getElem_mem hi)
  refine ⟨by simp; omega, .inr ?_, fun v hv => ?_⟩
  · rcases h2 with rfl | ⟨t, x, m, rfl, hu, hm, hx, hn⟩
    · exact ⟨[], _, -1, rfl, Upto.nil, P.inc.lt i hi, f1, fun hh => by rw [f2 hh]; exact Int.le_refl _⟩
    · refine ⟨t ++ [x], _, nx x.2, rfl, hu.snoc hm hx, ?_, f1, fun hh => by rw [f2 hh]; exact Int.le_refl _⟩
      have h5 := hn hi
      have h6 := hne t x rfl
      have hlt : x.2 < 1114111 := by
        have := nx_gt x.2
        unfold Sc at hS
        omega
      rw [nextN_nx hx.2.1 hlt] at h6
      show nx x.2 < at_[i]
      omega
  · rw [In_app, In_one]
    exact (hm v hv).symm
theorem bd_more {at_ : List Int} {p : Int → Prop} {i : Nat} {t : List Rg} {x : Rg} (P : Places at_ p) (h : BdInv at_ p i (t ++ [x])) (hi : i < at_.length) (hp : p at_[i]) (he : nextN x.2 = at_[i]) : BdInv at_ p (i + 1) (t ++ [(x.1, hiN at_ i)]) := by
  have hm := bd_mem P h hi hp
  obtain ⟨f1, f2, f3⟩ := hi_facts P hi
  obtain ⟨h1, h2, h3⟩ := h
  have hS := P.sc _ (List.getElem_mem hi)
  rcases h2 with h2 | ⟨t', x', m, e, hu, hmm, hx, hn⟩
  · simp at h2
  · obtain ⟨rfl, e2⟩ := List.append_inj' e rfl
    simp at e2
    subst e2
    have h5 := hn hi
    have hlt : x.2 < 1114111 := by
      have := nx_gt x.2
      unfold Sc at hS
      omega
    rw [nextN_nx hx.2.1 hlt] at he
    have hg := nx_gt x.2
    have g1 := f1.2.2
    have g2 := hx.2.2
    have g1' : at_[i] ≤ hiN at_ i := g1
    refine ⟨by simp at *; omega, .inr ⟨t, _, m, rfl, hu, hmm, ⟨hx.1, f1.2.1, by show x.1 ≤ hiN at_ i; omega⟩, fun hh => by rw [f2 hh]; exact Int.le_refl _⟩, fun v hv => ?_⟩
    rw [hm v hv, In_app, In_app, In_one, In_one]
    show _ ∨ (x.1 ≤ v ∧ v ≤ hiN at_ i) ↔ _
    have hnx := fun hlt => nx_le hx.2.1 hv hlt
    constructor
    · rintro (a | ⟨a, b⟩)
      · exact .inl (.inl a)
      · rcases Int.lt_or_le x.2 v with c | c
        · have := hnx c
          exact .inr ⟨by omega, b⟩
        · exact .inl (.inr ⟨a, c⟩)
    · rintro ((a | ⟨a, b⟩) | ⟨a, b⟩)
      · exact .inl a
      · exact .inr ⟨a, by omega⟩
      · exact .inr ⟨by omega, b⟩
/-- The places of rows of ranges, and what is told of them. -/
theorem places_of {at_ : List Int} {l : List Rg} {p : Int → Prop} (h : St at_ l) (hc : ∀ i (hi : i < at_.length) v, Sc v → at_[i] ≤ v → (∀ hh : i + 1 < at_.length, v < at_[i + 1]) → (p v ↔ p at_[i])) : Places at_ p :=
  ⟨h.1, h.2.2.1, zero_first h.1 h.2.1, hc⟩
end Go.Proofs.Ytehikcddnjibcaa
