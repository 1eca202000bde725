/- RMath, RefPut, RefBuild, RefHas, RefStarts, RefNotKit, RefNot, RefSts, RefTwo, RefUB: joined. -/
import Derived.Test.YthaageiflimnnaaGrpB
import Derived.Test.YthaageiflimnnaaGrpA
import Derived.OwnWalk
import Derived.Deep.RegionHeld3
/- The document's own way to a set, in plain mathematics: places where something may begin, and the stretches between them. -/
namespace Go.Proofs.Ythaageiflimnnaa
set_option linter.unusedVariables false

/-- Numbers that rise, all above m. -/
def Inc : Int → List Int → Prop
  | _, [] => True
  | m, x :: l => m < x ∧ Inc x l
/-- A number put where it belongs. -/
def putL : List Int → Int → List Int
  | [], v => [v]
  | x :: l, v => if x < v then x :: putL l v else if x = v then x :: l else v :: x :: l
theorem putL_inc : ∀ (l : List Int) (m v : Int), Inc m l → m < v → Inc m (putL l v)
  | [], m, v, _, h => ⟨h, trivial⟩
  | x :: l, m, v, h, hv => by
    unfold putL
    split
    · exact ⟨h.1, putL_inc l x v h.2 (by assumption)⟩
    · split
      · exact h
      · exact ⟨hv, by omega, h.2⟩
theorem mem_putL : ∀ (l : List Int) (v x : Int), x ∈ putL l v ↔ x ∈ l ∨ x = v
  | [], v, x => by simp [putL]
  | y :: l, v, x => by
    unfold putL
    split
    · rw [List.mem_cons, mem_putL l v x, List.mem_cons, or_assoc]
    · split
      · rename_i h
        subst h
        rw [List.mem_cons]
        constructor
        · exact .inl
        · rintro (h | h)
          · exact h
          · exact .inl h
      · rw [List.mem_cons]
        exact Or.comm
theorem putL_len : ∀ (l : List Int) (v : Int), (putL l v).length ≤ l.length + 1
  | [], v => by simp [putL]
  | y :: l, v => by
    unfold putL
    have := putL_len l v
    split
    · simp; omega
    · split <;> simp
/-- Where it belongs: behind all that are below. -/
theorem putL_at : ∀ (l : List Int) (v : Int) (k : Nat), (∀ i (h : i < l.length), i < k → l[i] < v) → k ≤ l.length → (∀ h : k < l.length, ¬ l[k] < v) →
    putL l v = if (∃ h : k < l.length, l[k] = v) then l else l.take k ++ v :: l.drop k
  | [], v, k, _, hk, _ => by
    obtain rfl : k = 0 := by simpa using hk
    simp [putL]
  | y :: l, v, 0, _, _, hn => by
    have h0 : ¬ y < v := hn (by simp)
    unfold putL
    rw [if_neg h0]
    by_cases e : y = v
    · rw [if_pos e, if_pos ⟨by simp, e⟩]
    · rw [if_neg e, if_neg (fun ⟨_, h⟩ => e h)]; rfl
  | y :: l, v, k + 1, hl, hk, hn => by
    have h0 : y < v := hl 0 (by simp) (by omega)
    unfold putL
    rw [if_pos h0, putL_at l v k (fun i h hi => hl (i + 1) (by simpa using h) (by omega)) (by simpa using hk) (fun h => hn (by simpa using h))]
    by_cases e : ∃ h : k < l.length, l[k] = v
    · rw [if_pos e, if_pos (by obtain ⟨h, e⟩ := e; exact ⟨by simpa using h, e⟩)]
    · rw [if_neg e, if_neg (fun ⟨h, e'⟩ => e ⟨by simpa using h, e'⟩)]; rfl

/-- All places where something may begin. -/
def st1 (acc : List Int) (r : Rg) : List Int := if nextB r.2 then putL (putL acc r.1) (nextN r.2) else putL acc r.1
def stL : List Int → List Rg → List Int
  | acc, [] => acc
  | acc, r :: l => stL (st1 acc r) l
theorem stL_snoc (r : Rg) : ∀ (l : List Rg) (acc : List Int), stL acc (l ++ [r]) = st1 (stL acc l) r
  | [], acc => rfl
  | x :: l, acc => stL_snoc r l (st1 acc x)
/-- What the places are like. -/
def St (at_ : List Int) (l : List Rg) : Prop := Inc (-1) at_ ∧ 0 ∈ at_ ∧ (∀ x ∈ at_, Sc x) ∧ ∀ r ∈ l, r.1 ∈ at_ ∧ (r.2 < 1114111 → nx r.2 ∈ at_)
theorem st_start : St [0] [] := ⟨⟨by omega, trivial⟩, by simp, fun x hx => by simp at hx; subst hx; unfold Sc; omega, fun r hr => by simp at hr⟩
theorem st_step {at_ : List Int} {l : List Rg} (h : St at_ l) {r : Rg} (hr : Ok r) : St (st1 at_ r) (l ++ [r]) := by
  obtain ⟨h1, h2, h3, h4⟩ := h
  obtain ⟨s1, s2, s3⟩ := hr
  have hp : Inc (-1) (putL at_ r.1) := putL_inc _ _ _ h1 (by unfold Sc at s1; omega)
  by_cases hl : r.2 < 1114111
  · have hn := nextN_nx s2 hl
    have hS := nx_sc s2 hl
    have e : st1 at_ r = putL (putL at_ r.1) (nx r.2) := by
      unfold st1
      rw [if_pos (show nextB r.2 = true from decide_eq_true hl), hn]
    rw [e]
    refine ⟨putL_inc _ _ _ hp (by unfold Sc at hS; omega), ?_, fun x hx => ?_, fun q hq => ?_⟩
    · rw [mem_putL, mem_putL]; exact .inl (.inl h2)
    · rw [mem_putL, mem_putL] at hx
      rcases hx with (hx | rfl) | rfl
      · exact h3 x hx
      · exact s1
      · exact hS
    · rcases List.mem_append.1 hq with hq | hq
      · obtain ⟨a, b⟩ := h4 q hq
        refine ⟨?_, fun hh => ?_⟩
        · rw [mem_putL, mem_putL]; exact .inl (.inl a)
        · rw [mem_putL, mem_putL]; exact .inl (.inl (b hh))
      · rw [List.mem_singleton] at hq
        subst hq
        refine ⟨?_, fun _ => ?_⟩
        · rw [mem_putL, mem_putL]; exact .inl (.inr rfl)
        · rw [mem_putL]; exact .inr rfl
  · have e : st1 at_ r = putL at_ r.1 := by
      unfold st1
      rw [if_neg (by rw [show nextB r.2 = false from decide_eq_false hl]; decide)]
    rw [e]
    refine ⟨hp, ?_, fun x hx => ?_, fun q hq => ?_⟩
    · rw [mem_putL]; exact .inl h2
    · rw [mem_putL] at hx
      rcases hx with hx | rfl
      · exact h3 x hx
      · exact s1
    · rcases List.mem_append.1 hq with hq | hq
      · obtain ⟨a, b⟩ := h4 q hq
        refine ⟨?_, fun hh => ?_⟩
        · rw [mem_putL]; exact .inl a
        · rw [mem_putL]; exact .inl (b hh)
      · rw [List.mem_singleton] at hq
        subst hq
        refine ⟨?_, fun hh => absurd hh hl⟩
        rw [mem_putL]; exact .inr rfl

theorem Inc.lt : ∀ {l : List Int} {m : Int}, Inc m l → ∀ i (h : i < l.length), m < l[i]
  | x :: l, m, h, 0, _ => h.1
  | x :: l, m, h, i + 1, hi => by
    have h1 : i < l.length := by simpa using hi
    have h2 := Inc.lt h.2 i h1
    have h3 := h.1
    show m < l[i]'h1
    omega
theorem Inc.mono : ∀ {l : List Int} {m : Int}, Inc m l → ∀ i j (hi : i < l.length) (hj : j < l.length), i < j → l[i] < l[j]
  | x :: l, m, h, 0, j + 1, _, hj, _ => Inc.lt h.2 j (by simpa using hj)
  | x :: l, m, h, i + 1, j + 1, hi, hj, hij => Inc.mono h.2 i j (by simpa using hi) (by simpa using hj) (by omega)
/-- Between two places nothing begins: what is in a row of ranges stays so. -/
theorem st_const {at_ : List Int} {l q : List Rg} (h : St at_ l) (hq : ∀ r ∈ q, r ∈ l) (hok : ∀ r ∈ q, Ok r) (i : Nat) (hi : i < at_.length) (v : Int) (hv : Sc v) (h1 : at_[i] ≤ v) (h2 : ∀ hh : i + 1 < at_.length, v < at_[i + 1]) :
    In q v ↔ In q at_[i] := by
  obtain ⟨hinc, _, hsc, hst⟩ := h
  have hS := hsc _ (List.getElem_mem hi)
  have key : ∀ x ∈ at_, x ≤ v → x ≤ at_[i] := by
    intro x hx hxv
    obtain ⟨j, hj, rfl⟩ := List.getElem_of_mem hx
    rcases Nat.lt_trichotomy i j with hij | hij | hij
    · exfalso
      have h3 := h2 (by omega)
      rcases Nat.lt_or_ge (i + 1) j with h4 | h4
      · have := hinc.mono (i + 1) j (by omega) hj h4; omega
      · have e : j = i + 1 := by omega
        subst e; omega
    · subst hij; omega
    · have := hinc.mono j i hj hi hij; omega
  constructor
  · rintro ⟨r, hr, a, b⟩
    have hm := (hst r (hq r hr)).1
    exact ⟨r, hr, key _ hm a, by omega⟩
  · rintro ⟨r, hr, a, b⟩
    refine ⟨r, hr, by omega, ?_⟩
    rcases Int.lt_or_le r.2 v with h5 | h5
    · exfalso
      have ho := hok r hr
      have hlt : r.2 < 1114111 := by unfold Sc at hv; omega
      have hm := (hst r (hq r hr)).2 hlt
      have := key _ hm (nx_le ho.2.1 hv h5)
      have := nx_gt r.2
      omega
    · exact h5

/-- What has been built of the first i stretches. -/
def BdInv (at_ : List Int) (p : Int → Prop) (i : Nat) (acc : List Rg) : Prop :=
  acc.length ≤ i ∧ (acc = [] ∨ ∃ t x m, acc = t ++ [x] ∧ Upto t m ∧ m < x.1 ∧ Ok x ∧ ∀ h : i < at_.length, nx x.2 ≤ at_[i]) ∧ ∀ v, Sc v → (In acc v ↔ p v ∧ ∀ h : i < at_.length, v < at_[i])
/-- Places whose first is 0, and a p that stays so between two. -/
structure Places (at_ : List Int) (p : Int → Prop) : Prop where
  inc : Inc (-1) at_
  sc : ∀ x ∈ at_, Sc x
  zero : ∃ h : 0 < at_.length, at_[0] = 0
  const : ∀ i (hi : i < at_.length) v, Sc v → at_[i] ≤ v → (∀ hh : i + 1 < at_.length, v < at_[i + 1]) → (p v ↔ p at_[i])
theorem zero_first {at_ : List Int} (h1 : Inc (-1) at_) (h2 : 0 ∈ at_) : ∃ h : 0 < at_.length, at_[0] = 0 := by
  obtain ⟨j, hj, e⟩ := List.getElem_of_mem h2
  refine ⟨by omega, ?_⟩
  rcases Nat.eq_zero_or_pos j with rfl | hp
  · exact e
  · have := h1.mono 0 j (by omega) hj hp
    have := h1.lt 0 (by omega)
    omega
theorem bd_start {at_ : List Int} {p : Int → Prop} (h : Places at_ p) : BdInv at_ p 0 [] := by
  obtain ⟨h0, e⟩ := h.zero
  refine ⟨Nat.le_refl _, .inl rfl, fun v hv => ⟨fun hi => absurd hi (In_nil v), fun ⟨_, hh⟩ => ?_⟩⟩
  have := hh h0
  unfold Sc at hv
  omega
theorem bd_end {at_ : List Int} {p : Int → Prop} {i : Nat} {acc : List Rg} (h : BdInv at_ p i acc) (hi : ¬ i < at_.length) : IsSet acc p := by
  obtain ⟨_, h2, h3⟩ := h
  refine ⟨?_, fun v hv => ?_⟩
  · rcases h2 with rfl | ⟨t, x, m, rfl, hu, hm, hx, _⟩
    · trivial
    · exact (hu.snoc hm hx).gd
  · rw [h3 v hv]
    exact ⟨fun h => h.1, fun h => ⟨h, fun hh => absurd hh hi⟩⟩
theorem bd_skip {at_ : List Int} {p : Int → Prop} {i : Nat} {acc : List Rg} (P : Places at_ p) (h : BdInv at_ p i acc) (hi : i < at_.length) (hp : ¬ p at_[i]) : BdInv at_ p (i + 1) acc := by
  obtain ⟨h1, h2, h3⟩ := h
  refine ⟨by omega, ?_, fun v hv => ?_⟩
  · rcases h2 with h2 | ⟨t, x, m, e, hu, hm, hx, hn⟩
    · exact .inl h2
    · exact .inr ⟨t, x, m, e, hu, hm, hx, fun hh => by
        have := hn hi
        have := P.inc.mono i (i + 1) hi hh (by omega)
        omega⟩
  · rw [h3 v hv]
    constructor
    · rintro ⟨a, b⟩
      refine ⟨a, fun hh => ?_⟩
      have := b hi
      have := P.inc.mono i (i + 1) hi hh (by omega)
      omega
    · rintro ⟨a, b⟩
      refine ⟨a, fun _ => ?_⟩
      rcases Int.lt_or_le v at_[i] with h4 | h4
      · exact h4
      · exact absurd ((P.const i hi v hv h4 b).1 a) hp
/-- Where the i-th stretch ends. -/
def hiN (at_ : List Int) (i : Nat) : Int := if h : i + 1 < at_.length then prevN at_[i + 1] else 1114111
theorem hi_facts {at_ : List Int} {p : Int → Prop} (P : Places at_ p) {i : Nat} (hi : i < at_.length) : Ok (at_[i], hiN at_ i) ∧ (∀ h : i + 1 < at_.length, nx (hiN at_ i) = at_[i + 1]) ∧ ∀ v, Sc v → (v ≤ hiN at_ i ↔ ∀ hh : i + 1 < at_.length, v < at_[i + 1]) := by
  have hS := P.sc _ (List.getElem_mem hi)
  unfold hiN
  by_cases h : i + 1 < at_.length
  · rw [dif_pos h]
    have hS2 := P.sc _ (List.getElem_mem h)
    have hlt := P.inc.mono i (i + 1) hi h (by omega)
    have h0 : 0 < at_[i + 1] := by unfold Sc at hS; omega
    obtain ⟨p1, p2, p3⟩ := prev_facts hS2 h0
    refine ⟨⟨hS, p1, prev_ge hS hS2 hlt⟩, fun _ => p3, fun v hv => ⟨fun hh _ => by omega, fun hh => prev_ge hv hS2 (hh h)⟩⟩
  · rw [dif_neg h]
    refine ⟨⟨hS, by unfold Sc; omega, by unfold Sc at hS; omega⟩, fun hh => absurd hh h, fun v hv => ⟨fun _ hh => absurd hh h, fun _ => by unfold Sc at hv; omega⟩⟩
theorem bd_mem {at_ : List Int} {p : Int → Prop} {i : Nat} {acc : List Rg} (P : Places at_ p) (h : BdInv at_ p i acc) (hi : i < at_.length) (hp : p at_[i]) (v : Int) (hv : Sc v) :
    (p v ∧ ∀ hh : i + 1 < at_.length, v < at_[i + 1]) ↔ In acc v ∨ (at_[i] ≤ v ∧ v ≤ hiN at_ i) := by
  obtain ⟨_, _, h3⟩ := h
  obtain ⟨f1, f2, f3⟩ := hi_facts P hi
  rw [h3 v hv, f3 v hv]
  constructor
  · rintro ⟨a, b⟩
    rcases Int.lt_or_le v at_[i] with h4 | h4
    · exact .inl ⟨a, fun _ => h4⟩
    · exact .inr ⟨h4, b⟩
  · rintro (⟨a, b⟩ | ⟨a, b⟩)
    · refine ⟨a, fun hh => ?_⟩
      have := b hi
      have := P.inc.mono i (i + 1) hi hh (by omega)
      omega
    · exact ⟨(P.const i hi v hv a b).2 hp, b⟩
theorem bd_new {at_ : List Int} {p : Int → Prop} {i : Nat} {acc : List Rg} (P : Places at_ p) (h : BdInv at_ p i acc) (hi : i < at_.length) (hp : p at_[i]) (hne : ∀ t x, acc = t ++ [x] → nextN x.2 ≠ at_[i]) : BdInv at_ p (i + 1) (acc ++ [(at_[i], hiN at_ i)]) := by
  have hm := bd_mem P h hi hp
  obtain ⟨f1, f2, f3⟩ := hi_facts P hi
  obtain ⟨h1, h2, h3⟩ := h
  have hS := P.sc _ (List.getElem_mem hi)
  refine ⟨by simp; omega, .inr ?_, fun v hv => ?_⟩
  · rcases h2 with rfl | ⟨t, x, m, rfl, hu, hm, hx, hn⟩
    · exact ⟨[], _, -1, rfl, Upto.nil, P.inc.lt i hi, f1, fun hh => by rw [f2 hh]; exact Int.le_refl _⟩
    · refine ⟨t ++ [x], _, nx x.2, rfl, hu.snoc hm hx, ?_, f1, fun hh => by rw [f2 hh]; exact Int.le_refl _⟩
      have h5 := hn hi
      have h6 := hne t x rfl
      have hlt : x.2 < 1114111 := by
        have := nx_gt x.2
        unfold Sc at hS
        omega
      rw [nextN_nx hx.2.1 hlt] at h6
      show nx x.2 < at_[i]
      omega
  · rw [In_app, In_one]
    exact (hm v hv).symm
theorem bd_more {at_ : List Int} {p : Int → Prop} {i : Nat} {t : List Rg} {x : Rg} (P : Places at_ p) (h : BdInv at_ p i (t ++ [x])) (hi : i < at_.length) (hp : p at_[i]) (he : nextN x.2 = at_[i]) : BdInv at_ p (i + 1) (t ++ [(x.1, hiN at_ i)]) := by
  have hm := bd_mem P h hi hp
  obtain ⟨f1, f2, f3⟩ := hi_facts P hi
  obtain ⟨h1, h2, h3⟩ := h
  have hS := P.sc _ (List.getElem_mem hi)
  rcases h2 with h2 | ⟨t', x', m, e, hu, hmm, hx, hn⟩
  · simp at h2
  · obtain ⟨rfl, e2⟩ := List.append_inj' e rfl
    simp at e2
    subst e2
    have h5 := hn hi
    have hlt : x.2 < 1114111 := by
      have := nx_gt x.2
      unfold Sc at hS
      omega
    rw [nextN_nx hx.2.1 hlt] at he
    have hg := nx_gt x.2
    have g1 := f1.2.2
    have g2 := hx.2.2
    have g1' : at_[i] ≤ hiN at_ i := g1
    refine ⟨by simp at *; omega, .inr ⟨t, _, m, rfl, hu, hmm, ⟨hx.1, f1.2.1, by show x.1 ≤ hiN at_ i; omega⟩, fun hh => by rw [f2 hh]; exact Int.le_refl _⟩, fun v hv => ?_⟩
    rw [hm v hv, In_app, In_app, In_one, In_one]
    show _ ∨ (x.1 ≤ v ∧ v ≤ hiN at_ i) ↔ _
    have hnx := fun hlt => nx_le hx.2.1 hv hlt
    constructor
    · rintro (a | ⟨a, b⟩)
      · exact .inl (.inl a)
      · rcases Int.lt_or_le x.2 v with c | c
        · have := hnx c
          exact .inr ⟨by omega, b⟩
        · exact .inl (.inr ⟨a, c⟩)
    · rintro ((a | ⟨a, b⟩) | ⟨a, b⟩)
      · exact .inl a
      · exact .inr ⟨a, by omega⟩
      · exact .inr ⟨by omega, b⟩
/-- The places of rows of ranges, and what is told of them. -/
theorem places_of {at_ : List Int} {l : List Rg} {p : Int → Prop} (h : St at_ l) (hc : ∀ i (hi : i < at_.length) v, Sc v → at_[i] ≤ v → (∀ hh : i + 1 < at_.length, v < at_[i + 1]) → (p v ↔ p at_[i])) : Places at_ p :=
  ⟨h.1, h.2.2.1, zero_first h.1 h.2.1, hc⟩
end Go.Proofs.Ythaageiflimnnaa
/- What the document's Has, Size and Less return. -/
namespace Go.Proofs.Ythaageiflimnnaa
open Go.RowKit Go.BigFrame
set_option linter.unusedVariables false
set_option linter.unusedSimpArgs false

set_option maxHeartbeats 1000000 in
theorem refHas_n (l : List Rg) (n : Nat) (hl : l.length = n) (A : Option Addr) (c : Nat) (v : Int) (w : World) (hR : Reads w w.heap.size 2 A n (rcells l)) (hn : n ≤ 1000000) :
    Calls Try.prog 25 #[.slice A n c, .int .i64 v] w fun e w' => e = .returned (.bool (hasB l v)) ∧ Below w.heap.size w w' := by
  have HR := Lib.hid hR
  have HL := Lib.hid hl
  have HGd := Lib.hid (fun W h => refGood_n n l hl A c W h hn)
  clear hR hl
  go_enter Try.func25, Try.ntmps25
  go_wp2_with fail
  go_loopw [5] (fun i wr => ∃ (k : Nat), k ≤ n ∧ i = .int .i64 k ∧ wr = w ∧ Hid (inB (l.take k) v = false)) (fun i _ => n - (intOf i).toNat)
  case atStart => exact ⟨0, Nat.zero_le _, rfl, rfl, Lib.hid (by simp [inB])⟩
  case round =>
    obtain ⟨k, hk, rfl, rfl, HG⟩ := hrel
    by_cases hlt : k < n
    · have kl : k < l.length := by rw [HL.out]; exact hlt
      obtain ⟨b, o, rfl, hbb, p0, p1⟩ := HR.out.rg kl
      have HT : Hid ((decide (l[k].1 ≤ v) && decide (v ≤ l[k].2)) = true → inB l v = true) := Lib.hid (fun h => inB_at l k kl v h)
      have HF : Hid ((decide (l[k].1 ≤ v) && decide (v ≤ l[k].2)) = false → inB (l.take (k + 1)) v = false) := Lib.hid (fun h => by rw [inB_take l k kl, HG.out, h]; rfl)
      generalize l[k] = x at *
      obtain ⟨x0, x1⟩ := x
      simp only [] at p0 p1
      by_cases c1 : x0 ≤ v
      · by_cases c2 : v ≤ x1
        · have HX := Lib.hid (HT.out (by rw [decide_eq_true c1, decide_eq_true c2]; rfl))
          have HB : Hid (hasB l v = (isB v && goodB l)) := Lib.hid (by unfold hasB; rw [HX.out, Bool.and_true])
          clear HT HF HG HX
          have h1 := fun W => refIs_any v W
          cases hi : isB v
          · rw [hi] at h1
            go_wp2_with fail
            refine (h1 _).mono ?_
            rintro e w1 ⟨rfl, rfl⟩
            go_wp2_with fail
            go_ret
            exact ⟨ret_bool (by rw [HB.out, hi]; rfl), Below.refl _ _⟩
          · rw [hi] at h1
            go_wp2_with fail
            refine (h1 _).mono ?_
            rintro e w1 ⟨rfl, rfl⟩
            go_wp2_with fail
            refine (HGd.out _ HR.out).mono ?_
            rintro e w2 ⟨rfl, b2⟩
            go_wp2_with fail
            go_ret
            exact ⟨ret_bool (by rw [HB.out, hi]; simp), b2⟩
        · have HX := Lib.hid (HF.out (by rw [decide_eq_false c2]; simp))
          clear HT HF HG
          go_wp2_with fail
          go_roundw
          case rel => exact ⟨k + 1, by omega, by go_num, (by first | rfl | trivial), HX⟩
          case measure => simp [intOf]; omega
      · have HX := Lib.hid (HF.out (by rw [decide_eq_false c1]; simp))
        clear HT HF HG
        go_wp2_with fail
        go_roundw
        case rel => exact ⟨k + 1, by omega, by go_num, (by first | rfl | trivial), HX⟩
        case measure => simp [intOf]; omega
    · have HX : Hid (hasB l v = false) := Lib.hid (by
        have h := HG.out
        rw [List.take_of_length_le (by rw [HL.out]; omega)] at h
        unfold hasB
        rw [h]; simp)
      go_wp2_with fail
      go_ret
      exact ⟨ret_bool HX.out.symm, Below.refl _ _⟩

theorem refCount_q (lo hi : Int) (W : World) : Calls Try.prog 43 #[.int .i64 lo, .int .i64 hi] W fun e w' => e = .returned (.int .i64 (countN lo hi)) ∧ w' = W :=
  (refCount_any lo hi W).mono fun _ _ ⟨he, hw⟩ => ⟨he, hw.symm⟩

set_option maxHeartbeats 1000000 in
theorem refSize_n (l : List Rg) (n : Nat) (hl : l.length = n) (A : Option Addr) (c : Nat) (w : World) (hR : Reads w w.heap.size 2 A n (rcells l)) (hn : n ≤ 1000000) :
    Calls Try.prog 23 #[.slice A n c] w fun e w' => e = .returned (.int .i64 (if goodB l then sizeL l else 0)) ∧ Below w.heap.size w w' := by
  have HR := Lib.hid hR
  have HL := Lib.hid hl
  have HGd := Lib.hid (fun W h => refGood_n n l hl A c W h hn)
  clear hR hl
  cases hg : goodB l
  · rw [hg] at HGd
    rw [if_neg (by decide)]
    clear hg
    go_enter Try.func23, Try.ntmps23
    go_wp2_with fail
    refine wp_loop_rounds 1 ?_
    rw [rounds_succ]
    by_cases h0 : n = 0
    · subst h0
      go_wp2_with fail
      go_ret
      exact ⟨rfl, Below.refl _ _⟩
    · have hp : 0 < n := by omega
      go_wp2_with fail
      refine (HGd.out _ HR.out).mono ?_
      rintro e w1 ⟨rfl, b1⟩
      go_wp2_with fail
      go_ret
      exact ⟨rfl, b1⟩
  · rw [hg] at HGd
    rw [if_pos rfl]
    clear hg
    go_enter Try.func23, Try.ntmps23
    go_wp2_with fail
    go_loopw [3, 4] (fun s i wr => ∃ (k : Nat) (x : Int), k ≤ n ∧ i = .int .i64 k ∧ s = .int .i64 x ∧ Hid (x = sizeL (l.take k)) ∧ 0 ≤ x ∧ x ≤ 1112064 * k ∧ Below w.heap.size w wr) (fun _ i _ => n - (intOf i).toNat)
    case atStart => exact ⟨0, 0, Nat.zero_le _, rfl, rfl, Lib.hid rfl, by omega, by omega, Below.refl _ _⟩
    case round =>
      obtain ⟨k, x, hk, rfl, rfl, HX, hx0, hx1, hb⟩ := hrel
      have hsz := hb.size
      by_cases hlt : k < n
      · have kl : k < l.length := by rw [HL.out]; exact hlt
        have HRr := Lib.hid ((HR.out.below hb).more hsz)
        have HN : Hid (x + countN l[k].1 l[k].2 = sizeL (l.take (k + 1))) := Lib.hid (by rw [List.take_succ_eq_append_getElem kl, sizeL_snoc, ← HX.out])
        have hbd := countN_bd l[k].1 l[k].2
        clear HX
        go_wp2_with fail
        refine (HGd.out _ HRr.out).mono ?_
        rintro e w1 ⟨rfl, g1⟩
        have b1 := hb.trans (g1.mono hsz)
        obtain ⟨b, o, rfl, hbb, p0, p1⟩ := (HR.out.below b1).rg kl
        generalize l[k] = r at *
        obtain ⟨x0, x1⟩ := r
        simp only [] at p0 p1 hbd HN
        have hcq := fun W => refCount_q x0 x1 W
        generalize countN x0 x1 = cn at *
        have fw : IntKind.i64.wrap (x + cn) = x + cn := IntWalk.i64_in _ (by omega)
        clear hb g1 HRr
        go_wp2_with fail
        go_big_quiet (first | (go_at_call 43; refine Calls.quiet_of_same (hcq _)))
        go_wp2_with fail
        go_roundw
        case rel => exact ⟨k + 1, x + cn, by omega, by go_num, by go_num, HN, by omega, by omega, below_drewN b1 _⟩
        case measure => simp [intOf]; omega
      · have HD : Hid (x = sizeL l) := Lib.hid (by
          have h := HX.out
          rwa [List.take_of_length_le (by rw [HL.out]; omega)] at h)
        go_wp2_with fail
        go_ret
        exact ⟨ret_int HD.out, hb⟩

end Go.Proofs.Ythaageiflimnnaa
/- What the document's put returns: a number put where it belongs. -/
namespace Go.Proofs.Ythaageiflimnnaa
open Go.RowKit Go.BigFrame
set_option linter.unusedVariables false
set_option linter.unusedSimpArgs false

/-- A row of integers, new or as it was. -/
def OutI (l : List Int) (w : World) (e : Ending) (w' : World) : Prop :=
  ∃ (A : Option Addr) (c n : Nat), e = .returned (.slice A n c) ∧ l.length = n ∧ Shp A n c ∧ Reads w' w'.heap.size 1 A n (icells l) ∧ Below w.heap.size w w'
theorem rd_drew {w : World} {B size n : Nat} {A : Option Addr} {xs : List Value} (h : Reads w B size A n xs) : Reads w.drew B size A n xs := h.keep fun _ _ => rfl
theorem ic_one (l : List Int) : ∀ u ∈ icells l, u.oneCell' = true := by
  intro u hu
  simp only [icells, List.mem_map] at hu
  obtain ⟨x, _, rfl⟩ := hu
  rfl
theorem ic_app (l m : List Int) : icells (l ++ m) = icells l ++ icells m := by simp [icells]
/-- The first k of a row; what is behind them. -/
theorem rd_take {w : World} {B n : Nat} {A : Option Addr} {l : List Int} (h : Reads w B 1 A n (icells l)) {k : Nat} (hk : k ≤ n) : Reads w B 1 A k (icells (l.take k)) := by
  have h1 := h.1
  rw [icells_len] at h1
  refine ⟨by rw [icells_len, List.length_take]; omega, fun hp => ?_⟩
  obtain ⟨b, o, e, hb, hc⟩ := h.2 (by omega)
  refine ⟨b, o, e, hb, fun j u hj => hc j u ?_⟩
  unfold icells at hj ⊢
  rw [List.getElem?_map] at hj ⊢
  rw [List.getElem?_take] at hj
  split at hj
  · exact hj
  · simp at hj
theorem rd_drop {w : World} {B n b o : Nat} {l : List Int} (h : Reads w B 1 (some ⟨b, o, none⟩) n (icells l)) {k : Nat} (hk : k ≤ n) : Reads w B 1 (some ⟨b, o + k, none⟩) (n - k) (icells (l.drop k)) := by
  have h1 := h.1
  rw [icells_len] at h1
  refine ⟨by rw [icells_len, List.length_drop]; omega, fun hp => ?_⟩
  obtain ⟨b', o', e, hb, hc⟩ := h.2 (by omega)
  injection e with e
  injection e with e1 e2
  subst e1 e2
  refine ⟨b, o + k, rfl, hb, fun j u hj => ?_⟩
  rw [Nat.add_assoc]
  refine hc (k + j) u ?_
  unfold icells at hj ⊢
  rw [List.getElem?_map, List.getElem?_drop] at hj
  rw [List.getElem?_map]
  exact hj

theorem rd_cell {w : World} {b : Nat} {v : Int} (h : w.cell? ⟨b, 0, none⟩ = some (.int .i64 v)) : Reads w w.heap.size 1 (some ⟨b, 0, none⟩) 1 (icells [v]) := by
  refine ⟨rfl, fun _ => ⟨b, 0, rfl, World.block_lt_of_cell? _ _ h, fun j u hj => ?_⟩⟩
  match j, hj with
  | 0, hj => simp [icells] at hj; subst hj; exact h
theorem rd_lit1 (w : World) (v : Int) : Reads (w.alloc (.cells #[.int .i64 v] 3)) (w.alloc (.cells #[.int .i64 v] 3)).heap.size 1 (some ⟨w.heap.size, 0, none⟩) 1 (icells [v]) := rd_cell (by simp)
theorem made3 (w : World) (base : Nat) (h : base ≤ w.heap.size) : (w.alloc (.cells #[] 3)).ownsRow base 3 1 (.slice (some ⟨w.heap.size, 0, none⟩) 0 0) 0 [] := World.ownsRow_made (size := 1) w #[] 0 h (Nat.zero_le _) (by simp)
theorem made3v (w : World) (v : Int) : ((w.alloc (.cells #[.int .i64 v] 3)).alloc (.cells #[] 3)).ownsRow w.heap.size 3 1 (.slice (some ⟨w.heap.size + 1, 0, none⟩) 0 0) 0 [] := by
  have h := made3 (w.alloc (.cells #[.int .i64 v] 3)) w.heap.size (by simp)
  simpa using h

set_option maxHeartbeats 4000000 in
theorem put_any (l : List Int) (n : Nat) (hl : l.length = n) (A : Option Addr) (c : Nat) (v : Int) (w : World) (hA : Shp A n c) (hR : Reads w w.heap.size 1 A n (icells l)) (h0 : 0 < n) (hn : n ≤ 10000) :
    Calls Try.prog 62 #[.slice A n c, .int .i64 v] w (OutI (putL l v) w) := by
  obtain ⟨j0, hj0, hy0, hy1, hy2⟩ := info_parts info3
  have HR := Lib.hid hR
  have HL := Lib.hid hl
  have HA := Lib.hid hA
  clear hR hl hA
  go_enter Try.func62, Try.ntmps62
  go_wp2_with fail
  go_loopw [5] (fun i wr => ∃ (k : Nat), k ≤ n ∧ i = .int .i64 k ∧ wr = w ∧ Hid (∀ i (h : i < l.length), i < k → l[i] < v)) (fun i _ => n - (intOf i).toNat)
  case atStart => exact ⟨0, Nat.zero_le _, rfl, rfl, Lib.hid (fun i _ h => by omega)⟩
  case round =>
    obtain ⟨k, hk, rfl, rfl, HG⟩ := hrel
    by_cases hlt : k < n
    · have kl : k < l.length := by rw [HL.out]; exact hlt
      obtain ⟨b, o, rfl, hbb, p0⟩ := HR.out.int kl
      by_cases hv : l[k] < v
      · have HG' : Hid (∀ i (h : i < l.length), i < k + 1 → l[i] < v) := Lib.hid (fun i h hi => by
          rcases Nat.lt_or_ge i k with h2 | h2
          · exact HG.out i h h2
          · have e : i = k := by omega
            subst e; exact hv)
        generalize l[k] = x at *
        clear HG
        go_wp2_with fail
        go_roundw
        case rel => exact ⟨k + 1, by omega, by go_num, (by first | rfl | trivial), HG'⟩
        case measure => simp [intOf]; omega
      · have HP := Lib.hid (putL_at l v k HG.out (by omega) (fun _ => hv))
        by_cases he : l[k] = v
        · have HE : Hid (putL l v = l) := Lib.hid (by rw [HP.out, if_pos ⟨kl, he⟩])
          have he' : (l[k] == v) = true := by rw [beq_iff_eq]; exact he
          have hv' : decide (l[k] < v) = false := decide_eq_false hv
          generalize l[k] = x at *
          clear HG HP
          go_wp2_with fail
          go_ret
          exact ⟨_, c, n, rfl, by rw [HE.out, HL.out], HA.out, by rw [HE.out]; exact HR.out, Below.refl _ _⟩
        · have HE : Hid (putL l v = l.take k ++ v :: l.drop k) := Lib.hid (by rw [HP.out, if_neg (fun ⟨_, h⟩ => he h)])
          have he' : (l[k] == v) = false := by rw [beq_eq_false_iff_ne]; exact he
          have hv' : decide (l[k] < v) = false := decide_eq_false hv
          generalize l[k] = x at *
          clear HG HP
          have hck : ¬ c = k := by have := HA.out.2.1; omega
          have hkc : k ≤ c := by have := HA.out.2.1; omega
          have hcm : c ≤ 9223372036854775807 := by have := HA.out.2.2; unfold maxLen at this; omega
          have HR36 := Lib.hid (rd_take HR.out hk)
          have HR43 := Lib.hid (rd_drop HR.out hk)
          have HN43 : Hid ((some (⟨b, o + k, none⟩ : Addr)) = none → c - k = 0) := Lib.hid (fun h => by cases h)
          go_wp2_with fail
          go_region_law (first | (refine step_append_src rfl (.tmp 33) (.tmp 36) 45 rfl wr.heap.size 3 j0 _ 1 8 Try.underlying45 hj0 hy0 hy1 hy2 rfl (by decide) (.slice (some ⟨wr.heap.size, 0, none⟩) 0 0) 0 [] (by first | rfl | simp [Act.eval, Act.put]) (by exact (made3 wr wr.heap.size (Nat.le_refl _))) (some ⟨b, o, none⟩) k c wr.heap.size (icells (l.take k)) (by first | rfl | simp [Act.eval, Act.put]) HA.out.1 (by exact (HR36.out.alloc (Nat.le_refl _) _)) (ic_one _) (by unfold maxLen; omega) (by omega) (by first | (simp; done) | (simp; omega)) ?_; intro A7 c7 w7 hown7 hn7 hgrow7; have b7 : Below wr.heap.size wr w7 := below_grown (w := wr.alloc _) (below_new _ _) (by simp) (made3 wr wr.heap.size (Nat.le_refl _)) ⟨hgrow7.os, hgrow7.tape, hgrow7.output, hgrow7.size, hgrow7.block⟩) | (refine step_append_src rfl (.tmp 33) (.tmp 36) 45 rfl wr.heap.size 3 j0 _ 1 8 Try.underlying45 hj0 hy0 hy1 hy2 rfl (by decide) (.slice (some ⟨wr.heap.size, 0, none⟩) 0 0) 0 [] (by first | rfl | simp [Act.eval, Act.put]) (by exact ((made3 wr wr.heap.size (Nat.le_refl _)).alloc (.cells #[.int .i64 v] 3))) (some ⟨b, o, none⟩) k c wr.heap.size (icells (l.take k)) (by first | rfl | simp [Act.eval, Act.put]) HA.out.1 (by exact ((HR36.out.alloc (Nat.le_refl _) _).alloc (by simp) _)) (ic_one _) (by unfold maxLen; omega) (by omega) (by first | (simp; done) | (simp; omega)) ?_; intro A7 c7 w7 hown7 hn7 hgrow7; have b7 : Below wr.heap.size wr w7 := below_grown (w := (wr.alloc _).alloc _) ((below_new _ _).alloc (by simp) _) (by simp; omega) ((made3 wr wr.heap.size (Nat.le_refl _)).alloc (.cells #[.int .i64 v] 3)) ⟨hgrow7.os, hgrow7.tape, hgrow7.output, hgrow7.size, hgrow7.block⟩; have hv7 : w7.cell? ⟨wr.heap.size + 1, 0, none⟩ = some (.int .i64 v) := hgrow7.cell (a := ⟨wr.heap.size + 1, 0, none⟩) (by simp) (by simp [Value.ownBlock])) | (refine step_append_src rfl (.tmp 33) (.tmp 36) 45 rfl wr.heap.size 3 j0 _ 1 8 Try.underlying45 hj0 hy0 hy1 hy2 rfl (by decide) (.slice (some ⟨wr.heap.size + 1, 0, none⟩) 0 0) 0 [] (by first | rfl | simp [Act.eval, Act.put]) (by exact (made3v wr v)) (some ⟨b, o, none⟩) k c wr.heap.size (icells (l.take k)) (by first | rfl | simp [Act.eval, Act.put]) HA.out.1 (by exact ((HR36.out.alloc (Nat.le_refl _) _).alloc (by simp) _)) (ic_one _) (by unfold maxLen; omega) (by omega) (by first | (simp; done) | (simp; omega)) ?_; intro A7 c7 w7 hown7 hn7 hgrow7; have b7 : Below wr.heap.size wr w7 := below_grown (w := (wr.alloc _).alloc _) ((below_new _ _).alloc (by simp) _) (by simp; omega) (made3v wr v) ⟨hgrow7.os, hgrow7.tape, hgrow7.output, hgrow7.size, hgrow7.block⟩; have hv7 : w7.cell? ⟨wr.heap.size, 0, none⟩ = some (.int .i64 v) := hgrow7.cell (a := ⟨wr.heap.size, 0, none⟩) (by simp) (by simp [Value.ownBlock])) | (refine step_append_src rfl (.tmp 37) (.tmp 39) 45 rfl wr.heap.size 3 j0 _ 1 8 Try.underlying45 hj0 hy0 hy1 hy2 rfl (by decide) (.slice A7 (0 + k) c7) (0 + k) ([] ++ icells (l.take k)) (by first | rfl | simp [Act.eval, Act.put]) (by exact (hown7.alloc _)) (some ⟨w7.heap.size, 0, none⟩) 1 1 _ (icells [v]) (by first | rfl | simp [Act.eval, Act.put]) (fun h => by cases h) (by exact (rd_lit1 w7 v)) (ic_one _) (by unfold maxLen; omega) (by omega) (by have := b7.size; simp; omega) ?_; intro A8 c8 w8 hown8 hn8 hgrow8; have b8 : Below wr.heap.size wr w8 := below_grown (w := w7.alloc _) (b7.alloc b7.size _) (by have := b7.size; simp; omega) (hown7.alloc _) ⟨hgrow8.os, hgrow8.tape, hgrow8.output, hgrow8.size, hgrow8.block⟩) | (refine step_append_src rfl (.tmp 37) (.tmp 39) 45 rfl wr.heap.size 3 j0 _ 1 8 Try.underlying45 hj0 hy0 hy1 hy2 rfl (by decide) (.slice A7 (0 + k) c7) (0 + k) ([] ++ icells (l.take k)) (by first | rfl | simp [Act.eval, Act.put]) (by exact hown7) (some ⟨wr.heap.size + 1, 0, none⟩) 1 1 _ (icells [v]) (by first | rfl | simp [Act.eval, Act.put]) (fun h => by cases h) (by exact (rd_cell hv7)) (ic_one _) (by unfold maxLen; omega) (by omega) (by have := b7.size; simp; omega) ?_; intro A8 c8 w8 hown8 hn8 hgrow8; have b8 : Below wr.heap.size wr w8 := below_grown (w := w7) b7 b7.size hown7 ⟨hgrow8.os, hgrow8.tape, hgrow8.output, hgrow8.size, hgrow8.block⟩) | (refine step_append_src rfl (.tmp 37) (.tmp 39) 45 rfl wr.heap.size 3 j0 _ 1 8 Try.underlying45 hj0 hy0 hy1 hy2 rfl (by decide) (.slice A7 (0 + k) c7) (0 + k) ([] ++ icells (l.take k)) (by first | rfl | simp [Act.eval, Act.put]) (by exact hown7) (some ⟨wr.heap.size, 0, none⟩) 1 1 _ (icells [v]) (by first | rfl | simp [Act.eval, Act.put]) (fun h => by cases h) (by exact (rd_cell hv7)) (ic_one _) (by unfold maxLen; omega) (by omega) (by have := b7.size; simp; omega) ?_; intro A8 c8 w8 hown8 hn8 hgrow8; have b8 : Below wr.heap.size wr w8 := below_grown (w := w7) b7 b7.size hown7 ⟨hgrow8.os, hgrow8.tape, hgrow8.output, hgrow8.size, hgrow8.block⟩) | (refine step_append_src rfl (.tmp 40) (.tmp 43) 45 rfl wr.heap.size 3 j0 _ 1 8 Try.underlying45 hj0 hy0 hy1 hy2 rfl (by decide) (.slice A8 (0 + k + 1) c8) (0 + k + 1) ([] ++ icells (l.take k) ++ icells [v]) (by first | rfl | simp [Act.eval, Act.put]) (by exact hown8) (some ⟨b, o + k, none⟩) (n - k) (c - k) wr.heap.size (icells (l.drop k)) (by first | rfl | simp [Act.eval, Act.put]) (fun h => by cases h) (by exact (HR43.out.below b8)) (ic_one _) (by unfold maxLen; omega) (by omega) (by exact b8.size) ?_; intro A9 c9 w9 hown9 hn9 hgrow9; have b9 : Below wr.heap.size wr w9 := below_grown (w := w8) b8 b8.size hown8 ⟨hgrow9.os, hgrow9.tape, hgrow9.output, hgrow9.size, hgrow9.block⟩))
          all_goals
            have hO9 : w9.ownsRow wr.heap.size 3 1 (.slice A9 (putL l v).length c9) (putL l v).length (icells (putL l v)) := by
              rw [HE.out, show (l.take k ++ v :: l.drop k).length = 0 + k + 1 + (n - k) by simp [HL.out] <;> omega, show l.take k ++ v :: l.drop k = (l.take k ++ [v]) ++ l.drop k by simp, ic_app, ic_app]
              exact hown9
            have HR9 := Lib.hid (Reads.of_own hO9)
            have HS9 := Lib.hid (own_shp hO9)
            have HV9 : Hid (k + 1 + (n - k) = (putL l v).length) := Lib.hid (by rw [HE.out]; simp [HL.out] <;> omega)
            have HV8 : Hid (k + 1 = (putL l v).length ∨ True) := Lib.hid (.inr trivial)
            clear hO9 hown9 hown8 hown7 hgrow9 hgrow8 hgrow7
            go_wp2_with fail
            go_ret
            exact ⟨A9, c9, (putL l v).length, by rw [← HV9.out]; first | rfl | simp, rfl, HS9.out, HR9.out, b9⟩
    · obtain rfl : k = n := by omega
      have HE : Hid (putL l v = l.take k ++ v :: l.drop k) := Lib.hid (by rw [putL_at l v k HG.out (by rw [HL.out]; omega) (fun h => by rw [HL.out] at h; omega), if_neg (fun ⟨h, _⟩ => by rw [HL.out] at h; omega)])
      have hcm : c ≤ 9223372036854775807 := by have := HA.out.2.2; unfold maxLen at this; omega
      have hkc : k ≤ c := HA.out.2.1
      have HR36 := Lib.hid (rd_take HR.out (Nat.le_refl k))
      have hlt' : decide ((k : Int) < (k : Int)) = false := decide_eq_false (by omega)
      have hnil : ∀ (w : World) (A' : Option Addr), Reads w w.heap.size 1 A' 0 (icells (l.drop k)) := fun w A' => ⟨by rw [icells_len, List.length_drop, HL.out]; omega, fun h => absurd h (by omega)⟩
      have HNil := Lib.hid hnil
      clear hnil HG
      obtain ⟨b, o, e, hbb, _⟩ := HR.out.2 (by omega)
      subst e
      by_cases hck : c = k
      · subst hck
        have HR43 := Lib.hid (HNil.out wr (some ⟨b, o, none⟩))
        have HN43 : Hid ((some (⟨b, o, none⟩ : Addr)) = none → 0 = 0) := Lib.hid (fun h => rfl)
        go_wp2_with fail
        go_region_law (first | (refine step_append_src rfl (.tmp 33) (.tmp 36) 45 rfl wr.heap.size 3 j0 _ 1 8 Try.underlying45 hj0 hy0 hy1 hy2 rfl (by decide) (.slice (some ⟨wr.heap.size, 0, none⟩) 0 0) 0 [] (by first | rfl | simp [Act.eval, Act.put]) (by exact (made3 wr wr.heap.size (Nat.le_refl _))) (some ⟨b, o, none⟩) c c wr.heap.size (icells (l.take c)) (by first | rfl | simp [Act.eval, Act.put]) HA.out.1 (by exact (HR36.out.alloc (Nat.le_refl _) _)) (ic_one _) (by unfold maxLen; omega) (by omega) (by first | (simp; done) | (simp; omega)) ?_; intro A7 c7 w7 hown7 hn7 hgrow7; have b7 : Below wr.heap.size wr w7 := below_grown (w := wr.alloc _) (below_new _ _) (by simp) (made3 wr wr.heap.size (Nat.le_refl _)) ⟨hgrow7.os, hgrow7.tape, hgrow7.output, hgrow7.size, hgrow7.block⟩) | (refine step_append_src rfl (.tmp 33) (.tmp 36) 45 rfl wr.heap.size 3 j0 _ 1 8 Try.underlying45 hj0 hy0 hy1 hy2 rfl (by decide) (.slice (some ⟨wr.heap.size, 0, none⟩) 0 0) 0 [] (by first | rfl | simp [Act.eval, Act.put]) (by exact ((made3 wr wr.heap.size (Nat.le_refl _)).alloc (.cells #[.int .i64 v] 3))) (some ⟨b, o, none⟩) c c wr.heap.size (icells (l.take c)) (by first | rfl | simp [Act.eval, Act.put]) HA.out.1 (by exact ((HR36.out.alloc (Nat.le_refl _) _).alloc (by simp) _)) (ic_one _) (by unfold maxLen; omega) (by omega) (by first | (simp; done) | (simp; omega)) ?_; intro A7 c7 w7 hown7 hn7 hgrow7; have b7 : Below wr.heap.size wr w7 := below_grown (w := (wr.alloc _).alloc _) ((below_new _ _).alloc (by simp) _) (by simp; omega) ((made3 wr wr.heap.size (Nat.le_refl _)).alloc (.cells #[.int .i64 v] 3)) ⟨hgrow7.os, hgrow7.tape, hgrow7.output, hgrow7.size, hgrow7.block⟩; have hv7 : w7.cell? ⟨wr.heap.size + 1, 0, none⟩ = some (.int .i64 v) := hgrow7.cell (a := ⟨wr.heap.size + 1, 0, none⟩) (by simp) (by simp [Value.ownBlock])) | (refine step_append_src rfl (.tmp 33) (.tmp 36) 45 rfl wr.heap.size 3 j0 _ 1 8 Try.underlying45 hj0 hy0 hy1 hy2 rfl (by decide) (.slice (some ⟨wr.heap.size + 1, 0, none⟩) 0 0) 0 [] (by first | rfl | simp [Act.eval, Act.put]) (by exact (made3v wr v)) (some ⟨b, o, none⟩) c c wr.heap.size (icells (l.take c)) (by first | rfl | simp [Act.eval, Act.put]) HA.out.1 (by exact ((HR36.out.alloc (Nat.le_refl _) _).alloc (by simp) _)) (ic_one _) (by unfold maxLen; omega) (by omega) (by first | (simp; done) | (simp; omega)) ?_; intro A7 c7 w7 hown7 hn7 hgrow7; have b7 : Below wr.heap.size wr w7 := below_grown (w := (wr.alloc _).alloc _) ((below_new _ _).alloc (by simp) _) (by simp; omega) (made3v wr v) ⟨hgrow7.os, hgrow7.tape, hgrow7.output, hgrow7.size, hgrow7.block⟩; have hv7 : w7.cell? ⟨wr.heap.size, 0, none⟩ = some (.int .i64 v) := hgrow7.cell (a := ⟨wr.heap.size, 0, none⟩) (by simp) (by simp [Value.ownBlock])) | (refine step_append_src rfl (.tmp 37) (.tmp 39) 45 rfl wr.heap.size 3 j0 _ 1 8 Try.underlying45 hj0 hy0 hy1 hy2 rfl (by decide) (.slice A7 (0 + c) c7) (0 + c) ([] ++ icells (l.take c)) (by first | rfl | simp [Act.eval, Act.put]) (by exact (hown7.alloc _)) (some ⟨w7.heap.size, 0, none⟩) 1 1 _ (icells [v]) (by first | rfl | simp [Act.eval, Act.put]) (fun h => by cases h) (by exact (rd_lit1 w7 v)) (ic_one _) (by unfold maxLen; omega) (by omega) (by have := b7.size; simp; omega) ?_; intro A8 c8 w8 hown8 hn8 hgrow8; have b8 : Below wr.heap.size wr w8 := below_grown (w := w7.alloc _) (b7.alloc b7.size _) (by have := b7.size; simp; omega) (hown7.alloc _) ⟨hgrow8.os, hgrow8.tape, hgrow8.output, hgrow8.size, hgrow8.block⟩) | (refine step_append_src rfl (.tmp 37) (.tmp 39) 45 rfl wr.heap.size 3 j0 _ 1 8 Try.underlying45 hj0 hy0 hy1 hy2 rfl (by decide) (.slice A7 (0 + c) c7) (0 + c) ([] ++ icells (l.take c)) (by first | rfl | simp [Act.eval, Act.put]) (by exact hown7) (some ⟨wr.heap.size + 1, 0, none⟩) 1 1 _ (icells [v]) (by first | rfl | simp [Act.eval, Act.put]) (fun h => by cases h) (by exact (rd_cell hv7)) (ic_one _) (by unfold maxLen; omega) (by omega) (by have := b7.size; simp; omega) ?_; intro A8 c8 w8 hown8 hn8 hgrow8; have b8 : Below wr.heap.size wr w8 := below_grown (w := w7) b7 b7.size hown7 ⟨hgrow8.os, hgrow8.tape, hgrow8.output, hgrow8.size, hgrow8.block⟩) | (refine step_append_src rfl (.tmp 37) (.tmp 39) 45 rfl wr.heap.size 3 j0 _ 1 8 Try.underlying45 hj0 hy0 hy1 hy2 rfl (by decide) (.slice A7 (0 + c) c7) (0 + c) ([] ++ icells (l.take c)) (by first | rfl | simp [Act.eval, Act.put]) (by exact hown7) (some ⟨wr.heap.size, 0, none⟩) 1 1 _ (icells [v]) (by first | rfl | simp [Act.eval, Act.put]) (fun h => by cases h) (by exact (rd_cell hv7)) (ic_one _) (by unfold maxLen; omega) (by omega) (by have := b7.size; simp; omega) ?_; intro A8 c8 w8 hown8 hn8 hgrow8; have b8 : Below wr.heap.size wr w8 := below_grown (w := w7) b7 b7.size hown7 ⟨hgrow8.os, hgrow8.tape, hgrow8.output, hgrow8.size, hgrow8.block⟩) | (refine step_append_src rfl (.tmp 40) (.tmp 43) 45 rfl wr.heap.size 3 j0 _ 1 8 Try.underlying45 hj0 hy0 hy1 hy2 rfl (by decide) (.slice A8 (0 + c + 1) c8) (0 + c + 1) ([] ++ icells (l.take c) ++ icells [v]) (by first | rfl | simp [Act.eval, Act.put]) (by exact hown8) (some ⟨b, o, none⟩) 0 0 wr.heap.size (icells (l.drop c)) (by first | rfl | simp [Act.eval, Act.put]) (fun h => by cases h) (by exact (HR43.out.below b8)) (ic_one _) (by unfold maxLen; omega) (by omega) (by exact b8.size) ?_; intro A9 c9 w9 hown9 hn9 hgrow9; have b9 : Below wr.heap.size wr w9 := below_grown (w := w8) b8 b8.size hown8 ⟨hgrow9.os, hgrow9.tape, hgrow9.output, hgrow9.size, hgrow9.block⟩))
        all_goals
          have hO9 : w9.ownsRow wr.heap.size 3 1 (.slice A9 (putL l v).length c9) (putL l v).length (icells (putL l v)) := by
            rw [HE.out, show (l.take c ++ v :: l.drop c).length = 0 + c + 1 + 0 by simp [HL.out] <;> omega, show l.take c ++ v :: l.drop c = (l.take c ++ [v]) ++ l.drop c by simp, ic_app, ic_app]
            exact hown9
          have HR9 := Lib.hid (Reads.of_own hO9)
          have HS9 := Lib.hid (own_shp hO9)
          have HV9 : Hid (c + 1 + 0 = (putL l v).length) := Lib.hid (by rw [HE.out]; simp [HL.out] <;> omega)
          have HV8 : Hid (c + 1 = (putL l v).length ∨ True) := Lib.hid (.inr trivial)
          clear hO9 hown9 hown8 hown7 hgrow9 hgrow8 hgrow7
          go_wp2_with fail
          go_ret
          exact ⟨A9, c9, (putL l v).length, by rw [← HV9.out]; first | rfl | simp, rfl, HS9.out, HR9.out, b9⟩
      · have HR43 := Lib.hid (HNil.out wr (some ⟨b, o + k, none⟩))
        have HN43 : Hid ((some (⟨b, o + k, none⟩ : Addr)) = none → c - k = 0) := Lib.hid (fun h => by cases h)
        go_wp2_with fail
        go_region_law (first | (refine step_append_src rfl (.tmp 33) (.tmp 36) 45 rfl wr.heap.size 3 j0 _ 1 8 Try.underlying45 hj0 hy0 hy1 hy2 rfl (by decide) (.slice (some ⟨wr.heap.size, 0, none⟩) 0 0) 0 [] (by first | rfl | simp [Act.eval, Act.put]) (by exact (made3 wr wr.heap.size (Nat.le_refl _))) (some ⟨b, o, none⟩) k c wr.heap.size (icells (l.take k)) (by first | rfl | simp [Act.eval, Act.put]) HA.out.1 (by exact (HR36.out.alloc (Nat.le_refl _) _)) (ic_one _) (by unfold maxLen; omega) (by omega) (by first | (simp; done) | (simp; omega)) ?_; intro A7 c7 w7 hown7 hn7 hgrow7; have b7 : Below wr.heap.size wr w7 := below_grown (w := wr.alloc _) (below_new _ _) (by simp) (made3 wr wr.heap.size (Nat.le_refl _)) ⟨hgrow7.os, hgrow7.tape, hgrow7.output, hgrow7.size, hgrow7.block⟩) | (refine step_append_src rfl (.tmp 33) (.tmp 36) 45 rfl wr.heap.size 3 j0 _ 1 8 Try.underlying45 hj0 hy0 hy1 hy2 rfl (by decide) (.slice (some ⟨wr.heap.size, 0, none⟩) 0 0) 0 [] (by first | rfl | simp [Act.eval, Act.put]) (by exact ((made3 wr wr.heap.size (Nat.le_refl _)).alloc (.cells #[.int .i64 v] 3))) (some ⟨b, o, none⟩) k c wr.heap.size (icells (l.take k)) (by first | rfl | simp [Act.eval, Act.put]) HA.out.1 (by exact ((HR36.out.alloc (Nat.le_refl _) _).alloc (by simp) _)) (ic_one _) (by unfold maxLen; omega) (by omega) (by first | (simp; done) | (simp; omega)) ?_; intro A7 c7 w7 hown7 hn7 hgrow7; have b7 : Below wr.heap.size wr w7 := below_grown (w := (wr.alloc _).alloc _) ((below_new _ _).alloc (by simp) _) (by simp; omega) ((made3 wr wr.heap.size (Nat.le_refl _)).alloc (.cells #[.int .i64 v] 3)) ⟨hgrow7.os, hgrow7.tape, hgrow7.output, hgrow7.size, hgrow7.block⟩; have hv7 : w7.cell? ⟨wr.heap.size + 1, 0, none⟩ = some (.int .i64 v) := hgrow7.cell (a := ⟨wr.heap.size + 1, 0, none⟩) (by simp) (by simp [Value.ownBlock])) | (refine step_append_src rfl (.tmp 33) (.tmp 36) 45 rfl wr.heap.size 3 j0 _ 1 8 Try.underlying45 hj0 hy0 hy1 hy2 rfl (by decide) (.slice (some ⟨wr.heap.size + 1, 0, none⟩) 0 0) 0 [] (by first | rfl | simp [Act.eval, Act.put]) (by exact (made3v wr v)) (some ⟨b, o, none⟩) k c wr.heap.size (icells (l.take k)) (by first | rfl | simp [Act.eval, Act.put]) HA.out.1 (by exact ((HR36.out.alloc (Nat.le_refl _) _).alloc (by simp) _)) (ic_one _) (by unfold maxLen; omega) (by omega) (by first | (simp; done) | (simp; omega)) ?_; intro A7 c7 w7 hown7 hn7 hgrow7; have b7 : Below wr.heap.size wr w7 := below_grown (w := (wr.alloc _).alloc _) ((below_new _ _).alloc (by simp) _) (by simp; omega) (made3v wr v) ⟨hgrow7.os, hgrow7.tape, hgrow7.output, hgrow7.size, hgrow7.block⟩; have hv7 : w7.cell? ⟨wr.heap.size, 0, none⟩ = some (.int .i64 v) := hgrow7.cell (a := ⟨wr.heap.size, 0, none⟩) (by simp) (by simp [Value.ownBlock])) | (refine step_append_src rfl (.tmp 37) (.tmp 39) 45 rfl wr.heap.size 3 j0 _ 1 8 Try.underlying45 hj0 hy0 hy1 hy2 rfl (by decide) (.slice A7 (0 + k) c7) (0 + k) ([] ++ icells (l.take k)) (by first | rfl | simp [Act.eval, Act.put]) (by exact (hown7.alloc _)) (some ⟨w7.heap.size, 0, none⟩) 1 1 _ (icells [v]) (by first | rfl | simp [Act.eval, Act.put]) (fun h => by cases h) (by exact (rd_lit1 w7 v)) (ic_one _) (by unfold maxLen; omega) (by omega) (by have := b7.size; simp; omega) ?_; intro A8 c8 w8 hown8 hn8 hgrow8; have b8 : Below wr.heap.size wr w8 := below_grown (w := w7.alloc _) (b7.alloc b7.size _) (by have := b7.size; simp; omega) (hown7.alloc _) ⟨hgrow8.os, hgrow8.tape, hgrow8.output, hgrow8.size, hgrow8.block⟩) | (refine step_append_src rfl (.tmp 37) (.tmp 39) 45 rfl wr.heap.size 3 j0 _ 1 8 Try.underlying45 hj0 hy0 hy1 hy2 rfl (by decide) (.slice A7 (0 + k) c7) (0 + k) ([] ++ icells (l.take k)) (by first | rfl | simp [Act.eval, Act.put]) (by exact hown7) (some ⟨wr.heap.size + 1, 0, none⟩) 1 1 _ (icells [v]) (by first | rfl | simp [Act.eval, Act.put]) (fun h => by cases h) (by exact (rd_cell hv7)) (ic_one _) (by unfold maxLen; omega) (by omega) (by have := b7.size; simp; omega) ?_; intro A8 c8 w8 hown8 hn8 hgrow8; have b8 : Below wr.heap.size wr w8 := below_grown (w := w7) b7 b7.size hown7 ⟨hgrow8.os, hgrow8.tape, hgrow8.output, hgrow8.size, hgrow8.block⟩) | (refine step_append_src rfl (.tmp 37) (.tmp 39) 45 rfl wr.heap.size 3 j0 _ 1 8 Try.underlying45 hj0 hy0 hy1 hy2 rfl (by decide) (.slice A7 (0 + k) c7) (0 + k) ([] ++ icells (l.take k)) (by first | rfl | simp [Act.eval, Act.put]) (by exact hown7) (some ⟨wr.heap.size, 0, none⟩) 1 1 _ (icells [v]) (by first | rfl | simp [Act.eval, Act.put]) (fun h => by cases h) (by exact (rd_cell hv7)) (ic_one _) (by unfold maxLen; omega) (by omega) (by have := b7.size; simp; omega) ?_; intro A8 c8 w8 hown8 hn8 hgrow8; have b8 : Below wr.heap.size wr w8 := below_grown (w := w7) b7 b7.size hown7 ⟨hgrow8.os, hgrow8.tape, hgrow8.output, hgrow8.size, hgrow8.block⟩) | (refine step_append_src rfl (.tmp 40) (.tmp 43) 45 rfl wr.heap.size 3 j0 _ 1 8 Try.underlying45 hj0 hy0 hy1 hy2 rfl (by decide) (.slice A8 (0 + k + 1) c8) (0 + k + 1) ([] ++ icells (l.take k) ++ icells [v]) (by first | rfl | simp [Act.eval, Act.put]) (by exact hown8) (some ⟨b, o + k, none⟩) 0 (c - k) wr.heap.size (icells (l.drop k)) (by first | rfl | simp [Act.eval, Act.put]) (fun h => by cases h) (by exact (HR43.out.below b8)) (ic_one _) (by unfold maxLen; omega) (by omega) (by exact b8.size) ?_; intro A9 c9 w9 hown9 hn9 hgrow9; have b9 : Below wr.heap.size wr w9 := below_grown (w := w8) b8 b8.size hown8 ⟨hgrow9.os, hgrow9.tape, hgrow9.output, hgrow9.size, hgrow9.block⟩))
        all_goals
          have hO9 : w9.ownsRow wr.heap.size 3 1 (.slice A9 (putL l v).length c9) (putL l v).length (icells (putL l v)) := by
            rw [HE.out, show (l.take k ++ v :: l.drop k).length = 0 + k + 1 + 0 by simp [HL.out] <;> omega, show l.take k ++ v :: l.drop k = (l.take k ++ [v]) ++ l.drop k by simp, ic_app, ic_app]
            exact hown9
          have HR9 := Lib.hid (Reads.of_own hO9)
          have HS9 := Lib.hid (own_shp hO9)
          have HV9 : Hid (k + 1 + 0 = (putL l v).length) := Lib.hid (by rw [HE.out]; simp [HL.out] <;> omega)
          have HV8 : Hid (k + 1 = (putL l v).length ∨ True) := Lib.hid (.inr trivial)
          clear hO9 hown9 hown8 hown7 hgrow9 hgrow8 hgrow7
          go_wp2_with fail
          go_ret
          exact ⟨A9, c9, (putL l v).length, by rw [← HV9.out]; first | rfl | simp, rfl, HS9.out, HR9.out, b9⟩
end Go.Proofs.Ythaageiflimnnaa
/- What the document's starts and Starts return: all places where something may begin. -/
namespace Go.Proofs.Ythaageiflimnnaa
open Go.RowKit Go.BigFrame
set_option linter.unusedVariables false
set_option linter.unusedSimpArgs false

theorem putL_pos (l : List Int) (v : Int) : 0 < (putL l v).length := by
  cases l with
  | nil => simp [putL]
  | cons x l => unfold putL; split <;> (try split) <;> simp
/-- Ahead of each round: the places of the first k. -/
def StRel (l : List Rg) (n : Nat) (w : World) (vo vi : Value) (wr : World) : Prop :=
  ∃ (k z : Nat) (A2 : Option Addr) (c2 : Nat) (acc : List Int), k ≤ n ∧ vi = .int .i64 k ∧ vo = .slice A2 z c2 ∧ Hid (acc.length = z) ∧ 0 < z ∧ Hid (Shp A2 z c2) ∧ Hid (acc = stL [0] (l.take k)) ∧ z ≤ 1 + 2 * k ∧ Hid (Reads wr wr.heap.size 1 A2 z (icells acc)) ∧ Below w.heap.size w wr

set_option maxHeartbeats 2000000 in
theorem starts_any (l : List Rg) (n : Nat) (hl : l.length = n) (A : Option Addr) (c : Nat) (w : World) (hR : Reads w w.heap.size 2 A n (rcells l)) (hn : n ≤ 4000) :
    Calls Try.prog 45 #[.slice A n c] w (OutI (stL [0] l) w) := by
  have HR := Lib.hid hR
  have HL := Lib.hid hl
  clear hR hl
  go_enter Try.func45, Try.ntmps45
  go_wp2_with fail
  go_loopw [3, 4] (fun vo vi wr => StRel l n w vo vi wr) (fun _ i _ => n - (intOf i).toNat)
  case atStart =>
    refine ⟨0, 1, some ⟨w.heap.size, 0, none⟩, 1, [0], Nat.zero_le _, rfl, rfl, Lib.hid rfl, by omega, Lib.hid (shp_lit _ 1 (by omega)), Lib.hid rfl, by omega, Lib.hid ?_, below_new _ _⟩
    refine ⟨rfl, fun _ => ⟨w.heap.size, 0, rfl, by simp, fun j u hj => ?_⟩⟩
    match j, hj with
    | 0, hj => simp [icells] at hj; subst hj; simp
  case round =>
    obtain ⟨k, z, A2, c2, acc, hk, rfl, rfl, HLz, hz0, HSh, HE, hz, HRd, hb⟩ := hrel
    have hsz := hb.size
    by_cases hlt : k < n
    · have kl : k < l.length := by rw [HL.out]; exact hlt
      obtain ⟨b, o, rfl, hbb, p0, p1⟩ := (HR.out.below hb).rg kl
      have HN : Hid (st1 acc l[k] = stL [0] (l.take (k + 1))) := Lib.hid (by rw [List.take_succ_eq_append_getElem kl, stL_snoc, ← HE.out])
      generalize l[k] = r at *
      obtain ⟨x0, x1⟩ := r
      simp only [] at p0 p1
      clear HE
      have hcn := fun W => refNext_n x1 W
      have hs1 : st1 acc (x0, x1) = if nextB x1 then putL (putL acc x0) (nextN x1) else putL acc x0 := rfl
      rw [hs1] at HN
      clear hs1
      go_wp2_with fail
      refine (put_any acc z HLz.out A2 c2 x0 _ HSh.out HRd.out hz0 (by omega)).mono ?_
      rintro e w1 ⟨A3, c3, z3, rfl, h3, s3, r3, g3⟩
      have hz30 : 0 < z3 := by rw [← h3]; exact putL_pos acc x0
      have hz3 : z3 ≤ z + 1 := by have := putL_len acc x0; have := HLz.out; omega
      have H3 := Lib.hid h3
      have S3 := Lib.hid s3
      have R3 := Lib.hid r3
      have b3 := hb.trans (g3.mono hsz)
      have q1 := kept_cell g3 p1
      have hs3 := b3.size
      clear h3 s3 r3 g3 HRd HSh p0 p1 hb
      generalize putL acc x0 = acc3 at *
      generalize nextN x1 = nn at *
      go_wp2_with fail
      refine (hcn _).mono ?_
      rintro e w2 ⟨rfl, g4, _⟩
      cases hnb : nextB x1
      · rw [hnb] at hcn HN
        rw [if_neg (by decide)] at HN
        have R5 := Lib.hid (reads_on (reads_on R3.out g4) (below_new w2 (.cells #[.int .i64 nn, .bool false] 79)))
        have b5 := (b3.trans (g4.mono hs3)).alloc (by have := (b3.trans (g4.mono hs3)).size; omega) (.cells #[.int .i64 nn, .bool false] 79)
        clear R3 g4 hcn hnb
        go_wp2_with fail
        go_roundw
        case rel => exact ⟨k + 1, z3, A3, c3, acc3, by omega, by go_num, rfl, H3, hz30, S3, HN, by omega, R5, b5⟩
        case measure => simp [intOf]; omega
      · rw [hnb] at hcn HN
        rw [if_pos rfl] at HN
        have R5 := Lib.hid (reads_on (reads_on R3.out g4) (below_new w2 (.cells #[.int .i64 nn, .bool true] 79)))
        have b5 := (b3.trans (g4.mono hs3)).alloc (by have := (b3.trans (g4.mono hs3)).size; omega) (.cells #[.int .i64 nn, .bool true] 79)
        clear R3 g4 hcn hnb
        go_wp2_with fail
        refine (put_any acc3 z3 H3.out A3 c3 nn _ S3.out R5.out hz30 (by omega)).mono ?_
        rintro e w6 ⟨A6, c6, z6, rfl, h6, s6, r6, g6⟩
        have hz60 : 0 < z6 := by rw [← h6]; exact putL_pos acc3 nn
        have hz6 : z6 ≤ z3 + 1 := by have := putL_len acc3 nn; have := H3.out; omega
        have H6 := Lib.hid h6
        have S6 := Lib.hid s6
        have R6 := Lib.hid r6
        have b6 := b5.trans (g6.mono b5.size)
        clear h6 s6 r6 g6 R5
        go_wp2_with fail
        go_roundw
        case rel => exact ⟨k + 1, z6, A6, c6, putL acc3 nn, by omega, by go_num, rfl, H6, hz60, S6, HN, by omega, R6, b6⟩
        case measure => simp [intOf]; omega
    · have HD : Hid (acc = stL [0] l) := Lib.hid (by
        have h := HE.out
        rwa [List.take_of_length_le (by rw [HL.out]; omega)] at h)
      clear HE
      go_wp2_with fail
      go_ret
      exact ⟨A2, c2, z, rfl, by rw [← HD.out]; exact HLz.out, HSh.out, by rw [← HD.out]; exact HRd.out, hb⟩
end Go.Proofs.Ythaageiflimnnaa
/- What the document's Build returns: the set of the stretches that are marked. -/
namespace Go.Proofs.Ythaageiflimnnaa
open Go.RowKit Go.BigFrame
set_option linter.unusedVariables false
set_option linter.unusedSimpArgs false

theorem field58 (x : Int) (y : Bool) (W : World) : (Instr.field 79 (.agg #[.int .i64 x, .bool y]) 0).run Try.prog W = .ok (.int .i64 x) W := by kernel_rfl
theorem Reads.int_at {w : World} {B n b o : Nat} {l : List Int} (h : Reads w B 1 (some ⟨b, o, none⟩) n (icells l)) {k : Nat} (hk : k < l.length) : w.cell? ⟨b, o + k, none⟩ = some (.int .i64 l[k]) := by
  obtain ⟨b', o', e, _, hc⟩ := h.int hk
  injection e with e
  injection e with e1 e2
  subst e1 e2
  exact hc

/-- What Build leaves. -/
def OutB (p : Int → Prop) (n : Nat) (w : World) (e : Ending) (w' : World) : Prop :=
  ∃ (s : List Rg) (k : Nat) (A : Option Addr) (c : Nat), e = .returned (.slice A k c) ∧ s.length = k ∧ k ≤ n ∧ Shp A k c ∧ IsSet s p ∧ Reads w' w'.heap.size 2 A k (rcells s) ∧ Below w.heap.size w w'
def BdRel (at_ : List Int) (p : Int → Prop) (n : Nat) (w : World) (vo vi : Value) (wr : World) : Prop :=
  ∃ (k z : Nat) (A2 : Option Addr) (c2 : Nat) (acc : List Rg), k ≤ n ∧ vi = .int .i64 k ∧ vo = .slice A2 z c2 ∧ Hid (acc.length = z) ∧ z ≤ k ∧ Hid (BdInv at_ p k acc) ∧ wr.ownsRow w.heap.size 50 2 (.slice A2 z c2) z (rcells acc) ∧ Below w.heap.size w wr

set_option maxRecDepth 100000 in
set_option maxHeartbeats 4000000 in
theorem build_any (at_ : List Int) (inn : List Bool) (p : Int → Prop) (n : Nat) (hl : at_.length = n) (hi : inn.length = n) (A B : Option Addr) (c d : Nat) (w : World) (hP : Places at_ p) (hI : ∀ i (h : i < inn.length) (h2 : i < at_.length), inn[i] = true ↔ p at_[i])
    (hRa : Reads w w.heap.size 1 A n (icells at_)) (hRb : Reads w w.heap.size 1 B n (bcells inn)) (hn : n ≤ 10000) :
    Calls Try.prog 33 #[.slice A n c, .slice B n d] w (OutB p n w) := by
  obtain ⟨i0, hi0, hz0, hz1, hz2⟩ := info_parts info41
  have hf58 := field58
  have HRa := Lib.hid hRa
  have HRb := Lib.hid hRb
  have HL := Lib.hid hl
  have HLi := Lib.hid hi
  have HP := Lib.hid hP
  have HI := Lib.hid hI
  clear hRa hRb hl hi hP hI
  go_enter Try.func33, Try.ntmps33
  go_wp2_with fail
  go_loopw [5, 6] (fun vo vi wr => BdRel at_ p n w vo vi wr) (fun _ i _ => n - (intOf i).toNat)
  case atStart => exact ⟨0, 0, none, 0, [], Nat.zero_le _, rfl, rfl, Lib.hid rfl, Nat.le_refl _, Lib.hid (bd_start HP.out), World.ownsRow_nil _ _ _ _, Below.refl _ _⟩
  case round =>
    obtain ⟨k, z, A2, c2, acc, hk, rfl, rfl, HZ, hzk, HJ, hown, hb⟩ := hrel
    have hsz := hb.size
    by_cases hlt : k < n
    · have kl : k < at_.length := by rw [HL.out]; exact hlt
      have ki : k < inn.length := by rw [HLi.out]; exact hlt
      obtain ⟨ba, oa, rfl, hba, pa⟩ := (HRa.out.below hb).int kl
      obtain ⟨bb, ob, rfl, hbb, pb⟩ := (HRb.out.below hb).bool ki
      have hik := HI.out k ki kl
      cases hin : inn[k]
      · have HX : Hid (BdInv at_ p (k + 1) acc) := Lib.hid (bd_skip HP.out HJ.out kl (fun hp => by rw [hik.2 hp] at hin; cases hin))
        rw [hin] at pb
        have HO := Lib.hid hown
        clear HJ hik hin hown
        go_wp2_with fail
        go_roundw
        case rel => exact ⟨k + 1, z, A2, c2, acc, by omega, by go_num, rfl, HZ, by omega, HX, HO.out, hb⟩
        case measure => simp [intOf]; omega
      · rw [hin] at pb
        have hpk := hik.1 hin
        rcases List.eq_nil_or_concat acc with rfl | ⟨t, x, rfl⟩
        · have HX : Hid (BdInv at_ p (k + 1) ([] ++ [(at_[k], hiN at_ k)])) := Lib.hid (bd_new HP.out HJ.out kl hpk (fun t x h => by simp at h))
          obtain rfl : z = 0 := by have := HZ.out; simpa using this.symm
          clear HJ hik hin hpk HZ
          by_cases hk1 : k + 1 < n
          · have kl1 : k + 1 < at_.length := by rw [HL.out]; exact hk1
            have hh : prevN at_[k + 1] = hiN at_ k := by unfold hiN; rw [dif_pos kl1]
            have hcp := fun W => refPrev_n at_[k + 1] W
            rw [hh] at hcp
            have pn := Reads.int_at (HRa.out.below hb) kl1
            generalize at_[k + 1] = an at *
            generalize at_[k] = ak at *
            generalize hiN at_ k = hiv at *
            go_wp2_with fail
            refine (hcp _).mono ?_
            rintro e w2 ⟨rfl, g2, _⟩
            have b2 := hb.trans (g2.mono hsz)
            have own2 := own_below hown g2
            have pa2 := kept_cell g2 pa
            clear hcp g2 hown hb pa pn pb
            go_wp2_with fail
            have d0 := fun n os => cell_grown (World.block_lt_of_cell? _ _ pa2) pa2 n os
            refine wp_region_quiet_grown mixedTry (by kernel_rfl) ?_
            repeat (go_big_quiet_step (fail))
            refine wpQuiet_nil ?_
            intro _ hw'
            obtain ⟨⟨nq, osq⟩, hw''⟩ := hw'
            subst hw''
            have hb9 := b2.trans ((below_grown_of w2 nq osq).1.mono b2.size)
            have hown9 := own_below own2 (below_grown_of w2 nq osq).1
            have e0 := d0 nq osq
            clear d0 own2 b2 pa2
            generalize Go.Sort.grow (w2.drewN nq) osq = w9 at *
            have hsz9 := hb9.size
            go_wp2_with (at_builtin; refine wpList_append_lies _ rfl _ _ 48 rfl w.heap.size 50 i0 _ 2 16 Try.underlying48 hi0 hz0 hz1 hz2 rfl (by decide) _ _ _ rfl (hown9.alloc _) ⟨w9.heap.size, 0, none⟩ 1 1 [.int .i64 ak, .int .i64 hiv] rfl rfl ?k1 ?k2 (by omega) ?k3 ?k4 ?k5 _ rfl ?_)
            case k1 =>
              intro j u hj
              match j, hj with
              | 0, hj => simp at hj; subst hj; simp [Addr.add]
              | 1, hj => simp at hj; subst hj; simp [Addr.add]
            case k2 => intro u hu; simp at hu; rcases hu with rfl | rfl <;> rfl
            case k3 => unfold maxLen; omega
            case k4 => omega
            case k5 => simp; omega
            · intro g cap w5 hown5 hgrow hat hlt5
              have b5 : Below w.heap.size w w5 := below_grown (hb9.alloc (by omega) _) (by simp; omega) (hown9.alloc _) hgrow
              have HO5 : Hid (w5.ownsRow w.heap.size 50 2 (.slice (some ⟨g, 0, none⟩) (0 + 1) cap) (0 + 1) (rcells ([] ++ [(ak, hiv)]))) := Lib.hid (by rw [rcells_snoc]; exact hown5)
              have HL5 : Hid (([] ++ [(ak, hiv)]).length = 0 + 1) := Lib.hid (by simp)
              clear hown5 hgrow hat hown9
              go_wp2_with fail
              go_roundw
              case rel => exact ⟨k + 1, 0 + 1, some ⟨g, 0, none⟩, cap, ([] ++ [(ak, hiv)]), by omega, by go_num, rfl, HL5, by omega, HX, HO5.out, b5⟩
              case measure => simp [intOf]; omega
          · have hh : hiN at_ k = 1114111 := by unfold hiN; rw [dif_neg (by rw [HL.out]; exact hk1)]
            rw [hh] at HX
            clear hh
            generalize at_[k] = ak at *
            go_wp2_with fail
            have d0 := fun n os => cell_grown (World.block_lt_of_cell? _ _ pa) pa n os
            refine wp_region_quiet_grown mixedTry (by kernel_rfl) ?_
            repeat (go_big_quiet_step (fail))
            refine wpQuiet_nil ?_
            intro _ hw'
            obtain ⟨⟨nq, osq⟩, hw''⟩ := hw'
            subst hw''
            have hb9 := hb.trans ((below_grown_of wr nq osq).1.mono hb.size)
            have hown9 := own_below hown (below_grown_of wr nq osq).1
            have e0 := d0 nq osq
            clear d0 hown hb pa
            generalize Go.Sort.grow (wr.drewN nq) osq = w9 at *
            have hsz9 := hb9.size
            go_wp2_with (at_builtin; refine wpList_append_lies _ rfl _ _ 48 rfl w.heap.size 50 i0 _ 2 16 Try.underlying48 hi0 hz0 hz1 hz2 rfl (by decide) _ _ _ rfl (hown9.alloc _) ⟨w9.heap.size, 0, none⟩ 1 1 [.int .i64 ak, .int .i64 1114111] rfl rfl ?k1 ?k2 (by omega) ?k3 ?k4 ?k5 _ rfl ?_)
            case k1 =>
              intro j u hj
              match j, hj with
              | 0, hj => simp at hj; subst hj; simp [Addr.add]
              | 1, hj => simp at hj; subst hj; simp [Addr.add]
            case k2 => intro u hu; simp at hu; rcases hu with rfl | rfl <;> rfl
            case k3 => unfold maxLen; omega
            case k4 => omega
            case k5 => simp; omega
            · intro g cap w5 hown5 hgrow hat hlt5
              have b5 : Below w.heap.size w w5 := below_grown (hb9.alloc (by omega) _) (by simp; omega) (hown9.alloc _) hgrow
              have HO5 : Hid (w5.ownsRow w.heap.size 50 2 (.slice (some ⟨g, 0, none⟩) (0 + 1) cap) (0 + 1) (rcells ([] ++ [(ak, 1114111)]))) := Lib.hid (by rw [rcells_snoc]; exact hown5)
              have HL5 : Hid (([] ++ [(ak, 1114111)]).length = 0 + 1) := Lib.hid (by simp)
              clear hown5 hgrow hat hown9
              go_wp2_with fail
              go_roundw
              case rel => exact ⟨k + 1, 0 + 1, some ⟨g, 0, none⟩, cap, ([] ++ [(ak, 1114111)]), by omega, by go_num, rfl, HL5, by omega, HX, HO5.out, b5⟩
              case measure => simp [intOf]; omega
        · rw [List.concat_eq_append] at *
          obtain ⟨m, hm⟩ : ∃ m, t.length = m := ⟨_, rfl⟩
          obtain rfl : z = m + 1 := by have := HZ.out; rw [← this]; simp [hm]
          have HM := Lib.hid hm
          obtain ⟨g, cap, hv, hg0, hg⟩ := hown.form (by omega)
          injection hv with e1 e2 e3
          subst e1 e3
          have q1 : wr.cell? ⟨g, m * 2 + 1, none⟩ = some (.int .i64 x.2) := by
            rw [hown.cellAt (m * 2 + 1) (by omega)]
            have := (rcells_at (t ++ [x]) m (by simp [hm])).2
            rw [this]; simp [← hm]
          by_cases hnx : nextN x.2 = at_[k]
          · have HX : Hid (BdInv at_ p (k + 1) (t ++ [(x.1, hiN at_ k)])) := Lib.hid (bd_more HP.out HJ.out kl hpk hnx)
            have heq : (nextN x.2 == at_[k]) = true := by rw [beq_iff_eq]; exact hnx
            clear HJ hik hin hpk HZ hm e2 hnx
            by_cases hk1 : k + 1 < n
            · have kl1 : k + 1 < at_.length := by rw [HL.out]; exact hk1
              have hh : prevN at_[k + 1] = hiN at_ k := by unfold hiN; rw [dif_pos kl1]
              have hcp := fun W => refPrev_n at_[k + 1] W
              rw [hh] at hcp
              have pn := Reads.int_at (HRa.out.below hb) kl1
              generalize at_[k + 1] = an at *
              generalize at_[k] = ak at *
              generalize hiN at_ k = hiv at *
              obtain ⟨x0, x1⟩ := x
              simp only [] at HX heq q1
              have hcx := fun W => lay_of (refNext_n x1 W)
              generalize nextN x1 = nx1 at *
              go_wp2_with fail
              refine (hcp _).mono ?_
              rintro e w2 ⟨rfl, g2, _⟩
              have b2 := hb.trans (g2.mono hsz)
              have own2 := own_below hown g2
              have pa2 := kept_cell g2 pa
              have q1' := kept_cell g2 q1
              clear hcp g2 hown hb pa pn pb
              go_wp2_with fail
              have d0 := fun n os => cell_grown (World.block_lt_of_cell? _ _ pa2) pa2 n os
              have d1 := fun n os => cell_grown (World.block_lt_of_cell? _ _ q1') q1' n os
              refine wp_region_quiet_grown mixedTry (by kernel_rfl) ?_
              repeat (go_big_quiet_step (first | (go_at_call 42; refine Calls.grown_of (hcx _))))
              refine wpQuiet_nil ?_
              intro _ hw'
              obtain ⟨⟨nq, osq⟩, hw''⟩ := hw'
              subst hw''
              have hb9 := b2.trans ((below_grown_of w2 nq osq).1.mono b2.size)
              have hown9 := own_below own2 (below_grown_of w2 nq osq).1
              have e0 := d0 nq osq
              clear d0 d1 hcx own2 b2 pa2
              generalize Go.Sort.grow (w2.drewN nq) osq = w9 at *
              have hsz9 := hb9.size
              have f1 := hown9.frozenAt (m * 2 + 1)
              have hst := (hown9.stored (m * 2 + 1) (.int .i64 hiv)).1
              have hset : (rcells (t ++ [(x0, x1)])).set (m * 2 + 1) (.int .i64 hiv) = rcells (t ++ [(x0, hiv)]) := by
                have hm := HM.out
                rw [rcells_snoc, rcells_snoc, List.set_append_right _ _ (by rw [rcells_len]; omega), rcells_len, hm, show m * 2 + 1 - m * 2 = 1 by omega]
                rfl
              rw [hset] at hst
              have b5 : Below w.heap.size w (w9.setCell ⟨g, m * 2 + 1, none⟩ (.int .i64 hiv)) := hb9.setCell (p := ⟨g, m * 2 + 1, none⟩) hg0 _
              have HO5 := Lib.hid hst
              have HL5 : Hid ((t ++ [(x0, hiv)]).length = m + 1) := Lib.hid (by simp [HM.out])
              have c9 : ∃ u, w9.cell? ⟨g, m * 2 + 1, none⟩ = some u := ⟨_, (hown9.cellAt (m * 2 + 1) (by omega)).trans (by
                have := (rcells_at (t ++ [(x0, x1)]) m (by simp [HM.out])).2
                exact this)⟩
              obtain ⟨u9, hu9⟩ := c9
              clear hst hset hown9
              go_wp2_with fail
              go_roundw
              case rel => exact ⟨k + 1, m + 1, some ⟨g, 0, none⟩, c2, t ++ [(x0, hiv)], by omega, by go_num, rfl, HL5, by omega, HX, HO5.out, b5⟩
              case measure => simp [intOf]; omega
            · have hh : hiN at_ k = 1114111 := by unfold hiN; rw [dif_neg (by rw [HL.out]; exact hk1)]
              rw [hh] at HX
              clear hh
              generalize at_[k] = ak at *
              obtain ⟨x0, x1⟩ := x
              simp only [] at HX heq q1
              have hcx := fun W => lay_of (refNext_n x1 W)
              generalize nextN x1 = nx1 at *
              go_wp2_with fail
              have d0 := fun n os => cell_grown (World.block_lt_of_cell? _ _ pa) pa n os
              have d1 := fun n os => cell_grown (World.block_lt_of_cell? _ _ q1) q1 n os
              refine wp_region_quiet_grown mixedTry (by kernel_rfl) ?_
              repeat (go_big_quiet_step (first | (go_at_call 42; refine Calls.grown_of (hcx _))))
              refine wpQuiet_nil ?_
              intro _ hw'
              obtain ⟨⟨nq, osq⟩, hw''⟩ := hw'
              subst hw''
              have hb9 := hb.trans ((below_grown_of wr nq osq).1.mono hb.size)
              have hown9 := own_below hown (below_grown_of wr nq osq).1
              have e0 := d0 nq osq
              clear d0 d1 hcx hown hb pa
              generalize Go.Sort.grow (wr.drewN nq) osq = w9 at *
              have hsz9 := hb9.size
              have f1 := hown9.frozenAt (m * 2 + 1)
              have hst := (hown9.stored (m * 2 + 1) (.int .i64 1114111)).1
              have hset : (rcells (t ++ [(x0, x1)])).set (m * 2 + 1) (.int .i64 1114111) = rcells (t ++ [(x0, 1114111)]) := by
                have hm := HM.out
                rw [rcells_snoc, rcells_snoc, List.set_append_right _ _ (by rw [rcells_len]; omega), rcells_len, hm, show m * 2 + 1 - m * 2 = 1 by omega]
                rfl
              rw [hset] at hst
              have b5 : Below w.heap.size w (w9.setCell ⟨g, m * 2 + 1, none⟩ (.int .i64 1114111)) := hb9.setCell (p := ⟨g, m * 2 + 1, none⟩) hg0 _
              have HO5 := Lib.hid hst
              have HL5 : Hid ((t ++ [(x0, 1114111)]).length = m + 1) := Lib.hid (by simp [HM.out])
              have c9 : ∃ u, w9.cell? ⟨g, m * 2 + 1, none⟩ = some u := ⟨_, (hown9.cellAt (m * 2 + 1) (by omega)).trans (by
                have := (rcells_at (t ++ [(x0, x1)]) m (by simp [HM.out])).2
                exact this)⟩
              obtain ⟨u9, hu9⟩ := c9
              clear hst hset hown9
              go_wp2_with fail
              go_roundw
              case rel => exact ⟨k + 1, m + 1, some ⟨g, 0, none⟩, c2, t ++ [(x0, 1114111)], by omega, by go_num, rfl, HL5, by omega, HX, HO5.out, b5⟩
              case measure => simp [intOf]; omega
          · have HX : Hid (BdInv at_ p (k + 1) (t ++ [x] ++ [(at_[k], hiN at_ k)])) := Lib.hid (bd_new HP.out HJ.out kl hpk (fun t' x' h => by
              obtain ⟨_, e⟩ := List.append_inj' h rfl
              simp at e
              subst e; exact hnx))
            have heq : (nextN x.2 == at_[k]) = false := by rw [beq_eq_false_iff_ne]; exact hnx
            clear HJ hik hin hpk HZ hm e2 hnx
            by_cases hk1 : k + 1 < n
            · have kl1 : k + 1 < at_.length := by rw [HL.out]; exact hk1
              have hh : prevN at_[k + 1] = hiN at_ k := by unfold hiN; rw [dif_pos kl1]
              have hcp := fun W => refPrev_n at_[k + 1] W
              rw [hh] at hcp
              have pn := Reads.int_at (HRa.out.below hb) kl1
              generalize at_[k + 1] = an at *
              generalize at_[k] = ak at *
              generalize hiN at_ k = hiv at *
              obtain ⟨x0, x1⟩ := x
              simp only [] at HX heq q1
              have hcx := fun W => lay_of (refNext_n x1 W)
              generalize nextN x1 = nx1 at *
              go_wp2_with fail
              refine (hcp _).mono ?_
              rintro e w2 ⟨rfl, g2, _⟩
              have b2 := hb.trans (g2.mono hsz)
              have own2 := own_below hown g2
              have pa2 := kept_cell g2 pa
              have q1' := kept_cell g2 q1
              clear hcp g2 hown hb pa pn pb
              go_wp2_with fail
              have d0 := fun n os => cell_grown (World.block_lt_of_cell? _ _ pa2) pa2 n os
              have d1 := fun n os => cell_grown (World.block_lt_of_cell? _ _ q1') q1' n os
              refine wp_region_quiet_grown mixedTry (by kernel_rfl) ?_
              repeat (go_big_quiet_step (first | (go_at_call 42; refine Calls.grown_of (hcx _))))
              refine wpQuiet_nil ?_
              intro _ hw'
              obtain ⟨⟨nq, osq⟩, hw''⟩ := hw'
              subst hw''
              have hb9 := b2.trans ((below_grown_of w2 nq osq).1.mono b2.size)
              have hown9 := own_below own2 (below_grown_of w2 nq osq).1
              have e0 := d0 nq osq
              clear d0 d1 hcx own2 b2 pa2
              generalize Go.Sort.grow (w2.drewN nq) osq = w9 at *
              have hsz9 := hb9.size
              go_wp2_with (at_builtin; refine wpList_append_lies _ rfl _ _ 48 rfl w.heap.size 50 i0 _ 2 16 Try.underlying48 hi0 hz0 hz1 hz2 rfl (by decide) _ _ _ rfl (hown9.alloc _) ⟨w9.heap.size, 0, none⟩ 1 1 [.int .i64 ak, .int .i64 hiv] rfl rfl ?k1 ?k2 (by omega) ?k3 ?k4 ?k5 _ rfl ?_)
              case k1 =>
                intro j u hj
                match j, hj with
                | 0, hj => simp at hj; subst hj; simp [Addr.add]
                | 1, hj => simp at hj; subst hj; simp [Addr.add]
              case k2 => intro u hu; simp at hu; rcases hu with rfl | rfl <;> rfl
              case k3 => unfold maxLen; omega
              case k4 => omega
              case k5 => simp; omega
              · intro g cap w5 hown5 hgrow hat hlt5
                have b5 : Below w.heap.size w w5 := below_grown (hb9.alloc (by omega) _) (by simp; omega) (hown9.alloc _) hgrow
                have HO5 : Hid (w5.ownsRow w.heap.size 50 2 (.slice (some ⟨g, 0, none⟩) ((m + 1) + 1) cap) ((m + 1) + 1) (rcells ((t ++ [(x0, x1)]) ++ [(ak, hiv)]))) := Lib.hid (by rw [rcells_snoc]; exact hown5)
                have HL5 : Hid (((t ++ [(x0, x1)]) ++ [(ak, hiv)]).length = (m + 1) + 1) := Lib.hid (by simp [HM.out])
                clear hown5 hgrow hat hown9
                go_wp2_with fail
                go_roundw
                case rel => exact ⟨k + 1, (m + 1) + 1, some ⟨g, 0, none⟩, cap, ((t ++ [(x0, x1)]) ++ [(ak, hiv)]), by omega, by go_num, rfl, HL5, by omega, HX, HO5.out, b5⟩
                case measure => simp [intOf]; omega
            · have hh : hiN at_ k = 1114111 := by unfold hiN; rw [dif_neg (by rw [HL.out]; exact hk1)]
              rw [hh] at HX
              clear hh
              generalize at_[k] = ak at *
              obtain ⟨x0, x1⟩ := x
              simp only [] at HX heq q1
              have hcx := fun W => lay_of (refNext_n x1 W)
              generalize nextN x1 = nx1 at *
              go_wp2_with fail
              have d0 := fun n os => cell_grown (World.block_lt_of_cell? _ _ pa) pa n os
              have d1 := fun n os => cell_grown (World.block_lt_of_cell? _ _ q1) q1 n os
              refine wp_region_quiet_grown mixedTry (by kernel_rfl) ?_
              repeat (go_big_quiet_step (first | (go_at_call 42; refine Calls.grown_of (hcx _))))
              refine wpQuiet_nil ?_
              intro _ hw'
              obtain ⟨⟨nq, osq⟩, hw''⟩ := hw'
              subst hw''
              have hb9 := hb.trans ((below_grown_of wr nq osq).1.mono hb.size)
              have hown9 := own_below hown (below_grown_of wr nq osq).1
              have e0 := d0 nq osq
              clear d0 d1 hcx hown hb pa
              generalize Go.Sort.grow (wr.drewN nq) osq = w9 at *
              have hsz9 := hb9.size
              go_wp2_with (at_builtin; refine wpList_append_lies _ rfl _ _ 48 rfl w.heap.size 50 i0 _ 2 16 Try.underlying48 hi0 hz0 hz1 hz2 rfl (by decide) _ _ _ rfl (hown9.alloc _) ⟨w9.heap.size, 0, none⟩ 1 1 [.int .i64 ak, .int .i64 1114111] rfl rfl ?k1 ?k2 (by omega) ?k3 ?k4 ?k5 _ rfl ?_)
              case k1 =>
                intro j u hj
                match j, hj with
                | 0, hj => simp at hj; subst hj; simp [Addr.add]
                | 1, hj => simp at hj; subst hj; simp [Addr.add]
              case k2 => intro u hu; simp at hu; rcases hu with rfl | rfl <;> rfl
              case k3 => unfold maxLen; omega
              case k4 => omega
              case k5 => simp; omega
              · intro g cap w5 hown5 hgrow hat hlt5
                have b5 : Below w.heap.size w w5 := below_grown (hb9.alloc (by omega) _) (by simp; omega) (hown9.alloc _) hgrow
                have HO5 : Hid (w5.ownsRow w.heap.size 50 2 (.slice (some ⟨g, 0, none⟩) ((m + 1) + 1) cap) ((m + 1) + 1) (rcells ((t ++ [(x0, x1)]) ++ [(ak, 1114111)]))) := Lib.hid (by rw [rcells_snoc]; exact hown5)
                have HL5 : Hid (((t ++ [(x0, x1)]) ++ [(ak, 1114111)]).length = (m + 1) + 1) := Lib.hid (by simp [HM.out])
                clear hown5 hgrow hat hown9
                go_wp2_with fail
                go_roundw
                case rel => exact ⟨k + 1, (m + 1) + 1, some ⟨g, 0, none⟩, cap, ((t ++ [(x0, x1)]) ++ [(ak, 1114111)]), by omega, by go_num, rfl, HL5, by omega, HX, HO5.out, b5⟩
                case measure => simp [intOf]; omega
    · have HE : Hid (IsSet acc p) := Lib.hid (bd_end HJ.out (by rw [HL.out]; exact hlt))
      have HR2 := Lib.hid (Reads.of_own hown)
      have HS2 := Lib.hid (own_shp hown)
      clear HJ
      go_wp2_with fail
      go_ret
      exact ⟨acc, z, A2, c2, rfl, HZ.out, by omega, HS2.out, HE.out, HR2.out, hb⟩
end Go.Proofs.Ythaageiflimnnaa
/- What the document's Not leaves: its block, its marks, and what it answers at a list that is no set. -/
namespace Go.Proofs.Ythaageiflimnnaa
open Go.RowKit Go.BigFrame
set_option linter.unusedVariables false
set_option linter.unusedSimpArgs false

/-- A result's own block. -/
def Res (g : Nat) (W : World) : Prop := W.cell? ⟨g, 0, none⟩ = some (.slice none 0 0) ∧ W.cell? ⟨g, 1, none⟩ = some (.bool false) ∧ W.frozen? ⟨g, 0, none⟩ = false ∧ W.frozen? ⟨g, 1, none⟩ = false
theorem Res.on {g : Nat} {W W' : World} (h : Res g W) {B : Nat} (hg : g < B) (b : Below B W W') : Res g W' :=
  ⟨(b.cell (p := ⟨g, 0, none⟩) hg).trans h.1, (b.cell (p := ⟨g, 1, none⟩) hg).trans h.2.1, (b.frozen (p := ⟨g, 0, none⟩) hg).trans h.2.2.1, (b.frozen (p := ⟨g, 1, none⟩) hg).trans h.2.2.2⟩
theorem res_new (w : World) : Res w.heap.size (w.alloc (.cells #[.slice none 0 0, .bool false] 56)) := by
  refine ⟨by simp, by simp, ?_, ?_⟩ <;> simp

theorem res_set {g : Nat} {W : World} (h : Res g W) (s b : Value) : ((W.setCell ⟨g, 0, none⟩ s).setCell ⟨g, 1, none⟩ b).cell? ⟨g, 0, none⟩ = some s ∧ ((W.setCell ⟨g, 0, none⟩ s).setCell ⟨g, 1, none⟩ b).cell? ⟨g, 1, none⟩ = some b := by
  obtain ⟨h0, h1, _, _⟩ := h
  constructor
  · rw [World.cell?_setCell_other (h := by simp)]
    exact World.cell?_setCell_same' _ _ _ (by rw [h0]; rfl)
  · have : (W.setCell ⟨g, 0, none⟩ s).cell? ⟨g, 1, none⟩ = some (.bool false) := by
      rw [World.cell?_setCell_other (h := by simp)]; exact h1
    exact World.cell?_setCell_same' _ _ _ (by rw [this]; rfl)
theorem res_below {g B : Nat} {v W : World} (hb : Below B v W) (h : Res g W) (s b : Value) (hB : B ≤ g) : Below B v ((W.setCell ⟨g, 0, none⟩ s).setCell ⟨g, 1, none⟩ b) :=
  (hb.setCell (p := ⟨g, 0, none⟩) hB _).setCell (p := ⟨g, 1, none⟩) hB _

/-- What the document's functions leave: a set, or that there is none. -/
def OutG (p : Int → Prop) (m : Nat) (w : World) (e : Ending) (w' : World) : Prop :=
  ∃ (s : List Rg) (k : Nat) (A : Option Addr) (c : Nat), e = .returned (.agg #[.slice A k c, .bool true]) ∧ s.length = k ∧ k ≤ m ∧ Shp A k c ∧ IsSet s p ∧ Reads w' w'.heap.size 2 A k (rcells s) ∧ Below w.heap.size w w'
def OutGno (w : World) (e : Ending) (w' : World) : Prop := e = .returned (.agg #[.slice none 0 0, .bool false]) ∧ Below w.heap.size w w'

theorem made_bools (n : Nat) : (madeCells (Value.bool false).cells (n * 1)).toList = bcells (List.replicate n false) := by
  rw [Nat.mul_one, show (Value.bool false).cells = #[.bool false] from rfl, toList_madeCells_one]
  simp [bcells]

theorem refNot_bad (l : List Rg) (n : Nat) (hl : l.length = n) (A : Option Addr) (c : Nat) (w : World) (hR : Reads w w.heap.size 2 A n (rcells l)) (hn : n ≤ 4000) (hg : goodB l = false) :
    Calls Try.prog 27 #[.slice A n c] w (OutGno w) := by
  have HR := Lib.hid (reads_on hR (below_new w (.cells #[.slice none 0 0, .bool false] 56)))
  have HL := Lib.hid hl
  have HRes := Lib.hid (res_new w)
  clear hR hl
  go_enter Try.func27, Try.ntmps27
  go_wp2_with fail
  refine (refGood_no HL.out HR.out (by omega) hg).mono ?_
  rintro e w1 ⟨rfl, g1⟩
  obtain ⟨r0, r1, f0, f1⟩ := HRes.out.on (by simp) g1
  have b1 := (below_new w (.cells #[.slice none 0 0, .bool false] 56)).trans (g1.mono (by simp))
  have HRes1 := Lib.hid (HRes.out.on (by simp) g1)
  clear g1
  go_wp2_with fail
  obtain ⟨k0, k1⟩ := res_set HRes1.out (.slice none 0 0) (.bool false)
  have b2 := res_below b1 HRes1.out (.slice none 0 0) (.bool false) (Nat.le_refl _)
  generalize (w1.setCell ⟨w.heap.size, 0, none⟩ (.slice none 0 0)).setCell ⟨w.heap.size, 1, none⟩ (.bool false) = w2 at *
  exact bodyPost_ret (v := .agg #[.slice none 0 0, .bool false]) (by simp [results, Try.results27, go_sem, k0, k1]) rfl ⟨rfl, b2⟩

theorem stL_len : ∀ (l : List Rg) (acc : List Int), (stL acc l).length ≤ acc.length + 2 * l.length
  | [], acc => by simp [stL]
  | r :: l, acc => by
    have h := stL_len l (st1 acc r)
    have h1 : (st1 acc r).length ≤ acc.length + 2 := by
      unfold st1
      have a := putL_len acc r.1
      have b := putL_len (putL acc r.1) (nextN r.2)
      split <;> omega
    simp only [stL, List.length_cons]
    omega
theorem st_all_from : ∀ (q p : List Rg) (acc : List Int), St acc p → (∀ r ∈ q, Ok r) → St (stL acc q) (p ++ q)
  | [], p, acc, h, _ => by rw [List.append_nil]; exact h
  | r :: q, p, acc, h, ho => by
    have h1 := st_all_from q (p ++ [r]) (st1 acc r) (st_step h (ho r (by simp))) (fun x hx => ho x (by simp [hx]))
    rw [List.append_assoc] at h1
    exact h1
theorem st_all (q : List Rg) (h : ∀ r ∈ q, Ok r) : St (stL [0] q) q := st_all_from q [] [0] st_start h

/-- Ahead of each round: the first j stretches are marked. -/
def MkRel (at_ : List Int) (f : Int → Bool) (n base g : Nat) (w1 : World) (vi : Value) (wr : World) : Prop :=
  ∃ (j : Nat) (inl : List Bool), j ≤ n ∧ vi = .int .i64 j ∧ Hid (inl.length = n) ∧ Hid (∀ i (h : i < inl.length) (h2 : i < at_.length), i < j → inl[i] = f at_[i]) ∧ wr.ownsRow base 4 1 (.slice (some ⟨g, 0, none⟩) n n) n (bcells inl) ∧ Below base w1 wr
theorem mark_step {at_ : List Int} {f : Int → Bool} {inl : List Bool} {j : Nat} (h : ∀ i (h : i < inl.length) (h2 : i < at_.length), i < j → inl[i] = f at_[i]) (hj : j < at_.length) :
    ∀ i (h : i < (inl.set j (f at_[j])).length) (h2 : i < at_.length), i < j + 1 → (inl.set j (f at_[j]))[i] = f at_[i] := by
  intro i h1 h2 hi
  rw [List.getElem_set]
  split
  · rename_i e; subst e; rfl
  · exact h i (by simpa using h1) h2 (by omega)
theorem bcells_set (l : List Bool) (j : Nat) (b : Bool) : (bcells l).set j (.bool b) = bcells (l.set j b) := by simp [bcells, List.map_set]

end Go.Proofs.Ythaageiflimnnaa
/- What the document's Not returns. -/
namespace Go.Proofs.Ythaageiflimnnaa
open Go.RowKit Go.BigFrame
set_option linter.unusedVariables false
set_option linter.unusedSimpArgs false

theorem rcells_int : ∀ (s : List Rg) (j : Nat) (u : Value), (rcells s)[j]? = some u → ∃ x : Int, u = .int .i64 x
  | [], j, u, h => by simp [rcells] at h
  | r :: s, 0, u, h => by simp [rcells, rcell] at h; exact ⟨_, h.symm⟩
  | r :: s, 1, u, h => by simp [rcells, rcell] at h; exact ⟨_, h.symm⟩
  | r :: s, j + 2, u, h => rcells_int s j u (by simpa [rcells, rcell] using h)
theorem reads_res {g B k : Nat} {W : World} {A : Option Addr} {s : List Rg} (h : Res g W) (hR : Reads W B 2 A k (rcells s)) (x y : Value) : Reads ((W.setCell ⟨g, 0, none⟩ x).setCell ⟨g, 1, none⟩ y) B 2 A k (rcells s) := by
  refine ⟨hR.1, fun hn => ?_⟩
  obtain ⟨b, o, rfl, hb, hc⟩ := hR.2 hn
  refine ⟨b, o, rfl, hb, fun j u hj => ?_⟩
  have hcj := hc j u hj
  obtain ⟨v, rfl⟩ := rcells_int s j u hj
  have n0 : (⟨b, o + j, none⟩ : Addr) ≠ ⟨g, 0, none⟩ := fun e => by rw [e, h.1] at hcj; cases hcj
  have n1 : (⟨b, o + j, none⟩ : Addr) ≠ ⟨g, 1, none⟩ := fun e => by rw [e, h.2.1] at hcj; cases hcj
  rw [World.cell?_setCell_other (h := by first | exact n1 | exact n1.symm), World.cell?_setCell_other (h := by first | exact n0 | exact n0.symm)]
  exact hcj

set_option maxRecDepth 100000 in
set_option maxHeartbeats 4000000 in
theorem refNot_good (l : List Rg) (n : Nat) (hl : l.length = n) (A : Option Addr) (c : Nat) (w : World) (hR : Reads w w.heap.size 2 A n (rcells l)) (hn : n ≤ 2000) (hg : Gd (-1) l) :
    Calls Try.prog 27 #[.slice A n c] w (OutG (fun v => ¬ In l v) 10000 w) := by
  obtain ⟨i0, hi0, hz0, hz1, hz2⟩ := info_parts info4
  have HR := Lib.hid (reads_on hR (below_new w (.cells #[.slice none 0 0, .bool false] 56)))
  have HL := Lib.hid hl
  have HG := Lib.hid hg
  have HRes := Lib.hid (res_new w)
  have HSt : Hid (∀ q : List Rg, (∀ r ∈ q, Ok r) → St (stL [0] q) q) := Lib.hid (st_all)
  clear hR hl hg
  go_enter Try.func27, Try.ntmps27
  go_wp2_with fail
  refine (refGood_yes HL.out HR.out (by omega) HG.out).mono ?_
  rintro e w1 ⟨rfl, g1⟩
  have HRes1 := Lib.hid (HRes.out.on (by simp) g1)
  have HR1 := Lib.hid (reads_on HR.out g1)
  have b1 := (below_new w (.cells #[.slice none 0 0, .bool false] 56)).trans (g1.mono (by simp))
  have hlt1 : w.heap.size < w1.heap.size := by have := g1.size; simp at this; omega
  clear g1 HRes HR
  go_wp2_with fail
  refine (starts_any l n HL.out A c _ HR1.out (by omega)).mono ?_
  rintro e w2 ⟨A2, c2, z, rfl, h2, s2, r2, g2⟩
  have hz : z ≤ 4001 := by have := stL_len l [0]; rw [h2, HL.out] at this; simp at this; omega
  have H2 := Lib.hid h2
  have R2 := Lib.hid r2
  have HR2 := Lib.hid (reads_on HR1.out g2)
  have HRes2 := Lib.hid (HRes1.out.on hlt1 g2)
  have b2 := b1.trans (g2.mono b1.size)
  have hlt2 : w.heap.size < w2.heap.size := by have := g2.size; omega
  have HSt1 := Lib.hid (HSt.out l (fun r hr => (HG.out.lo r hr).2))
  have HPl : Hid (Places (stL [0] l) (fun v => ¬ In l v)) := Lib.hid (places_of HSt1.out (fun i hi v hv h1 h2' => not_congr (st_const HSt1.out (fun r hr => hr) (fun r hr => (HG.out.lo r hr).2) i hi v hv h1 h2')))
  have HSc : Hid (∀ i (h : i < (stL [0] l).length), (!hasB l (stL [0] l)[i]) = true ↔ ¬ In l (stL [0] l)[i]) := Lib.hid (fun i h => by
    unfold hasB
    rw [(goodB_iff l).2 HG.out, (isB_iff _).2 (HSt1.out.2.2.1 _ (List.getElem_mem h)), Bool.true_and, Bool.true_and]
    rw [← inB_iff, Bool.not_eq_true'] ; simp)
  clear h2 s2 r2 g2 HR1 HRes1 b1 HSt HSt1
  generalize stL [0] l = ats at *
  go_wp2_with (at_make; refine wpList_make_full _ rfl _ _ 63 rfl w2.heap.size 4 i0 _ 1 Try.underlying63 hi0 hz0 hz1 .i64 .i64 z z z rfl rfl rfl rfl ?k1 ?k2 (Nat.le_refl _) ?_)
  case k1 => rw [hz2]; omega
  case k2 => unfold maxLen; omega
  first | (intro w3 hown3 hgrow3) | (rename_i w3 hown3 hgrow3)
  have HW : Hid (w3.ownsRow w2.heap.size 4 1 (.slice (some ⟨w2.heap.size, 0, none⟩) z z) z (bcells (List.replicate z false))) := Lib.hid (by
    have e : (madeCells #[Value.bool false] z).toList = bcells (List.replicate z false) := by rw [toList_madeCells_one]; simp [bcells]
    rw [← e]; exact hown3)
  have b3 : Below w2.heap.size w2 w3 := (Below.refl _ _).grown hgrow3 (Nat.le_refl _) (fun k hk => by cases hk)
  clear hown3 hgrow3
  go_wp2_with fail
  go_loopw [5] (fun i wr => MkRel ats (fun x => !hasB l x) z w2.heap.size w2.heap.size w2 i wr) (fun i _ => z - (intOf i).toNat)
  case atStart => exact ⟨0, List.replicate z false, Nat.zero_le _, rfl, Lib.hid (by simp), Lib.hid (fun i _ _ h => absurd h (Nat.not_lt_zero _)), HW.out, b3⟩
  case round =>
    obtain ⟨j, inl, hj, rfl, HLi, HM, hown, hb⟩ := hrel
    have hsz := hb.size
    by_cases hlt : j < z
    · have jl : j < ats.length := by rw [H2.out]; exact hlt
      have HX := Lib.hid (mark_step (f := fun x => !hasB l x) HM.out jl)
      obtain ⟨ba, oa, rfl, hba, pa⟩ := (R2.out.below hb).int jl
      have hcx := Lib.hid (fun W h => refHas_n l n HL.out A c ats[j] W h (by omega))
      have HLn : Hid ((inl.set j (!hasB l ats[j])).length = z) := Lib.hid (by rw [List.length_set]; exact HLi.out)
      have HRj := Lib.hid ((HR2.out.below hb).more hsz)
      clear HM
      generalize ats[j] = aj at *
      go_wp2_with fail
      refine (hcx.out _ HRj.out).mono ?_
      rintro e w5 ⟨rfl, g5⟩
      have b5 := hb.trans (g5.mono hsz)
      have own5 := own_below hown g5
      clear g5 hcx HRj hown hb pa
      generalize hasB l aj = bj at *
      have f1 := own5.frozenAt j
      have hst := (own5.stored j (.bool (!bj))).1
      rw [bcells_set] at hst
      have b6 : Below w2.heap.size w2 (w5.setCell ⟨w2.heap.size, j, none⟩ (.bool (!bj))) := b5.setCell (p := ⟨w2.heap.size, j, none⟩) (Nat.le_refl _) _
      have HO6 := Lib.hid hst
      obtain ⟨u9, hu9⟩ : ∃ u, w5.cell? ⟨w2.heap.size, j, none⟩ = some u := by
        have q := (own5.cellAt j (by omega))
        rw [show (bcells inl)[j]? = some (.bool (inl[j]'(by rw [HLi.out]; exact hlt))) by unfold bcells; rw [List.getElem?_map, List.getElem?_eq_getElem (by rw [HLi.out]; exact hlt)]; rfl] at q
        exact ⟨_, q⟩
      clear hst own5
      go_wp2_with fail
      go_roundw
      case rel => exact ⟨j + 1, inl.set j (!bj), by omega, by go_num, HLn, HX, HO6.out, b6⟩
      case measure => simp [intOf]; omega
    · obtain rfl : j = z := by omega
      have HI : Hid (∀ i (h : i < inl.length) (h2 : i < ats.length), inl[i] = true ↔ ¬ In l ats[i]) := Lib.hid (fun i h h2 => by
        have hm := HM.out i h h2 (by rw [← H2.out]; exact h2)
        rw [hm]; exact HSc.out i h2)
      have HRa := Lib.hid ((R2.out.below hb).more hsz)
      have HRb := Lib.hid (Reads.of_own hown)
      have HRes3 := Lib.hid (HRes2.out.on hlt2 hb)
      have b4 := b2.trans (hb.mono b2.size)
      clear hown HM hb HW b3 HRes2 b2
      go_wp2_with fail
      refine (build_any ats inl _ _ H2.out HLi.out _ _ _ _ _ HPl.out HI.out HRa.out HRb.out (by omega)).mono ?_
      rintro e w6 ⟨s, k, A6, c6, rfl, hk6, hkn, s6, i6, r6, g6⟩
      have HRes6 := Lib.hid (HRes3.out.on (by omega) g6)
      have b6 := b4.trans (g6.mono b4.size)
      have hlt6 := g6.size
      have R6 := Lib.hid r6
      have S6 := Lib.hid s6
      have I6 := Lib.hid i6
      have K6 := Lib.hid hk6
      obtain ⟨r0, r1, f0, f1⟩ := HRes6.out
      clear r6 s6 i6 hk6 HRes3 HI HPl HSc g6 b4
      go_wp2_with fail
      obtain ⟨k0, k1⟩ := res_set HRes6.out (.slice A6 k c6) (.bool true)
      have b7 := res_below b6 HRes6.out (.slice A6 k c6) (.bool true) (Nat.le_refl _)
      have r7 := Lib.hid (reads_res HRes6.out R6.out (.slice A6 k c6) (.bool true))
      have hs7 : ((w6.setCell ⟨w.heap.size, 0, none⟩ (.slice A6 k c6)).setCell ⟨w.heap.size, 1, none⟩ (.bool true)).heap.size = w6.heap.size := by simp
      rw [← hs7] at r7
      generalize (w6.setCell ⟨w.heap.size, 0, none⟩ (.slice A6 k c6)).setCell ⟨w.heap.size, 1, none⟩ (.bool true) = w7 at *
      exact bodyPost_ret (v := .agg #[.slice A6 k c6, .bool true]) (by simp [results, Try.results27, go_sem, k0, k1]) rfl ⟨s, k, A6, c6, rfl, K6.out, by omega, S6.out, I6.out, r7.out, b7⟩
end Go.Proofs.Ythaageiflimnnaa
/- What the document's Starts returns, of two sets. -/
namespace Go.Proofs.Ythaageiflimnnaa
open Go.RowKit Go.BigFrame
set_option linter.unusedVariables false
set_option linter.unusedSimpArgs false

set_option maxHeartbeats 1000000 in
theorem starts_two (a b : List Rg) (n m : Nat) (ha : a.length = n) (hb : b.length = m) (A B : Option Addr) (c d g k : Nat) (w : World) (hA : A = none → c = 0) (hB : B = none → d = 0)
    (g0 : w.cell? ⟨g, 0, none⟩ = some (.slice A n c)) (g1 : w.cell? ⟨g, 1, none⟩ = some (.slice B m d)) (hRa : Reads w w.heap.size 2 A n (rcells a)) (hRb : Reads w w.heap.size 2 B m (rcells b)) (hn : n ≤ 2000) (hm : m ≤ 2000) :
    Calls Try.prog 32 #[.slice (some ⟨g, 0, none⟩) 2 k] w (OutI (stL [0] (a ++ b)) w) := by
  obtain ⟨i0, hi0, hz0, hz1, hz2⟩ := info_parts info41
  have HRa := Lib.hid hRa
  have HRb := Lib.hid hRb
  have HA := Lib.hid hA
  have HB := Lib.hid hB
  have HLL : Hid ((a ++ b).length = n + m) := Lib.hid (by simp [ha, hb])
  have G1 := Lib.hid g1
  clear hRa hRb hA hB ha hb
  go_enter Try.func32, Try.ntmps32
  go_wp2_with fail
  refine wp_loop_rounds 3 ?_
  rw [rounds_succ]
  go_wp2_with (at_builtin; refine wpList_append_named rfl _ _ 47 48 rfl w.heap.size 50 50 i0 _ 2 16 Try.underlying47 Try.underlying48 hi0 hz0 hz1 hz2 rfl (by decide) _ _ _ rfl (World.ownsRow_nil _ _ _ _) A n c w.heap.size (rcells a) rfl HA.out HRa.out (rcells_one a) ?c3 ?c4 ?c5 ?_)
  case c3 => unfold maxLen; omega
  case c4 => omega
  case c5 => exact Nat.le_refl _
  intro A2 c2 w2 hown2 hn2 hgrow2
  have b2 : Below w.heap.size w w2 := (Below.refl _ _).grown hgrow2 (Nat.le_refl _) (fun k hk => by cases hk)
  have g1'' := kept_cell b2 G1.out
  have hs2 := b2.size
  have HRb2 := Lib.hid ((HRb.out.below b2))
  try simp only [Nat.zero_add, List.nil_append] at hown2
  try simp only [Nat.zero_add]
  clear g0 g1 G1 hgrow2 HRa HRb
  go_wp2_with fail
  rw [rounds_succ]
  go_wp2_with (at_builtin; refine wpList_append_named rfl _ _ 47 48 rfl w.heap.size 50 50 i0 _ 2 16 Try.underlying47 Try.underlying48 hi0 hz0 hz1 hz2 rfl (by decide) _ _ _ rfl hown2 B m d w.heap.size (rcells b) rfl HB.out HRb2.out (rcells_one b) ?c3 ?c4 ?c5 ?_)
  case c3 => unfold maxLen; omega
  case c4 => omega
  case c5 => exact hs2
  intro A3 c3 w3 hown3 hn3 hgrow3
  have b3 : Below w.heap.size w w3 := below_grown b2 hs2 hown2 hgrow3
  have HO3 : Hid (Reads w3 w3.heap.size 2 A3 (n + m) (rcells (a ++ b))) := Lib.hid (by rw [rcells_app]; exact Reads.of_own hown3)
  clear hown3 hgrow3 hown2
  go_wp2_with fail
  rw [rounds_succ]
  go_wp2_with fail
  refine (starts_any (a ++ b) (n + m) HLL.out A3 c3 _ HO3.out (by omega)).mono ?_
  rintro e w4 ⟨A4, c4, z, rfl, h4, s4, r4, g4⟩
  have H4 := Lib.hid (⟨h4, s4, r4, b3.trans (g4.mono b3.size)⟩ : (stL [0] (a ++ b)).length = z ∧ Shp A4 z c4 ∧ Reads w4 w4.heap.size 1 A4 z (icells (stL [0] (a ++ b))) ∧ Below w.heap.size w w4)
  clear h4 s4 r4 g4
  go_wp2_with fail
  go_ret
  exact ⟨A4, c4, z, rfl, H4.out⟩
end Go.Proofs.Ythaageiflimnnaa
/- What the document's two returns: of two sets, what is in one, or in both. -/
namespace Go.Proofs.Ythaageiflimnnaa
open Go.RowKit Go.BigFrame
set_option linter.unusedVariables false
set_option linter.unusedSimpArgs false

def tw (both x y : Bool) : Bool := x && y || !both && (x || y)
theorem tw000 : tw false false false = false := rfl
theorem tw001 : tw false false true = true := rfl
theorem tw010 : tw false true false = true := rfl
theorem tw011 : tw false true true = true := rfl
theorem tw100 : tw true false false = false := rfl
theorem tw101 : tw true false true = false := rfl
theorem tw110 : tw true true false = false := rfl
theorem tw111 : tw true true true = true := rfl
def twP (both : Bool) (x y : Prop) : Prop := if both = true then x ∧ y else x ∨ y
theorem tw_iff (both x y : Bool) (p q : Prop) (hx : x = true ↔ p) (hy : y = true ↔ q) : tw both x y = true ↔ twP both p q := by
  unfold twP tw
  rw [← hx, ← hy]
  cases both <;> cases x <;> cases y <;> simp
theorem twP_congr (both : Bool) {p q p' q' : Prop} (hp : p ↔ p') (hq : q ↔ q') : twP both p q ↔ twP both p' q' := by
  unfold twP
  rw [hp, hq]
theorem hasB_in {l : List Rg} (h : Gd (-1) l) {v : Int} (hv : Sc v) : hasB l v = true ↔ In l v := by
  unfold hasB
  rw [(goodB_iff l).2 h, (isB_iff _).2 hv, Bool.true_and, Bool.true_and, inB_iff]

theorem two_bad (a b : List Rg) (n m : Nat) (ha : a.length = n) (hb : b.length = m) (A B : Option Addr) (c d : Nat) (both : Bool) (w : World)
    (hRa : Reads w w.heap.size 2 A n (rcells a)) (hRb : Reads w w.heap.size 2 B m (rcells b)) (hn : n ≤ 2000) (hm : m ≤ 2000) (hg : (goodB a && goodB b) = false) :
    Calls Try.prog 44 #[.slice A n c, .slice B m d, .bool both] w (OutGno w) := by
  have HRa := Lib.hid (reads_on hRa (below_new w (.cells #[.slice none 0 0, .bool false] 56)))
  have HRb := Lib.hid (reads_on hRb (below_new w (.cells #[.slice none 0 0, .bool false] 56)))
  have H1 := Lib.hid (fun W h => refGood_n n a ha A c W h (by omega))
  have H2 := Lib.hid (fun W h => refGood_n m b hb B d W h (by omega))
  have HRes := Lib.hid (res_new w)
  clear hRa hRb ha hb
  cases ga : goodB a
  · rw [ga] at H1
    clear hg
    go_enter Try.func44, Try.ntmps44
    go_wp2_with fail
    refine (H1.out _ HRa.out).mono ?_
    rintro e w1 ⟨rfl, g1⟩
    have b1 := (below_new w (.cells #[.slice none 0 0, .bool false] 56)).trans (g1.mono (by simp))
    have HRes1 := Lib.hid (HRes.out.on (by simp) g1)
    obtain ⟨r0, r1, f0, f1⟩ := HRes1.out
    clear g1
    go_wp2_with fail
    obtain ⟨k0, k1⟩ := res_set HRes1.out (.slice none 0 0) (.bool false)
    have b2 := res_below b1 HRes1.out (.slice none 0 0) (.bool false) (Nat.le_refl _)
    generalize (w1.setCell ⟨w.heap.size, 0, none⟩ (.slice none 0 0)).setCell ⟨w.heap.size, 1, none⟩ (.bool false) = w2 at *
    exact bodyPost_ret (v := .agg #[.slice none 0 0, .bool false]) (by simp [results, Try.results44, go_sem, k0, k1]) rfl ⟨rfl, b2⟩
  · rw [ga, Bool.true_and] at hg
    rw [ga] at H1
    rw [hg] at H2
    go_enter Try.func44, Try.ntmps44
    go_wp2_with fail
    refine (H1.out _ HRa.out).mono ?_
    rintro e w0 ⟨rfl, g0⟩
    have b0 := (below_new w (.cells #[.slice none 0 0, .bool false] 56)).trans (g0.mono (by simp))
    have HRes0 := Lib.hid (HRes.out.on (by simp) g0)
    have HRb0 := Lib.hid (reads_on HRb.out g0)
    have hlt0 : w.heap.size < w0.heap.size := by have := g0.size; simp at this; omega
    clear g0 HRes HRb
    go_wp2_with fail
    refine (H2.out _ HRb0.out).mono ?_
    rintro e w1 ⟨rfl, g1⟩
    have b1 := b0.trans (g1.mono b0.size)
    have HRes1 := Lib.hid (HRes0.out.on hlt0 g1)
    obtain ⟨r0, r1, f0, f1⟩ := HRes1.out
    clear g1
    go_wp2_with fail
    obtain ⟨k0, k1⟩ := res_set HRes1.out (.slice none 0 0) (.bool false)
    have b2 := res_below b1 HRes1.out (.slice none 0 0) (.bool false) (Nat.le_refl _)
    generalize (w1.setCell ⟨w.heap.size, 0, none⟩ (.slice none 0 0)).setCell ⟨w.heap.size, 1, none⟩ (.bool false) = w2 at *
    exact bodyPost_ret (v := .agg #[.slice none 0 0, .bool false]) (by simp [results, Try.results44, go_sem, k0, k1]) rfl ⟨rfl, b2⟩

set_option maxRecDepth 100000 in
set_option maxHeartbeats 4000000 in
theorem two_good (a b : List Rg) (n m : Nat) (ha : a.length = n) (hb : b.length = m) (A B : Option Addr) (c d : Nat) (both : Bool) (w : World) (hA : A = none → c = 0) (hB : B = none → d = 0)
    (hRa : Reads w w.heap.size 2 A n (rcells a)) (hRb : Reads w w.heap.size 2 B m (rcells b)) (hn : n ≤ 2000) (hm : m ≤ 2000) (hga : Gd (-1) a) (hgb : Gd (-1) b) :
    Calls Try.prog 44 #[.slice A n c, .slice B m d, .bool both] w (OutG (fun v => twP both (In a v) (In b v)) 10000 w) := by
  obtain ⟨i0, hi0, hz0, hz1, hz2⟩ := info_parts info4
  have HRa := Lib.hid (reads_on hRa (below_new w (.cells #[.slice none 0 0, .bool false] 56)))
  have HRb := Lib.hid (reads_on hRb (below_new w (.cells #[.slice none 0 0, .bool false] 56)))
  have HLa := Lib.hid ha
  have HLb := Lib.hid hb
  have HGa := Lib.hid hga
  have HGb := Lib.hid hgb
  have HA := Lib.hid hA
  have HB := Lib.hid hB
  have HRes := Lib.hid (res_new w)
  have HLL : Hid ((a ++ b).length = n + m) := Lib.hid (by simp [ha, hb])
  have HSt1 : Hid (St (stL [0] (a ++ b)) (a ++ b)) := Lib.hid (st_all (a ++ b) (fun r hr => by
    rcases List.mem_append.1 hr with h | h
    · exact (hga.lo r h).2
    · exact (hgb.lo r h).2))
  clear hRa hRb ha hb hga hgb hA hB
  have HPl : Hid (Places (stL [0] (a ++ b)) (fun v => twP both (In a v) (In b v))) := Lib.hid (places_of HSt1.out (fun i hi v hv h1 h2' => twP_congr both
    (st_const HSt1.out (fun r hr => List.mem_append_left _ hr) (fun r hr => (HGa.out.lo r hr).2) i hi v hv h1 h2')
    (st_const HSt1.out (fun r hr => List.mem_append_right _ hr) (fun r hr => (HGb.out.lo r hr).2) i hi v hv h1 h2')))
  have HSc : Hid (∀ i (h : i < (stL [0] (a ++ b)).length), tw both (hasB a (stL [0] (a ++ b))[i]) (hasB b (stL [0] (a ++ b))[i]) = true ↔ twP both (In a (stL [0] (a ++ b))[i]) (In b (stL [0] (a ++ b))[i])) := Lib.hid (fun i h =>
    tw_iff both _ _ _ _ (hasB_in HGa.out (HSt1.out.2.2.1 _ (List.getElem_mem h))) (hasB_in HGb.out (HSt1.out.2.2.1 _ (List.getElem_mem h))))
  have HSL : Hid ((stL [0] (a ++ b)).length ≤ 1 + 2 * (n + m)) := Lib.hid (by have := stL_len (a ++ b) [0]; rw [HLL.out] at this; simpa using this)
  go_enter Try.func44, Try.ntmps44
  go_wp2_with fail
  refine (refGood_yes HLa.out HRa.out (by omega) HGa.out).mono ?_
  rintro e w0 ⟨rfl, g0⟩
  have b0 := (below_new w (.cells #[.slice none 0 0, .bool false] 56)).trans (g0.mono (by simp))
  have HRes0 := Lib.hid (HRes.out.on (by simp) g0)
  have HRa0 := Lib.hid (reads_on HRa.out g0)
  have HRb0 := Lib.hid (reads_on HRb.out g0)
  have hlt0 : w.heap.size < w0.heap.size := by have := g0.size; simp at this; omega
  clear g0 HRes HRb HRa
  go_wp2_with fail
  refine (refGood_yes HLb.out HRb0.out (by omega) HGb.out).mono ?_
  rintro e w1 ⟨rfl, g1⟩
  have b1 := b0.trans (g1.mono b0.size)
  have HRes1 := Lib.hid (HRes0.out.on hlt0 g1)
  have HRa1 := Lib.hid (reads_on HRa0.out g1)
  have HRb1 := Lib.hid (reads_on HRb0.out g1)
  have hlt1 : w.heap.size < w1.heap.size := by have := g1.size; omega
  clear g1 HRes0 HRb0 HRa0 b0
  go_wp2_with fail
  have bn := below_new w1 (.cells #[.slice A n c, .slice B m d] 48)
  refine (starts_two a b n m HLa.out HLb.out A B c d w1.heap.size 2 _ HA.out HB.out (by simp) (by simp) (reads_on HRa1.out bn) (reads_on HRb1.out bn) (by omega) (by omega)).mono ?_
  rintro e w2 ⟨A2, c2, z, rfl, h2, s2, r2, g2⟩
  have g2' : Below w1.heap.size w1 w2 := bn.trans (g2.mono (by simp))
  have hz : z ≤ 8001 := by have := HSL.out; rw [h2] at this; omega
  have H2 := Lib.hid h2
  have R2 := Lib.hid r2
  have HRa2 := Lib.hid (reads_on HRa1.out g2')
  have HRb2 := Lib.hid (reads_on HRb1.out g2')
  have HRes2 := Lib.hid (HRes1.out.on hlt1 g2')
  have b2 := b1.trans (g2'.mono b1.size)
  have hlt2 : w.heap.size < w2.heap.size := by have := g2'.size; omega
  clear h2 s2 r2 g2 g2' bn HRa1 HRb1 HRes1 b1 HSt1 HSL HLL
  generalize stL [0] (a ++ b) = ats at *
  go_wp2_with (at_make; refine wpList_make_full _ rfl _ _ 63 rfl w2.heap.size 4 i0 _ 1 Try.underlying63 hi0 hz0 hz1 .i64 .i64 z z z rfl rfl rfl rfl ?k1 ?k2 (Nat.le_refl _) ?_)
  case k1 => rw [hz2]; omega
  case k2 => unfold maxLen; omega
  first | (intro w3 hown3 hgrow3) | (rename_i w3 hown3 hgrow3)
  have HW : Hid (w3.ownsRow w2.heap.size 4 1 (.slice (some ⟨w2.heap.size, 0, none⟩) z z) z (bcells (List.replicate z false))) := Lib.hid (by
    have e : (madeCells #[Value.bool false] z).toList = bcells (List.replicate z false) := by rw [toList_madeCells_one]; simp [bcells]
    rw [← e]; exact hown3)
  have b3 : Below w2.heap.size w2 w3 := (Below.refl _ _).grown hgrow3 (Nat.le_refl _) (fun k hk => by cases hk)
  clear hown3 hgrow3
  go_wp2_with fail
  go_loopw [9] (fun i wr => MkRel ats (fun x => tw both (hasB a x) (hasB b x)) z w2.heap.size w2.heap.size w2 i wr) (fun i _ => z - (intOf i).toNat)
  case atStart => exact ⟨0, List.replicate z false, Nat.zero_le _, rfl, Lib.hid (by simp), Lib.hid (fun i _ _ h => absurd h (Nat.not_lt_zero _)), HW.out, b3⟩
  case round =>
    obtain ⟨j, inl, hj, rfl, HLi, HM, hown, hb⟩ := hrel
    have hsz := hb.size
    by_cases hlt : j < z
    · have jl : j < ats.length := by rw [H2.out]; exact hlt
      have HX := Lib.hid (mark_step (f := fun x => tw both (hasB a x) (hasB b x)) HM.out jl)
      obtain ⟨ba, oa, rfl, hba, pa⟩ := (R2.out.below hb).int jl
      have HLn : Hid ((inl.set j (tw both (hasB a ats[j]) (hasB b ats[j]))).length = z) := Lib.hid (by rw [List.length_set]; exact HLi.out)
      have hca : Hid (∀ W : World, W.cell? ⟨ba, oa + j, none⟩ = some (.int .i64 ats[j]) ∧ Below wr.heap.size wr W → Calls Try.prog 25 #[.slice A n c, .int .i64 ats[j]] W fun e w' => e = .returned (.bool (hasB a ats[j])) ∧ (w'.cell? ⟨ba, oa + j, none⟩ = some (.int .i64 ats[j]) ∧ Below wr.heap.size wr w')) := Lib.hid (fun W hW =>
        (refHas_n a n HLa.out A c ats[j] W (reads_on ((HRa2.out.below hb).more hsz) hW.2) (by omega)).mono (fun e w' h => ⟨h.1, kept_cell h.2 hW.1, hW.2.trans (h.2.mono hW.2.size)⟩))
      have hcb : Hid (∀ W : World, W.cell? ⟨ba, oa + j, none⟩ = some (.int .i64 ats[j]) ∧ Below wr.heap.size wr W → Calls Try.prog 25 #[.slice B m d, .int .i64 ats[j]] W fun e w' => e = .returned (.bool (hasB b ats[j])) ∧ (w'.cell? ⟨ba, oa + j, none⟩ = some (.int .i64 ats[j]) ∧ Below wr.heap.size wr w')) := Lib.hid (fun W hW =>
        (refHas_n b m HLb.out B d ats[j] W (reads_on ((HRb2.out.below hb).more hsz) hW.2) (by omega)).mono (fun e w' h => ⟨h.1, kept_cell h.2 hW.1, hW.2.trans (h.2.mono hW.2.size)⟩))
      clear HM
      generalize hasB a ats[j] = xa at *
      generalize hasB b ats[j] = xb at *
      generalize ats[j] = aj at *
      have bR := Below.refl wr.heap.size wr
      go_wp2_with fail
      go_region_held3 (fun w' => w'.cell? ⟨ba, oa + j, none⟩ = some (.int .i64 aj) ∧ Below wr.heap.size wr w') (first | assumption | exact ⟨pa, bR⟩ | exact ⟨pa, Below.drew bR⟩ | exact ⟨by assumption, by assumption⟩ | exact ⟨by assumption, Below.drew (by assumption)⟩) (first | (go_at_call 25; with_reducible refine Calls.mono (hca.out _ ?_) ?_; (first | assumption | exact ⟨pa, bR⟩ | exact ⟨pa, Below.drew bR⟩ | exact ⟨by assumption, by assumption⟩ | exact ⟨by assumption, Below.drew (by assumption)⟩); rintro e w9 ⟨rfl, q9, b9⟩) | (go_at_call 25; with_reducible refine Calls.mono (hcb.out _ ?_) ?_; (first | assumption | exact ⟨pa, bR⟩ | exact ⟨pa, Below.drew bR⟩ | exact ⟨by assumption, by assumption⟩ | exact ⟨by assumption, Below.drew (by assumption)⟩); rintro e w8 ⟨rfl, q8, b8⟩))
      have b5 := hb.trans (b8.mono hsz)
      have own5 := own_below hown b8
      clear hca hcb hown hb pa bR b8 q8 q9 b9
      rename_i hHeld
      clear hHeld
      have f1 := own5.frozenAt j
      have hst := (own5.stored j (.bool (tw both xa xb))).1
      rw [bcells_set] at hst
      have b6 : Below w2.heap.size w2 (w8.setCell ⟨w2.heap.size, j, none⟩ (.bool (tw both xa xb))) := b5.setCell (p := ⟨w2.heap.size, j, none⟩) (Nat.le_refl _) _
      have HO6 := Lib.hid hst
      obtain ⟨u9, hu9⟩ : ∃ u, w8.cell? ⟨w2.heap.size, j, none⟩ = some u := by
        have q := (own5.cellAt j (by omega))
        rw [show (bcells inl)[j]? = some (.bool (inl[j]'(by rw [HLi.out]; exact hlt))) by unfold bcells; rw [List.getElem?_map, List.getElem?_eq_getElem (by rw [HLi.out]; exact hlt)]; rfl] at q
        exact ⟨_, q⟩
      clear hst own5
      cases both <;> cases xa <;> cases xb <;> simp only [tw000, tw001, tw010, tw011, tw100, tw101, tw110, tw111] at b6 HO6 HLn HX
      all_goals
        go_wp2_with fail
        go_roundw
        case rel => exact ⟨j + 1, _, by omega, by go_num, HLn, HX, HO6.out, b6⟩
        case measure => simp [intOf]; omega
    · obtain rfl : j = z := by omega
      have HI : Hid (∀ i (h : i < inl.length) (h2 : i < ats.length), inl[i] = true ↔ twP both (In a ats[i]) (In b ats[i])) := Lib.hid (fun i h h2 => by
        have hm := HM.out i h h2 (by rw [← H2.out]; exact h2)
        rw [hm]; exact HSc.out i h2)
      have HRa := Lib.hid ((R2.out.below hb).more hsz)
      have HRb := Lib.hid (Reads.of_own hown)
      have HRes3 := Lib.hid (HRes2.out.on hlt2 hb)
      have b4 := b2.trans (hb.mono b2.size)
      clear hown HM hb HW b3 HRes2 b2
      go_wp2_with fail
      refine (build_any ats inl _ _ H2.out HLi.out _ _ _ _ _ HPl.out HI.out HRa.out HRb.out (by omega)).mono ?_
      rintro e w6 ⟨s, k, A6, c6, rfl, hk6, hkn, s6, i6, r6, g6⟩
      have HRes6 := Lib.hid (HRes3.out.on (by omega) g6)
      have b6 := b4.trans (g6.mono b4.size)
      have hlt6 := g6.size
      have R6 := Lib.hid r6
      have S6 := Lib.hid s6
      have I6 := Lib.hid i6
      have K6 := Lib.hid hk6
      obtain ⟨r0, r1, f0, f1⟩ := HRes6.out
      clear r6 s6 i6 hk6 HRes3 HI HPl HSc g6 b4
      go_wp2_with fail
      obtain ⟨k0, k1⟩ := res_set HRes6.out (.slice A6 k c6) (.bool true)
      have b7 := res_below b6 HRes6.out (.slice A6 k c6) (.bool true) (Nat.le_refl _)
      have r7 := Lib.hid (reads_res HRes6.out R6.out (.slice A6 k c6) (.bool true))
      have hs7 : ((w6.setCell ⟨w.heap.size, 0, none⟩ (.slice A6 k c6)).setCell ⟨w.heap.size, 1, none⟩ (.bool true)).heap.size = w6.heap.size := by simp
      rw [← hs7] at r7
      generalize (w6.setCell ⟨w.heap.size, 0, none⟩ (.slice A6 k c6)).setCell ⟨w.heap.size, 1, none⟩ (.bool true) = w7 at *
      exact bodyPost_ret (v := .agg #[.slice A6 k c6, .bool true]) (by simp [results, Try.results44, go_sem, k0, k1]) rfl ⟨s, k, A6, c6, rfl, K6.out, by omega, S6.out, I6.out, r7.out, b7⟩
end Go.Proofs.Ythaageiflimnnaa
/- What the document's Union and Both return. -/
namespace Go.Proofs.Ythaageiflimnnaa
open Go.RowKit Go.BigFrame
set_option linter.unusedVariables false
set_option linter.unusedSimpArgs false

theorem refBoth_good (a b : List Rg) (n m : Nat) (ha : a.length = n) (hb : b.length = m) (A B : Option Addr) (c d : Nat) (w : World) (hA : A = none → c = 0) (hB : B = none → d = 0)
    (hRa : Reads w w.heap.size 2 A n (rcells a)) (hRb : Reads w w.heap.size 2 B m (rcells b)) (hn : n ≤ 2000) (hm : m ≤ 2000) (hga : Gd (-1) a) (hgb : Gd (-1) b) :
    Calls Try.prog 26 #[.slice A n c, .slice B m d] w (OutG (fun v => twP true (In a v) (In b v)) 10000 w) := by
  have bn := below_new w (.cells #[.slice none 0 0, .bool false] 56)
  have H2 := Lib.hid (two_good a b n m ha hb A B c d true (w.alloc (.cells #[.slice none 0 0, .bool false] 56)) hA hB (reads_on hRa bn) (reads_on hRb bn) hn hm hga hgb)
  have HRes := Lib.hid (res_new w)
  clear hRa hRb ha hb hga hgb hA hB
  go_enter Try.func26, Try.ntmps26
  go_wp2_with fail
  refine H2.out.mono ?_
  rintro e w6 ⟨s, k, A6, c6, rfl, hk6, hkn, s6, i6, r6, g6⟩
  have HRes6 := Lib.hid (HRes.out.on (by simp) g6)
  have b6 := bn.trans (g6.mono (by simp))
  have R6 := Lib.hid r6
  have S6 := Lib.hid s6
  have I6 := Lib.hid i6
  have K6 := Lib.hid hk6
  obtain ⟨r0, r1, f0, f1⟩ := HRes6.out
  clear r6 s6 i6 hk6 g6 HRes H2 bn
  go_wp2_with fail
  obtain ⟨k0, k1⟩ := res_set HRes6.out (.slice A6 k c6) (.bool true)
  have b7 := res_below b6 HRes6.out (.slice A6 k c6) (.bool true) (Nat.le_refl _)
  have r7 := Lib.hid (reads_res HRes6.out R6.out (.slice A6 k c6) (.bool true))
  have hs7 : ((w6.setCell ⟨w.heap.size, 0, none⟩ (.slice A6 k c6)).setCell ⟨w.heap.size, 1, none⟩ (.bool true)).heap.size = w6.heap.size := by simp
  rw [← hs7] at r7
  generalize (w6.setCell ⟨w.heap.size, 0, none⟩ (.slice A6 k c6)).setCell ⟨w.heap.size, 1, none⟩ (.bool true) = w7 at *
  exact bodyPost_ret (v := .agg #[.slice A6 k c6, .bool true]) (by simp [results, Try.results26, go_sem, k0, k1]) rfl ⟨s, k, A6, c6, rfl, K6.out, hkn, S6.out, I6.out, r7.out, b7⟩

theorem refBoth_bad (a b : List Rg) (n m : Nat) (ha : a.length = n) (hb : b.length = m) (A B : Option Addr) (c d : Nat) (w : World)
    (hRa : Reads w w.heap.size 2 A n (rcells a)) (hRb : Reads w w.heap.size 2 B m (rcells b)) (hn : n ≤ 2000) (hm : m ≤ 2000) (hg : (goodB a && goodB b) = false) :
    Calls Try.prog 26 #[.slice A n c, .slice B m d] w (OutGno w) := by
  have bn := below_new w (.cells #[.slice none 0 0, .bool false] 56)
  have H2 := Lib.hid (two_bad a b n m ha hb A B c d true (w.alloc (.cells #[.slice none 0 0, .bool false] 56)) (reads_on hRa bn) (reads_on hRb bn) hn hm hg)
  have HRes := Lib.hid (res_new w)
  clear hRa hRb ha hb hg
  go_enter Try.func26, Try.ntmps26
  go_wp2_with fail
  refine H2.out.mono ?_
  rintro e w6 ⟨rfl, g6⟩
  have HRes6 := Lib.hid (HRes.out.on (by simp) g6)
  have b6 := bn.trans (g6.mono (by simp))
  obtain ⟨r0, r1, f0, f1⟩ := HRes6.out
  clear g6 HRes H2 bn
  go_wp2_with fail
  obtain ⟨k0, k1⟩ := res_set HRes6.out (.slice none 0 0) (.bool false)
  have b7 := res_below b6 HRes6.out (.slice none 0 0) (.bool false) (Nat.le_refl _)
  generalize (w6.setCell ⟨w.heap.size, 0, none⟩ (.slice none 0 0)).setCell ⟨w.heap.size, 1, none⟩ (.bool false) = w7 at *
  exact bodyPost_ret (v := .agg #[.slice none 0 0, .bool false]) (by simp [results, Try.results26, go_sem, k0, k1]) rfl ⟨rfl, b7⟩
end Go.Proofs.Ythaageiflimnnaa
