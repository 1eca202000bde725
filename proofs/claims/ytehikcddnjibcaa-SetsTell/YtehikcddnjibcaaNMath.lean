/- What is in none, and what is in both, in plain mathematics. -/
import Derived.Test.YtehikcddnjibcaaJMath
namespace Go.Proofs.Ytehikcddnjibcaa
set_option linter.unusedVariables false

def fromN (F : Int) : Int := if F ≤ 1114111 then F else 0
def moreB (F : Int) : Bool := decide (F ≤ 1114111)
theorem next_from {v : Int} (h : Sc v) : nextN v = fromN (nx v) ∧ nextB v = moreB (nx v) := by
  unfold Sc at h
  unfold nextN nextB fromN moreB nx
  by_cases h1 : v = 55295
  · subst h1; decide
  · rw [if_neg h1]
    by_cases h2 : v < 1114111
    · rw [if_neg (by omega), if_neg (by omega), if_pos (by omega), decide_eq_true h2, decide_eq_true (by omega)]; exact ⟨rfl, rfl⟩
    · rw [if_pos (by omega), if_neg (by omega), decide_eq_false h2, decide_eq_false (by omega)]; exact ⟨rfl, rfl⟩
theorem prev_facts {v : Int} (h : Sc v) (h0 : 0 < v) : Sc (prevN v) ∧ prevN v < v ∧ nx (prevN v) = v := by
  unfold Sc at h ⊢
  unfold prevN nx
  rw [if_neg (by omega), if_neg (by omega)]
  split
  · have : v = 57344 := by omega
    subst this
    decide
  · refine ⟨by omega, by omega, ?_⟩
    rw [if_neg (by omega)]; omega
theorem prev_ge {u v : Int} (hu : Sc u) (hv : Sc v) (h : u < v) : u ≤ prevN v := by
  have h0 : 0 < v := by unfold Sc at hu; omega
  obtain ⟨h1, h2, h3⟩ := prev_facts hv h0
  rcases Int.lt_or_le (prevN v) u with h4 | h4
  · have := nx_le h1 hu h4; omega
  · exact h4

/-- What has been told of the first k: all that is below F and in none of them. -/
def NInv (s : List Rg) (k : Nat) (acc : List Rg) (F : Int) : Prop :=
  acc.length ≤ k ∧ (∃ m, Upto acc m ∧ m < F) ∧ (Sc F ∨ F = 1114112) ∧ (k = 0 ∧ F = 0 ∨ Gd F (s.drop k)) ∧ (∀ v, F ≤ v → In s v → In (s.drop k) v) ∧ (∀ v, Sc v → (In acc v ↔ v < F ∧ ¬ In s v))
theorem nInv_start (s : List Rg) : NInv s 0 [] 0 :=
  ⟨Nat.le_refl _, ⟨-1, Upto.nil, by omega⟩, .inl (by unfold Sc; omega), .inl ⟨rfl, rfl⟩, fun v _ h => h, fun v hv => by
    constructor
    · intro h; exact absurd h (In_nil v)
    · rintro ⟨h, _⟩; unfold Sc at hv; omega⟩
theorem nInv_gd {s acc : List Rg} {k : Nat} {F : Int} (hs : Gd (-1) s) (h : NInv s k acc F) (hk : k < s.length) : F ≤ s[k].1 ∧ F ≤ 1114111 ∧ (F = s[k].1 → F = 0) ∧ Ok s[k] ∧ Gd (nx s[k].2) (s.drop (k + 1)) := by
  obtain ⟨_, _, hF, hg, _, _⟩ := h
  rcases hg with ⟨rfl, rfl⟩ | hg
  · have h2 : Gd (-1) (s.drop 0) := hs
    rw [List.drop_eq_getElem_cons hk] at h2
    obtain ⟨h3, h4, h5⟩ := h2
    exact ⟨by omega, by omega, fun _ => rfl, h4, h5⟩
  · rw [List.drop_eq_getElem_cons hk] at hg
    obtain ⟨h3, h4, h5⟩ := hg
    have := h4.1
    unfold Sc at this
    exact ⟨by omega, by omega, fun h => by omega, h4, h5⟩
theorem nInv_in {s acc : List Rg} {k : Nat} {F : Int} (hs : Gd (-1) s) (h : NInv s k acc F) (hk : k < s.length) (v : Int) (hv : F ≤ v) (hi : In s v) : (s[k].1 ≤ v ∧ v ≤ s[k].2) ∨ (nx s[k].2 < v ∧ In (s.drop (k + 1)) v) := by
  obtain ⟨_, _, _, _, h5⟩ := nInv_gd hs h hk
  have h2 := h.2.2.2.2.1 v hv hi
  rw [List.drop_eq_getElem_cons hk, In_cons] at h2
  rcases h2 with h2 | h2
  · exact .inl h2
  · exact .inr ⟨h5.in_gt h2, h2⟩
theorem nx_big {v : Int} (h : Sc v) : Sc (nx v) ∨ nx v = 1114112 := by
  by_cases h1 : v < 1114111
  · exact .inl (nx_sc h h1)
  · have : v = 1114111 := by unfold Sc at h; omega
    subst this
    exact .inr (by decide)
theorem nInv_none {s acc : List Rg} {k : Nat} {F : Int} (hs : Gd (-1) s) (h : NInv s k acc F) (hk : k < s.length) (hp : prevB s[k].1 = false) : NInv s (k + 1) acc (nx s[k].2) := by
  obtain ⟨h1, h2, h3, h4, h5⟩ := nInv_gd hs h hk
  have hin := nInv_in hs h hk
  obtain ⟨ha, ⟨m, hu, hm⟩, hF, hg, ht, hI⟩ := h
  have hr0 : s[k].1 = 0 := by
    have := of_decide_eq_false hp
    have := h4.1
    unfold Sc at this
    omega
  have hF0 : F = 0 := by unfold Sc at hF; omega
  have hnx := nx_gt s[k].2
  have hle := h4.2.2
  refine ⟨by omega, ⟨m, hu, by omega⟩, nx_big h4.2.1, .inr h5, fun v hv hi => ?_, fun v hv => ?_⟩
  · rcases hin v (by omega) hi with h6 | h6
    · omega
    · exact h6.2
  · rw [hI v hv]
    constructor
    · rintro ⟨h6, _⟩; unfold Sc at hv; omega
    · rintro ⟨h6, h7⟩
      exfalso
      apply h7
      refine ⟨s[k], List.getElem_mem hk, by unfold Sc at hv; omega, ?_⟩
      rcases Int.lt_or_le s[k].2 v with h8 | h8
      · have := nx_le h4.2.1 hv h8; omega
      · exact h8
theorem nInv_some {s acc : List Rg} {k : Nat} {F : Int} (hs : Gd (-1) s) (h : NInv s k acc F) (hk : k < s.length) (hp : prevB s[k].1 = true) : NInv s (k + 1) (acc ++ [(F, prevN s[k].1)]) (nx s[k].2) := by
  obtain ⟨h1, h2, h3, h4, h5⟩ := nInv_gd hs h hk
  have hin := nInv_in hs h hk
  obtain ⟨ha, ⟨m, hu, hm⟩, hF, hg, ht, hI⟩ := h
  have hr0 : 0 < s[k].1 := of_decide_eq_true hp
  have hlt : F < s[k].1 := by
    rcases Int.lt_or_le F s[k].1 with h6 | h6
    · exact h6
    · have := h3 (by omega); omega
  have hSF : Sc F := by
    rcases hF with h6 | h6
    · exact h6
    · omega
  obtain ⟨p1, p2, p3⟩ := prev_facts h4.1 hr0
  have p4 := prev_ge hSF h4.1 hlt
  have hnx := nx_gt s[k].2
  have hle := h4.2.2
  have hup := hu.snoc (r := (F, prevN s[k].1)) hm ⟨hSF, p1, p4⟩
  rw [show nx (F, prevN s[k].1).2 = s[k].1 from p3] at hup
  refine ⟨by simp; omega, ⟨_, hup, by omega⟩, nx_big h4.2.1, .inr h5, fun v hv hi => ?_, fun v hv => ?_⟩
  · rcases hin v (by omega) hi with h6 | h6
    · omega
    · exact h6.2
  · rw [In_app, In_one, hI v hv]
    constructor
    · rintro (⟨h6, h7⟩ | ⟨h6, h7⟩)
      · exact ⟨by omega, h7⟩
      · have h6' : F ≤ v := h6
        have h7' : v ≤ prevN s[k].1 := h7
        refine ⟨by omega, fun hi => ?_⟩
        rcases hin v h6' hi with h8 | h8
        · omega
        · omega
    · rintro ⟨h6, h7⟩
      rcases Int.lt_or_le v F with h8 | h8
      · exact .inl ⟨h8, h7⟩
      · right
        refine ⟨h8, ?_⟩
        show v ≤ prevN s[k].1
        rcases Int.lt_or_le v s[k].1 with h9 | h9
        · exact prev_ge hv h4.1 h9
        · exfalso
          apply h7
          refine ⟨s[k], List.getElem_mem hk, h9, ?_⟩
          rcases Int.lt_or_le s[k].2 v with h10 | h10
          · have := nx_le h4.2.1 hv h10; omega
          · exact h10
theorem nInv_end {s acc : List Rg} {k : Nat} {F : Int} (h : NInv s k acc F) (hk : ¬ k < s.length) :
    (moreB F = true → IsSet (acc ++ [(F, 1114111)]) (fun v => ¬ In s v)) ∧ (moreB F = false → IsSet acc (fun v => ¬ In s v)) := by
  obtain ⟨ha, ⟨m, hu, hm⟩, hF, hg, ht, hI⟩ := h
  constructor
  · intro hmo
    have h1 : F ≤ 1114111 := of_decide_eq_true hmo
    have hSF : Sc F := by
      rcases hF with h6 | h6
      · exact h6
      · omega
    refine ⟨(hu.snoc (r := (F, 1114111)) hm ⟨hSF, by unfold Sc; omega, h1⟩).gd, fun v hv => ?_⟩
    rw [In_app, In_one, hI v hv]
    constructor
    · rintro (⟨_, h⟩ | ⟨h6, _⟩)
      · exact h
      · intro hi
        have := ht v h6 hi
        rw [List.drop_eq_nil_of_le (by omega)] at this
        exact In_nil v this
    · intro h
      rcases Int.lt_or_le v F with h8 | h8
      · exact .inl ⟨h8, h⟩
      · exact .inr ⟨h8, by show v ≤ 1114111; unfold Sc at hv; omega⟩
  · intro hmo
    have h1 : ¬ F ≤ 1114111 := of_decide_eq_false hmo
    refine ⟨hu.gd, fun v hv => ?_⟩
    rw [hI v hv]
    constructor
    · exact fun h => h.2
    · exact fun h => ⟨by unfold Sc at hv; omega, h⟩

/-- What has been told of both: s, and what is left of each. -/
def BInv (a b a' b' s : List Rg) : Prop :=
  (∃ M, Gd M a') ∧ (∃ M, Gd M b') ∧ (∃ m, Upto s m ∧ (Gd m a' ∨ Gd m b')) ∧ ∀ v, Sc v → (In s v ∨ (In a' v ∧ In b' v) ↔ In a v ∧ In b v)
theorem bInv_start {a b : List Rg} (ha : Gd (-1) a) (hb : Gd (-1) b) : BInv a b a b [] :=
  ⟨⟨_, ha⟩, ⟨_, hb⟩, ⟨-1, Upto.nil, .inl ha⟩, fun v _ => by simp [In_nil]⟩
theorem bInv_end {a b a' b' s : List Rg} (h : BInv a b a' b' s) (he : a' = [] ∨ b' = []) : IsSet s (fun v => In a v ∧ In b v) := by
  obtain ⟨_, _, ⟨m, hu, _⟩, hI⟩ := h
  refine ⟨hu.gd, fun v hv => ?_⟩
  show In s v ↔ In a v ∧ In b v
  rw [← hI v hv]
  rcases he with rfl | rfl <;> simp [In_nil]
def bR (x y : Rg) : Rg := (max x.1 y.1, min x.2 y.2)
theorem bR_ok {x y : Rg} (hx : Ok x) (hy : Ok y) (h : max x.1 y.1 ≤ min x.2 y.2) : Ok (bR x y) := by
  obtain ⟨a, b, c⟩ := hx
  obtain ⟨d, e, f⟩ := hy
  refine ⟨?_, ?_, h⟩
  · show Sc (max x.1 y.1)
    rcases Int.le_total x.1 y.1 with h | h
    · rw [Int.max_eq_right h]; exact d
    · rw [Int.max_eq_left h]; exact a
  · show Sc (min x.2 y.2)
    rcases Int.le_total x.2 y.2 with h | h
    · rw [Int.min_eq_left h]; exact b
    · rw [Int.min_eq_right h]; exact e
/-- One round: the range that ends first is left behind. -/
theorem bInv_step {a b a' b' s : List Rg} {x y : Rg} (h : BInv a b (x :: a') (y :: b') s) :
    let t := if max x.1 y.1 ≤ min x.2 y.2 then s ++ [bR x y] else s
    if x.2 < y.2 then BInv a b a' (y :: b') t else BInv a b (x :: a') b' t := by
  obtain ⟨⟨Ma, ha⟩, ⟨Mb, hb⟩, ⟨m, hu, hm⟩, hI⟩ := h
  have gx := nx_gt x.2
  have gy := nx_gt y.2
  obtain ⟨hMa, hox, hga⟩ := ha
  obtain ⟨hMb, hoy, hgb⟩ := hb
  have lx := hox.2.2
  have ly := hoy.2.2
  intro t
  have et : (max x.1 y.1 ≤ min x.2 y.2 ∧ t = s ++ [bR x y]) ∨ (¬ max x.1 y.1 ≤ min x.2 y.2 ∧ t = s) := by
    by_cases hc : max x.1 y.1 ≤ min x.2 y.2
    · exact .inl ⟨hc, if_pos hc⟩
    · exact .inr ⟨hc, if_neg hc⟩
  clear_value t
  have ht : ∀ v, In t v ↔ In s v ∨ ((x.1 ≤ v ∧ v ≤ x.2) ∧ (y.1 ≤ v ∧ v ≤ y.2)) := by
    intro v
    rcases et with ⟨hc, et⟩ | ⟨hc, et⟩ <;> rw [et]
    · rw [In_app, In_one]
      show _ ∨ (max x.1 y.1 ≤ v ∧ v ≤ min x.2 y.2) ↔ _
      constructor
      · rintro (h | h)
        · exact .inl h
        · exact .inr (by omega)
      · rintro (h | h)
        · exact .inl h
        · exact .inr (by omega)
    · constructor
      · exact .inl
      · rintro (h | h)
        · exact h
        · omega
  have hmlt : m < max x.1 y.1 := by
    rcases hm with h | h
    · have := h.1; omega
    · have := h.1; omega
  by_cases hlt : x.2 < y.2
  · rw [if_pos hlt]
    refine ⟨⟨_, hga⟩, ⟨Mb, hMb, hoy, hgb⟩, ?_, fun v hv => ?_⟩
    · rcases et with ⟨hc, et⟩ | ⟨hc, et⟩ <;> rw [et]
      · refine ⟨_, hu.snoc (r := bR x y) hmlt (bR_ok hox hoy hc), .inl ?_⟩
        rw [show (bR x y).2 = x.2 by show min x.2 y.2 = x.2; omega]
        exact hga
      · refine ⟨m, hu, ?_⟩
        rcases hm with h | h
        · exact .inl (hga.mono (by have := h.1; omega))
        · exact .inr h
    · rw [← hI v hv, ht v, In_cons, In_cons]
      constructor
      · rintro ((h | ⟨h1, h2⟩) | ⟨h1, h2⟩)
        · exact .inl h
        · exact .inr ⟨.inl h1, .inl h2⟩
        · exact .inr ⟨.inr h1, h2⟩
      · rintro (h | ⟨h1 | h1, h2 | h2⟩)
        · exact .inl (.inl h)
        · exact .inl (.inr ⟨h1, h2⟩)
        · have := hgb.in_gt h2; omega
        · exact .inr ⟨h1, .inl h2⟩
        · exact .inr ⟨h1, .inr h2⟩
  · rw [if_neg hlt]
    refine ⟨⟨Ma, hMa, hox, hga⟩, ⟨_, hgb⟩, ?_, fun v hv => ?_⟩
    · rcases et with ⟨hc, et⟩ | ⟨hc, et⟩ <;> rw [et]
      · refine ⟨_, hu.snoc (r := bR x y) hmlt (bR_ok hox hoy hc), .inr ?_⟩
        rw [show (bR x y).2 = y.2 by show min x.2 y.2 = y.2; omega]
        exact hgb
      · refine ⟨m, hu, ?_⟩
        rcases hm with h | h
        · exact .inl h
        · exact .inr (hgb.mono (by have := h.1; omega))
    · rw [← hI v hv, ht v, In_cons, In_cons]
      constructor
      · rintro ((h | ⟨h1, h2⟩) | ⟨h1, h2⟩)
        · exact .inl h
        · exact .inr ⟨.inl h1, .inl h2⟩
        · exact .inr ⟨h1, .inr h2⟩
      · rintro (h | ⟨h1 | h1, h2 | h2⟩)
        · exact .inl (.inl h)
        · exact .inl (.inr ⟨h1, h2⟩)
        · exact .inr ⟨.inl h1, h2⟩
        · have := hga.in_gt h1; omega
        · exact .inr ⟨.inr h1, h2⟩
end Go.Proofs.Ytehikcddnjibcaa
