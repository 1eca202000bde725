/- Joining ranges that stand in order, in plain mathematics. -/
import Derived.Test.YtehikcddnjibcaaMath
namespace Go.Proofs.Ytehikcddnjibcaa
set_option linter.unusedVariables false

/-- Ranges in order. -/
def SortR (l : List Rg) : Prop := ∀ i j (hi : i < l.length) (hj : j < l.length), i < j → l[i].1 ≤ l[j].1

/-- What has been joined of the first k. -/
def JInv (l : List Rg) (k : Nat) (acc : List Rg) : Prop :=
  acc.length ≤ k ∧ (∀ v, Sc v → (In acc v ↔ In (l.take k) v)) ∧ (acc = [] ∨ ∃ t x m, acc = t ++ [x] ∧ Upto t m ∧ m < x.1 ∧ Ok x ∧ ∀ j (hj : j < l.length), k ≤ j → x.1 ≤ l[j].1)
theorem jInv_start (l : List Rg) : JInv l 0 [] := ⟨Nat.le_refl _, fun v _ => by simp, .inl rfl⟩
theorem jInv_end {l acc : List Rg} {k : Nat} (h : JInv l k acc) (hk : ¬ k < l.length) : IsSet acc (In l) := by
  obtain ⟨_, h, h2⟩ := h
  rw [List.take_of_length_le (by omega)] at h
  refine ⟨?_, h⟩
  rcases h2 with rfl | ⟨t, x, m, rfl, hu, hm, hx, _⟩
  · trivial
  · exact (hu.snoc hm hx).gd
theorem In_take (l : List Rg) (k : Nat) (hk : k < l.length) (v : Int) : In (l.take (k + 1)) v ↔ In (l.take k) v ∨ (l[k].1 ≤ v ∧ v ≤ l[k].2) := by
  rw [List.take_succ_eq_append_getElem hk, In_app, In_one]
theorem jInv_first {l : List Rg} {k : Nat} (h : JInv l k []) (hk : k < l.length) (hs : SortR l) (ho : Ok l[k]) : JInv l (k + 1) [l[k]] := by
  obtain ⟨_, h, _⟩ := h
  refine ⟨by simp, fun v hv => ?_, .inr ⟨[], l[k], -1, rfl, Upto.nil, by have := ho.1; unfold Sc at this; omega, ho, fun j hj hkj => hs k j hk hj (by omega)⟩⟩
  rw [In_take l k hk, ← h v hv, In_one]
  simp [In_nil]
theorem jInv_apart {l t : List Rg} {k : Nat} {x : Rg} (h : JInv l k (t ++ [x])) (hk : k < l.length) (hs : SortR l) (ho : Ok l[k]) (ha : apB x l[k] = true) : JInv l (k + 1) (t ++ [x] ++ [l[k]]) := by
  obtain ⟨hl, h, h2⟩ := h
  rcases h2 with h2 | ⟨t', x', m, e, hu, hm, hx, hle⟩
  · simp at h2
  · obtain ⟨rfl, e2⟩ := List.append_inj' e rfl
    simp at e2
    subst e2
    have hlt := (apB_iff hx ho).1 ha
    refine ⟨by simp at *; omega, fun v hv => ?_, .inr ⟨t ++ [x], l[k], nx x.2, rfl, hu.snoc hm hx, hlt, ho, fun j hj hkj => hs k j hk hj (by omega)⟩⟩
    rw [In_app, h v hv, In_take l k hk, In_one]
theorem ok_max {x r : Rg} (hx : Ok x) (hr : Ok r) : Ok (x.1, max x.2 r.2) := by
  obtain ⟨a, b, c⟩ := hx
  obtain ⟨d, e, f⟩ := hr
  refine ⟨a, ?_, ?_⟩
  · show Sc (max x.2 r.2)
    rcases Int.le_total x.2 r.2 with h | h
    · rw [Int.max_eq_right h]; exact e
    · rw [Int.max_eq_left h]; exact b
  · show x.1 ≤ max x.2 r.2
    omega
theorem jInv_join {l t : List Rg} {k : Nat} {x : Rg} (h : JInv l k (t ++ [x])) (hk : k < l.length) (hs : SortR l) (ho : Ok l[k]) (ha : apB x l[k] = false) : JInv l (k + 1) (t ++ [(x.1, max x.2 l[k].2)]) := by
  obtain ⟨hl, h, h2⟩ := h
  rcases h2 with h2 | ⟨t', x', m, e, hu, hm, hx, hle⟩
  · simp at h2
  · obtain ⟨rfl, e2⟩ := List.append_inj' e rfl
    simp at e2
    subst e2
    have hlt : ¬ nx x.2 < l[k].1 := fun hlt => by rw [(apB_iff hx ho).2 hlt] at ha; cases ha
    have h1 := hle k hk (Nat.le_refl _)
    refine ⟨by simp at *; omega, fun v hv => ?_, .inr ⟨t, _, m, rfl, hu, hm, ok_max hx ho, fun j hj hkj => hle j hj (by omega)⟩⟩
    rw [In_app, In_one, In_take l k hk, ← h v hv, In_app, In_one]
    have hn := fun hlt => nx_le hx.2.1 hv hlt
    constructor
    · rintro (h3 | ⟨h3, h4⟩)
      · exact .inl (.inl h3)
      · by_cases h5 : v ≤ x.2
        · exact .inl (.inr ⟨h3, h5⟩)
        · have := hn (by omega)
          refine .inr ⟨by omega, ?_⟩
          have h4' : v ≤ max x.2 l[k].2 := h4
          omega
    · rintro ((h3 | ⟨h3, h4⟩) | ⟨h3, h4⟩)
      · exact .inl h3
      · exact .inr ⟨h3, by show v ≤ max x.2 l[k].2; omega⟩
      · exact .inr ⟨by show x.1 ≤ v; omega, by show v ≤ max x.2 l[k].2; omega⟩
theorem In_perm {l m : List Rg} (h : l.Perm m) (v : Int) : In l v ↔ In m v :=
  ⟨fun ⟨r, hr, k⟩ => ⟨r, h.mem_iff.1 hr, k⟩, fun ⟨r, hr, k⟩ => ⟨r, h.mem_iff.2 hr, k⟩⟩
end Go.Proofs.Ytehikcddnjibcaa
