/- What an expression takes of a part of a row; a Star's first part. -/
import Derived.Test.YtfpiackfhdiapaaTrT
namespace Go.Proofs.Ytfpiackfhdiapaa.S
set_option linter.unusedVariables false
set_option linter.unusedSimpArgs false

theorem tk_take (l : List Int) (k : Nat) (hk : k ≤ l.length) : ∀ (e : Ex) (i j : Nat), tk (l.take k) e i j ↔ tk l e i j ∧ j ≤ k
  | .never, i, j => by simp [tk]
  | .empty, i, j => by simp only [tk, List.length_take]; omega
  | .one s m, i, j => by
    simp only [tk, List.length_take]
    constructor
    · rintro ⟨h, rfl, hb⟩
      refine ⟨⟨by omega, rfl, ?_⟩, by omega⟩
      rwa [List.getElem_take] at hb
    · rintro ⟨⟨h, rfl, hb⟩, h2⟩
      refine ⟨by omega, rfl, ?_⟩
      rwa [List.getElem_take]
  | .cat x y, i, j => by
    simp only [tk]
    constructor
    · rintro ⟨m, h1, h2⟩
      have h3 := (tk_take l k hk x _ _).1 h1
      have h4 := (tk_take l k hk y _ _).1 h2
      exact ⟨⟨m, h3.1, h4.1⟩, h4.2⟩
    · rintro ⟨⟨m, h1, h2⟩, h3⟩
      have := (tk_le l y _ _ h2).1
      exact ⟨m, (tk_take l k hk x _ _).2 ⟨h1, by omega⟩, (tk_take l k hk y _ _).2 ⟨h2, h3⟩⟩
  | .alt x y, i, j => by
    simp only [tk, tk_take l k hk x, tk_take l k hk y]
    constructor
    · rintro (⟨h1, h2⟩ | ⟨h1, h2⟩)
      · exact ⟨.inl h1, h2⟩
      · exact ⟨.inr h1, h2⟩
    · rintro ⟨h1 | h1, h2⟩
      · exact .inl ⟨h1, h2⟩
      · exact .inr ⟨h1, h2⟩
  | .star x, i, j => by
    have ih := tk_take l k hk x
    have hlen : (l.take k).length = k := by rw [List.length_take]; omega
    simp only [tk, hlen]
    constructor
    · rintro ⟨h0, r⟩
      have key : ∀ {i j}, Rt (tk (l.take k) x) i j → i ≤ k → Rt (tk l x) i j ∧ j ≤ k := by
        intro i j r
        induction r with
        | refl => exact fun h => ⟨.refl _, h⟩
        | tail r1 r2 ihr =>
          intro h
          have h2 := (ih _ _).1 r2
          exact ⟨.tail (ihr h).1 h2.1, h2.2⟩
      have h3 := key r h0
      exact ⟨⟨by omega, h3.1⟩, h3.2⟩
    · rintro ⟨⟨h0, r⟩, h2⟩
      have key : ∀ {i j}, Rt (tk l x) i j → i ≤ l.length → j ≤ k → Rt (tk (l.take k) x) i j ∧ i ≤ k := by
        intro i j r
        induction r with
        | refl => exact fun _ h => ⟨.refl _, h⟩
        | tail r1 r2 ihr =>
          intro hi h
          have h3 := tk_le l x _ _ r2
          have h4 := ihr hi (by omega)
          exact ⟨.tail h4.1 ((ih _ _).2 ⟨r2, h⟩), h4.2⟩
      have h3 := key r h0 h2
      exact ⟨h3.2, h3.1⟩
theorem tk_drop (l : List Int) (k : Nat) (hk : k ≤ l.length) : ∀ (e : Ex) (i j : Nat), tk (l.drop k) e i j ↔ tk l e (k + i) (k + j)
  | .never, i, j => by simp [tk]
  | .empty, i, j => by simp only [tk, List.length_drop]; omega
  | .one s m, i, j => by
    simp only [tk, List.length_drop]
    constructor
    · rintro ⟨h, rfl, hb⟩
      refine ⟨by omega, by omega, ?_⟩
      rwa [List.getElem_drop] at hb
    · rintro ⟨h, h2, hb⟩
      refine ⟨by omega, by omega, ?_⟩
      rwa [List.getElem_drop]
  | .cat x y, i, j => by
    simp only [tk]
    constructor
    · rintro ⟨m, h1, h2⟩
      exact ⟨k + m, (tk_drop l k hk x _ _).1 h1, (tk_drop l k hk y _ _).1 h2⟩
    · rintro ⟨m, h1, h2⟩
      have h3 := (tk_le l x _ _ h1).1
      obtain ⟨m', rfl⟩ : ∃ m', m = k + m' := ⟨m - k, by omega⟩
      exact ⟨m', (tk_drop l k hk x _ _).2 h1, (tk_drop l k hk y _ _).2 h2⟩
  | .alt x y, i, j => by simp only [tk, tk_drop l k hk x, tk_drop l k hk y]
  | .star x, i, j => by
    have ih := tk_drop l k hk x
    simp only [tk, List.length_drop]
    constructor
    · rintro ⟨h0, r⟩
      refine ⟨by omega, ?_⟩
      clear h0
      induction r with
      | refl => exact .refl _
      | tail r1 r2 ihr => exact .tail ihr ((ih _ _).1 r2)
    · rintro ⟨h0, r⟩
      refine ⟨by omega, ?_⟩
      have key : ∀ {a b}, Rt (tk l x) a b → ∀ i, a = k + i → ∃ j, b = k + j ∧ Rt (tk (l.drop k) x) i j := by
        intro a b r
        induction r with
        | refl => exact fun i h => ⟨i, h, .refl _⟩
        | tail r1 r2 ihr =>
          intro i h
          obtain ⟨j, rfl, hj⟩ := ihr i h
          have h3 := (tk_le l x _ _ r2).1
          obtain ⟨j', rfl⟩ : ∃ j', _ = k + j' := ⟨_ - k, (Nat.add_sub_cancel' (Nat.le_trans (Nat.le_add_right _ _) h3)).symm⟩
          exact ⟨j', rfl, .tail hj ((ih _ _).2 r2)⟩
      obtain ⟨j', h1, h2⟩ := key r i rfl
      obtain rfl : j = j' := by omega
      exact h2
theorem Rt.head {R : Nat → Nat → Prop} {i k : Nat} (h : R i k) {j : Nat} (r : Rt R k j) : Rt R i j := by
  induction r with
  | refl => exact .tail (.refl _) h
  | tail r1 r2 ih => exact .tail ih r2
theorem Rt.first {R : Nat → Nat → Prop} (hR : ∀ i j, R i j → i ≤ j) {i j : Nat} (r : Rt R i j) : i = j ∨ ∃ k, i < k ∧ R i k ∧ Rt R k j := by
  induction r with
  | refl => exact .inl rfl
  | tail r1 r2 ih =>
    rename_i a b
    rcases ih with rfl | ⟨k, h1, h2, h3⟩
    · have := hR _ _ r2
      by_cases h : i = b
      · exact .inl h
      · exact .inr ⟨b, by omega, r2, .refl _⟩
    · exact .inr ⟨k, h1, h2, .tail h3 r2⟩
/-- A Star takes nothing, or begins with a part that its child takes. -/
theorem star_first {l : List Int} {x : Ex} : tk l (.star x) 0 l.length ↔ l.length = 0 ∨ ∃ k, 0 < k ∧ k ≤ l.length ∧ tk l x 0 k ∧ tk l (.star x) k l.length := by
  constructor
  · rintro ⟨_, r⟩
    rcases r.first (fun i j h => (tk_le l x i j h).1) with h | ⟨k, h1, h2, h3⟩
    · exact .inl h.symm
    · exact .inr ⟨k, h1, (tk_le l x _ _ h2).2, h2, (tk_le l x _ _ h2).2, h3⟩
  · rintro (h | ⟨k, _, _, h2, _, h3⟩)
    · exact ⟨Nat.zero_le _, by rw [h]; exact .refl _⟩
    · exact ⟨Nat.zero_le _, h3.head h2⟩
theorem takesB_eq {e : Ex} {l : List Int} (hg : gdE e) (hn : sz e ≤ 40000) : takesB (flat e 0) l = true ↔ tk l e 0 l.length := takesB_iff.trans (tks_flat hg hn)
theorem takes_pre {e : Ex} {l : List Int} {k : Nat} (hg : gdE e) (hn : sz e ≤ 40000) (hk : k ≤ l.length) : takesB (flat e 0) (l.take k) = true ↔ tk l e 0 k := by
  rw [takesB_eq hg hn, tk_take l k hk]
  have : (l.take k).length = k := by rw [List.length_take]; omega
  rw [this]
  exact ⟨fun h => h.1, fun h => ⟨h, Nat.le_refl _⟩⟩
theorem takes_suf {e : Ex} {l : List Int} {k : Nat} (hg : gdE e) (hn : sz e ≤ 40000) (hk : k ≤ l.length) : takesB (flat e 0) (l.drop k) = true ↔ tk l e k l.length := by
  rw [takesB_eq hg hn, tk_drop l k hk]
  have : k + (l.drop k).length = l.length := by rw [List.length_drop]; omega
  rw [this, Nat.add_zero]
end Go.Proofs.Ytfpiackfhdiapaa.S
