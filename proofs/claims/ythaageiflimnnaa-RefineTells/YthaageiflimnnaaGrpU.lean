/- The document's Of, Within and Bands, in plain mathematics. -/
import Derived.Test.YthaageiflimnnaaGrpT
import Derived.Test.YthaageiflimnnaaGrpC
import Derived.Deep.RegionHeld3
import Derived.Test.YthaageiflimnnaaGrpF
namespace Go.Proofs.Ythaageiflimnnaa
open Go.RowKit Go.BigFrame
set_option linter.unusedVariables false
set_option linter.unusedSimpArgs false

/-! Of. -/
def ofA (v : Int) (out : Int) (i : Nat) : List Rg → Int
  | [] => out
  | b :: t => ofA v (if b.1 ≤ v then (i : Int) else out) (i + 1) t
def ofI (bs : List Rg) (v : Int) : Int := if isB v then ofA v (-1) 0 bs else -1
theorem ofA_spec (bs : List Rg) (v : Int) : ∀ (rest : List Rg) (i : Nat) (out : Int), bs.drop i = rest → i ≤ bs.length →
    ((out = -1 ∧ ∀ j (hj : j < bs.length), j < i → ¬ bs[j].1 ≤ v) ∨ ∃ j, ∃ hj : j < bs.length, out = (j : Int) ∧ bs[j].1 ≤ v ∧ ∀ k (hk : k < bs.length), j < k → k < i → ¬ bs[k].1 ≤ v) →
    ((ofA v out i rest = -1 ∧ ∀ j (hj : j < bs.length), ¬ bs[j].1 ≤ v) ∨ ∃ j, ∃ hj : j < bs.length, ofA v out i rest = (j : Int) ∧ bs[j].1 ≤ v ∧ ∀ k (hk : k < bs.length), j < k → ¬ bs[k].1 ≤ v)
  | [], i, out, hd, hi, h => by
    have hl : bs.length ≤ i := by
      have := congrArg List.length hd
      rw [List.length_drop] at this
      simp at this
      omega
    rcases h with ⟨h1, h2⟩ | ⟨j, hj, h1, h2, h3⟩
    · exact .inl ⟨h1, fun j hj => h2 j hj (by omega)⟩
    · exact .inr ⟨j, hj, h1, h2, fun k hk hjk => h3 k hk hjk (by omega)⟩
  | b :: t, i, out, hd, hi, h => by
    have hl : i < bs.length := by
      have := congrArg List.length hd
      rw [List.length_drop] at this
      simp at this
      omega
    have hd2 := List.drop_eq_getElem_cons hl
    rw [hd] at hd2
    injection hd2 with e1 e2
    unfold ofA
    refine ofA_spec bs v t (i + 1) _ e2.symm (by omega) ?_
    by_cases hb : b.1 ≤ v
    · rw [if_pos hb]
      exact .inr ⟨i, hl, rfl, by rw [← e1]; exact hb, fun k hk h1 h2 => by omega⟩
    · rw [if_neg hb]
      rcases h with ⟨h1, h2⟩ | ⟨j, hj, h1, h2, h3⟩
      · refine .inl ⟨h1, fun j hj hji => ?_⟩
        rcases Nat.lt_or_ge j i with h4 | h4
        · exact h2 j hj h4
        · have e : j = i := by omega
          subst e
          rw [← e1]; exact hb
      · refine .inr ⟨j, hj, h1, h2, fun k hk hjk hki => ?_⟩
        rcases Nat.lt_or_ge k i with h4 | h4
        · exact h3 k hk hjk h4
        · have e : k = i := by omega
          subst e
          rw [← e1]; exact hb
/-- Both tell the same band. -/
theorem of_both (bs : List Rg) (v : Int) : (ofB bs v = false ∧ ofI bs v = -1 ∧ ofN bs v = 0) ∨ (ofB bs v = true ∧ ∃ j, ∃ hj : j < bs.length, ofI bs v = (j : Int) ∧ bs[j].2 = ofN bs v) := by
  cases hB : isB v
  · obtain ⟨h1, h2⟩ := of_not (bs := bs) hB
    refine .inl ⟨h1, ?_, h2⟩
    unfold ofI; rw [hB]; rfl
  · have eI : ofI bs v = ofA v (-1) 0 bs := by unfold ofI; rw [hB]; rfl
    rcases ofA_spec bs v bs 0 (-1) rfl (by omega) (.inl ⟨rfl, fun j _ h => by omega⟩) with ⟨h1, h2⟩ | ⟨j, hj, h1, h2, h3⟩
    · have hf : bs.reverse.find? (fun b => decide (b.1 ≤ v)) = none := by
        rw [List.find?_eq_none]
        intro b hb
        obtain ⟨j, hj, rfl⟩ := List.getElem_of_mem (List.mem_reverse.1 hb)
        simpa using h2 j hj
      have e : ofL bs v = none := by unfold ofL; rw [hB, hf]; rfl
      refine .inl ⟨by unfold ofB; rw [e]; rfl, by rw [eI, h1], by unfold ofN; rw [e]; rfl⟩
    · have hf : bs.reverse.find? (fun b => decide (b.1 ≤ v)) = some bs[j] := by
        rw [List.find?_eq_some_iff_append]
        refine ⟨by simpa using h2, (bs.drop (j + 1)).reverse, (bs.take j).reverse, ?_, ?_⟩
        · have h : bs = bs.take j ++ bs[j] :: bs.drop (j + 1) := by
            rw [← List.drop_eq_getElem_cons hj, List.take_append_drop]
          conv => lhs; rw [h]
          simp
        · intro b hb
          obtain ⟨k, hk, e⟩ := List.getElem_of_mem (List.mem_reverse.1 hb)
          rw [List.getElem_drop] at e
          rw [List.length_drop] at hk
          have := h3 (j + 1 + k) (by omega) (by omega)
          rw [e] at this
          simpa using this
      have e : ofL bs v = some bs[j] := by unfold ofL; rw [hB, hf]; rfl
      exact .inr ⟨by unfold ofB; rw [e]; rfl, j, hj, by rw [eI, h1], by unfold ofN; rw [e]; rfl⟩

/-! Within: by sizes. -/
theorem cnt_le {p q : Int → Bool} : ∀ (N : Nat), (∀ v : Int, p v = true → q v = true) → cnt N p ≤ cnt N q
  | 0, _ => Int.le_refl _
  | N + 1, h => by
    have ih := cnt_le N h
    have : b01 (p N) ≤ b01 (q N) := by
      cases hp : p N
      · cases q N <;> decide
      · rw [h _ hp]; decide
    unfold cnt
    omega
theorem cnt_eq {p q : Int → Bool} : ∀ (N : Nat), (∀ v : Int, p v = true → q v = true) → cnt N p = cnt N q → ∀ k : Nat, k < N → p k = q k
  | 0, _, _, k, hk => by omega
  | N + 1, h, he, k, hk => by
    have h1 := cnt_le N h
    have h2 : b01 (p N) ≤ b01 (q N) := by
      cases hp : p N
      · cases q N <;> decide
      · rw [h _ hp]; decide
    unfold cnt at he
    rcases Nat.lt_or_ge k N with h3 | h3
    · exact cnt_eq N h (by omega) k h3
    · have e : k = N := by omega
      subst e
      have h4 : b01 (p k) = b01 (q k) := by omega
      cases hp : p k <;> cases hq : q k
      · rfl
      · rw [hp, hq] at h4; cases h4
      · rw [hp, hq] at h4; cases h4
      · rfl
/-- A set within another of the same size is it. -/
theorem size_sub {t p : List Rg} (gt : Gd (-1) t) (gp : Gd (-1) p) (h : ∀ v, Sc v → In t v → In p v) : sizeL t = sizeL p ↔ t = p := by
  constructor
  · intro e
    obtain ⟨N, hN⟩ : ∃ N : Nat, N = 1114112 := ⟨_, rfl⟩
    rw [size_cnt hN t _ gt, size_cnt hN p _ gp] at e
    have hi : ∀ v : Int, (isB v && inB t v) = true → (isB v && inB p v) = true := by
      intro v hv
      rw [Bool.and_eq_true] at hv ⊢
      exact ⟨hv.1, (inB_iff _ _).2 (h v ((isB_iff v).1 hv.1) ((inB_iff _ _).1 hv.2))⟩
    have hq := cnt_eq N hi e
    refine uniq t p _ _ gt gp fun v hv => ⟨h v hv, fun hp => ?_⟩
    have h0 : 0 ≤ v ∧ v ≤ 1114111 := by unfold Sc at hv; omega
    have := hq v.toNat (by omega)
    rw [Int.toNat_of_nonneg h0.1, (isB_iff v).2 hv, Bool.true_and, Bool.true_and, (inB_iff p v).2 hp] at this
    exact (inB_iff _ _).1 this
  · intro e; rw [e]
theorem size_pos {t : List Rg} (gt : Gd (-1) t) : 0 < sizeL t ↔ t ≠ [] := by
  have h := size_sub (t := []) (p := t) trivial gt (fun v _ hv => absurd hv (In_nil v))
  have h0 : sizeL [] = 0 := rfl
  have h1 := size_nn gt
  rw [h0] at h
  constructor
  · intro hp e
    rw [e, h0] at hp
    omega
  · intro hne
    rcases Int.lt_or_le 0 (sizeL t) with h2 | h2
    · exact h2
    · exact absurd (h.1 (by omega)).symm hne
noncomputable def withR (L P : List (List Rg)) : Option (List (List Int)) := if (allB L && allB P) = true then witA P [] L else none

/-! Bands: stretch by stretch. -/
def cntK (L : List (List Rg)) (x : Int) : Nat → Nat
  | 0 => 0
  | k + 1 => cntK L x k + (if hasB (L.getD k []) x = true then 1 else 0)
def lastK (L : List (List Rg)) (x : Int) : Nat → Nat
  | 0 => 0
  | k + 1 => if hasB (L.getD k []) x = true then k else lastK L x k
theorem cntK_le (L : List (List Rg)) (x : Int) : ∀ k, cntK L x k ≤ k
  | 0 => Nat.le_refl _
  | k + 1 => by
    have := cntK_le L x k
    unfold cntK
    split <;> omega
theorem cntK_zero (L : List (List Rg)) (x : Int) : ∀ k, cntK L x k = 0 ↔ ∀ c, c < k → hasB (L.getD c []) x = false
  | 0 => by simp [cntK]
  | k + 1 => by
    have ih := cntK_zero L x k
    unfold cntK
    cases hk : hasB (L.getD k []) x
    · simp only [Bool.false_eq_true, if_false, Nat.add_zero]
      rw [ih]
      constructor
      · intro h c hc
        rcases Nat.lt_or_ge c k with h1 | h1
        · exact h c h1
        · have e : c = k := by omega
          subst e; exact hk
      · intro h c hc; exact h c (by omega)
    · simp only [if_true]
      constructor
      · intro h; omega
      · intro h; have := h k (by omega); rw [hk] at this; cases this
theorem cntK_one (L : List (List Rg)) (x : Int) : ∀ k, cntK L x k = 1 ↔ ∃ c, c < k ∧ hasB (L.getD c []) x = true ∧ (∀ d, d < k → hasB (L.getD d []) x = true → d = c) ∧ lastK L x k = c
  | 0 => by simp [cntK]
  | k + 1 => by
    have ih := cntK_one L x k
    have iz := cntK_zero L x k
    unfold cntK lastK
    cases hk : hasB (L.getD k []) x
    · simp only [Bool.false_eq_true, if_false, Nat.add_zero]
      rw [ih]
      constructor
      · rintro ⟨c, h1, h2, h3, h4⟩
        refine ⟨c, by omega, h2, fun d hd h5 => ?_, h4⟩
        rcases Nat.lt_or_ge d k with h6 | h6
        · exact h3 d h6 h5
        · have e : d = k := by omega
          subst e; rw [hk] at h5; cases h5
      · rintro ⟨c, h1, h2, h3, h4⟩
        rcases Nat.lt_or_ge c k with h6 | h6
        · exact ⟨c, h6, h2, fun d hd h5 => h3 d (by omega) h5, h4⟩
        · have e : c = k := by omega
          subst e; rw [hk] at h2; cases h2
    · simp only [if_true]
      constructor
      · intro h
        have h0 : cntK L x k = 0 := by omega
        rw [iz] at h0
        refine ⟨k, by omega, hk, fun d hd h5 => ?_, rfl⟩
        rcases Nat.lt_or_ge d k with h6 | h6
        · rw [h0 d h6] at h5; cases h5
        · omega
      · rintro ⟨c, h1, h2, h3, h4⟩
        have h0 : cntK L x k = 0 := by
          rw [iz]
          intro d hd
          cases h5 : hasB (L.getD d []) x
          · rfl
          · have := h3 d (by omega) h5; omega
        omega
theorem cnt_no_two (L : List (List Rg)) (x : Int) (c : Nat) : ∀ {k : Nat}, (∀ d, d < k → hasB (L.getD d []) x = true → d = c) → ¬ 1 < cntK L x k
  | 0, _ => by simp [cntK]
  | k + 1, h => by
    have ih := cnt_no_two L x c (k := k) fun d hd h1 => h d (by omega) h1
    unfold cntK
    cases hk : hasB (L.getD k []) x
    · simp only [Bool.false_eq_true, if_false, Nat.add_zero]
      exact ih
    · simp only [if_true]
      have h0 : cntK L x k = 0 := by
        rw [cntK_zero]
        intro d hd
        cases h5 : hasB (L.getD d []) x
        · rfl
        · have e1 := h d (by omega) h5
          have e2 := h k (by omega) hk
          omega
      omega
theorem once_cnt {L : List (List Rg)} (hg : ∀ s ∈ L, Gd (-1) s) {x : Int} (hx : Sc x) : Once L x ↔ cntK L x L.length = 1 := by
  have hh : ∀ c, c < L.length → (hasB (L.getD c []) x = true ↔ In (L.getD c []) x) := fun c hc => by
    rw [hasB_eq (hg _ (getD_mem hc)) hx, inB_iff]
  rw [cntK_one]
  constructor
  · rintro ⟨c, h1, h2, h3⟩
    have h2' := (hh c h1).2 h2
    have hu : ∀ d, d < L.length → hasB (L.getD d []) x = true → d = c := fun d hd h => h3 d hd ((hh d hd).1 h)
    obtain ⟨e, h4, h5, h6, h7⟩ := (cntK_one L x L.length).1 (by
      rcases Nat.lt_trichotomy (cntK L x L.length) 1 with h | h | h
      · have h0 : cntK L x L.length = 0 := by omega
        rw [cntK_zero] at h0
        rw [h0 c h1] at h2'; cases h2'
      · exact h
      · exact absurd h (cnt_no_two L x c hu))
    exact ⟨c, h1, h2', hu, by rw [h7]; exact hu e h4 h5⟩
  · rintro ⟨c, h1, h2, h3, _⟩
    exact ⟨c, h1, (hh c h1).1 h2, fun d hd h => h3 d hd ((hh d hd).2 h)⟩
end Go.Proofs.Ythaageiflimnnaa
/- Bands up to a stretch. -/
namespace Go.Proofs.Ythaageiflimnnaa
open Go.RowKit Go.BigFrame
set_option linter.unusedVariables false
set_option linter.unusedSimpArgs false

structure BUp (L : List (List Rg)) (ats : List Int) (i : Nat) (acc : List Rg) : Prop where
  emp : acc = [] ↔ i = 0
  zero : ∀ h : 0 < acc.length, acc[0].1 = 0
  inc : ∀ a b (ha : a < acc.length) (hb : b < acc.length), a < b → acc[a].1 < acc[b].1
  fr : ∀ b ∈ acc, ∃ j, ∃ hj : j < ats.length, j < i ∧ b.1 = ats[j]
  cl : ∀ b ∈ acc, 0 ≤ b.2 ∧ b.2 < (L.length : Int)
  here : ∀ a (ha : a < acc.length) v, Sc v → acc[a].1 ≤ v → (∀ hh : a + 1 < acc.length, v < acc[a + 1].1) → (∀ hi : i < ats.length, v < ats[i]) → In (L.getD acc[a].2.toNat []) v
  chg : ∀ a (h : a + 1 < acc.length), acc[a].2 ≠ acc[a + 1].2
  once : ∀ v, Sc v → (∀ hi : i < ats.length, v < ats[i]) → (0 < i) → Once L v
theorem bup0 (L : List (List Rg)) (ats : List Int) : BUp L ats 0 [] where
  emp := by simp
  zero := fun h => by simp at h
  inc := fun a b ha => by simp at ha
  fr := fun b hb => by simp at hb
  cl := fun b hb => by simp at hb
  here := fun a ha => by simp at ha
  chg := fun a h => by simp at h
  once := fun v _ _ h => by omega
/-- What holds at a stretch's first holds in it. -/
theorem once_stretch {L : List (List Rg)} {ats : List Int} (hS : Sts L ats) {i : Nat} (hi : i < ats.length) {v : Int} (hv : Sc v) (h1 : ats[i] ≤ v) (h2 : ∀ hh : i + 1 < ats.length, v < ats[i + 1]) (c : Nat) (hc : c < L.length) : In (L.getD c []) v ↔ In (L.getD c []) ats[i] := by
  have h := (ek_iff L v ats[i]).1 (hS.const i hi v hv h1 h2) _ (getD_mem hc)
  rw [← inB_iff, ← inB_iff, h]
theorem bup_once {L : List (List Rg)} {ats : List Int} (hS : Sts L ats) {i : Nat} (hi : i < ats.length) {acc : List Rg} (h : BUp L ats i acc) (ho : Once L ats[i]) : ∀ v, Sc v → (∀ hi : i + 1 < ats.length, v < ats[i + 1]) → Once L v := by
  intro v hv h2
  rcases Int.lt_or_le v ats[i] with h1 | h1
  · rcases Nat.eq_zero_or_pos i with h0 | h0
    · subst h0
      obtain ⟨_, e⟩ := zero_first hS.inc hS.zero
      unfold Sc at hv
      omega
    · exact h.once v hv (fun _ => h1) h0
  · obtain ⟨c, hc, hin, hu⟩ := ho
    exact ⟨c, hc, (once_stretch hS hi hv h1 h2 c hc).2 hin, fun d hd hdi => hu d hd ((once_stretch hS hi hv h1 h2 d hd).1 hdi)⟩
/-- The class goes on. -/
theorem bup_same {L : List (List Rg)} {ats : List Int} (hS : Sts L ats) {i : Nat} (hi : i < ats.length) {acc : List Rg} (h : BUp L ats i acc) (ho : Once L ats[i]) {c : Nat} (hc : c < L.length) (hin : In (L.getD c []) ats[i]) (z : Nat) (hz : acc.length = z + 1) (he : (acc[z]'(by omega)).2 = (c : Int)) : BUp L ats (i + 1) acc where
  emp := by
    constructor
    · intro e; rw [e] at hz; simp at hz
    · intro e; omega
  zero := h.zero
  inc := h.inc
  fr := fun b hb => by obtain ⟨j, hj, h1, h2⟩ := h.fr b hb; exact ⟨j, hj, by omega, h2⟩
  cl := h.cl
  here := fun a ha v hv h1 h2 h3 => by
    rcases Int.lt_or_le v ats[i] with h4 | h4
    · exact h.here a ha v hv h1 h2 (fun _ => h4)
    · have ea : a = z := by
        rcases Nat.lt_or_ge (a + 1) acc.length with h5 | h5
        · have h6 := h2 h5
          obtain ⟨j, hj, h7, h8⟩ := h.fr _ (List.getElem_mem h5)
          have := hS.inc.mono j i hj hi h7
          omega
        · omega
      subst ea
      rw [he, Int.toNat_natCast]
      exact (once_stretch hS hi hv h4 h3 c hc).2 hin
  chg := h.chg
  once := fun v hv h2 _ => bup_once hS hi h ho v hv h2
/-- A new class. -/
theorem bup_new {L : List (List Rg)} {ats : List Int} (hS : Sts L ats) {i : Nat} (hi : i < ats.length) {acc : List Rg} (h : BUp L ats i acc) (ho : Once L ats[i]) {c : Nat} (hc : c < L.length) (hin : In (L.getD c []) ats[i]) (hne : ∀ z (hz : z < acc.length), acc.length = z + 1 → acc[z].2 ≠ (c : Int)) : BUp L ats (i + 1) (acc ++ [(ats[i], (c : Int))]) where
  emp := by simp
  zero := fun _ => by
    by_cases h0 : acc = []
    · have e := h.emp.1 h0
      subst h0
      subst e
      obtain ⟨_, e⟩ := zero_first hS.inc hS.zero
      simpa using e
    · have hp := List.length_pos_iff.2 h0
      rw [List.getElem_append_left hp]
      exact h.zero hp
  inc := fun a b ha hb hab => by
    rw [List.length_append] at ha hb
    simp only [List.length_cons, List.length_nil] at ha hb
    rcases Nat.lt_or_ge b acc.length with h1 | h1
    · rw [List.getElem_append_left h1, List.getElem_append_left (by omega)]
      exact h.inc a b (by omega) h1 hab
    · rw [List.getElem_append_left (by omega), List.getElem_append_right h1]
      obtain ⟨j, hj, h2, h3⟩ := h.fr _ (List.getElem_mem (show a < acc.length by omega))
      have h4 := hS.inc.mono j i hj hi h2
      have e : b - acc.length = 0 := by omega
      simp only [e, List.getElem_cons_zero]
      omega
  fr := fun b hb => by
    rcases List.mem_append.1 hb with hb | hb
    · obtain ⟨j, hj, h1, h2⟩ := h.fr b hb; exact ⟨j, hj, by omega, h2⟩
    · rw [List.mem_singleton] at hb; subst hb; exact ⟨i, hi, by omega, rfl⟩
  cl := fun b hb => by
    rcases List.mem_append.1 hb with hb | hb
    · exact h.cl b hb
    · rw [List.mem_singleton] at hb; subst hb; simp only; omega
  here := fun a ha v hv h1 h2 h3 => by
    rw [List.length_append] at ha
    simp only [List.length_cons, List.length_nil] at ha
    rcases Nat.lt_or_ge a acc.length with h4 | h4
    · rw [List.getElem_append_left h4] at h1 ⊢
      have h5 : v < ats[i] := by
        rcases Nat.lt_or_ge (a + 1) acc.length with h6 | h6
        · have h7 := h2 (by simp; omega)
          rw [List.getElem_append_left h6] at h7
          obtain ⟨j, hj, h8, h9⟩ := h.fr _ (List.getElem_mem h6)
          have := hS.inc.mono j i hj hi h8
          omega
        · have h7 := h2 (by simp; omega)
          rw [List.getElem_append_right h6] at h7
          have e : a + 1 - acc.length = 0 := by omega
          simp only [e, List.getElem_cons_zero] at h7
          exact h7
      refine h.here a h4 v hv h1 (fun hh => ?_) (fun _ => h5)
      have h7 := h2 (by simp; omega)
      rw [List.getElem_append_left hh] at h7
      exact h7
    · have e : a - acc.length = 0 := by omega
      rw [List.getElem_append_right h4] at h1 ⊢
      simp only [e, List.getElem_cons_zero] at h1 ⊢
      rw [Int.toNat_natCast]
      exact (once_stretch hS hi hv h1 h3 c hc).2 hin
  chg := fun a ha => by
    rw [List.length_append] at ha
    simp only [List.length_cons, List.length_nil] at ha
    rcases Nat.lt_or_ge (a + 1) acc.length with h4 | h4
    · rw [List.getElem_append_left h4, List.getElem_append_left (by omega)]
      exact h.chg a h4
    · have e : a + 1 - acc.length = 0 := by omega
      rw [List.getElem_append_left (by omega), List.getElem_append_right h4]
      simp only [e, List.getElem_cons_zero]
      exact hne a (by omega) (by omega)
  once := fun v hv h2 _ => bup_once hS hi h ho v hv h2
theorem bup_end {L : List (List Rg)} {ats : List Int} (hS : Sts L ats) {acc : List Rg} (h : BUp L ats ats.length acc) : (∀ v, Sc v → Once L v) ∧ BandsOf L acc := by
  obtain ⟨h0, _⟩ := zero_first hS.inc hS.zero
  have hp : 0 < acc.length := List.length_pos_iff.2 (fun e => by have := h.emp.1 e; omega)
  refine ⟨fun v hv => h.once v hv (fun hi => by omega) h0, ⟨hp, h.zero hp⟩, h.inc, fun b hb => ?_, h.cl, fun a ha v hv h1 h2 => h.here a ha v hv h1 h2 (fun hi => by omega), h.chg⟩
  obtain ⟨j, hj, _, e⟩ := h.fr b hb
  rw [e]
  exact hS.sc _ (List.getElem_mem hj)
/-! One answer for program and document. -/
noncomputable def partsR (L : List (List Rg)) : Option (List (List Rg)) :=
  @dite _ (∃ P, allB L = true ∧ P.length ≤ 256 ∧ Parts (Ek L) P) (Classical.propDecidable _) (fun h => some (Classical.choose h)) (fun _ => none)
theorem partsR_some {L P : List (List Rg)} (h1 : allB L = true) (h2 : P.length ≤ 256) (h3 : Parts (Ek L) P) : partsR L = some P := by
  have h : ∃ P, allB L = true ∧ P.length ≤ 256 ∧ Parts (Ek L) P := ⟨P, h1, h2, h3⟩
  unfold partsR
  rw [dif_pos h]
  exact congrArg some ((Classical.choose_spec h).2.2.uniq (fun _ _ _ _ => Iff.rfl) h3)
theorem partsR_none {L : List (List Rg)} (h : allB L = false ∨ Many (Ek L)) : partsR L = none := by
  unfold partsR
  rw [dif_neg]
  rintro ⟨P, h1, h2, h3⟩
  rcases h with h | h
  · rw [h] at h1; cases h1
  · exact many_parts h3 h h2
noncomputable def bandsR (L : List (List Rg)) : Option (List Rg) :=
  @dite _ (∃ bs, (allB L = true ∧ [] ∉ L ∧ ∀ v, Sc v → Once L v) ∧ BandsOf L bs) (Classical.propDecidable _) (fun h => some (Classical.choose h)) (fun _ => none)
theorem bandsR_some {L : List (List Rg)} {bs : List Rg} (h1 : allB L = true) (h2 : [] ∉ L) (h3 : ∀ v, Sc v → Once L v) (h4 : BandsOf L bs) : bandsR L = some bs := by
  have h : ∃ bs, (allB L = true ∧ [] ∉ L ∧ ∀ v, Sc v → Once L v) ∧ BandsOf L bs := ⟨bs, ⟨h1, h2, h3⟩, h4⟩
  unfold bandsR
  rw [dif_pos h]
  exact congrArg some (bands_uniq h3 (Classical.choose_spec h).2 h4)
theorem bandsR_none {L : List (List Rg)} (h : ¬ (allB L = true ∧ [] ∉ L ∧ ∀ v, Sc v → Once L v)) : bandsR L = none := by
  unfold bandsR
  rw [dif_neg]
  rintro ⟨_, h1, _⟩
  exact h h1
end Go.Proofs.Ythaageiflimnnaa
/- What the document's Of returns; sets copied. -/
namespace Go.Proofs.Ythaageiflimnnaa
open Go.RowKit Go.BigFrame
set_option linter.unusedVariables false
set_option linter.unusedSimpArgs false

set_option maxHeartbeats 1000000 in
theorem refOf_n (bs : List Rg) (n : Nat) (hl : bs.length = n) (A : Option Addr) (c : Nat) (v : Int) (w : World) (hR : Reads w w.heap.size 2 A n (rcells bs)) (hn : n ≤ 1000000) :
    Calls Try.prog 16 #[.slice A n c, .int .i64 v] w fun e w' => e = .returned (.int .i64 (ofI bs v)) ∧ w = w' := by
  have HR := Lib.hid hR
  have HL := Lib.hid hl
  have his := fun W => refIs_any v W
  clear hR hl
  cases hB : isB v
  · rw [hB] at his
    have HF : Hid (ofI bs v = -1) := Lib.hid (by unfold ofI; rw [hB]; rfl)
    rw [HF.out]
    clear HF hB
    go_enter Try.func16, Try.ntmps16
    go_wp2_with fail
    refine wp_loop_rounds 1 ?_
    rw [rounds_succ]
    by_cases h0 : n = 0
    · subst h0
      go_wp2_with fail
      go_ret
      exact ⟨rfl, rfl⟩
    · have hd : decide ((0 : Int) < (n : Int)) = true := decide_eq_true (by omega)
      have hp : 0 < n := by omega
      go_wp2_with fail
      refine (his _).mono ?_
      rintro e w1 ⟨rfl, rfl⟩
      go_wp2_with fail
      go_ret
      exact ⟨rfl, rfl⟩
  · rw [hB] at his
    have HF : Hid (ofI bs v = ofA v (-1) 0 bs) := Lib.hid (by unfold ofI; rw [hB]; rfl)
    rw [HF.out]
    clear HF hB
    go_enter Try.func16, Try.ntmps16
    go_wp2_with fail
    go_loopw [5, 6] (fun vo vi wr => ∃ (k : Nat) (o : Int), k ≤ n ∧ vo = .int .i64 o ∧ vi = .int .i64 k ∧ wr = w ∧ Hid (ofA v (-1) 0 bs = ofA v o k (bs.drop k))) (fun _ i _ => n - (intOf i).toNat)
    case atStart => exact ⟨0, -1, Nat.zero_le _, rfl, rfl, rfl, Lib.hid rfl⟩
    case round =>
      obtain ⟨k, o, hk, rfl, rfl, rfl, HE⟩ := hrel
      by_cases hlt : k < n
      · have kl : k < bs.length := by rw [HL.out]; exact hlt
        obtain ⟨b, f, rfl, hbb, p0, p1⟩ := HR.out.rg kl
        have HD : Hid (bs.drop k = bs[k] :: bs.drop (k + 1)) := Lib.hid (List.drop_eq_getElem_cons kl)
        generalize bs[k] = x at *
        obtain ⟨x0, x1⟩ := x
        simp only [] at p0 p1
        have hd : decide ((k : Int) < (n : Int)) = true := decide_eq_true (by omega)
        by_cases hx : x0 ≤ v
        · have HE1 : Hid (ofA v (-1) 0 bs = ofA v (k : Int) (k + 1) (bs.drop (k + 1))) := Lib.hid (by
            rw [HE.out, HD.out]
            show ofA v (if x0 ≤ v then (k : Int) else o) (k + 1) _ = _
            rw [if_pos hx])
          clear HE HD
          go_wp2_with fail
          refine (his _).mono ?_
          rintro e w1 ⟨rfl, rfl⟩
          go_wp2_with fail
          go_roundw
          case rel => exact ⟨k + 1, (k : Int), by omega, rfl, by go_num, (by first | rfl | trivial), HE1⟩
          case measure => simp [intOf]; omega
        · have HE1 : Hid (ofA v (-1) 0 bs = ofA v o (k + 1) (bs.drop (k + 1))) := Lib.hid (by
            rw [HE.out, HD.out]
            show ofA v (if x0 ≤ v then (k : Int) else o) (k + 1) _ = _
            rw [if_neg hx])
          clear HE HD
          go_wp2_with fail
          refine (his _).mono ?_
          rintro e w1 ⟨rfl, rfl⟩
          go_wp2_with fail
          go_roundw
          case rel => exact ⟨k + 1, o, by omega, rfl, by go_num, (by first | rfl | trivial), HE1⟩
          case measure => simp [intOf]; omega
      · have hd : decide ((k : Int) < (n : Int)) = false := decide_eq_false (by omega)
        have HX : Hid (ofA v (-1) 0 bs = o) := Lib.hid (by rw [HE.out, List.drop_of_length_le (by rw [HL.out]; omega)]; rfl)
        clear HE
        go_wp2_with fail
        go_ret
        exact ⟨by rw [HX.out]; rfl, (by first | rfl | trivial)⟩

/-- Sets of the same ranges, in new rows. -/
def OutCp (L : List (List Rg)) (n : Nat) (w : World) (e : Ending) (w' : World) : Prop :=
  ∃ (A : Option Addr) (c : Nat) (H : List Hd), e = .returned (.slice A n c) ∧ setsOf H = L ∧ Nest w' w'.heap.size A n H ∧ Shp A n c ∧ Below w.heap.size w w'
theorem made50 (w : World) (base : Nat) (h : base ≤ w.heap.size) : (w.alloc (.cells #[] 50)).ownsRow base 50 2 (.slice (some ⟨w.heap.size, 0, none⟩) 0 0) 0 [] := World.ownsRow_made (size := 2) w #[] 0 h (Nat.zero_le _) (by simp)
def CpRel (L : List (List Rg)) (n : Nat) (w : World) (vo vi : Value) (wr : World) : Prop :=
  ∃ (k : Nat) (A2 : Option Addr) (c2 : Nat) (HO : List Hd), k ≤ n ∧ vo = .slice A2 k c2 ∧ vi = .int .i64 k ∧ Hid (setsOf HO = L.take k) ∧ Hid (OwnS wr w.heap.size A2 k c2 HO) ∧ Below w.heap.size w wr
set_option maxHeartbeats 2000000 in
theorem ownSets_n (H : List Hd) (n : Nat) (A : Option Addr) (c : Nat) (w : World) (hN : Nest w w.heap.size A n H) (hn : n ≤ 1000) (hm : ∀ h ∈ H, h.n ≤ 1000) :
    Calls Try.prog 10 #[.slice A n c] w (OutCp (setsOf H) n w) := by
  obtain ⟨i0, hi0, hz0, hz1, hz2⟩ := info_parts info41
  obtain ⟨j0, hj0, hy0, hy1, hy2⟩ := info_parts info48
  have HN := Lib.hid hN
  have HM := Lib.hid hm
  clear hN hm
  go_enter Try.func10, Try.ntmps10
  go_wp2_with fail
  go_loopw [3, 4] (fun vo vi wr => CpRel (setsOf H) n w vo vi wr) (fun _ i _ => n - (intOf i).toNat)
  case atStart => exact ⟨0, none, 0, [], Nat.zero_le _, rfl, rfl, Lib.hid rfl, Lib.hid (OwnS.nil _ _), Below.refl _ _⟩
  case round =>
    obtain ⟨k, A2, c2, HO, hk, rfl, rfl, HE, HOw, hb⟩ := hrel
    have hsz := hb.size
    by_cases hlt : k < n
    · have kl : k < H.length := by rw [HN.out.1]; exact hlt
      have kL : k < (setsOf H).length := by rw [setsOf_len]; exact kl
      obtain ⟨b, o, rfl, hbb, p0, q1, q2, q3⟩ := (HN.out.below hb).at kl
      have hm1 := HM.out _ (List.getElem_mem kl)
      have HE1 : Hid (setsOf HO ++ [H[k].s] = (setsOf H).take (k + 1)) := Lib.hid (by
        rw [List.take_succ_eq_append_getElem kL, HE.out]
        simp [setsOf])
      have HQ1 := Lib.hid q1
      have HQ2 := Lib.hid q2.1
      have HQ3 := Lib.hid ((q3.more hsz).alloc (Nat.le_refl _) (.cells #[] 50))
      clear q1 q2 q3 HE kL
      generalize H[k] = x at *
      obtain ⟨xa, xn, xc, xs⟩ := x
      simp only [] at p0 HE1 hm1 HQ1 HQ2 HQ3
      have p0' := cell_alloc (.cells #[] 50) p0
      go_wp2_with (at_builtin; refine wpList_append_src rfl _ _ 48 rfl wr.heap.size 50 i0 _ 2 16 Try.underlying48 hi0 hz0 hz1 hz2 rfl (by decide) _ _ _ rfl (made50 wr wr.heap.size (Nat.le_refl _)) xa xn xc wr.heap.size (rcells xs) rfl HQ2.out HQ3.out (rcells_one xs) ?c3 ?c4 ?c5 ?_)
      case c3 => unfold maxLen; omega
      case c4 => omega
      case c5 => simp
      intro A3 c3 w3 hown3 hn3 hgrow3
      have g3 : Below wr.heap.size wr w3 := below_grown (w := wr.alloc _) (below_new _ _) (by simp) (made50 wr wr.heap.size (Nat.le_refl _)) hgrow3
      try simp only [Nat.zero_add, List.nil_append] at hown3
      try simp only [Nat.zero_add]
      have b3 := hb.trans (g3.mono hsz)
      have hs3 := b3.size
      have HOw3 := Lib.hid (HOw.out.on g3)
      have HX3 : Hid ((⟨A3, xn, c3, xs⟩ : Hd).s.length = (⟨A3, xn, c3, xs⟩ : Hd).n ∧ w3.ownsRow w.heap.size 50 2 (⟨A3, xn, c3, xs⟩ : Hd).v (⟨A3, xn, c3, xs⟩ : Hd).n (rcells (⟨A3, xn, c3, xs⟩ : Hd).s)) := Lib.hid ⟨HQ1.out, own_base hown3 hsz⟩
      have hownO := HOw3.out.out
      clear hown3 hgrow3 g3 hb hsz HOw p0 p0' HQ1 HQ2 HQ3
      go_wp2_with (at_builtin; refine wpList_append_lies _ rfl _ _ 22 rfl w.heap.size 48 j0 _ 1 24 Try.underlying22 hj0 hy0 hy1 hy2 rfl (by decide) _ _ _ rfl (hownO.alloc _) ⟨w3.heap.size, 0, none⟩ 1 1 [.slice A3 xn c3] rfl rfl ?k1 ?k2 (by omega) ?k3 ?k4 ?k5 _ rfl ?_)
      case k2 => first | rfl | (intro u hu; simp at hu; subst hu; rfl)
      case k3 => unfold maxLen; omega
      case k4 => omega
      case k5 => first | omega | (simp; omega)
      intro g9 cap9 w9 hown9 hgrow9 hat9 hlt9
      have HOw9 : Hid (OwnS w9 w.heap.size (some ⟨g9, 0, none⟩) (k + 1) cap9 (HO ++ [⟨A3, xn, c3, xs⟩])) := Lib.hid ((HOw3.out.on (below_new w3 (.cells #[.slice A3 xn c3] 48))).snoc ⟨HX3.out.1, HX3.out.2.alloc _⟩ hown9 hgrow9)
      have b9 : Below w.heap.size w w9 := below_grown (b3.alloc hs3 _) (by simp; omega) (hownO.alloc _) hgrow9
      have HE9 : Hid (setsOf (HO ++ [(⟨A3, xn, c3, xs⟩ : Hd)]) = (setsOf H).take (k + 1)) := Lib.hid (by rw [← HE1.out]; simp [setsOf])
      clear hown9 hgrow9 hat9 HX3 hownO HOw3 b3 hs3 HE1
      go_wp2_with fail
      go_roundw
      case rel => exact ⟨k + 1, some ⟨g9, 0, none⟩, cap9, HO ++ [⟨A3, xn, c3, xs⟩], by omega, by first | rfl | simp, by go_num, HE9, HOw9, b9⟩
      case measure => simp [intOf]; omega
    · have ek : k = n := by omega
      subst ek
      have HF : Hid (OutCp (setsOf H) k w (.returned (.slice A2 k c2)) wr) := Lib.hid ⟨A2, c2, HO, rfl, by rw [HE.out, List.take_of_length_le (by rw [setsOf_len, HN.out.1]; omega)], HOw.out.nest.1, HOw.out.nest.2, hb⟩
      clear HE HOw
      go_wp2_with fail
      go_ret
      exact HF.out
end Go.Proofs.Ythaageiflimnnaa
/- What the document's Within returns. -/
namespace Go.Proofs.Ythaageiflimnnaa
open Go.RowKit Go.BigFrame
set_option linter.unusedVariables false
set_option linter.unusedSimpArgs false

theorem isSet_gd {t : List Rg} {p : Int → Prop} (h : IsSet t p) : Gd (-1) t := h.1
theorem field56' (A : Option Addr) (n c : Nat) (y : Bool) (W : World) : (Instr.field 56 (.agg #[.slice A n c, .bool y]) 0).run Try.prog W = .ok (.slice A n c) W := by kernel_rfl
def OutW (r : Option (List (List Int))) (w : World) (e : Ending) (w' : World) : Prop :=
  match r with
  | some r => ∃ (A : Option Addr) (c z : Nat) (H : List Hi), e = .returned (.tuple #[.slice A z c, .bool true]) ∧ listsOf H = r ∧ NestI w' w'.heap.size A z H ∧ Below w.heap.size w w'
  | none => OutNil w e w'
theorem outW_none {r : Option (List (List Int))} {w : World} {e : Ending} {w' : World} (hr : r = none) (h : OutNil w e w') : OutW r w e w' := by subst hr; exact h
theorem outW_some {r : Option (List (List Int))} {l : List (List Int)} {w : World} {e : Ending} {w' : World} (hr : r = some l) (h : ∃ (A : Option Addr) (c z : Nat) (H : List Hi), e = .returned (.tuple #[.slice A z c, .bool true]) ∧ listsOf H = l ∧ NestI w' w'.heap.size A z H ∧ Below w.heap.size w w') : OutW r w e w' := by subst hr; exact h
theorem withR_no {L P : List (List Rg)} (h : (allB L && allB P) = false) : withR L P = none := by unfold withR; rw [h]; rfl
theorem withR_wit {L P : List (List Rg)} (h : witA P [] L = none) : withR L P = none := by unfold withR; rw [h]; split <;> rfl
def W2Rel (L P : List (List Rg)) (H : List Hd) (m : Nat) (w : World) (vo vi : Value) (wr : World) : Prop :=
  ∃ (k : Nat) (A2 : Option Addr) (c2 : Nat) (HH : List Hi), k ≤ m ∧ vo = .slice A2 k c2 ∧ vi = .int .i64 k ∧ Hid (witA P [] L = witA P (listsOf HH) (L.drop k)) ∧ Hid (allB (setsOf (H.take k)) = true) ∧ Hid (OwnI wr w.heap.size A2 k c2 HH) ∧ Below w.heap.size w wr
def W3Rel (s : List Rg) (P : List (List Rg)) (n : Nat) (w : World) (vo vi : Value) (wr : World) : Prop :=
  ∃ (q z : Nat) (A3 : Option Addr) (c3 : Nat) (acc : List Int), q ≤ n ∧ vo = .slice A3 z c3 ∧ vi = .int .i64 q ∧ z ≤ q ∧ Hid (acc.length = z) ∧ Hid (insA s [] 0 P = insA s acc q (P.drop q)) ∧ wr.ownsRow w.heap.size 3 1 (.slice A3 z c3) z (icells acc) ∧ Below w.heap.size w wr

set_option maxRecDepth 100000 in
set_option maxHeartbeats 8000000 in
theorem refWithin_n (G : List Hd) (m : Nat) (B : Option Addr) (d : Nat) (H : List Hd) (n : Nat) (A : Option Addr) (c : Nat) (w : World) (hG : Nest w w.heap.size B m G) (hN : Nest w w.heap.size A n H) (hmm : m ≤ 1000) (hn : n ≤ 1000) (hmG : ∀ h ∈ G, h.n ≤ 1000) (hmH : ∀ h ∈ H, h.n ≤ 1000) :
    Calls Try.prog 18 #[.slice B m d, .slice A n c] w (OutW (withR (setsOf G) (setsOf H)) w) := by
  obtain ⟨i0, hi0, hz0, hz1, hz2⟩ := info_parts info3
  obtain ⟨j0, hj0, hy0, hy1, hy2⟩ := info_parts info45
  have HG := Lib.hid hG
  have HN := Lib.hid hN
  have HMG := Lib.hid hmG
  have HMH := Lib.hid hmH
  clear hG hN hmG hmH
  go_enter Try.func18, Try.ntmps18
  go_wp2_with fail
  go_loopw [7] (fun i wr => ∃ (k : Nat), k ≤ n ∧ i = .int .i64 k ∧ Below w.heap.size w wr ∧ Hid (allB (setsOf (H.take k)) = true)) (fun i _ => n - (intOf i).toNat)
  case atStart => exact ⟨0, Nat.zero_le _, rfl, Below.refl _ _, Lib.hid rfl⟩
  case round =>
    obtain ⟨k, hk, rfl, hb, HB⟩ := hrel
    have hsz := hb.size
    by_cases hlt : k < n
    · have kl : k < H.length := by rw [HN.out.1]; exact hlt
      obtain ⟨b, o, rfl, hbb, p0, q1, q2, q3⟩ := (HN.out.below hb).at kl
      have HX := Lib.hid (refGood_n _ _ q1 H[k].a H[k].c wr (q3.more hsz) (by have := HMH.out _ (List.getElem_mem kl); omega))
      have HT := Lib.hid (allB_take H k kl)
      have HF := Lib.hid (allB_at H k kl)
      generalize H[k] = x at *
      obtain ⟨xa, xn, xc, xs⟩ := x
      simp only [] at p0 HX HT HF
      clear q1 q2 q3
      cases hg : goodB xs
      · have HF' : Hid (withR (setsOf G) (setsOf H) = none) := Lib.hid (withR_no (by rw [HF.out hg, Bool.and_false]))
        rw [hg] at HX
        clear HT HF HB hg
        go_wp2_with fail
        refine HX.out.mono ?_
        rintro e w1 ⟨rfl, g1⟩
        go_wp2_with fail
        go_ret2
        exact outW_none HF'.out ⟨rfl, hb.trans (g1.mono hsz)⟩
      · have HT' : Hid (allB (setsOf (H.take (k + 1))) = true) := Lib.hid (by rw [HT.out, HB.out, hg]; rfl)
        rw [hg] at HX
        clear HT HF HB hg
        go_wp2_with fail
        refine HX.out.mono ?_
        rintro e w1 ⟨rfl, g1⟩
        have b1 := hb.trans (g1.mono hsz)
        clear HX g1
        go_wp2_with fail
        go_roundw
        case rel => exact ⟨k + 1, by omega, by go_num, b1, HT'⟩
        case measure => simp [intOf]; omega
    · have HAll : Hid (allB (setsOf H) = true) := Lib.hid (by
        have h := HB.out
        rwa [List.take_of_length_le (by rw [HN.out.1]; omega)] at h)
      have HGd := Lib.hid (fun (h : Hd) (hh : h ∈ H) => (allB_iff _).1 HAll.out h.s (List.mem_map.2 ⟨h, hh, rfl⟩))
      clear HB
      go_wp2_with fail
      rename World => w2
      go_loopw [6, 8] (fun vo vi wr => W2Rel (setsOf G) (setsOf H) G m w vo vi wr) (fun _ i _ => m - (intOf i).toNat)
      case atStart => exact ⟨0, none, 0, [], Nat.zero_le _, rfl, rfl, Lib.hid rfl, Lib.hid rfl, Lib.hid (OwnI.nil _ _), hb⟩
      case round =>
        clear hb hsz
        obtain ⟨k, A2, c2, HH, hk, rfl, rfl, HE, HB, HO, hb⟩ := hrel
        have hsz := hb.size
        by_cases hlt : k < m
        · have kl : k < G.length := by rw [HG.out.1]; exact hlt
          have HCell : Hid (∀ W : World, Below w.heap.size w W → ∃ bl ol, B = some ⟨bl, ol, none⟩ ∧ W.cell? ⟨bl, ol + k, none⟩ = some (.slice G[k].a G[k].n G[k].c)) := Lib.hid (fun W g => by
            obtain ⟨b, o, e, _, p, _⟩ := (HG.out.below g).at kl
            exact ⟨b, o, e, p⟩)
          obtain ⟨bl, ol, e1, hbl, pl, q1, q2, q3⟩ := (HG.out.below hb).at kl
          have hm1 := HMG.out _ (List.getElem_mem kl)
          have HRd : Hid (∀ W : World, Below w.heap.size w W → Reads W W.heap.size 2 G[k].a G[k].n (rcells G[k].s)) := Lib.hid (fun W g => (HG.out.on g).2.2 _ (List.getElem_mem kl) |>.2.2)
          have HLs := Lib.hid q1
          have HSs := Lib.hid q2
          have HX := Lib.hid (refGood_n _ _ q1 G[k].a G[k].c wr (q3.more hsz) (by omega))
          have HT := Lib.hid (allB_take G k kl)
          have HF := Lib.hid (allB_at G k kl)
          have HDr : Hid ((setsOf G).drop k = G[k].s :: (setsOf G).drop (k + 1)) := Lib.hid (by
            rw [List.drop_eq_getElem_cons (by rw [setsOf_len]; exact kl)]
            simp [setsOf])
          clear q1 q2 q3
          generalize G[k] = x at *
          obtain ⟨sa, sn, sc_, ss⟩ := x
          simp only [] at pl hm1 HX HT HF HCell HRd HLs HSs HDr
          subst e1
          cases hg : goodB ss
          · have HF' : Hid (withR (setsOf G) (setsOf H) = none) := Lib.hid (withR_no (by rw [HF.out hg, Bool.false_and]))
            rw [hg] at HX
            clear HT HF HB hg HE HO
            go_wp2_with fail
            refine HX.out.mono ?_
            rintro e w3 ⟨rfl, g3⟩
            go_wp2_with fail
            go_ret2
            exact outW_none HF'.out ⟨rfl, hb.trans (g3.mono hsz)⟩
          · have HT' : Hid (allB (setsOf (G.take (k + 1))) = true) := Lib.hid (by rw [HT.out, HB.out, hg]; rfl)
            have hgs := (goodB_iff ss).1 hg
            have HGs := Lib.hid hgs
            have HE1 : Hid (witA (setsOf H) [] (setsOf G) = match insA ss [] 0 (setsOf H) with
              | some l => witA (setsOf H) (listsOf HH ++ [l]) ((setsOf G).drop (k + 1))
              | none => none) := Lib.hid (by rw [HE.out, HDr.out]; rfl)
            rw [hg] at HX
            clear HT HF HB hg hgs HE HDr
            go_wp2_with fail
            refine HX.out.mono ?_
            rintro e w3 ⟨rfl, g3⟩
            have b3 := hb.trans (g3.mono hsz)
            have hs3 := b3.size
            have HO3 := Lib.hid (HO.out.on g3)
            clear HX g3 hb hsz HO pl
            go_wp2_with fail
            go_loopw [9, 10] (fun vo vi wr => W3Rel ss (setsOf H) n w3 vo vi wr) (fun _ i _ => n - (intOf i).toNat)
            case atStart => exact ⟨0, 0, none, 0, [], Nat.zero_le _, rfl, rfl, Nat.le_refl _, Lib.hid rfl, Lib.hid rfl, World.ownsRow_nil _ _ _ _, Below.refl _ _⟩
            case round =>
              obtain ⟨q, z, A3, c3, acc, hq, rfl, rfl, hzq, HLz, HI, hown, hb3⟩ := hrel
              have hsz3 := hb3.size
              have hbw := b3.trans (hb3.mono hs3)
              by_cases hql : q < n
              · have ql : q < H.length := by rw [HN.out.1]; exact hql
                obtain ⟨bl', ol', e1, pl⟩ := HCell.out wr hbw
                injection e1 with e1
                injection e1 with e2 e3
                subst e2 e3
                obtain ⟨bp, op, e4, hbp, pp, q1, q2, q3⟩ := (HN.out.below hbw).at ql
                have hm2 := HMH.out _ (List.getElem_mem ql)
                have hgp := HGd.out _ (List.getElem_mem ql)
                have HDr : Hid ((setsOf H).drop q = H[q].s :: (setsOf H).drop (q + 1)) := Lib.hid (by
                  rw [List.drop_eq_getElem_cons (by rw [setsOf_len]; exact ql)]
                  simp [setsOf])
                have hsw := hbw.size
                have HBo : Hid (∀ W : World, W.cell? ⟨bl, ol + k, none⟩ = some (.slice sa sn sc_) ∧ W.cell? ⟨bp, op + q, none⟩ = some (.slice H[q].a H[q].n H[q].c) ∧ Below wr.heap.size wr W → Calls Try.prog 26 #[.slice sa sn sc_, .slice H[q].a H[q].n H[q].c] W fun e w' => ∃ (t : List Rg) (kt : Nat) (At : Option Addr) (ct : Nat), e = .returned (.agg #[.slice At kt ct, .bool true]) ∧ t.length = kt ∧ kt ≤ 10000 ∧ IsSet t (fun v => In ss v ∧ In H[q].s v) ∧ Reads w' w'.heap.size 2 At kt (rcells t) ∧ (w'.cell? ⟨bl, ol + k, none⟩ = some (.slice sa sn sc_) ∧ w'.cell? ⟨bp, op + q, none⟩ = some (.slice H[q].a H[q].n H[q].c) ∧ Below wr.heap.size wr w')) := Lib.hid (fun W hW =>
                  (refBoth_good ss H[q].s sn H[q].n HLs.out q1 sa H[q].a sc_ H[q].c W HSs.out.1 q2.1 (HRd.out W (hbw.trans (hW.2.2.mono hsw))) (reads_on (q3.more hsw) hW.2.2) (by omega) (by omega) HGs.out hgp).mono (fun e w' ⟨t, kt, At, ct, h1, h2, h3, h4, h5, h6, h7⟩ => ⟨t, kt, At, ct, h1, h2, h3, h5.conv (fun v _ => by unfold twP; simp), h6, kept_cell h7 hW.1, kept_cell h7 hW.2.1, hW.2.2.trans (h7.mono hW.2.2.size)⟩))
                have HSz : Hid (∀ (W : World) (t : List Rg) (kt : Nat) (At : Option Addr) (ct : Nat), t.length = kt → kt ≤ 10000 → Gd (-1) t → Reads W W.heap.size 2 At kt (rcells t) → (W.cell? ⟨bl, ol + k, none⟩ = some (.slice sa sn sc_) ∧ W.cell? ⟨bp, op + q, none⟩ = some (.slice H[q].a H[q].n H[q].c) ∧ Below wr.heap.size wr W) → Calls Try.prog 23 #[.slice At kt ct] W fun e w' => e = .returned (.int .i64 (sizeL t)) ∧ (w'.cell? ⟨bl, ol + k, none⟩ = some (.slice sa sn sc_) ∧ w'.cell? ⟨bp, op + q, none⟩ = some (.slice H[q].a H[q].n H[q].c) ∧ Below wr.heap.size wr w')) := Lib.hid (fun W t kt At ct h1 h2 h3 h4 hW => by
                  have h := refSize_n t kt h1 At ct W h4 (by omega)
                  rw [(goodB_iff t).2 h3] at h
                  exact h.mono (fun e w' h => ⟨h.1, kept_cell h.2 hW.1, kept_cell h.2 hW.2.1, hW.2.2.trans (h.2.mono hW.2.2.size)⟩))
                have HSp : Hid (∀ W : World, Below wr.heap.size wr W → Calls Try.prog 23 #[.slice H[q].a H[q].n H[q].c] W fun e w' => e = .returned (.int .i64 (sizeL H[q].s)) ∧ Below W.heap.size W w') := Lib.hid (fun W g => by
                  have h := refSize_n H[q].s H[q].n q1 H[q].a H[q].c W (reads_on (q3.more hsw) g) (by omega)
                  rw [(goodB_iff _).2 hgp] at h
                  exact h)
                have HFacts : Hid (∀ t, IsSet t (fun v => In ss v ∧ In H[q].s v) → (sizeL t = sizeL H[q].s ↔ Sub H[q].s ss) ∧ (0 < sizeL t ↔ ¬ Dis H[q].s ss)) := Lib.hid (fun t ht => by
                  refine ⟨?_, ?_⟩
                  · rw [size_sub ht.1 hgp (fun v hv h => ((ht.2 v hv).1 h).2)]
                    exact both_sub HGs.out hgp ht
                  · rw [size_pos ht.1]
                    exact not_congr (both_dis ht))
                clear q1 q2 q3 hgp
                generalize H[q] = x at *
                obtain ⟨xa, xn, xc, xs⟩ := x
                simp only [] at pp hm2 HBo HSz HSp HFacts HDr
                subst e4
                have bR := Below.refl wr.heap.size wr
                have hf := field56'
                go_wp2_with fail
                go_region_held3 (fun w' => w'.cell? ⟨bl, ol + k, none⟩ = some (.slice sa sn sc_) ∧ w'.cell? ⟨bp, op + q, none⟩ = some (.slice xa xn xc) ∧ Below wr.heap.size wr w') (first | assumption | exact ⟨pl, pp, bR⟩ | exact ⟨pl, pp, Below.drew bR⟩ | exact ⟨by assumption, by assumption, by assumption⟩ | exact ⟨by assumption, by assumption, Below.drew (by assumption)⟩) (first | (go_at_call 26; with_reducible refine Calls.mono (HBo.out _ ?_) ?_; (first | assumption | exact ⟨pl, pp, bR⟩ | exact ⟨pl, pp, Below.drew bR⟩ | exact ⟨by assumption, by assumption, by assumption⟩ | exact ⟨by assumption, by assumption, Below.drew (by assumption)⟩); rintro e w10 ⟨t, kt, At, ct, rfl, v1, v2, v4, v5, v6, v7, v8⟩) | (go_at_call 23; with_reducible refine Calls.mono (HSz.out _ t kt At ct v1 v2 (isSet_gd v4) ?_ ?_) ?_; exact v5; (first | assumption | exact ⟨pl, pp, bR⟩ | exact ⟨pl, pp, Below.drew bR⟩ | exact ⟨by assumption, by assumption, by assumption⟩ | exact ⟨by assumption, by assumption, Below.drew (by assumption)⟩); rintro e W10 ⟨rfl, y1, y2, y3⟩))
                have b10 := hb3.trans (y3.mono hsz3)
                have hs10 := b10.size
                have hown10 := own_below hown y3
                have HSz2 := Lib.hid (HSp.out W10 y3)
                have HFa := Lib.hid (HFacts.out t v4)
                have pp2 := y2
                clear HBo HSz y1 y2 y3 v1 v2 v5 v6 v7 v8 bR pl pp HSp hb3 hsz3 hown
                rename_i hHeld
                clear hHeld
                generalize sizeL t = st at *
                generalize sizeL xs = sx at *
                by_cases hsub : Sub xs ss
                · have heq := HFa.out.1.2 hsub
                  have hee : (st == sx) = true := by rw [beq_iff_eq]; exact heq
                  have HI1 : Hid (insA ss [] 0 (setsOf H) = insA ss (acc ++ [(q : Int)]) (q + 1) ((setsOf H).drop (q + 1))) := Lib.hid (by
                    rw [HI.out, HDr.out]
                    exact insA_sub hsub _ _ _)
                  have HSee := Lib.hid hee
                  clear HI HFa HDr heq hsub
                  go_wp2_with fail
                  refine HSz2.out.mono ?_
                  rintro e w11 ⟨rfl, g11⟩
                  have b11 := b10.trans (g11.mono hs10)
                  have hs11 := b11.size
                  have hown11 := own_below hown10 g11
                  clear HSz2 g11 hown10 b10 hs10 pp2
                  have HL5 : Hid ((acc ++ [(q : Int)]).length = z + 1) := Lib.hid (by rw [List.length_append, HLz.out]; rfl)
                  go_wp2_with (at_builtin; refine wpList_append_lies _ rfl _ _ 45 rfl w3.heap.size 3 i0 _ 1 8 Try.underlying45 hi0 hz0 hz1 hz2 rfl (by decide) _ _ _ rfl (hown11.alloc _) ⟨w11.heap.size, 0, none⟩ 1 1 [.int .i64 q] rfl rfl ?k1 ?k2 (by omega) ?k3 ?k4 ?k5 _ rfl ?_)
                  try (case k1 => exact lit1 (by simp))
                  case k2 => first | rfl | (intro u hu; simp at hu; subst hu; rfl)
                  case k3 => unfold maxLen; omega
                  case k4 => omega
                  case k5 => first | omega | (simp; omega)
                  intro g5 cap5 w5 hown5 hgrow5 hat5 hlt5
                  have hO5 : w5.ownsRow w3.heap.size 3 1 (.slice (some ⟨g5, 0, none⟩) (z + 1) cap5) (z + 1) (icells (acc ++ [(q : Int)])) := by rw [icells_snoc]; exact hown5
                  have b5 : Below w3.heap.size w3 w5 := below_grown (b11.alloc hs11 _) (by simp; omega) (hown11.alloc _) hgrow5
                  clear hown5 hgrow5 hat5 hown11 b11 hs11
                  go_wp2_with fail
                  go_roundw
                  case rel => exact ⟨q + 1, z + 1, some ⟨g5, 0, none⟩, cap5, acc ++ [(q : Int)], by omega, rfl, by go_num, by omega, HL5, HI1, hO5, b5⟩
                  case measure => simp [intOf]; omega
                · have hne : ¬ st = sx := fun e => hsub (HFa.out.1.1 e)
                  have hee : (st == sx) = false := by rw [beq_eq_false_iff_ne]; exact hne
                  by_cases hdis : Dis xs ss
                  · have hnp : ¬ 0 < st := fun h => (HFa.out.2.1 h) hdis
                    have hd0 : decide (0 < st) = false := decide_eq_false hnp
                    have HI1 : Hid (insA ss [] 0 (setsOf H) = insA ss acc (q + 1) ((setsOf H).drop (q + 1))) := Lib.hid (by
                      rw [HI.out, HDr.out]
                      exact insA_dis hsub hdis _ _ _)
                    clear HI HFa HDr hne hsub hdis hnp
                    go_wp2_with fail
                    refine HSz2.out.mono ?_
                    rintro e w11 ⟨rfl, g11⟩
                    have b11 := b10.trans (g11.mono hs10)
                    have hown11 := own_below hown10 g11
                    clear HSz2 g11 hown10 b10 hs10 pp2
                    go_wp2_with fail
                    go_roundw
                    case rel => exact ⟨q + 1, z, A3, c3, acc, by omega, rfl, by go_num, by omega, HLz, HI1, hown11, b11⟩
                    case measure => simp [intOf]; omega
                  · have hp := HFa.out.2.2 hdis
                    have hd0 : decide (0 < st) = true := decide_eq_true hp
                    have HF' : Hid (withR (setsOf G) (setsOf H) = none) := Lib.hid (withR_wit (by
                      have hn : insA ss [] 0 (setsOf H) = none := by rw [HI.out, HDr.out]; exact insA_no hsub hdis _ _ _
                      rw [HE1.out, hn]))
                    clear HI HFa HDr hne hsub hdis hp
                    go_wp2_with fail
                    refine HSz2.out.mono ?_
                    rintro e w11 ⟨rfl, g11⟩
                    have b11 := b10.trans (g11.mono hs10)
                    have bF := b3.trans (b11.mono hs3)
                    clear HSz2 g11 hown10 b10 hs10 pp2
                    go_wp2_with fail
                    go_ret2
                    exact outW_none HF'.out ⟨rfl, bF⟩
              · have HI1 : Hid (insA ss [] 0 (setsOf H) = some acc) := Lib.hid (by
                  rw [HI.out, List.drop_of_length_le (by rw [setsOf_len, HN.out.1]; omega)]
                  rfl)
                have HE2 : Hid (witA (setsOf H) [] (setsOf G) = witA (setsOf H) (listsOf HH ++ [acc]) ((setsOf G).drop (k + 1))) := Lib.hid (by rw [HE1.out, HI1.out])
                have HO5 := Lib.hid (HO3.out.on hb3)
                have hownO := HO5.out.out
                have hsw := hbw.size
                have HX : Hid ((⟨A3, z, c3, acc⟩ : Hi).l.length = (⟨A3, z, c3, acc⟩ : Hi).n ∧ wr.ownsRow w.heap.size 3 1 (⟨A3, z, c3, acc⟩ : Hi).v (⟨A3, z, c3, acc⟩ : Hi).n (icells (⟨A3, z, c3, acc⟩ : Hi).l)) := Lib.hid ⟨HLz.out, own_base hown hs3⟩
                clear HI HI1 HE1 hown hb3 HO3
                go_wp2_with (at_builtin; refine wpList_append_lies _ rfl _ _ 36 rfl w.heap.size 45 j0 _ 1 24 Try.underlying36 hj0 hy0 hy1 hy2 rfl (by decide) _ _ _ rfl (hownO.alloc _) ⟨wr.heap.size, 0, none⟩ 1 1 [.slice A3 z c3] rfl rfl ?k1 ?k2 (by omega) ?k3 ?k4 ?k5 _ rfl ?_)
                try (case k1 => exact lit1 (by simp))
                case k2 => first | rfl | (intro u hu; simp at hu; subst hu; rfl)
                case k3 => unfold maxLen; omega
                case k4 => omega
                case k5 => first | omega | (simp; omega)
                intro g5 cap5 w5 hown5 hgrow5 hat5 hlt5
                have HO9 : Hid (OwnI w5 w.heap.size (some ⟨g5, 0, none⟩) (k + 1) cap5 (HH ++ [⟨A3, z, c3, acc⟩])) := Lib.hid ((HO5.out.on (below_new wr (.cells #[.slice A3 z c3] 45))).snoc ⟨HX.out.1, HX.out.2.alloc _⟩ hown5 hgrow5)
                have b9 : Below w.heap.size w w5 := below_grown (hbw.alloc hsw _) (by simp; omega) (hownO.alloc _) hgrow5
                have HE9 : Hid (witA (setsOf H) [] (setsOf G) = witA (setsOf H) (listsOf (HH ++ [(⟨A3, z, c3, acc⟩ : Hi)])) ((setsOf G).drop (k + 1))) := Lib.hid (by
                  rw [HE2.out]
                  have e : listsOf (HH ++ [(⟨A3, z, c3, acc⟩ : Hi)]) = listsOf HH ++ [acc] := by simp [listsOf]
                  rw [e])
                clear hown5 hgrow5 hat5 hownO HX HO5 HE2
                go_wp2_with fail
                go_roundw
                case rel => exact ⟨k + 1, some ⟨g5, 0, none⟩, cap5, HH ++ [⟨A3, z, c3, acc⟩], by omega, by first | rfl | simp, by go_num, HE9, HT', HO9, b9⟩
                case measure => simp [intOf]; omega
        · have ek : k = m := by omega
          have HD : Hid (withR (setsOf G) (setsOf H) = some (listsOf HH)) := Lib.hid (by
            have h1 : allB (setsOf G) = true := by
              have h := HB.out
              rwa [List.take_of_length_le (by rw [HG.out.1]; omega)] at h
            unfold withR
            rw [h1, HAll.out, if_pos (show (true && true) = true from rfl), HE.out, List.drop_of_length_le (by rw [setsOf_len, HG.out.1]; omega)]
            rfl)
          have HF : Hid (OutW (withR (setsOf G) (setsOf H)) w (.returned (.tuple #[.slice A2 k c2, .bool true])) wr) := Lib.hid (outW_some HD.out ⟨A2, c2, k, HH, rfl, rfl, HO.out.nest, hb⟩)
          clear HE HB HO ek HD
          go_wp2_with fail
          go_ret2
          exact HF.out
end Go.Proofs.Ythaageiflimnnaa
/- What the document's Bands returns. -/
namespace Go.Proofs.Ythaageiflimnnaa
open Go.RowKit Go.BigFrame
set_option linter.unusedVariables false
set_option linter.unusedSimpArgs false

/-- These bands, or none. -/
def OutB2 (r : Option (List Rg)) (w : World) (e : Ending) (w' : World) : Prop :=
  match r with
  | some bs => ∃ (A : Option Addr) (c n : Nat), e = .returned (.tuple #[.slice A n c, .bool true]) ∧ bs.length = n ∧ n ≤ 1000000 ∧ Reads w' w'.heap.size 2 A n (rcells bs) ∧ Below w.heap.size w w'
  | none => OutNil w e w'
theorem outB2_none {r : Option (List Rg)} {w : World} {e : Ending} {w' : World} (hr : r = none) (h : OutNil w e w') : OutB2 r w e w' := by subst hr; exact h
theorem outB2_some {r : Option (List Rg)} {bs : List Rg} {w : World} {e : Ending} {w' : World} (hr : r = some bs) (h : ∃ (A : Option Addr) (c n : Nat), e = .returned (.tuple #[.slice A n c, .bool true]) ∧ bs.length = n ∧ n ≤ 1000000 ∧ Reads w' w'.heap.size 2 A n (rcells bs) ∧ Below w.heap.size w w') : OutB2 r w e w' := by subst hr; exact h
def B2Rel (L : List (List Rg)) (ats : List Int) (zz : Nat) (W1 : World) (vo vi : Value) (wr : World) : Prop :=
  ∃ (i z : Nat) (A2 : Option Addr) (c2 : Nat) (acc : List Rg), i ≤ zz ∧ vo = .slice A2 z c2 ∧ vi = .int .i64 i ∧ Hid (acc.length = z) ∧ z ≤ i ∧ Hid (BUp L ats i acc) ∧ wr.ownsRow W1.heap.size 40 2 (.slice A2 z c2) z (rcells acc) ∧ Below W1.heap.size W1 wr

set_option maxRecDepth 100000 in
set_option maxHeartbeats 8000000 in
theorem refBands_n (H : List Hd) (n : Nat) (A : Option Addr) (c : Nat) (w : World) (hN : Nest w w.heap.size A n H) (hn : n ≤ 1000) (hm : ∀ h ∈ H, h.n ≤ 1000) (ht : tot (setsOf H) ≤ 1000) :
    Calls Try.prog 14 #[.slice A n c] w (OutB2 (bandsR (setsOf H)) w) := by
  obtain ⟨j0, hj0, hy0, hy1, hy2⟩ := info_parts info40
  have HN := Lib.hid hN
  have HM := Lib.hid hm
  have HT := Lib.hid ht
  clear hN hm ht
  go_enter Try.func14, Try.ntmps14
  go_wp2_with fail
  go_loopw [4] (fun i wr => ∃ (k : Nat), k ≤ n ∧ i = .int .i64 k ∧ Below w.heap.size w wr ∧ Hid (allB (setsOf (H.take k)) = true) ∧ Hid (∀ i, i < k → (setsOf H).getD i [] ≠ [])) (fun i _ => n - (intOf i).toNat)
  case atStart => exact ⟨0, Nat.zero_le _, rfl, Below.refl _ _, Lib.hid rfl, Lib.hid (fun i h => by omega)⟩
  case round =>
    obtain ⟨k, hk, rfl, hb, HG, HNe⟩ := hrel
    have hsz := hb.size
    by_cases hlt : k < n
    · have kl : k < H.length := by rw [HN.out.1]; exact hlt
      obtain ⟨b, o, rfl, hbb, p0, q1, q2, q3⟩ := (HN.out.below hb).at kl
      have HX := Lib.hid (refGood_n _ _ q1 H[k].a H[k].c wr (q3.more hsz) (by have := HM.out _ (List.getElem_mem kl); omega))
      have HT := Lib.hid (allB_take H k kl)
      have HF := Lib.hid (allB_at H k kl)
      have HGet : Hid ((setsOf H).getD k [] = H[k].s) := Lib.hid (setsOf_get H k kl)
      have HMm : Hid (H[k].s ∈ setsOf H) := Lib.hid (List.mem_map.2 ⟨_, List.getElem_mem kl, rfl⟩)
      have HQ1 := Lib.hid q1
      generalize H[k] = x at *
      obtain ⟨xa, xn, xc, xs⟩ := x
      simp only [] at p0 HX HT HF HGet HMm HQ1
      clear q1 q2 q3
      cases hg : goodB xs
      · have HF' : Hid (bandsR (setsOf H) = none) := Lib.hid (bandsR_none (fun h => by rw [HF.out hg] at h; cases h.1))
        rw [hg] at HX
        clear HT HF HG hg HNe HGet HMm HQ1
        go_wp2_with fail
        refine HX.out.mono ?_
        rintro e w1 ⟨rfl, g1⟩
        go_wp2_with fail
        go_ret2
        exact outB2_none HF'.out ⟨rfl, hb.trans (g1.mono hsz)⟩
      · rw [hg] at HX
        by_cases hx0 : xn = 0
        · have HF' : Hid (bandsR (setsOf H) = none) := Lib.hid (bandsR_none (fun h => h.2.1 (by
            have := HMm.out
            rwa [show xs = [] from List.eq_nil_of_length_eq_zero (by rw [HQ1.out, hx0])] at this)))
          have hxe : ((xn : Int) == 0) = true := by rw [hx0]; rfl
          clear HT HF HG hg HNe HGet HMm HQ1 hx0
          go_wp2_with fail
          refine HX.out.mono ?_
          rintro e w1 ⟨rfl, g1⟩
          have p1 := kept_cell g1 p0
          have b1 := hb.trans (g1.mono hsz)
          clear HX g1 p0
          go_wp2_with fail
          go_ret2
          exact outB2_none HF'.out ⟨rfl, b1⟩
        · have hxe : ((xn : Int) == 0) = false := by rw [beq_eq_false_iff_ne]; omega
          have HT' : Hid (allB (setsOf (H.take (k + 1))) = true) := Lib.hid (by rw [HT.out, HG.out, hg]; rfl)
          have HNe' : Hid (∀ i, i < k + 1 → (setsOf H).getD i [] ≠ []) := Lib.hid (fun i hi => by
            rcases Nat.lt_or_ge i k with h1 | h1
            · exact HNe.out i h1
            · have e : i = k := by omega
              subst e
              rw [HGet.out]
              intro e
              have := HQ1.out
              rw [e] at this
              simp at this
              omega)
          clear HT HF HG hg HNe HGet HMm HQ1
          go_wp2_with fail
          refine HX.out.mono ?_
          rintro e w1 ⟨rfl, g1⟩
          have p1 := kept_cell g1 p0
          have b1 := hb.trans (g1.mono hsz)
          clear HX g1 p0
          go_wp2_with fail
          go_roundw
          case rel => exact ⟨k + 1, by omega, by go_num, b1, HT', HNe'⟩
          case measure => simp [intOf]; omega
    · have HAll : Hid (allB (setsOf H) = true) := Lib.hid (by
        have h := HG.out
        rwa [List.take_of_length_le (by rw [HN.out.1]; omega)] at h)
      have HGd := Lib.hid ((allB_iff _).1 HAll.out)
      have HNn : Hid ([] ∉ setsOf H) := Lib.hid (no_nil (fun i hi => HNe.out i (by rw [setsOf_len, HN.out.1] at hi; omega)))
      have HLn : Hid ((setsOf H).length = n) := Lib.hid (by rw [setsOf_len, HN.out.1])
      clear HG HNe
      go_wp2_with fail
      refine (starts_all H n A c wr (HN.out.on hb) (by omega) (by have := HT.out; omega)).mono ?_
      rintro e W1 ⟨A1, c1, zz, rfl, h1, s1, r1, g1⟩
      have hz : zz ≤ 2001 := by have h2 := stL_len (setsOf H).flatten [0]; rw [h1, flat_len] at h2; have := HT.out; simp at h2; omega
      have HZ := Lib.hid h1
      have HR1 := Lib.hid r1
      have HS := Lib.hid (sts_of HGd.out)
      have bb_1 := hb.trans (g1.mono hsz)
      have HN1 := Lib.hid (HN.out.on bb_1)
      clear h1 s1 r1 g1 hb hsz
      generalize stL [0] (setsOf H).flatten = ats at *
      go_wp2_with fail
      go_loopw [6, 7] (fun vo vi wr => B2Rel (setsOf H) ats zz W1 vo vi wr) (fun _ i _ => zz - (intOf i).toNat)
      case atStart => exact ⟨0, 0, none, 0, [], Nat.zero_le _, rfl, rfl, Lib.hid rfl, Nat.le_refl _, Lib.hid (bup0 _ _), World.ownsRow_nil _ _ _ _, Below.refl _ _⟩
      case round =>
        obtain ⟨i, z, A2, c2, acc, hi, rfl, rfl, HLz, hzi, HB, hown, hb⟩ := hrel
        have hsz := hb.size
        by_cases hil : i < zz
        · have il : i < ats.length := by rw [HZ.out]; exact hil
          obtain ⟨ba, oa, eA, _, _⟩ := (HR1.out.below hb).int il
          subst eA
          have HAt : Hid (∀ W : World, Below W1.heap.size W1 W → W.cell? ⟨ba, oa + i, none⟩ = some (.int .i64 ats[i])) := Lib.hid (fun W g => by
            obtain ⟨b', o', e', _, p'⟩ := (HR1.out.below g).int il
            injection e' with e'
            injection e' with e1 e2
            subst e1 e2
            exact p')
          have hsu := HS.out.sc _ (List.getElem_mem il)
          have HOc := Lib.hid (once_cnt HGd.out hsu)
          rw [HLn.out] at HOc
          have HC1' := Lib.hid ((cntK_one (setsOf H) ats[i] n).1)
          have HSu := Lib.hid hsu
          clear hsu
          obtain ⟨u, hu⟩ : ∃ u, u = ats[i] := ⟨_, rfl⟩
          rw [← hu] at HAt HOc HC1' HSu
          have HAi : Hid (∀ h : i < ats.length, ats[i]'h = u) := Lib.hid (fun _ => hu.symm)
          clear hu
          have HO := Lib.hid hown
          clear hown
          go_wp2_with fail
          rename World => w2
          go_loopw [8, 9, 10] (fun vc vn vq wr => ∃ q : Nat, q ≤ n ∧ vc = .int .i64 (lastK (setsOf H) u q : Nat) ∧ vn = .int .i64 (cntK (setsOf H) u q : Nat) ∧ vq = .int .i64 q ∧ Below w2.heap.size w2 wr) (fun _ _ q _ => n - (intOf q).toNat)
          case atStart => exact ⟨0, Nat.zero_le _, rfl, rfl, rfl, Below.refl _ _⟩
          case round =>
            obtain ⟨q, hq, rfl, rfl, rfl, hb3⟩ := hrel
            have hsz3 := hb3.size
            have hbw := hb.trans (hb3.mono hsz)
            have hsw := hbw.size
            by_cases hql : q < n
            · have ql : q < H.length := by rw [HN.out.1]; exact hql
              have pa := HAt.out wr hbw
              obtain ⟨bp, op, e4, hbp, pp, q1, q2, q3⟩ := (HN1.out.below hbw).at ql
              have hm2 := HM.out _ (List.getElem_mem ql)
              have hle := cntK_le (setsOf H) u q
              have HL1 : Hid (lastK (setsOf H) u (q + 1) = if hasB H[q].s u = true then q else lastK (setsOf H) u q) := Lib.hid (by
                show (if hasB ((setsOf H).getD q []) u = true then q else lastK (setsOf H) u q) = _
                rw [setsOf_get H q ql])
              have HC1 : Hid (cntK (setsOf H) u (q + 1) = cntK (setsOf H) u q + (if hasB H[q].s u = true then 1 else 0)) := Lib.hid (by
                show cntK (setsOf H) u q + (if hasB ((setsOf H).getD q []) u = true then 1 else 0) = _
                rw [setsOf_get H q ql])
              have HHas := Lib.hid (fun (W : World) (g : Below wr.heap.size wr W) => refHas_n H[q].s H[q].n q1 H[q].a H[q].c u W (reads_on (q3.more hsw) g) (by omega))
              clear q1 q2 q3
              generalize hasB H[q].s u = hv at *
              generalize H[q] = x at *
              obtain ⟨xa, xn, xc, xs⟩ := x
              simp only [] at pp hm2 HHas
              subst e4
              generalize lastK (setsOf H) u q = lk at *
              generalize cntK (setsOf H) u q = ck at *
              have hca : Hid (∀ W : World, W.cell? ⟨bp, op + q, none⟩ = some (.slice xa xn xc) ∧ W.cell? ⟨ba, oa + i, none⟩ = some (.int .i64 u) ∧ Below wr.heap.size wr W → Calls Try.prog 25 #[.slice xa xn xc, .int .i64 u] W fun e w' => e = .returned (.bool hv) ∧ (w'.cell? ⟨bp, op + q, none⟩ = some (.slice xa xn xc) ∧ w'.cell? ⟨ba, oa + i, none⟩ = some (.int .i64 u) ∧ Below wr.heap.size wr w')) := Lib.hid (fun W hW => (HHas.out W hW.2.2).mono (fun e w' h => ⟨h.1, kept_cell h.2 hW.1, kept_cell h.2 hW.2.1, hW.2.2.trans (h.2.mono hW.2.2.size)⟩))
              have bR := Below.refl wr.heap.size wr
              clear HHas
              cases hv
              · simp only [Bool.false_eq_true, if_false, Nat.add_zero] at HL1 HC1
                go_wp2_with fail
                go_region_held3 (fun w' => w'.cell? ⟨bp, op + q, none⟩ = some (.slice xa xn xc) ∧ w'.cell? ⟨ba, oa + i, none⟩ = some (.int .i64 u) ∧ Below wr.heap.size wr w') (first | assumption | exact ⟨pp, pa, bR⟩ | exact ⟨pp, pa, Below.drew bR⟩ | exact ⟨by assumption, by assumption, by assumption⟩ | exact ⟨by assumption, by assumption, Below.drew (by assumption)⟩) (first | (go_at_call 25; with_reducible refine Calls.mono (hca.out _ ?_) ?_; (first | assumption | exact ⟨pp, pa, bR⟩ | exact ⟨pp, pa, Below.drew bR⟩ | exact ⟨by assumption, by assumption, by assumption⟩ | exact ⟨by assumption, by assumption, Below.drew (by assumption)⟩); rintro e w9 ⟨rfl, y1, y2, y3⟩))
                have b9 := hb3.trans (y3.mono hsz3)
                clear hca y1 y2 y3 bR pp pa hb3 hsz3
                rename_i hHeld
                clear hHeld
                go_wp2_with fail
                go_roundw
                case rel => exact ⟨q + 1, by omega, by rw [HL1.out] <;> rfl, by rw [HC1.out] <;> go_num, by go_num, b9⟩
                case measure => simp [intOf]; omega
              · simp only [if_true] at HL1 HC1
                go_wp2_with fail
                go_region_held3 (fun w' => w'.cell? ⟨bp, op + q, none⟩ = some (.slice xa xn xc) ∧ w'.cell? ⟨ba, oa + i, none⟩ = some (.int .i64 u) ∧ Below wr.heap.size wr w') (first | assumption | exact ⟨pp, pa, bR⟩ | exact ⟨pp, pa, Below.drew bR⟩ | exact ⟨by assumption, by assumption, by assumption⟩ | exact ⟨by assumption, by assumption, Below.drew (by assumption)⟩) (first | (go_at_call 25; with_reducible refine Calls.mono (hca.out _ ?_) ?_; (first | assumption | exact ⟨pp, pa, bR⟩ | exact ⟨pp, pa, Below.drew bR⟩ | exact ⟨by assumption, by assumption, by assumption⟩ | exact ⟨by assumption, by assumption, Below.drew (by assumption)⟩); rintro e w9 ⟨rfl, y1, y2, y3⟩))
                have b9 := hb3.trans (y3.mono hsz3)
                clear hca y1 y2 y3 bR pp pa hb3 hsz3
                rename_i hHeld
                clear hHeld
                go_wp2_with fail
                go_roundw
                case rel => exact ⟨q + 1, by omega, by rw [HL1.out] <;> rfl, by rw [HC1.out] <;> go_num, by go_num, b9⟩
                case measure => simp [intOf]; omega
            · have eq_ : q = n := by omega
              subst eq_
              have hown2 := own_below HO.out hb3
              by_cases hone : cntK (setsOf H) u q = 1
              · have HOn : Hid (Once (setsOf H) ats[i]) := Lib.hid (by rw [HAi.out il]; exact HOc.out.2 hone)
                obtain ⟨cl, hcl', hhb, _, hlast⟩ := HC1'.out hone
                have hcl : cl < (setsOf H).length := by rw [HLn.out]; exact hcl'
                have hinc : In ((setsOf H).getD cl []) ats[i] := by
                  rw [HAi.out il]
                  rw [hasB_eq (HGd.out _ (getD_mem hcl)) HSu.out, inB_iff] at hhb
                  exact hhb
                rw [hone, hlast]
                clear hhb hlast hone HC1' HOc hb3 HO
                by_cases hz0 : z = 0
                · subst hz0
                  have HNe : Hid (∀ a (ha : a < acc.length), acc.length = a + 1 → acc[a].2 ≠ (cl : Int)) := Lib.hid (fun a ha e => by rw [HLz.out] at e; omega)
                  have pa := HAt.out wr hbw
                  have HBn := Lib.hid (bup_new HS.out il HB.out HOn.out hcl hinc HNe.out)
                  have HLn : Hid ((acc ++ [(u, (cl : Int))]).length = 0 + 1) := Lib.hid (by rw [List.length_append, HLz.out]; rfl)
                  rw [HAi.out il] at HBn
                  clear HB HNe
                  go_wp2_with (at_builtin; refine wpList_append_lies _ rfl _ _ 23 rfl W1.heap.size 40 j0 _ 2 16 Try.underlying23 hj0 hy0 hy1 hy2 rfl (by decide) _ _ _ rfl (hown2.alloc _) ⟨wr.heap.size, 0, none⟩ 1 1 [.int .i64 u, .int .i64 cl] rfl rfl ?k1 ?k2 (by omega) ?k3 ?k4 ?k5 _ rfl ?_)
                  try (case k1 => exact lit2 (by simp) (by simp))
                  case k2 => first | rfl | (intro u hu; simp at hu; rcases hu with rfl | rfl <;> rfl) | simp
                  case k3 => unfold maxLen; omega
                  case k4 => omega
                  case k5 => first | omega | (simp; omega)
                  intro g5 cap5 w5 hown5 hgrow5 hat5 hlt5
                  have hO5 : w5.ownsRow W1.heap.size 40 2 (.slice (some ⟨g5, 0, none⟩) (0 + 1) cap5) (0 + 1) (rcells (acc ++ [(u, (cl : Int))])) := by rw [rcells_snoc]; exact hown5
                  have b5 : Below W1.heap.size W1 w5 := below_grown (hbw.alloc hsw _) (by simp; omega) (hown2.alloc _) hgrow5
                  clear hown5 hgrow5 hat5 hown2
                  go_wp2_with fail
                  go_roundw
                  case rel => exact ⟨i + 1, 0 + 1, some ⟨g5, 0, none⟩, cap5, acc ++ [(u, (cl : Int))], by omega, rfl, by go_num, HLn, by omega, HBn, hO5, b5⟩
                  case measure => simp [intOf]; omega
                · obtain ⟨z', rfl⟩ : ∃ z', z = z' + 1 := ⟨z - 1, by omega⟩
                  have zl : z' < acc.length := by rw [HLz.out]; omega
                  obtain ⟨bg, og, eg, _, _, pc⟩ := (Reads.of_own hown2).rg zl
                  subst eg
                  have hze : (((z' : Int) + 1) == 0) = false := by rw [beq_eq_false_iff_ne]; omega
                  have pa := HAt.out wr hbw
                  by_cases hsame : acc[z'].2 = (cl : Int)
                  · have HBn := Lib.hid (bup_same HS.out il HB.out HOn.out hcl hinc z' HLz.out hsame)
                    rw [hsame] at pc
                    have hnn : ((cl : Int) != (cl : Int)) = false := by simp
                    clear HB hsame
                    have HO2 := Lib.hid hown2
                    clear hown2
                    go_wp2_with fail
                    go_roundw
                    case rel => exact ⟨i + 1, z' + 1, _, c2, acc, by omega, by first | rfl | simp, by go_num, HLz, by omega, HBn, HO2.out, hbw⟩
                    case measure => simp [intOf]; omega
                  · have hnn : (acc[z'].2 != (cl : Int)) = true := by rw [bne_iff_ne]; exact hsame
                    have HNe : Hid (∀ a (ha : a < acc.length), acc.length = a + 1 → acc[a].2 ≠ (cl : Int)) := Lib.hid (fun a ha e => by
                      have ea : a = z' := by rw [HLz.out] at e; omega
                      subst ea
                      exact hsame)
                    generalize acc[z'].2 = lc at *
                    have HBn := Lib.hid (bup_new HS.out il HB.out HOn.out hcl hinc HNe.out)
                    have HLn : Hid ((acc ++ [(u, (cl : Int))]).length = z' + 1 + 1) := Lib.hid (by rw [List.length_append, HLz.out]; rfl)
                    rw [HAi.out il] at HBn
                    clear HB HNe
                    go_wp2_with (at_builtin; refine wpList_append_lies _ rfl _ _ 23 rfl W1.heap.size 40 j0 _ 2 16 Try.underlying23 hj0 hy0 hy1 hy2 rfl (by decide) _ _ _ rfl (hown2.alloc _) ⟨wr.heap.size, 0, none⟩ 1 1 [.int .i64 u, .int .i64 cl] rfl rfl ?k1 ?k2 (by omega) ?k3 ?k4 ?k5 _ rfl ?_)
                    try (case k1 => exact lit2 (by simp) (by simp))
                    case k2 => first | rfl | (intro u hu; simp at hu; rcases hu with rfl | rfl <;> rfl) | simp
                    case k3 => unfold maxLen; omega
                    case k4 => omega
                    case k5 => first | omega | (simp; omega)
                    intro g5 cap5 w5 hown5 hgrow5 hat5 hlt5
                    have hO5 : w5.ownsRow W1.heap.size 40 2 (.slice (some ⟨g5, 0, none⟩) (z' + 1 + 1) cap5) (z' + 1 + 1) (rcells (acc ++ [(u, (cl : Int))])) := by rw [rcells_snoc]; exact hown5
                    have b5 : Below W1.heap.size W1 w5 := below_grown (hbw.alloc hsw _) (by simp; omega) (hown2.alloc _) hgrow5
                    clear hown5 hgrow5 hat5 hown2
                    go_wp2_with fail
                    go_roundw
                    case rel => exact ⟨i + 1, z' + 1 + 1, some ⟨g5, 0, none⟩, cap5, acc ++ [(u, (cl : Int))], by omega, rfl, by go_num, HLn, by omega, HBn, hO5, b5⟩
                    case measure => simp [intOf]; omega
              · have hno : ((cntK (setsOf H) u q : Nat) : Int) != 1 := by rw [bne_iff_ne]; omega
                have HF' : Hid (bandsR (setsOf H) = none) := Lib.hid (bandsR_none (fun h => hone (HOc.out.1 (h.2.2 u HSu.out))))
                have bF := bb_1.trans (hbw.mono bb_1.size)
                generalize cntK (setsOf H) u q = ck at *
                clear hown2 hb3 HO HB HC1' HOc
                go_wp2_with fail
                go_ret2
                exact outB2_none HF'.out ⟨rfl, bF⟩
        · have e : i = ats.length := by rw [HZ.out]; omega
          have HBe := Lib.hid (bup_end HS.out (by have h := HB.out; rwa [e] at h))
          have HR := Lib.hid (Reads.of_own hown)
          have HF : Hid (OutB2 (bandsR (setsOf H)) w (.returned (.tuple #[.slice A2 z c2, .bool true])) wr) := Lib.hid (outB2_some (bandsR_some HAll.out HNn.out HBe.out.1 HBe.out.2) ⟨A2, c2, z, rfl, HLz.out, by omega, HR.out, bb_1.trans (hb.mono bb_1.size)⟩)
          clear HB e HBe HR
          go_wp2_with fail
          go_ret2
          exact HF.out
end Go.Proofs.Ythaageiflimnnaa
/- Bands and a number that came in; answers in one form. -/
namespace Go.Proofs.Ythaageiflimnnaa
open Go.ChangeShapes Go.WideShapes Go.ChangeAt Go.RowKit Go.Deep
set_option linter.unusedVariables false
set_option linter.unusedSimpArgs false
theorem cells40 : Try.prog.cellsOf 40 = 2 := by kernel_rfl
theorem cells25 : Try.prog.cellsOf 25 = 2 := by kernel_rfl
set_option maxRecDepth 4000 in
theorem row40 {H : Type} {enc : TypeId × Value → H} {w : World} {base : Nat} {sp : Nat → Bool} {held : Bool} {fuel : Nat} {cs : List Value} {x : DataW H × List MemPlace}
    (h : DataW.trod enc Try.prog w base sp held fuel 40 cs = some x) : ∃ r : Rg, cs = rcell r := by
  obtain ⟨xs, n, _, rfl, hl, hlen, hf⟩ := DataW.trod_struct Try.underlying40 h
  rw [cells40] at hl
  match cs, hl with
  | [c0, c1], _ =>
    match xs, hlen with
    | [y0, y1], _ =>
      have f0 := hf 0 _ rfl
      have f1 := hf 1 _ rfl
      obtain ⟨n0, e0, _, _⟩ := DataW.trod_int Try.underlying3 (show DataW.trod enc Try.prog w base sp held n 3 [c0] = some y0 from f0)
      obtain ⟨n1, e1, _, _⟩ := DataW.trod_int Try.underlying3 (show DataW.trod enc Try.prog w base sp held n 3 [c1] = some y1 from f1)
      injection e0 with e0
      injection e1 with e1
      exact ⟨(n0, n1), by rw [e0, e1]; rfl⟩

/-- A slice of bands that came in. -/
theorem open_bands {H : Type} {enc : TypeId × Value → H} {w : World} {base : Nat} {held : Bool} {fuel : Nat} {t : TypeId} {a : Option Addr} {len cap : Nat} {x : DataW H × List MemPlace} (ht : Try.prog.underlying t = some (.slice 40))
    (h : DataW.trod enc Try.prog w base (fun _ => true) held fuel t [.slice a len cap] = some x) : ∃ l : List Rg, l.length = len ∧ Shp a len cap ∧ Reads w w.heap.size 2 a len (rcells l) := by
  rcases open_slice ht h with ⟨h0, _⟩ | ⟨ad, len', cap', m, n, D, Pl, hcs, hb, hl, hm, hmm, hx, hi⟩
  · simp at h0
    obtain ⟨rfl, rfl, rfl⟩ := h0
    exact ⟨[], rfl, ⟨fun _ => rfl, Nat.le_refl _, Nat.zero_le _⟩, ⟨rfl, fun h => absurd h (by omega)⟩⟩
  · simp at hcs
    obtain ⟨rfl, rfl, rfl⟩ := hcs
    have hlm : len ≤ m := by rw [hmm]; simpa using hl
    have hr : ∀ i, i < len → ∃ r : Rg, w.cell? (ad.add (i * 2)) = some (.int .i64 r.1) ∧ w.cell? (ad.add (i * 2 + 1)) = some (.int .i64 r.2) := by
      intro i hilt
      obtain ⟨cs', hc, htr⟩ := hi i (by omega)
      obtain ⟨r, rfl⟩ := row40 htr
      rw [cells40] at hc
      obtain ⟨_, _, hat⟩ := World.cells?_some hc
      refine ⟨r, ?_, ?_⟩
      · have := hat 0 (by omega)
        simpa [Addr.add, rcell] using this
      · have := hat 1 (by omega)
        rw [Go.Deep.add_add] at this
        exact this
    have hch : ∃ f : Nat → Rg, ∀ i, i < len → w.cell? (ad.add (i * 2)) = some (.int .i64 (f i).1) ∧ w.cell? (ad.add (i * 2 + 1)) = some (.int .i64 (f i).2) :=
      ⟨fun i => if h : i < len then Classical.choose (hr i h) else (0, 0), fun i h => by
        simp only [dif_pos h]
        exact Classical.choose_spec (hr i h)⟩
    obtain ⟨f, hf⟩ := hch
    refine ⟨(List.range len).map f, by simp, ⟨fun h => (by cases h), hl, hm⟩, ⟨by rw [rcells_len]; simp, fun hn => ?_⟩⟩
    obtain ⟨b, off, spot⟩ := ad
    have hspot : spot = none := by simpa [Addr.add] using World.cell?_spot (hf 0 hn).1
    subst hspot
    have hbl : b < w.heap.size := by
      have := World.block_lt_of_cell? _ _ (hf 0 hn).1
      simpa [Addr.add] using this
    refine ⟨b, off, rfl, hbl, fun j u hj => ?_⟩
    have hj' : j < len * 2 := by
      have := (List.getElem?_eq_some_iff.1 hj).1
      rw [rcells_len] at this
      simpa using this
    have hk : j / 2 < ((List.range len).map f).length := by simp; omega
    obtain ⟨e0, e1⟩ := rcells_at ((List.range len).map f) (j / 2) hk
    have hfk := hf (j / 2) (by omega)
    rw [Go.WideShapes.add_plain, Go.WideShapes.add_plain] at hfk
    rcases Nat.mod_two_eq_zero_or_one j with e | e
    · have ej : j = j / 2 * 2 := by omega
      rw [ej] at hj ⊢
      rw [e0] at hj
      rw [hfk.1, ← Option.some.inj hj]
      simp
    · have ej : j = j / 2 * 2 + 1 := by omega
      rw [ej] at hj ⊢
      rw [e1] at hj
      rw [hfk.2, ← Option.some.inj hj]
      simp


set_option maxRecDepth 4000 in
theorem open_asked {H : Type} {enc : TypeId × Value → H} {w : World} {base : Nat} {held : Bool} {fuel : Nat} {cs : List Value} {x : DataW H × List MemPlace}
    (h : DataW.trod enc Try.prog w base (fun _ => true) held fuel 25 cs = some x) : ∃ (a : Option Addr) (len cap : Nat) (v : Int) (bs : List Rg), cs = [.slice a len cap, .int .i64 v] ∧ bs.length = len ∧ Shp a len cap ∧ Reads w w.heap.size 2 a len (rcells bs) := by
  obtain ⟨xs, n, _, rfl, hl, hlen, hf⟩ := DataW.trod_struct Try.underlying25 h
  rw [cells25] at hl
  match cs, hl with
  | [c0, c1], _ =>
    match xs, hlen with
    | [y0, y1], _ =>
      have f0 := hf 0 _ rfl
      have f1 := hf 1 _ rfl
      obtain ⟨n1, e1, _, _⟩ := DataW.trod_int Try.underlying3 (show DataW.trod enc Try.prog w base (fun _ => true) held n 3 [c1] = some y1 from f1)
      have g0 : DataW.trod enc Try.prog w base (fun _ => true) held n 23 [c0] = some y0 := f0
      injection e1 with e1
      subst e1
      have key : ∀ a len cap, [c0] = [.slice a len cap] → ∃ (a : Option Addr) (len cap : Nat) (v : Int) (bs : List Rg), [c0, .int .i64 n1] = [.slice a len cap, .int .i64 v] ∧ bs.length = len ∧ Shp a len cap ∧ Reads w w.heap.size 2 a len (rcells bs) := by
        intro a len cap e
        injection e with e
        subst e
        obtain ⟨l, h1, h2, h3⟩ := open_bands Try.underlying23 g0
        exact ⟨a, len, cap, n1, l, rfl, h1, h2, h3⟩
      rcases open_slice Try.underlying23 g0 with ⟨h0, _⟩ | ⟨ad, len', cap', m', n', D', Pl', hcs, _⟩
      · exact key _ _ _ h0
      · exact key _ _ _ hcs

/-! Answers in one form. -/
def FlatP (r : Option (List (List Rg))) (w : World) (e : Ending) (w' : World) : Prop :=
  ∃ (A : Option Addr) (c z : Nat) (H : List Hd), e = .returned (.tuple #[.slice A z c, .bool r.isSome]) ∧ setsOf H = r.getD [] ∧ (∀ h ∈ H, h.n ≤ 1000) ∧ z ≤ 256 ∧ Nest w' w'.heap.size A z H ∧ Below w.heap.size w w'
theorem nest_nil (w : World) : Nest w w.heap.size none 0 [] := ⟨rfl, ⟨rfl, fun h => absurd h (by omega)⟩, fun h hh => by simp at hh⟩
theorem flatP_of {L : List (List Rg)} {w : World} {e : Ending} {w' : World} (ht : tot L ≤ 400) (h : OutPa L w e w') : FlatP (partsR L) w e w' := by
  rcases h with ⟨h1, h2, h3⟩ | ⟨_, h1, h2, h3⟩ | ⟨h1, P, hP, hl, hb, A, c, z, H, he, hs, hN, hS, hB⟩
  · rw [partsR_none (.inl h1)]
    exact ⟨none, 0, 0, [], h2, rfl, fun h hh => by simp at hh, by omega, nest_nil _, h3⟩
  · rw [partsR_none (.inr h1)]
    exact ⟨none, 0, 0, [], h2, rfl, fun h hh => by simp at hh, by omega, nest_nil _, h3⟩
  · rw [partsR_some h1 hl hP]
    refine ⟨A, c, z, H, he, hs, fun h hh => ?_, ?_, hN, hB⟩
    · rw [← (hN.2.2 h hh).1]
      have := hb h.s (by rw [← hs]; exact List.mem_map.2 ⟨h, hh, rfl⟩)
      omega
    · rw [hN.len, hs]; exact hl
def FlatB (r : Option (List Rg)) (w : World) (e : Ending) (w' : World) : Prop :=
  ∃ (A : Option Addr) (c n : Nat), e = .returned (.tuple #[.slice A n c, .bool r.isSome]) ∧ (r.getD []).length = n ∧ n ≤ 1000000 ∧ Reads w' w'.heap.size 2 A n (rcells (r.getD [])) ∧ Below w.heap.size w w'
theorem flatB_of {r : Option (List Rg)} {w : World} {e : Ending} {w' : World} (h : OutB2 r w e w') : FlatB r w e w' := by
  cases r with
  | none => exact ⟨none, 0, 0, h.1, rfl, by omega, ⟨rfl, fun h => absurd h (by omega)⟩, h.2⟩
  | some bs => obtain ⟨A, c, n, h1, h2, h3, h4, h5⟩ := h; exact ⟨A, c, n, h1, h2, h3, h4, h5⟩
theorem bands_flat (H : List Hd) (n : Nat) (A : Option Addr) (c : Nat) (w : World) (hN : Nest w w.heap.size A n H) (hn : n ≤ 1000) (hm : ∀ h ∈ H, h.n ≤ 1000) (ht : tot (setsOf H) ≤ 1000) :
    Calls Try.prog 13 #[.slice A n c] w (FlatB (bandsR (setsOf H)) w) := by
  by_cases h : allB (setsOf H) = true ∧ [] ∉ setsOf H ∧ ∀ v, Sc v → Once (setsOf H) v
  · refine (bands_yes H n A c w hN hn hm ((allB_iff _).1 h.1) h.2.1 h.2.2).mono ?_
    rintro e w' ⟨bs, A5, c5, n5, he, hb, hl, ht5, hs, hr, g⟩
    rw [bandsR_some h.1 h.2.1 h.2.2 hb]
    exact ⟨A5, c5, n5, he, hl, by omega, hr, g⟩
  · refine (bands_no H n A c w hN hn hm (fun hh => h ⟨(allB_iff _).2 hh.1, hh.2⟩)).mono ?_
    rintro e w' ⟨he, g⟩
    rw [bandsR_none h]
    exact ⟨none, 0, 0, he, rfl, by omega, ⟨rfl, fun h => absurd h (by omega)⟩, g⟩
theorem insA_len {s : List Rg} : ∀ (P : List (List Rg)) (acc : List Int) (i : Nat) (l : List Int), insA s acc i P = some l → l.length ≤ acc.length + P.length
  | [], acc, i, l, h => by
    have e : some acc = some l := h
    injection e with e
    subst e; simp
  | p :: P, acc, i, l, h => by
    by_cases h1 : Sub p s
    · rw [insA_sub h1] at h
      have := insA_len P _ _ _ h
      simp at this ⊢
      omega
    · by_cases h2 : Dis p s
      · rw [insA_dis h1 h2] at h
        have := insA_len P _ _ _ h
        simp at this ⊢
        omega
      · rw [insA_no h1 h2] at h; cases h
theorem witA_len {P : List (List Rg)} : ∀ (L : List (List Rg)) (acc r : List (List Int)), (∀ l ∈ acc, l.length ≤ P.length) → witA P acc L = some r → r.length = acc.length + L.length ∧ ∀ l ∈ r, l.length ≤ P.length
  | [], acc, r, ha, h => by
    have e : some acc = some r := h
    injection e with e
    subst e
    exact ⟨by simp, ha⟩
  | s :: L, acc, r, ha, h => by
    unfold witA at h
    cases hi : insA s [] 0 P with
    | none => rw [hi] at h; cases h
    | some l =>
      rw [hi] at h
      have h1 := insA_len P [] 0 l hi
      obtain ⟨h2, h3⟩ := witA_len L (acc ++ [l]) r (fun x hx => by
        rcases List.mem_append.1 hx with hx | hx
        · exact ha x hx
        · rw [List.mem_singleton] at hx; subst hx; simpa using h1) h
      exact ⟨by rw [h2]; simp; omega, h3⟩
def FlatW (r : Option (List (List Int))) (w : World) (e : Ending) (w' : World) : Prop :=
  ∃ (A : Option Addr) (c z : Nat) (H : List Hi), e = .returned (.tuple #[.slice A z c, .bool r.isSome]) ∧ listsOf H = r.getD [] ∧ NestI w' w'.heap.size A z H ∧ Below w.heap.size w w'
theorem nestI_nil (w : World) : NestI w w.heap.size none 0 [] := ⟨rfl, ⟨rfl, fun h => absurd h (by omega)⟩, fun h hh => by simp at hh⟩
theorem flatW_of {r : Option (List (List Int))} {w : World} {e : Ending} {w' : World} (h : OutW r w e w') : FlatW r w e w' := by
  cases r with
  | none => exact ⟨none, 0, 0, [], h.1, rfl, nestI_nil _, h.2⟩
  | some l => obtain ⟨A, c, z, H, h1, h2, h3, h4⟩ := h; exact ⟨A, c, z, H, h1, h2, h3, h4⟩
theorem flatW_wi {L P : List (List Rg)} {w : World} {e : Ending} {w' : World} (h : OutWi L P w e w') : FlatW (withR L P) w e w' := by
  refine flatW_of ?_
  rcases h with ⟨h1, h2⟩ | ⟨h1, h2⟩
  · exact outW_none (withR_no h1) h2
  · have e1 : withR L P = witA P [] L := by unfold withR; rw [h1]; rfl
    rw [e1]
    cases hw : witA P [] L with
    | none => rw [hw] at h2; exact h2
    | some r => rw [hw] at h2; exact h2
theorem withR_len {L P : List (List Rg)} : ((withR L P).getD []).length ≤ L.length ∧ ∀ l ∈ (withR L P).getD [], l.length ≤ P.length := by
  cases hr : withR L P with
  | none => exact ⟨by simp, fun l hl => by simp at hl⟩
  | some r =>
    have h : witA P [] L = some r := by
      unfold withR at hr
      split at hr
      · exact hr
      · cases hr
    obtain ⟨h1, h2⟩ := witA_len L [] r (fun l hl => by simp at hl) h
    exact ⟨by show r.length ≤ _; rw [h1]; simp, h2⟩
end Go.Proofs.Ythaageiflimnnaa
