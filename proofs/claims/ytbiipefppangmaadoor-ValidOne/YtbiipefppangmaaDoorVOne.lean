/- Plain mathematics: tables that may be and that break alike are one. No program. -/
import Derived.Test.YtbiipefppangmaaDoorValA
namespace Go.Proofs.YtbiipefppangmaaDoor

theorem nodup_le {α : Type} [DecidableEq α] : ∀ (l l' : List α), l.Nodup → (∀ x ∈ l, x ∈ l') → l.length ≤ l'.length
  | [], _, _, _ => Nat.zero_le _
  | x :: l, l', hn, hs => by
    rw [List.nodup_cons] at hn
    have hx : x ∈ l' := hs x (by simp)
    have h1 := nodup_le l (l'.erase x) hn.2 (fun y hy => (List.mem_erase_of_ne (fun (e : y = x) => hn.1 (e ▸ hy))).2 (hs y (by simp [hy])))
    rw [List.length_erase_of_mem hx] at h1
    have : 0 < l'.length := List.length_pos_of_mem hx
    rw [List.length_cons]
    omega
section
variable {R : Nat → Nat → Prop} (F1 : ∀ a b b', R a b → R a b' → b = b') (F2 : ∀ a a' b, R a b → R a' b → a = a')
include F1 F2
theorem ordRow_same : ∀ (l l' : List Int) (m : Nat) (m1 m2 : Int), l.length = l'.length → (∀ i (h : i < l.length) (h' : i < l'.length), 0 ≤ l[i] ∧ 0 ≤ l'[i] ∧ R l[i].toNat l'[i].toNat) → (∀ i < m, R i i) → ordRow l m = some m1 → ordRow l' m = some m2 →
    l = l' ∧ ∃ k : Nat, m1 = k ∧ m2 = k ∧ ∀ i < k, R i i
  | [], [], m, m1, m2, _, _, hR, h1, h2 => by
    simp [ordRow] at h1 h2
    exact ⟨rfl, m, h1.symm, h2.symm, hR⟩
  | [], _ :: _, _, _, _, hl, _, _, _, _ => by simp at hl
  | _ :: _, [], _, _, _, hl, _, _, _, _ => by simp at hl
  | v :: l, v' :: l', m, m1, m2, hl, he, hR, h1, h2 => by
    obtain ⟨p1, p2, p3⟩ := he 0 (by simp) (by simp)
    simp only [List.getElem_cons_zero] at p1 p2 p3
    rw [ordRow_cons] at h1 h2
    by_cases q1 : (m : Int) < v
    · rw [if_pos q1] at h1; cases h1
    by_cases q2 : (m : Int) < v'
    · rw [if_pos q2] at h2; cases h2
    rw [if_neg q1] at h1
    rw [if_neg q2] at h2
    have hv : v.toNat = v'.toNat := by
      by_cases c1 : v.toNat < m
      · exact F1 v.toNat v.toNat v'.toNat (hR _ c1) p3
      · by_cases c2 : v'.toNat < m
        · exact F2 _ _ v'.toNat p3 (hR _ c2)
        · omega
    have e : v = v' := by omega
    subst e
    have key : ∀ m' : Nat, max (m : Int) (v + 1) = (m' : Int) → (∀ i < m', R i i) → v :: l = v :: l' ∧ ∃ k : Nat, m1 = k ∧ m2 = k ∧ ∀ i < k, R i i := by
      intro m' hm' hR'
      rw [hm'] at h1 h2
      obtain ⟨a, b⟩ := ordRow_same l l' m' m1 m2 (by simpa using hl) (fun i h h' => by
        have := he (i + 1) (by simpa using h) (by simpa using h')
        simpa using this) hR' h1 h2
      exact ⟨by rw [a], b⟩
    by_cases c1 : v.toNat < m
    · exact key m (by omega) hR
    · exact key (m + 1) (by omega) (fun i hi => by
        rcases Nat.lt_succ_iff_lt_or_eq.1 hi with hi | rfl
        · exact hR i hi
        · rw [show i = v.toNat by omega] ; rw [← hv] at p3; exact p3)
theorem ordScan_same : ∀ (L L' : List (List Int)) (s m : Nat), (∀ a b, R a b → a < s + L.length ∧ b < s + L'.length) →
    (∀ i (h : i < L.length) (h' : i < L'.length), R (s + i) (s + i) → L[i].length = L'[i].length ∧ ∀ c (hc : c < L[i].length) (hc' : c < L'[i].length), 0 ≤ L[i][c] ∧ 0 ≤ L'[i][c] ∧ R L[i][c].toNat L'[i][c].toNat) →
    (∀ i < m, R i i) → ordScan L s m = true → ordScan L' s m = true → L = L' ∧ ∀ i, s ≤ i → i < s + L.length → R i i
  | [], [], s, m, _, _, _, _, _ => ⟨rfl, fun i h1 h2 => absurd h2 (by simp; omega)⟩
  | [], r' :: L', s, m, hr, _, hR, _, h2 => by
    rw [ordScan_cons] at h2
    by_cases q : (m : Int) ≤ s
    · rw [if_pos q] at h2; cases h2
    · have := (hr s s (hR s (by omega))).1
      simp at this
  | r :: L, [], s, m, hr, _, hR, h1, _ => by
    rw [ordScan_cons] at h1
    by_cases q : (m : Int) ≤ s
    · rw [if_pos q] at h1; cases h1
    · have := (hr s s (hR s (by omega))).2
      simp at this
  | r :: L, r' :: L', s, m, hr, he, hR, h1, h2 => by
    rw [ordScan_cons] at h1 h2
    by_cases q : (m : Int) ≤ s
    · rw [if_pos q] at h1; cases h1
    rw [if_neg q] at h1 h2
    have hss : R s s := hR s (by omega)
    obtain ⟨e1, e2⟩ := he 0 (by simp) (by simp) hss
    simp only [List.getElem_cons_zero] at e1 e2
    cases hm1 : ordRow r m with
    | none => rw [hm1] at h1; cases h1
    | some m1 =>
      cases hm2 : ordRow r' m with
      | none => rw [hm2] at h2; cases h2
      | some m2 =>
        obtain ⟨er, k, rfl, rfl, hk⟩ := ordRow_same F1 F2 r r' m m1 m2 e1 e2 hR hm1 hm2
        rw [hm1] at h1
        rw [hm2] at h2
        simp only [] at h1 h2
        obtain ⟨eL, hall⟩ := ordScan_same L L' (s + 1) k (fun a b hab => by have := hr a b hab; simp at this; omega) (fun i h h' hi => by
          have := he (i + 1) (by simpa using h) (by simpa using h') (by rw [show s + (i + 1) = s + 1 + i by omega]; exact hi)
          simpa using this) hk (by rw [Int.natCast_add]; exact h1) (by rw [Int.natCast_add]; exact h2)
        refine ⟨by rw [er, eL], fun i hi1 hi2 => ?_⟩
        simp at hi2
        by_cases e : i = s
        · rw [e]; exact hss
        · exact hall i (by omega) (by omega)
end
/-- Closed under steps, breaking alike: one table. -/
theorem one_same {t u : Tb} (ht : Vd t) (hu : Vd u) (hb : t.bd = u.bd) (hc : t.cl = u.cl) (P : List (Nat × Nat)) (h0 : (0, 0) ∈ P) (hr : ∀ p ∈ P, p.1 < t.nx.length ∧ p.2 < u.nx.length)
    (hcl : ∀ p ∈ P, ∀ c < t.cl.toNat, (nxN t p.1 c, nxN u p.2 c) ∈ P) (hbr : ∀ p ∈ P, brkN t p.1 = brkN u p.2) : t = u := by
  have ct := (cntV_iff _).1 ht.cnt
  have cu := (cntV_iff _).1 hu.cnt
  have G1 : ∀ r a b b', (a, b) ∈ P → (a, b') ∈ P → far u r b b' = false := by
    intro r
    induction r with
    | zero => intro a b b' h1 h2; simp only [far]; rw [← hbr _ h1, ← hbr _ h2]; simp
    | succ r ih =>
      intro a b b' h1 h2
      cases e : far u (r + 1) b b' with
      | false => rfl
      | true =>
        rcases far_cases e with e | ⟨c, hcc, e⟩
        · rw [ih a b b' h1 h2] at e; cases e
        · rw [ih _ _ _ (hcl _ h1 c (by rw [hc]; exact hcc)) (hcl _ h2 c (by rw [hc]; exact hcc))] at e; cases e
  have G2 : ∀ r a a' b, (a, b) ∈ P → (a', b) ∈ P → far t r a a' = false := by
    intro r
    induction r with
    | zero => intro a a' b h1 h2; simp only [far]; rw [hbr _ h1, hbr _ h2]; simp
    | succ r ih =>
      intro a a' b h1 h2
      cases e : far t (r + 1) a a' with
      | false => rfl
      | true =>
        rcases far_cases e with e | ⟨c, hcc, e⟩
        · rw [ih a a' b h1 h2] at e; cases e
        · rw [ih _ _ _ (hcl _ h1 c hcc) (hcl _ h2 c hcc)] at e; cases e
  have F1 : ∀ a b b', (a, b) ∈ P → (a, b') ∈ P → b = b' := fun a b b' h1 h2 => by
    have r1 := (hr _ h1).2
    have r2 := (hr _ h2).2
    rcases Nat.lt_trichotomy b b' with h | h | h
    · have := leastB_all hu.lst h r2; unfold farB at this; rw [G1 _ a b b' h1 h2] at this; cases this
    · exact h
    · have := leastB_all hu.lst h r1; unfold farB at this; rw [G1 _ a b' b h2 h1] at this; cases this
  have F2 : ∀ a a' b, (a, b) ∈ P → (a', b) ∈ P → a = a' := fun a a' b h1 h2 => by
    have r1 := (hr _ h1).1
    have r2 := (hr _ h2).1
    rcases Nat.lt_trichotomy a a' with h | h | h
    · have := leastB_all ht.lst h r2; unfold farB at this; rw [G2 _ a a' b h1 h2] at this; cases this
    · exact h
    · have := leastB_all ht.lst h r1; unfold farB at this; rw [G2 _ a' a b h2 h1] at this; cases this
  have nI : ∀ (x : Tb) (hx : nextB x = true) i (h : i < x.nx.length) c (hc : c < x.nx[i].length), x.nx[i][c] = (nxN x i c : Int) := by
    intro x hx i h c hc
    have := nextB_all hx (List.getElem_mem h) (List.getElem_mem hc)
    unfold nxN nxI
    rw [List.getD_eq_getElem?_getD, List.getD_eq_getElem?_getD, List.getElem?_eq_getElem h]
    simp only [Option.getD_some]
    rw [List.getElem?_eq_getElem hc]
    simp only [Option.getD_some]
    omega
  obtain ⟨e, hall⟩ := ordScan_same (R := fun a b => (a, b) ∈ P) F1 F2 t.nx u.nx 0 1 (fun a b hab => by have := hr _ hab; simpa using this) (fun i h h' hi => by
    have l1 := ct.rw _ (List.getElem_mem h)
    have l2 := cu.rw _ (List.getElem_mem h')
    refine ⟨by omega, fun c hc1 hc2 => ?_⟩
    rw [nI t ht.nxt i h c hc1, nI u hu.nxt i h' c hc2]
    refine ⟨by omega, by omega, ?_⟩
    have := hcl (i, i) (by simpa using hi) c (by omega)
    simpa using this) (fun i hi => by rw [show i = 0 by omega]; exact h0) ht.ord hu.ord
  have hbrk : t.br = u.br := by
    apply List.ext_getElem
    · rw [ct.b1, cu.b1, e]
    · intro i h1 h2
      have hi := hall i (Nat.zero_le _) (by rw [← ct.b1]; omega)
      have := hbr _ hi
      unfold brkN at this
      rw [List.getD_eq_getElem?_getD, List.getD_eq_getElem?_getD, List.getElem?_eq_getElem h1, List.getElem?_eq_getElem h2] at this
      simpa using this
  cases t; cases u
  simp only at hb hc e hbrk
  rw [hb, hc, e, hbrk]
end Go.Proofs.YtbiipefppangmaaDoor
