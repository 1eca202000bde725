/- GMath, PartsC, InRow, BandsC, OfC, OfD, BMath, WithinC, WithinD, Cnt, QMath: joined. -/
import Derived.Test.YthaageiflimnnaaGrpD
import Derived.Test.YthaageiflimnnaaGrpG
import Derived.RangeFuncNested
import Derived.RangeFuncBound
import Derived.RangeFuncCalls
import Derived.RangeFuncLeaves
import Derived.RangeFuncBox
import Derived.Shelf.Abstract
import Derived.Shelf.RegionOpen
import Derived.WalkKit
import Derived.OwnWalkIn
import Derived.TacticsInMore
import Derived.LoopNIn
import Derived.LoopIn
import Derived.Test.YthaageiflimnnaaGrpB
/- The parts that are gathered of bands; that parts are told by which scalars are alike. -/
namespace Go.Proofs.Ythaageiflimnnaa
set_option linter.unusedSimpArgs false
set_option linter.unusedVariables false

theorem hiB_N (bs : List Rg) (k : Nat) : hiB bs k = hiN (bs.map (·.1)) k := by
  unfold hiB hiN
  by_cases h : k + 1 < bs.length
  · rw [dif_pos h, dif_pos (by simpa using h)]; simp
  · rw [dif_neg h, dif_neg (by simpa using h)]
/-- The ranges of class c among the first k bands. -/
def gl (bs : List Rg) (c : Nat) : Nat → List Rg
  | 0 => []
  | k + 1 => if (bs.getD k (0, 0)).2 = (c : Int) then gl bs c k ++ [((bs.getD k (0, 0)).1, hiB bs k)] else gl bs c k
theorem getD_at {bs : List Rg} {k : Nat} (h : k < bs.length) : bs.getD k (0, 0) = bs[k] := by rw [List.getD_eq_getElem?_getD, List.getElem?_eq_getElem h]; rfl
theorem gl_none {bs : List Rg} {c : Nat} : ∀ k, (∀ j, j < k → (bs.getD j (0, 0)).2 ≠ (c : Int)) → gl bs c k = []
  | 0, _ => rfl
  | k + 1, h => by
    show (if _ then _ else _) = _
    rw [if_neg (h k (by omega)), gl_none k (fun j hj => h j (by omega))]
theorem gl_last {bs : List Rg} {c : Nat} : ∀ k t x, gl bs c k = t ++ [x] → ∃ j, j < k ∧ (bs.getD j (0, 0)).2 = (c : Int) ∧ x = ((bs.getD j (0, 0)).1, hiB bs j)
  | 0, t, x, h => by simp [gl] at h
  | k + 1, t, x, h => by
    unfold gl at h
    split at h
    · rename_i hc
      have e := (List.append_inj' h rfl).2
      simp at e
      exact ⟨k, by omega, hc, e.symm⟩
    · obtain ⟨j, hj, h1, h2⟩ := gl_last k t x h
      exact ⟨j, by omega, h1, h2⟩
theorem gl_head {bs : List Rg} {c : Nat} : ∀ k x t, gl bs c k = x :: t → ∃ j, j < k ∧ (bs.getD j (0, 0)).2 = (c : Int) ∧ x.1 = (bs.getD j (0, 0)).1 ∧ ∀ i, i < j → (bs.getD i (0, 0)).2 ≠ (c : Int)
  | 0, x, t, h => by simp [gl] at h
  | k + 1, x, t, h => by
    unfold gl at h
    split at h
    · rename_i hc
      cases hg : gl bs c k with
      | nil =>
        rw [hg] at h
        simp at h
        refine ⟨k, by omega, hc, by rw [← h.1, List.getD_eq_getElem?_getD], fun i hi e => ?_⟩
        have hne : ∀ m, m ≤ k → i < m → gl bs c m ≠ [] := by
          intro m
          induction m with
          | zero => intro _ h; omega
          | succ m ih =>
            intro hm him
            unfold gl
            split
            · simp
            · rename_i hcm
              have : i ≠ m := fun e' => hcm (e' ▸ e)
              exact ih (by omega) (by omega)
        exact hne k (Nat.le_refl _) hi hg
      | cons y t' =>
        rw [hg] at h
        simp at h
        obtain ⟨j, hj, h1, h2, h3⟩ := gl_head k y t' hg
        exact ⟨j, by omega, h1, by rw [← h.1]; exact h2, h3⟩
    · obtain ⟨j, hj, h1, h2, h3⟩ := gl_head k x t h
      exact ⟨j, by omega, h1, h2, h3⟩
theorem gl_some {bs : List Rg} {c : Nat} {i : Nat} (e : (bs.getD i (0, 0)).2 = (c : Int)) : ∀ m, i < m → gl bs c m ≠ []
  | m + 1, h => by
    unfold gl
    split
    · simp
    · rename_i hcm
      have : i ≠ m := fun e' => hcm (e' ▸ e)
      exact gl_some e m (by omega)

/-- What has been gathered. -/
theorem gath_spec {E : Int → Int → Prop} {bs : List Rg} (h : Chg E bs) : ∀ k, k ≤ bs.length → (∀ c : Nat, c < (gath bs k).length ↔ ∃ j, j < k ∧ (bs.getD j (0, 0)).2 = (c : Int)) ∧ (∀ c, c < (gath bs k).length → (gath bs k).getD c [] = gl bs c k)
  | 0, _ => ⟨fun c => by simp [gath], fun c hc => by simp [gath] at hc⟩
  | k + 1, hk => by
    obtain ⟨ha, hb⟩ := gath_spec h k (by omega)
    have hlt : k < bs.length := by omega
    have hnn := h.nn _ (List.getElem_mem hlt)
    obtain ⟨cn, hcn⟩ : ∃ cn : Nat, bs[k].2 = cn := ⟨bs[k].2.toNat, by omega⟩
    have ebk := getD_at hlt
    have hle : cn ≤ (gath bs k).length := by
      rcases Nat.lt_or_ge (gath bs k).length cn with hh | hh
      · obtain ⟨j, hj, e⟩ := h.met k hlt (gath bs k).length (by omega)
        have := (ha (gath bs k).length).2 ⟨j, hj, by rw [getD_at (by omega)]; exact e⟩
        omega
      · exact hh
    have eg : gath bs (k + 1) = gput (gath bs k) cn (bs[k].1, hiB bs k) := by
      show gput (gath bs k) (bs.getD k (0, 0)).2.toNat ((bs.getD k (0, 0)).1, hiB bs k) = _
      rw [ebk, hcn, Int.toNat_natCast]
    have egl : ∀ c : Nat, gl bs c (k + 1) = if cn = c then gl bs c k ++ [(bs[k].1, hiB bs k)] else gl bs c k := by
      intro c
      show (if (bs.getD k (0, 0)).2 = (c : Int) then gl bs c k ++ [((bs.getD k (0, 0)).1, hiB bs k)] else gl bs c k) = _
      rw [ebk, hcn]
      by_cases e : cn = c
      · rw [if_pos (by omega), if_pos e]
      · rw [if_neg (by omega), if_neg e]
    have hex : ∀ c : Nat, (∃ j, j < k + 1 ∧ (bs.getD j (0, 0)).2 = (c : Int)) ↔ (∃ j, j < k ∧ (bs.getD j (0, 0)).2 = (c : Int)) ∨ cn = c := by
      intro c
      constructor
      · rintro ⟨j, hj, e⟩
        rcases Nat.lt_or_ge j k with h1 | h1
        · exact .inl ⟨j, h1, e⟩
        · have ej : j = k := by omega
          subst ej
          rw [ebk, hcn] at e
          exact .inr (by omega)
      · rintro (⟨j, hj, e⟩ | e)
        · exact ⟨j, by omega, e⟩
        · exact ⟨k, by omega, by rw [ebk, hcn, e]⟩
    rw [eg]
    unfold gput gopen
    by_cases hc : cn = (gath bs k).length
    · rw [if_pos hc]
      have e0 : (gath bs k ++ [[]]).getD cn [] = [] := by rw [hc, List.getD_eq_getElem?_getD]; simp
      rw [e0, List.nil_append]
      have hno : gl bs cn k = [] := gl_none k (fun j hj e => by have := (ha cn).2 ⟨j, hj, e⟩; omega)
      constructor
      · intro c
        rw [List.length_set, List.length_append, hex, ← ha]
        simp only [List.length_cons, List.length_nil]
        omega
      · intro c hcl
        rw [List.length_set, List.length_append] at hcl
        simp only [List.length_cons, List.length_nil] at hcl
        rw [List.getD_eq_getElem?_getD, List.getElem?_set, egl]
        by_cases e : cn = c
        · rw [if_pos e, if_pos (by rw [List.length_append]; simp; omega), if_pos e, ← e, hno]; rfl
        · rw [if_neg e, if_neg e, List.getElem?_append_left (by omega), ← List.getD_eq_getElem?_getD]
          exact hb c (by omega)
    · rw [if_neg hc]
      constructor
      · intro c
        rw [List.length_set, hex, ← ha]
        omega
      · intro c hcl
        rw [List.length_set] at hcl
        rw [List.getD_eq_getElem?_getD, List.getElem?_set, egl]
        by_cases e : cn = c
        · rw [if_pos e, if_pos (by omega), if_pos e, ← e, hb cn (by omega)]; rfl
        · rw [if_neg e, if_neg e, ← List.getD_eq_getElem?_getD]
          exact hb c hcl
theorem gath_ok {E : Int → Int → Prop} {bs : List Rg} (h : Chg E bs) : ∀ k (hk : k < bs.length), 0 ≤ bs[k].2 ∧ bs[k].2 ≤ (gath bs k).length := by
  intro k hk
  have hnn := h.nn _ (List.getElem_mem hk)
  refine ⟨hnn, ?_⟩
  rcases Int.lt_or_le ((gath bs k).length : Int) bs[k].2 with hh | hh
  · obtain ⟨j, hj, e⟩ := h.met k hk (gath bs k).length hh
    have := ((gath_spec h k (by omega)).1 (gath bs k).length).2 ⟨j, hj, by rw [getD_at (by omega)]; exact e⟩
    omega
  · exact hh

/-- Parts of scalars that are alike, in order. -/
def fst1 (p : List Rg) : Int := (p.headD (0, 0)).1
structure Parts (E : Int → Int → Prop) (P : List (List Rg)) : Prop where
  gd : ∀ p ∈ P, Gd (-1) p
  ne : ∀ p ∈ P, p ≠ []
  cl : ∀ p ∈ P, ∀ u v, Sc u → Sc v → In p u → (In p v ↔ E v u)
  cov : ∀ v, Sc v → ∃ p ∈ P, In p v
  inc : P.Pairwise (fun p q => fst1 p < fst1 q)
theorem fst1_in {p : List Rg} (hg : Gd (-1) p) (hn : p ≠ []) : Sc (fst1 p) ∧ In p (fst1 p) := by
  cases p with
  | nil => exact absurd rfl hn
  | cons x t => exact ⟨hg.2.1.1, (In_cons ..).2 (.inl ⟨Int.le_refl _, hg.2.1.2.2⟩)⟩
theorem sorted_same : ∀ (P Q : List (List Rg)), P.Pairwise (fun p q => fst1 p < fst1 q) → Q.Pairwise (fun p q => fst1 p < fst1 q) → (∀ x, x ∈ P ↔ x ∈ Q) → P = Q
  | [], [], _, _, _ => rfl
  | [], y :: Q, _, _, h => by have := (h y).2 (List.mem_cons_self ..); simp at this
  | x :: P, [], _, _, h => by have := (h x).1 (List.mem_cons_self ..); simp at this
  | x :: P, y :: Q, hP, hQ, h => by
    rw [List.pairwise_cons] at hP hQ
    have e : x = y := by
      rcases List.mem_cons.1 ((h x).1 (List.mem_cons_self ..)) with h1 | h1
      · exact h1
      · rcases List.mem_cons.1 ((h y).2 (List.mem_cons_self ..)) with h2 | h2
        · exact h2.symm
        · have := hQ.1 x h1; have := hP.1 y h2; omega
    subst e
    rw [sorted_same P Q hP.2 hQ.2 fun z => ?_]
    constructor
    · intro hz
      rcases List.mem_cons.1 ((h z).1 (List.mem_cons_of_mem _ hz)) with h1 | h1
      · subst h1; have := hP.1 z hz; omega
      · exact h1
    · intro hz
      rcases List.mem_cons.1 ((h z).2 (List.mem_cons_of_mem _ hz)) with h1 | h1
      · subst h1; have := hQ.1 z hz; omega
      · exact h1
theorem parts_sub {E E' : Int → Int → Prop} (hE : ∀ u v, Sc u → Sc v → (E u v ↔ E' u v)) {P Q : List (List Rg)} (hP : Parts E P) (hQ : Parts E' Q) : ∀ x, x ∈ P → x ∈ Q := by
  intro p hp
  obtain ⟨hs, hi⟩ := fst1_in (hP.gd p hp) (hP.ne p hp)
  obtain ⟨q, hq, hiq⟩ := hQ.cov _ hs
  have : p = q := uniq p q _ _ (hP.gd p hp) (hQ.gd q hq) fun v hv => by
    rw [hP.cl p hp _ v hs hv hi, hQ.cl q hq _ v hs hv hiq, hE v _ hv hs]
  rw [this]; exact hq
/-- Parts are told by which scalars are alike. -/
theorem Parts.uniq {E E' : Int → Int → Prop} (hE : ∀ u v, Sc u → Sc v → (E u v ↔ E' u v)) {P Q : List (List Rg)} (hP : Parts E P) (hQ : Parts E' Q) : P = Q :=
  sorted_same P Q hP.inc hQ.inc fun x => ⟨parts_sub hE hP hQ x, parts_sub (fun u v hu hv => (hE u v hu hv).symm) hQ hP x⟩
theorem Parts.conv {E E' : Int → Int → Prop} (hE : ∀ u v, Sc u → Sc v → (E u v ↔ E' u v)) {P : List (List Rg)} (h : Parts E P) : Parts E' P :=
  ⟨h.gd, h.ne, fun p hp u v hu hv hi => (h.cl p hp u v hu hv hi).trans (hE v u hv hu), h.cov, h.inc⟩

theorem chg_last {E : Int → Int → Prop} {bs : List Rg} (h : Chg E bs) {v : Int} (hv : Sc v) : ∃ i, ∃ hi : i < bs.length, bs[i].1 ≤ v ∧ ∀ hh : i + 1 < bs.length, v < bs[i + 1].1 := by
  obtain ⟨h0, e0⟩ := h.zero
  have key : ∀ m, m < bs.length → (∃ hm : m < bs.length, bs[m].1 ≤ v) → ∃ i, ∃ hi : i < bs.length, bs[i].1 ≤ v ∧ ∀ hh : i + 1 < bs.length, v < bs[i + 1].1 := by
    intro m
    generalize hd : bs.length - m = d
    induction d generalizing m with
    | zero => intro hm; omega
    | succ d ih =>
      intro hm ⟨_, hle⟩
      by_cases hn : m + 1 < bs.length
      · rcases Int.lt_or_le v bs[m + 1].1 with h1 | h1
        · exact ⟨m, hm, hle, fun _ => h1⟩
        · exact ih (m + 1) (by omega) hn ⟨hn, h1⟩
      · exact ⟨m, hm, hle, fun hh => absurd hh hn⟩
  exact key 0 h0 ⟨h0, by rw [e0]; unfold Sc at hv; omega⟩
/-- The parts of bands. -/
theorem parts_of {E : Int → Int → Prop} (hE : IsEq E) {bs : List Rg} (h : Chg E bs) : Parts E (gath bs bs.length) := by
  obtain ⟨ha, hb⟩ := gath_spec h bs.length (Nat.le_refl _)
  have hset : ∀ (c : Nat) (j : Nat) (hj : j < bs.length), bs[j].2 = (c : Int) → IsSet (gl bs c bs.length) (fun v => E v bs[j].1) := by
    intro c j hj hc
    have hP : Places (bs.map (·.1)) (fun v => E v bs[j].1) := ⟨h.inc, fun x hx => by
        obtain ⟨b, hb, rfl⟩ := List.mem_map.1 hx
        exact h.sc b hb, ⟨by simpa using h.zero.1, by simpa using h.zero.2⟩, fun i hi v hv h1 h2 => by
        have hi' : i < bs.length := by simpa using hi
        have hc' := h.const i hi' v hv (by simpa using h1) (fun hh => by have := h2 (by simpa using hh); simpa using this)
        have e : (bs.map (·.1))[i] = bs[i].1 := by simp
        rw [e]
        exact ⟨fun x => hE.trans (hE.symm hc') x, fun x => hE.trans hc' x⟩⟩
    have hI : ∀ k, k ≤ bs.length → BdInv (bs.map (·.1)) (fun v => E v bs[j].1) k (gl bs c k) := by
      intro k
      induction k with
      | zero => intro _; exact bd_start hP
      | succ k ih =>
        intro hk
        have hk' : k < bs.length := by omega
        have hkm : k < (bs.map (·.1)).length := by simpa using hk'
        have ek : (bs.map (·.1))[k] = bs[k].1 := by simp
        have hi := ih (by omega)
        have egl : gl bs c (k + 1) = if bs[k].2 = (c : Int) then gl bs c k ++ [(bs[k].1, hiB bs k)] else gl bs c k := by
          show (if (bs.getD k (0, 0)).2 = (c : Int) then gl bs c k ++ [((bs.getD k (0, 0)).1, hiB bs k)] else gl bs c k) = _
          rw [getD_at hk']
        rw [egl]
        by_cases e : bs[k].2 = (c : Int)
        · rw [if_pos e, hiB_N]
          have hp : E ((bs.map (·.1))[k]) bs[j].1 := by rw [ek]; exact (h.cls k j hk' hj).1 (by rw [e, hc])
          have hn := bd_new hP hi hkm hp (fun t x ht => by
            obtain ⟨i, hik, h1, rfl⟩ := gl_last k t x ht
            rw [getD_at (by omega)] at h1
            show nextN (hiB bs i) ≠ (bs.map (·.1))[k]
            rw [hiB_N]
            have hi1 : i < (bs.map (·.1)).length := by simp; omega
            have hi2 : i + 1 < (bs.map (·.1)).length := by simp; omega
            obtain ⟨f1, f2, _⟩ := hi_facts hP hi1
            have h3 := f2 hi2
            have h4 : hiN (bs.map (·.1)) i < 1114111 := by
              have := nx_gt (hiN (bs.map (·.1)) i)
              have := hP.sc _ (List.getElem_mem hi2)
              unfold Sc at this
              omega
            rw [nextN_nx f1.2.1 h4, h3]
            intro e2
            rcases Nat.lt_or_ge (i + 1) k with h5 | h5
            · have := hP.inc.mono (i + 1) k hi2 hkm h5; omega
            · have e3 : k = i + 1 := by omega
              subst e3
              exact h.step i (by omega) ((h.cls i (i + 1) (by omega) hk').1 (by rw [h1, e])))
          rw [ek] at hn
          exact hn
        · rw [if_neg e]
          refine bd_skip hP hi hkm (fun hp => e ?_)
          rw [ek] at hp
          rw [(h.cls k j hk' hj).2 hp, hc]
    exact bd_end (hI bs.length (Nat.le_refl _)) (by simp)
  have hmem : ∀ p, p ∈ gath bs bs.length → ∃ c j, ∃ hj : j < bs.length, bs[j].2 = ((c : Nat) : Int) ∧ c < (gath bs bs.length).length ∧ p = gl bs c bs.length := by
    intro p hp
    obtain ⟨c, hc, rfl⟩ := List.getElem_of_mem hp
    obtain ⟨j, hj, e⟩ := (ha c).1 hc
    have h1 := hb c hc
    rw [List.getD_eq_getElem?_getD, List.getElem?_eq_getElem hc] at h1
    exact ⟨c, j, hj, by rw [getD_at hj] at e; exact e, hc, h1⟩
  have hfst : ∀ c, c < (gath bs bs.length).length → ∃ j, ∃ hj : j < bs.length, bs[j].2 = (c : Int) ∧ fst1 (gl bs c bs.length) = bs[j].1 ∧ ∀ i (hi : i < j), (bs[i]'(by omega)).2 ≠ (c : Int) := by
    intro c hc
    obtain ⟨j0, hj0, e0⟩ := (ha c).1 hc
    have hne := gl_some e0 bs.length hj0
    cases hg : gl bs c bs.length with
    | nil => exact absurd hg hne
    | cons x t =>
      obtain ⟨j, hj, h1, h2, h3⟩ := gl_head _ _ _ hg
      rw [getD_at hj] at h1 h2
      exact ⟨j, hj, h1, h2, fun i hi => by have := h3 i hi; rwa [getD_at (by omega)] at this⟩
  refine ⟨?_, ?_, ?_, ?_, ?_⟩
  · intro p hp
    obtain ⟨c, j, hj, e, _, rfl⟩ := hmem p hp
    exact (hset c j hj e).1
  · intro p hp
    obtain ⟨c, j, hj, e, _, rfl⟩ := hmem p hp
    exact gl_some (by rw [getD_at hj]; exact e) _ hj
  · intro p hp u v hu hv hi
    obtain ⟨c, j, hj, e, _, rfl⟩ := hmem p hp
    have h1 := (hset c j hj e).2
    have h2 := (h1 u hu).1 hi
    rw [h1 v hv]
    exact ⟨fun x => hE.trans x (hE.symm h2), fun x => hE.trans x h2⟩
  · intro v hv
    obtain ⟨i, hi, h1, h2⟩ := chg_last h hv
    have hnn := h.nn _ (List.getElem_mem hi)
    obtain ⟨c, hc⟩ : ∃ c : Nat, bs[i].2 = c := ⟨bs[i].2.toNat, by omega⟩
    have hcl := (ha c).2 ⟨i, hi, by rw [getD_at hi]; exact hc⟩
    refine ⟨(gath bs bs.length)[c], List.getElem_mem hcl, ?_⟩
    have h3 := hb c hcl
    rw [List.getD_eq_getElem?_getD, List.getElem?_eq_getElem hcl] at h3
    have h4 : (gath bs bs.length)[c] = gl bs c bs.length := h3
    rw [h4]
    exact ((hset c i hi hc).2 v hv).2 (h.const i hi v hv h1 h2)
  · rw [List.pairwise_iff_getElem]
    intro c d hc hd hcd
    have hcg : (gath bs bs.length)[c] = gl bs c bs.length := by
      have h3 := hb c hc
      rw [List.getD_eq_getElem?_getD, List.getElem?_eq_getElem hc] at h3
      exact h3
    have hdg : (gath bs bs.length)[d] = gl bs d bs.length := by
      have h3 := hb d hd
      rw [List.getD_eq_getElem?_getD, List.getElem?_eq_getElem hd] at h3
      exact h3
    rw [hcg, hdg]
    obtain ⟨j, hj, e1, e2, e3⟩ := hfst c hc
    obtain ⟨k, hk, f1, f2, f3⟩ := hfst d hd
    rw [e2, f2]
    obtain ⟨i, hi, e⟩ := h.met k hk c (by rw [f1]; omega)
    have hji : j ≤ i := by
      rcases Nat.lt_or_ge i j with h5 | h5
      · exact absurd e (e3 i h5)
      · exact h5
    have := h.inc.mono j k (by simpa using hj) (by simpa using hk) (by omega)
    simpa using this
end Go.Proofs.Ythaageiflimnnaa
/- What Parts returns, of at most 256 sets. -/
namespace Go.Proofs.Ythaageiflimnnaa
open Go.RowKit Go.BigFrame
set_option linter.unusedVariables false
set_option linter.unusedSimpArgs false

/-- Many scalars, no two of which are alike. -/
def Many (E : Int → Int → Prop) : Prop := ∃ vs : List Int, 257 ≤ vs.length ∧ (∀ v ∈ vs, Sc v) ∧ vs.Pairwise (fun u v => ¬ E u v)
def tot (L : List (List Rg)) : Nat := (L.map List.length).sum
theorem flUp_tot (L : List (List Rg)) : ∀ k, k ≤ L.length → (flUp L k).length ≤ 2 * tot (L.take k)
  | 0, _ => by simp [flUp]
  | k + 1, hk => by
    have h1 := flUp_tot L k (by omega)
    have h2 := flS_len k (L.getD k [])
    have eg : L.getD k [] = L[k] := by rw [List.getD_eq_getElem?_getD, List.getElem?_eq_getElem (by omega)]; rfl
    have e : tot (L.take (k + 1)) = tot (L.take k) + L[k].length := by
      unfold tot
      rw [List.take_succ_eq_append_getElem (by omega), List.map_append, List.sum_append]
      simp
    unfold flUp
    rw [List.length_append, e]
    rw [eg] at h2 ⊢
    omega
theorem swp_len : ∀ (rest : List Fl) (now : K4) (ks : List K4) (bs r : List Rg), swp now ks bs rest = some r → r.length ≤ bs.length + rest.length
  | [], now, ks, bs, r, h => by simp [swp] at h; subst h; simp
  | f :: t, now, ks, bs, r, h => by
    cases hs : sameAt f t
    · rw [swp_step hs] at h
      split at h
      · have := swp_len t _ _ _ _ h
        simp at this ⊢
        omega
      · split at h
        · simp at h
        · have := swp_len t _ _ _ _ h
          simp at this ⊢
          omega
    · rw [swp_same hs] at h
      have := swp_len t _ _ _ _ h
      simp
      omega
theorem gl_len (bs : List Rg) (c : Nat) : ∀ k, (gl bs c k).length ≤ k
  | 0 => by simp [gl]
  | k + 1 => by
    have := gl_len bs c k
    unfold gl
    split
    · simp; omega
    · omega
theorem gath_len {E : Int → Int → Prop} {bs : List Rg} (h : Chg E bs) : ∀ p ∈ gath bs bs.length, p.length ≤ bs.length := by
  intro p hp
  obtain ⟨ha, hb⟩ := gath_spec h bs.length (Nat.le_refl _)
  obtain ⟨c, hc, rfl⟩ := List.getElem_of_mem hp
  have h3 := hb c hc
  rw [List.getD_eq_getElem?_getD, List.getElem?_eq_getElem hc] at h3
  have h4 : (gath bs bs.length)[c] = gl bs c bs.length := h3
  rw [h4]
  exact gl_len bs c _
theorem srt_pairwise {G : List Fl} (h : Srt G) : G.Pairwise (fun a b : Fl => a.1 ≤ b.1) := by
  rw [List.pairwise_iff_getElem]
  exact fun i j hi hj hij => h i j hi hj hij
/-- What the bands of sweeping come to. -/
theorem swept_tells {L : List (List Rg)} (hL : ∀ s ∈ L, Gd (-1) s) (hn : L.length ≤ 256) {G : List Fl} (hG : G.Perm (flUp L L.length ++ [(0, 0, 0)])) (hs : Srt G) :
    match swp k0 [] [] G with
    | some bs => Chg (Ek L) bs ∧ (gath bs bs.length).length ≤ 256 ∧ bs.length ≤ 2 * tot L + 1
    | none => Many (Ek L) := by
  have hw : ∀ f ∈ G, Fwf f := by
    intro f hf
    rcases List.mem_append.1 (hG.mem_iff.1 hf) with hf | hf
    · exact flUp_wf L _ hn f hf
    · rw [List.mem_singleton] at hf; subst hf; simp [Fwf, U64]
  have h := swp_tells (srt_pairwise hs) hw G [] [] [] (swI_start G) (by simp)
  rw [show kfold k0 [] = k0 from rfl] at h
  cases hr : swp k0 [] [] G with
  | some bs =>
    rw [hr] at h
    obtain ⟨ks, hk, hI⟩ := h
    have hc := chg_of hL hn hG hI
    refine ⟨hc, ?_, ?_⟩
    · rcases Nat.lt_or_ge 256 (gath bs bs.length).length with h1 | h1
      · obtain ⟨j, hj, e⟩ := ((gath_spec hc bs.length (Nat.le_refl _)).1 256).1 h1
        rw [getD_at hj] at e
        obtain ⟨c, e1, h2⟩ := hI.cls _ (List.getElem_mem hj)
        have := (List.getElem?_eq_some_iff.1 h2).1
        omega
      · exact h1
    · have h1 := swp_len G _ _ _ _ hr
      have h2 := hG.length_eq
      have h3 := flUp_tot L L.length (Nat.le_refl _)
      rw [List.take_of_length_le (Nat.le_refl _)] at h3
      rw [List.length_append] at h2
      simp at h1 h2
      omega
  | none =>
    rw [hr] at h
    obtain ⟨ks, hnd, hk, hf⟩ := h
    have hx : ∀ k v, xrw k v G = xrw k v (flUp L L.length) := by
      intro k v
      rw [xrw_perm hG, xrw_app]
      have : xrw k v [(0, 0, 0)] = 0 := by simp [xrw]
      rw [this, Nat.xor_zero]
    have hsc : ∀ f ∈ G, Sc f.1 := by
      intro f hf
      rcases List.mem_append.1 (hG.mem_iff.1 hf) with hf | hf
      · obtain ⟨s, hs, r, hr, e⟩ := flUp_mem L _ (Nat.le_refl _) f hf
        have ho := ((hL s hs).lo r hr).2
        rcases e with e | ⟨hb, e⟩
        · rw [e]; exact ho.1
        · have hlt : r.2 < 1114111 := of_decide_eq_true hb
          rw [e, nextN_nx ho.2.1 hlt]
          exact nx_sc ho.2.1 hlt
      · rw [List.mem_singleton] at hf; subst hf; exact sc0
    have hch : ∀ k, ∃ v : Int, k ∈ ks → Sc v ∧ kk G v = k := by
      intro k
      by_cases hk' : k ∈ ks
      · obtain ⟨f, hfm, e⟩ := hf k hk'
        exact ⟨f.1, fun _ => ⟨hsc f hfm, e⟩⟩
      · exact ⟨0, fun h => absurd h hk'⟩
    refine ⟨ks.map (fun k => Classical.choose (hch k)), by simpa using hk, ?_, ?_⟩
    · intro v hv
      obtain ⟨k, hk', rfl⟩ := List.mem_map.1 hv
      exact (Classical.choose_spec (hch k) hk').1
    · rw [List.pairwise_map]
      refine List.Pairwise.imp_of_mem ?_ hnd
      intro a b ha hb hab hE
      apply hab
      have h1 := Classical.choose_spec (hch a) ha
      have h2 := Classical.choose_spec (hch b) hb
      rw [← h1.2, ← h2.2]
      exact kk_words.2 fun k hk' => by
        rw [hx, hx]
        exact words_of_sg L hL h1.1 h2.1 hE k _ (Nat.le_refl _)
/-- Parts, or that there are none. -/
def OutNil (w : World) (e : Ending) (w' : World) : Prop := e = .returned (.tuple #[.slice none 0 0, .bool false]) ∧ Below w.heap.size w w'
def OutYes (P : List (List Rg)) (w : World) (e : Ending) (w' : World) : Prop :=
  ∃ (A : Option Addr) (c z : Nat) (H : List Hd), e = .returned (.tuple #[.slice A z c, .bool true]) ∧ setsOf H = P ∧ Nest w' w'.heap.size A z H ∧ Shp A z c ∧ Below w.heap.size w w'
def OutPa (L : List (List Rg)) (w : World) (e : Ending) (w' : World) : Prop :=
  (allB L = false ∧ OutNil w e w') ∨ (allB L = true ∧ Many (Ek L) ∧ OutNil w e w') ∨ (allB L = true ∧ ∃ P, Parts (Ek L) P ∧ P.length ≤ 256 ∧ (∀ p ∈ P, p.length ≤ 2 * tot L + 1) ∧ OutYes P w e w')

set_option maxHeartbeats 1000000 in
theorem parts_n (H : List Hd) (n : Nat) (A : Option Addr) (c : Nat) (w : World) (hN : Nest w w.heap.size A n H) (hn : n ≤ 256) (hm : ∀ h ∈ H, h.n ≤ 1000) (ht : tot (setsOf H) ≤ 200000) :
    Calls Try.prog 11 #[.slice A n c] w (OutPa (setsOf H) w) := by
  have hlen : (setsOf H).length = n := by rw [setsOf_len, hN.1]
  have hag := allGood_n H n A c w hN (by omega) (fun h hh => by have := hm h hh; omega)
  have HAG := Lib.hid hag
  have HCH := Lib.hid (fun (w1 : World) (g : Below w.heap.size w w1) => changes_n H n A c w1 (hN.on g) hn hm)
  clear hag
  cases hb : allB (setsOf H)
  · rw [hb] at HAG
    have HB := Lib.hid hb
    clear hb hN hm HCH
    go_enter Try.func11, Try.ntmps11
    go_wp2_with fail
    refine HAG.out.mono ?_
    rintro e w1 ⟨rfl, g1⟩
    go_wp2_with fail
    go_ret2
    exact .inl ⟨HB.out, rfl, g1⟩
  · rw [hb] at HAG
    have HB := Lib.hid hb
    have HT := Lib.hid (fun G h1 h2 => swept_tells (L := setsOf H) ((allB_iff _).1 hb) (by omega) (G := G) h1 h2)
    clear hb hN hm
    go_enter Try.func11, Try.ntmps11
    go_wp2_with fail
    refine HAG.out.mono ?_
    rintro e w1 ⟨rfl, g1⟩
    have HC1 := Lib.hid (HCH.out w1 g1)
    have hs1 := g1.size
    clear HAG HCH
    go_wp2_with fail
    refine HC1.out.mono ?_
    rintro e w2 ⟨G, hGp, hGs, hO⟩
    have hT := HT.out G hGp hGs
    clear HT HC1
    cases hr : swp k0 [] [] G with
    | none =>
      rw [hr] at hT hO
      obtain ⟨rfl, g2⟩ := hO
      have HM := Lib.hid hT
      clear hT hGp hGs hr
      go_wp2_with fail
      go_ret2
      exact .inr (.inl ⟨HB.out, HM.out, rfl, g1.trans (g2.mono hs1)⟩)
    | some bs =>
      rw [hr] at hT hO
      obtain ⟨A5, c5, n5, rfl, h2, h3, h4, h5⟩ := hO
      obtain ⟨t1, t2, t3⟩ := hT
      have hg2 := g1.trans (h5.mono hs1)
      have hs2 := hg2.size
      have HG := Lib.hid (gathered_n bs n5 h2 A5 c5 w2 h4 (by omega) (gath_ok t1))
      have HP := Lib.hid (parts_of (ek_eq (setsOf H)) t1)
      have HL5 := Lib.hid (gath_len t1)
      rw [h2] at HP HL5 t2 t3
      clear hGp hGs hr h2 h3 h4 h5 t1
      go_wp2_with fail
      refine HG.out.mono ?_
      rintro e w3 ⟨A6, c6, z6, H6, rfl, s6, n6, sh6, g6⟩
      have HF : Hid (OutPa (setsOf H) w (.returned (.tuple #[.slice A6 z6 c6, .bool true])) w3) := Lib.hid (.inr (.inr ⟨HB.out, gath bs n5, HP.out, t2, fun p hp => by have := HL5.out p hp; omega, A6, c6, z6, H6, rfl, s6, n6, sh6, hg2.trans (g6.mono hs2)⟩))
      clear s6 n6 sh6 g6
      go_wp2_with fail
      go_ret2
      exact HF.out
end Go.Proofs.Ythaageiflimnnaa
/- What inRow returns. -/
namespace Go.Proofs.Ythaageiflimnnaa
open Go.RowKit Go.BigFrame
set_option linter.unusedVariables false
set_option linter.unusedSimpArgs false

def inR (fr : Int) (more : Bool) (acc : List Rg) : List Fl → Option (List Rg)
  | [] => if more then none else some acc
  | p :: t => if more && (p.1 == fr) then inR (nextN p.2.1) (nextB p.2.1) (acc ++ [(p.1, p.2.2)]) t else none
def IrRel (Q : List Fl) (n : Nat) (w : World) (vo vf vm vi : Value) (wr : World) : Prop :=
  ∃ (k z : Nat) (A2 : Option Addr) (c2 : Nat) (fr : Int) (m : Bool) (acc : List Rg), k ≤ n ∧ vi = .int .i64 k ∧ vo = .slice A2 z c2 ∧ vf = .int .i64 fr ∧ vm = .bool m ∧ Hid (acc.length = z) ∧ z ≤ k ∧ Hid (inR 0 true [] Q = inR fr m acc (Q.drop k)) ∧ wr.ownsRow w.heap.size 40 2 (.slice A2 z c2) z (rcells acc) ∧ Below w.heap.size w wr

set_option maxRecDepth 4000 in
set_option maxHeartbeats 2000000 in
theorem inRow_n (Q : List Fl) (n : Nat) (hl : Q.length = n) (A : Option Addr) (c : Nat) (w : World) (hR : Reads w w.heap.size 3 A n (pcells Q)) (hn : n ≤ 1000000) :
    Calls Try.prog 37 #[.slice A n c] w (OutBd (inR 0 true [] Q) w.heap.size w) := by
  obtain ⟨j0, hj0, hy0, hy1, hy2⟩ := info_parts info40
  have HR := Lib.hid hR
  have HL := Lib.hid hl
  clear hR hl
  go_enter Try.func37, Try.ntmps37
  go_wp2_with fail
  go_loopw [4, 5, 6, 11] (fun vo vf vm vi wr => IrRel Q n w vo vf vm vi wr) (fun _ _ _ i _ => n - (intOf i).toNat)
  case atStart => exact ⟨0, 0, none, 0, 0, true, [], Nat.zero_le _, rfl, rfl, rfl, rfl, Lib.hid rfl, Nat.le_refl _, Lib.hid rfl, World.ownsRow_nil _ _ _ _, Below.refl _ _⟩
  case round =>
    obtain ⟨k, z, A2, c2, fr, m, acc, hk, rfl, rfl, rfl, rfl, HLz, hz, HE, hown, hb⟩ := hrel
    have hsz := hb.size
    by_cases hlt : k < n
    · have kl : k < Q.length := by rw [HL.out]; exact hlt
      obtain ⟨b, o, rfl, hbb, p0, p1, p2⟩ := (HR.out.below hb).pl kl
      have HE1 : Hid (inR 0 true [] Q = if m && (Q[k].1 == fr) then inR (nextN Q[k].2.1) (nextB Q[k].2.1) (acc ++ [(Q[k].1, Q[k].2.2)]) (Q.drop (k + 1)) else none) := Lib.hid (by rw [HE.out, List.drop_eq_getElem_cons kl]; rfl)
      generalize Q[k] = x at *
      obtain ⟨lo, hi, pl⟩ := x
      simp only [] at p0 p1 p2 HE1
      clear HE
      have c0 : (wr.alloc (.cells #[.int .i64 lo, .int .i64 hi, .int .i64 pl] 67)).cell? ⟨wr.heap.size, 0, none⟩ = some (.int .i64 lo) := by simp
      have c1 : (wr.alloc (.cells #[.int .i64 lo, .int .i64 hi, .int .i64 pl] 67)).cell? ⟨wr.heap.size, 1, none⟩ = some (.int .i64 hi) := by simp
      have c2' : (wr.alloc (.cells #[.int .i64 lo, .int .i64 hi, .int .i64 pl] 67)).cell? ⟨wr.heap.size, 2, none⟩ = some (.int .i64 pl) := by simp
      have hb1 := hb.alloc hsz (.cells #[.int .i64 lo, .int .i64 hi, .int .i64 pl] 67)
      have hown1 := hown.alloc (.cells #[.int .i64 lo, .int .i64 hi, .int .i64 pl] 67)
      cases m
      · have HN : Hid (inR 0 true [] Q = none) := Lib.hid (by rw [HE1.out]; rfl)
        clear HE1
        go_wp2_with fail
        go_ret2
        rw [HN.out]
        exact ⟨rfl, hb1⟩
      · by_cases he : lo = fr
        · have he' : (lo == fr) = true := by rw [beq_iff_eq]; exact he
          have hne' : (lo != fr) = false := by rw [bne_eq_false_iff_eq]; exact he
          have HE2 : Hid (inR 0 true [] Q = inR (nextN hi) (nextB hi) (acc ++ [(lo, pl)]) (Q.drop (k + 1))) := Lib.hid (by rw [HE1.out, he']; rfl)
          have hnx := fun W => next_any hi W
          have hlo : ∀ q, (Value.slice A2 z c2).ownBlock = some q → q < wr.heap.size := fun q hq => (hown.lt q hq).2
          clear HE1 hown
          subst he
          go_wp2_with (at_builtin; refine wpList_append_lies _ rfl _ _ 23 rfl w.heap.size 40 j0 _ 2 16 Try.underlying23 hj0 hy0 hy1 hy2 rfl (by decide) _ _ _ rfl (hown1.alloc _) ⟨wr.heap.size + 1, 0, none⟩ 1 1 [.int .i64 lo, .int .i64 pl] rfl rfl ?k1 ?k2 (by omega) ?k3 ?k4 ?k5 _ rfl ?_)
          case k1 => exact lit2 (by simp) (by simp)
          case k2 => intro u hu; simp at hu; rcases hu with rfl | rfl <;> rfl
          case k3 => unfold maxLen; omega
          case k4 => omega
          case k5 => simp; omega
          intro g5 cap5 w5 hown5 hgrow5 hat5 hlt5
          have hO5 : w5.ownsRow w.heap.size 40 2 (.slice (some ⟨g5, 0, none⟩) (z + 1) cap5) (z + 1) (rcells (acc ++ [(lo, pl)])) := by rw [rcells_snoc]; exact hown5
          have hb5 : Below w.heap.size w w5 := below_grown (hb1.alloc (by simp; omega) _) (by simp; omega) (hown1.alloc _) hgrow5
          have d1 : w5.cell? ⟨wr.heap.size, 1, none⟩ = some (.int .i64 hi) := hgrow5.cell (cell_alloc _ c1) (fun e => by have := hlo _ e.symm; simp at this)
          have HL5 : Hid ((acc ++ [(lo, pl)]).length = z + 1) := Lib.hid (by rw [List.length_append, HLz.out]; rfl)
          clear hown5 hgrow5 hat5 hown1 hb1 c0 c1 c2'
          go_wp2_with fail
          refine (hnx _).mono ?_
          rintro e w6 ⟨rfl, rfl⟩
          go_wp2_with fail
          go_roundw
          case rel => exact ⟨k + 1, z + 1, some ⟨g5, 0, none⟩, cap5, nextN hi, nextB hi, acc ++ [(lo, pl)], by omega, by go_num, rfl, rfl, rfl, HL5, by omega, HE2, hO5, hb5⟩
          case measure => simp [intOf]; omega
        · have he' : (lo == fr) = false := by rw [beq_eq_false_iff_ne]; exact he
          have hne' : (lo != fr) = true := by rw [bne_iff_ne]; exact he
          have HN : Hid (inR 0 true [] Q = none) := Lib.hid (by rw [HE1.out, he']; rfl)
          clear HE1
          go_wp2_with fail
          go_ret2
          rw [HN.out]
          exact ⟨rfl, hb1⟩
    · have HD : Hid (inR 0 true [] Q = if m then none else some acc) := Lib.hid (by
        rw [HE.out, List.drop_of_length_le (by rw [HL.out]; omega)]
        rfl)
      clear HE
      cases m
      · go_wp2_with fail
        go_ret2
        rw [HD.out]
        exact ⟨A2, c2, z, rfl, HLz.out, shp_own hown (by omega), Reads.of_own hown, hb⟩
      · go_wp2_with fail
        go_ret2
        rw [HD.out]
        exact ⟨rfl, hb⟩
end Go.Proofs.Ythaageiflimnnaa
/- What Bands returns. -/
namespace Go.Proofs.Ythaageiflimnnaa
open Go.RowKit Go.BigFrame
set_option linter.unusedVariables false
set_option linter.unusedSimpArgs false

/-- A set's ranges, with its place. -/
def plS (i : Nat) (s : List Rg) : List Fl := s.map (fun r => (r.1, r.2, (i : Int)))
def plUp (L : List (List Rg)) : Nat → List Fl
  | 0 => []
  | k + 1 => plUp L k ++ plS k (L.getD k [])
theorem plS_take (i : Nat) (s : List Rg) (k : Nat) (hk : k < s.length) : plS i (s.take (k + 1)) = plS i (s.take k) ++ [(s[k].1, s[k].2, (i : Int))] := by
  unfold plS
  rw [List.take_succ_eq_append_getElem hk, List.map_append]
  simp
theorem info67 : (Try.prog.info? 67).map (fun i => (i.zero, i.size, i.bytes)) = some (some (.agg #[.int .i64 0, .int .i64 0, .int .i64 0]), 3, 24) := by kernel_rfl
def PlRel (L : List (List Rg)) (n : Nat) (w : World) (vo vi : Value) (wr : World) : Prop :=
  ∃ (k z : Nat) (A2 : Option Addr) (c2 : Nat) (acc : List Fl), k ≤ n ∧ vi = .int .i64 k ∧ vo = .slice A2 z c2 ∧ Hid (acc.length = z) ∧ z ≤ 1000 * k ∧ Hid (acc = plUp L k) ∧ Hid (∀ i, i < k → L.getD i [] ≠ []) ∧ wr.ownsRow w.heap.size 67 3 (.slice A2 z c2) z (pcells acc) ∧ Below w.heap.size w wr
def PlRel2 (s : List Rg) (pre : List Fl) (i n z0 : Nat) (w : World) (vo vi : Value) (wr : World) : Prop :=
  ∃ (k z : Nat) (A2 : Option Addr) (c2 : Nat) (acc : List Fl), k ≤ n ∧ vi = .int .i64 k ∧ vo = .slice A2 z c2 ∧ Hid (acc.length = z) ∧ z ≤ z0 + k ∧ Hid (acc = pre ++ plS i (s.take k)) ∧ wr.ownsRow w.heap.size 67 3 (.slice A2 z c2) z (pcells acc) ∧ Below w.heap.size w wr
/-- Bands of parts, or that there are none. -/
def OutBa (L : List (List Rg)) (w : World) (e : Ending) (w' : World) : Prop :=
  (allB L = false ∧ OutNil w e w') ∨ (allB L = true ∧ [] ∈ L ∧ OutNil w e w') ∨ (allB L = true ∧ [] ∉ L ∧ ∃ Q : List Fl, Q.Perm (plUp L L.length) ∧ Srt Q ∧ OutBd (inR 0 true [] Q) w.heap.size w e w')
theorem getD_mem {L : List (List Rg)} {i : Nat} (hi : i < L.length) : L.getD i [] ∈ L := by
  rw [List.getD_eq_getElem?_getD, List.getElem?_eq_getElem hi]
  exact List.getElem_mem hi
theorem no_nil {L : List (List Rg)} (h : ∀ i, i < L.length → L.getD i [] ≠ []) : [] ∉ L := by
  intro hm
  obtain ⟨i, hi, e⟩ := List.getElem_of_mem hm
  refine h i hi ?_
  rw [List.getD_eq_getElem?_getD, List.getElem?_eq_getElem hi]
  exact e

set_option maxRecDepth 4000 in
set_option maxHeartbeats 2000000 in
theorem bands_n (H : List Hd) (n : Nat) (A : Option Addr) (c : Nat) (w : World) (hN : Nest w w.heap.size A n H) (hn : n ≤ 1000) (hm : ∀ h ∈ H, h.n ≤ 1000) :
    Calls Try.prog 13 #[.slice A n c] w (OutBa (setsOf H) w) := by
  obtain ⟨i0, hi0, hz0, hz1, hz2⟩ := info_parts info67
  have hlen : (setsOf H).length = n := by rw [setsOf_len, hN.1]
  have HLn := Lib.hid hlen
  have HAG := Lib.hid (allGood_n H n A c w hN (by omega) (fun h hh => by have := hm h hh; omega))
  have HN := Lib.hid hN
  have HM := Lib.hid hm
  clear hN hm hlen
  cases hb : allB (setsOf H)
  · rw [hb] at HAG
    have HB := Lib.hid hb
    clear hb
    go_enter Try.func13, Try.ntmps13
    go_wp2_with fail
    refine HAG.out.mono ?_
    rintro e w1 ⟨rfl, g1⟩
    go_wp2_with fail
    go_ret2
    exact .inl ⟨HB.out, rfl, g1⟩
  · rw [hb] at HAG
    have HB := Lib.hid hb
    clear hb
    go_enter Try.func13, Try.ntmps13
    go_wp2_with fail
    refine HAG.out.mono ?_
    rintro e w9 ⟨rfl, g9⟩
    clear HAG
    go_wp2_with fail
    go_loopw [4, 14] (fun vo vi wr => PlRel (setsOf H) n w vo vi wr) (fun _ i _ => n - (intOf i).toNat)
    case atStart => exact ⟨0, 0, none, 0, [], Nat.zero_le _, rfl, rfl, Lib.hid rfl, by omega, Lib.hid rfl, Lib.hid (fun i hi => by omega), World.ownsRow_nil _ _ _ _, g9⟩
    case round =>
      clear g9
      obtain ⟨k, z, A2, c2, acc, hk, rfl, rfl, HLz, hz, HE, HNe, hown, hb⟩ := hrel
      have hsz := hb.size
      by_cases hlt : k < n
      · have kl : k < H.length := by rw [HN.out.1]; exact hlt
        obtain ⟨b, o, rfl, hbb, p0, q1, q2, _⟩ := (HN.out.below hb).at kl
        have q3 := (HN.out.2.2 _ (List.getElem_mem kl)).2.2
        have hm1 := HM.out _ (List.getElem_mem kl)
        have HG : Hid ((setsOf H).getD k [] = H[k].s) := Lib.hid (setsOf_get H k kl)
        have HMm : Hid (H[k].s ∈ setsOf H) := Lib.hid (List.mem_map.2 ⟨_, List.getElem_mem kl, rfl⟩)
        generalize H[k] = x at *
        obtain ⟨xa, xn, xc, xs⟩ := x
        simp only [] at p0 hm1 q1 q3 HG HMm
        have Q3 := Lib.hid q3
        have Q1 := Lib.hid q1
        by_cases hx0 : xn = 0
        · subst hx0
          have HNil : Hid ([] ∈ setsOf H) := Lib.hid (by
            have := HMm.out
            rwa [List.eq_nil_of_length_eq_zero q1] at this)
          clear q1 q2 q3
          go_wp2_with fail
          go_ret2
          exact .inr (.inl ⟨HB.out, HNil.out, rfl, hb⟩)
        · have hxp : 0 < xn := by omega
          have hx0' : ((xn : Int) == 0) = false := by rw [beq_eq_false_iff_ne]; omega
          have HNe' : Hid (∀ i, i < k + 1 → (setsOf H).getD i [] ≠ []) := Lib.hid (fun i hi => by
            rcases Nat.lt_or_ge i k with h1 | h1
            · exact HNe.out i h1
            · have e : i = k := by omega
              subst e
              rw [HG.out]
              intro e
              have := Q1.out
              rw [e] at this
              simp at this
              omega)
          have HSt : Hid (plUp (setsOf H) (k + 1) = plUp (setsOf H) k ++ plS k xs) := Lib.hid (by
            show plUp (setsOf H) k ++ plS k ((setsOf H).getD k []) = _
            rw [HG.out])
          clear q1 q2 q3 HG HNe HMm
          have hown1 := hown
          have hb1 := hb
          clear hown hb
          go_wp2_with fail
          rename World => wo
          go_loopw [4, 24] (fun vo vi wr => PlRel2 xs acc k xn z w vo vi wr) (fun _ i _ => xn - (intOf i).toNat)
          case atStart => exact ⟨0, z, A2, c2, acc, Nat.zero_le _, rfl, rfl, HLz, by omega, Lib.hid (by simp [plS]), hown1, hb1⟩
          case round =>
            obtain ⟨j, y, A3, c3, acc3, hj, rfl, rfl, HLy, hy, HE3, hown3, hb3⟩ := hrel
            have hsz3 := hb3.size
            clear hown1 p0
            by_cases hjl : j < xn
            · have jl : j < xs.length := by rw [Q1.out]; exact hjl
              obtain ⟨b2, o2, rfl, hbb2, r0, r1⟩ := (Q3.out.below hb3).rg jl
              have HT : Hid (plS k (xs.take (j + 1)) = plS k (xs.take j) ++ [(xs[j].1, xs[j].2, (k : Int))]) := Lib.hid (plS_take k xs j jl)
              generalize xs[j] = x at *
              obtain ⟨x0, x1⟩ := x
              simp only [] at r0 r1 HT
              have hb2 : Below w.heap.size w (wr.alloc (.cells #[.int .i64 x0, .int .i64 x1] 50)) := hb3.alloc hsz3 _
              have hown4 := hown3.alloc (.cells #[.int .i64 x0, .int .i64 x1] 50)
              go_wp2_with (at_builtin; refine wpList_append_lies _ rfl _ _ 65 rfl w.heap.size 67 i0 _ 3 24 Try.underlying65 hi0 hz0 hz1 hz2 rfl (by decide) _ _ _ rfl (hown4.alloc _) ⟨wr.heap.size + 1, 0, none⟩ 1 1 [.int .i64 x0, .int .i64 x1, .int .i64 k] rfl rfl ?k1 ?k2 (by omega) ?k3 ?k4 ?k5 _ rfl ?_)
              case k1 => exact lit3 (by simp) (by simp) (by simp)
              case k2 => intro u hu; simp at hu; rcases hu with rfl | rfl | rfl <;> rfl
              case k3 => unfold maxLen; omega
              case k4 => omega
              case k5 => simp; omega
              · intro g cap w5 hown5 hgrow hat hlt5
                have b5 : Below w.heap.size w w5 := below_grown (hb2.alloc (by simp; omega) _) (by simp; omega) (hown4.alloc _) hgrow
                have HO5 : Hid (w5.ownsRow w.heap.size 67 3 (.slice (some ⟨g, 0, none⟩) (y + 1) cap) (y + 1) (pcells (acc3 ++ [(x0, x1, (k : Int))]))) := Lib.hid (by rw [pcells_snoc]; exact hown5)
                have HL5 : Hid ((acc3 ++ [(x0, x1, (k : Int))]).length = y + 1) := Lib.hid (by rw [List.length_append, HLy.out]; rfl)
                have HT5 : Hid (acc3 ++ [(x0, x1, (k : Int))] = acc ++ plS k (xs.take (j + 1))) := Lib.hid (by rw [HT.out, HE3.out]; simp)
                clear hown5 hgrow hat hown4 hown3 HT HE3 r0 r1 hb2 hb3 HLy
                go_wp2_with fail
                go_roundw
                case rel => exact ⟨j + 1, y + 1, some ⟨g, 0, none⟩, cap, acc3 ++ [(x0, x1, (k : Int))], by omega, by go_num, rfl, HL5, by omega, HT5, HO5.out, b5⟩
                case measure => simp [intOf]; omega
            · have HD : Hid (acc3 = plUp (setsOf H) (k + 1)) := Lib.hid (by
                have h := HE3.out
                rw [List.take_of_length_le (by rw [Q1.out]; omega)] at h
                rw [HSt.out, ← HE.out]
                exact h)
              clear HE3 HE HSt
              go_wp2_with fail
              go_roundw
              case rel => exact ⟨k + 1, y, A3, c3, acc3, by omega, by go_num, rfl, HLy, by omega, HD, HNe', hown3, hb3⟩
              case measure => simp [intOf]; omega
      · have e : k = n := by omega
        subst e
        have hO := Lib.hid hown
        clear hown
        go_wp2_with fail
        refine (sortP_any acc z HLz.out A2 c2 w.heap.size wr hO.out (by omega) hsz).mono ?_
        rintro e w2 ⟨Q, rfl, hQl, hQp, hQs, hQr, g2⟩
        have HIR := Lib.hid (inRow_n Q z hQl A2 c2 w2 hQr (by omega))
        have hb2 := hb.trans g2
        have hs2 := hb2.size
        have HQp := Lib.hid hQp
        have HQs := Lib.hid hQs
        clear hQl hQp hQs hQr g2
        go_wp2_with fail
        refine HIR.out.mono ?_
        rintro e w3 hO3
        obtain ⟨v, bo, rfl⟩ := outBd_ret hO3
        have HF : Hid (OutBa (setsOf H) w (.returned (.tuple #[v, .bool bo])) w3) := Lib.hid (.inr (.inr ⟨HB.out, no_nil (fun i hi => HNe.out i (by rw [HLn.out] at hi; exact hi)), Q, by rw [HLn.out, ← HE.out]; exact HQp.out, HQs.out, by
          cases hr : inR 0 true [] Q with
          | none => rw [hr] at hO3; exact ⟨hO3.1, hb2.trans (hO3.2.mono hs2)⟩
          | some bs => rw [hr] at hO3; obtain ⟨A5, c5, n5, h1, h2, h3, h4, h5⟩ := hO3; exact ⟨A5, c5, n5, h1, h2, h3, h4, hb2.trans (h5.mono hs2)⟩⟩))
        clear hO3 HIR
        go_wp2_with fail
        go_ret2
        exact HF.out
end Go.Proofs.Ythaageiflimnnaa
/- What Of returns: by slices.Backward, the last band whose First is not above. -/
namespace Go.Proofs.Ythaageiflimnnaa
open Go.RowKit Go.Shelf
set_option linter.unusedVariables false
set_option linter.unusedSimpArgs false

attribute [local go_sem] Oper.semAt_some

abbrev Bx := Int × Rg
def upto {α : Type} (f : Nat → α) (k : Nat) : List α := (List.range k).map f
theorem upto_succ {α : Type} (f : Nat → α) (k : Nat) : upto f (k + 1) = upto f k ++ [f k] := by simp [upto, List.range_succ]
theorem upto_length {α : Type} (f : Nat → α) (k : Nat) : (upto f k).length = k := by simp [upto]
/-- What comes at the k-th round. -/
def bk (bs : List Rg) (k : Nat) : Bx := ((bs.length : Int) - 1 - k, bs.getD (bs.length - 1 - k) (0, 0))

def Kb (n₀ Bs : Nat) (W W' : World) : Prop := Below n₀ W W' ∧ W'.heap[Bs]? = W.heap[Bs]?
theorem Kb.refl (n₀ Bs : Nat) (W : World) : Kb n₀ Bs W W := ⟨Below.refl _ _, rfl⟩
theorem Kb.trans {n₀ Bs : Nat} {A B C : World} (h : Kb n₀ Bs A B) (k : Kb n₀ Bs B C) : Kb n₀ Bs A C := ⟨h.1.trans k.1, k.2.trans h.2⟩
set_option maxRecDepth 100000 in
set_option maxHeartbeats 2000000 in
theorem back1_in (F : Fence) (n : Nat) (h8 : F.fn 58) (hro : F.round = none) (hn : 1 ≤ n) (l Bs n₀ b off cap : Nat) (bs : List Rg) (hreach : bs.length ≤ 1000000) (hb : b < n₀) (J Jx : List Bx → World → Prop)
    (hY : ∀ pre x W, J pre W → pre.length < bs.length → YieldAt F (n - 1) Try.prog l #[.int .i64 x.1, .agg #[.int .i64 x.2.1, .int .i64 x.2.2]] W fun e W' =>
      (e = .returned (.bool true) ∧ J (pre ++ [x]) W' ∧ Kb n₀ Bs W W') ∨ (e = .returned (.bool false) ∧ Jx (pre ++ [x]) W'))
    (W : World) (hBs : W.cell? ⟨Bs, 0, none⟩ = some (.slice (some ⟨b, off, none⟩) bs.length cap)) (hc : ∀ j (hj : j < bs.length), W.cell? ⟨b, off + j * 2, none⟩ = some (.int .i64 bs[j].1) ∧ W.cell? ⟨b, off + j * 2 + 1, none⟩ = some (.int .i64 bs[j].2)) (h0 : J [] W) :
    CallsIn F n Try.prog 58 #[.func (.yield l) #[] #[], .pointer (some ⟨Bs, 0, none⟩)] W fun e W' => (∃ v, e = .returned v) ∧
      ((∃ ys, ys = upto (bk bs) bs.length ∧ J ys W') ∨ (∃ pre, (∃ k, k ≤ bs.length ∧ pre = upto (bk bs) k) ∧ Jx pre W')) := by
  obtain ⟨len, hlen⟩ : ∃ len, bs.length = len := ⟨_, rfl⟩
  rw [hlen] at hreach hBs
  refine callsIn_of_wp Try.func58 rfl h8 ?_ hro
  simp only [Try.ntmps58, List.size_toArray, List.length_cons, List.length_nil, Nat.reduceAdd, Nat.reduceSub, Array.replicate_succ, Array.replicate_zero, List.push_toArray, List.append_toArray, List.nil_append, List.cons_append]
  gi_wp2
  gi_loopw [3] (fun i wr => ∃ k : Nat, k ≤ len ∧ i = .int .i64 ((len : Int) - 1 - k) ∧ J (upto (bk bs) k) wr ∧ Kb n₀ Bs W wr)
    (fun i _ => (intOf i + 1).toNat)
  case atStart => exact ⟨0, Nat.zero_le _, by simp, h0, Kb.refl _ _ _⟩
  case round =>
    obtain ⟨k, hk, rfl, hJs, hnx⟩ := hrel
    by_cases hlt : k < len
    · have hj : len - 1 - k < bs.length := by omega
      obtain ⟨q0, q1⟩ := hc (len - 1 - k) hj
      have q0' := (hnx.1.cell (p := ⟨b, off + (len - 1 - k) * 2, none⟩) hb).trans q0
      have q1' := (hnx.1.cell (p := ⟨b, off + (len - 1 - k) * 2 + 1, none⟩) hb).trans q1
      have qs := (World.cell?_of_block (a := ⟨Bs, 0, none⟩) hnx.2).trans hBs
      have ebk : bk bs k = ((len : Int) - 1 - k, bs[len - 1 - k]) := by
        unfold bk
        rw [hlen, List.getD_eq_getElem?_getD, List.getElem?_eq_getElem hj]; rfl
      obtain ⟨fn, tmps, assign, body, hy, hR⟩ := hY _ (bk bs k) wr hJs (by rw [upto_length, hlen]; exact hlt)
      rw [ebk] at hy hR
      dsimp only at hy
      have eup := upto_succ (bk bs) k
      rw [ebk] at eup
      generalize bs[len - 1 - k] = x at *
      obtain ⟨x0, x1⟩ := x
      dsimp only at hy q0' q1'
      obtain ⟨m, hm⟩ : ∃ m : Nat, len - 1 - k = m := ⟨_, rfl⟩
      rw [hm] at q0' q1'
      have hmi : (len : Int) - 1 - k = (m : Int) := by omega
      have hml : m < len := by omega
      rw [hmi] at hy hR eup ⊢
      clear q0 q1 hc
      gi_wp2
      refine hR.mono ?_
      rintro e W3 (⟨rfl, hJ3, hk3⟩ | ⟨rfl, hJx3⟩)
      · gi_wp2
        go_roundw
        case rel => exact ⟨k + 1, by omega, by first | (simp; done) | (simp; omega), by rw [eup]; exact hJ3, hnx.trans hk3⟩
        case measure => first | (simp [intOf]; done) | (simp [intOf]; omega)
      · gi_wp2
        refine bodyPost_ret (results_none rfl _ _ _) rfl ?_
        exact ⟨⟨_, rfl⟩, .inr ⟨_, ⟨k + 1, by omega, eup.symm⟩, hJx3⟩⟩
    · obtain rfl : k = len := by omega
      have e1 : (k : Int) - 1 - k = -1 := by omega
      rw [e1]
      gi_wp2
      go_end0
      exact ⟨⟨_, rfl⟩, .inl ⟨_, by rw [hlen], hJs⟩⟩
set_option maxRecDepth 100000 in
set_option maxHeartbeats 1000000 in
theorem back1_nil_in (F : Fence) (n : Nat) (h8 : F.fn 58) (hro : F.round = none) (l Bs : Nat) (A : Option Addr) (cap : Nat) (J : List Bx → World → Prop) (W : World) (hBs : W.cell? ⟨Bs, 0, none⟩ = some (.slice A 0 cap)) (h0 : J [] W) :
    CallsIn F n Try.prog 58 #[.func (.yield l) #[] #[], .pointer (some ⟨Bs, 0, none⟩)] W fun e W' => (∃ v, e = .returned v) ∧ J [] W' := by
  refine callsIn_of_wp Try.func58 rfl h8 ?_ hro
  simp only [Try.ntmps58, List.size_toArray, List.length_cons, List.length_nil, Nat.reduceAdd, Nat.reduceSub, Array.replicate_succ, Array.replicate_zero, List.push_toArray, List.append_toArray, List.nil_append, List.cons_append]
  gi_wp2
  gi_loopw [3] (fun i wr => i = .int .i64 (-1) ∧ J [] wr) (fun _ _ => 0)
  case atStart => exact ⟨rfl, h0⟩
  case round =>
    obtain ⟨rfl, hJs⟩ := hrel
    gi_wp2
    go_end0
    exact ⟨⟨_, rfl⟩, hJs⟩
set_option maxHeartbeats 1000000 in
theorem back_in (F : Fence) (n : Nat) (h5 : F.fn 39) (hro : F.round = none) (a : Option Addr) (len cap : Nat) (w : World) :
    CallsIn F n Try.prog 39 #[.slice a len cap] w fun e w' => e = .returned (.func (.func 58) #[] #[.pointer (some ⟨w.heap.size, 0, none⟩)]) ∧ w' = w.alloc (.cells #[.slice a len cap] 23) := by
  refine callsIn_of_wp Try.func39 rfl h5 ?_ hro
  simp only [Try.ntmps39, List.size_toArray, List.length_cons, List.length_nil, Nat.reduceAdd, Nat.reduceSub, Array.replicate_succ, Array.replicate_zero, List.push_toArray, List.append_toArray, List.nil_append, List.cons_append]
  gi_wp2
  go_ret
  exact ⟨rfl, rfl⟩
def encB (x : Bx) : Array Value := #[.int .i64 x.1, .agg #[.int .i64 x.2.1, .int .i64 x.2.2]]
theorem back_stops (F : Fence) (n : Nat) (h8 : F.fn 58) (hro : F.round = none) (hn : 1 ≤ n) (Bs n₀ : Nat) (A : Option Addr) (cap : Nat) (bs : List Rg) (hreach : bs.length ≤ 1000000) (w : World) (hBs : Bs < w.heap.size) (hn₀ : n₀ ≤ w.heap.size)
    (hc : w.cell? ⟨Bs, 0, none⟩ = some (.slice A bs.length cap)) (hR : Reads w n₀ 2 A bs.length (rcells bs)) :
    SeqStopsK F n Try.prog 58 #[.pointer (some ⟨Bs, 0, none⟩)] encB (Kb n₀ Bs) (fun ys => ys = upto (bk bs) bs.length)
      (fun pre => ∃ k, k ≤ bs.length ∧ pre = upto (bk bs) k) bs.length w := fun l J Jx W hW _ _ hY h0 => by
  have hc' := (hW.cell (p := ⟨Bs, 0, none⟩) hBs).trans hc
  have hR' := hR.below (hW.mono hn₀)
  by_cases hl : bs.length = 0
  · obtain rfl : bs = [] := List.eq_nil_of_length_eq_zero hl
    exact (back1_nil_in F n h8 hro l Bs A cap J W hc' h0).mono fun e W' ⟨he, hj⟩ => ⟨he, .inl ⟨_, rfl, hj⟩⟩
  · obtain ⟨b, o, rfl, hb, _⟩ := hR'.2 (by omega)
    refine back1_in F n h8 hro hn l Bs n₀ b o cap bs hreach hb J Jx hY W hc' (fun j hj => ?_) h0
    obtain ⟨b', o', e, _, p0, p1⟩ := hR'.rg hj
    injection e with e
    injection e with e1 e2
    subst e1 e2
    exact ⟨p0, p1⟩
end Go.Proofs.Ythaageiflimnnaa
/- What Of returns. -/
namespace Go.Proofs.Ythaageiflimnnaa
open Go.RowKit Go.Shelf
set_option linter.unusedVariables false
set_option linter.unusedSimpArgs false

attribute [local go_sem] Oper.semAt_some

def ofL (bs : List Rg) (v : Int) : Option Rg := if isB v then bs.reverse.find? (fun b => decide (b.1 ≤ v)) else none
def ofN (bs : List Rg) (v : Int) : Int := ((ofL bs v).map (·.2)).getD 0
def ofB (bs : List Rg) (v : Int) : Bool := (ofL bs v).isSome
theorem bk_rev (bs : List Rg) : (upto (bk bs) bs.length).map (·.2) = bs.reverse := by
  apply List.ext_getElem (by simp [upto])
  intro i h1 h2
  have hi : i < bs.length := by simpa [upto] using h1
  simp [upto, bk]
  rw [List.getElem?_eq_getElem (by omega)]
  rfl
theorem bk_take (bs : List Rg) {k : Nat} (hk : k ≤ bs.length) : (upto (bk bs) k).map (·.2) = bs.reverse.take k := by
  rw [← bk_rev]
  unfold upto
  rw [← List.map_take, ← List.map_take]
  congr 2
  rw [List.take_range]
  congr 1
  omega
theorem of_none {bs : List Rg} {v : Int} (h : ∀ p ∈ upto (bk bs) bs.length, v < p.2.1) : bs.reverse.find? (fun b => decide (b.1 ≤ v)) = none := by
  rw [List.find?_eq_none]
  intro b hb
  rw [← bk_rev] at hb
  obtain ⟨p, hp, rfl⟩ := List.mem_map.1 hb
  have := h p hp
  simp
  omega
theorem of_some {bs : List Rg} {v : Int} {k : Nat} (hk : k ≤ bs.length) {ini : List Bx} {last : Bx} (e : upto (bk bs) k = ini ++ [last]) (h1 : ∀ p ∈ ini, v < p.2.1) (h2 : last.2.1 ≤ v) : bs.reverse.find? (fun b => decide (b.1 ≤ v)) = some last.2 := by
  have h3 := bk_take bs hk
  rw [e] at h3
  simp at h3
  have h4 : bs.reverse = (ini.map (·.2) ++ [last.2]) ++ bs.reverse.drop k := by
    rw [h3, List.take_append_drop]
  rw [h4, List.find?_append, List.find?_append]
  have h5 : (ini.map (·.2)).find? (fun b => decide (b.1 ≤ v)) = none := by
    rw [List.find?_eq_none]
    intro b hb
    obtain ⟨p, hp, rfl⟩ := List.mem_map.1 hb
    have := h1 p hp
    simp
    omega
  rw [h5]
  simp [h2]
def lastC (pre : List Bx) : Int := (pre.getLastD (0, 0, 0)).2.2
def Two (W : World) (B : Nat) (x : Rg) : Prop := W.heap[B]? = some (.cells #[.int .i64 x.1, .int .i64 x.2] 40 (0, 0))
theorem Two.c0 {W : World} {B : Nat} {x : Rg} (h : Two W B x) : W.cell? ⟨B, 0, none⟩ = some (.int .i64 x.1) := by simp [World.cell?, show W.heap[B]? = _ from h]
theorem Two.c1 {W : World} {B : Nat} {x : Rg} (h : Two W B x) : W.cell? ⟨B, 1, none⟩ = some (.int .i64 x.2) := by simp [World.cell?, show W.heap[B]? = _ from h]

def OfI (w : World) (v : Int) (s0 : Nat) (pre : List Bx) (W : World) : Prop :=
  ((((∀ p ∈ pre, v < p.2.1) ∧ Boxed W w.heap.size 3 (.int .i64 v)) ∧ Boxed W (w.heap.size + 1) 3 (.int .i64 0)) ∧ Boxed W (w.heap.size + 1 + 1) 4 (.bool false)) ∧ Below w.heap.size w W ∧ s0 ≤ W.heap.size
def OfX (w : World) (v : Int) (cc : Code) (pre : List Bx) (W : World) : Prop :=
  (((cc = .ret ∧ ∃ ini last, pre = ini ++ [last] ∧ (∀ p ∈ ini, v < p.2.1) ∧ last.2.1 ≤ v) ∧ Boxed W (w.heap.size + 1) 3 (.int .i64 (lastC pre))) ∧ Boxed W (w.heap.size + 1 + 1) 4 (.bool true)) ∧ Below w.heap.size w W
def OfA (w : World) (A : Option Addr) (len c : Nat) (v : Int) (x : Bx) (a' : Act) (W : World) : Prop :=
  ∃ B', w.heap.size + 3 < B' ∧ Two W B' x.2 ∧ a' = { tmps := #[.slice A len c, .int .i64 v, undef, .pointer (some ⟨w.heap.size, 0, none⟩), .pointer (some ⟨w.heap.size + 1, 0, none⟩), .pointer (some ⟨w.heap.size + 1 + 1, 0, none⟩), undef, .pointer (some ⟨B', 0, none⟩), .int .i64 v, .bool true, .bool false, .slice A len c, .func (.func 58) #[] #[.pointer (some ⟨w.heap.size + 1 + 1 + 1, 0, none⟩)], .int .i64 x.1, .agg #[.int .i64 x.2.1, .int .i64 x.2.2], undef, undef, undef, undef, undef, undef], defers := [] }
theorem ofI_own (w : World) (v : Int) (s0 B : Nat) (hB : w.heap.size ≤ B) : OwnFrom B (OfI w v s0) :=
  OwnFrom.and (OwnFrom.and (OwnFrom.and (OwnFrom.and (ownFrom_pure _ _) (Own.from (boxed_own _ _ _) _)) (Own.from (boxed_own _ _ _) _)) (Own.from (boxed_own _ _ _) _)) (OwnFrom.and (ownFrom_below (Nat.le_refl _) hB) (fun _ _ _ _ hs hg _ => Nat.le_trans hs hg.size))
theorem ofX_own (w : World) (v : Int) (B : Nat) (hB : w.heap.size ≤ B) (cc : Code) : OwnFrom B (OfX w v cc) :=
  OwnFrom.and (OwnFrom.and (OwnFrom.and (ownFrom_pure _ _) (Own.from (boxed_own _ _ _) _)) (Own.from (boxed_own _ _ _) _)) (ownFrom_below (Nat.le_refl _) hB)
theorem ofA_own (w : World) (A : Option Addr) (len c : Nat) (v : Int) (B : Nat) (x : Bx) (a' : Act) : OwnFrom B (fun (_ : Unit) W => OfA w A len c v x a' W) := fun _ X Y row hs hg hr => by
  obtain ⟨B', e1, e2, e3⟩ := hs
  refine ⟨B', e1, ?_, e3⟩
  have hlt : B' < X.heap.size := (Array.getElem?_eq_some_iff.1 e2).1
  exact (hg.block B' hlt (fun e => by
    obtain ⟨_, o, ho, hc⟩ := hr B' e.symm
    rw [show X.heap[B']? = _ from e2] at ho
    injection ho with ho
    subst ho
    simp [Obj.isCells] at hc)).trans e2

set_option maxRecDepth 100000 in
set_option maxHeartbeats 4000000 in
theorem of_in (n : Nat) (hn : 3 ≤ n) (bs : List Rg) (A : Option Addr) (c : Nat) (v : Int) (w : World) (hreach : bs.length ≤ 1000000) (hR : Reads w w.heap.size 2 A bs.length (rcells bs)) :
    CallsIn Fence.wide n Try.prog 15 #[.slice A bs.length c, .int .i64 v] w fun e W' => e = .returned (.tuple #[.int .i64 (ofN bs v), .bool (ofB bs v)]) ∧ Below w.heap.size w W' := by
  have h1 : 1 ≤ n := by omega
  have hro : Fence.wide.round = none := rfl
  have his := fun W => is_any v W
  obtain ⟨len, hlen⟩ : ∃ len, bs.length = len := ⟨_, rfl⟩
  cases hv : isB v
  · rw [hv] at his
    have e0 : ofL bs v = none := by unfold ofL; rw [hv]; rfl
    rw [show ofN bs v = 0 by unfold ofN; rw [e0]; rfl, show ofB bs v = false by unfold ofB; rw [e0]; rfl]
    refine callsIn_of_wp_marks Try.func15 rfl trivial ?_ hro
    simp only [Try.ntmps15, List.size_toArray, List.length_cons, List.length_nil, Nat.reduceAdd, Nat.reduceSub, Array.replicate_succ, Array.replicate_zero, List.push_toArray, List.append_toArray, List.nil_append, List.cons_append]
    gi_wp2_with (refine ⟨trivial, ?_⟩; gi_at_call 38; refine (callsIn_wide.2 (his _)).mono ?_; rintro e w' ⟨rfl, rfl⟩)
    refine ⟨.tuple #[.int .i64 0, .bool false], ?_, rfl, (((Below.refl _ w).alloc (Nat.le_refl _) _).alloc (by simp) _).alloc (by simp; omega) _⟩
    simp [results, Try.f15, go_sem]
  · rw [hv] at his
    refine callsIn_of_wp_marks Try.func15 rfl trivial ?_ hro
    simp only [Try.ntmps15, List.size_toArray, List.length_cons, List.length_nil, Nat.reduceAdd, Nat.reduceSub, Array.replicate_succ, Array.replicate_zero, List.push_toArray, List.append_toArray, List.nil_append, List.cons_append]
    gi_wp2_with (first | (refine ⟨trivial, ?_⟩; gi_at_call 38; refine (callsIn_wide.2 (his _)).mono ?_; rintro e w' ⟨rfl, rfl⟩) | (refine ⟨trivial, ?_⟩; gi_at_call 39; refine (back_in Fence.wide (n - 1) trivial hro _ _ _ _).mono ?_; rintro e w' ⟨rfl, rfl⟩))
    have bV := (((Boxed.new w 3 (.int .i64 v)).alloc (.cells #[.int .i64 0] 3)).alloc (.cells #[.bool false] 4)).alloc (.cells #[.slice A len c] 23)
    have bR := ((Boxed.new (w.alloc (.cells #[.int .i64 v] 3)) 3 (.int .i64 0)).alloc (.cells #[.bool false] 4)).alloc (.cells #[.slice A len c] 23)
    have bB := (Boxed.new ((w.alloc (.cells #[.int .i64 v] 3)).alloc (.cells #[.int .i64 0] 3)) 4 (.bool false)).alloc (.cells #[.slice A len c] 23)
    have bS := Boxed.new (((w.alloc (.cells #[.int .i64 v] 3)).alloc (.cells #[.int .i64 0] 3)).alloc (.cells #[.bool false] 4)) 23 (.slice A len c)
    simp only [World.size_alloc] at bR bB bS
    have hB0 : Below w.heap.size w ((((w.alloc (.cells #[.int .i64 v] 3)).alloc (.cells #[.int .i64 0] 3)).alloc (.cells #[.bool false] 4)).alloc (.cells #[.slice A len c] 23)) := ((((Below.refl _ w).alloc (Nat.le_refl _) _).alloc (by simp) _).alloc (by simp; omega) _).alloc (by simp; omega) _
    have hsz : ((((w.alloc (.cells #[.int .i64 v] 3)).alloc (.cells #[.int .i64 0] 3)).alloc (.cells #[.bool false] 4)).alloc (.cells #[.slice A len c] 23)).heap.size = w.heap.size + 4 := by simp
    obtain ⟨W0, hW0⟩ : ∃ W0, (((w.alloc (.cells #[.int .i64 v] 3)).alloc (.cells #[.int .i64 0] 3)).alloc (.cells #[.bool false] 4)).alloc (.cells #[.slice A len c] 23) = W0 := ⟨_, rfl⟩
    rw [hW0] at bV bR bB bS hB0 hsz ⊢
    clear hW0
    have hR0 : Reads W0 w.heap.size 2 A bs.length (rcells bs) := hR.below hB0
    have hs4 : w.heap.size + 4 ≤ W0.heap.size := by omega
    clear hsz
    refine wpIn_rangeFunc_ownH hro h1 (gf := 58) (lb := #[.pointer (some ⟨w.heap.size + 1 + 1 + 1, 0, none⟩)]) rfl trivial (enters_of Try.func58 (by kernel_rfl) rfl)
      (back_stops Fence.wide (n - 1) trivial hro (by omega) (w.heap.size + 1 + 1 + 1) w.heap.size A c bs hreach W0 (by omega) (by omega) (by rw [hlen]; exact bS.cell) hR0) Kb.trans (fun W l o o' hl h _ _ => ⟨belowK_b (w := W0) (by omega) W l o o' hl h (by assumption) (by assumption), (grownBy_putObj' W l o').block _ (by have := (Array.getElem?_eq_some_iff.1 h).1; omega) (fun e => by injection e; omega)⟩) (Below.refl _ _) (fun _ => rfl)
      (OfI w v W0.heap.size) (OfX w v) (ofI_own w v _ _ (by omega)) (ofX_own w v _ (by omega))
      ⟨⟨⟨⟨by simp, bV⟩, bR⟩, bB⟩, hB0, Nat.le_refl _⟩
      (OfA w A len c v) (ofA_own w A len c v _)
      ?assign ?body ?done ?stop
    case assign =>
      rintro l pre x W K ⟨⟨⟨⟨hp, bV1⟩, bR1⟩, bB1⟩, hB1, hs1⟩ hK
      simp only [encB]
      gi_wp2
      have hKb1 : Kb w.heap.size (w.heap.size + 1 + 1 + 1) W (W.alloc (.cells #[.int .i64 x.2.1, .int .i64 x.2.2] 40)) := ⟨(Below.refl _ W).alloc hB1.size _, (World.grownBy_alloc W _ none).block _ (by omega) (by simp)⟩
      have hsA : W0.heap.size ≤ (W.alloc (.cells #[.int .i64 x.2.1, .int .i64 x.2.2] 40)).heap.size := Nat.le_trans hs1 (World.grownBy_alloc W (.cells #[.int .i64 x.2.1, .int .i64 x.2.2] 40) none).size
      exact hK _ _ ((KeepsOthers.alloc _ _).from _) hKb1 ⟨⟨⟨⟨hp, bV1.alloc _⟩, bR1.alloc _⟩, bB1.alloc _⟩, hB1.alloc hB1.size _, hsA⟩ ⟨W.heap.size, by omega, World.alloc_heap_new W _, rfl⟩
    case body =>
      rintro l pre x a' W hl _ ⟨⟨⟨⟨hp, bV1⟩, bR1⟩, bB1⟩, hB1, hs1⟩ ⟨B', hB', bX, rfl⟩ hlt
      have cV := bV1.cell
      have cR := bR1.cell
      have cB := bB1.cell
      have fR := bR1.frozen
      have fB := bB1.frozen
      have x0 := bX.c0
      have x1 := bX.c1
      by_cases hx : x.2.1 ≤ v
      · have bR2 := (bR1.set (.int .i64 x.2.2)).other (show w.heap.size + 1 ≠ w.heap.size + 1 + 1 by omega) (.bool true)
        have bB2 := (bB1.other (show w.heap.size + 1 + 1 ≠ w.heap.size + 1 by omega) (.int .i64 x.2.2)).set (.bool true)
        gi_wp2
        refine ⟨((KeepsOthers.setCell _ _ _).trans (KeepsOthers.setCell _ _ _)).from _, ⟨⟨⟨rfl, pre, x, rfl, hp, hx⟩, ?_⟩, bB2⟩, (hB1.setCell (p := ⟨w.heap.size + 1, 0, none⟩) (by simp) _).setCell (p := ⟨w.heap.size + 1 + 1, 0, none⟩) (by simp; omega) _⟩
        have e : lastC (pre ++ [x]) = x.2.2 := by simp [lastC]
        rw [e]
        exact bR2
      · gi_wp2
        exact ⟨KeepsFrom.refl _ _, Kb.refl _ _ _, ⟨⟨⟨fun p hp' => (List.mem_append.1 hp').elim (hp p) (fun e => by rw [List.mem_singleton] at e; subst e; omega), bV1⟩, bR1⟩, bB1⟩, hB1, hs1⟩
    case done =>
      rintro D ys W hD rfl ⟨⟨⟨⟨hne, bV1⟩, bR1⟩, bB1⟩, hB1, hs1⟩ hK
      have cR := bR1.cell
      have cB := bB1.cell
      have fR := bR1.frozen
      have fB := bB1.frozen
      have e0 : ofL bs v = none := by unfold ofL; rw [hv, if_pos rfl]; exact of_none hne
      have eN : ofN bs v = 0 := by unfold ofN; rw [e0]; rfl
      have eB : ofB bs v = false := by unfold ofB; rw [e0]; rfl
      have bR2 := (bR1.set (.int .i64 0)).other (show w.heap.size + 1 ≠ w.heap.size + 1 + 1 by omega) (.bool false)
      have bB2 := (bB1.other (show w.heap.size + 1 + 1 ≠ w.heap.size + 1 by omega) (.int .i64 0)).set (.bool false)
      have hK' := ((KeepsOthers.setCell W ⟨w.heap.size + 1, 0, none⟩ (.int .i64 0)).trans (KeepsOthers.setCell _ ⟨w.heap.size + 1 + 1, 0, none⟩ (.bool false))).same D _ hK rfl
      gi_wp2
      refine ⟨by simp, .inl ⟨_, _, rfl, run_takeDeferred hK', ?_⟩⟩
      have c4 := cell_kept bR2.cell (grownBy_putObj' _ D (.deferred none)) (fun r e => by cases e; exact ⟨_, hK', rfl⟩)
      have c5 := cell_kept bB2.cell (grownBy_putObj' _ D (.deferred none)) (fun r e => by cases e; exact ⟨_, hK', rfl⟩)
      refine ⟨.tuple #[.int .i64 0, .bool false], ?_, by rw [eN, eB], ((hB1.setCell (p := ⟨w.heap.size + 1, 0, none⟩) (by simp) _).setCell (p := ⟨w.heap.size + 1 + 1, 0, none⟩) (by simp; omega) _).trans (belowK_b (w := w) (Nat.le_refl _) _ D _ _ (by omega) hK' rfl rfl)⟩
      simp [results, Try.f15, go_sem, c4, c5]
    case stop =>
      rintro D cc pre W hD ⟨k, hk, rfl⟩ ⟨⟨⟨⟨rfl, ini, last, e1, e2, e3⟩, bR1⟩, bB1⟩, hB1⟩ hK
      have e0 : ofL bs v = some last.2 := by unfold ofL; rw [hv, if_pos rfl]; exact of_some hk e1 e2 e3
      have el : lastC (upto (bk bs) k) = last.2.2 := by rw [e1]; simp [lastC]
      have eN : ofN bs v = last.2.2 := by unfold ofN; rw [e0]; rfl
      have eB : ofB bs v = true := by unfold ofB; rw [e0]; rfl
      rw [el] at bR1
      gi_wp2
      refine ⟨by simp, .inl ⟨_, _, rfl, run_takeDeferred hK, ?_⟩⟩
      have c4 := cell_kept bR1.cell (grownBy_putObj' _ D (.deferred none)) (fun r e => by cases e; exact ⟨_, hK, rfl⟩)
      have c5 := cell_kept bB1.cell (grownBy_putObj' _ D (.deferred none)) (fun r e => by cases e; exact ⟨_, hK, rfl⟩)
      refine ⟨.tuple #[.int .i64 last.2.2, .bool true], ?_, by rw [eN, eB], hB1.trans (belowK_b (w := w) (Nat.le_refl _) W D _ _ (by omega) hK rfl rfl)⟩
      simp [results, Try.f15, go_sem, c4, c5]
theorem of_n (bs : List Rg) (n : Nat) (hl : bs.length = n) (A : Option Addr) (c : Nat) (v : Int) (w : World) (hR : Reads w w.heap.size 2 A n (rcells bs)) (hn : n ≤ 1000000) :
    Calls Try.prog 15 #[.slice A n c, .int .i64 v] w fun e w' => e = .returned (.tuple #[.int .i64 (ofN bs v), .bool (ofB bs v)]) ∧ Below w.heap.size w w' := by
  subst hl
  exact callsIn_wide.1 (of_in 3 (Nat.le_refl _) bs A c v w hn hR)
end Go.Proofs.Ythaageiflimnnaa
/- Ranges of parts in a row: when each scalar is in just one part; the bands that tell it. -/
namespace Go.Proofs.Ythaageiflimnnaa
set_option linter.unusedSimpArgs false
set_option linter.unusedVariables false

/-- A scalar is in just one part. -/
def Once (L : List (List Rg)) (v : Int) : Prop := ∃ c, c < L.length ∧ In (L.getD c []) v ∧ ∀ d, d < L.length → In (L.getD d []) v → d = c
structure BandsOf (L : List (List Rg)) (bs : List Rg) : Prop where
  zero : ∃ h : 0 < bs.length, bs[0].1 = 0
  inc : ∀ i j (hi : i < bs.length) (hj : j < bs.length), i < j → bs[i].1 < bs[j].1
  sc : ∀ b ∈ bs, Sc b.1
  cl : ∀ b ∈ bs, 0 ≤ b.2 ∧ b.2 < (L.length : Int)
  here : ∀ i (hi : i < bs.length) v, Sc v → bs[i].1 ≤ v → (∀ hh : i + 1 < bs.length, v < bs[i + 1].1) → In (L.getD bs[i].2.toNat []) v
  chg : ∀ i (h : i + 1 < bs.length), bs[i].2 ≠ bs[i + 1].2

theorem plUp_mem (L : List (List Rg)) : ∀ k, ∀ q : Fl, q ∈ plUp L k ↔ ∃ c, c < k ∧ q.2.2 = (c : Int) ∧ (q.1, q.2.1) ∈ L.getD c []
  | 0, q => by simp [plUp]
  | k + 1, q => by
    unfold plUp
    rw [List.mem_append, plUp_mem L k q]
    constructor
    · rintro (⟨c, h1, h2, h3⟩ | h)
      · exact ⟨c, by omega, h2, h3⟩
      · unfold plS at h
        obtain ⟨r, hr, rfl⟩ := List.mem_map.1 h
        exact ⟨k, by omega, rfl, hr⟩
    · rintro ⟨c, h1, h2, h3⟩
      rcases Nat.lt_or_ge c k with h | h
      · exact .inl ⟨c, h, h2, h3⟩
      · have e : c = k := by omega
        subst e
        refine .inr ?_
        unfold plS
        refine List.mem_map.2 ⟨_, h3, ?_⟩
        obtain ⟨a, b, d⟩ := q
        simp only at h2
        simp [h2]
/-- Of one part: they lie apart. -/
def Apt (a b : Fl) : Prop := a.2.2 = b.2.2 → a.2.1 < b.1 ∨ b.2.1 < a.1
theorem Apt.symm {a b : Fl} (h : Apt a b) : Apt b a := fun e => (h e.symm).symm
theorem gd_apt (i : Nat) : ∀ (s : List Rg) (m : Int), Gd m s → (plS i s).Pairwise Apt
  | [], m, _ => List.Pairwise.nil
  | r :: s, m, h => by
    unfold plS
    rw [List.map_cons, List.pairwise_cons]
    refine ⟨?_, gd_apt i s _ h.2.2⟩
    intro q hq _
    obtain ⟨x, hx, rfl⟩ := List.mem_map.1 hq
    have h1 := (h.2.2.lo x hx).1
    have h2 := nx_gt r.2
    left
    show r.2 < x.1
    omega
theorem plUp_apt (L : List (List Rg)) (hg : ∀ s ∈ L, Gd (-1) s) : ∀ k, k ≤ L.length → (plUp L k).Pairwise Apt
  | 0, _ => List.Pairwise.nil
  | k + 1, hk => by
    unfold plUp
    rw [List.pairwise_append]
    refine ⟨plUp_apt L hg k (by omega), gd_apt k _ _ (hg _ (getD_mem (by omega))), ?_⟩
    intro a ha b hb e
    obtain ⟨c, h1, h2, _⟩ := (plUp_mem L k a).1 ha
    unfold plS at hb
    obtain ⟨r, hr, rfl⟩ := List.mem_map.1 hb
    rw [h2] at e
    have e' : (c : Int) = (k : Int) := e
    omega
/-- What is in a part is in one of its ranges in the row. -/
theorem in_row (L : List (List Rg)) {Q : List Fl} (hQ : Q.Perm (plUp L L.length)) (c : Nat) (hc : c < L.length) (v : Int) : In (L.getD c []) v ↔ ∃ q ∈ Q, q.2.2 = (c : Int) ∧ q.1 ≤ v ∧ v ≤ q.2.1 := by
  unfold In
  constructor
  · rintro ⟨r, hr, h1, h2⟩
    exact ⟨(r.1, r.2, (c : Int)), hQ.mem_iff.2 ((plUp_mem L _ _).2 ⟨c, hc, rfl, hr⟩), rfl, h1, h2⟩
  · rintro ⟨q, hq, h1, h2, h3⟩
    obtain ⟨d, h4, h5, h6⟩ := (plUp_mem L _ _).1 (hQ.mem_iff.1 hq)
    have e : d = c := by rw [h5] at h1; omega
    subst e
    exact ⟨_, h6, h2, h3⟩
theorem row_ok (L : List (List Rg)) (hg : ∀ s ∈ L, Gd (-1) s) {Q : List Fl} (hQ : Q.Perm (plUp L L.length)) : ∀ q ∈ Q, Ok (q.1, q.2.1) ∧ ∃ c, c < L.length ∧ q.2.2 = (c : Int) := by
  intro q hq
  obtain ⟨d, h4, h5, h6⟩ := (plUp_mem L _ _).1 (hQ.mem_iff.1 hq)
  exact ⟨((hg _ (getD_mem h4)).lo _ h6).2, d, h4, h5⟩

/-- Ranges that go on without a gap, from 0 up to fr. -/
structure Til (pre : List Fl) (fr : Int) (more : Bool) (acc : List Rg) : Prop where
  acc : acc = pre.map (fun q => (q.1, q.2.2))
  sc : more = true → Sc fr
  pw : pre.Pairwise (fun a b => a.2.1 < b.1)
  top : more = true → ∀ q ∈ pre, q.2.1 < fr
  cov : ∀ v, Sc v → (more = true → v < fr) → ∃ q ∈ pre, q.1 ≤ v ∧ v ≤ q.2.1
  fst : ∀ h : 0 < pre.length, pre[0].1 = 0
  emp : pre = [] → fr = 0 ∧ more = true
  nxt : ∀ i (h : i + 1 < pre.length), nx pre[i].2.1 = pre[i + 1].1 ∧ pre[i].2.1 < 1114111
  lst : ∀ i (h : i < pre.length), i + 1 = pre.length → (more = true → nx pre[i].2.1 = fr ∧ pre[i].2.1 < 1114111) ∧ (more = false → pre[i].2.1 = 1114111)
theorem til0 : Til [] 0 true [] where
  acc := rfl
  sc := fun _ => sc0
  pw := List.Pairwise.nil
  top := fun _ q hq => by simp at hq
  cov := fun v hv h => by have := h rfl; unfold Sc at hv; omega
  fst := fun h => by simp at h
  emp := fun _ => ⟨rfl, rfl⟩
  nxt := fun i h => by simp at h
  lst := fun i h => by simp at h
theorem til_step {pre : List Fl} {fr : Int} {acc : List Rg} (h : Til pre fr true acc) {p : Fl} (hp : Ok (p.1, p.2.1)) (he : p.1 = fr) : Til (pre ++ [p]) (nextN p.2.1) (nextB p.2.1) (acc ++ [(p.1, p.2.2)]) := by
  obtain ⟨s1, s2, hle⟩ := hp
  simp only at s1 s2 hle
  have hnb : nextB p.2.1 = true → p.2.1 < 1114111 := fun e => of_decide_eq_true e
  have hnb' : nextB p.2.1 = false → p.2.1 = 1114111 := fun e => by
    have := of_decide_eq_false e; unfold Sc at s2; omega
  have hnn : nextB p.2.1 = true → nextN p.2.1 = nx p.2.1 := fun e => nextN_nx s2 (hnb e)
  refine ⟨?_, ?_, ?_, ?_, ?_, ?_, ?_, ?_, ?_⟩
  · rw [h.acc]; simp
  · intro e; rw [hnn e]; exact nx_sc s2 (hnb e)
  · rw [List.pairwise_append]
    refine ⟨h.pw, by simp, ?_⟩
    intro a ha b hb
    rw [List.mem_singleton] at hb; subst hb
    have := h.top rfl a ha
    omega
  · intro e q hq
    rw [hnn e]
    have := nx_gt p.2.1
    rcases List.mem_append.1 hq with hq | hq
    · have := h.top rfl q hq; omega
    · rw [List.mem_singleton] at hq; subst hq; omega
  · intro v hv hb
    rcases Int.lt_or_le v fr with h1 | h1
    · obtain ⟨q, hq, h2⟩ := h.cov v hv (fun _ => h1)
      exact ⟨q, List.mem_append.2 (.inl hq), h2⟩
    · refine ⟨p, by simp, by omega, ?_⟩
      cases e : nextB p.2.1
      · have := hnb' e; unfold Sc at hv; omega
      · have h3 := hb e
        rw [hnn e] at h3
        rcases Int.lt_or_le p.2.1 v with h4 | h4
        · have := nx_le s2 hv h4; omega
        · exact h4
  · intro hl
    by_cases hp : pre = []
    · subst hp
      have := (h.emp rfl).1
      simp; omega
    · have : 0 < pre.length := List.length_pos_iff.2 hp
      rw [List.getElem_append_left this]
      exact h.fst this
  · intro e; simp at e
  · intro i hi
    rw [List.length_append] at hi
    simp only [List.length_cons, List.length_nil] at hi
    rcases Nat.lt_or_ge (i + 1) pre.length with h1 | h1
    · rw [List.getElem_append_left h1, List.getElem_append_left (by omega)]
      exact h.nxt i h1
    · have e : i + 1 = pre.length := by omega
      rw [List.getElem_append_left (by omega), List.getElem_append_right (by omega)]
      have h2 := (h.lst i (by omega) e).1 rfl
      refine ⟨?_, h2.2⟩
      rw [h2.1]
      simp [he]
  · intro i hi e
    rw [List.length_append] at e
    simp only [List.length_cons, List.length_nil] at e
    have e' : i = pre.length := by omega
    subst e'
    rw [List.getElem_append_right (by omega)]
    simp only [Nat.sub_self, List.getElem_cons_zero]
    exact ⟨fun e => ⟨(hnn e).symm, hnb e⟩, fun e => hnb' e⟩
theorem srt_tail {p : Fl} {pre t : List Fl} (h : Srt (pre ++ p :: t)) : ∀ q ∈ t, p.1 ≤ q.1 := by
  intro q hq
  obtain ⟨j, hj, rfl⟩ := List.getElem_of_mem hq
  have h1 := h pre.length (pre.length + 1 + j) (by simp) (by simp; omega) (by omega)
  rw [List.getElem_append_right (by omega), List.getElem_append_right (by omega)] at h1
  simpa [show pre.length + 1 + j - pre.length = j + 1 by omega] using h1
theorem inR_tells {L : List (List Rg)} (hg : ∀ s ∈ L, Gd (-1) s) {Q : List Fl} (hQ : Q.Perm (plUp L L.length)) (hs : Srt Q) : ∀ (rest pre : List Fl) (fr : Int) (more : Bool) (acc : List Rg), Q = pre ++ rest → Til pre fr more acc →
    match inR fr more acc rest with
    | some bs => ∃ fr', Til Q fr' false bs
    | none => ∃ v, Sc v ∧ ¬ Once L v
  | [], pre, fr, more, acc, e, h => by
    unfold inR
    cases more
    · simp only [Bool.false_eq_true, if_false]
      rw [List.append_nil] at e
      subst e
      exact ⟨fr, h⟩
    · simp only [if_true]
      refine ⟨fr, h.sc rfl, ?_⟩
      rintro ⟨c, hc, hi, _⟩
      obtain ⟨q, hq, _, h2, h3⟩ := (in_row L hQ c hc fr).1 hi
      rw [List.append_nil] at e
      subst e
      have := h.top rfl q hq
      omega
  | p :: t, pre, fr, more, acc, e, h => by
    have hok := row_ok L hg hQ
    have hpm : p ∈ Q := by rw [e]; simp
    have hp := hok p hpm
    unfold inR
    by_cases hc : (more && (p.1 == fr)) = true
    · rw [if_pos hc]
      rw [Bool.and_eq_true, beq_iff_eq] at hc
      obtain ⟨rfl, he⟩ := hc
      exact inR_tells hg hQ hs t (pre ++ [p]) _ _ _ (by rw [e]; simp) (til_step h hp.1 he)
    · rw [if_neg hc]
      simp only
      have hap : Q.Pairwise Apt := (hQ.pairwise_iff (fun h => Apt.symm h)).2 (plUp_apt L hg _ (Nat.le_refl _))
      have two : (more = true → p.1 < fr) → ∃ v, Sc v ∧ ¬ Once L v := by
        intro hlt
        obtain ⟨q, hq, h1, h2⟩ := h.cov p.1 hp.1.1 hlt
        refine ⟨p.1, hp.1.1, ?_⟩
        rintro ⟨c, hc, hi, hu⟩
        obtain ⟨cp, hcp, ecp⟩ := hp.2
        have hqm : q ∈ Q := by rw [e]; exact List.mem_append.2 (.inl hq)
        obtain ⟨cq, hcq, ecq⟩ := (hok q hqm).2
        have e1 := hu cp hcp ((in_row L hQ cp hcp p.1).2 ⟨p, hpm, ecp, Int.le_refl _, hp.1.2.2⟩)
        have e2 := hu cq hcq ((in_row L hQ cq hcq p.1).2 ⟨q, hqm, ecq, h1, h2⟩)
        rw [e, List.pairwise_append] at hap
        have h3 := hap.2.2 q hq p (by simp) (by rw [ecp, ecq, e1, e2])
        have := hp.1.2.2
        simp only at this
        omega
      cases more
      · exact two (fun h => by cases h)
      · rcases Int.lt_trichotomy p.1 fr with h1 | h1 | h1
        · exact two (fun _ => h1)
        · exact absurd (by rw [Bool.true_and, beq_iff_eq]; exact h1) hc
        · refine ⟨fr, h.sc rfl, ?_⟩
          rintro ⟨c, hc, hi, _⟩
          obtain ⟨q, hq, _, h2, h3⟩ := (in_row L hQ c hc fr).1 hi
          rw [e] at hq hs
          rcases List.mem_append.1 hq with hq | hq
          · have := h.top rfl q hq; omega
          · rcases List.mem_cons.1 hq with hq | hq
            · subst hq; omega
            · have := srt_tail hs q hq; omega
theorem til_once {L : List (List Rg)} {Q : List Fl} (hg : ∀ s ∈ L, Gd (-1) s) (hQ : Q.Perm (plUp L L.length)) {fr : Int} {bs : List Rg} (h : Til Q fr false bs) : (∀ v, Sc v → Once L v) ∧ BandsOf L bs := by
  have hok := row_ok L hg hQ
  have hlen : bs.length = Q.length := by rw [h.acc]; simp
  have hb : ∀ i (hi : i < bs.length), bs[i] = ((Q[i]'(by omega)).1, (Q[i]'(by omega)).2.2) := by
    intro i hi
    have e : bs[i]? = (Q.map (fun q : Fl => (q.1, q.2.2)))[i]? := by rw [← h.acc]
    rw [List.getElem?_eq_getElem hi, List.getElem?_map, List.getElem?_eq_getElem (by omega)] at e
    simpa using e
  have hpw := List.pairwise_iff_getElem.1 h.pw
  have hu : ∀ q ∈ Q, ∀ q' ∈ Q, ∀ v, q.1 ≤ v → v ≤ q.2.1 → q'.1 ≤ v → v ≤ q'.2.1 → q = q' := by
    intro q hq q' hq' v h1 h2 h3 h4
    obtain ⟨i, hi, rfl⟩ := List.getElem_of_mem hq
    obtain ⟨j, hj, rfl⟩ := List.getElem_of_mem hq'
    rcases Nat.lt_trichotomy i j with h5 | h5 | h5
    · have := hpw i j hi hj h5; omega
    · subst h5; rfl
    · have := hpw j i hj hi h5; omega
  refine ⟨?_, ?_, ?_, ?_, ?_, ?_, ?_⟩
  · intro v hv
    obtain ⟨q, hq, h1, h2⟩ := h.cov v hv (fun h => by cases h)
    obtain ⟨c, hc, ec⟩ := (hok q hq).2
    refine ⟨c, hc, (in_row L hQ c hc v).2 ⟨q, hq, ec, h1, h2⟩, ?_⟩
    intro d hd hi
    obtain ⟨q', hq', h3, h4, h5⟩ := (in_row L hQ d hd v).1 hi
    have := hu q hq q' hq' v h1 h2 h4 h5
    subst this
    rw [h3] at ec
    omega
  · have hne : Q ≠ [] := fun e => by have := (h.emp e).2; cases this
    have h0 : 0 < Q.length := List.length_pos_iff.2 hne
    refine ⟨by omega, ?_⟩
    rw [hb 0 (by omega)]
    exact h.fst h0
  · intro i j hi hj hij
    rw [hb i hi, hb j hj]
    have h1 := hpw i j (by omega) (by omega) hij
    have h2 := (hok _ (List.getElem_mem (show i < Q.length by omega))).1.2.2
    simp only at h2 ⊢
    omega
  · intro b hbm
    obtain ⟨i, hi, rfl⟩ := List.getElem_of_mem hbm
    rw [hb i hi]
    exact (hok _ (List.getElem_mem _)).1.1
  · intro b hbm
    obtain ⟨i, hi, rfl⟩ := List.getElem_of_mem hbm
    rw [hb i hi]
    obtain ⟨c, hc, ec⟩ := (hok _ (List.getElem_mem (show i < Q.length by omega))).2
    simp only
    omega
  · intro i hi v hv h1 h2
    rw [hb i hi] at h1
    have hiQ : i < Q.length := by omega
    obtain ⟨hoi, c, hc, ec⟩ := hok _ (List.getElem_mem hiQ)
    have e : (bs[i].2).toNat = c := by rw [hb i hi]; simp only; omega
    rw [e]
    refine (in_row L hQ c hc v).2 ⟨Q[i], List.getElem_mem hiQ, ec, h1, ?_⟩
    by_cases hl : i + 1 < Q.length
    · have h3 := h2 (by omega)
      rw [hb (i + 1) (by omega)] at h3
      simp only at h3
      have h4 := h.nxt i hl
      rcases Int.lt_or_le Q[i].2.1 v with h5 | h5
      · have := nx_le hoi.2.1 hv h5
        simp only at this
        omega
      · exact h5
    · have h3 := (h.lst i hiQ (by omega)).2 rfl
      unfold Sc at hv
      omega
  · intro i hi
    have hi1 : i + 1 < Q.length := by omega
    rw [hb i (by omega), hb (i + 1) hi]
    simp only
    intro e
    obtain ⟨hoi, c, hc, ec⟩ := hok _ (List.getElem_mem (show i < Q.length by omega))
    obtain ⟨d, hd, ed, hm⟩ := (plUp_mem L _ _).1 (hQ.mem_iff.1 (List.getElem_mem (show i < Q.length by omega)))
    have hn := h.nxt i hi1
    have h6 := (gd_edge _ _ (hg _ (getD_mem hd)) _ hm).2 hn.2
    apply h6
    refine (in_row L hQ d hd _).2 ⟨Q[i + 1], List.getElem_mem hi1, by rw [← e]; exact ed, ?_, ?_⟩
    · simp only; rw [hn.1]; exact Int.le_refl _
    · have := (hok _ (List.getElem_mem hi1)).1.2.2
      simp only at this ⊢
      rw [hn.1]; exact this
theorem bands_tells {L : List (List Rg)} (hg : ∀ s ∈ L, Gd (-1) s) {Q : List Fl} (hQ : Q.Perm (plUp L L.length)) (hs : Srt Q) :
    match inR 0 true [] Q with
    | some bs => (∀ v, Sc v → Once L v) ∧ BandsOf L bs ∧ bs.length = Q.length
    | none => ∃ v, Sc v ∧ ¬ Once L v := by
  have h := inR_tells hg hQ hs Q [] 0 true [] rfl til0
  cases hr : inR 0 true [] Q with
  | none => rw [hr] at h; exact h
  | some bs =>
    rw [hr] at h
    obtain ⟨fr, h⟩ := h
    have h1 := til_once hg hQ h
    exact ⟨h1.1, h1.2, by rw [h.acc]; simp⟩
/-- Bands are told by the parts. -/
theorem bands_uniq {L : List (List Rg)} (ho : ∀ v, Sc v → Once L v) {a b : List Rg} (ha : BandsOf L a) (hb : BandsOf L b) : a = b := by
  have hone : ∀ (c : List Rg), BandsOf L c → ∀ i (hi : i < c.length) v, Sc v → c[i].1 ≤ v → (∀ hh : i + 1 < c.length, v < c[i + 1].1) → ∀ d : Int, 0 ≤ d → d < L.length → In (L.getD d.toNat []) v → d = c[i].2 := by
    intro c hc i hi v hv h1 h2 d hd0 hd1 hin
    obtain ⟨e, he, _, hu⟩ := ho v hv
    have h3 := hu d.toNat (by omega) hin
    have h4 := hc.cl _ (List.getElem_mem hi)
    have h5 := hu (c[i].2).toNat (by omega) (hc.here i hi v hv h1 h2)
    omega
  have self : ∀ (c : List Rg), BandsOf L c → ∀ i (hi : i < c.length), In (L.getD (c[i].2).toNat []) c[i].1 := fun c hc i hi => hc.here i hi _ (hc.sc _ (List.getElem_mem hi)) (Int.le_refl _) (fun hh => hc.inc i (i + 1) hi hh (by omega))
  have step : ∀ (x y : List Rg), BandsOf L x → BandsOf L y → ∀ i (hx : i < x.length) (hy : i < y.length), x[i] = y[i] → ∀ h : i + 1 < x.length, ∃ h' : i + 1 < y.length, ¬ x[i + 1].1 < y[i + 1].1 := by
    intro x y hx hy i hix hiy e h
    have hsc := hx.sc _ (List.getElem_mem h)
    have hcl := hx.cl _ (List.getElem_mem h)
    have hgt := hx.inc i (i + 1) hix h (by omega)
    have key : (∀ hh : i + 1 < y.length, x[i + 1].1 < y[i + 1].1) → False := by
      intro hh
      have h1 := hone y hy i hiy x[i + 1].1 hsc (by rw [← e]; omega) hh x[i + 1].2 hcl.1 hcl.2 (self x hx (i + 1) h)
      exact hx.chg i h (by rw [e, h1])
    rcases Nat.lt_or_ge (i + 1) y.length with h' | h'
    · exact ⟨h', fun hlt => key (fun _ => hlt)⟩
    · exact absurd (fun hh => absurd hh (by omega)) key
  have eqs : ∀ i, (∀ hi : i < a.length, ∃ hj : i < b.length, a[i] = b[i]) ∧ (∀ hi : i < b.length, ∃ hj : i < a.length, a[i] = b[i]) := by
    intro i
    induction i with
    | zero =>
      obtain ⟨ha0, ea⟩ := ha.zero
      obtain ⟨hb0, eb⟩ := hb.zero
      have e : a[0] = b[0] := by
        have h1 : a[0].1 = b[0].1 := by rw [ea, eb]
        have hc := ha.cl _ (List.getElem_mem ha0)
        have h2 := hone b hb 0 hb0 a[0].1 (ha.sc _ (List.getElem_mem ha0)) (by omega) (fun hh => by rw [h1]; exact hb.inc 0 1 hb0 hh (by omega)) a[0].2 hc.1 hc.2 (self a ha 0 ha0)
        exact Prod.ext h1 h2
      exact ⟨fun _ => ⟨hb0, e⟩, fun _ => ⟨ha0, e⟩⟩
    | succ i ih =>
      have both : ∀ (h1 : i + 1 < a.length) (h2 : i + 1 < b.length), a[i] = b[i] → a[i + 1] = b[i + 1] := by
        intro h1 h2 e
        obtain ⟨_, n1⟩ := step a b ha hb i (by omega) (by omega) e h1
        obtain ⟨_, n2⟩ := step b a hb ha i (by omega) (by omega) e.symm h2
        have e1 : a[i + 1].1 = b[i + 1].1 := by omega
        have hc := ha.cl _ (List.getElem_mem h1)
        have e2 := hone b hb (i + 1) h2 a[i + 1].1 (ha.sc _ (List.getElem_mem h1)) (by omega) (fun hh => by rw [e1]; exact hb.inc (i + 1) (i + 2) h2 hh (by omega)) a[i + 1].2 hc.1 hc.2 (self a ha (i + 1) h1)
        exact Prod.ext e1 e2
      constructor
      · intro hi
        obtain ⟨hj, e⟩ := ih.1 (by omega)
        obtain ⟨h', _⟩ := step a b ha hb i (by omega) hj e hi
        exact ⟨h', both hi h' e⟩
      · intro hi
        obtain ⟨hj, e⟩ := ih.2 (by omega)
        obtain ⟨h', _⟩ := step b a hb ha i (by omega) hj e.symm hi
        exact ⟨h', both h' hi e⟩
  have hl : a.length = b.length := by
    rcases Nat.lt_trichotomy a.length b.length with h | h | h
    · obtain ⟨h1, _⟩ := (eqs a.length).2 h; omega
    · exact h
    · obtain ⟨h1, _⟩ := (eqs b.length).1 h; omega
  exact List.ext_getElem hl fun i h1 h2 => ((eqs i).1 h1).2
/-- The class that bands tell. -/
theorem of_bands {L : List (List Rg)} {bs : List Rg} (h : BandsOf L bs) {v : Int} (hv : Sc v) : ofB bs v = true ∧ 0 ≤ ofN bs v ∧ ofN bs v < L.length ∧ In (L.getD (ofN bs v).toNat []) v := by
  have hB := (isB_iff v).2 hv
  cases hf : bs.reverse.find? (fun b => decide (b.1 ≤ v)) with
  | none =>
    rw [List.find?_eq_none] at hf
    obtain ⟨h0, e0⟩ := h.zero
    have := hf bs[0] (by simp)
    simp [e0] at this
    unfold Sc at hv
    omega
  | some b =>
    have e : ofL bs v = some b := by unfold ofL; rw [if_pos hB, hf]
    have eN : ofN bs v = b.2 := by unfold ofN; rw [e]; rfl
    have eB : ofB bs v = true := by unfold ofB; rw [e]; rfl
    rw [List.find?_eq_some_iff_append] at hf
    obtain ⟨hp, us, cs, e1, hn⟩ := hf
    have e2 : bs = cs.reverse ++ b :: us.reverse := by
      rw [← List.reverse_reverse bs, e1]; simp
    have hi : cs.length < bs.length := by rw [e2]; simp
    have eb : bs[cs.length] = b := by
      have : bs[cs.length]? = some b := by rw [e2, List.getElem?_append_right (by simp)]; simp
      rw [List.getElem?_eq_getElem hi] at this
      exact Option.some.inj this
    have hc := h.cl _ (List.getElem_mem hi)
    rw [eb] at hc
    have hh := h.here cs.length hi v hv (by rw [eb]; exact of_decide_eq_true hp) (fun hl => by
      have h3 : bs[cs.length + 1]? = us.reverse[0]? := by
        conv => lhs; rw [e2]
        rw [List.getElem?_append_right (by simp)]; simp
      rw [List.getElem?_eq_getElem hl] at h3
      have h4 : bs[cs.length + 1] ∈ us := by
        have := List.mem_of_getElem? h3.symm
        simpa using this
      have h5 := hn _ h4
      simp at h5
      exact h5)
    rw [eb] at hh
    rw [eN, eB]
    exact ⟨rfl, hc.1, hc.2, hh⟩
theorem of_not {bs : List Rg} {v : Int} (hv : isB v = false) : ofB bs v = false ∧ ofN bs v = 0 := by
  have e : ofL bs v = none := by unfold ofL; rw [hv]; rfl
  unfold ofB ofN
  rw [e]
  exact ⟨rfl, rfl⟩
end Go.Proofs.Ythaageiflimnnaa
/- What inside and Within return. -/
namespace Go.Proofs.Ythaageiflimnnaa
open Go.RowKit Go.BigFrame
set_option linter.unusedVariables false
set_option linter.unusedSimpArgs false

/-- All of p is in s; none of it is. -/
def Sub (p s : List Rg) : Prop := ∀ v, Sc v → In p v → In s v
def Dis (p s : List Rg) : Prop := ∀ v, Sc v → In p v → ¬ In s v
open Classical in
noncomputable def insA (s : List Rg) (acc : List Int) (i : Nat) : List (List Rg) → Option (List Int)
  | [] => some acc
  | p :: P => if Sub p s then insA s (acc ++ [(i : Int)]) (i + 1) P else if Dis p s then insA s acc (i + 1) P else none
theorem insA_sub {s p : List Rg} (h : Sub p s) (acc : List Int) (i : Nat) (P : List (List Rg)) : insA s acc i (p :: P) = insA s (acc ++ [(i : Int)]) (i + 1) P := by
  conv => lhs; unfold insA
  rw [if_pos h]
theorem insA_dis {s p : List Rg} (h1 : ¬ Sub p s) (h : Dis p s) (acc : List Int) (i : Nat) (P : List (List Rg)) : insA s acc i (p :: P) = insA s acc (i + 1) P := by
  conv => lhs; unfold insA
  rw [if_neg h1, if_pos h]
theorem insA_no {s p : List Rg} (h1 : ¬ Sub p s) (h : ¬ Dis p s) (acc : List Int) (i : Nat) (P : List (List Rg)) : insA s acc i (p :: P) = none := by
  conv => lhs; unfold insA
  rw [if_neg h1, if_neg h]
theorem both_sub {s p b : List Rg} (gs : Gd (-1) s) (gp : Gd (-1) p) (h : IsSet b (fun v => In s v ∧ In p v)) : b = p ↔ Sub p s := by
  constructor
  · intro e v hv hi
    have := (h.2 v hv).1 (by rw [e]; exact hi)
    exact this.1
  · intro hs
    exact h.uniq (IsSet.self gp) (fun v hv => ⟨fun x => x.2, fun x => ⟨hs v hv x, x⟩⟩)
theorem both_dis {s p b : List Rg} (h : IsSet b (fun v => In s v ∧ In p v)) : b = [] ↔ Dis p s := by
  constructor
  · intro e v hv hi hs
    have := (h.2 v hv).2 ⟨hs, hi⟩
    rw [e] at this
    exact In_nil v this
  · intro hd
    cases b with
    | nil => rfl
    | cons x t =>
      have hS := h.1.2.1.1
      have := (h.2 x.1 hS).1 ((In_cons ..).2 (.inl ⟨Int.le_refl _, h.1.2.1.2.2⟩))
      exact absurd this.1 (hd x.1 hS this.2)
def InRel (s : List Rg) (L : List (List Rg)) (n : Nat) (w : World) (vo vi : Value) (wr : World) : Prop :=
  ∃ (k z : Nat) (A2 : Option Addr) (c2 : Nat) (acc : List Int), k ≤ n ∧ vi = .int .i64 k ∧ vo = .slice A2 z c2 ∧ Hid (acc.length = z) ∧ z ≤ k ∧ Hid (insA s [] 0 L = insA s acc k (L.drop k)) ∧ wr.ownsRow w.heap.size 3 1 (.slice A2 z c2) z (icells acc) ∧ Below w.heap.size w wr
def OutIns (r : Option (List Int)) (w : World) (e : Ending) (w' : World) : Prop :=
  match r with
  | some l => ∃ (A : Option Addr) (c n : Nat), e = .returned (.tuple #[.slice A n c, .bool true]) ∧ l.length = n ∧ w'.ownsRow w.heap.size 3 1 (.slice A n c) n (icells l) ∧ Below w.heap.size w w'
  | none => OutNil w e w'
theorem icells_snoc (l : List Int) (x : Int) : icells (l ++ [x]) = icells l ++ [.int .i64 x] := by simp [icells]
theorem own_in {w w1 w2 : World} {base : Nat} {e : TypeId} {size n : Nat} {v : Value} {xs : List Value} (h : w.ownsRow base e size v n xs) (hb : Below w.heap.size w w1) : w1.ownsRow base e size v n xs := own_below h hb

set_option maxRecDepth 4000 in
set_option maxHeartbeats 2000000 in
theorem inside_n (s : List Rg) (ns : Nat) (hs : s.length = ns) (B : Option Addr) (d : Nat) (H : List Hd) (n : Nat) (A : Option Addr) (c : Nat) (w : World) (hB : Shp B ns d) (hRs : Reads w w.heap.size 2 B ns (rcells s)) (hN : Nest w w.heap.size A n H) (hn : n ≤ 1000000) (hm : ∀ h ∈ H, h.n ≤ 2000) (hns : ns ≤ 2000) (gs : Gd (-1) s) (gH : ∀ h ∈ H, Gd (-1) h.s) :
    Calls Try.prog 40 #[.slice B ns d, .slice A n c] w (OutIns (insA s [] 0 (setsOf H)) w) := by
  obtain ⟨i0, hi0, hz0, hz1, hz2⟩ := info_parts info3
  have HN := Lib.hid hN
  have HM := Lib.hid hm
  have HS := Lib.hid hs
  have HB := Lib.hid hB
  have HR := Lib.hid hRs
  have HGs := Lib.hid gs
  have HGH := Lib.hid gH
  clear hN hm hs hB hRs gs gH
  go_enter Try.func40, Try.ntmps40
  go_wp2_with fail
  go_loopw [6, 13] (fun vo vi wr => InRel s (setsOf H) n w vo vi wr) (fun _ i _ => n - (intOf i).toNat)
  case atStart => exact ⟨0, 0, none, 0, [], Nat.zero_le _, rfl, rfl, Lib.hid rfl, by omega, Lib.hid rfl, World.ownsRow_nil _ _ _ _, Below.refl _ _⟩
  case round =>
    obtain ⟨k, z, A2, c2, acc, hk, rfl, rfl, HLz, hz, HE, hown, hb⟩ := hrel
    have hsz := hb.size
    by_cases hlt : k < n
    · have kl : k < H.length := by rw [HN.out.1]; exact hlt
      obtain ⟨b, o, rfl, hbb, p0, q1, q2, q3⟩ := (HN.out.below hb).at kl
      have hm1 := HM.out _ (List.getElem_mem kl)
      have HDr : Hid ((setsOf H).drop k = H[k].s :: (setsOf H).drop (k + 1)) := Lib.hid (by
        have kl' : k < (setsOf H).length := by rw [setsOf_len]; exact kl
        rw [List.drop_eq_getElem_cons kl']
        simp [setsOf])
      have HGp := Lib.hid (HGH.out _ (List.getElem_mem kl))
      generalize H[k] = x at *
      obtain ⟨xa, xn, xc, xs⟩ := x
      simp only [] at p0 hm1 q1 q2 q3 HDr HGp
      have HRs := Lib.hid ((HR.out.below hb).more hsz)
      have Q3 := Lib.hid (q3.more hsz)
      have Q1 := Lib.hid q1
      have HBt := Lib.hid (both_N HS.out Q1.out HB.out q2 HRs.out Q3.out (by omega) (by omega) HGs.out HGp.out)
      clear q1 q2 q3
      go_wp2_with fail
      refine HBt.out.mono ?_
      rintro e w1 ⟨bt, nb, A4, c4, rfl, hbl, hbm, hbs, hbI, hbR, g1⟩
      have hown1 := own_below hown g1
      have b1 := hb.trans (g1.mono hsz)
      have hs1 := b1.size
      have Q31 := Lib.hid (reads_on Q3.out g1)
      have HSm := Lib.hid (same_n bt xs nb xn hbl Q1.out A4 xa c4 xc w1 hbR Q31.out (by omega))
      have HSub := Lib.hid (both_sub HGs.out HGp.out hbI)
      have HDis := Lib.hid (both_dis hbI)
      have HLb := Lib.hid hbl
      clear hbs hbI hbR g1 hown hb HBt HRs Q3 hbl
      by_cases heq : bt = xs
      · have HE1 : Hid (insA s [] 0 (setsOf H) = insA s (acc ++ [(k : Int)]) (k + 1) ((setsOf H).drop (k + 1))) := Lib.hid (by
          rw [HE.out, HDr.out]
          exact insA_sub (HSub.out.1 heq) _ _ _)
        have het : eqL bt xs = true := decide_eq_true heq
        rw [het] at HSm
        clear HE HSub HDis heq het
        go_wp2_with fail
        refine HSm.out.mono ?_
        rintro e w2 ⟨rfl, g2⟩
        have hown2 := own_below hown1 g2
        have b2 := b1.trans (g2.mono hs1)
        have hs2 := b2.size
        clear hown1 g2 b1
        go_wp2_with (at_builtin; refine wpList_append_lies _ rfl _ _ 45 rfl w.heap.size 3 i0 _ 1 8 Try.underlying45 hi0 hz0 hz1 hz2 rfl (by decide) _ _ _ rfl (hown2.alloc _) ⟨w2.heap.size, 0, none⟩ 1 1 [.int .i64 k] rfl rfl ?k1 ?k2 (by omega) ?k3 ?k4 ?k5 _ rfl ?_)
        case k1 => exact lit1 (by simp)
        case k2 => intro u hu; simp at hu; subst hu; rfl
        case k3 => unfold maxLen; omega
        case k4 => omega
        case k5 => simp; omega
        intro g5 cap5 w5 hown5 hgrow5 hat5 hlt5
        have hO5 : w5.ownsRow w.heap.size 3 1 (.slice (some ⟨g5, 0, none⟩) (z + 1) cap5) (z + 1) (icells (acc ++ [(k : Int)])) := by rw [icells_snoc]; exact hown5
        have b5 : Below w.heap.size w w5 := below_grown (b2.alloc (by omega) _) (by simp; omega) (hown2.alloc _) hgrow5
        have HL5 : Hid ((acc ++ [(k : Int)]).length = z + 1) := Lib.hid (by rw [List.length_append, HLz.out]; rfl)
        clear hown5 hgrow5 hat5 hown2 b2
        go_wp2_with fail
        go_roundw
        case rel => exact ⟨k + 1, z + 1, some ⟨g5, 0, none⟩, cap5, acc ++ [(k : Int)], by omega, by go_num, rfl, HL5, by omega, HE1, hO5, b5⟩
        case measure => simp [intOf]; omega
      · have het : eqL bt xs = false := decide_eq_false heq
        rw [het] at HSm
        by_cases hnb : nb = 0
        · have hd0 : decide ((0 : Int) < (nb : Int)) = false := decide_eq_false (by omega)
          have HE1 : Hid (insA s [] 0 (setsOf H) = insA s acc (k + 1) ((setsOf H).drop (k + 1))) := Lib.hid (by
            rw [HE.out, HDr.out]
            exact insA_dis (fun h => heq (HSub.out.2 h)) (HDis.out.1 (List.eq_nil_of_length_eq_zero (by rw [HLb.out, hnb]))) _ _ _)
          clear HE HSub HDis heq het
          subst hnb
          go_wp2_with fail
          refine HSm.out.mono ?_
          rintro e w2 ⟨rfl, g2⟩
          have hown2 := own_below hown1 g2
          have b2 := b1.trans (g2.mono hs1)
          clear hown1 g2 b1
          go_wp2_with fail
          go_roundw
          case rel => exact ⟨k + 1, z, A2, c2, acc, by omega, by go_num, rfl, HLz, by omega, HE1, hown2, b2⟩
          case measure => simp [intOf]; omega
        · have hd0 : decide ((0 : Int) < (nb : Int)) = true := decide_eq_true (by omega)
          have hnb' : 0 < nb := by omega
          have HE1 : Hid (insA s [] 0 (setsOf H) = none) := Lib.hid (by
            rw [HE.out, HDr.out]
            exact insA_no (fun h => heq (HSub.out.2 h)) (fun h => hnb (by rw [← HLb.out, HDis.out.2 h]; rfl)) _ _ _)
          clear HE HSub HDis heq het
          go_wp2_with fail
          refine HSm.out.mono ?_
          rintro e w2 ⟨rfl, g2⟩
          have b2 := b1.trans (g2.mono hs1)
          clear hown1 g2 b1
          go_wp2_with fail
          go_ret2
          rw [HE1.out]
          exact ⟨rfl, b2⟩
    · have HD : Hid (insA s [] 0 (setsOf H) = some acc) := Lib.hid (by
        rw [HE.out, List.drop_of_length_le (by rw [setsOf_len, HN.out.1]; omega)]
        rfl)
      go_wp2_with fail
      go_ret2
      rw [HD.out]
      exact ⟨A2, c2, z, rfl, HLz.out, hown, hb⟩
end Go.Proofs.Ythaageiflimnnaa
/- What Within returns. -/
namespace Go.Proofs.Ythaageiflimnnaa
open Go.RowKit Go.BigFrame
set_option linter.unusedVariables false
set_option linter.unusedSimpArgs false

noncomputable def witA (P : List (List Rg)) (acc : List (List Int)) : List (List Rg) → Option (List (List Int))
  | [] => some acc
  | s :: L => match insA s [] 0 P with
    | some l => witA P (acc ++ [l]) L
    | none => none
/-- A slice of lists. -/
structure Hi where
  a : Option Addr
  n : Nat
  c : Nat
  l : List Int
def Hi.v (h : Hi) : Value := .slice h.a h.n h.c
def icellsOf (H : List Hi) : List Value := H.map Hi.v
def listsOf (H : List Hi) : List (List Int) := H.map (·.l)
structure OwnI (w : World) (base : Nat) (A : Option Addr) (z c : Nat) (H : List Hi) : Prop where
  len : H.length = z
  out : w.ownsRow base 45 1 (.slice A z c) z (icellsOf H)
  inn : ∀ h ∈ H, h.l.length = h.n ∧ w.ownsRow base 3 1 h.v h.n (icells h.l)
def NestI (w : World) (B : Nat) (A : Option Addr) (n : Nat) (H : List Hi) : Prop :=
  H.length = n ∧ Reads w B 1 A n (icellsOf H) ∧ ∀ h ∈ H, h.l.length = h.n ∧ Reads w B 1 h.a h.n (icells h.l)
theorem NestI.below {w w' : World} {B n : Nat} {A : Option Addr} {H : List Hi} (h : NestI w B A n H) (g : Below B w w') : NestI w' B A n H := ⟨h.1, h.2.1.below g, fun x hx => ⟨(h.2.2 x hx).1, (h.2.2 x hx).2.below g⟩⟩
theorem NestI.on {w w' : World} {n : Nat} {A : Option Addr} {H : List Hi} (h : NestI w w.heap.size A n H) (g : Below w.heap.size w w') : NestI w' w'.heap.size A n H := ⟨h.1, reads_on h.2.1 g, fun x hx => ⟨(h.2.2 x hx).1, reads_on (h.2.2 x hx).2 g⟩⟩
theorem own_unlike' {w : World} {base base' : Nat} {e e' : TypeId} {size size' n n' : Nat} {v v' : Value} {xs xs' : List Value} (hne : e ≠ e') (h : w.ownsRow base e size v n xs) (h' : w.ownsRow base' e' size' v' n' xs') : v.ownBlock = none ∨ v.ownBlock ≠ v'.ownBlock := by
  cases hg : v.ownBlock with
  | none => exact .inl rfl
  | some g =>
    refine .inr fun e' => ?_
    obtain ⟨c1, h1⟩ := own_block h hg
    obtain ⟨c2, h2⟩ := own_block h' e'.symm
    rw [h1] at h2
    injection h2 with h2
    injection h2 with _ h2
    exact hne h2
theorem OwnI.nil (w : World) (base : Nat) : OwnI w base none 0 0 [] := ⟨rfl, World.ownsRow_nil _ _ _ _, fun h hh => by simp at hh⟩
theorem OwnI.on {w w' : World} {base z c : Nat} {A : Option Addr} {H : List Hi} (h : OwnI w base A z c H) (g : Below w.heap.size w w') : OwnI w' base A z c H := ⟨h.len, own_below h.out g, fun x hx => ⟨(h.inn x hx).1, own_below (h.inn x hx).2 g⟩⟩
theorem OwnI.snoc {w w' : World} {base z c g cap : Nat} {A : Option Addr} {H : List Hi} {x : Hi} (h : OwnI w base A z c H) (hx : x.l.length = x.n ∧ w.ownsRow base 3 1 x.v x.n (icells x.l)) (ho : w'.ownsRow base 45 1 (.slice (some ⟨g, 0, none⟩) (z + 1) cap) (z + 1) (icellsOf H ++ [x.v])) (hg : w.grownBy w' (Value.slice A z c).ownBlock) :
    OwnI w' base (some ⟨g, 0, none⟩) (z + 1) cap (H ++ [x]) := by
  refine ⟨by rw [List.length_append, h.len]; rfl, ?_, ?_⟩
  · have e : icellsOf (H ++ [x]) = icellsOf H ++ [x.v] := by simp [icellsOf]
    rw [e]; exact ho
  · intro y hy
    have key : ∀ y : Hi, y.l.length = y.n ∧ w.ownsRow base 3 1 y.v y.n (icells y.l) → y.l.length = y.n ∧ w'.ownsRow base 3 1 y.v y.n (icells y.l) := fun y hy => ⟨hy.1, hy.2.kept hg (ne_sym (own_unlike' (by decide) h.out hy.2))⟩
    rcases List.mem_append.1 hy with hy | hy
    · exact key y (h.inn y hy)
    · rw [List.mem_singleton] at hy; subst hy; exact key _ hx
theorem OwnI.nest {w : World} {base z c : Nat} {A : Option Addr} {H : List Hi} (h : OwnI w base A z c H) : NestI w w.heap.size A z H := ⟨h.len, Reads.of_own h.out, fun x hx => ⟨(h.inn x hx).1, Reads.of_own (h.inn x hx).2⟩⟩
theorem info45 : (Try.prog.info? 45).map (fun i => (i.zero, i.size, i.bytes)) = some (some (.slice none 0 0), 1, 24) := by kernel_rfl
def OutWi (L P : List (List Rg)) (w : World) (e : Ending) (w' : World) : Prop :=
  ((allB L && allB P) = false ∧ OutNil w e w') ∨ ((allB L && allB P) = true ∧ match witA P [] L with
    | some r => ∃ (A : Option Addr) (c z : Nat) (H : List Hi), e = .returned (.tuple #[.slice A z c, .bool true]) ∧ listsOf H = r ∧ NestI w' w'.heap.size A z H ∧ Below w.heap.size w w'
    | none => OutNil w e w')
def WiRel (L P : List (List Rg)) (n : Nat) (w : World) (vo vi : Value) (wr : World) : Prop :=
  ∃ (k z : Nat) (A2 : Option Addr) (c2 : Nat) (H : List Hi), k ≤ n ∧ vi = .int .i64 k ∧ vo = .slice A2 z c2 ∧ z ≤ k ∧ Hid (witA P [] L = witA P (listsOf H) (L.drop k)) ∧ Hid (OwnI wr w.heap.size A2 z c2 H) ∧ Below w.heap.size w wr
theorem own_base {w : World} {base base' : Nat} {e : TypeId} {size n : Nat} {v : Value} {xs : List Value} (h : w.ownsRow base e size v n xs) (hb : base' ≤ base) : w.ownsRow base' e size v n xs := by
  refine ⟨h.1, ?_⟩
  rcases h.2 with h1 | ⟨g, cap, cur, h1, h2, h3⟩
  · exact .inl h1
  · exact .inr ⟨g, cap, cur, h1, by omega, h3⟩

set_option maxRecDepth 4000 in
set_option maxHeartbeats 2000000 in
theorem within_n (G : List Hd) (m : Nat) (B : Option Addr) (d : Nat) (H : List Hd) (n : Nat) (A : Option Addr) (c : Nat) (w : World) (hG : Nest w w.heap.size B m G) (hN : Nest w w.heap.size A n H) (hmm : m ≤ 100000) (hn : n ≤ 100000) (hmG : ∀ h ∈ G, h.n ≤ 2000) (hmH : ∀ h ∈ H, h.n ≤ 2000) :
    Calls Try.prog 17 #[.slice B m d, .slice A n c] w (OutWi (setsOf G) (setsOf H) w) := by
  obtain ⟨i0, hi0, hz0, hz1, hz2⟩ := info_parts info45
  have HA1 := Lib.hid (allGood_n G m B d w hG (by omega) (fun h hh => by have := hmG h hh; omega))
  have HA2 := Lib.hid (fun (w1 : World) (g : Below w.heap.size w w1) => allGood_n H n A c w1 (hN.on g) (by omega) (fun h hh => by have := hmH h hh; omega))
  have HG := Lib.hid hG
  have HN := Lib.hid hN
  have HMG := Lib.hid hmG
  have HMH := Lib.hid hmH
  clear hG hN hmG hmH
  cases hb1 : allB (setsOf G)
  · rw [hb1] at HA1
    have HB : Hid ((allB (setsOf G) && allB (setsOf H)) = false) := Lib.hid (by rw [hb1]; rfl)
    clear hb1 HA2
    go_enter Try.func17, Try.ntmps17
    go_wp2_with fail
    refine HA1.out.mono ?_
    rintro e w1 ⟨rfl, g1⟩
    go_wp2_with fail
    go_ret2
    exact .inl ⟨HB.out, rfl, g1⟩
  · rw [hb1] at HA1
    cases hb2 : allB (setsOf H)
    · rw [hb2] at HA2
      have HB : Hid ((allB (setsOf G) && allB (setsOf H)) = false) := Lib.hid (by rw [hb2]; simp)
      clear hb1 hb2
      go_enter Try.func17, Try.ntmps17
      go_wp2_with fail
      refine HA1.out.mono ?_
      rintro e w1 ⟨rfl, g1⟩
      have HA3 := Lib.hid (HA2.out w1 g1)
      clear HA1 HA2
      go_wp2_with fail
      refine HA3.out.mono ?_
      rintro e w2 ⟨rfl, g2⟩
      have b2 := g1.trans (g2.mono g1.size)
      go_wp2_with fail
      go_ret2
      exact .inl ⟨HB.out, rfl, b2⟩
    · rw [hb2] at HA2
      have HB : Hid ((allB (setsOf G) && allB (setsOf H)) = true) := Lib.hid (by rw [hb1, hb2]; rfl)
      have HgG := Lib.hid (fun (h : Hd) (hh : h ∈ G) => (allB_iff _).1 hb1 h.s (List.mem_map.2 ⟨h, hh, rfl⟩))
      have HgH := Lib.hid (fun (h : Hd) (hh : h ∈ H) => (allB_iff _).1 hb2 h.s (List.mem_map.2 ⟨h, hh, rfl⟩))
      clear hb1 hb2
      go_enter Try.func17, Try.ntmps17
      go_wp2_with fail
      refine HA1.out.mono ?_
      rintro e w1 ⟨rfl, g1⟩
      have HA3 := Lib.hid (HA2.out w1 g1)
      clear HA1 HA2
      go_wp2_with fail
      refine HA3.out.mono ?_
      rintro e w2 ⟨rfl, g2⟩
      have b2 := g1.trans (g2.mono g1.size)
      clear HA3 g1 g2
      go_wp2_with fail
      go_loopw [6, 21] (fun vo vi wr => WiRel (setsOf G) (setsOf H) m w vo vi wr) (fun _ i _ => m - (intOf i).toNat)
      case atStart => exact ⟨0, 0, none, 0, [], Nat.zero_le _, rfl, rfl, Nat.le_refl _, Lib.hid rfl, Lib.hid (OwnI.nil _ _), b2⟩
      case round =>
        clear b2
        obtain ⟨k, z, A2, c2, HH, hk, rfl, rfl, hz, HE, HO, hb⟩ := hrel
        have hsz := hb.size
        by_cases hlt : k < m
        · have kl : k < G.length := by rw [HG.out.1]; exact hlt
          obtain ⟨b, o, rfl, hbb, p0, q1, q2, q3⟩ := (HG.out.below hb).at kl
          have hm1 := HMG.out _ (List.getElem_mem kl)
          have HDr : Hid ((setsOf G).drop k = G[k].s :: (setsOf G).drop (k + 1)) := Lib.hid (by
            have kl' : k < (setsOf G).length := by rw [setsOf_len]; exact kl
            rw [List.drop_eq_getElem_cons kl']
            simp [setsOf])
          have HGp := Lib.hid (HgG.out _ (List.getElem_mem kl))
          generalize G[k] = x at *
          obtain ⟨xa, xn, xc, xs⟩ := x
          simp only [] at p0 hm1 q1 q2 q3 HDr HGp
          have HIn := Lib.hid (inside_n xs xn q1 xa xc H n A c wr q2 (q3.more hsz) (HN.out.below hb |>.more hsz) (by omega) HMH.out hm1 HGp.out HgH.out)
          clear q1 q2 q3
          have HE1 : Hid (witA (setsOf H) [] (setsOf G) = match insA xs [] 0 (setsOf H) with
            | some l => witA (setsOf H) (listsOf HH ++ [l]) ((setsOf G).drop (k + 1))
            | none => none) := Lib.hid (by rw [HE.out, HDr.out]; rfl)
          clear HE HDr
          go_wp2_with fail
          refine HIn.out.mono ?_
          rintro e w3 hO3
          cases hr : insA xs [] 0 (setsOf H) with
          | none =>
            rw [hr] at hO3 HE1
            obtain ⟨rfl, g3⟩ := hO3
            have HEN : Hid (witA (setsOf H) [] (setsOf G) = none) := Lib.hid HE1.out
            have b3 := hb.trans (g3.mono hsz)
            clear HE1 hr HIn
            go_wp2_with fail
            go_ret2
            refine .inr ⟨HB.out, ?_⟩
            rw [HEN.out]
            exact ⟨rfl, b3⟩
          | some l =>
            rw [hr] at hO3 HE1
            obtain ⟨A4, c4, n4, rfl, hl4, ho4, g3⟩ := hO3
            have HE2 : Hid (witA (setsOf H) [] (setsOf G) = witA (setsOf H) (listsOf HH ++ [l]) ((setsOf G).drop (k + 1))) := Lib.hid HE1.out
            have b3 := hb.trans (g3.mono hsz)
            have hs3 := b3.size
            have HO3 := Lib.hid (HO.out.on g3)
            have HX : Hid ((⟨A4, n4, c4, l⟩ : Hi).l.length = (⟨A4, n4, c4, l⟩ : Hi).n ∧ w3.ownsRow w.heap.size 3 1 (⟨A4, n4, c4, l⟩ : Hi).v (⟨A4, n4, c4, l⟩ : Hi).n (icells (⟨A4, n4, c4, l⟩ : Hi).l)) := Lib.hid ⟨hl4, own_base ho4 hsz⟩
            have hown3 := HO3.out.out
            clear HE1 hr HIn hl4 ho4 g3 HO hb
            go_wp2_with (at_builtin; refine wpList_append_lies _ rfl _ _ 36 rfl w.heap.size 45 i0 _ 1 24 Try.underlying36 hi0 hz0 hz1 hz2 rfl (by decide) _ _ _ rfl (hown3.alloc _) ⟨w3.heap.size, 0, none⟩ 1 1 [.slice A4 n4 c4] rfl rfl ?k1 ?k2 (by omega) ?k3 ?k4 ?k5 _ rfl ?_)
            case k1 => exact lit1 (by simp)
            case k2 => intro u hu; simp at hu; subst hu; rfl
            case k3 => unfold maxLen; omega
            case k4 => omega
            case k5 => simp; omega
            intro g5 cap5 w5 hown5 hgrow5 hat5 hlt5
            have HO5 : Hid (OwnI w5 w.heap.size (some ⟨g5, 0, none⟩) (z + 1) cap5 (HH ++ [⟨A4, n4, c4, l⟩])) := Lib.hid ((HO3.out.on (below_new w3 (.cells #[.slice A4 n4 c4] 45))).snoc ⟨HX.out.1, HX.out.2.alloc _⟩ hown5 hgrow5)
            have b5 : Below w.heap.size w w5 := below_grown (b3.alloc (by omega) _) (by simp; omega) (hown3.alloc _) hgrow5
            have HE5 : Hid (witA (setsOf H) [] (setsOf G) = witA (setsOf H) (listsOf (HH ++ [⟨A4, n4, c4, l⟩])) ((setsOf G).drop (k + 1))) := Lib.hid (by
              rw [HE2.out]
              have e : listsOf (HH ++ [⟨A4, n4, c4, l⟩]) = listsOf HH ++ [l] := by simp [listsOf]
              rw [e])
            clear hown5 hgrow5 hat5 HO3 HX hown3 HE2
            go_wp2_with fail
            go_roundw
            case rel => exact ⟨k + 1, z + 1, some ⟨g5, 0, none⟩, cap5, _, by omega, by go_num, rfl, by omega, HE5, HO5, b5⟩
            case measure => simp [intOf]; omega
        · have HD : Hid (witA (setsOf H) [] (setsOf G) = some (listsOf HH)) := Lib.hid (by
            rw [HE.out, List.drop_of_length_le (by rw [setsOf_len, HG.out.1]; omega)]
            rfl)
          go_wp2_with fail
          go_ret2
          refine .inr ⟨HB.out, ?_⟩
          rw [HD.out]
          exact ⟨A2, c2, z, HH, rfl, rfl, HO.out.nest, hb⟩
end Go.Proofs.Ythaageiflimnnaa
/- How many scalars a set has, by counting them one by one. -/
namespace Go.Proofs.Ythaageiflimnnaa
set_option linter.unusedVariables false

def b01 : Bool → Int
  | true => 1
  | false => 0
/-- How many numbers below N are such. -/
def cnt : Nat → (Int → Bool) → Int
  | 0, _ => 0
  | N + 1, p => cnt N p + b01 (p N)
theorem cnt_congr {p q : Int → Bool} : ∀ (N : Nat), (∀ v : Int, p v = q v) → cnt N p = cnt N q
  | 0, _ => rfl
  | N + 1, h => by rw [cnt, cnt, cnt_congr N h, h]
theorem cnt_or (p q : Int → Bool) : ∀ (N : Nat), cnt N (fun v => p v || q v) + cnt N (fun v => p v && q v) = cnt N p + cnt N q
  | 0 => rfl
  | N + 1 => by
    have h := cnt_or p q N
    simp only [cnt]
    show (cnt N (fun v => p v || q v) + b01 (p N || q N)) + (cnt N (fun v => p v && q v) + b01 (p N && q N)) = (cnt N p + b01 (p N)) + (cnt N q + b01 (q N))
    have e : b01 (p N || q N) + b01 (p N && q N) = b01 (p N) + b01 (q N) := by cases p N <;> cases q N <;> rfl
    omega
theorem cnt_none {p : Int → Bool} : ∀ (N : Nat), (∀ v : Int, p v = false) → cnt N p = 0
  | 0, _ => rfl
  | N + 1, h => by rw [cnt, cnt_none N h, h]; rfl
theorem belowN_succ (N : Nat) (h : N < 1114112) : belowN ((N + 1 : Nat) : Int) = belowN (N : Int) + b01 (isB (N : Int)) := by
  by_cases hB : isB (N : Int) = true
  · have hs := (isB_iff _).1 hB
    rw [hB]
    show _ = _ + 1
    unfold Sc at hs
    unfold belowN
    split <;> split <;> (try split) <;> (try split) <;> omega
  · have hB' : isB (N : Int) = false := by simpa using hB
    have hs := (isB_no _).1 hB'
    rw [hB']
    show _ = _ + 0
    unfold Sc at hs
    unfold belowN
    split <;> split <;> (try split) <;> (try split) <;> omega
theorem cnt_range (lo hi : Int) (h0 : 0 ≤ lo) (h1 : lo ≤ hi) (h2 : hi ≤ 1114111) : ∀ (N : Nat), N ≤ 1114112 →
    cnt N (fun v => isB v && (decide (lo ≤ v) && decide (v ≤ hi))) = belowN (min (N : Int) (hi + 1)) - belowN (min (N : Int) lo)
  | 0, _ => by
    rw [show min ((0 : Nat) : Int) (hi + 1) = 0 by omega, show min ((0 : Nat) : Int) lo = 0 by omega]; simp [cnt]
  | N + 1, hN => by
    have ih := cnt_range lo hi h0 h1 h2 N (by omega)
    have hb := belowN_succ N (by omega)
    simp only [cnt]
    rw [ih]
    by_cases c1 : (N : Int) < lo
    · have hd : (isB (N : Int) && (decide (lo ≤ (N : Int)) && decide ((N : Int) ≤ hi))) = false := by
        rw [decide_eq_false (show ¬ lo ≤ (N : Int) by omega), Bool.false_and, Bool.and_false]
      have e1 : min (N : Int) (hi + 1) = N := by omega
      have e2 : min (N : Int) lo = N := by omega
      have e3 : min ((N + 1 : Nat) : Int) (hi + 1) = ((N + 1 : Nat) : Int) := by omega
      have e4 : min ((N + 1 : Nat) : Int) lo = ((N + 1 : Nat) : Int) := by omega
      rw [hd, e1, e2, e3, e4]
      show _ + 0 = _
      generalize belowN (N : Int) = x
      generalize belowN ((N + 1 : Nat) : Int) = y
      omega
    · by_cases c2 : (N : Int) ≤ hi
      · have hd : (isB (N : Int) && (decide (lo ≤ (N : Int)) && decide ((N : Int) ≤ hi))) = isB (N : Int) := by
          rw [decide_eq_true (show lo ≤ (N : Int) by omega), decide_eq_true c2, Bool.true_and, Bool.and_true]
        have e1 : min (N : Int) (hi + 1) = N := by omega
        have e2 : min (N : Int) lo = lo := by omega
        have e3 : min ((N + 1 : Nat) : Int) (hi + 1) = ((N + 1 : Nat) : Int) := by omega
        have e4 : min ((N + 1 : Nat) : Int) lo = lo := by omega
        rw [hd, e1, e2, e3, e4, hb]
        generalize belowN (N : Int) = x
        generalize b01 (isB (N : Int)) = y
        omega
      · have hd : (isB (N : Int) && (decide (lo ≤ (N : Int)) && decide ((N : Int) ≤ hi))) = false := by
          rw [decide_eq_false c2, Bool.and_false, Bool.and_false]
        have e1 : min (N : Int) (hi + 1) = hi + 1 := by omega
        have e2 : min (N : Int) lo = lo := by omega
        have e3 : min ((N + 1 : Nat) : Int) (hi + 1) = hi + 1 := by omega
        have e4 : min ((N + 1 : Nat) : Int) lo = lo := by omega
        rw [hd, e1, e2, e3, e4]
        show _ + 0 = _
        omega
theorem cnt_one {N : Nat} (hN : N = 1114112) {r : Rg} (h : Ok r) : cnt N (fun v => isB v && (decide (r.1 ≤ v) && decide (v ≤ r.2))) = countN r.1 r.2 := by
  obtain ⟨s1, s2, h3⟩ := h
  unfold Sc at s1 s2
  rw [cnt_range r.1 r.2 (by omega) h3 (by omega) N (by omega)]
  unfold countN
  rw [if_neg (by omega), show min (N : Int) (r.2 + 1) = min r.2 1114111 + 1 by omega, show min (N : Int) r.1 = max r.1 0 by omega]
/-- A good row's size is how many scalars are in it. -/
theorem size_cnt {N : Nat} (hN : N = 1114112) : ∀ (s : List Rg) (m : Int), Gd m s → sizeL s = cnt N (fun v => isB v && inB s v)
  | [], m, _ => by
    rw [cnt_none N (fun v => by simp [inB])]; rfl
  | r :: s, m, h => by
    obtain ⟨_, ho, hg⟩ := h
    have ih := size_cnt hN s _ hg
    have h1 := cnt_or (fun v => isB v && (decide (r.1 ≤ v) && decide (v ≤ r.2))) (fun v => isB v && inB s v) N
    have h2 : cnt N (fun v => (isB v && (decide (r.1 ≤ v) && decide (v ≤ r.2))) && (isB v && inB s v)) = 0 := cnt_none N (fun v => by
      cases hi : inB s v
      · simp
      · have := hg.in_gt ((inB_iff s v).1 hi)
        have := nx_gt r.2
        rw [decide_eq_false (show ¬ v ≤ r.2 by omega)]
        simp)
    have h3 : cnt N (fun v => isB v && inB (r :: s) v) = cnt N (fun v => (isB v && (decide (r.1 ≤ v) && decide (v ≤ r.2))) || (isB v && inB s v)) := cnt_congr N (fun v => by
      show (isB v && ((decide (r.1 ≤ v) && decide (v ≤ r.2)) || inB s v)) = _
      rw [Bool.and_or_distrib_left])
    rw [sizeL, ih, h3]
    have h4 := cnt_one hN ho
    omega
theorem inB_set {s : List Rg} {p : Int → Prop} {f : Int → Bool} (h : IsSet s p) (hf : ∀ v, f v = true ↔ p v) (v : Int) : (isB v && inB s v) = (isB v && f v) := by
  cases hv : isB v
  · rfl
  · simp only [Bool.true_and]
    have h2 := h.2 v ((isB_iff v).1 hv)
    cases hq : f v
    · cases hq2 : inB s v
      · rfl
      · have := (hf v).2 (h2.1 ((inB_iff _ _).1 hq2)); rw [hq] at this; cases this
    · exact (inB_iff s v).2 (h2.2 ((hf v).1 hq))
/-- Of a union and what is in both. -/
theorem size_both {a b d e : List Rg} (ha : Gd (-1) a) (hb : Gd (-1) b) (hd : IsSet d (In (a ++ b))) (he : IsSet e (fun v => In a v ∧ In b v)) : sizeL d + sizeL e = sizeL a + sizeL b := by
  obtain ⟨N, hN⟩ : ∃ N : Nat, N = 1114112 := ⟨_, rfl⟩
  rw [size_cnt hN d _ hd.1, size_cnt hN e _ he.1, size_cnt hN a _ ha, size_cnt hN b _ hb]
  have h := cnt_or (fun v => isB v && inB a v) (fun v => isB v && inB b v) N
  have h1 : cnt N (fun v => isB v && inB d v) = cnt N (fun v => (isB v && inB a v) || (isB v && inB b v)) := cnt_congr N (fun v => (inB_set (f := fun v => inB a v || inB b v) hd (fun v => by rw [In_app, Bool.or_eq_true, inB_iff, inB_iff]) v).trans (Bool.and_or_distrib_left _ _ _))
  have h2 : cnt N (fun v => isB v && inB e v) = cnt N (fun v => (isB v && inB a v) && (isB v && inB b v)) := cnt_congr N (fun v => (inB_set (f := fun v => inB a v && inB b v) he (fun v => by rw [Bool.and_eq_true, inB_iff, inB_iff]) v).trans (show (isB v && (inB a v && inB b v)) = ((isB v && inB a v) && (isB v && inB b v)) by cases isB v <;> simp))
  rw [h1, h2]
  exact h
/-- Of a set and all other scalars. -/
theorem size_not {a f : List Rg} (ha : Gd (-1) a) (hf : IsSet f (fun v => ¬ In a v)) : sizeL f + sizeL a = 1112064 := by
  obtain ⟨N, hN⟩ : ∃ N : Nat, N = 1114112 := ⟨_, rfl⟩
  rw [size_cnt hN f _ hf.1, size_cnt hN a _ ha]
  have h1 := cnt_or (fun v => isB v && inB f v) (fun v => isB v && inB a v) N
  have hb := inB_set (f := fun v => !inB a v) hf (fun v => by rw [Bool.not_eq_true', ← Bool.not_eq_true, inB_iff])
  have h2 : cnt N (fun v => (isB v && inB f v) && (isB v && inB a v)) = 0 := cnt_none N (fun v => by
    rw [hb v]; cases isB v <;> cases inB a v <;> rfl)
  have h3 : cnt N (fun v => (isB v && inB f v) || (isB v && inB a v)) = cnt N (fun v => isB v && (decide (0 ≤ v) && decide (v ≤ 1114111))) := cnt_congr N (fun v => by
    rw [hb v]
    cases hB : isB v
    · rfl
    · have := (isB_iff v).1 hB
      unfold Sc at this
      rw [decide_eq_true (show 0 ≤ v by omega), decide_eq_true (show v ≤ 1114111 by omega)]
      cases inB a v <;> rfl)
  have h4 := cnt_range 0 1114111 (by omega) (by omega) (by omega) N (by omega)
  rw [show min (N : Int) (1114111 + 1) = 1114112 by omega, show min (N : Int) 0 = 0 by omega] at h4
  have h5 : belowN 1114112 - belowN 0 = 1112064 := by decide
  omega
end Go.Proofs.Ythaageiflimnnaa
/- Parts: how many there can be; that each scalar is in one; how many scalars they have; of which sets they are. -/
namespace Go.Proofs.Ythaageiflimnnaa
set_option linter.unusedSimpArgs false
set_option linter.unusedVariables false

def bl : Nat → List (List Bool)
  | 0 => [[]]
  | n + 1 => (bl n).map (true :: ·) ++ (bl n).map (false :: ·)
theorem bl_len : ∀ n, (bl n).length = 2 ^ n
  | 0 => rfl
  | n + 1 => by
    unfold bl
    rw [List.length_append, List.length_map, List.length_map, bl_len n, Nat.pow_succ]
    omega
theorem bl_mem : ∀ (n : Nat) (l : List Bool), l.length = n → l ∈ bl n
  | 0, l, h => by rw [List.eq_nil_of_length_eq_zero h]; simp [bl]
  | n + 1, [], h => by simp at h
  | n + 1, x :: l, h => by
    have h1 := bl_mem n l (by simpa using h)
    unfold bl
    rw [List.mem_append]
    cases x
    · exact .inr (List.mem_map.2 ⟨l, h1, rfl⟩)
    · exact .inl (List.mem_map.2 ⟨l, h1, rfl⟩)
/-- Of few sets there are not many parts. -/
theorem not_many {L : List (List Rg)} (h : L.length ≤ 8) : ¬ Many (Ek L) := by
  rintro ⟨vs, h1, _, h3⟩
  have hn : (vs.map (sg L)).Nodup := by
    rw [List.nodup_iff_pairwise_ne, List.pairwise_map]
    exact h3.imp fun h e => h e
  have hs : vs.map (sg L) ⊆ bl L.length := by
    intro x hx
    obtain ⟨v, _, rfl⟩ := List.mem_map.1 hx
    exact bl_mem _ _ (by simp [sg])
  have h4 := hn.length_le_of_subset hs
  rw [List.length_map, bl_len] at h4
  have h5 : 2 ^ L.length ≤ 2 ^ 8 := Nat.pow_le_pow_right (by omega) h
  omega
theorem Many.conv {E E' : Int → Int → Prop} (hE : ∀ u v, Sc u → Sc v → (E u v ↔ E' u v)) (h : Many E) : Many E' := by
  obtain ⟨vs, h1, h2, h3⟩ := h
  exact ⟨vs, h1, h2, h3.imp_of_mem fun {a b} ha hb hab he => hab ((hE a b (h2 a ha) (h2 b hb)).2 he)⟩
theorem ek_iff (L : List (List Rg)) (u v : Int) : Ek L u v ↔ ∀ s ∈ L, inB s u = inB s v := by
  unfold Ek sg
  rw [List.map_inj_left]
theorem ek_app (L M : List (List Rg)) (u v : Int) : Ek (L ++ M) u v ↔ Ek L u v ∧ Ek M u v := by
  rw [ek_iff, ek_iff, ek_iff]
  constructor
  · intro h
    exact ⟨fun s hs => h s (List.mem_append.2 (.inl hs)), fun s hs => h s (List.mem_append.2 (.inr hs))⟩
  · rintro ⟨h1, h2⟩ s hs
    rcases List.mem_append.1 hs with hs | hs
    · exact h1 s hs
    · exact h2 s hs
theorem ek_dup (L : List (List Rg)) (u v : Int) : Ek (L ++ L) u v ↔ Ek L u v := by
  rw [ek_app]; exact ⟨fun h => h.1, fun h => ⟨h, h⟩⟩

theorem getD_eq {P : List (List Rg)} {c : Nat} (h : c < P.length) : P.getD c [] = P[c] := by
  rw [List.getD_eq_getElem?_getD, List.getElem?_eq_getElem h]; rfl
theorem parts_nodup {E : Int → Int → Prop} {P : List (List Rg)} (h : Parts E P) : P.Nodup := by
  rw [List.nodup_iff_pairwise_ne]
  exact h.inc.imp fun h e => by subst e; omega
/-- Two parts that have a scalar are one. -/
theorem parts_one {E : Int → Int → Prop} {P : List (List Rg)} (h : Parts E P) {p q : List Rg} (hp : p ∈ P) (hq : q ∈ P) {v : Int} (hv : Sc v) (h1 : In p v) (h2 : In q v) : p = q :=
  uniq p q _ _ (h.gd p hp) (h.gd q hq) fun u hu => by rw [h.cl p hp v u hv hu h1, h.cl q hq v u hv hu h2]
theorem parts_once {E : Int → Int → Prop} {P : List (List Rg)} (h : Parts E P) : ∀ v, Sc v → Once P v := by
  intro v hv
  obtain ⟨p, hp, hi⟩ := h.cov v hv
  obtain ⟨c, hc, rfl⟩ := List.getElem_of_mem hp
  refine ⟨c, hc, by rw [getD_eq hc]; exact hi, ?_⟩
  intro d hd hi'
  rw [getD_eq hd] at hi'
  have e := parts_one h (List.getElem_mem hd) (List.getElem_mem hc) hv hi' hi
  exact (List.getElem_inj (parts_nodup h)).1 e
/-- Two scalars are of one part just if they are alike. -/
theorem parts_same {E : Int → Int → Prop} {P : List (List Rg)} (h : Parts E P) {u v : Int} (hu : Sc u) (hv : Sc v) {c d : Nat} (hc : c < P.length) (hd : d < P.length) (h1 : In (P.getD c []) u) (h2 : In (P.getD d []) v) : c = d ↔ E v u := by
  constructor
  · intro e
    subst e
    exact (h.cl _ (getD_mem hc) u v hu hv h1).1 h2
  · intro e
    have h3 := (h.cl _ (getD_mem hc) u v hu hv h1).2 e
    obtain ⟨x, _, _, hx⟩ := parts_once h v hv
    rw [hx c hc h3, hx d hd h2]
/-- All parts' scalars are all scalars. -/
def sumS (P : List (List Rg)) : Int := (P.map sizeL).sum
theorem sum_cnt {N : Nat} (hN : N = 1114112) {E : Int → Int → Prop} : ∀ (P : List (List Rg)), (∀ p ∈ P, Gd (-1) p) → P.Pairwise (fun p q => ∀ v, Sc v → ¬ (In p v ∧ In q v)) → sumS P = cnt N (fun v => isB v && P.any (fun p => inB p v))
  | [], _, _ => by
    rw [cnt_none N (fun v => by simp)]; rfl
  | p :: P, hg, hd => by
    rw [List.pairwise_cons] at hd
    have ih := sum_cnt hN (E := E) P (fun q hq => hg q (List.mem_cons_of_mem _ hq)) hd.2
    have h1 := cnt_or (fun v => isB v && inB p v) (fun v => isB v && P.any (fun p => inB p v)) N
    have h2 : cnt N (fun v => (isB v && inB p v) && (isB v && P.any (fun p => inB p v))) = 0 := cnt_none N (fun v => by
      cases hb : isB v
      · rfl
      · cases hp : inB p v
        · rfl
        · cases ha : P.any (fun p => inB p v)
          · rfl
          · obtain ⟨q, hq, hi⟩ := List.any_eq_true.1 ha
            exact absurd ⟨(inB_iff _ _).1 hp, (inB_iff _ _).1 hi⟩ (hd.1 q hq v ((isB_iff v).1 hb)))
    have h3 : cnt N (fun v => isB v && (p :: P).any (fun p => inB p v)) = cnt N (fun v => (isB v && inB p v) || (isB v && P.any (fun p => inB p v))) := cnt_congr N (fun v => by
      rw [List.any_cons, Bool.and_or_distrib_left])
    have h4 := size_cnt hN p _ (hg p (List.mem_cons_self ..))
    have e : sumS (p :: P) = sizeL p + sumS P := by simp [sumS]
    rw [e, h3]
    omega
theorem parts_sum {E : Int → Int → Prop} {P : List (List Rg)} (h : Parts E P) : sumS P = 1112064 := by
  obtain ⟨N, hN⟩ : ∃ N : Nat, N = 1114112 := ⟨_, rfl⟩
  rw [sum_cnt hN (E := E) P h.gd ?_]
  · have h3 : cnt N (fun v => isB v && P.any (fun p => inB p v)) = cnt N (fun v => isB v && (decide (0 ≤ v) && decide (v ≤ 1114111))) := cnt_congr N (fun v => by
      cases hB : isB v
      · rfl
      · have hs := (isB_iff v).1 hB
        obtain ⟨p, hp, hi⟩ := h.cov v hs
        have : P.any (fun p => inB p v) = true := List.any_eq_true.2 ⟨p, hp, (inB_iff _ _).2 hi⟩
        unfold Sc at hs
        rw [this, decide_eq_true (show 0 ≤ v by omega), decide_eq_true (show v ≤ 1114111 by omega)]
        rfl)
    rw [h3]
    have h4 := cnt_range 0 1114111 (by omega) (by omega) (by omega) N (by omega)
    rw [show min (N : Int) (1114111 + 1) = 1114112 by omega, show min (N : Int) 0 = 0 by omega] at h4
    have h5 : belowN 1114112 - belowN 0 = 1112064 := by decide
    omega
  · rw [List.pairwise_iff_getElem]
    intro i j hi hj hij v hv ⟨h1, h2⟩
    have e := (List.getElem_inj (parts_nodup h)).1 (parts_one h (List.getElem_mem hi) (List.getElem_mem hj) hv h1 h2)
    omega
/-- A part is in a set, or without. -/
theorem part_in {L P : List (List Rg)} (h : Parts (Ek L) P) {p s : List Rg} (hp : p ∈ P) (hs : s ∈ L) : Sub p s ∨ Dis p s := by
  obtain ⟨h1, h2⟩ := fst1_in (h.gd p hp) (h.ne p hp)
  have key : ∀ v, Sc v → In p v → inB s v = inB s (fst1 p) := fun v hv hi => (ek_iff L v (fst1 p)).1 ((h.cl p hp _ v h1 hv h2).1 hi) s hs
  cases hb : inB s (fst1 p)
  · refine .inr fun v hv hi hi' => ?_
    have := key v hv hi
    rw [hb, (inB_iff s v).2 hi'] at this
    cases this
  · refine .inl fun v hv hi => ?_
    have := key v hv hi
    rw [hb] at this
    exact (inB_iff s v).1 this
theorem insA_some {s : List Rg} : ∀ (P : List (List Rg)) (acc : List Int) (i : Nat), (∀ p ∈ P, Sub p s ∨ Dis p s) → ∃ l, insA s acc i P = some l
  | [], acc, i, _ => ⟨acc, rfl⟩
  | p :: P, acc, i, h => by
    by_cases h1 : Sub p s
    · rw [insA_sub h1]
      exact insA_some P _ _ fun q hq => h q (List.mem_cons_of_mem _ hq)
    · rw [insA_dis h1 ((h p (List.mem_cons_self ..)).resolve_left h1)]
      exact insA_some P _ _ fun q hq => h q (List.mem_cons_of_mem _ hq)
theorem witA_some {P : List (List Rg)} : ∀ (L : List (List Rg)) (acc : List (List Int)), (∀ s ∈ L, ∀ p ∈ P, Sub p s ∨ Dis p s) → ∃ r, witA P acc L = some r ∧ r.length = acc.length + L.length
  | [], acc, _ => ⟨acc, rfl, by simp⟩
  | s :: L, acc, h => by
    obtain ⟨l, hl⟩ := insA_some P [] 0 (h s (List.mem_cons_self ..))
    obtain ⟨r, h1, h2⟩ := witA_some L (acc ++ [l]) fun s hs => h s (List.mem_cons_of_mem _ hs)
    refine ⟨r, ?_, ?_⟩
    · unfold witA
      rw [hl]
      exact h1
    · rw [h2]; simp; omega
theorem parts_within {L P : List (List Rg)} (h : Parts (Ek L) P) : ∃ r, witA P [] L = some r ∧ r.length = L.length := by
  obtain ⟨r, h1, h2⟩ := witA_some (P := P) L [] (fun s hs p hp => part_in h hp hs)
  exact ⟨r, h1, by simpa using h2⟩

/-- One set's parts. -/
def lAll : List Rg := [(0, 1114111)]
theorem gdAll : Gd (-1) lAll := (goodB_iff _).1 (by decide)
theorem in_all {v : Int} (hv : Sc v) : In lAll v := by
  unfold Sc at hv
  simp only [lAll, In_one]
  omega
theorem parts_all {E : Int → Int → Prop} (h : ∀ u v, Sc u → Sc v → E u v) : Parts E [lAll] where
  gd := fun p hp => by rw [List.mem_singleton] at hp; subst hp; exact gdAll
  ne := fun p hp => by rw [List.mem_singleton] at hp; subst hp; simp [lAll]
  cl := fun p hp u v hu hv _ => by
    rw [List.mem_singleton] at hp; subst hp
    exact ⟨fun _ => h v u hv hu, fun _ => in_all hv⟩
  cov := fun v hv => ⟨lAll, by simp, in_all hv⟩
  inc := by simp
theorem ek_one (s : List Rg) (u v : Int) : Ek [s] u v ↔ inB s u = inB s v := by rw [ek_iff]; simp
theorem parts_two {E : Int → Int → Prop} {s t : List Rg} (gs : Gd (-1) s) (ht : IsSet t (fun v => ¬ In s v)) (hs : s ≠ []) (hn : t ≠ []) (hE : ∀ u v, Sc u → Sc v → (E u v ↔ inB s u = inB s v)) {a b : List Rg} (hab : a = s ∧ b = t ∨ a = t ∧ b = s) (hlt : fst1 a < fst1 b) : Parts E [a, b] := by
  have hin : ∀ v, inB s v = true ↔ In s v := inB_iff s
  have ks : ∀ u v, Sc u → Sc v → In s u → (In s v ↔ E v u) := by
    intro u v hu hv hi
    rw [hE v u hv hu, (hin u).2 hi]
    exact ((hin v).symm)
  have kt : ∀ u v, Sc u → Sc v → In t u → (In t v ↔ E v u) := by
    intro u v hu hv hi
    have h1 := (ht.2 u hu).1 hi
    rw [ht.2 v hv, hE v u hv hu]
    have h2 : inB s u = false := by
      cases hb : inB s u
      · rfl
      · exact absurd ((hin u).1 hb) h1
    rw [h2]
    constructor
    · intro h
      cases hb : inB s v
      · rfl
      · exact absurd ((hin v).1 hb) h
    · intro h h'
      rw [(hin v).2 h'] at h
      cases h
  have cov : ∀ v, Sc v → In s v ∨ In t v := by
    intro v hv
    by_cases h : In s v
    · exact .inl h
    · exact .inr ((ht.2 v hv).2 h)
  rcases hab with ⟨rfl, rfl⟩ | ⟨rfl, rfl⟩
  · refine ⟨?_, ?_, ?_, ?_, by simpa using hlt⟩
    · intro p hp
      simp at hp
      rcases hp with rfl | rfl
      · exact gs
      · exact ht.1
    · intro p hp
      simp at hp
      rcases hp with rfl | rfl
      · exact hs
      · exact hn
    · intro p hp
      simp at hp
      rcases hp with rfl | rfl
      · exact ks
      · exact kt
    · intro v hv
      rcases cov v hv with h | h
      · exact ⟨_, by simp, h⟩
      · exact ⟨_, List.mem_cons_of_mem _ (List.mem_singleton.2 rfl), h⟩
  · refine ⟨?_, ?_, ?_, ?_, by simpa using hlt⟩
    · intro p hp
      simp at hp
      rcases hp with rfl | rfl
      · exact ht.1
      · exact gs
    · intro p hp
      simp at hp
      rcases hp with rfl | rfl
      · exact hn
      · exact hs
    · intro p hp
      simp at hp
      rcases hp with rfl | rfl
      · exact kt
      · exact ks
    · intro v hv
      rcases cov v hv with h | h
      · exact ⟨_, List.mem_cons_of_mem _ (List.mem_singleton.2 rfl), h⟩
      · exact ⟨_, by simp, h⟩
theorem not_nil {s t : List Rg} (gs : Gd (-1) s) (ht : IsSet t (fun v => ¬ In s v)) (h : s = [] ∨ t = []) : ∀ u v, Sc u → Sc v → inB s u = inB s v := by
  rcases h with rfl | rfl
  · intro u v _ _; rfl
  · have : ∀ v, Sc v → inB s v = true := fun v hv => by
      rw [inB_iff]
      by_cases hi : In s v
      · exact hi
      · exact absurd ((ht.2 v hv).2 hi) (In_nil v)
    intro u v hu hv
    rw [this u hu, this v hv]
theorem ins_two {s t a b : List Rg} (gs : Gd (-1) s) (ht : IsSet t (fun v => ¬ In s v)) (hs : s ≠ []) (hn : t ≠ []) (hab : a = s ∧ b = t ∨ a = t ∧ b = s) : ∃ x, insA s [] 0 [a, b] = some [x] := by
  have h1 : Sub s s := fun v _ h => h
  have h2 : Dis t s := fun v hv h => (ht.2 v hv).1 h
  have h3 : ¬ Sub t s := by
    intro h
    obtain ⟨k1, k2⟩ := fst1_in ht.1 hn
    exact h2 _ k1 k2 (h _ k1 k2)
  rcases hab with ⟨rfl, rfl⟩ | ⟨rfl, rfl⟩
  · rw [insA_sub h1, insA_dis h3 h2]; exact ⟨_, rfl⟩
  · rw [insA_dis h3 h2, insA_sub h1]; exact ⟨_, rfl⟩
end Go.Proofs.Ythaageiflimnnaa
