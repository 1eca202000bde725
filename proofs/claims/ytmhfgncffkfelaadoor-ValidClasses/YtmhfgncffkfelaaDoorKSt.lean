/- Joined: StoK2 VMath3 VMath4 StatesK. -/
import Derived.Test.YtmhfgncffkfelaaDoorKFr
import Derived.Test.YtmhfgncffkfelaaDoorKVal
/- A table of the call's own: an entry of Next, a band's class, two rows of Next written. -/
namespace Go.Proofs.YtmhfgncffkfelaaDoor
open Go.RowKit Go.BigFrame
set_option linter.unusedVariables false
set_option maxRecDepth 4000
set_option linter.unusedSimpArgs false

/-- A row with one entry turned. -/
def Hi.put (h : Hi) (c : Nat) (x : Int) : Hi := { h with l := h.l.set c x }
theorem Hi.put_v (h : Hi) (c : Nat) (x : Int) : (h.put c x).v = h.v := rfl
theorem Apt.put {H : List Hi} (h : Apt H) {s : Nat} (hs : s < H.length) (c : Nat) (x : Int) : Apt (H.set s (H[s].put c x)) := by
  unfold Apt at h ⊢
  rw [List.pairwise_iff_getElem] at h ⊢
  have e : ∀ i (hi : i < H.length), ((H.set s (H[s].put c x))[i]'(by rw [List.length_set]; exact hi)).v = H[i].v := by
    intro i hi
    rw [List.getElem_set]
    by_cases q : s = i
    · subst q; rw [if_pos rfl]; rfl
    · rw [if_neg q]
  intro i j hi hj hij g hg hg'
  rw [List.length_set] at hi hj
  rw [e i hi] at hg
  rw [e j hj] at hg'
  exact h i j hi hj hij g hg hg'
theorem Apt.ne {H : List Hi} (h : Apt H) {i j : Nat} (hi : i < H.length) (hj : j < H.length) (hij : i ≠ j) {g : Nat} (hg : H[i].v.ownBlock = some g) : H[j].v.ownBlock ≠ some g := by
  unfold Apt at h
  rw [List.pairwise_iff_getElem] at h
  intro hg'
  rcases Nat.lt_or_ge i j with q | q
  · exact h i j hi hj q g hg hg'
  · exact h j i hj hi (by omega) g hg' hg
/-- An entry of Next is written. -/
theorem OwnTb.ent {w : World} {base : Nat} {T : TV} (h : OwnTb w base T) {s c : Nat} (hs : s < T.hs.length) (hc : c < T.hs[s].n) : ∃ g, T.hs[s].a = some ⟨g, 0, none⟩ ∧ base ≤ g ∧ g < w.heap.size ∧ w.frozen? ⟨g, c, none⟩ = false ∧ (∀ (hl : c < T.hs[s].l.length), w.cell? ⟨g, c, none⟩ = some (.int .i64 T.hs[s].l[c])) ∧
    ∀ x, OwnTb (w.setCell ⟨g, c, none⟩ (.int .i64 x)) base { T with hs := T.hs.set s (T.hs[s].put c x) } := by
  obtain ⟨hln, ho⟩ := h.z2.inn _ (List.getElem_mem hs)
  obtain ⟨g, cap, hv, hb, hlt⟩ := ho.form (by omega)
  have hA : T.hs[s].a = some ⟨g, 0, none⟩ := by unfold Hi.v at hv; injection hv
  have ho' : w.ownsRow base 3 1 (.slice (some ⟨g, 0, none⟩) T.hs[s].n T.hs[s].c) T.hs[s].n (icells T.hs[s].l) := by
    have := ho
    unfold Hi.v at this
    rw [hA] at this
    exact this
  have hob : T.hs[s].v.ownBlock = some g := by unfold Hi.v; rw [hA]; rfl
  refine ⟨g, hA, hb, hlt, ho'.frozenAt c, fun hl => ?_, fun x => ?_⟩
  · rw [ho'.cellAt c (by omega)]
    unfold icells
    rw [List.getElem?_map, List.getElem?_eq_getElem hl]; rfl
  · have hst := (ho'.stored c (.int .i64 x)).1
    rw [icells_set] at hst
    refine ⟨h.z1.other (fun g' _ _ o hg => ?_) _, ⟨by simp only [List.length_set]; exact h.z2.len, ?_, fun y hy => ?_⟩, h.z3.other (fun g' _ _ o hg => ?_) _, h.ap.put hs c x⟩
    · intro e
      exact own_apart (by decide) o ho' (g := g) rfl (by rw [hg, e])
    · have e : icellsOf (T.hs.set s (T.hs[s].put c x)) = icellsOf T.hs := by
        rw [icellsOf_set, Hi.put_v]
        unfold icellsOf
        apply List.ext_getElem?
        intro i
        rw [List.getElem?_set]
        by_cases q : s = i
        · subst q
          rw [if_pos rfl, if_pos (by simpa using hs), List.getElem?_map, List.getElem?_eq_getElem hs]; rfl
        · rw [if_neg q]
      simp only []
      rw [e]
      exact ownsRow_setCell_other (a := ⟨g, c, none⟩) h.z2.out (own_apart (g := g) (by decide) h.z2.out ho' rfl) _
    · obtain ⟨i, hi, rfl⟩ := List.getElem_of_mem hy
      simp only [List.length_set] at hi
      rw [List.getElem_set]
      by_cases q : s = i
      · subst q
        rw [if_pos rfl]
        refine ⟨by unfold Hi.put; simp only [List.length_set]; exact hln, ?_⟩
        unfold Hi.put Hi.v
        simp only []
        rw [hA]
        exact hst
      · rw [if_neg q]
        obtain ⟨h1, h2⟩ := h.z2.inn _ (List.getElem_mem hi)
        exact ⟨h1, ownsRow_setCell_other (a := ⟨g, c, none⟩) h2 (h.ap.ne hs hi q hob) _⟩
    · intro e
      exact own_apart (by decide) o ho' (g := g) rfl (by rw [hg, e])
theorem rcells_set2 (l : List Rg) : ∀ (k : Nat) (x : Int) (h : k < l.length), (rcells l).set (k * 2 + 1) (.int .i64 x) = rcells (l.set k (l[k].1, x)) := by
  induction l with
  | nil => intro k x h; simp at h
  | cons p l ih =>
    intro k x h
    have e : rcells (p :: l) = .int .i64 p.1 :: .int .i64 p.2 :: rcells l := by simp [rcells, rcell]
    rw [e]
    match k, h with
    | 0, h => simp [rcells, rcell]
    | k + 1, h =>
      have := ih k x (by simpa using h)
      rw [show (k + 1) * 2 + 1 = (k * 2 + 1) + 1 + 1 by omega, List.set_cons_succ, List.set_cons_succ, this]
      simp [rcells, rcell]
/-- A band's class is written. -/
theorem OwnTb.bnd {w : World} {base : Nat} {T : TV} (h : OwnTb w base T) {k : Nat} (hk : k < T.bd.length) : ∃ g, T.a1 = some ⟨g, 0, none⟩ ∧ base ≤ g ∧ g < w.heap.size ∧ w.frozen? ⟨g, k * 2 + 1, none⟩ = false ∧ w.cell? ⟨g, k * 2 + 1, none⟩ = some (.int .i64 T.bd[k].2) ∧
    ∀ x, OwnTb (w.setCell ⟨g, k * 2 + 1, none⟩ (.int .i64 x)) base { T with bd := T.bd.set k (T.bd[k].1, x) } := by
  have hL := h.z1.rd.1
  obtain ⟨g, hA, hb, hlt, ho⟩ := h.z1.open_ (by omega)
  refine ⟨g, hA, hb, hlt, ho.frozenAt _, ?_, fun x => ?_⟩
  · rw [ho.cellAt _ (by omega), (rcells_at T.bd k hk).2]
  · have hst := (ho.stored (k * 2 + 1) (.int .i64 x)).1
    rw [rcells_set2 T.bd k x hk] at hst
    refine ⟨⟨h.z1.1, .inr (by simp only []; rw [hA]; exact hst)⟩, h.z2.other ?_ (fun y hy => ?_) _, h.z3.other (fun g' _ _ o hg => ?_) _, h.ap⟩
    · exact own_apart (by decide) h.z2.out ho rfl
    · exact own_apart (by decide) (h.z2.inn y hy).2 ho rfl
    · intro e
      exact own_apart (by decide) o ho (g := g) rfl (by rw [hg, e])
/-- Two rows change their places. -/
def swapH (H : List Hi) (a b : Nat) (ha : a < H.length) (hb : b < H.length) : List Hi := (H.set a H[b]).set b H[a]
theorem swapH_len (H : List Hi) (a b : Nat) (ha : a < H.length) (hb : b < H.length) : (swapH H a b ha hb).length = H.length := by simp [swapH]
theorem swapH_at (H : List Hi) (a b : Nat) (ha : a < H.length) (hb : b < H.length) (i : Nat) (hi : i < H.length) : ∃ k, ∃ hk : k < H.length, (k = if i = b then a else if i = a then b else i) ∧ (swapH H a b ha hb)[i]'(by rw [swapH_len]; exact hi) = H[k] := by
  by_cases h1 : i = b
  · subst h1
    exact ⟨a, ha, by simp, by simp [swapH]⟩
  · by_cases h2 : i = a
    · subst h2
      refine ⟨b, hb, by simp [h1], ?_⟩
      simp only [swapH]
      rw [List.getElem_set_ne (fun e => h1 e.symm), List.getElem_set_self]
    · refine ⟨i, hi, by simp [h1, h2], ?_⟩
      simp only [swapH]
      rw [List.getElem_set_ne (fun e => h1 e.symm), List.getElem_set_ne (fun e => h2 e.symm)]
theorem Apt.swap {H : List Hi} (h : Apt H) {a b : Nat} (ha : a < H.length) (hb : b < H.length) : Apt (swapH H a b ha hb) := by
  unfold Apt
  rw [List.pairwise_iff_getElem]
  intro i j hi hj hij g hg hg'
  rw [swapH_len] at hi hj
  obtain ⟨k, hk, ek, e1⟩ := swapH_at H a b ha hb i hi
  obtain ⟨m, hm, em, e2⟩ := swapH_at H a b ha hb j hj
  rw [e1] at hg
  rw [e2] at hg'
  refine h.ne hk hm ?_ hg hg'
  rw [ek, em]
  split <;> split <;> (try split) <;> (try split) <;> omega
theorem OwnTb.swap {w : World} {base : Nat} {T : TV} (h : OwnTb w base T) {a b : Nat} (ha : a < T.hs.length) (hb : b < T.hs.length) : ∃ g, T.a2 = some ⟨g, 0, none⟩ ∧ base ≤ g ∧ g < w.heap.size ∧ (∀ k, w.frozen? ⟨g, k, none⟩ = false) ∧ w.cell? ⟨g, a, none⟩ = some T.hs[a].v ∧ w.cell? ⟨g, b, none⟩ = some T.hs[b].v ∧
    OwnTb ((w.setCell ⟨g, a, none⟩ T.hs[b].v).setCell ⟨g, b, none⟩ T.hs[a].v) base { T with hs := swapH T.hs a b ha hb } := by
  have hL := h.z2.len
  obtain ⟨g, cap, hv, hbg, hlt⟩ := h.z2.out.form (by omega)
  have hA : T.a2 = some ⟨g, 0, none⟩ := by injection hv
  have ho := h.z2.out
  rw [hA] at ho
  have cl : ∀ k (hk : k < T.hs.length), w.cell? ⟨g, k, none⟩ = some T.hs[k].v := fun k hk => by
    rw [ho.cellAt k (by omega)]
    unfold icellsOf
    rw [List.getElem?_map, List.getElem?_eq_getElem hk]; rfl
  refine ⟨g, hA, hbg, hlt, fun k => ho.frozenAt k, cl a ha, cl b hb, ?_⟩
  have s1 := (ho.stored a T.hs[b].v).1
  have s2 := (s1.stored b T.hs[a].v).1
  rw [← icellsOf_set, ← icellsOf_set] at s2
  have oth : ∀ {e : TypeId} {size n0 : Nat} {v : Value} {xs : List Value}, e ≠ 51 → w.ownsRow base e size v n0 xs → ((w.setCell ⟨g, a, none⟩ T.hs[b].v).setCell ⟨g, b, none⟩ T.hs[a].v).ownsRow base e size v n0 xs := fun hne o => by
    have n1 := own_apart (g := g) hne o ho rfl
    exact ownsRow_setCell_other (a := ⟨g, b, none⟩) (ownsRow_setCell_other (a := ⟨g, a, none⟩) o n1 _) n1 _
  refine ⟨⟨h.z1.1, h.z1.2.imp id (fun o => oth (by decide) o)⟩, ⟨by simp only []; rw [swapH_len]; exact hL, by simp only []; rw [hA]; exact s2, fun y hy => ?_⟩, ⟨h.z3.1, h.z3.2.imp id (fun o => oth (by decide) o)⟩, h.ap.swap ha hb⟩
  obtain ⟨i, hi, rfl⟩ := List.getElem_of_mem hy
  simp only [] at hi
  have hi' : i < T.hs.length := by rw [swapH_len] at hi; exact hi
  obtain ⟨k, hk, _, e⟩ := swapH_at T.hs a b ha hb i hi'
  rw [e]
  exact ⟨(h.z2.inn _ (List.getElem_mem hk)).1, oth (by decide) (h.z2.inn _ (List.getElem_mem hk)).2⟩
end Go.Proofs.YtmhfgncffkfelaaDoor

/- Plain mathematics of stage 7's statements: states numbered otherwise, a state twice, classes of other names. No program. -/
namespace Go.Proofs.YtmhfgncffkfelaaDoor

def renI (a b : Nat) (v : Int) : Int := if v = a then (b : Int) else if v = b then (a : Int) else v
def swN (a b i : Nat) : Nat := if i = a then b else if i = b then a else i
/-- Two states change their numbers. -/
def swapT (t : Tb) (a b : Nat) : Tb := { t with nx := (List.range t.nx.length).map fun i => (t.nx.getD (swN a b i) []).map (renI a b), br := (List.range t.nx.length).map fun i => t.br.getD (swN a b i) false }
theorem renI_comm {a b : Nat} : renI a b = renI b a := by
  funext v
  unfold renI
  by_cases h1 : v = a <;> by_cases h2 : v = b
  · rw [if_pos h1, if_pos h2]; omega
  · rw [if_pos h1, if_neg h2, if_pos h1]
  · rw [if_neg h1, if_pos h2, if_pos h2]
  · rw [if_neg h1, if_neg h2, if_neg h2, if_neg h1]
theorem swN_comm {a b : Nat} : swN a b = swN b a := by
  funext v
  unfold swN
  by_cases h1 : v = a <;> by_cases h2 : v = b
  · rw [if_pos h1, if_pos h2]; omega
  · rw [if_pos h1, if_neg h2, if_pos h1]
  · rw [if_neg h1, if_pos h2, if_pos h2]
  · rw [if_neg h1, if_neg h2, if_neg h2, if_neg h1]
theorem swapT_comm (t : Tb) (a b : Nat) : swapT t a b = swapT t b a := by unfold swapT; rw [renI_comm, swN_comm]
theorem renI_self (a : Nat) : renI a a = id := by
  funext v
  unfold renI
  by_cases h : v = a
  · rw [if_pos h, h]; rfl
  · rw [if_neg h, if_neg h]; rfl
theorem swN_self (a : Nat) : swN a a = id := by
  funext v
  unfold swN
  by_cases h : v = a
  · rw [if_pos h, h]; rfl
  · rw [if_neg h, if_neg h]; rfl
theorem map_getD_range {α : Type} (l : List α) (d : α) (n : Nat) (h : l.length = n) : ((List.range n).map fun i => l.getD i d) = l := by
  apply List.ext_getElem
  · simp [h]
  · intro i h1 h2
    simp
    rw [List.getElem?_eq_getElem h2]; rfl
theorem swapT_self {t : Tb} (h : Vd t) (a : Nat) : swapT t a a = t := by
  have hc := (cntV_iff _).1 h.cnt
  unfold swapT
  rw [renI_self, swN_self]
  simp only [id, List.map_id]
  rw [map_getD_range _ _ _ rfl, map_getD_range _ _ _ hc.b1]
theorem ordRow_ren {a b : Nat} (hab : a < b) : ∀ (r : List Int) (m m1 : Int), m ≤ a → ordRow r m = some m1 → (m1 ≤ a ∧ ordRow (r.map (renI a b)) m = some m1) ∨ ordRow (r.map (renI a b)) m = none
  | [], m, m1, hm, h => by
    simp [ordRow] at h
    subst h
    exact .inl ⟨hm, rfl⟩
  | v :: r, m, m1, hm, h => by
    rw [ordRow_cons] at h
    by_cases q : m < v
    · rw [if_pos q] at h; cases h
    rw [if_neg q] at h
    rw [List.map_cons, ordRow_cons]
    by_cases e : v = a
    · refine .inr ?_
      have : renI a b v = b := by unfold renI; rw [if_pos e]
      rw [this, if_pos (by omega)]
    · have : renI a b v = v := by unfold renI; rw [if_neg e, if_neg (by omega)]
      rw [this, if_neg q]
      exact ordRow_ren hab r _ m1 (by omega) h
theorem ordScan_ren {a b : Nat} (hab : a < b) : ∀ (L L' : List (List Int)) (s : Nat) (m : Int), s ≤ a → m ≤ a → a < s + L.length → L'.length = L.length → (∀ i (h : i < L.length) (h' : i < L'.length), s + i < a → L'[i] = L[i].map (renI a b)) → ordScan L s m = true → ordScan L' s m = false
  | [], _, s, m, hs, _, hl, _, _, _ => by simp at hl; omega
  | r :: L, [], s, m, _, _, _, hl, _, _ => by simp at hl
  | r :: L, r' :: L', s, m, hs, hm, hl, hl', he, h => by
    rw [ordScan_cons] at h ⊢
    by_cases q : m ≤ s
    · rw [if_pos q] at h; cases h
    rw [if_neg q] at h ⊢
    have hr := he 0 (by simp) (by simp) (by omega)
    simp only [List.getElem_cons_zero] at hr
    cases hm1 : ordRow r m with
    | none => rw [hm1] at h; cases h
    | some m1 =>
      rw [hm1] at h
      simp only [] at h
      rw [hr]
      rcases ordRow_ren hab r m m1 hm hm1 with ⟨h1, h2⟩ | h2
      · rw [h2]
        simp only []
        have := ordScan_ren hab L L' (s + 1) m1 (by omega) h1 (by simp at hl; omega) (by simpa using hl') (fun i hi hi' hia => by
          have := he (i + 1) (by simpa using hi) (by simpa using hi') (by omega)
          simpa using this) (by rw [Int.natCast_add]; exact h)
        rw [Int.natCast_add] at this
        exact this
      · rw [h2]
theorem swapT_next {t : Tb} (h : Vd t) {a b : Nat} (ha : a < t.nx.length) (hb : b < t.nx.length) : cntV (swapT t a b) = true ∧ nextB (swapT t a b) = true := by
  have hc := (cntV_iff _).1 h.cnt
  have sw : ∀ i < t.nx.length, swN a b i < t.nx.length := fun i hi => by unfold swN; split <;> (try split) <;> omega
  have row : ∀ r ∈ (swapT t a b).nx, ∃ r0 ∈ t.nx, r = r0.map (renI a b) := by
    intro r hr
    unfold swapT at hr
    simp only [List.mem_map, List.mem_range] at hr
    obtain ⟨i, hi, rfl⟩ := hr
    refine ⟨t.nx.getD (swN a b i) [], ?_, rfl⟩
    rw [List.getD_eq_getElem?_getD, List.getElem?_eq_getElem (sw i hi)]
    exact List.getElem_mem _
  have ln : (swapT t a b).nx.length = t.nx.length := by unfold swapT; simp
  constructor
  · rw [cntV_iff]
    refine ⟨hc.c1, hc.c2, by rw [ln]; exact hc.n1, by rw [ln]; exact hc.n2, hc.k1, hc.k2, by rw [ln]; unfold swapT; simp, fun r hr => ?_⟩
    obtain ⟨r0, h0, rfl⟩ := row r hr
    rw [List.length_map]
    exact hc.rw r0 h0
  · unfold nextB
    rw [List.all_eq_true]
    intro r hr
    rw [List.all_eq_true]
    intro v hv
    obtain ⟨r0, h0, rfl⟩ := row r hr
    obtain ⟨v0, h1, rfl⟩ := List.mem_map.1 hv
    have := nextB_all h.nxt h0 h1
    unfold stB
    rw [ln]
    have h2 : 0 ≤ renI a b v0 ∧ renI a b v0 < t.nx.length := by unfold renI; split <;> (try split) <;> omega
    simp [h2.1, h2.2]
/-- Numbered otherwise: the order is broken. -/
theorem swapT_err {t : Tb} (h : Vd t) {a b : Nat} (ha : a < t.nx.length) (hb : b < t.nx.length) (hne : a ≠ b) (ha0 : a ≠ 0) (hb0 : b ≠ 0) : errV (swapT t a b) = 29 := by
  have key : ∀ a b : Nat, a < b → a ≠ 0 → b < t.nx.length → orderB (swapT t a b) = false := by
    intro a b hab ha0 hb
    unfold orderB
    have := ordScan_ren hab t.nx (swapT t a b).nx 0 1 (Nat.zero_le _) (by omega) (by omega) (by unfold swapT; simp) (fun i h h' hia => by
      have e : swN a b i = i := by unfold swN; rw [if_neg (by omega), if_neg (by omega)]
      apply Option.some.inj
      rw [← List.getElem?_eq_getElem h']
      show ((List.range t.nx.length).map fun i => (t.nx.getD (swN a b i) []).map (renI a b))[i]? = _
      rw [List.getElem?_map, List.getElem?_range h, Option.map_some, e, List.getD_eq_getElem?_getD, List.getElem?_eq_getElem h]
      rfl) h.ord
    exact this
  have ho : orderB (swapT t a b) = false := by
    rcases Nat.lt_or_ge a b with hab | hab
    · exact key a b hab ha0 hb
    · rw [swapT_comm]; exact key b a (by omega) hb0 ha
  obtain ⟨h1, h2⟩ := swapT_next h ha hb
  have h3 : bandsB (swapT t a b).bd = true := h.bds
  have h4 : classB (swapT t a b) = true := h.cls
  unfold errV
  rw [h1, h2, h3, h4, ho]
  rfl
/-- A state twice. -/
def addT (t : Tb) (a : Nat) : Tb := { t with nx := t.nx ++ [t.nx.getD a []], br := t.br ++ [t.br.getD a false] }
theorem ordRow_le {n : Int} : ∀ (r : List Int) (m m1 : Int), m ≤ n → (∀ v ∈ r, v < n) → ordRow r m = some m1 → m1 ≤ n
  | [], m, m1, hm, _, h => by simp [ordRow] at h; omega
  | v :: r, m, m1, hm, hv, h => by
    rw [ordRow_cons] at h
    by_cases q : m < v
    · rw [if_pos q] at h; cases h
    rw [if_neg q] at h
    have := hv v (by simp)
    exact ordRow_le r _ m1 (by omega) (fun x hx => hv x (by simp [hx])) h
theorem ordScan_add (x : List Int) : ∀ (L : List (List Int)) (s : Nat) (m : Int), m ≤ (s + L.length : Nat) → (∀ r ∈ L, ∀ v ∈ r, v < ((s + L.length : Nat) : Int)) → ordScan (L ++ [x]) s m = false
  | [], s, m, hm, _ => by
    rw [List.nil_append, ordScan_cons, if_pos (by simpa using hm)]
  | r :: L, s, m, hm, hv => by
    rw [List.cons_append, ordScan_cons]
    by_cases q : m ≤ s
    · rw [if_pos q]
    rw [if_neg q]
    cases hm1 : ordRow r m with
    | none => rfl
    | some m1 =>
      simp only []
      have e : s + (r :: L).length = s + 1 + L.length := by simp; omega
      rw [e] at hm hv
      have := ordScan_add x L (s + 1) m1 (ordRow_le r m m1 hm (hv r (by simp)) hm1) (fun r' hr' => hv r' (by simp [hr']))
      rw [Int.natCast_add] at this
      exact this
theorem addT_err {t : Tb} (h : Vd t) {a : Nat} (ha : a < t.nx.length) (h5 : t.nx.length < 5) : errV (addT t a) = 29 := by
  have hc := (cntV_iff _).1 h.cnt
  have ln : (addT t a).nx.length = t.nx.length + 1 := by unfold addT; simp
  have hm : t.nx.getD a [] ∈ t.nx := by rw [List.getD_eq_getElem?_getD, List.getElem?_eq_getElem ha]; exact List.getElem_mem _
  have row : ∀ r ∈ (addT t a).nx, r ∈ t.nx := fun r hr => by
    unfold addT at hr
    rcases List.mem_append.1 hr with hr | hr
    · exact hr
    · rw [List.mem_singleton] at hr; rw [hr]; exact hm
  have h1 : cntV (addT t a) = true := by
    rw [cntV_iff]
    exact ⟨hc.c1, hc.c2, by omega, by omega, hc.k1, hc.k2, by rw [ln]; unfold addT; simp [hc.b1], fun r hr => hc.rw r (row r hr)⟩
  have h2 : nextB (addT t a) = true := by
    unfold nextB
    rw [List.all_eq_true]
    intro r hr
    rw [List.all_eq_true]
    intro v hv
    have := nextB_all h.nxt (row r hr) hv
    unfold stB
    rw [ln]
    simp
    omega
  have h5' : orderB (addT t a) = false := by
    unfold orderB addT
    have h1 := hc.n1
    exact ordScan_add _ t.nx 0 1 (by omega) (fun r hr v hv => by have := nextB_all h.nxt hr hv; omega)
  have h3 : bandsB (addT t a).bd = true := h.bds
  have h4 : classB (addT t a) = true := h.cls
  unfold errV
  rw [h1, h2, h3, h4, h5']
  rfl
end Go.Proofs.YtmhfgncffkfelaaDoor

/- Plain mathematics of stage 7's statements: two classes change their names; a class is cut in two. No program. -/
namespace Go.Proofs.YtmhfgncffkfelaaDoor

/-- Two classes change their names. -/
def swapC (t : Tb) (a b : Nat) : Tb := { t with bd := t.bd.map fun p => (p.1, renI a b p.2), nx := t.nx.map fun r => (List.range t.cl.toNat).map fun c => r.getD (swN a b c) 0 }
theorem renI_inv (a b : Nat) (v : Int) : renI a b (renI a b v) = v := by
  unfold renI
  by_cases h1 : v = a
  · rw [if_pos h1]
    by_cases h2 : (b : Int) = a
    · rw [if_pos h2]; omega
    · rw [if_neg h2, if_pos rfl]; omega
  · by_cases h2 : v = b
    · rw [if_neg h1, if_pos h2, if_pos rfl]; omega
    · rw [if_neg h1, if_neg h2, if_neg h1, if_neg h2]
theorem renI_inj {a b : Nat} {v u : Int} (h : renI a b v = renI a b u) : v = u := by
  have := congrArg (renI a b) h
  rwa [renI_inv, renI_inv] at this
theorem renI_ne (a b : Nat) (v u : Int) : (renI a b v != renI a b u) = (v != u) := by
  by_cases e : v = u
  · rw [e]; simp
  · have : renI a b v ≠ renI a b u := fun h => e (renI_inj h)
    rw [bne_iff_ne.2 e, bne_iff_ne.2 this]
theorem swapC_comm (t : Tb) (a b : Nat) : swapC t a b = swapC t b a := by unfold swapC; rw [renI_comm, swN_comm]
theorem swapC_self {t : Tb} (h : Vd t) (a : Nat) : swapC t a a = t := by
  have hc := (cntV_iff _).1 h.cnt
  unfold swapC
  rw [renI_self, swN_self]
  have e1 : t.bd.map (fun p => (p.1, id p.2)) = t.bd := by
    conv => rhs; rw [← List.map_id t.bd]
    rfl
  have e2 : (t.nx.map fun r => (List.range t.cl.toNat).map fun c => r.getD (id c) 0) = t.nx := by
    conv => rhs; rw [← List.map_id t.nx]
    apply List.map_congr_left
    intro r hr
    exact map_getD_range r 0 _ (by have := hc.rw r hr; omega)
  rw [e1, e2]
theorem clScan_ren {a b : Nat} (hab : a < b) : ∀ (l : List (Int × Int)) (m k : Int), m ≤ a → (a : Int) < k → clScan l m = some k → clScan (l.map fun p => (p.1, renI a b p.2)) m = none
  | [], m, k, hm, hk, h => by simp [clScan] at h; omega
  | p :: l, m, k, hm, hk, h => by
    unfold clScan at h
    rw [List.map_cons]
    unfold clScan
    by_cases q : 0 ≤ p.2 ∧ p.2 ≤ m
    · rw [if_pos q] at h
      by_cases e : p.2 = a
      · have : renI a b p.2 = b := by unfold renI; rw [if_pos e]
        simp only []
        rw [this, if_neg (by omega)]
      · have : renI a b p.2 = p.2 := by unfold renI; rw [if_neg e, if_neg (by omega)]
        simp only []
        rw [this, if_pos q]
        exact clScan_ren hab l _ k (by omega) hk h
    · rw [if_neg q] at h; cases h
theorem okBand_ren (a b : Nat) (l : List (Int × Int)) (i : Nat) (hi : i < l.length) : okBand (l.map fun p => (p.1, renI a b p.2)) i = okBand l i := by
  have e : ∀ j < l.length, bandAt (l.map fun p => (p.1, renI a b p.2)) j = ((bandAt l j).1, renI a b (bandAt l j).2) := fun j hj => by
    unfold bandAt
    rw [List.getD_eq_getElem?_getD, List.getD_eq_getElem?_getD, List.getElem?_map, List.getElem?_eq_getElem hj]
    rfl
  unfold okBand
  rw [e i hi, e (i - 1) (by omega)]
  simp only [renI_ne]
theorem swapC_err {t : Tb} (h : Vd t) {a b : Nat} (ha : a < t.cl.toNat) (hb : b < t.cl.toNat) (hne : a ≠ b) : errV (swapC t a b) = 27 := by
  have hc := (cntV_iff _).1 h.cnt
  have hcs : clScan t.bd 0 = some t.cl := by have := h.cls; unfold classB at this; simpa using this
  have key : ∀ a b : Nat, a < b → b < t.cl.toNat → classB (swapC t a b) = false := fun a b hab hb => by
    unfold classB swapC
    simp only []
    rw [clScan_ren hab t.bd 0 t.cl (by omega) (by omega) hcs]
    rfl
  have h3 : classB (swapC t a b) = false := by
    rcases Nat.lt_or_ge a b with hab | hab
    · exact key a b hab hb
    · rw [swapC_comm]; exact key b a (by omega) ha
  have h1 : cntV (swapC t a b) = true := by
    rw [cntV_iff]
    refine ⟨hc.c1, hc.c2, by unfold swapC; simp; exact hc.n1, by unfold swapC; simp; exact hc.n2, by unfold swapC; simp; exact hc.k1, by unfold swapC; simp; exact hc.k2, by unfold swapC; simp; exact hc.b1, fun r hr => ?_⟩
    unfold swapC at hr
    simp only [List.mem_map] at hr
    obtain ⟨r0, _, rfl⟩ := hr
    have := hc.c1
    unfold swapC
    simp
    omega
  have h2 : bandsB (swapC t a b).bd = true := bandsB_yes (fun i hi => by
    unfold swapC at hi ⊢
    simp only [List.length_map] at hi
    rw [okBand_ren a b t.bd i hi]
    exact bandsB_all h.bds i hi)
  unfold errV
  rw [h1, h2, h3]
  rfl
/-- The last class cut in two. -/
def lastC (t : Tb) : Nat := (bandAt t.bd (t.bd.length - 1)).2.toNat
def splitC (t : Tb) : Tb := { cl := t.cl + 1, bd := t.bd ++ [(1114111, t.cl)], nx := t.nx.map fun r => r ++ [r.getD (lastC t) 0], br := t.br }
theorem clScan_app : ∀ (l : List (Int × Int)) (x : Int × Int) (m k : Int), clScan l m = some k → 0 ≤ x.2 → x.2 ≤ k → clScan (l ++ [x]) m = some (max k (x.2 + 1))
  | [], x, m, k, h, h0, h1 => by
    simp [clScan] at h
    subst h
    rw [List.nil_append]
    unfold clScan
    rw [if_pos ⟨h0, h1⟩]
    rfl
  | p :: l, x, m, k, h, h0, h1 => by
    unfold clScan at h
    rw [List.cons_append]
    unfold clScan
    by_cases q : 0 ≤ p.2 ∧ p.2 ≤ m
    · rw [if_pos q] at h ⊢
      exact clScan_app l x _ k h h0 h1
    · rw [if_neg q] at h; cases h
theorem clScan_mem : ∀ (l : List (Int × Int)) (m k : Int), clScan l m = some k → ∀ p ∈ l, 0 ≤ p.2 ∧ p.2 < k
  | [], _, _, _, p, hp => by simp at hp
  | p :: l, m, k, h, x, hx => by
    unfold clScan at h
    by_cases q : 0 ≤ p.2 ∧ p.2 ≤ m
    · rw [if_pos q] at h
      rcases List.mem_cons.1 hx with rfl | hx
      · have := clScan_ge _ _ _ h
        omega
      · exact clScan_mem l _ k h x hx
    · rw [if_neg q] at h; cases h
theorem ordRow_app (x : Int) : ∀ (r : List Int) (m m1 : Int), ordRow r m = some m1 → x ∈ r → ordRow (r ++ [x]) m = some m1 := by
  have le : ∀ (r : List Int) (m m1 : Int), ordRow r m = some m1 → m ≤ m1 ∧ ∀ v ∈ r, v + 1 ≤ m1 := by
    intro r
    induction r with
    | nil => intro m m1 h; simp [ordRow] at h; exact ⟨by omega, fun v hv => by simp at hv⟩
    | cons v r ih =>
      intro m m1 h
      rw [ordRow_cons] at h
      by_cases q : m < v
      · rw [if_pos q] at h; cases h
      rw [if_neg q] at h
      obtain ⟨h1, h2⟩ := ih _ _ h
      refine ⟨by omega, fun u hu => ?_⟩
      rcases List.mem_cons.1 hu with rfl | hu
      · omega
      · exact h2 u hu
  have app : ∀ (r : List Int) (m m1 : Int), ordRow r m = some m1 → x + 1 ≤ m1 → ordRow (r ++ [x]) m = some m1 := by
    intro r
    induction r with
    | nil =>
      intro m m1 h hx
      simp [ordRow] at h
      rw [List.nil_append, ordRow_cons, if_neg (by omega)]
      unfold ordRow
      rw [← h]
      congr 1
      omega
    | cons v r ih =>
      intro m m1 h hx
      rw [ordRow_cons] at h
      rw [List.cons_append, ordRow_cons]
      by_cases q : m < v
      · rw [if_pos q] at h; cases h
      rw [if_neg q] at h ⊢
      exact ih _ _ h hx
  intro r m m1 h hx
  exact app r m m1 h ((le r m m1 h).2 x hx)
theorem ordScan_app (f : List Int → Int) : ∀ (L : List (List Int)) (s m : Int), (∀ r ∈ L, f r ∈ r) → ordScan L s m = true → ordScan (L.map fun r => r ++ [f r]) s m = true
  | [], _, _, _, _ => rfl
  | r :: L, s, m, hf, h => by
    rw [ordScan_cons] at h
    rw [List.map_cons, ordScan_cons]
    by_cases q : m ≤ s
    · rw [if_pos q] at h; cases h
    rw [if_neg q] at h ⊢
    cases hm : ordRow r m with
    | none => rw [hm] at h; cases h
    | some m1 =>
      rw [hm] at h
      rw [ordRow_app _ r m m1 hm (hf r (by simp))]
      exact ordScan_app f L _ _ (fun r' hr' => hf r' (by simp [hr'])) h
theorem splitC_err {t : Tb} (h : Vd t) (h8 : t.cl < 8) (h60 : t.bd.length < 60) (hl : (bandAt t.bd (t.bd.length - 1)).1 < 1114111) : errV (splitC t) = 31 := by
  have hc := (cntV_iff _).1 h.cnt
  have k1 := hc.k1
  have c1 := hc.c1
  have hcs : clScan t.bd 0 = some t.cl := by have := h.cls; unfold classB at this; simpa using this
  have hlast : 0 ≤ (bandAt t.bd (t.bd.length - 1)).2 ∧ (bandAt t.bd (t.bd.length - 1)).2 < t.cl := by
    have e : bandAt t.bd (t.bd.length - 1) = t.bd[t.bd.length - 1]'(by omega) := by
      unfold bandAt
      rw [List.getD_eq_getElem?_getD, List.getElem?_eq_getElem (by omega)]; rfl
    rw [e]
    exact clScan_mem t.bd 0 t.cl hcs _ (List.getElem_mem _)
  have hlc : lastC t < t.cl.toNat := by unfold lastC; omega
  have hrl : ∀ r ∈ t.nx, r.length = t.cl.toNat := fun r hr => by have := hc.rw r hr; omega
  have hmem : ∀ r ∈ t.nx, r.getD (lastC t) 0 ∈ r := fun r hr => by
    rw [List.getD_eq_getElem?_getD, List.getElem?_eq_getElem (by rw [hrl r hr]; exact hlc)]
    exact List.getElem_mem _
  have e1 : cntV (splitC t) = true := by
    rw [cntV_iff]
    refine ⟨by unfold splitC; simp; omega, by unfold splitC; simp; omega, by unfold splitC; simp; exact hc.n1, by unfold splitC; simp; exact hc.n2, by unfold splitC; simp, by unfold splitC; simp; omega, by unfold splitC; simp; exact hc.b1, fun r hr => ?_⟩
    unfold splitC at hr
    simp only [List.mem_map] at hr
    obtain ⟨r0, h0, rfl⟩ := hr
    have := hc.rw r0 h0
    unfold splitC
    simp
    omega
  have e2 : bandsB (splitC t).bd = true := bandsB_yes (fun i hi => by
    unfold splitC at hi ⊢
    simp only [List.length_append, List.length_cons, List.length_nil] at hi
    have old : ∀ j < t.bd.length, bandAt (t.bd ++ [(1114111, t.cl)]) j = bandAt t.bd j := fun j hj => by
      unfold bandAt
      rw [List.getD_eq_getElem?_getD, List.getD_eq_getElem?_getD, List.getElem?_append_left hj]
    have new : bandAt (t.bd ++ [(1114111, t.cl)]) t.bd.length = (1114111, t.cl) := by
      unfold bandAt
      rw [List.getD_eq_getElem?_getD, List.getElem?_append_right (Nat.le_refl _)]
      simp
    by_cases hi2 : i < t.bd.length
    · have := bandsB_all h.bds i hi2
      unfold okBand at this ⊢
      rw [old i hi2, old (i - 1) (by omega)]
      exact this
    · obtain rfl : i = t.bd.length := by omega
      unfold okBand
      rw [new, old (t.bd.length - 1) (by omega)]
      have q1 : (t.bd.length != 0) = true := by rw [bne_iff_ne]; omega
      have q2 : (t.bd.length == 0) = false := by rw [beq_eq_false_iff_ne]; omega
      have q3 : (t.cl != (bandAt t.bd (t.bd.length - 1)).2) = true := by rw [bne_iff_ne]; omega
      simp only [q1, q2, q3, Bool.true_or, Bool.false_or, Bool.true_and, Bool.and_true]
      rw [decide_eq_true hl]
      decide)
  have e3 : classB (splitC t) = true := by
    unfold classB splitC
    simp only []
    rw [clScan_app t.bd (1114111, t.cl) 0 t.cl hcs (by simp only []; omega) (by simp only []; omega)]
    simp only [beq_iff_eq, Option.some.injEq]
    omega
  have nxs : ∀ r ∈ t.nx, ∀ v ∈ r, 0 ≤ v ∧ v < t.nx.length := fun r hr v hv => nextB_all h.nxt hr hv
  have e4 : nextB (splitC t) = true := by
    unfold nextB
    rw [List.all_eq_true]
    intro r hr
    rw [List.all_eq_true]
    intro v hv
    unfold splitC at hr
    simp only [List.mem_map] at hr
    obtain ⟨r0, h0, rfl⟩ := hr
    have : 0 ≤ v ∧ v < t.nx.length := by
      rcases List.mem_append.1 hv with hv | hv
      · exact nxs r0 h0 v hv
      · rw [List.mem_singleton] at hv; rw [hv]; exact nxs r0 h0 _ (hmem r0 h0)
    unfold stB splitC
    simp [this.1, this.2]
  have e5 : orderB (splitC t) = true := by
    unfold orderB splitC
    exact ordScan_app (fun r => r.getD (lastC t) 0) t.nx 0 1 hmem h.ord
  have ni : ∀ s < t.nx.length, ∀ c, nxI (splitC t) s c = if c < t.cl.toNat then nxI t s c else if c = t.cl.toNat then nxI t s (lastC t) else 0 := by
    intro s hs c
    have hr := hrl _ (List.getElem_mem hs)
    unfold nxI splitC
    simp only []
    rw [List.getD_eq_getElem?_getD (l := t.nx.map _), List.getElem?_map, List.getElem?_eq_getElem hs, List.getD_eq_getElem?_getD (l := t.nx), List.getElem?_eq_getElem hs]
    simp only [Option.map_some, Option.getD_some]
    by_cases q1 : c < t.cl.toNat
    · rw [if_pos q1, List.getD_eq_getElem?_getD, List.getElem?_append_left (by omega), List.getD_eq_getElem?_getD]
    · rw [if_neg q1]
      by_cases q2 : c = t.cl.toNat
      · rw [if_pos q2, List.getD_eq_getElem?_getD, List.getElem?_append_right (by omega), show c - t.nx[s].length = 0 by omega]
        rfl
      · rw [if_neg q2, List.getD_eq_getElem?_getD, List.getElem?_eq_none (by simp; omega)]
        rfl
  have hk : (splitC t).cl.toNat = t.cl.toNat + 1 := by unfold splitC; simp only []; omega
  have ln : (splitC t).nx.length = t.nx.length := by unfold splitC; simp
  have farE : ∀ r, ∀ a < t.nx.length, ∀ b < t.nx.length, far t r a b = true → far (splitC t) r a b = true := by
    intro r
    induction r with
    | zero => intro a ha b hb hf; exact hf
    | succ r ih =>
      intro a ha b hb hf
      rcases far_cases hf with hf | ⟨c, hcc, hf⟩
      · exact far_mono1 (ih a ha b hb hf)
      · have e : ∀ s < t.nx.length, nxN (splitC t) s c = nxN t s c := fun s hs => by unfold nxN; rw [ni s hs c, if_pos hcc]
        refine far_step (c := c) (by omega) ?_
        rw [e a ha, e b hb]
        exact ih _ (nxN_lt h.nxt (by omega) a c) _ (nxN_lt h.nxt (by omega) b c) hf
  have e6 : leastB (splitC t) = true := leastB_yes (fun b hb a hab => by
    rw [ln] at hb
    have := leastB_all h.lst hab hb
    unfold farB at this ⊢
    rw [ln]
    exact farE _ a (by omega) b hb this)
  have e7 : colB (splitC t) = false := by
    refine colB_no (a := lastC t) (b := t.cl.toNat) hlc (by omega) (colEq_yes (fun s hs => ?_))
    rw [ln] at hs
    rw [ni s hs, ni s hs, if_pos hlc, if_neg (by omega), if_pos rfl]
  unfold errV
  rw [e1, e2, e3, e4, e5, e6, e7]
  rfl
end Go.Proofs.YtmhfgncffkfelaaDoor

/- A table of the call's own in a box of the call's own: what was written there. -/
namespace Go.Proofs.YtmhfgncffkfelaaDoor
open Go.RowKit Go.BigFrame
set_option linter.unusedVariables false
set_option maxRecDepth 4000
set_option linter.unusedSimpArgs false

theorem vd_small {t : Tb} (h : errV t = 0) : Small t := by
  have hc := (cntV_iff _).1 (errV_ok.1 h).cnt
  refine ⟨by have := hc.k2; omega, ?_, by have := hc.b1; have := hc.n2; omega⟩
  have h1 := hc.n2
  have h2 := hc.c2
  rw [bulk_rect (c := t.cl.toNat) (fun r hr => by have := hc.rw r hr; omega)]
  have := Nat.mul_le_mul h1 (show t.cl.toNat ≤ 8 by omega)
  omega
/-- Where a table's parts lie. -/
structure LoT (lo hi : Nat) (T : TV) : Prop where
  b2 : ∀ g, T.a2 = some ⟨g, 0, none⟩ → 0 < T.n2 → lo ≤ g ∧ g < hi
  b3 : ∀ g, T.a3 = some ⟨g, 0, none⟩ → 0 < T.n3 → lo ≤ g ∧ g < hi
  b4 : ∀ h ∈ T.hs, ∀ g, h.a = some ⟨g, 0, none⟩ → 0 < h.n → lo ≤ g ∧ g < hi
theorem loT_of {w : World} {base : Nat} {T : TV} (h : OwnTb w base T) : LoT base w.heap.size T := by
  refine ⟨fun g hA hn => ?_, fun g hA hn => ?_, fun x hx g hA hn => ?_⟩
  · exact h.z2.out.lt g (by rw [hA]; rfl)
  · obtain ⟨g', hA', hb, hlt, _⟩ := h.z3.open_ hn
    rw [hA] at hA'
    injection hA' with e
    injection e with e
    subst e
    exact ⟨hb, hlt⟩
  · exact (h.z2.inn x hx).2.lt g (by unfold Hi.v; rw [hA]; rfl)
/-- A table T in its box, and a table U of the call's own in another one. -/
structure StU (W : World) (T : TV) (base gu : Nat) (V : World) (U : TV) : Prop where
  bb : Below W.heap.size W V
  bx : Box V W.heap.size T
  ux : Box V gu U
  ow : OwnTb V base U
  lo : LoT base gu U
  hb : W.heap.size < base
  hg : base ≤ gu
theorem StU.on {W V V' : World} {T U : TV} {base gu : Nat} (h : StU W T base gu V U) (g : Below V.heap.size V V') : StU W T base gu V' U :=
  ⟨h.bb.trans (g.mono h.bb.size), h.bx.on g, h.ux.on g, h.ow.on g, h.lo, h.hb, h.hg⟩
theorem StU.make {W V w3 : World} {T U : TV} (bb : Below W.heap.size W V) (bx : Box V W.heap.size T) (g : Below V.heap.size V w3) (ow : OwnTb w3 V.heap.size U) : StU W T V.heap.size w3.heap.size (w3.alloc (.cells #[.int .i64 U.cl, .slice U.a1 U.n1 U.c1, .slice U.a2 U.n2 U.c2, .slice U.a3 U.n3 U.c3] 26)) U := by
  have ga := below_new w3 (.cells #[.int .i64 U.cl, .slice U.a1 U.n1 U.c1, .slice U.a2 U.n2 U.c2, .slice U.a3 U.n3 U.c3] 26)
  exact ⟨(bb.trans (g.mono bb.size)).trans (ga.mono (Nat.le_trans bb.size g.size)), (bx.on g).on ga, box_new w3 U, ow.on ga, loT_of ow, bx.1, g.size⟩
theorem StU.swap {W V : World} {T U : TV} {base gu : Nat} (h : StU W T base gu V U) {a b : Nat} (ha : a < U.hs.length) (hb : b < U.hs.length) : ∃ g, U.a2 = some ⟨g, 0, none⟩ ∧ (∀ k, V.frozen? ⟨g, k, none⟩ = false) ∧ V.cell? ⟨g, a, none⟩ = some U.hs[a].v ∧ V.cell? ⟨g, b, none⟩ = some U.hs[b].v ∧
    StU W T base gu ((V.setCell ⟨g, a, none⟩ U.hs[b].v).setCell ⟨g, b, none⟩ U.hs[a].v) { U with hs := swapH U.hs a b ha hb } := by
  obtain ⟨g, hA, hbg, hlt, hf, c1, c2, ho⟩ := h.ow.swap ha hb
  have hl := h.lo.b2 g hA (by have := h.ow.z2.len; omega)
  refine ⟨g, hA, hf, c1, c2, (h.bb.setCell (p := ⟨g, a, none⟩) (by have := h.hb; simp only []; omega) _).setCell (p := ⟨g, b, none⟩) (by have := h.hb; simp only []; omega) _, (h.bx.set (by have := h.hb; simp only []; omega) _).set (by have := h.hb; simp only []; omega) _, (h.ux.set (by simp only []; omega) _).set (by simp only []; omega) _, ho, ⟨h.lo.b2, h.lo.b3, fun x hx => ?_⟩, h.hb, h.hg⟩
  obtain ⟨i, hi, rfl⟩ := List.getElem_of_mem hx
  simp only [] at hi
  rw [swapH_len] at hi
  obtain ⟨k, hk, _, e⟩ := swapH_at U.hs a b ha hb i hi
  rw [e]
  exact h.lo.b4 _ (List.getElem_mem hk)
theorem StU.brk {W V : World} {T U : TV} {base gu : Nat} (h : StU W T base gu V U) {k : Nat} (hk : k < U.n3) (hl : k < U.br.length) : ∃ g, U.a3 = some ⟨g, 0, none⟩ ∧ V.frozen? ⟨g, k, none⟩ = false ∧ V.cell? ⟨g, k, none⟩ = some (.bool U.br[k]) ∧ ∀ x, StU W T base gu (V.setCell ⟨g, k, none⟩ (.bool x)) { U with br := U.br.set k x } := by
  obtain ⟨g, hA, hbg, hlt, hf, hc, ho⟩ := h.ow.brk hk
  have hlo := h.lo.b3 g hA (by omega)
  refine ⟨g, hA, hf, hc hl, fun x => ⟨h.bb.setCell (p := ⟨g, k, none⟩) (by have := h.hb; simp only []; omega) _, h.bx.set (by have := h.hb; simp only []; omega) _, h.ux.set (by simp only []; omega) _, ho x, ⟨h.lo.b2, h.lo.b3, h.lo.b4⟩, h.hb, h.hg⟩⟩
/-- Two breaks change their places. -/
theorem StU.brk2 {W V : World} {T U : TV} {base gu : Nat} (h : StU W T base gu V U) {a b : Nat} (ha : a < U.n3) (hb : b < U.n3) (hal : a < U.br.length) (hbl : b < U.br.length) : ∃ g, U.a3 = some ⟨g, 0, none⟩ ∧ V.frozen? ⟨g, a, none⟩ = false ∧ V.frozen? ⟨g, b, none⟩ = false ∧ V.cell? ⟨g, a, none⟩ = some (.bool U.br[a]) ∧ V.cell? ⟨g, b, none⟩ = some (.bool U.br[b]) ∧
    StU W T base gu ((V.setCell ⟨g, a, none⟩ (.bool U.br[b])).setCell ⟨g, b, none⟩ (.bool U.br[a])) { U with br := (U.br.set a U.br[b]).set b U.br[a] } := by
  obtain ⟨g, hA, f1, c1, o1⟩ := h.brk ha hal
  obtain ⟨g', hA', f2, c2, _⟩ := h.brk hb hbl
  rw [hA] at hA'
  injection hA' with e
  injection e with e
  subst e
  have h1 := o1 U.br[b]
  obtain ⟨g'', hA'', _, _, o2⟩ := h1.brk (k := b) hb (by simpa using hbl)
  simp only [] at hA''
  rw [hA] at hA''
  injection hA'' with e
  injection e with e
  subst e
  exact ⟨g, hA, f1, f2, c1, c2, o2 U.br[a]⟩
/-- An entry of Next. -/
theorem StU.ent {W V : World} {T U : TV} {base gu : Nat} (h : StU W T base gu V U) {s c : Nat} (hs : s < U.hs.length) (hc : c < U.hs[s].n) (hcl : c < U.hs[s].l.length) : ∃ g2 g, U.a2 = some ⟨g2, 0, none⟩ ∧ U.hs[s].a = some ⟨g, 0, none⟩ ∧ V.cell? ⟨g2, s, none⟩ = some (.slice (some ⟨g, 0, none⟩) U.hs[s].n U.hs[s].c) ∧ V.frozen? ⟨g, c, none⟩ = false ∧ V.cell? ⟨g, c, none⟩ = some (.int .i64 U.hs[s].l[c]) ∧
    ∀ x, StU W T base gu (V.setCell ⟨g, c, none⟩ (.int .i64 x)) { U with hs := U.hs.set s (U.hs[s].put c x) } := by
  obtain ⟨g, hA, hbg, hlt, hf, hcell, ho⟩ := h.ow.ent hs hc
  obtain ⟨g2, hA2, _, _, _, hc2, _⟩ := h.ow.nxt (k := s) (by have := h.ow.z2.len; omega)
  have hl := h.lo.b4 _ (List.getElem_mem hs) g hA (by omega)
  have hv := hc2 hs
  unfold Hi.v at hv
  rw [hA] at hv
  refine ⟨g2, g, hA2, hA, hv, hf, hcell hcl, fun x => ⟨h.bb.setCell (p := ⟨g, c, none⟩) (by have := h.hb; simp only []; omega) _, h.bx.set (by have := h.hb; simp only []; omega) _, h.ux.set (by simp only []; omega) _, ho x, ⟨h.lo.b2, h.lo.b3, fun y hy => ?_⟩, h.hb, h.hg⟩⟩
  rcases List.mem_or_eq_of_mem_set hy with hy | rfl
  · exact h.lo.b4 y hy
  · exact fun g ha hn => h.lo.b4 U.hs[s] (List.getElem_mem hs) g ha hn
/-- Rows ahead of s turned, and the first c of row s. -/
def parR (a b s c i : Nat) (r : List Int) : List Int := if i < s then r.map (renI a b) else if i = s then (r.take c).map (renI a b) ++ r.drop c else r
def parL (L : List (List Int)) (a b s c : Nat) : List (List Int) := (List.range L.length).map fun i => parR a b s c i (L.getD i [])
theorem parL_len (L : List (List Int)) (a b s c : Nat) : (parL L a b s c).length = L.length := by simp [parL]
theorem parL_at (L : List (List Int)) (a b s c i : Nat) (h : i < L.length) (h' : i < (parL L a b s c).length) : (parL L a b s c)[i] = parR a b s c i L[i] := by
  simp only [parL, List.getElem_map, List.getElem_range]
  rw [List.getD_eq_getElem?_getD, List.getElem?_eq_getElem h]; rfl
theorem parL_zero (L : List (List Int)) (a b : Nat) : parL L a b 0 0 = L := by
  apply List.ext_getElem (parL_len _ _ _ _ _)
  intro i h1 h2
  rw [parL_at _ _ _ _ _ _ h2]
  unfold parR
  rw [if_neg (by omega)]
  split <;> simp
theorem parL_end (L : List (List Int)) (a b : Nat) : parL L a b L.length 0 = L.map fun r => r.map (renI a b) := by
  apply List.ext_getElem (by rw [parL_len, List.length_map])
  intro i h1 h2
  have h3 : i < L.length := by simpa using h2
  rw [parL_at _ _ _ _ _ _ h3, List.getElem_map]
  unfold parR
  rw [if_pos h3]
theorem parL_row (L : List (List Int)) (a b s K : Nat) (h : ∀ r ∈ L, r.length = K) : parL L a b s K = parL L a b (s + 1) 0 := by
  apply List.ext_getElem (by rw [parL_len, parL_len])
  intro i h1 h2
  have h3 : i < L.length := by rw [parL_len] at h1; exact h1
  rw [parL_at _ _ _ _ _ _ h3, parL_at _ _ _ _ _ _ h3]
  have hl := h _ (List.getElem_mem h3)
  unfold parR
  by_cases q : i < s
  · rw [if_pos q, if_pos (by omega)]
  · rw [if_neg q]
    by_cases q2 : i = s
    · rw [if_pos q2, if_pos (by omega), List.take_of_length_le (by omega), List.drop_eq_nil_of_le (by omega), List.append_nil]
    · rw [if_neg q2, if_neg (by omega)]
      split <;> simp
theorem parR_set (a b s c : Nat) (r : List Int) (hc : c < r.length) : (parR a b s c s r).set c (renI a b r[c]) = parR a b s (c + 1) s r := by
  unfold parR
  rw [if_neg (by omega), if_pos rfl, if_neg (by omega), if_pos rfl]
  rw [List.take_succ_eq_append_getElem hc, List.map_append, List.map_cons, List.map_nil, List.append_assoc, List.singleton_append]
  rw [List.drop_eq_getElem_cons hc]
  have hl : ((r.take c).map (renI a b)).length = c := by rw [List.length_map, List.length_take]; omega
  rw [List.set_append_right _ _ (by omega), hl, Nat.sub_self, List.set_cons_zero]
theorem parR_get (a b s c : Nat) (r : List Int) (hc : c < r.length) (h' : c < (parR a b s c s r).length) : (parR a b s c s r)[c] = r[c] := by
  have hl : ((r.take c).map (renI a b)).length = c := by rw [List.length_map, List.length_take]; omega
  have e : parR a b s c s r = (r.take c).map (renI a b) ++ r.drop c := by unfold parR; rw [if_neg (by omega), if_pos rfl]
  simp only [e]
  rw [List.getElem_append_right (by omega), List.getElem_drop]
  congr 1
  omega
theorem parR_len (a b s c i : Nat) (r : List Int) : (parR a b s c i r).length = r.length := by
  unfold parR
  split
  · simp
  · split
    · simp [List.length_take]; omega
    · rfl
theorem parL_step (L : List (List Int)) (a b s c : Nat) (hs : s < L.length) (hc : c < L[s].length) (x : List Int) (hx : x = parR a b s (c + 1) s L[s]) : (parL L a b s c).set s x = parL L a b s (c + 1) := by
  subst hx
  apply List.ext_getElem (by rw [List.length_set, parL_len, parL_len])
  intro i h1 h2
  have h3 : i < L.length := by rw [parL_len] at h2; exact h2
  rw [List.getElem_set, parL_at _ _ _ _ _ _ h3]
  by_cases q : s = i
  · subst q; rw [if_pos rfl, parL_at _ _ _ _ _ _ h3]
  · rw [if_neg q, parL_at _ _ _ _ _ _ h3]
    unfold parR
    by_cases q2 : i < s
    · rw [if_pos q2, if_pos q2]
    · rw [if_neg q2, if_neg q2, if_neg (fun e => q e.symm), if_neg (fun e => q e.symm)]
theorem listsOf_set (H : List Hi) (s : Nat) (x : Hi) : listsOf (H.set s x) = (listsOf H).set s x.l := by unfold listsOf; rw [List.map_set]
theorem listsOf_at (H : List Hi) (s : Nat) (h : s < H.length) (h' : s < (listsOf H).length) : (listsOf H)[s] = H[s].l := by simp [listsOf]
/-- The rows of a table whose states change their numbers. -/
theorem swapH_lists (H : List Hi) (a b : Nat) (ha : a < H.length) (hb : b < H.length) : listsOf (swapH H a b ha hb) = (List.range H.length).map fun i => (listsOf H).getD (swN a b i) [] := by
  apply List.ext_getElem (by rw [listsOf_len, swapH_len]; simp)
  intro i h1 h2
  have h3 : i < H.length := by simpa using h2
  rw [listsOf_at _ _ (by rw [swapH_len]; exact h3)]
  obtain ⟨k, hk, ek, e⟩ := swapH_at H a b ha hb i h3
  rw [e]
  simp only [List.getElem_map, List.getElem_range]
  have e2 : swN a b i = k := by
    unfold swN
    rw [ek]
    by_cases q : i = b <;> by_cases q2 : i = a <;> simp only [q, q2, if_true, if_false] <;> first | rfl | omega | (split <;> omega)
  rw [e2, List.getD_eq_getElem?_getD, List.getElem?_eq_getElem (by rw [listsOf_len]; exact hk), listsOf_at _ _ hk]; rfl
theorem swapB_lists (B : List Bool) (a b : Nat) (ha : a < B.length) (hb : b < B.length) : (B.set a B[b]).set b B[a] = (List.range B.length).map fun i => B.getD (swN a b i) false := by
  apply List.ext_getElem (by simp)
  intro i h1 h2
  have h3 : i < B.length := by simpa using h2
  simp only [List.getElem_map, List.getElem_range]
  rw [List.getElem_set]
  by_cases q : b = i
  · subst q
    rw [if_pos rfl]
    have e2 : swN a b b = a := by
      unfold swN
      by_cases q2 : b = a
      · rw [if_pos q2]; exact q2
      · rw [if_neg q2, if_pos rfl]
    rw [e2, List.getD_eq_getElem?_getD, List.getElem?_eq_getElem ha]; rfl
  · rw [if_neg q, List.getElem_set]
    by_cases q2 : a = i
    · subst q2
      rw [if_pos rfl]
      have e2 : swN a b a = b := by unfold swN; rw [if_pos rfl]
      rw [e2, List.getD_eq_getElem?_getD, List.getElem?_eq_getElem hb]; rfl
    · rw [if_neg q2]
      have e2 : swN a b i = i := by unfold swN; rw [if_neg (fun e => q2 e.symm), if_neg (fun e => q e.symm)]
      rw [e2, List.getD_eq_getElem?_getD, List.getElem?_eq_getElem h3]; rfl
theorem parL_put {H : List Hi} {L : List (List Int)} {a b s c : Nat} (hH : listsOf H = parL L a b s c) (hs : s < H.length) (hsL : s < L.length) (hc : c < L[s].length) : H[s].l = parR a b s c s L[s] ∧ (∃ hcl : c < H[s].l.length, H[s].l[c] = L[s][c]) ∧ ∀ x : Int, renI a b L[s][c] = x → listsOf (H.set s (H[s].put c x)) = parL L a b s (c + 1) := by
  have e1 : H[s].l = parR a b s c s L[s] := by
    have h1 := listsOf_at H s hs (by rw [listsOf_len]; exact hs)
    rw [← h1]
    simp only [hH]
    rw [parL_at _ _ _ _ _ _ hsL]
  refine ⟨e1, ⟨by rw [e1, parR_len]; exact hc, ?_⟩, fun x hx => ?_⟩
  · simp only [e1]
    exact parR_get a b s c L[s] hc _
  · rw [listsOf_set, hH]
    refine parL_step L a b s c hsL hc _ ?_
    show (H[s].l.set c x) = _
    rw [e1, ← hx, parR_set _ _ _ _ _ hc]
theorem parL_same {L : List (List Int)} {a b s c : Nat} (hsL : s < L.length) (hc : c < L[s].length) (h : renI a b L[s][c] = L[s][c]) : parL L a b s (c + 1) = parL L a b s c := by
  rw [← parL_step L a b s c hsL hc _ rfl, ← parR_set _ _ _ _ _ hc, h]
  apply List.ext_getElem (by rw [List.length_set])
  intro i h1 h2
  rw [List.getElem_set]
  by_cases q : s = i
  · subst q
    rw [if_pos rfl, parL_at _ _ _ _ _ _ hsL]
    apply List.ext_getElem (by rw [List.length_set])
    intro j h3 h4
    rw [List.getElem_set]
    by_cases q2 : c = j
    · subst q2; rw [if_pos rfl, parR_get a b s c L[s] hc]
    · rw [if_neg q2]
  · rw [if_neg q]
theorem renI_a (a b : Nat) : renI a b (a : Int) = (b : Int) := by unfold renI; rw [if_pos rfl]
theorem renI_b (a b : Nat) : renI a b (b : Int) = (a : Int) := by
  unfold renI
  by_cases h : (b : Int) = (a : Int)
  · rw [if_pos h, h]
  · rw [if_neg h, if_pos rfl]
theorem renI_o {a b : Nat} {v : Int} (h1 : v ≠ a) (h2 : v ≠ b) : renI a b v = v := by unfold renI; rw [if_neg h1, if_neg h2]
end Go.Proofs.YtmhfgncffkfelaaDoor

