/- A table of the call's own whose classes are numbered otherwise, or one of them is cut in two. -/
import Derived.Test.YtmhfgncffkfelaaDoorStatesV
namespace Go.Proofs.YtmhfgncffkfelaaDoor
open Go.RowKit Go.BigFrame
set_option linter.unusedVariables false
set_option maxRecDepth 4000
set_option linter.unusedSimpArgs false

/-- The first k turned by f. -/
def mapK {α : Type} (f : α → α) (l : List α) (k : Nat) : List α := (l.take k).map f ++ l.drop k
theorem mapK_zero {α : Type} (f : α → α) (l : List α) : mapK f l 0 = l := by simp [mapK]
theorem mapK_len {α : Type} (f : α → α) (l : List α) (k : Nat) : (mapK f l k).length = l.length := by simp [mapK]; omega
theorem mapK_all {α : Type} (f : α → α) (l : List α) {k : Nat} (h : l.length ≤ k) : mapK f l k = l.map f := by simp [mapK, List.take_of_length_le h, List.drop_eq_nil_of_le h]
theorem mapK_at {α : Type} (f : α → α) (l : List α) {k : Nat} (h : k < l.length) (h2 : k < (mapK f l k).length) : (mapK f l k)[k] = l[k] := by
  have e : (mapK f l k)[k]? = l[k]? := by
    unfold mapK
    rw [List.getElem?_append_right (by simp; omega)]
    simp [Nat.min_eq_left (Nat.le_of_lt h)]
  rw [List.getElem?_eq_getElem h2, List.getElem?_eq_getElem h] at e
  exact Option.some.inj e
theorem mapK_set {α : Type} (f : α → α) (l : List α) {k : Nat} (h : k < l.length) {x : α} (hx : x = f l[k]) : (mapK f l k).set k x = mapK f l (k + 1) := by
  subst hx
  have e1 : l.drop k = l[k] :: l.drop (k + 1) := List.drop_eq_getElem_cons h
  have e2 : l.take (k + 1) = l.take k ++ [l[k]] := by rw [List.take_succ_eq_append_getElem h]
  unfold mapK
  rw [e1, e2, List.set_append_right _ _ (by simp; omega)]
  simp only [List.length_map, List.length_take, Nat.min_eq_left (Nat.le_of_lt h), Nat.sub_self, List.set_cons_zero, List.map_append, List.map_cons, List.map_nil, List.append_assoc, List.singleton_append]
theorem mapK_same {α : Type} (f : α → α) (l : List α) {k : Nat} (h : k < l.length) (hx : f l[k] = l[k]) : mapK f l k = mapK f l (k + 1) := by
  have e1 : l.drop k = l[k] :: l.drop (k + 1) := List.drop_eq_getElem_cons h
  have e2 : l.take (k + 1) = l.take k ++ [l[k]] := by rw [List.take_succ_eq_append_getElem h]
  unfold mapK
  rw [e1, e2]
  simp only [List.map_append, List.map_cons, List.map_nil, List.append_assoc, List.singleton_append, hx]
/-- Two entries of a row change their places. -/
def prmR (a b K : Nat) (r : List Int) : List Int := (List.range K).map fun c => r.getD (swN a b c) 0
theorem prmR_set {a b K : Nat} {r : List Int} (hK : r.length = K) (ha : a < r.length) (hb : b < r.length) : (r.set a r[b]).set b r[a] = prmR a b K r := by
  subst hK
  unfold prmR
  refine List.ext_getElem (by simp) fun i h1 h2 => ?_
  have hi : i < r.length := by simpa using h1
  rw [List.getElem_set, List.getElem_map, List.getElem_range]
  unfold swN
  by_cases e1 : b = i
  · subst e1
    rw [if_pos rfl]
    by_cases e2 : b = a
    · subst e2
      rw [if_pos rfl, List.getD_eq_getElem?_getD, List.getElem?_eq_getElem hb]; rfl
    · rw [if_neg e2, if_pos rfl, List.getD_eq_getElem?_getD, List.getElem?_eq_getElem ha]; rfl
  · rw [if_neg e1, List.getElem_set]
    by_cases e2 : a = i
    · subst e2
      rw [if_pos rfl, if_pos rfl, List.getD_eq_getElem?_getD, List.getElem?_eq_getElem hb]; rfl
    · rw [if_neg e2, if_neg (fun e => e2 e.symm), if_neg (fun e => e1 e.symm), List.getD_eq_getElem?_getD, List.getElem?_eq_getElem hi]; rfl
/-- A band's class is written. -/
theorem StU.bnd {W V : World} {T U : TV} {base gu : Nat} (h : StU W T base gu V U) (hb1 : ∀ g, U.a1 = some ⟨g, 0, none⟩ → g < gu) {k : Nat} (hk : k < U.bd.length) : ∃ g, U.a1 = some ⟨g, 0, none⟩ ∧ V.frozen? ⟨g, k * 2 + 1, none⟩ = false ∧ V.cell? ⟨g, k * 2 + 1, none⟩ = some (.int .i64 U.bd[k].2) ∧
    ∀ x, StU W T base gu (V.setCell ⟨g, k * 2 + 1, none⟩ (.int .i64 x)) { U with bd := U.bd.set k (U.bd[k].1, x) } := by
  obtain ⟨g, hA, hbg, hlt, hf, hc, ho⟩ := h.ow.bnd hk
  have hlo := hb1 g hA
  refine ⟨g, hA, hf, hc, fun x => ⟨h.bb.setCell (p := ⟨g, k * 2 + 1, none⟩) (by have := h.hb; simp only []; omega) _, h.bx.set (by have := h.hb; simp only []; omega) _, h.ux.set (by simp only []; omega) _, ho x, ⟨h.lo.b2, h.lo.b3, h.lo.b4⟩, h.hb, h.hg⟩⟩
/-- Two entries of row s are written, one behind the other. -/
theorem StU.ent2 {W V : World} {T U : TV} {base gu : Nat} (h : StU W T base gu V U) {s a b : Nat} (hs : s < U.hs.length) (ha : a < U.hs[s].n) (hb : b < U.hs[s].n) (hal : a < U.hs[s].l.length) (hbl : b < U.hs[s].l.length) : ∃ g2 g, U.a2 = some ⟨g2, 0, none⟩ ∧ V.cell? ⟨g2, s, none⟩ = some (.slice (some ⟨g, 0, none⟩) U.hs[s].n U.hs[s].c) ∧ V.frozen? ⟨g, a, none⟩ = false ∧ V.frozen? ⟨g, b, none⟩ = false ∧ V.cell? ⟨g, a, none⟩ = some (.int .i64 U.hs[s].l[a]) ∧ V.cell? ⟨g, b, none⟩ = some (.int .i64 U.hs[s].l[b]) ∧
    (∀ x, (V.setCell ⟨g, a, none⟩ (.int .i64 x)).cell? ⟨g2, s, none⟩ = some (.slice (some ⟨g, 0, none⟩) U.hs[s].n U.hs[s].c)) ∧ (∀ x, Box (V.setCell ⟨g, a, none⟩ (.int .i64 x)) gu U) ∧ (∀ x, ∃ y, (V.setCell ⟨g, a, none⟩ (.int .i64 x)).cell? ⟨g, b, none⟩ = some y) ∧
    ∀ x y, StU W T base gu ((V.setCell ⟨g, a, none⟩ (.int .i64 x)).setCell ⟨g, b, none⟩ (.int .i64 y)) { U with hs := U.hs.set s ((U.hs[s].put a x).put b y) } := by
  obtain ⟨g2, g, hA2, hA, hh, fa, ca, o1⟩ := h.ent hs ha hal
  obtain ⟨g2', g', hA2', hA', _, fb, cb, _⟩ := h.ent hs hb hbl
  rw [hA] at hA'
  injection hA' with e
  injection e with e
  subst e
  have key : ∀ x, (V.setCell ⟨g, a, none⟩ (.int .i64 x)).cell? ⟨g2, s, none⟩ = some (.slice (some ⟨g, 0, none⟩) U.hs[s].n U.hs[s].c) ∧ (∃ y, (V.setCell ⟨g, a, none⟩ (.int .i64 x)).cell? ⟨g, b, none⟩ = some y) ∧ ∀ y, StU W T base gu ((V.setCell ⟨g, a, none⟩ (.int .i64 x)).setCell ⟨g, b, none⟩ (.int .i64 y)) { U with hs := U.hs.set s ((U.hs[s].put a x).put b y) } := fun x => by
    have h1 := o1 x
    have hs1 : s < (U.hs.set s (U.hs[s].put a x)).length := by simpa using hs
    have e1 : (U.hs.set s (U.hs[s].put a x))[s]'hs1 = U.hs[s].put a x := List.getElem_set_self _
    obtain ⟨k2, k, hB2, hB, hc2, _, cb2, o2⟩ := h1.ent (s := s) (c := b) hs1 (by simp only [e1]; exact hb) (by simp only [e1]; unfold Hi.put; simpa using hbl)
    simp only [e1] at hB2 hB hc2 cb2 o2
    rw [hA2] at hB2
    injection hB2 with e2
    injection e2 with e2
    subst e2
    have hB' : U.hs[s].a = some ⟨k, 0, none⟩ := hB
    rw [hA] at hB'
    injection hB' with e3
    injection e3 with e3
    subst e3
    refine ⟨hc2, ⟨_, cb2⟩, fun y => ?_⟩
    have h3 := o2 y
    rw [List.set_set] at h3
    exact h3
  exact ⟨g2, g, hA2, hh, fa, fb, ca, cb, fun x => (key x).1, fun x => by
    have hb := (o1 x).ux
    exact hb, fun x => (key x).2.1, fun x y => (key x).2.2 y⟩
/-- Where a row's block stands. -/
theorem StU.apart {W V : World} {T U : TV} {base gu : Nat} (h : StU W T base gu V U) {s g g2 : Nat} (hs : s < U.hs.length) (hA2 : U.a2 = some ⟨g2, 0, none⟩) (hA : U.hs[s].a = some ⟨g, 0, none⟩) (hn : 0 < U.hs[s].n) : g ≠ gu ∧ g ≠ g2 := by
  have hl := h.lo.b4 _ (List.getElem_mem hs) g hA hn
  refine ⟨by omega, fun e => ?_⟩
  have hi := (h.ow.z2.inn _ (List.getElem_mem hs)).2
  refine own_apart (by decide) hi h.ow.z2.out (g := g2) (by rw [hA2]; rfl) ?_
  unfold Hi.v
  rw [hA, ← e]
  rfl
theorem StU.rowA {W V : World} {T U : TV} {base gu : Nat} (h : StU W T base gu V U) {s g2 g n c : Nat} (hs : s < U.hs.length) (hA2 : U.a2 = some ⟨g2, 0, none⟩) (hc : V.cell? ⟨g2, s, none⟩ = some (.slice (some ⟨g, 0, none⟩) n c)) : U.hs[s].a = some ⟨g, 0, none⟩ := by
  obtain ⟨g2', hA2', _, _, _, hc2, _⟩ := h.ow.nxt (k := s) (by have := h.ow.z2.len; omega)
  rw [hA2] at hA2'
  injection hA2' with e
  injection e with e
  subst e
  have hv := hc2 hs
  rw [hc] at hv
  injection hv with hv
  unfold Hi.v at hv
  injection hv with h1
  exact h1.symm
/-- For the drawn region: a box's cell and a row's header. -/
def Sx (gu g2 s : Nat) (u h : Value) (V : World) : Prop := V.cell? ⟨gu, 2, none⟩ = some u ∧ V.cell? ⟨g2, s, none⟩ = some h
theorem sx_dr {gu g2 s : Nat} {u h : Value} {V : World} (k : Sx gu g2 s u h V) : Sx gu g2 s u h V.drew := k
theorem sx_st {gu g2 s g i : Nat} {u h y : Value} {V : World} (h1 : g ≠ gu) (h2 : g ≠ g2) (k : Sx gu g2 s u h V) : Sx gu g2 s u h (V.setCell ⟨g, i, none⟩ y) :=
  ⟨by rw [World.cell?_setCell_far _ _ _ _ h1]; exact k.1, by rw [World.cell?_setCell_far _ _ _ _ h2]; exact k.2⟩
end Go.Proofs.YtmhfgncffkfelaaDoor
