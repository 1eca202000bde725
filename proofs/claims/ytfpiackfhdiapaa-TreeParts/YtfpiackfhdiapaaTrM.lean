/- Trees in plain mathematics: nodes in a row, root last; expressions; when a row of nodes is one expression's. -/
import Derived.Test.YtfpiackfhdiapaaKSets
namespace Go.Proofs.Ytfpiackfhdiapaa.S
set_option linter.unusedVariables false
set_option linter.unusedSimpArgs false

/-- A node: kind, children, set, name. -/
structure Nd where
  k : Int
  a : Int
  b : Int
  s : List Rg
  m : ByteArray
abbrev noName : ByteArray := ⟨#[]⟩
/-- A node's marks are those of its kind. -/
def labB (n : Nd) : Bool := if n.k = 2 then (!n.s.isEmpty && goodB n.s) else (n.s.isEmpty && n.m.data.toList.isEmpty)
/-- Where a node's tree begins, by where those ahead of it begin. -/
def stepB (acc : List Nat) (n : Nd) : Option Nat :=
  if n.k = 0 ∨ n.k = 1 ∨ n.k = 2 then (if n.a = 0 ∧ n.b = 0 then some acc.length else none)
  else match acc.getLast? with
  | none => none
  | some z =>
    if n.k = 5 then (if n.a = (acc.length : Int) - 1 ∧ n.b = 0 then some z else none)
    else if n.k = 3 ∨ n.k = 4 then (if n.b = (acc.length : Int) - 1 ∧ 0 < z ∧ n.a = (z : Int) - 1 then acc[z - 1]? else none)
    else none
def nextBg (o : Option (List Nat)) (n : Nd) : Option (List Nat) := o.bind fun acc => if labB n then (stepB acc n).map (fun b => acc ++ [b]) else none
def bgs (t : List Nd) : Option (List Nat) := t.foldl nextBg (some [])
theorem bgs_snoc (t : List Nd) (n : Nd) : bgs (t ++ [n]) = nextBg (bgs t) n := by simp [bgs]
theorem foldl_none (u : List Nd) : u.foldl nextBg none = none := by
  induction u with
  | nil => rfl
  | cons n u ih => exact ih
theorem bgs_app_none {t : List Nd} (u : List Nd) (h : bgs t = none) : bgs (t ++ u) = none := by
  unfold bgs at *
  rw [List.foldl_append, h, foldl_none]
theorem bgs_snoc_some {t : List Nd} {n : Nd} {bs : List Nat} (h : bgs (t ++ [n]) = some bs) : ∃ b0 b, bgs t = some b0 ∧ labB n = true ∧ stepB b0 n = some b ∧ bs = b0 ++ [b] := by
  rw [bgs_snoc] at h
  unfold nextBg at h
  cases h0 : bgs t with
  | none => rw [h0] at h; cases h
  | some b0 =>
    rw [h0] at h
    simp only [Option.bind_some] at h
    by_cases hl : labB n = true
    · rw [if_pos hl] at h
      obtain ⟨b, hb, rfl⟩ := Option.map_eq_some_iff.1 h
      exact ⟨b0, b, rfl, hl, hb, rfl⟩
    · rw [if_neg hl] at h; cases h
/-- A row of nodes that may be a tree. -/
def treeB (t : List Nd) : Bool := decide (0 < t.length) && (decide (t.length ≤ 40000) && (match bgs t with | some bs => bs.getLast? == some 0 | none => false))

/-- Expressions. -/
inductive Ex where
  | never | empty
  | one (s : List Rg) (m : ByteArray)
  | cat (x y : Ex) | alt (x y : Ex)
  | star (x : Ex)
def sz : Ex → Nat
  | .never => 1 | .empty => 1 | .one _ _ => 1
  | .cat x y => sz x + sz y + 1
  | .alt x y => sz x + sz y + 1
  | .star x => sz x + 1
theorem sz_pos : ∀ e, 0 < sz e
  | .never => Nat.one_pos | .empty => Nat.one_pos | .one _ _ => Nat.one_pos
  | .cat x y => Nat.succ_pos _ | .alt x y => Nat.succ_pos _ | .star x => Nat.succ_pos _
def rootN (e : Ex) (o : Nat) : Nd := match e with
  | .never => ⟨0, 0, 0, [], noName⟩
  | .empty => ⟨1, 0, 0, [], noName⟩
  | .one s m => ⟨2, 0, 0, s, m⟩
  | .cat x y => ⟨3, (o + sz x : Nat) - 1, (o + sz x + sz y : Nat) - 1, [], noName⟩
  | .alt x y => ⟨4, (o + sz x : Nat) - 1, (o + sz x + sz y : Nat) - 1, [], noName⟩
  | .star x => ⟨5, (o + sz x : Nat) - 1, 0, [], noName⟩
def kids (f : Ex → Nat → List Nd) (e : Ex) (o : Nat) : List Nd := match e with
  | .cat x y => f x o ++ f y (o + sz x)
  | .alt x y => f x o ++ f y (o + sz x)
  | .star x => f x o
  | _ => []
def flat : Ex → Nat → List Nd
  | .never, o => [rootN .never o]
  | .empty, o => [rootN .empty o]
  | .one s m, o => [rootN (.one s m) o]
  | .cat x y, o => (flat x o ++ flat y (o + sz x)) ++ [rootN (.cat x y) o]
  | .alt x y, o => (flat x o ++ flat y (o + sz x)) ++ [rootN (.alt x y) o]
  | .star x, o => flat x o ++ [rootN (.star x) o]
theorem flat_kids (e : Ex) (o : Nat) : flat e o = kids flat e o ++ [rootN e o] := by cases e <;> rfl
theorem flat_len : ∀ (e : Ex) (o : Nat), (flat e o).length = sz e
  | .never, _ => rfl | .empty, _ => rfl | .one _ _, _ => rfl
  | .cat x y, o => by simp only [flat, List.length_append, flat_len x, flat_len y, sz, List.length_singleton]
  | .alt x y, o => by simp only [flat, List.length_append, flat_len x, flat_len y, sz, List.length_singleton]
  | .star x, o => by simp only [flat, List.length_append, flat_len x, sz, List.length_singleton]
/-- Every One's set may be, and is not nothing. -/
def gdE : Ex → Prop
  | .never => True | .empty => True
  | .one s _ => s ≠ [] ∧ goodB s = true
  | .cat x y => gdE x ∧ gdE y
  | .alt x y => gdE x ∧ gdE y
  | .star x => gdE x

theorem lab_root (e : Ex) (o : Nat) (h : gdE e) : labB (rootN e o) = true := by
  cases e <;> simp [labB, rootN] <;> exact h

/-- A row that is put behind good nodes goes on well. -/
theorem bgs_flat : ∀ (e : Ex) (pre : List Nd) (bp : List Nat), gdE e → bgs pre = some bp → bp.length = pre.length → ∃ q, bgs (pre ++ flat e pre.length) = some (bp ++ q) ∧ q.length = sz e ∧ q.getLast? = some pre.length := by
  intro e
  induction e with
  | never =>
    intro pre bp hg hp hl
    refine ⟨[pre.length], ?_, rfl, rfl⟩
    show bgs (pre ++ [_]) = _
    rw [bgs_snoc, hp]
    simp [nextBg, labB, rootN, stepB, hl]
  | empty =>
    intro pre bp hg hp hl
    refine ⟨[pre.length], ?_, rfl, rfl⟩
    show bgs (pre ++ [_]) = _
    rw [bgs_snoc, hp]
    simp [nextBg, labB, rootN, stepB, hl]
  | one s m =>
    intro pre bp hg hp hl
    refine ⟨[pre.length], ?_, rfl, rfl⟩
    show bgs (pre ++ [_]) = _
    rw [bgs_snoc, hp]
    have := lab_root (.one s m) pre.length hg
    simp only [nextBg, Option.bind_some, this, if_true]
    simp [rootN, stepB, hl]
  | cat x y ihx ihy =>
    intro pre bp hg hp hl
    obtain ⟨q, h1, h2, h3⟩ := ihx pre bp hg.1 hp hl
    have hlx : (pre ++ flat x pre.length).length = pre.length + sz x := by rw [List.length_append, flat_len]
    obtain ⟨r, h4, h5, h6⟩ := ihy (pre ++ flat x pre.length) (bp ++ q) hg.2 h1 (by rw [List.length_append, hlx, hl, h2])
    rw [hlx] at h4 h6
    refine ⟨q ++ r ++ [pre.length], ?_, by simp [h2, h5, sz]; omega, by simp⟩
    have e : pre ++ flat (.cat x y) pre.length = (pre ++ flat x pre.length ++ flat y (pre.length + sz x)) ++ [rootN (.cat x y) pre.length] := by simp [flat]
    rw [e, bgs_snoc, h4]
    have hlb := lab_root (.cat x y) pre.length hg
    simp only [nextBg, Option.bind_some, hlb, if_true]
    have hne : r ≠ [] := fun e => by rw [e] at h6; cases h6
    have hlast : (bp ++ q ++ r).getLast? = some (pre.length + sz x) := by
      rw [List.getLast?_append, h6]; rfl
    have hlen : (bp ++ q ++ r).length = pre.length + sz x + sz y := by simp [hl, h2, h5]; omega
    have hat : (bp ++ q ++ r)[pre.length + sz x - 1]? = some pre.length := by
      have hq : q.length = sz x := h2
      have hp0 := sz_pos x
      rw [List.getElem?_append_left (by rw [List.length_append, hl, hq]; omega), List.getElem?_append_right (by omega), hl]
      rw [List.getLast?_eq_getElem?] at h3
      rw [← h3, hq]
      congr 1
      omega
    have hs : stepB (bp ++ q ++ r) (rootN (.cat x y) pre.length) = some pre.length := by
      have c1 : ¬ ((rootN (.cat x y) pre.length).k = 0 ∨ (rootN (.cat x y) pre.length).k = 1 ∨ (rootN (.cat x y) pre.length).k = 2) := by show ¬ ((3 : Int) = 0 ∨ (3 : Int) = 1 ∨ (3 : Int) = 2); decide
      have c2 : ¬ (rootN (.cat x y) pre.length).k = 5 := by show ¬ ((3 : Int) = 5); decide
      have c3 : (rootN (.cat x y) pre.length).k = 3 ∨ (rootN (.cat x y) pre.length).k = 4 := by show (3 : Int) = 3 ∨ (3 : Int) = 4; decide
      have c4 : (rootN (.cat x y) pre.length).b = ((bp ++ q ++ r).length : Int) - 1 ∧ 0 < pre.length + sz x ∧ (rootN (.cat x y) pre.length).a = ((pre.length + sz x : Nat) : Int) - 1 := by
        rw [hlen]
        exact ⟨rfl, by have := sz_pos x; omega, rfl⟩
      unfold stepB
      rw [if_neg c1, hlast]
      simp only []
      rw [if_neg c2, if_pos c3, if_pos c4]
      exact hat
    rw [hs]
    simp
  | alt x y ihx ihy =>
    intro pre bp hg hp hl
    obtain ⟨q, h1, h2, h3⟩ := ihx pre bp hg.1 hp hl
    have hlx : (pre ++ flat x pre.length).length = pre.length + sz x := by rw [List.length_append, flat_len]
    obtain ⟨r, h4, h5, h6⟩ := ihy (pre ++ flat x pre.length) (bp ++ q) hg.2 h1 (by rw [List.length_append, hlx, hl, h2])
    rw [hlx] at h4 h6
    refine ⟨q ++ r ++ [pre.length], ?_, by simp [h2, h5, sz]; omega, by simp⟩
    have e : pre ++ flat (.alt x y) pre.length = (pre ++ flat x pre.length ++ flat y (pre.length + sz x)) ++ [rootN (.alt x y) pre.length] := by simp [flat]
    rw [e, bgs_snoc, h4]
    have hlb := lab_root (.alt x y) pre.length hg
    simp only [nextBg, Option.bind_some, hlb, if_true]
    have hne : r ≠ [] := fun e => by rw [e] at h6; cases h6
    have hlast : (bp ++ q ++ r).getLast? = some (pre.length + sz x) := by
      rw [List.getLast?_append, h6]; rfl
    have hlen : (bp ++ q ++ r).length = pre.length + sz x + sz y := by simp [hl, h2, h5]; omega
    have hat : (bp ++ q ++ r)[pre.length + sz x - 1]? = some pre.length := by
      have hq : q.length = sz x := h2
      have hp0 := sz_pos x
      rw [List.getElem?_append_left (by rw [List.length_append, hl, hq]; omega), List.getElem?_append_right (by omega), hl]
      rw [List.getLast?_eq_getElem?] at h3
      rw [← h3, hq]
      congr 1
      omega
    have hs : stepB (bp ++ q ++ r) (rootN (.alt x y) pre.length) = some pre.length := by
      have c1 : ¬ ((rootN (.alt x y) pre.length).k = 0 ∨ (rootN (.alt x y) pre.length).k = 1 ∨ (rootN (.alt x y) pre.length).k = 2) := by show ¬ ((4 : Int) = 0 ∨ (4 : Int) = 1 ∨ (4 : Int) = 2); decide
      have c2 : ¬ (rootN (.alt x y) pre.length).k = 5 := by show ¬ ((4 : Int) = 5); decide
      have c3 : (rootN (.alt x y) pre.length).k = 3 ∨ (rootN (.alt x y) pre.length).k = 4 := by show (4 : Int) = 3 ∨ (4 : Int) = 4; decide
      have c4 : (rootN (.alt x y) pre.length).b = ((bp ++ q ++ r).length : Int) - 1 ∧ 0 < pre.length + sz x ∧ (rootN (.alt x y) pre.length).a = ((pre.length + sz x : Nat) : Int) - 1 := by
        rw [hlen]
        exact ⟨rfl, by have := sz_pos x; omega, rfl⟩
      unfold stepB
      rw [if_neg c1, hlast]
      simp only []
      rw [if_neg c2, if_pos c3, if_pos c4]
      exact hat
    rw [hs]
    simp
  | star x ihx =>
    intro pre bp hg hp hl
    obtain ⟨q, h1, h2, h3⟩ := ihx pre bp hg hp hl
    refine ⟨q ++ [pre.length], ?_, by simp [h2, sz], by simp⟩
    have e : pre ++ flat (.star x) pre.length = (pre ++ flat x pre.length) ++ [rootN (.star x) pre.length] := by simp [flat]
    rw [e, bgs_snoc, h1]
    have hlb := lab_root (.star x) pre.length hg
    simp only [nextBg, Option.bind_some, hlb, if_true]
    have hlast : (bp ++ q).getLast? = some pre.length := by rw [List.getLast?_append, h3]; rfl
    have hlen : (bp ++ q).length = pre.length + sz x := by simp [hl, h2]
    have hs : stepB (bp ++ q) (rootN (.star x) pre.length) = some pre.length := by
      have c1 : ¬ ((rootN (.star x) pre.length).k = 0 ∨ (rootN (.star x) pre.length).k = 1 ∨ (rootN (.star x) pre.length).k = 2) := by show ¬ ((5 : Int) = 0 ∨ (5 : Int) = 1 ∨ (5 : Int) = 2); decide
      have c2 : (rootN (.star x) pre.length).k = 5 := rfl
      have c4 : (rootN (.star x) pre.length).a = ((bp ++ q).length : Int) - 1 ∧ (rootN (.star x) pre.length).b = 0 := by
        rw [hlen]
        exact ⟨rfl, rfl⟩
      unfold stepB
      rw [if_neg c1, hlast]
      simp only []
      rw [if_pos c2, if_pos c4]
    rw [hs]
    simp

theorem snocInd {α : Type} {P : List α → Prop} (h0 : P []) (h1 : ∀ t n, P t → P (t ++ [n])) (t : List α) : P t := by
  have key : ∀ u : List α, P u.reverse := fun u => by
    induction u with
    | nil => exact h0
    | cons a u ih => rw [List.reverse_cons]; exact h1 _ _ ih
  simpa using key t.reverse
theorem bgs_len : ∀ (t : List Nd) (bs : List Nat), bgs t = some bs → bs.length = t.length := by
  intro t
  induction t using snocInd with
  | h0 => intro bs h; cases h; rfl
  | h1 t n ih =>
    intro bs h
    obtain ⟨b0, b, h0, _, _, rfl⟩ := bgs_snoc_some h
    simp [ih b0 h0]

theorem app_same {α : Type} {a b c d : List α} (h : a ++ b = c ++ d) (hl : a.length = c.length) : a = c ∧ b = d := List.append_inj h hl

theorem root_leaf {n : Nd} (h : n.k = 0 ∨ n.k = 1 ∨ n.k = 2) (ha : n.a = 0) (hb : n.b = 0) (hl : labB n = true) : ∃ e, gdE e ∧ sz e = 1 ∧ ∀ o, flat e o = [n] := by
  obtain ⟨k, a, b, s, m⟩ := n
  simp only at h ha hb
  subst ha hb
  unfold labB at hl
  rcases h with rfl | rfl | rfl
  · simp only [show ¬ ((0 : Int) = 2) by decide, if_false, Bool.and_eq_true, List.isEmpty_iff] at hl
    obtain ⟨rfl, hm⟩ := hl
    obtain ⟨⟨m⟩⟩ := m
    simp only at hm
    subst hm
    exact ⟨.never, trivial, rfl, fun _ => rfl⟩
  · simp only [show ¬ ((1 : Int) = 2) by decide, if_false, Bool.and_eq_true, List.isEmpty_iff] at hl
    obtain ⟨rfl, hm⟩ := hl
    obtain ⟨⟨m⟩⟩ := m
    simp only at hm
    subst hm
    exact ⟨.empty, trivial, rfl, fun _ => rfl⟩
  · rw [if_pos rfl] at hl
    simp only [Bool.and_eq_true, Bool.not_eq_true', List.isEmpty_eq_false_iff] at hl
    exact ⟨.one s m, hl, rfl, fun _ => rfl⟩
theorem root_bare {n : Nd} (h : ¬ n.k = 2) (hl : labB n = true) : n.s = [] ∧ n.m = noName := by
  obtain ⟨k, a, b, s, m⟩ := n
  unfold labB at hl
  rw [if_neg h] at hl
  simp only [Bool.and_eq_true, List.isEmpty_iff] at hl
  obtain ⟨rfl, hm⟩ := hl
  obtain ⟨⟨m⟩⟩ := m
  simp only at hm
  subst hm
  exact ⟨rfl, rfl⟩

/-- Every node's tree is an expression's. -/
theorem parse : ∀ (t : List Nd) (bs : List Nat), bgs t = some bs → ∀ i (hi : i < bs.length), ∃ pre e post, gdE e ∧ t = pre ++ flat e pre.length ++ post ∧ pre.length = bs[i] ∧ pre.length + sz e = i + 1 := by
  intro t
  induction t using snocInd with
  | h0 => intro bs h i hi; cases h; simp at hi
  | h1 t n ih =>
    intro bs h i hi
    obtain ⟨b0, b, h0, hl, hs, rfl⟩ := bgs_snoc_some h
    have hlen := bgs_len _ _ h0
    by_cases hi0 : i < b0.length
    · obtain ⟨pre, e, post, g1, g2, g3, g4⟩ := ih b0 h0 i hi0
      exact ⟨pre, e, post ++ [n], g1, by rw [g2]; simp, by rw [g3, List.getElem_append_left hi0], g4⟩
    · have hie : i = b0.length := by simp at hi; omega
      subst hie
      rw [List.getElem_append_right (Nat.le_refl _)]
      simp only [Nat.sub_self, List.getElem_cons_zero]
      unfold stepB at hs
      by_cases hk : n.k = 0 ∨ n.k = 1 ∨ n.k = 2
      · rw [if_pos hk] at hs
        by_cases hab : n.a = 0 ∧ n.b = 0
        · rw [if_pos hab] at hs
          cases hs
          obtain ⟨e, g1, g2, g3⟩ := root_leaf hk hab.1 hab.2 hl
          exact ⟨t, e, [], g1, by rw [g3]; simp, hlen.symm, by rw [g2]; omega⟩
        · rw [if_neg hab] at hs; cases hs
      · rw [if_neg hk] at hs
        cases hz : b0.getLast? with
        | none => rw [hz] at hs; cases hs
        | some z =>
          rw [hz] at hs
          simp only at hs
          have hzl := List.getLast?_eq_getElem? (l := b0)
          rw [hz] at hzl
          have hb0 : 0 < b0.length := by
            cases b0 with
            | nil => cases hz
            | cons => simp
          have hzi : b0[b0.length - 1] = z := by
            rw [List.getElem?_eq_getElem (by omega)] at hzl
            exact (Option.some.inj hzl).symm
          obtain ⟨pre, e, post, g1, g2, g3, g4⟩ := ih b0 h0 (b0.length - 1) (by omega)
          rw [hzi] at g3
          have hpost : post = [] := by
            have := congrArg List.length g2
            simp only [List.length_append, flat_len] at this
            exact List.eq_nil_of_length_eq_zero (by omega)
          subst hpost
          rw [List.append_nil] at g2
          by_cases h5 : n.k = 5
          · rw [if_pos h5] at hs
            by_cases hab : n.a = (b0.length : Int) - 1 ∧ n.b = 0
            · rw [if_pos hab] at hs
              cases hs
              have hnr : n = rootN (.star e) pre.length := by
                obtain ⟨r1, r2⟩ := root_bare (by omega) hl
                obtain ⟨k, a, b, s, m⟩ := n
                simp only at hab h5 r1 r2
                obtain ⟨rfl, rfl⟩ := hab
                subst h5 r1 r2
                simp only [rootN]
                congr 1
                omega
              refine ⟨pre, .star e, [], g1, ?_, g3, by simp only [sz]; omega⟩
              rw [g2, hnr]
              simp [flat]
            · rw [if_neg hab] at hs; cases hs
          · rw [if_neg h5] at hs
            by_cases h34 : n.k = 3 ∨ n.k = 4
            · rw [if_pos h34] at hs
              by_cases hab : n.b = (b0.length : Int) - 1 ∧ 0 < z ∧ n.a = (z : Int) - 1
              · rw [if_pos hab] at hs
                obtain ⟨hb, hz0, ha⟩ := hab
                have hzl2 : z - 1 < b0.length := by
                  by_cases h : z - 1 < b0.length
                  · exact h
                  · rw [List.getElem?_eq_none (by omega)] at hs; cases hs
                rw [List.getElem?_eq_getElem hzl2] at hs
                have hsb := Option.some.inj hs
                obtain ⟨pre', e', post', k1, k2, k3, k4⟩ := ih b0 h0 (z - 1) hzl2
                rw [hsb] at k3
                have hpre : pre = pre' ++ flat e' pre'.length := by
                  have : pre ++ flat e pre.length = (pre' ++ flat e' pre'.length) ++ post' := by rw [← g2, k2]
                  exact (app_same this (by rw [List.length_append, flat_len]; omega)).1
                have hpl : pre.length = pre'.length + sz e' := by rw [hpre, List.length_append, flat_len]
                obtain ⟨r1, r2⟩ := root_bare (by omega) hl
                obtain ⟨k, a, b', s, m⟩ := n
                simp only at h34 ha hb r1 r2
                subst r1 r2
                rcases h34 with rfl | rfl
                · refine ⟨pre', .cat e' e, [], ⟨k1, g1⟩, ?_, k3, by simp only [sz]; omega⟩
                  rw [g2, hpl, hpre]
                  simp only [flat, List.append_assoc, List.append_nil, rootN]
                  congr 1
                  congr 1
                  congr 1
                  congr 1
                  congr 1
                  · omega
                  · omega
                · refine ⟨pre', .alt e' e, [], ⟨k1, g1⟩, ?_, k3, by simp only [sz]; omega⟩
                  rw [g2, hpl, hpre]
                  simp only [flat, List.append_assoc, List.append_nil, rootN]
                  congr 1
                  congr 1
                  congr 1
                  congr 1
                  congr 1
                  · omega
                  · omega
              · rw [if_neg hab] at hs; cases hs
            · rw [if_neg h34] at hs; cases hs

/-- A row of nodes may be a tree just if it is a good expression's. -/
theorem treeB_iff (t : List Nd) : treeB t = true ↔ ∃ e, gdE e ∧ t = flat e 0 ∧ t.length ≤ 40000 := by
  unfold treeB
  simp only [Bool.and_eq_true, decide_eq_true_eq]
  constructor
  · rintro ⟨h1, h2, h3⟩
    cases hb : bgs t with
    | none => rw [hb] at h3; cases h3
    | some bs =>
      rw [hb] at h3
      simp only [beq_iff_eq] at h3
      have hl := bgs_len _ _ hb
      obtain ⟨pre, e, post, g1, g2, g3, g4⟩ := parse t bs hb (t.length - 1) (by omega)
      rw [List.getLast?_eq_getElem?, hl, List.getElem?_eq_getElem (by omega)] at h3
      rw [Option.some.inj h3] at g3
      have hpre := List.eq_nil_of_length_eq_zero g3
      subst hpre
      have hpost : post = [] := by
        have := congrArg List.length g2
        simp only [List.length_append, flat_len, List.length_nil] at this g4
        exact List.eq_nil_of_length_eq_zero (by omega)
      subst hpost
      exact ⟨e, g1, by simpa using g2, h2⟩
  · rintro ⟨e, g1, rfl, h2⟩
    refine ⟨by rw [flat_len]; exact sz_pos e, h2, ?_⟩
    obtain ⟨q, h3, h4, h5⟩ := bgs_flat e [] [] g1 rfl rfl
    simp only [List.nil_append, List.length_nil] at h3 h5
    rw [h3]
    simp [h5]

/-- Nodes moved by so many. -/
def mv (d : Int) (n : Nd) : Nd := if n.k = 5 then { n with a := n.a + d } else if n.k = 3 ∨ n.k = 4 then { n with a := n.a + d, b := n.b + d } else n
theorem flat_mv : ∀ (e : Ex) (o o' : Nat), (flat e o).map (mv ((o' : Int) - o)) = flat e o'
  | .never, _, _ => rfl | .empty, _, _ => rfl | .one _ _, _, _ => rfl
  | .cat x y, o, o' => by
    have h2 := flat_mv y (o + sz x) (o' + sz x)
    rw [show ((o' + sz x : Nat) : Int) - ((o + sz x : Nat) : Int) = (o' : Int) - o by omega] at h2
    simp only [flat, List.map_append, flat_mv x o o', h2, List.map_cons, List.map_nil]
    congr 2
    simp only [rootN, mv, show ¬ ((3 : Int) = 5) by decide, if_false, true_or, if_true]
    congr 1 <;> omega
  | .alt x y, o, o' => by
    have h2 := flat_mv y (o + sz x) (o' + sz x)
    rw [show ((o' + sz x : Nat) : Int) - ((o + sz x : Nat) : Int) = (o' : Int) - o by omega] at h2
    simp only [flat, List.map_append, flat_mv x o o', h2, List.map_cons, List.map_nil]
    congr 2
    simp only [rootN, mv, show ¬ ((4 : Int) = 5) by decide, if_false, or_true, if_true]
    congr 1 <;> omega
  | .star x, o, o' => by
    simp only [flat, List.map_append, flat_mv x o o', List.map_cons, List.map_nil]
    congr 2
    simp only [rootN, mv, if_true]
    congr 1
    omega
theorem flat_ne (e : Ex) (o : Nat) : flat e o ≠ [] := fun h => by have := congrArg List.length h; rw [flat_len] at this; have := sz_pos e; simp at *; omega
/-- An expression is told by its nodes. -/
theorem flat_inj : ∀ (e e' : Ex) (o : Nat), flat e o = flat e' o → e = e' := by
  have hroot : ∀ (e e' : Ex) (o : Nat), flat e o = flat e' o → kids flat e o = kids flat e' o ∧ rootN e o = rootN e' o := by
    intro e e' o h
    rw [flat_kids e, flat_kids e'] at h
    have hl : (kids flat e o).length = (kids flat e' o).length := by have := congrArg List.length h; simpa using this
    obtain ⟨h1, h2⟩ := app_same h hl
    exact ⟨h1, by simpa using h2⟩
  intro e
  induction e with
  | never => intro e' o h; have := congrArg Nd.k (hroot _ _ o h).2; cases e' <;> simp [rootN] at this ⊢
  | empty => intro e' o h; have := congrArg Nd.k (hroot _ _ o h).2; cases e' <;> simp [rootN] at this ⊢
  | one s m =>
    intro e' o h
    have h2 := (hroot _ _ o h).2
    have := congrArg Nd.k h2
    cases e' <;> simp [rootN] at this
    have h3 := congrArg Nd.s h2
    have h4 := congrArg Nd.m h2
    simp only [rootN] at h3 h4
    rw [h3, h4]
  | cat x y ihx ihy =>
    intro e' o h
    obtain ⟨h1, h2⟩ := hroot _ _ o h
    have := congrArg Nd.k h2
    cases e' <;> simp [rootN] at this
    rename_i x' y'
    have h3 := congrArg Nd.a h2
    simp only [rootN] at h3
    have hs : sz x = sz x' := by omega
    simp only [kids] at h1
    obtain ⟨k1, k2⟩ := app_same h1 (by rw [flat_len, flat_len, hs])
    rw [ihx _ _ k1, ihy y' (o + sz x) (by rw [k2, hs])]
  | alt x y ihx ihy =>
    intro e' o h
    obtain ⟨h1, h2⟩ := hroot _ _ o h
    have := congrArg Nd.k h2
    cases e' <;> simp [rootN] at this
    rename_i x' y'
    have h3 := congrArg Nd.a h2
    simp only [rootN] at h3
    have hs : sz x = sz x' := by omega
    simp only [kids] at h1
    obtain ⟨k1, k2⟩ := app_same h1 (by rw [flat_len, flat_len, hs])
    rw [ihx _ _ k1, ihy y' (o + sz x) (by rw [k2, hs])]
  | star x ihx =>
    intro e' o h
    obtain ⟨h1, h2⟩ := hroot _ _ o h
    have := congrArg Nd.k h2
    cases e' <;> simp [rootN] at this
    simp only [kids] at h1
    rw [ihx _ _ h1]
end Go.Proofs.Ytfpiackfhdiapaa.S
