/- What pair, Star, One, Leaf of package tree return. -/
import Derived.Test.YtfpiackfhdiapaaTrD
namespace Go.Proofs.Ytfpiackfhdiapaa.S
open Go.RowKit Go.BigFrame
set_option linter.unusedVariables false
set_option linter.unusedSimpArgs false

theorem flat_num : ∀ (e : Ex) (o : Nat), ∀ x ∈ flat e o, 0 ≤ x.a ∧ x.a ≤ (o + sz e : Nat) ∧ 0 ≤ x.b ∧ x.b ≤ (o + sz e : Nat)
  | .never, o, x, h => by simp [flat, rootN] at h; subst h; simp; omega
  | .empty, o, x, h => by simp [flat, rootN] at h; subst h; simp; omega
  | .one s m, o, x, h => by simp [flat, rootN] at h; subst h; simp; omega
  | .cat y z, o, x, h => by
    have hy := sz_pos y
    simp only [flat, List.mem_append, List.mem_singleton] at h
    rcases h with (h | h) | h
    · have := flat_num y o x h; simp only [sz]; omega
    · have := flat_num z (o + sz y) x h; simp only [sz]; omega
    · subst h; simp only [rootN, sz]; omega
  | .alt y z, o, x, h => by
    have hy := sz_pos y
    simp only [flat, List.mem_append, List.mem_singleton] at h
    rcases h with (h | h) | h
    · have := flat_num y o x h; simp only [sz]; omega
    · have := flat_num z (o + sz y) x h; simp only [sz]; omega
    · subst h; simp only [rootN, sz]; omega
  | .star y, o, x, h => by
    have hy := sz_pos y
    simp only [flat, List.mem_append, List.mem_singleton] at h
    rcases h with h | h
    · have := flat_num y o x h; simp only [sz]; omega
    · subst h; simp only [rootN, sz]; omega
theorem treeB_num {L : List NV} (h : treeB (nds L) = true) : NumT L := by
  obtain ⟨e, _, he, hl⟩ := (treeB_iff _).1 h
  intro x hx
  have hx' : x.nd ∈ flat e 0 := by rw [← he]; exact List.mem_map.2 ⟨x, hx, rfl⟩
  have h1 := flat_num e 0 _ hx'
  have h2 : (flat e 0).length ≤ 40000 := by rw [← he]; exact hl
  rw [flat_len] at h2
  simp only [NV.nd] at h1
  unfold Num
  omega
theorem treeB_len {L : List NV} {n : Nat} (hl : L.length = n) (h : treeB (nds L) = true) : 0 < n ∧ n ≤ 40000 := by
  unfold treeB at h
  simp only [Bool.and_eq_true, decide_eq_true_eq, nds_len] at h
  omega
/-- A node without a set or a name. -/
abbrev bare (k a b : Int) : NV := ⟨k, a, b, none, 0, 0, [], noName⟩
theorem OwnTr.grow {w w' : World} {base n m c c' : Nat} {A A' : Option Addr} {M1 M2 : List NV} (h1 : OwnTr w base A n c M1) (h2 : ∀ x ∈ M2, x.s.length = x.n ∧ w.ownsRow base 54 2 (.slice x.A x.n x.c) x.n (rcells x.s)) (hl : M2.length = m)
    (ho : w'.ownsRow base 48 5 (.slice A' (n + m) c') (n + m) (ncells M1 ++ ncells M2)) (hg : w.grownBy w' (Value.slice A n c).ownBlock) : OwnTr w' base A' (n + m) c' (M1 ++ M2) := by
  refine ⟨by rw [List.length_append, h1.len, hl], by rw [ncells_app]; exact ho, fun x hx => ?_⟩
  have hx' : x.s.length = x.n ∧ w.ownsRow base 54 2 (.slice x.A x.n x.c) x.n (rcells x.s) := by
    rcases List.mem_append.1 hx with hx | hx
    · exact h1.inn x hx
    · exact h2 x hx
  refine ⟨hx'.1, hx'.2.kept hg ?_⟩
  cases hb : (Value.slice x.A x.n x.c).ownBlock with
  | none => exact .inl rfl
  | some g =>
    refine .inr (fun e => ?_)
    exact own_types hx'.2 h1.out (by decide) hb e.symm
theorem own_inn_base {w : World} {base base' : Nat} {M : List NV} (h : ∀ x ∈ M, x.s.length = x.n ∧ w.ownsRow base' 54 2 (.slice x.A x.n x.c) x.n (rcells x.s)) (hb : base ≤ base') : ∀ x ∈ M, x.s.length = x.n ∧ w.ownsRow base 54 2 (.slice x.A x.n x.c) x.n (rcells x.s) :=
  fun x hx => ⟨(h x hx).1, own_base (h x hx).2 hb⟩
/-- A node laid alone. -/
theorem lit_node (w : World) (k a b : Int) (m : ByteArray) (A : Option Addr) (n c : Nat) (s : List Rg) : Reads (w.alloc (.cells #[.int .i64 k, .int .i64 a, .int .i64 b, .slice A n c, .string m] 48)) (w.heap.size + 1) 5 (some ⟨w.heap.size, 0, none⟩) 1 (ncells [(⟨k, a, b, A, n, c, s, m⟩ : NV)]) := by
  refine ⟨by rw [ncells_len]; rfl, fun _ => ⟨w.heap.size, 0, rfl, Nat.lt_succ_self _, fun j u hj => ?_⟩⟩
  have hj5 : j < 5 := by
    have := (List.getElem?_eq_some_iff.1 hj).1
    rwa [ncells_len] at this
  rw [Nat.zero_add]
  match j, hj5 with
  | 0, _ => simp [ncells, ncell] at hj; subst hj; simp
  | 1, _ => simp [ncells, ncell] at hj; subst hj; simp
  | 2, _ => simp [ncells, ncell] at hj; subst hj; simp
  | 3, _ => simp [ncells, ncell] at hj; subst hj; simp
  | 4, _ => simp [ncells, ncell] at hj; subst hj; simp
def OutT2 (T : Option (List Nd)) (w : World) (e : Ending) (w' : World) : Prop :=
  ∃ (A : Option Addr) (n c : Nat) (L : List NV), e = .returned (.tuple #[.slice A n c, .bool T.isSome]) ∧ OwnTr w' w.heap.size A n c L ∧ nds L = T.getD [] ∧ SmT L ∧ Below w.heap.size w w'
theorem outT2_no {w w' : World} {T : Option (List Nd)} (hT : T = none) (g : Below w.heap.size w w') : OutT2 T w (.returned (.tuple #[.slice none 0 0, .bool false])) w' :=
  ⟨none, 0, 0, [], by rw [hT]; rfl, OwnTr.nil _ _, by rw [hT]; rfl, fun x h => by simp at h, g⟩
/-- What is put together of two trees; of one. -/
def pairT (k : Int) (ta tb : List Nd) : Option (List Nd) :=
  if treeB ta = true ∧ treeB tb = true ∧ ta.length + tb.length < 40000 then some (ta.map (mv 0) ++ tb.map (mv ta.length) ++ [⟨k, (ta.length : Int) - 1, (ta.length + tb.length : Nat) - 1, [], noName⟩]) else none
def starT (ta : List Nd) : Option (List Nd) :=
  if treeB ta = true ∧ ta.length < 40000 then some (ta.map (mv 0) ++ [⟨5, (ta.length : Int) - 1, 0, [], noName⟩]) else none
theorem num0 : Num 0 := ⟨by decide, by decide⟩
theorem bare_in (w : World) (base : Nat) (k a b : Int) : ∀ x ∈ [bare k a b], x.s.length = x.n ∧ w.ownsRow base 54 2 (.slice x.A x.n x.c) x.n (rcells x.s) := by
  intro x hx
  simp at hx
  subst hx
  exact ⟨rfl, World.ownsRow_nil _ _ _ _⟩
theorem smT_app {M N : List NV} (h : SmT M) (h2 : SmT N) : SmT (M ++ N) := fun x hx => by
  rcases List.mem_append.1 hx with hx | hx
  · exact h x hx
  · exact h2 x hx
theorem smT_bare (k a b : Int) : SmT [bare k a b] := fun x hx => by simp at hx; subst hx; exact ⟨Nat.zero_le _, Nat.zero_le _⟩

set_option maxRecDepth 8000 in
set_option maxHeartbeats 4000000 in
theorem pair_any (k : Int) (La Lb : List NV) (A B : Option Addr) (na ca nb cb : Nat) (w : World) (hA : RT w w.heap.size A na La) (hB : RT w w.heap.size B nb Lb) (sA : SmT La) (sB : SmT Lb) (hna : na ≤ 100000) (hnb : nb ≤ 100000) :
    Calls Try.prog 28 #[.int .i64 k, .slice A na ca, .slice B nb cb] w (OutT2 (pairT k (nds La) (nds Lb)) w) := by
  have HGa := Lib.hid (fun V (g : Below w.heap.size w V) => treeGood_any La A na ca V (hA.on g) sA (by omega))
  have HGb := Lib.hid (fun V (g : Below w.heap.size w V) => treeGood_any Lb B nb cb V (hB.on g) sB (by omega))
  have HMa := Lib.hid (fun (h : treeB (nds La) = true) V (g : Below w.heap.size w V) => moved_any La A na ca 0 V (hA.on g) sA (treeB_num h) num0 (by omega))
  have HMb := Lib.hid (fun (h : treeB (nds Lb) = true) (h2 : na ≤ 40000) V (g : Below w.heap.size w V) => moved_any Lb B nb cb na V (hB.on g) sB (treeB_num h) ⟨by omega, by omega⟩ (by omega))
  have hla : (nds La).length = na := by rw [nds_len, hA.1]
  have hlb : (nds Lb).length = nb := by rw [nds_len, hB.1]
  have HLa := Lib.hid (fun h => treeB_len hA.1 h)
  have HLb := Lib.hid (fun h => treeB_len hB.1 h)
  obtain ⟨i0, hi0, hz0, hz1, hz2⟩ := info_parts info_node
  have HP : Hid (pairT k (nds La) (nds Lb) = if treeB (nds La) = true ∧ treeB (nds Lb) = true ∧ na + nb < 40000 then some ((nds La).map (mv 0) ++ (nds Lb).map (mv na) ++ [⟨k, (na : Int) - 1, (na + nb : Nat) - 1, [], noName⟩]) else none) := Lib.hid (by unfold pairT; rw [hla, hlb])
  have f1 : IntKind.i64.wrap ((na : Int) + (nb : Int)) = (na : Int) + nb := IntWalk.i64_in _ (by omega)
  have f2 : IntKind.i64.wrap ((na : Int) - 1) = (na : Int) - 1 := IntWalk.i64_in _ (by omega)
  have f3 : IntKind.i64.wrap ((na : Int) + (nb : Int) - 1) = (na : Int) + nb - 1 := IntWalk.i64_in _ (by omega)
  have f4 : IntKind.i64.wrap (((na + nb : Nat) : Int) - 1) = (na : Int) + nb - 1 := by rw [IntWalk.i64_in _ (by omega)]; omega
  clear hA hB sA sB hla hlb
  have b0 := Below.refl w.heap.size w
  obtain ⟨ga, hga⟩ : ∃ g, treeB (nds La) = g := ⟨_, rfl⟩
  obtain ⟨gb, hgb⟩ : ∃ g, treeB (nds Lb) = g := ⟨_, rfl⟩
  rw [hga] at HGa HMa HP HLa
  rw [hgb] at HGb HMb HP HLb
  clear hga hgb
  go_enter Try.func28, Try.ntmps28
  go_wp2_with fail
  refine (HGa.out _ b0).mono ?_
  rintro e w1 ⟨rfl, b1⟩
  cases ga with
  | false =>
    have HN : Hid (pairT k (nds La) (nds Lb) = none) := Lib.hid (by rw [HP.out, if_neg (fun h => by cases h.1)])
    go_wp2_with fail
    go_ret2
    exact outT2_no HN.out b1
  | true =>
  go_wp2_with fail
  refine (HGb.out _ b1).mono ?_
  rintro e w2 ⟨rfl, g2⟩
  have b2 := b1.trans (g2.mono b1.size)
  clear g2 b1
  cases gb with
  | false =>
    have HN : Hid (pairT k (nds La) (nds Lb) = none) := Lib.hid (by rw [HP.out, if_neg (fun h => by cases h.2.1)])
    go_wp2_with fail
    go_ret2
    exact outT2_no HN.out b2
  | true =>
  obtain ⟨la0, la1⟩ := HLa.out (by simp)
  obtain ⟨lb0, lb1⟩ := HLb.out (by simp)
  by_cases hs : 40000 ≤ na + nb
  · have hsI : (40000 : Int) ≤ (na : Int) + nb := by omega
    have HN : Hid (pairT k (nds La) (nds Lb) = none) := Lib.hid (by rw [HP.out, if_neg (fun h => by have := h.2.2; omega)])
    go_wp2_with fail
    go_ret2
    exact outT2_no HN.out b2
  have hsI : ¬ (40000 : Int) ≤ (na : Int) + nb := by omega
  have hsD : decide ((40000 : Int) ≤ (na : Int) + nb) = false := decide_eq_false hsI
  clear hs
  have HLa0 := Lib.hid la0
  have HLa1 := Lib.hid la1
  have HLb1 := Lib.hid lb1
  have HSI := Lib.hid hsI
  clear la0 la1 lb0 lb1 HLa HLb
  have HY : Hid (pairT k (nds La) (nds Lb) = some ((nds La).map (mv 0) ++ (nds Lb).map (mv na) ++ [⟨k, (na : Int) - 1, (na + nb : Nat) - 1, [], noName⟩])) := Lib.hid (by rw [HP.out, if_pos ⟨by simp, by simp, by have := HSI.out; omega⟩])
  go_wp2_with fail
  refine (HMa.out (by simp) _ b2).mono ?_
  rintro e w3 ⟨A1, c1, M1, rfl, o1, v1, s1, g3⟩
  have b3 := b2.trans (g3.mono b2.size)
  have HO1 := Lib.hid (o1.lower b2.size)
  have HV1 := Lib.hid v1
  have HS1 := Lib.hid s1
  clear o1 v1 s1 g3 b2 HMa HGa HGb HP
  go_wp2_with fail
  refine (HMb.out (by simp) HLa1.out _ b3).mono ?_
  rintro e w4 ⟨A2, c2, M2, rfl, o2, v2, s2, g4⟩
  have b4 := b3.trans (g4.mono b3.size)
  have HO1' := Lib.hid (HO1.out.on g4)
  have HO2 := Lib.hid o2
  have HV2 := Lib.hid v2
  have HS2 := Lib.hid s2
  have HI2 := Lib.hid (own_inn_base o2.inn b3.size)
  have HNil : Hid (A2 = none → c2 = 0) := Lib.hid o2.shp.1
  have HRd := Lib.hid o2.rt.2.1
  have HOne := Lib.hid (ncells_one M2)
  have hsz4 := b4.size
  clear o2 v2 s2 g4 b3 HO1 HMb
  go_wp2_with (at_builtin; refine wpList_append_src rfl _ _ 23 rfl w.heap.size 48 i0 _ 5 64 Try.underlying23 hi0 hz0 hz1 hz2 rfl (by decide) _ _ _ rfl HO1'.out.out A2 nb c2 w4.heap.size (ncells M2) rfl HNil.out HRd.out HOne.out ?c3 ?c4 (by omega) ?_)
  case c3 => unfold maxLen; omega
  case c4 => omega
  intro A3 c3 w5 hown5 hnil5 hgrow5
  have HO3 := Lib.hid (HO1'.out.grow HI2.out HO2.out.len hown5 hgrow5)
  have b5 : Below w.heap.size w w5 := below_grown b4 hsz4 HO1'.out.out hgrow5
  have hsz5 := b5.size
  clear hown5 hnil5 hgrow5 HI2 HNil HRd HOne b4 hsz4 HO1' HO2
  have HR6 := Lib.hid (lit_node w5 k ((na : Int) - 1) ((na : Int) + nb - 1) noName none 0 0 [])
  have HO6 := Lib.hid (HO3.out.on (below_new w5 (.cells #[.int .i64 k, .int .i64 ((na : Int) - 1), .int .i64 ((na : Int) + nb - 1), .slice none 0 0, .string noName] 48)))
  have b6 := b5.alloc hsz5 (.cells #[.int .i64 k, .int .i64 ((na : Int) - 1), .int .i64 ((na : Int) + nb - 1), .slice none 0 0, .string noName] 48)
  have HOne := Lib.hid (ncells_one [bare k ((na : Int) - 1) ((na : Int) + nb - 1)])
  have HNil : Hid ((some ⟨w5.heap.size, 0, none⟩ : Option Addr) = none → (1 : Nat) = 0) := Lib.hid (fun h => by cases h)
  have hsz6 := b6.size
  go_wp2_with (at_builtin; refine wpList_append_src rfl _ _ 23 rfl w.heap.size 48 i0 _ 5 64 Try.underlying23 hi0 hz0 hz1 hz2 rfl (by decide) _ _ _ rfl HO6.out.out (some ⟨w5.heap.size, 0, none⟩) 1 1 (w5.heap.size + 1) (ncells [bare k ((na : Int) - 1) ((na : Int) + nb - 1)]) rfl HNil.out HR6.out HOne.out ?c3 ?c4 (by omega) ?_)
  case c3 => unfold maxLen; omega
  case c4 => omega
  intro A7 c7 w7 hown7 hnil7 hgrow7
  have HO7 := Lib.hid (HO6.out.grow (bare_in _ _ k ((na : Int) - 1) ((na : Int) + nb - 1)) rfl hown7 hgrow7)
  have b7 : Below w.heap.size w w7 := below_grown b6 hsz6 HO6.out.out hgrow7
  clear hown7 hnil7 hgrow7 HR6 HO6 HOne HNil HO3
  go_wp2_with fail
  go_ret2
  refine ⟨A7, na + nb + 1, c7, M1 ++ M2 ++ [bare k ((na : Int) - 1) ((na : Int) + nb - 1)], by rw [HY.out]; rfl, HO7.out, ?_, smT_app (smT_app HS1.out HS2.out) (smT_bare _ _ _), b7⟩
  rw [HY.out, nds_app, nds_app, HV1.out, HV2.out]
  rfl
end Go.Proofs.Ytfpiackfhdiapaa.S
