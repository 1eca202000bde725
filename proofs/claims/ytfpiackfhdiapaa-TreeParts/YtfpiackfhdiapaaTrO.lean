/- What Cat, Alt, Star, One, Leaf of package tree return. -/
import Derived.Test.YtfpiackfhdiapaaTrP
namespace Go.Proofs.Ytfpiackfhdiapaa.S
open Go.RowKit Go.BigFrame
set_option linter.unusedVariables false
set_option linter.unusedSimpArgs false

theorem cat_any (La Lb : List NV) (A B : Option Addr) (na ca nb cb : Nat) (w : World) (hA : RT w w.heap.size A na La) (hB : RT w w.heap.size B nb Lb) (sA : SmT La) (sB : SmT Lb) (hna : na ≤ 100000) (hnb : nb ≤ 100000) :
    Calls Try.prog 10 #[.slice A na ca, .slice B nb cb] w (OutT2 (pairT 3 (nds La) (nds Lb)) w) := by
  have H := Lib.hid (pair_any 3 La Lb A B na ca nb cb w hA hB sA sB hna hnb)
  clear hA hB sA sB
  go_enter Try.func10, Try.ntmps10
  go_wp2_with fail
  refine H.out.mono ?_
  rintro e w1 ⟨A1, n1, c1, L1, rfl, o1, v1, s1, b1⟩
  have HR := Lib.hid o1
  have HV := Lib.hid v1
  clear o1 v1
  go_wp2_with fail
  go_ret2
  exact ⟨A1, n1, c1, L1, rfl, HR.out, HV.out, s1, b1⟩
theorem alt_any (La Lb : List NV) (A B : Option Addr) (na ca nb cb : Nat) (w : World) (hA : RT w w.heap.size A na La) (hB : RT w w.heap.size B nb Lb) (sA : SmT La) (sB : SmT Lb) (hna : na ≤ 100000) (hnb : nb ≤ 100000) :
    Calls Try.prog 11 #[.slice A na ca, .slice B nb cb] w (OutT2 (pairT 4 (nds La) (nds Lb)) w) := by
  have H := Lib.hid (pair_any 4 La Lb A B na ca nb cb w hA hB sA sB hna hnb)
  clear hA hB sA sB
  go_enter Try.func11, Try.ntmps11
  go_wp2_with fail
  refine H.out.mono ?_
  rintro e w1 ⟨A1, n1, c1, L1, rfl, o1, v1, s1, b1⟩
  have HR := Lib.hid o1
  have HV := Lib.hid v1
  clear o1 v1
  go_wp2_with fail
  go_ret2
  exact ⟨A1, n1, c1, L1, rfl, HR.out, HV.out, s1, b1⟩
set_option maxRecDepth 8000 in
set_option maxHeartbeats 4000000 in
theorem starTree_any (La : List NV) (A : Option Addr) (na ca : Nat) (w : World) (hA : RT w w.heap.size A na La) (sA : SmT La) (hna : na ≤ 100000) :
    Calls Try.prog 12 #[.slice A na ca] w (OutT2 (starT (nds La)) w) := by
  have HGa := Lib.hid (fun V (g : Below w.heap.size w V) => treeGood_any La A na ca V (hA.on g) sA (by omega))
  have HMa := Lib.hid (fun (h : treeB (nds La) = true) V (g : Below w.heap.size w V) => moved_any La A na ca 0 V (hA.on g) sA (treeB_num h) num0 (by omega))
  have hla : (nds La).length = na := by rw [nds_len, hA.1]
  have HLa := Lib.hid (fun h => treeB_len hA.1 h)
  obtain ⟨i0, hi0, hz0, hz1, hz2⟩ := info_parts info_node
  have HP : Hid (starT (nds La) = if treeB (nds La) = true ∧ na < 40000 then some ((nds La).map (mv 0) ++ [⟨5, (na : Int) - 1, 0, [], noName⟩]) else none) := Lib.hid (by unfold starT; rw [hla])
  have f2 : IntKind.i64.wrap ((na : Int) - 1) = (na : Int) - 1 := IntWalk.i64_in _ (by omega)
  clear hA sA hla
  have b0 := Below.refl w.heap.size w
  obtain ⟨ga, hga⟩ : ∃ g, treeB (nds La) = g := ⟨_, rfl⟩
  rw [hga] at HGa HMa HP HLa
  clear hga
  go_enter Try.func12, Try.ntmps12
  go_wp2_with fail
  refine (HGa.out _ b0).mono ?_
  rintro e w1 ⟨rfl, b2⟩
  cases ga with
  | false =>
    have HN : Hid (starT (nds La) = none) := Lib.hid (by rw [HP.out, if_neg (fun h => by cases h.1)])
    go_wp2_with fail
    go_ret2
    exact outT2_no HN.out b2
  | true =>
  have HLa1 : Hid (na ≤ 40000) := Lib.hid (HLa.out (by simp)).2
  by_cases hs : na = 40000
  · subst hs
    have HN : Hid (starT (nds La) = none) := Lib.hid (by rw [HP.out, if_neg (fun h => by have := h.2; omega)])
    clear HP HLa HLa1 HMa HGa
    go_wp2_with fail
    go_ret2
    exact outT2_no HN.out b2
  have hsD : ((na : Int) == 40000) = false := by rw [beq_eq_false_iff_ne]; omega
  have hsD2 : ¬ ((na : Int) = 40000) := by omega
  have HY : Hid (starT (nds La) = some ((nds La).map (mv 0) ++ [⟨5, (na : Int) - 1, 0, [], noName⟩])) := Lib.hid (by rw [HP.out, if_pos ⟨by simp, by have := HLa1.out; omega⟩])
  clear hs HLa
  go_wp2_with fail
  refine (HMa.out (by simp) _ b2).mono ?_
  rintro e w3 ⟨A1, c1, M1, rfl, o1, v1, s1, g3⟩
  have b5 := b2.trans (g3.mono b2.size)
  have HO3 := Lib.hid (o1.lower b2.size)
  have HV1 := Lib.hid v1
  have HS1 := Lib.hid s1
  have hsz5 := b5.size
  clear o1 v1 s1 g3 b2 HMa HGa HP
  have HR6 := Lib.hid (lit_node w3 5 ((na : Int) - 1) 0 noName none 0 0 [])
  have HO6 := Lib.hid (HO3.out.on (below_new w3 (.cells #[.int .i64 5, .int .i64 ((na : Int) - 1), .int .i64 0, .slice none 0 0, .string noName] 48)))
  have b6 := b5.alloc hsz5 (.cells #[.int .i64 5, .int .i64 ((na : Int) - 1), .int .i64 0, .slice none 0 0, .string noName] 48)
  have HOne := Lib.hid (ncells_one [bare 5 ((na : Int) - 1) 0])
  have HNil : Hid ((some ⟨w3.heap.size, 0, none⟩ : Option Addr) = none → (1 : Nat) = 0) := Lib.hid (fun h => by cases h)
  have hsz6 := b6.size
  go_wp2_with (at_builtin; refine wpList_append_src rfl _ _ 23 rfl w.heap.size 48 i0 _ 5 64 Try.underlying23 hi0 hz0 hz1 hz2 rfl (by decide) _ _ _ rfl HO6.out.out (some ⟨w3.heap.size, 0, none⟩) 1 1 (w3.heap.size + 1) (ncells [bare 5 ((na : Int) - 1) 0]) rfl HNil.out HR6.out HOne.out ?c3 ?c4 (by omega) ?_)
  case c3 => unfold maxLen; omega
  case c4 => omega
  intro A7 c7 w7 hown7 hnil7 hgrow7
  have HO7 := Lib.hid (HO6.out.grow (bare_in _ _ 5 ((na : Int) - 1) 0) rfl hown7 hgrow7)
  have b7 : Below w.heap.size w w7 := below_grown b6 hsz6 HO6.out.out hgrow7
  clear hown7 hnil7 hgrow7 HR6 HO6 HOne HNil HO3
  go_wp2_with fail
  go_ret2
  refine ⟨A7, na + 1, c7, M1 ++ [bare 5 ((na : Int) - 1) 0], by rw [HY.out]; rfl, HO7.out, ?_, smT_app HS1.out (smT_bare _ _ _), b7⟩
  rw [HY.out, nds_app, HV1.out]
  rfl
/-- A One's row of one node. -/
def oneT (s : List Rg) (m : ByteArray) : Option (List Nd) := if s ≠ [] ∧ goodB s = true then some [⟨2, 0, 0, s, m⟩] else none
theorem treeB_one (s : List Rg) (m : ByteArray) : treeB [⟨2, 0, 0, s, m⟩] = (!s.isEmpty && goodB s) := by
  have hl : labB ⟨2, 0, 0, s, m⟩ = (!s.isEmpty && goodB s) := if_pos rfl
  have hs : stepB [] ⟨2, 0, 0, s, m⟩ = some 0 := stepB_leaf_yes (by simp) ⟨rfl, rfl⟩
  cases hq : (!s.isEmpty && goodB s)
  · exact treeB_none (by show nextBg (some []) _ = none; exact nextBg_no2 (by rw [hl, hq]))
  · have hb : bgs [⟨2, 0, 0, s, m⟩] = some [0] := by show nextBg (some []) _ = _; rw [nextBg_yes hs (by rw [hl, hq])]; rfl
    rw [treeB_end (n := 0) rfl (by omega) hb]
    rfl
theorem oneT_no {s : List Rg} {m : ByteArray} (h : treeB [⟨2, 0, 0, s, m⟩] = false) : oneT s m = none := by
  rw [treeB_one] at h
  unfold oneT
  rw [if_neg]
  rintro ⟨h1, h2⟩
  rw [h2, Bool.and_true] at h
  cases s with
  | nil => exact h1 rfl
  | cons => cases h
theorem oneT_yes {s : List Rg} {m : ByteArray} (h : treeB [⟨2, 0, 0, s, m⟩] = true) : oneT s m = some [⟨2, 0, 0, s, m⟩] := by
  rw [treeB_one] at h
  simp only [Bool.and_eq_true] at h
  unfold oneT
  rw [if_pos]
  refine ⟨fun e => ?_, h.2⟩
  rw [e] at h
  cases h.1
set_option maxHeartbeats 4000000 in
theorem one_any (s : List Rg) (A : Option Addr) (n c : Nat) (m : ByteArray) (w : World) (hl : s.length = n) (hs : Shp A n c) (hR : Reads w w.heap.size 2 A n (rcells s)) (hn : n ≤ 1000) (hm : m.size ≤ 100000) :
    Calls Try.prog 13 #[.slice A n c, .string m] w (OutT2 (oneT s m) w) := by
  have b1 := below_new w (.cells #[.int .i64 2, .int .i64 0, .int .i64 0, .slice A n c, .string m] 48)
  have hT : RT (w.alloc (.cells #[.int .i64 2, .int .i64 0, .int .i64 0, .slice A n c, .string m] 48)) (w.alloc (.cells #[.int .i64 2, .int .i64 0, .int .i64 0, .slice A n c, .string m] 48)).heap.size (some ⟨w.heap.size, 0, none⟩) 1 [(⟨2, 0, 0, A, n, c, s, m⟩ : NV)] := by
    refine ⟨rfl, (lit_node w 2 0 0 m A n c s).more (by simp), fun x hx => ?_⟩
    simp at hx
    subst hx
    exact ⟨hl, hs, hR.on b1⟩
  have hS : SmT [(⟨2, 0, 0, A, n, c, s, m⟩ : NV)] := fun x hx => by simp at hx; subst hx; exact ⟨hn, hm⟩
  have HGa := Lib.hid (treeGood_any _ _ 1 1 _ hT hS (by omega))
  have HMa := Lib.hid (fun (h : treeB (nds [(⟨2, 0, 0, A, n, c, s, m⟩ : NV)]) = true) V g => moved_any _ _ 1 1 0 V (hT.on g) hS (treeB_num h) num0 (by omega))
  have e : nds [(⟨2, 0, 0, A, n, c, s, m⟩ : NV)] = [⟨2, 0, 0, s, m⟩] := rfl
  rw [e] at HGa HMa
  clear hT hS hl hs hR e
  obtain ⟨ga, hga⟩ : ∃ g, treeB [⟨2, 0, 0, s, m⟩] = g := ⟨_, rfl⟩
  have HGG := Lib.hid hga
  rw [hga] at HGa HMa
  clear hga
  go_enter Try.func13, Try.ntmps13
  go_wp2_with fail
  generalize w.alloc (.cells #[.int .i64 2, .int .i64 0, .int .i64 0, .slice A n c, .string m] 48) = w1 at *
  refine HGa.out.mono ?_
  rintro e w2 ⟨rfl, g2⟩
  have b2 := b1.trans (g2.mono b1.size)
  cases ga with
  | false =>
    go_wp2_with fail
    go_ret2
    exact outT2_no (oneT_no HGG.out) b2
  | true =>
  have HY := Lib.hid (oneT_yes HGG.out)
  have HM := Lib.hid (HMa.out rfl _ g2)
  clear HGa HMa g2
  go_wp2_with fail
  refine HM.out.mono ?_
  rintro e w3 ⟨A1, c1, M1, rfl, o1, v1, s1, g3⟩
  have b3 := b2.trans (g3.mono b2.size)
  have HO := Lib.hid (o1.lower b2.size)
  have HV := Lib.hid v1
  have HS := Lib.hid s1
  clear o1 v1 s1 g3 b2 b1
  go_wp2_with fail
  go_ret2
  exact ⟨A1, 1, c1, M1, by rw [HY.out]; rfl, HO.out, by rw [HV.out, HY.out]; rfl, HS.out, b3⟩
/-- A leaf's row. -/
def leafT (k : Int) : List Nd := if k = 1 then [rootN .empty 0] else [rootN .never 0]
def OutT1 (T : List Nd) (w : World) (e : Ending) (w' : World) : Prop :=
  ∃ (A : Option Addr) (n c : Nat) (L : List NV), e = .returned (.slice A n c) ∧ OwnTr w' w.heap.size A n c L ∧ nds L = T ∧ SmT L ∧ Below w.heap.size w w'
theorem lit_own (w : World) (k a b : Int) : OwnTr (w.alloc (.cells #[.int .i64 k, .int .i64 a, .int .i64 b, .slice none 0 0, .string noName] 48)) w.heap.size (some ⟨w.heap.size, 0, none⟩) 1 1 [bare k a b] :=
  ⟨rfl, World.ownsRow_lit w #[.int .i64 k, .int .i64 a, .int .i64 b, .slice none 0 0, .string noName] 1 (Nat.le_refl _) (by decide) rfl, bare_in _ _ k a b⟩
theorem leaf_any (k : Int) (w : World) : Calls Try.prog 25 #[.int .i64 k] w (OutT1 (leafT k) w) := by
  by_cases h : k = 1
  · subst h
    go_enter Try.func25, Try.ntmps25
    go_wp2_with fail
    go_ret
    exact ⟨_, 1, 1, [bare 1 0 0], rfl, lit_own w 1 0 0, rfl, smT_bare _ _ _, below_new _ _⟩
  · have hL : leafT k = [rootN .never 0] := if_neg h
    rw [hL]
    go_enter Try.func25, Try.ntmps25
    go_wp2_with fail
    go_ret
    exact ⟨_, 1, 1, [bare 0 0 0], rfl, lit_own w 0 0 0, rfl, smT_bare _ _ _, below_new _ _⟩
end Go.Proofs.Ytfpiackfhdiapaa.S
