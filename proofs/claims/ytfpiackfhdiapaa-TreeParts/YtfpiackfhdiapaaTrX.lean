/- The example of stage 11's statements. -/
import Derived.Test.YtfpiackfhdiapaaTrT
namespace Go.Proofs.Ytfpiackfhdiapaa.S
open Go.RowKit Go.BigFrame
set_option linter.unusedVariables false
set_option linter.unusedSimpArgs false
set_option maxRecDepth 4000

theorem treeB_flat {e : Ex} (h : gdE e) (hn : sz e ≤ 40000) : treeB (flat e 0) = true := (treeB_iff _).2 ⟨e, h, rfl, by rw [flat_len]; exact hn⟩
theorem starT_flat {x : Ex} (h : gdE x) (hn : sz x < 40000) : starT (flat x 0) = some (flat (.star x) 0) := by
  unfold starT
  rw [flat_len, if_pos ⟨treeB_flat h (by omega), hn⟩, flat_mv0]
  simp only [flat, rootN, Nat.zero_add]
theorem pairT_cat {x y : Ex} (h : gdE x) (h2 : gdE y) (hn : sz x + sz y < 40000) : pairT 3 (flat x 0) (flat y 0) = some (flat (.cat x y) 0) := by
  have := flat_mv y 0 (sz x)
  rw [show ((sz x : Nat) : Int) - ((0 : Nat) : Int) = (sz x : Nat) by omega] at this
  unfold pairT
  rw [flat_len, flat_len, if_pos ⟨treeB_flat h (by omega), treeB_flat h2 (by omega), hn⟩, flat_mv0, this]
  simp only [flat, rootN, Nat.zero_add]
theorem pairT_alt {x y : Ex} (h : gdE x) (h2 : gdE y) (hn : sz x + sz y < 40000) : pairT 4 (flat x 0) (flat y 0) = some (flat (.alt x y) 0) := by
  have := flat_mv y 0 (sz x)
  rw [show ((sz x : Nat) : Int) - ((0 : Nat) : Int) = (sz x : Nat) by omega] at this
  unfold pairT
  rw [flat_len, flat_len, if_pos ⟨treeB_flat h (by omega), treeB_flat h2 (by omega), hn⟩, flat_mv0, this]
  simp only [flat, rootN, Nat.zero_add]
/-- A tree that is returned, its expression known. -/
def OutE (e : Ex) (w : World) (en : Ending) (w' : World) : Prop :=
  ∃ (A : Option Addr) (c : Nat) (L : List NV), en = .returned (.tuple #[.slice A (sz e) c, .bool true]) ∧ OwnTr w' w.heap.size A (sz e) c L ∧ nds L = flat e 0 ∧ SmT L ∧ Below w.heap.size w w'
theorem outE_of {T : Option (List Nd)} {e : Ex} (h : T = some (flat e 0)) {w w' : World} {en : Ending} (o : OutT2 T w en w') : OutE e w en w' := by
  obtain ⟨A, n, c, L, h1, h2, h3, h4, h5⟩ := o
  subst h
  have hn : n = sz e := by
    have := congrArg List.length h3
    rw [nds_len, h2.len] at this
    simpa [flat_len] using this
  subst hn
  exact ⟨A, c, L, h1, h2, h3, h4, h5⟩
theorem leafT_len (k : Int) : (leafT k).length = 1 := by unfold leafT; split <;> rfl
theorem outT1_of {k : Int} {w w' : World} {en : Ending} (o : OutT1 (leafT k) w en w') : ∃ (A : Option Addr) (c : Nat) (L : List NV), en = .returned (.slice A 1 c) ∧ OwnTr w' w.heap.size A 1 c L ∧ nds L = leafT k ∧ SmT L ∧ Below w.heap.size w w' := by
  obtain ⟨A, n, c, L, h1, h2, h3, h4, h5⟩ := o
  have hn : n = 1 := by
    have := congrArg List.length h3
    rw [nds_len, h2.len, leafT_len] at this
    exact this
  subst hn
  exact ⟨A, c, L, h1, h2, h3, h4, h5⟩
abbrev nmN : ByteArray := ⟨#[110]⟩
abbrev eA : Ex := .one [(97, 98)] nmN
abbrev eS : Ex := .star eA
abbrev eC : Ex := .cat eS .empty
abbrev eD : Ex := .alt eC eA
theorem gA : gdE eA := ⟨by simp, by decide⟩
theorem gC : gdE eC := ⟨gA, trivial⟩
theorem gD : gdE eD := ⟨gC, gA⟩
theorem tkA {l : List Int} {i : Nat} (h : i < l.length) (hb : hasB [(97, 98)] l[i] = true) : tk l eA i (i + 1) := ⟨h, rfl, hb⟩
theorem takes_aba : takesB (flat eD 0) [97, 98, 97] = true := takesB_iff.2 ((tks_flat gD (by decide)).2 (.inl ⟨3, ⟨by simp, .tail (.tail (.tail (.refl 0) (tkA (by simp) (by decide))) (tkA (by simp) (by decide))) (tkA (by simp) (by decide))⟩, rfl, by simp⟩))
theorem takes_none : takesB (flat eD 0) [] = true := takesB_iff.2 ((tks_flat gD (by decide)).2 (.inl ⟨0, ⟨by simp, .refl 0⟩, rfl, by simp⟩))
theorem no99 {j : Nat} : ¬ tk [99] eA 0 j := by
  rintro ⟨h, _, hb⟩
  have : hasB [(97, 98)] 99 = true := hb
  revert this
  decide
theorem rt99 {i j : Nat} (h : Rt (tk [99] eA) i j) : i = 0 → j = 0 := by
  induction h with
  | refl => exact id
  | tail r1 r2 ih =>
    intro hi
    have := ih hi
    subst this
    exact absurd r2 no99
theorem takes_c : takesB (flat eD 0) [99] = false := takesB_no (fun h => by
  rcases (tks_flat gD (by decide)).1 h with ⟨m, ⟨_, h1⟩, h2, _⟩ | h1
  · have := rt99 h1 rfl
    simp at h2
    omega
  · exact no99 h1)
theorem lit_range (w : World) (a b : Int) : Reads (w.alloc (.cells #[.int .i64 a, .int .i64 b] 54)) (w.alloc (.cells #[.int .i64 a, .int .i64 b] 54)).heap.size 2 (some ⟨w.heap.size, 0, none⟩) 1 (rcells [(a, b)]) := by
  refine ⟨by rw [rcells_len]; rfl, fun _ => ⟨w.heap.size, 0, rfl, by simp, fun j u hj => ?_⟩⟩
  have hj5 : j < 2 := by
    have := (List.getElem?_eq_some_iff.1 hj).1
    rwa [rcells_len] at this
  rw [Nat.zero_add]
  match j, hj5 with
  | 0, _ => simp [rcells, rcell] at hj; subst hj; simp
  | 1, _ => simp [rcells, rcell] at hj; subst hj; simp
theorem lit_ints3 (w : World) (a b c : Int) : Reads (w.alloc (.cells #[.int .i64 a, .int .i64 b, .int .i64 c] 3)) (w.alloc (.cells #[.int .i64 a, .int .i64 b, .int .i64 c] 3)).heap.size 1 (some ⟨w.heap.size, 0, none⟩) 3 (icells [a, b, c]) := by
  refine ⟨rfl, fun _ => ⟨w.heap.size, 0, rfl, by simp, fun j u hj => ?_⟩⟩
  have hj5 : j < 3 := (List.getElem?_eq_some_iff.1 hj).1
  rw [Nat.zero_add]
  match j, hj5 with
  | 0, _ => simp [icells] at hj; subst hj; simp
  | 1, _ => simp [icells] at hj; subst hj; simp
  | 2, _ => simp [icells] at hj; subst hj; simp
theorem lit_ints1 (w : World) (a : Int) : Reads (w.alloc (.cells #[.int .i64 a] 3)) (w.alloc (.cells #[.int .i64 a] 3)).heap.size 1 (some ⟨w.heap.size, 0, none⟩) 1 (icells [a]) := by
  refine ⟨rfl, fun _ => ⟨w.heap.size, 0, rfl, by simp, fun j u hj => ?_⟩⟩
  have hj5 : j < 1 := (List.getElem?_eq_some_iff.1 hj).1
  rw [Nat.zero_add]
  match j, hj5 with
  | 0, _ => simp [icells] at hj; subst hj; simp

set_option maxHeartbeats 8000000 in
theorem wakes_any (w : World) : Calls Try.prog 8 #[] w fun e w' => e = .returned (.bool true) ∧ Below w.heap.size w w' := by
  have hT1 : oneT [(97, 98)] nmN = some (flat eA 0) := by unfold oneT; rw [if_pos ⟨by simp, by decide⟩]; rfl
  have hT2 : oneT [] noName = none := rfl
  have b1 := below_new w (.cells #[.int .i64 97, .int .i64 98] 54)
  have H1 := Lib.hid (one_any [(97, 98)] (some ⟨w.heap.size, 0, none⟩) 1 1 nmN _ rfl ⟨fun h => (by cases h), Nat.le_refl _, by decide⟩ (lit_range w 97 98) (by decide) (by decide))
  rw [hT1] at H1
  go_enter Try.func8, Try.ntmps8
  go_wp2_with fail
  generalize w.alloc (.cells #[.int .i64 97, .int .i64 98] 54) = w1 at *
  refine H1.out.mono ?_
  intro en w2 hO
  obtain ⟨AA, cA, LA, rfl, oA, vA, sA, g⟩ := outE_of rfl hO
  clear H1 hO
  have bb := b1.trans (g.mono b1.size)
  have HA := Lib.hid oA
  have VA := Lib.hid vA
  have SA := Lib.hid sA
  clear oA vA sA g b1
  have H2 := Lib.hid (starTree_any LA AA _ cA w2 HA.out.rt SA.out (by decide))
  rw [VA.out, starT_flat gA (by decide)] at H2
  simp only [sz] at HA H2 ⊢
  go_wp2_with fail
  refine H2.out.mono ?_
  intro en w3 hO
  obtain ⟨AS, cS, LS, rfl, oS, vS, sS, g⟩ := outE_of rfl hO
  clear H2 hO
  replace bb := bb.trans (g.mono bb.size)
  replace HA := Lib.hid (HA.out.on g)
  have HS := Lib.hid oS
  have VS := Lib.hid vS
  have SS := Lib.hid sS
  clear oS vS sS g
  simp only [sz] at HS ⊢
  go_wp2_with fail
  refine (leaf_any 1 w3).mono ?_
  intro en w4 hO
  obtain ⟨AL, cL, LL, rfl, oL, vL, sL, g⟩ := outT1_of hO
  clear hO
  replace bb := bb.trans (g.mono bb.size)
  replace HA := Lib.hid (HA.out.on g)
  replace HS := Lib.hid (HS.out.on g)
  have HL := Lib.hid oL
  have VL : Hid (nds LL = flat .empty 0) := Lib.hid vL
  have SL := Lib.hid sL
  clear oL vL sL g
  have H3 := Lib.hid (cat_any LS LL AS AL _ cS _ cL w4 HS.out.rt HL.out.rt SS.out SL.out (by decide) (by decide))
  rw [VS.out, VL.out, pairT_cat (x := eS) (y := .empty) gA trivial (by decide)] at H3
  go_wp2_with fail
  refine H3.out.mono ?_
  intro en w5 hO
  obtain ⟨AC, cC, LC, rfl, oC, vC, sC, g⟩ := outE_of rfl hO
  clear H3 hO HS HL VS VL SS SL
  replace bb := bb.trans (g.mono bb.size)
  replace HA := Lib.hid (HA.out.on g)
  have HC := Lib.hid oC
  have VC := Lib.hid vC
  have SC := Lib.hid sC
  clear oC vC sC g
  simp only [sz] at HC ⊢
  have H4 := Lib.hid (alt_any LC LA AC AA _ cC _ cA w5 HC.out.rt HA.out.rt SC.out SA.out (by decide) (by decide))
  rw [VC.out, VA.out, pairT_alt gC gA (by decide)] at H4
  go_wp2_with fail
  refine H4.out.mono ?_
  intro en w6 hO
  obtain ⟨AD, cD, LD, rfl, oD, vD, sD, g⟩ := outE_of rfl hO
  clear H4 hO
  replace bb := bb.trans (g.mono bb.size)
  replace HA := Lib.hid (HA.out.on g)
  replace HC := Lib.hid (HC.out.on g)
  have HD := Lib.hid oD
  have VD := Lib.hid vD
  have SD := Lib.hid sD
  clear oD vD sD g
  simp only [sz] at HD ⊢
  have H5 := Lib.hid (parts_yes LD AD _ cD w6 eD HD.out.rt SD.out (by decide) HD.out.shp.2.1 VD.out (by rw [VD.out]; exact treeB_flat gD (by decide)))
  go_wp2_with fail
  refine H5.out.mono ?_
  rintro en w7 ⟨AP, nP, cP, LP, AQ, nQ, cQ, LQ, rfl, oP, oQ, vP, vQ, sP, sQ, g⟩
  clear H5
  replace bb := bb.trans (g.mono bb.size)
  replace HA := Lib.hid (HA.out.on g)
  replace HC := Lib.hid (HC.out.on g)
  replace HD := Lib.hid (HD.out.on g)
  have HP := Lib.hid oP
  have HQ := Lib.hid oQ
  have VP : Hid (nds LP = flat eC 0) := Lib.hid vP
  have VQ : Hid (nds LQ = flat eA 0) := Lib.hid vQ
  have SP := Lib.hid sP
  have SQ := Lib.hid sQ
  clear oP oQ vP vQ sP sQ g
  have H6 := Lib.hid (one_any [] none 0 0 noName w7 rfl ⟨fun _ => rfl, Nat.le_refl _, by decide⟩ Reads.none_ (by decide) (by decide))
  rw [hT2] at H6
  simp only [partsE, Option.isSome_some]
  go_wp2_with fail
  refine H6.out.mono ?_
  rintro en w8 ⟨A8, n8, c8, L8, rfl, _, _, _, g⟩
  clear H6
  replace bb := bb.trans (g.mono bb.size)
  replace HA := Lib.hid (HA.out.on g)
  replace HC := Lib.hid (HC.out.on g)
  replace HD := Lib.hid (HD.out.on g)
  replace HP := Lib.hid (HP.out.on g)
  replace HQ := Lib.hid (HQ.out.on g)
  clear g
  simp only [Option.isSome_none]
  have hld : LD.length = 6 := HD.out.len
  obtain ⟨db, dof, hAD, _, d0, d1, d2, _, _, _⟩ := HD.out.rt.at (k := 5) (by omega)
  have hn5 : LD[5].nd = rootN eD 0 := by
    have h1 := nds_at (L := LD) (k := 5) (by omega)
    rw [← h1]
    simp only [VD.out]
    rfl
  have k0 : LD[5].k = 4 := congrArg Nd.k hn5
  have k1 : LD[5].a = 3 := congrArg Nd.a hn5
  have k2 : LD[5].b = 4 := congrArg Nd.b hn5
  rw [k0] at d0
  rw [k1] at d1
  rw [k2] at d2
  subst hAD
  clear hn5 k0 k1 k2
  have H7 := Lib.hid (fun V (g : Below w8.heap.size w8 V) => treeSame_any nP _ LP LC AP AC cP cC V (HP.out.on g).rt (HC.out.on g).rt SP.out SC.out (by have := congrArg List.length VP.out; rw [nds_len, HP.out.len] at this; rw [this]; decide))
  rw [VP.out, VC.out, eqN_yes rfl] at H7
  have H8 := Lib.hid (fun V (g : Below w8.heap.size w8 V) => treeSame_any nQ _ LQ LA AQ AA cQ cA V (HQ.out.on g).rt (HA.out.on g).rt SQ.out SA.out (by have := congrArg List.length VQ.out; rw [nds_len, HQ.out.len] at this; rw [this]; decide))
  rw [VQ.out, VA.out, eqN_yes rfl] at H8
  have HDr := Lib.hid (fun V (g : Below w8.heap.size w8 V) => (HD.out.on g).rt)
  have HDn := HD.out.shp.2.1
  have T1 := Lib.hid (fun V (g : Below w8.heap.size w8 V) Ar nr cr l hR hr => takes_any LD _ Ar _ cD nr cr l V (HDr.out V g) SD.out (by decide) hR hr)
  rw [VD.out] at T1
  have G1 := Lib.hid (fun V (g : Below w8.heap.size w8 V) => treeGood_any LD _ _ cD V (HDr.out V g) SD.out (by decide))
  rw [VD.out, treeB_flat gD (by decide)] at G1
  have G2 := Lib.hid (fun V (g : Below w8.heap.size w8 V) => treeGood_any (LD.take 5) _ 5 cD V ((HDr.out V g).pre 5 (by decide)) (SD.out.sub fun x hx => List.mem_of_mem_take hx) (by decide))
  rw [nds_take, VD.out, show treeB ((flat eD 0).take 5) = false by decide] at G2
  have b8 := Below.refl w8.heap.size w8
  clear HA HC HD HP HQ VA VC VD VP VQ SA SC SP SQ HDr
  go_wp2_with fail
  refine (H7.out _ b8).mono ?_
  rintro en w9 ⟨rfl, g⟩
  have b9 := b8.trans (g.mono b8.size)
  clear g H7
  go_wp2_with fail
  refine (H8.out _ b9).mono ?_
  rintro en w10 ⟨rfl, g⟩
  have b10 := b9.trans (g.mono b9.size)
  clear g H8
  have bl := below_new w10 (.cells #[.int .i64 97, .int .i64 98, .int .i64 97] 3)
  have b11 := b10.trans (bl.mono b10.size)
  have C1 := Lib.hid (T1.out _ b11 _ 3 3 _ (lit_ints3 w10 97 98 97) (by decide))
  rw [takes_aba] at C1
  go_wp2_with fail
  generalize w10.alloc (.cells #[.int .i64 97, .int .i64 98, .int .i64 97] 3) = w11 at *
  refine C1.out.mono ?_
  rintro en w12 ⟨rfl, g⟩
  have b12 := b11.trans (g.mono b11.size)
  clear g C1 bl
  have C2 := Lib.hid (T1.out _ b12 none 0 0 [] Reads.none_ (by decide))
  rw [takes_none] at C2
  go_wp2_with fail
  refine C2.out.mono ?_
  rintro en w13 ⟨rfl, g⟩
  have b13 := b12.trans (g.mono b12.size)
  clear g C2
  have bl := below_new w13 (.cells #[.int .i64 99] 3)
  have b14 := b13.trans (bl.mono b13.size)
  have C3 := Lib.hid (T1.out _ b14 _ 1 1 _ (lit_ints1 w13 99) (by decide))
  rw [takes_c] at C3
  go_wp2_with fail
  generalize w13.alloc (.cells #[.int .i64 99] 3) = w14 at *
  refine C3.out.mono ?_
  rintro en w15 ⟨rfl, g⟩
  have b15 := b14.trans (g.mono b14.size)
  clear g C3 bl
  go_wp2_with fail
  refine (G1.out _ b15).mono ?_
  rintro en w16 ⟨rfl, g⟩
  have b16 := b15.trans (g.mono b15.size)
  clear g
  have h5c : 5 ≤ cD := by omega
  have h5cI : (5 : Int) ≤ (cD : Int) := by omega
  go_wp2_with fail
  refine (G2.out _ b16).mono ?_
  rintro en w17 ⟨rfl, g⟩
  have b17 := b16.trans (g.mono b16.size)
  clear g
  go_wp2_with fail
  refine (leaf_any 7 w17).mono ?_
  intro en w18 hO
  obtain ⟨AL, cL, LL, rfl, _, _, _, g⟩ := outT1_of hO
  have b18 := b17.trans (g.mono b17.size)
  clear g hO
  go_wp2_with fail
  go_ret
  exact ⟨rfl, bb.trans (b18.mono bb.size)⟩
end Go.Proofs.Ytfpiackfhdiapaa.S
