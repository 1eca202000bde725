/- TreeTakes: a Cat takes a row just if it can be split so that its children take both parts, an Alt just if one does, a Star just if it is nothing, or begins with a part that its child takes and goes on so.
   Conditions: none but the row's own. -/
import Derived.Test.YtfpiackfhdiapaaTrKit
import Derived.Deep.CutRange
namespace Go.Proofs.Ytfpiackfhdiapaa.S.treeTakes
open Go.ChangeShapes Go.WideShapes Go.ChangeAt Go.RowKit Go.Deep Go.BigFrame
set_option linter.unusedVariables false
set_option maxRecDepth 4000
set_option linter.unusedSimpArgs false

set_option maxHeartbeats 32000000 in
theorem walk (La Lb : List NV) (l : List Int) (A B Ar : Option Addr) (na ca nb cb nr cr : Nat) (W : World) (hA : RT W W.heap.size A na La) (hB : RT W W.heap.size B nb Lb) (sA : Shp A na ca) (sB : Shp B nb cb) (mA : ∀ y ∈ La, y.m.size ≤ maxLen) (mB : ∀ y ∈ Lb, y.m.size ≤ maxLen) (hR : Reads W W.heap.size 1 Ar nr (icells l)) (sR : Shp Ar nr cr) :
    Calls Try.prog 5 #[.slice A na ca, .slice B nb cb, .slice Ar nr cr] W fun e W' => e = .returned (.bool true) ∧ Below W.heap.size W W' := by
  have bb := Below.refl W.heap.size W
  have HLa := Lib.hid (fun V (g : Below W.heap.size W V) => largeTree_any La A na ca V (hA.on g) (Nat.le_trans sA.2.1 sA.2.2) mA)
  have HLb := Lib.hid (fun V (g : Below W.heap.size W V) => largeTree_any Lb B nb cb V (hB.on g) (Nat.le_trans sB.2.1 sB.2.2) mB)
  have HGa := Lib.hid (fun (h : SmT La) (hn : na ≤ 600) V (g : Below W.heap.size W V) => refGoodT_any La A na ca V (hA.on g) h (by omega))
  have HGb := Lib.hid (fun (h : SmT Lb) (hn : nb ≤ 600) V (g : Below W.heap.size W V) => refGoodT_any Lb B nb cb V (hB.on g) h (by omega))
  have HRa := Lib.hid (fun V (g : Below W.heap.size W V) => hA.on g)
  have HRb := Lib.hid (fun V (g : Below W.heap.size W V) => hB.on g)
  have HRr := Lib.hid (fun V (g : Below W.heap.size W V) => hR.on g)
  have HNa := Lib.hid hA.1
  have HNb := Lib.hid hB.1
  have HSr := Lib.hid sR
  have HLl : Hid (l.length = nr) := Lib.hid (by have := hR.1; simp [icells] at this; omega)
  clear hA hB hR sA sB mA mB sR
  go_enter Try.func5, Try.ntmps5
  go_wp2_with fail
  refine (HLa.out _ bb).mono ?_
  rintro e w1 ⟨q, rfl, g, hq⟩
  replace bb := bb.trans (g.mono bb.size)
  have HQa := Lib.hid hq
  clear hq g HLa
  cases q
  case true =>
    go_wp2_with fail
    refine (wakes_any _).mono ?_
    rintro e w9 ⟨rfl, g9⟩
    have bf := bb.trans (g9.mono bb.size)
    clear g9
    go_wp2_with fail
    go_ret
    exact ⟨rfl, bf⟩
  have HSa : Hid (SmT La) := Lib.hid (HQa.out rfl).2
  have hna : na ≤ 600 := (HQa.out rfl).1
  clear HQa
  go_wp2_with fail
  refine (HLb.out _ bb).mono ?_
  rintro e w1 ⟨q, rfl, g, hq⟩
  replace bb := bb.trans (g.mono bb.size)
  have HQb := Lib.hid hq
  clear hq g HLb
  cases q
  case true =>
    go_wp2_with fail
    refine (wakes_any _).mono ?_
    rintro e w9 ⟨rfl, g9⟩
    have bf := bb.trans (g9.mono bb.size)
    clear g9
    go_wp2_with fail
    go_ret
    exact ⟨rfl, bf⟩
  have HSb : Hid (SmT Lb) := Lib.hid (HQb.out rfl).2
  have hnb : nb ≤ 600 := (HQb.out rfl).1
  clear HQb
  go_wp2_with fail
  obtain ⟨ga, hga⟩ : ∃ g, treeB (nds La) = g := ⟨_, rfl⟩
  have HC := Lib.hid (HGa.out HSa.out hna _ bb)
  rw [hga] at HC
  have HGa' := Lib.hid hga
  clear hga HGa
  refine HC.out.mono ?_
  rintro e w1 ⟨rfl, g⟩
  replace bb := bb.trans (g.mono bb.size)
  clear g HC
  cases ga
  case false =>
    go_wp2_with fail
    refine (wakes_any _).mono ?_
    rintro e w9 ⟨rfl, g9⟩
    have bf := bb.trans (g9.mono bb.size)
    clear g9
    go_wp2_with fail
    go_ret
    exact ⟨rfl, bf⟩
  go_wp2_with fail
  obtain ⟨gb, hgb⟩ : ∃ g, treeB (nds Lb) = g := ⟨_, rfl⟩
  have HC := Lib.hid (HGb.out HSb.out hnb _ bb)
  rw [hgb] at HC
  have HGb' := Lib.hid hgb
  clear hgb HGb
  refine HC.out.mono ?_
  rintro e w1 ⟨rfl, g⟩
  replace bb := bb.trans (g.mono bb.size)
  clear g HC
  cases gb
  case false =>
    go_wp2_with fail
    refine (wakes_any _).mono ?_
    rintro e w9 ⟨rfl, g9⟩
    have bf := bb.trans (g9.mono bb.size)
    clear g9
    go_wp2_with fail
    go_ret
    exact ⟨rfl, bf⟩
  obtain ⟨ea, ga, hea, hla⟩ := (treeB_iff _).1 HGa'.out
  obtain ⟨eb, gb, heb, hlb⟩ := (treeB_iff _).1 HGb'.out
  have hza : sz ea = na := by have h := congrArg List.length hea; rw [nds_len, HNa.out, flat_len] at h; exact h.symm
  have hzb : sz eb = nb := by have h := congrArg List.length heb; rw [nds_len, HNb.out, flat_len] at h; exact h.symm
  have HEa := Lib.hid hea
  have HEb := Lib.hid heb
  have HGea := Lib.hid ga
  have HGeb := Lib.hid gb
  have HZa := Lib.hid hza
  have HZb := Lib.hid hzb
  clear hea heb ga gb hza hzb hla hlb HGa' HGb'
  by_cases h6 : 6 < nr
  · have h6I : (6 : Int) < (nr : Int) := by omega
    go_wp2_with fail
    refine (wakes_any _).mono ?_
    rintro e w9 ⟨rfl, g9⟩
    have bf := bb.trans (g9.mono bb.size)
    clear g9
    go_wp2_with fail
    go_ret
    exact ⟨rfl, bf⟩
  have h6I : ¬ (6 : Int) < (nr : Int) := by omega
  have hnr : nr ≤ 6 := by omega
  clear h6
  have hcr : nr ≤ cr := HSr.out.2.1
  have HC := Lib.hid (cat_any La Lb A B na ca nb cb _ (HRa.out _ bb) (HRb.out _ bb) HSa.out HSb.out (by omega) (by omega))
  rw [HEa.out, HEb.out, pairT_cat HGea.out HGeb.out (by have h1 := HZa.out; have h2 := HZb.out; omega)] at HC
  go_wp2_with fail
  refine HC.out.mono ?_
  intro en w2 hO
  obtain ⟨AC, nC, cC, LC, rfl, hzC, oC, vC, sC, g⟩ := outN_of rfl hO
  replace bb := bb.trans (g.mono bb.size)
  have HOC := Lib.hid oC
  have HVC := Lib.hid vC
  have HSC := Lib.hid sC
  have HZC := Lib.hid hzC
  clear oC vC sC hzC g HC hO
  have HC := Lib.hid (alt_any La Lb A B na ca nb cb _ (HRa.out _ bb) (HRb.out _ bb) HSa.out HSb.out (by omega) (by omega))
  rw [HEa.out, HEb.out, pairT_alt HGea.out HGeb.out (by have h1 := HZa.out; have h2 := HZb.out; omega)] at HC
  go_wp2_with fail
  refine HC.out.mono ?_
  intro en w2 hO
  obtain ⟨AD, nD, cD, LD, rfl, hzD, oD, vD, sD, g⟩ := outN_of rfl hO
  replace bb := bb.trans (g.mono bb.size)
  have HOD := Lib.hid oD
  have HVD := Lib.hid vD
  have HSD := Lib.hid sD
  have HZD := Lib.hid hzD
  replace HOC := Lib.hid (HOC.out.on g)
  clear oD vD sD hzD g HC hO
  have HC := Lib.hid (starTree_any La A na ca _ (HRa.out _ bb) HSa.out (by omega))
  rw [HEa.out, starT_flat HGea.out (by have h1 := HZa.out; omega)] at HC
  go_wp2_with fail
  refine HC.out.mono ?_
  intro en w2 hO
  obtain ⟨AS, nS, cS, LS, rfl, hzS, oS, vS, sS, g⟩ := outN_of rfl hO
  replace bb := bb.trans (g.mono bb.size)
  have HOS := Lib.hid oS
  have HVS := Lib.hid vS
  have HSS := Lib.hid sS
  have HZS := Lib.hid hzS
  replace HOC := Lib.hid (HOC.out.on g)
  replace HOD := Lib.hid (HOD.out.on g)
  clear oS vS sS hzS g HC hO
  have hnC : nC ≤ 2000 := by have h := HZC.out; simp only [sz] at h; have h1 := HZa.out; have h2 := HZb.out; omega
  have hnD : nD ≤ 2000 := by have h := HZD.out; simp only [sz] at h; have h1 := HZa.out; have h2 := HZb.out; omega
  have hnS : nS ≤ 2000 := by have h := HZS.out; simp only [sz] at h; have h1 := HZa.out; omega
  rename World => w0
  have TA : Hid (∀ V, Below w0.heap.size w0 V → ∀ P n c l', Reads V V.heap.size 1 P n (icells l') → n ≤ 100000 → Calls Try.prog 22 #[.slice A na ca, .slice P n c] V fun e w' => e = .returned (.bool (takesB (flat ea 0) l')) ∧ Below V.heap.size V w') := Lib.hid (fun V g P n c l' h hn => by
    have := takes_any La A P na ca n c l' V (HRa.out V (bb.trans (g.mono bb.size))) HSa.out (by omega) h hn
    rwa [HEa.out] at this)
  have TB : Hid (∀ V, Below w0.heap.size w0 V → ∀ P n c l', Reads V V.heap.size 1 P n (icells l') → n ≤ 100000 → Calls Try.prog 22 #[.slice B nb cb, .slice P n c] V fun e w' => e = .returned (.bool (takesB (flat eb 0) l')) ∧ Below V.heap.size V w') := Lib.hid (fun V g P n c l' h hn => by
    have := takes_any Lb B P nb cb n c l' V (HRb.out V (bb.trans (g.mono bb.size))) HSb.out (by omega) h hn
    rwa [HEb.out] at this)
  have TC : Hid (∀ V, Below w0.heap.size w0 V → ∀ P n c l', Reads V V.heap.size 1 P n (icells l') → n ≤ 100000 → Calls Try.prog 22 #[.slice AC nC cC, .slice P n c] V fun e w' => e = .returned (.bool (takesB (flat (.cat ea eb) 0) l')) ∧ Below V.heap.size V w') := Lib.hid (fun V g P n c l' h hn => by
    have := takes_any LC AC P nC cC n c l' V (HOC.out.on g).rt HSC.out (by omega) h hn
    rwa [HVC.out] at this)
  have TD : Hid (∀ V, Below w0.heap.size w0 V → ∀ P n c l', Reads V V.heap.size 1 P n (icells l') → n ≤ 100000 → Calls Try.prog 22 #[.slice AD nD cD, .slice P n c] V fun e w' => e = .returned (.bool (takesB (flat (.alt ea eb) 0) l')) ∧ Below V.heap.size V w') := Lib.hid (fun V g P n c l' h hn => by
    have := takes_any LD AD P nD cD n c l' V (HOD.out.on g).rt HSD.out (by omega) h hn
    rwa [HVD.out] at this)
  have TS : Hid (∀ V, Below w0.heap.size w0 V → ∀ P n c l', Reads V V.heap.size 1 P n (icells l') → n ≤ 100000 → Calls Try.prog 22 #[.slice AS nS cS, .slice P n c] V fun e w' => e = .returned (.bool (takesB (flat (.star ea) 0) l')) ∧ Below V.heap.size V w') := Lib.hid (fun V g P n c l' h hn => by
    have := takes_any LS AS P nS cS n c l' V (HOS.out.on g).rt HSS.out (by omega) h hn
    rwa [HVS.out] at this)
  have HRW : Hid (∀ V, Below w0.heap.size w0 V → Reads V V.heap.size 1 Ar nr (icells l)) := Lib.hid (fun V g => HRr.out V (bb.trans (g.mono bb.size)))
  -- the parts of the row, in plain mathematics
  obtain ⟨PA, hPA⟩ : ∃ f : Nat → Bool, ∀ k, f k = takesB (flat ea 0) (l.take k) := ⟨_, fun _ => rfl⟩
  obtain ⟨PB, hPB⟩ : ∃ f : Nat → Bool, ∀ k, f k = takesB (flat eb 0) (l.drop k) := ⟨_, fun _ => rfl⟩
  obtain ⟨PS, hPS⟩ : ∃ f : Nat → Bool, ∀ k, f k = takesB (flat (.star ea) 0) (l.drop k) := ⟨_, fun _ => rfl⟩
  have HPA := Lib.hid hPA
  have HPB := Lib.hid hPB
  have HPS := Lib.hid hPS
  have HCat : Hid (takesB (flat (.cat ea eb) 0) l = (List.range (nr + 1)).any fun k => PA k && PB k) := Lib.hid (by
    rw [Bool.eq_iff_iff, takesB_eq (e := .cat ea eb) ⟨HGea.out, HGeb.out⟩ (by simp only [sz]; have h1 := HZa.out; have h2 := HZb.out; omega), List.any_eq_true]
    constructor
    · rintro ⟨k, h1, h2⟩
      have h3 := (tk_le l eb _ _ h2).1
      refine ⟨k, List.mem_range.2 (by have := HLl.out; omega), ?_⟩
      rw [hPA, hPB, Bool.and_eq_true]
      exact ⟨(takes_pre HGea.out (by have h1 := HZa.out; omega) h3).2 h1, (takes_suf HGeb.out (by have h1 := HZb.out; omega) h3).2 h2⟩
    · rintro ⟨k, hk, h⟩
      rw [hPA, hPB, Bool.and_eq_true] at h
      have h3 : k ≤ l.length := by have := List.mem_range.1 hk; have := HLl.out; omega
      exact ⟨k, (takes_pre HGea.out (by have h1 := HZa.out; omega) h3).1 h.1, (takes_suf HGeb.out (by have h1 := HZb.out; omega) h3).1 h.2⟩)
  have HAlt : Hid (takesB (flat (.alt ea eb) 0) l = (takesB (flat ea 0) l || takesB (flat eb 0) l)) := Lib.hid (by
    rw [Bool.eq_iff_iff, takesB_eq (e := .alt ea eb) ⟨HGea.out, HGeb.out⟩ (by simp only [sz]; have h1 := HZa.out; have h2 := HZb.out; omega), Bool.or_eq_true, takesB_eq HGea.out (by have h1 := HZa.out; omega), takesB_eq HGeb.out (by have h1 := HZb.out; omega)]
    exact Iff.rfl)
  have HStar : Hid (takesB (flat (.star ea) 0) l = (decide (nr = 0) || (List.range (nr + 1)).any fun k => decide (0 < k) && (PA k && PS k))) := Lib.hid (by
    rw [Bool.eq_iff_iff, takesB_eq (e := .star ea) HGea.out (by simp only [sz]; have h1 := HZa.out; omega), star_first, Bool.or_eq_true, decide_eq_true_eq, List.any_eq_true, HLl.out]
    constructor
    · rintro (h | ⟨k, h0, h1, h2, h3⟩)
      · exact .inl h
      · refine .inr ⟨k, List.mem_range.2 (by omega), ?_⟩
        rw [hPA, hPS, Bool.and_eq_true, Bool.and_eq_true, decide_eq_true_eq]
        exact ⟨h0, (takes_pre HGea.out (by have h1 := HZa.out; omega) (by rw [HLl.out]; exact h1)).2 h2, (takes_suf (e := .star ea) HGea.out (by simp only [sz]; have h1 := HZa.out; omega) (by rw [HLl.out]; exact h1)).2 (by rw [HLl.out]; exact h3)⟩
    · rintro (h | ⟨k, hk, h⟩)
      · exact .inl h
      · rw [hPA, hPS, Bool.and_eq_true, Bool.and_eq_true, decide_eq_true_eq] at h
        have h1 : k ≤ nr := by have := List.mem_range.1 hk; omega
        refine .inr ⟨k, h.1, h1, (takes_pre HGea.out (by have h1 := HZa.out; omega) (by rw [HLl.out]; exact h1)).1 h.2.1, ?_⟩
        have h4 := (takes_suf (e := .star ea) HGea.out (by simp only [sz]; have h1 := HZa.out; omega) (by rw [HLl.out]; exact h1)).1 h.2.2
        rwa [HLl.out] at h4)
  have HNever : Hid (takesB (leafT 0) l = false) := Lib.hid (takesB_no (fun h => (tks_flat (e := .never) trivial (by decide)).1 h))
  have HEmpty : Hid (takesB (leafT 1) l = decide (nr = 0)) := Lib.hid (by
    have h : takesB (flat .empty 0) l = decide (nr = 0) := by
      rw [Bool.eq_iff_iff, takesB_eq (e := .empty) trivial (by decide), decide_eq_true_eq]
      simp only [tk]
      have := HLl.out
      omega
    exact h)
  clear hPA hPB hPS HGea HGeb HZa HZb HEa HEb HRa HRb HNa HNb HRr HVC HVD HVS HZC HZD HZS HOC HOD HOS HSa HSb HSC HSD HSS
  have bz := Below.refl w0.heap.size w0
  obtain ⟨st0, hst0⟩ : ∃ b, decide (nr = 0) = b := ⟨_, rfl⟩
  have hst : ((nr : Int) == 0) = st0 := by
    rw [← hst0]
    by_cases h : nr = 0
    · subst h; rfl
    · rw [decide_eq_false h, beq_eq_false_iff_ne]; omega
  have HSt1 := Lib.hid hst0
  by_cases h0 : nr = 0
  · have hl0 : l = [] := List.eq_nil_of_length_eq_zero (by rw [HLl.out]; exact h0)
    have hs0 : st0 = true := by rw [← hst0]; exact decide_eq_true h0
    subst hl0
    subst hs0
    subst h0
    obtain ⟨pa, hpa⟩ : ∃ b, takesB (flat ea 0) [] = b := ⟨_, rfl⟩
    obtain ⟨pb, hpb⟩ : ∃ b, takesB (flat eb 0) [] = b := ⟨_, rfl⟩
    have HC0 : Hid (takesB (flat (.cat ea eb) 0) [] = (pa && pb)) := Lib.hid (by
      have h1 := HPA.out 0
      have h2 := HPB.out 0
      simp only [List.take_nil, List.drop_nil] at h1 h2
      rw [HCat.out, ← hpa, ← hpb, ← h1, ← h2]
      simp [List.range_succ])
    have HS9 : Hid (takesB (flat (.star ea) 0) [] = true) := Lib.hid (by rw [HStar.out]; rfl)
    have CA0 : Hid (∀ V, Below w0.heap.size w0 V → ∀ P c, Calls Try.prog 22 #[.slice A na ca, .slice P 0 c] V fun e w' => e = .returned (.bool pa) ∧ Below V.heap.size V w') := Lib.hid (fun V g P c => by
      rw [← hpa]
      exact TA.out V g P 0 c _ (reads_zero _ _ _) (by decide))
    have CB0 : Hid (∀ V, Below w0.heap.size w0 V → ∀ P c, Calls Try.prog 22 #[.slice B nb cb, .slice P 0 c] V fun e w' => e = .returned (.bool pb) ∧ Below V.heap.size V w') := Lib.hid (fun V g P c => by
      rw [← hpb]
      exact TB.out V g P 0 c _ (reads_zero _ _ _) (by decide))
    clear hpa hpb hst hst0 HPA HPB HPS HCat HStar
    by_cases hc0 : cr = 0
    · subst hc0
      go_wp2_with fail
      refine wp_loop_rounds 2 ?_
      rw [rounds_succ]
      go_wp2_with fail
      refine (CA0.out _ bz _ _).mono ?_
      rintro e z1 ⟨rfl, g⟩
      have bz1 := bz.trans (g.mono bz.size)
      clear g
      cases pa with
      | false =>
        go_wp2_with fail
        rw [rounds_succ]
        go_wp2_with fail
        have HB := Lib.hid bz1
        have HC9 : Hid (takesB (flat (.cat ea eb) 0) [] = false) := Lib.hid (by rw [HC0.out]; rfl)
        obtain ⟨ta, hta⟩ : ∃ b, takesB (flat ea 0) [] = b := ⟨_, rfl⟩
        obtain ⟨tb, htb⟩ : ∃ b, takesB (flat eb 0) [] = b := ⟨_, rfl⟩
        have DA : Hid (takesB (flat (.alt ea eb) 0) [] = (ta || tb)) := Lib.hid (by rw [HAlt.out, hta, htb])
        have HTa := Lib.hid hta
        have HTb := Lib.hid htb
        clear hta htb HAlt
        have e0 : (false == false) = true := by simp
        have e1 : (true == true) = true := rfl
        have e2 : (true == true) = true := rfl
        have e3 : (tb == tb) = true := by cases tb <;> rfl
        have hr6 : 0 ≤ 100000 := by omega
        have C1 := Lib.hid (TC.out _ HB.out _ _ 0 [] (HRW.out _ HB.out) hr6)
        rw [HC9.out] at C1
        (try go_wp2_with fail)
        refine C1.out.mono ?_
        rintro e u1 ⟨rfl, g⟩
        have bu := HB.out.trans (g.mono HB.out.size)
        clear g C1 HC9 TC
        have C2 := Lib.hid (TD.out _ bu _ _ 0 [] (HRW.out _ bu) hr6)
        rw [DA.out] at C2
        go_wp2_with fail
        refine C2.out.mono ?_
        rintro e u2 ⟨rfl, g⟩
        replace bu := bu.trans (g.mono bu.size)
        clear g C2 TD DA
        have C3 := Lib.hid (TA.out _ bu _ _ 0 [] (HRW.out _ bu) hr6)
        rw [HTa.out] at C3
        go_wp2_with fail
        refine C3.out.mono ?_
        rintro e u3 ⟨rfl, g⟩
        replace bu := bu.trans (g.mono bu.size)
        clear g C3 TA HTa
        cases ta with
        | true =>
          have C5 := Lib.hid (TS.out _ bu _ _ 0 [] (HRW.out _ bu) hr6)
          rw [HS9.out] at C5
          go_wp2_with fail
          refine C5.out.mono ?_
          rintro e u5 ⟨rfl, g⟩
          replace bu := bu.trans (g.mono bu.size)
          clear g C5 TS HS9
          go_wp2_with fail
          refine (leaf_any 0 _).mono ?_
          intro en u6 hO
          obtain ⟨A0, c0, L0, rfl, o0, v0, s0, g⟩ := outT1_of hO
          replace bu := bu.trans (g.mono bu.size)
          have C6 := Lib.hid (takes_any L0 A0 Ar 1 c0 0 0 [] u6 o0.rt s0 (by decide) (HRW.out _ bu) hr6)
          rw [v0, HNever.out] at C6
          clear hO g o0 v0 s0
          go_wp2_with fail
          refine C6.out.mono ?_
          rintro e u7 ⟨rfl, g⟩
          replace bu := bu.trans (g.mono bu.size)
          clear g C6
          go_wp2_with fail
          refine (leaf_any 1 _).mono ?_
          intro en u8 hO
          obtain ⟨A1, c1, L1, rfl, o1, v1, s1, g⟩ := outT1_of hO
          replace bu := bu.trans (g.mono bu.size)
          have C7 := Lib.hid (takes_any L1 A1 Ar 1 c1 0 0 [] u8 o1.rt s1 (by decide) (HRW.out _ bu) hr6)
          rw [v1, HEmpty.out, HSt1.out] at C7
          clear hO g o1 v1 s1
          go_wp2_with fail
          refine C7.out.mono ?_
          rintro e u9 ⟨rfl, g⟩
          replace bu := bu.trans (g.mono bu.size)
          clear g C7
          go_wp2_with fail
          refine (wakes_any _).mono ?_
          rintro e v9 ⟨rfl, g9⟩
          have bf := bb.trans ((bu.trans (g9.mono bu.size)).mono bb.size)
          clear g9
          go_wp2_with fail
          go_ret
          exact ⟨rfl, bf⟩
        | false =>
          have C4 := Lib.hid (TB.out _ bu _ _ 0 [] (HRW.out _ bu) hr6)
          rw [HTb.out] at C4
          simp only [Bool.false_or]
          go_wp2_with fail
          refine C4.out.mono ?_
          rintro e u4 ⟨rfl, g⟩
          replace bu := bu.trans (g.mono bu.size)
          clear g C4
          have C5 := Lib.hid (TS.out _ bu _ _ 0 [] (HRW.out _ bu) hr6)
          rw [HS9.out] at C5
          go_wp2_with fail
          refine C5.out.mono ?_
          rintro e u5 ⟨rfl, g⟩
          replace bu := bu.trans (g.mono bu.size)
          clear g C5 TS HS9
          go_wp2_with fail
          refine (leaf_any 0 _).mono ?_
          intro en u6 hO
          obtain ⟨A0, c0, L0, rfl, o0, v0, s0, g⟩ := outT1_of hO
          replace bu := bu.trans (g.mono bu.size)
          have C6 := Lib.hid (takes_any L0 A0 Ar 1 c0 0 0 [] u6 o0.rt s0 (by decide) (HRW.out _ bu) hr6)
          rw [v0, HNever.out] at C6
          clear hO g o0 v0 s0
          go_wp2_with fail
          refine C6.out.mono ?_
          rintro e u7 ⟨rfl, g⟩
          replace bu := bu.trans (g.mono bu.size)
          clear g C6
          go_wp2_with fail
          refine (leaf_any 1 _).mono ?_
          intro en u8 hO
          obtain ⟨A1, c1, L1, rfl, o1, v1, s1, g⟩ := outT1_of hO
          replace bu := bu.trans (g.mono bu.size)
          have C7 := Lib.hid (takes_any L1 A1 Ar 1 c1 0 0 [] u8 o1.rt s1 (by decide) (HRW.out _ bu) hr6)
          rw [v1, HEmpty.out, HSt1.out] at C7
          clear hO g o1 v1 s1
          go_wp2_with fail
          refine C7.out.mono ?_
          rintro e u9 ⟨rfl, g⟩
          replace bu := bu.trans (g.mono bu.size)
          clear g C7
          go_wp2_with fail
          refine (wakes_any _).mono ?_
          rintro e v9 ⟨rfl, g9⟩
          have bf := bb.trans ((bu.trans (g9.mono bu.size)).mono bb.size)
          clear g9
          go_wp2_with fail
          go_ret
          exact ⟨rfl, bf⟩
      | true =>
        go_wp2_with fail
        refine (CB0.out _ bz1 _ _).mono ?_
        rintro e z2 ⟨rfl, g⟩
        have bz2 := bz1.trans (g.mono bz1.size)
        clear g
        go_wp2_with fail
        rw [rounds_succ]
        go_wp2_with fail
        have HB := Lib.hid bz2
        have HC9 : Hid (takesB (flat (.cat ea eb) 0) [] = pb) := Lib.hid (by rw [HC0.out]; simp)
        obtain ⟨ta, hta⟩ : ∃ b, takesB (flat ea 0) [] = b := ⟨_, rfl⟩
        obtain ⟨tb, htb⟩ : ∃ b, takesB (flat eb 0) [] = b := ⟨_, rfl⟩
        have DA : Hid (takesB (flat (.alt ea eb) 0) [] = (ta || tb)) := Lib.hid (by rw [HAlt.out, hta, htb])
        have HTa := Lib.hid hta
        have HTb := Lib.hid htb
        clear hta htb HAlt
        have e0 : (pb == pb) = true := by simp
        have e1 : (true == true) = true := rfl
        have e2 : (true == true) = true := rfl
        have e3 : (tb == tb) = true := by cases tb <;> rfl
        have hr6 : 0 ≤ 100000 := by omega
        have C1 := Lib.hid (TC.out _ HB.out _ _ 0 [] (HRW.out _ HB.out) hr6)
        rw [HC9.out] at C1
        (try go_wp2_with fail)
        refine C1.out.mono ?_
        rintro e u1 ⟨rfl, g⟩
        have bu := HB.out.trans (g.mono HB.out.size)
        clear g C1 HC9 TC
        have C2 := Lib.hid (TD.out _ bu _ _ 0 [] (HRW.out _ bu) hr6)
        rw [DA.out] at C2
        go_wp2_with fail
        refine C2.out.mono ?_
        rintro e u2 ⟨rfl, g⟩
        replace bu := bu.trans (g.mono bu.size)
        clear g C2 TD DA
        have C3 := Lib.hid (TA.out _ bu _ _ 0 [] (HRW.out _ bu) hr6)
        rw [HTa.out] at C3
        go_wp2_with fail
        refine C3.out.mono ?_
        rintro e u3 ⟨rfl, g⟩
        replace bu := bu.trans (g.mono bu.size)
        clear g C3 TA HTa
        cases ta with
        | true =>
          have C5 := Lib.hid (TS.out _ bu _ _ 0 [] (HRW.out _ bu) hr6)
          rw [HS9.out] at C5
          go_wp2_with fail
          refine C5.out.mono ?_
          rintro e u5 ⟨rfl, g⟩
          replace bu := bu.trans (g.mono bu.size)
          clear g C5 TS HS9
          go_wp2_with fail
          refine (leaf_any 0 _).mono ?_
          intro en u6 hO
          obtain ⟨A0, c0, L0, rfl, o0, v0, s0, g⟩ := outT1_of hO
          replace bu := bu.trans (g.mono bu.size)
          have C6 := Lib.hid (takes_any L0 A0 Ar 1 c0 0 0 [] u6 o0.rt s0 (by decide) (HRW.out _ bu) hr6)
          rw [v0, HNever.out] at C6
          clear hO g o0 v0 s0
          go_wp2_with fail
          refine C6.out.mono ?_
          rintro e u7 ⟨rfl, g⟩
          replace bu := bu.trans (g.mono bu.size)
          clear g C6
          go_wp2_with fail
          refine (leaf_any 1 _).mono ?_
          intro en u8 hO
          obtain ⟨A1, c1, L1, rfl, o1, v1, s1, g⟩ := outT1_of hO
          replace bu := bu.trans (g.mono bu.size)
          have C7 := Lib.hid (takes_any L1 A1 Ar 1 c1 0 0 [] u8 o1.rt s1 (by decide) (HRW.out _ bu) hr6)
          rw [v1, HEmpty.out, HSt1.out] at C7
          clear hO g o1 v1 s1
          go_wp2_with fail
          refine C7.out.mono ?_
          rintro e u9 ⟨rfl, g⟩
          replace bu := bu.trans (g.mono bu.size)
          clear g C7
          go_wp2_with fail
          refine (wakes_any _).mono ?_
          rintro e v9 ⟨rfl, g9⟩
          have bf := bb.trans ((bu.trans (g9.mono bu.size)).mono bb.size)
          clear g9
          go_wp2_with fail
          go_ret
          exact ⟨rfl, bf⟩
        | false =>
          have C4 := Lib.hid (TB.out _ bu _ _ 0 [] (HRW.out _ bu) hr6)
          rw [HTb.out] at C4
          simp only [Bool.false_or]
          go_wp2_with fail
          refine C4.out.mono ?_
          rintro e u4 ⟨rfl, g⟩
          replace bu := bu.trans (g.mono bu.size)
          clear g C4
          have C5 := Lib.hid (TS.out _ bu _ _ 0 [] (HRW.out _ bu) hr6)
          rw [HS9.out] at C5
          go_wp2_with fail
          refine C5.out.mono ?_
          rintro e u5 ⟨rfl, g⟩
          replace bu := bu.trans (g.mono bu.size)
          clear g C5 TS HS9
          go_wp2_with fail
          refine (leaf_any 0 _).mono ?_
          intro en u6 hO
          obtain ⟨A0, c0, L0, rfl, o0, v0, s0, g⟩ := outT1_of hO
          replace bu := bu.trans (g.mono bu.size)
          have C6 := Lib.hid (takes_any L0 A0 Ar 1 c0 0 0 [] u6 o0.rt s0 (by decide) (HRW.out _ bu) hr6)
          rw [v0, HNever.out] at C6
          clear hO g o0 v0 s0
          go_wp2_with fail
          refine C6.out.mono ?_
          rintro e u7 ⟨rfl, g⟩
          replace bu := bu.trans (g.mono bu.size)
          clear g C6
          go_wp2_with fail
          refine (leaf_any 1 _).mono ?_
          intro en u8 hO
          obtain ⟨A1, c1, L1, rfl, o1, v1, s1, g⟩ := outT1_of hO
          replace bu := bu.trans (g.mono bu.size)
          have C7 := Lib.hid (takes_any L1 A1 Ar 1 c1 0 0 [] u8 o1.rt s1 (by decide) (HRW.out _ bu) hr6)
          rw [v1, HEmpty.out, HSt1.out] at C7
          clear hO g o1 v1 s1
          go_wp2_with fail
          refine C7.out.mono ?_
          rintro e u9 ⟨rfl, g⟩
          replace bu := bu.trans (g.mono bu.size)
          clear g C7
          go_wp2_with fail
          refine (wakes_any _).mono ?_
          rintro e v9 ⟨rfl, g9⟩
          have bf := bb.trans ((bu.trans (g9.mono bu.size)).mono bb.size)
          clear g9
          go_wp2_with fail
          go_ret
          exact ⟨rfl, bf⟩
    · go_wp2_with fail
      refine wp_loop_rounds 2 ?_
      rw [rounds_succ]
      go_wp2_with fail
      refine (CA0.out _ bz _ _).mono ?_
      rintro e z1 ⟨rfl, g⟩
      have bz1 := bz.trans (g.mono bz.size)
      clear g
      cases pa with
      | false =>
        go_wp2_with fail
        rw [rounds_succ]
        go_wp2_with fail
        have HB := Lib.hid bz1
        have HC9 : Hid (takesB (flat (.cat ea eb) 0) [] = false) := Lib.hid (by rw [HC0.out]; rfl)
        obtain ⟨ta, hta⟩ : ∃ b, takesB (flat ea 0) [] = b := ⟨_, rfl⟩
        obtain ⟨tb, htb⟩ : ∃ b, takesB (flat eb 0) [] = b := ⟨_, rfl⟩
        have DA : Hid (takesB (flat (.alt ea eb) 0) [] = (ta || tb)) := Lib.hid (by rw [HAlt.out, hta, htb])
        have HTa := Lib.hid hta
        have HTb := Lib.hid htb
        clear hta htb HAlt
        have e0 : (false == false) = true := by simp
        have e1 : (true == true) = true := rfl
        have e2 : (true == true) = true := rfl
        have e3 : (tb == tb) = true := by cases tb <;> rfl
        have hr6 : 0 ≤ 100000 := by omega
        have C1 := Lib.hid (TC.out _ HB.out _ _ cr [] (HRW.out _ HB.out) hr6)
        rw [HC9.out] at C1
        (try go_wp2_with fail)
        refine C1.out.mono ?_
        rintro e u1 ⟨rfl, g⟩
        have bu := HB.out.trans (g.mono HB.out.size)
        clear g C1 HC9 TC
        have C2 := Lib.hid (TD.out _ bu _ _ cr [] (HRW.out _ bu) hr6)
        rw [DA.out] at C2
        go_wp2_with fail
        refine C2.out.mono ?_
        rintro e u2 ⟨rfl, g⟩
        replace bu := bu.trans (g.mono bu.size)
        clear g C2 TD DA
        have C3 := Lib.hid (TA.out _ bu _ _ cr [] (HRW.out _ bu) hr6)
        rw [HTa.out] at C3
        go_wp2_with fail
        refine C3.out.mono ?_
        rintro e u3 ⟨rfl, g⟩
        replace bu := bu.trans (g.mono bu.size)
        clear g C3 TA HTa
        cases ta with
        | true =>
          have C5 := Lib.hid (TS.out _ bu _ _ cr [] (HRW.out _ bu) hr6)
          rw [HS9.out] at C5
          go_wp2_with fail
          refine C5.out.mono ?_
          rintro e u5 ⟨rfl, g⟩
          replace bu := bu.trans (g.mono bu.size)
          clear g C5 TS HS9
          go_wp2_with fail
          refine (leaf_any 0 _).mono ?_
          intro en u6 hO
          obtain ⟨A0, c0, L0, rfl, o0, v0, s0, g⟩ := outT1_of hO
          replace bu := bu.trans (g.mono bu.size)
          have C6 := Lib.hid (takes_any L0 A0 Ar 1 c0 0 cr [] u6 o0.rt s0 (by decide) (HRW.out _ bu) hr6)
          rw [v0, HNever.out] at C6
          clear hO g o0 v0 s0
          go_wp2_with fail
          refine C6.out.mono ?_
          rintro e u7 ⟨rfl, g⟩
          replace bu := bu.trans (g.mono bu.size)
          clear g C6
          go_wp2_with fail
          refine (leaf_any 1 _).mono ?_
          intro en u8 hO
          obtain ⟨A1, c1, L1, rfl, o1, v1, s1, g⟩ := outT1_of hO
          replace bu := bu.trans (g.mono bu.size)
          have C7 := Lib.hid (takes_any L1 A1 Ar 1 c1 0 cr [] u8 o1.rt s1 (by decide) (HRW.out _ bu) hr6)
          rw [v1, HEmpty.out, HSt1.out] at C7
          clear hO g o1 v1 s1
          go_wp2_with fail
          refine C7.out.mono ?_
          rintro e u9 ⟨rfl, g⟩
          replace bu := bu.trans (g.mono bu.size)
          clear g C7
          go_wp2_with fail
          refine (wakes_any _).mono ?_
          rintro e v9 ⟨rfl, g9⟩
          have bf := bb.trans ((bu.trans (g9.mono bu.size)).mono bb.size)
          clear g9
          go_wp2_with fail
          go_ret
          exact ⟨rfl, bf⟩
        | false =>
          have C4 := Lib.hid (TB.out _ bu _ _ cr [] (HRW.out _ bu) hr6)
          rw [HTb.out] at C4
          simp only [Bool.false_or]
          go_wp2_with fail
          refine C4.out.mono ?_
          rintro e u4 ⟨rfl, g⟩
          replace bu := bu.trans (g.mono bu.size)
          clear g C4
          have C5 := Lib.hid (TS.out _ bu _ _ cr [] (HRW.out _ bu) hr6)
          rw [HS9.out] at C5
          go_wp2_with fail
          refine C5.out.mono ?_
          rintro e u5 ⟨rfl, g⟩
          replace bu := bu.trans (g.mono bu.size)
          clear g C5 TS HS9
          go_wp2_with fail
          refine (leaf_any 0 _).mono ?_
          intro en u6 hO
          obtain ⟨A0, c0, L0, rfl, o0, v0, s0, g⟩ := outT1_of hO
          replace bu := bu.trans (g.mono bu.size)
          have C6 := Lib.hid (takes_any L0 A0 Ar 1 c0 0 cr [] u6 o0.rt s0 (by decide) (HRW.out _ bu) hr6)
          rw [v0, HNever.out] at C6
          clear hO g o0 v0 s0
          go_wp2_with fail
          refine C6.out.mono ?_
          rintro e u7 ⟨rfl, g⟩
          replace bu := bu.trans (g.mono bu.size)
          clear g C6
          go_wp2_with fail
          refine (leaf_any 1 _).mono ?_
          intro en u8 hO
          obtain ⟨A1, c1, L1, rfl, o1, v1, s1, g⟩ := outT1_of hO
          replace bu := bu.trans (g.mono bu.size)
          have C7 := Lib.hid (takes_any L1 A1 Ar 1 c1 0 cr [] u8 o1.rt s1 (by decide) (HRW.out _ bu) hr6)
          rw [v1, HEmpty.out, HSt1.out] at C7
          clear hO g o1 v1 s1
          go_wp2_with fail
          refine C7.out.mono ?_
          rintro e u9 ⟨rfl, g⟩
          replace bu := bu.trans (g.mono bu.size)
          clear g C7
          go_wp2_with fail
          refine (wakes_any _).mono ?_
          rintro e v9 ⟨rfl, g9⟩
          have bf := bb.trans ((bu.trans (g9.mono bu.size)).mono bb.size)
          clear g9
          go_wp2_with fail
          go_ret
          exact ⟨rfl, bf⟩
      | true =>
        go_wp2_with fail
        refine (CB0.out _ bz1 _ _).mono ?_
        rintro e z2 ⟨rfl, g⟩
        have bz2 := bz1.trans (g.mono bz1.size)
        clear g
        go_wp2_with fail
        rw [rounds_succ]
        go_wp2_with fail
        have HB := Lib.hid bz2
        have HC9 : Hid (takesB (flat (.cat ea eb) 0) [] = pb) := Lib.hid (by rw [HC0.out]; simp)
        obtain ⟨ta, hta⟩ : ∃ b, takesB (flat ea 0) [] = b := ⟨_, rfl⟩
        obtain ⟨tb, htb⟩ : ∃ b, takesB (flat eb 0) [] = b := ⟨_, rfl⟩
        have DA : Hid (takesB (flat (.alt ea eb) 0) [] = (ta || tb)) := Lib.hid (by rw [HAlt.out, hta, htb])
        have HTa := Lib.hid hta
        have HTb := Lib.hid htb
        clear hta htb HAlt
        have e0 : (pb == pb) = true := by simp
        have e1 : (true == true) = true := rfl
        have e2 : (true == true) = true := rfl
        have e3 : (tb == tb) = true := by cases tb <;> rfl
        have hr6 : 0 ≤ 100000 := by omega
        have C1 := Lib.hid (TC.out _ HB.out _ _ cr [] (HRW.out _ HB.out) hr6)
        rw [HC9.out] at C1
        (try go_wp2_with fail)
        refine C1.out.mono ?_
        rintro e u1 ⟨rfl, g⟩
        have bu := HB.out.trans (g.mono HB.out.size)
        clear g C1 HC9 TC
        have C2 := Lib.hid (TD.out _ bu _ _ cr [] (HRW.out _ bu) hr6)
        rw [DA.out] at C2
        go_wp2_with fail
        refine C2.out.mono ?_
        rintro e u2 ⟨rfl, g⟩
        replace bu := bu.trans (g.mono bu.size)
        clear g C2 TD DA
        have C3 := Lib.hid (TA.out _ bu _ _ cr [] (HRW.out _ bu) hr6)
        rw [HTa.out] at C3
        go_wp2_with fail
        refine C3.out.mono ?_
        rintro e u3 ⟨rfl, g⟩
        replace bu := bu.trans (g.mono bu.size)
        clear g C3 TA HTa
        cases ta with
        | true =>
          have C5 := Lib.hid (TS.out _ bu _ _ cr [] (HRW.out _ bu) hr6)
          rw [HS9.out] at C5
          go_wp2_with fail
          refine C5.out.mono ?_
          rintro e u5 ⟨rfl, g⟩
          replace bu := bu.trans (g.mono bu.size)
          clear g C5 TS HS9
          go_wp2_with fail
          refine (leaf_any 0 _).mono ?_
          intro en u6 hO
          obtain ⟨A0, c0, L0, rfl, o0, v0, s0, g⟩ := outT1_of hO
          replace bu := bu.trans (g.mono bu.size)
          have C6 := Lib.hid (takes_any L0 A0 Ar 1 c0 0 cr [] u6 o0.rt s0 (by decide) (HRW.out _ bu) hr6)
          rw [v0, HNever.out] at C6
          clear hO g o0 v0 s0
          go_wp2_with fail
          refine C6.out.mono ?_
          rintro e u7 ⟨rfl, g⟩
          replace bu := bu.trans (g.mono bu.size)
          clear g C6
          go_wp2_with fail
          refine (leaf_any 1 _).mono ?_
          intro en u8 hO
          obtain ⟨A1, c1, L1, rfl, o1, v1, s1, g⟩ := outT1_of hO
          replace bu := bu.trans (g.mono bu.size)
          have C7 := Lib.hid (takes_any L1 A1 Ar 1 c1 0 cr [] u8 o1.rt s1 (by decide) (HRW.out _ bu) hr6)
          rw [v1, HEmpty.out, HSt1.out] at C7
          clear hO g o1 v1 s1
          go_wp2_with fail
          refine C7.out.mono ?_
          rintro e u9 ⟨rfl, g⟩
          replace bu := bu.trans (g.mono bu.size)
          clear g C7
          go_wp2_with fail
          refine (wakes_any _).mono ?_
          rintro e v9 ⟨rfl, g9⟩
          have bf := bb.trans ((bu.trans (g9.mono bu.size)).mono bb.size)
          clear g9
          go_wp2_with fail
          go_ret
          exact ⟨rfl, bf⟩
        | false =>
          have C4 := Lib.hid (TB.out _ bu _ _ cr [] (HRW.out _ bu) hr6)
          rw [HTb.out] at C4
          simp only [Bool.false_or]
          go_wp2_with fail
          refine C4.out.mono ?_
          rintro e u4 ⟨rfl, g⟩
          replace bu := bu.trans (g.mono bu.size)
          clear g C4
          have C5 := Lib.hid (TS.out _ bu _ _ cr [] (HRW.out _ bu) hr6)
          rw [HS9.out] at C5
          go_wp2_with fail
          refine C5.out.mono ?_
          rintro e u5 ⟨rfl, g⟩
          replace bu := bu.trans (g.mono bu.size)
          clear g C5 TS HS9
          go_wp2_with fail
          refine (leaf_any 0 _).mono ?_
          intro en u6 hO
          obtain ⟨A0, c0, L0, rfl, o0, v0, s0, g⟩ := outT1_of hO
          replace bu := bu.trans (g.mono bu.size)
          have C6 := Lib.hid (takes_any L0 A0 Ar 1 c0 0 cr [] u6 o0.rt s0 (by decide) (HRW.out _ bu) hr6)
          rw [v0, HNever.out] at C6
          clear hO g o0 v0 s0
          go_wp2_with fail
          refine C6.out.mono ?_
          rintro e u7 ⟨rfl, g⟩
          replace bu := bu.trans (g.mono bu.size)
          clear g C6
          go_wp2_with fail
          refine (leaf_any 1 _).mono ?_
          intro en u8 hO
          obtain ⟨A1, c1, L1, rfl, o1, v1, s1, g⟩ := outT1_of hO
          replace bu := bu.trans (g.mono bu.size)
          have C7 := Lib.hid (takes_any L1 A1 Ar 1 c1 0 cr [] u8 o1.rt s1 (by decide) (HRW.out _ bu) hr6)
          rw [v1, HEmpty.out, HSt1.out] at C7
          clear hO g o1 v1 s1
          go_wp2_with fail
          refine C7.out.mono ?_
          rintro e u9 ⟨rfl, g⟩
          replace bu := bu.trans (g.mono bu.size)
          clear g C7
          go_wp2_with fail
          refine (wakes_any _).mono ?_
          rintro e v9 ⟨rfl, g9⟩
          have bf := bb.trans ((bu.trans (g9.mono bu.size)).mono bb.size)
          clear g9
          go_wp2_with fail
          go_ret
          exact ⟨rfl, bf⟩
  clear hst0
  go_wp2_with fail
  go_loopw [13, 14, 15] (fun vc vs vi V => ∃ (k : Nat) (cc ss : Bool), k ≤ nr + 1 ∧ vi = .int .i64 k ∧ vc = .bool cc ∧ vs = .bool ss ∧ Hid (cc = (List.range k).any fun k => PA k && PB k) ∧ Hid (ss = (st0 || (List.range k).any fun k => decide (0 < k) && (PA k && PS k))) ∧ Hid (Below w0.heap.size w0 V)) (fun _ _ vi _ => nr + 1 - (intOf vi).toNat)
  case atStart => exact ⟨0, false, st0, Nat.zero_le _, rfl, rfl, rfl, Lib.hid rfl, Lib.hid (by simp), Lib.hid bz⟩
  case round =>
    rename World => V
    obtain ⟨k, cc, ss, hk, rfl, rfl, rfl, HCC, HSS, HB⟩ := hrel
    by_cases hlt : k ≤ nr
    · have hkI : (k : Int) ≤ (nr : Int) := by omega
      have hkc : (k : Int) ≤ (cr : Int) := by omega
      have hk0 : (0 : Int) ≤ (k : Int) := by omega
      have hkcN : k ≤ cr := by omega
      have HCC' : Hid ((cc || (PA k && PB k)) = (List.range (k + 1)).any fun k => PA k && PB k) := Lib.hid (by rw [List.range_succ, List.any_append, ← HCC.out]; simp)
      have HSS' : Hid ((ss || (decide (0 < k) && (PA k && PS k))) = (st0 || (List.range (k + 1)).any fun k => decide (0 < k) && (PA k && PS k))) := Lib.hid (by rw [List.range_succ, List.any_append, ← Bool.or_assoc, ← HSS.out]; simp)
      clear HCC HSS
      obtain ⟨pa, hpa⟩ : ∃ b, PA k = b := ⟨_, rfl⟩
      obtain ⟨pb, hpb⟩ : ∃ b, PB k = b := ⟨_, rfl⟩
      obtain ⟨ps, hps⟩ : ∃ b, PS k = b := ⟨_, rfl⟩
      have CA : Hid (∀ V, Below w0.heap.size w0 V → ∀ P c, Reads V V.heap.size 1 P k (icells (l.take k)) → Calls Try.prog 22 #[.slice A na ca, .slice P k c] V fun e w' => e = .returned (.bool pa) ∧ Below V.heap.size V w') := Lib.hid (fun V g P c h => by
        rw [← hpa, HPA.out k]
        exact TA.out V g P k c _ h (by omega))
      have CB : Hid (∀ V, Below w0.heap.size w0 V → ∀ P n c, n = nr - k → Reads V V.heap.size 1 P (nr - k) (icells (l.drop k)) → Calls Try.prog 22 #[.slice B nb cb, .slice P n c] V fun e w' => e = .returned (.bool pb) ∧ Below V.heap.size V w') := Lib.hid (fun V g P n c e h => by
        subst e
        rw [← hpb, HPB.out k]
        exact TB.out V g P (nr - k) c _ h (by omega))
      have CS : Hid (∀ V, Below w0.heap.size w0 V → ∀ P n c, n = nr - k → Reads V V.heap.size 1 P (nr - k) (icells (l.drop k)) → Calls Try.prog 22 #[.slice AS nS cS, .slice P n c] V fun e w' => e = .returned (.bool ps) ∧ Below V.heap.size V w') := Lib.hid (fun V g P n c e h => by
        subst e
        rw [← hps, HPS.out k]
        exact TS.out V g P (nr - k) c _ h (by omega))
      rw [hpa] at HCC' HSS'
      rw [hpb] at HCC'
      rw [hps] at HSS'
      clear hpa hpb hps
      obtain ⟨rb, ro, hAr, _, _⟩ := (HRW.out w0 bz).2 (by omega)
      subst hAr
      by_cases hck : cr = k
      · obtain rfl : cr = k := hck
        obtain rfl : cr = nr := by omega
        have hcr0 : ¬ cr = 0 := h0
        go_upto_region 12 with (fail)
        go_cut [13] from 74 to 88 (fun v wx => v = .bool (cc || (pa && pb)) ∧ Below w0.heap.size w0 wx)
        case first =>
          cases cc with
          | true =>
            go_wp2_with fail
            go_meet
            exact ⟨rfl, HB.out⟩
          | false =>
            go_wp2_with fail
            refine (CA.out _ HB.out _ _ ?rd).mono ?_
            case rd => exact reads_pre (HRW.out _ (by assumption)) (Nat.le_refl _)
            rintro e w7 ⟨rfl, g⟩
            have b7 := HB.out.trans (g.mono HB.out.size)
            cases pa with
            | false =>
              go_wp2_with fail
              go_meet
              exact ⟨rfl, b7⟩
            | true =>
              go_wp2_with fail
              refine (CB.out _ b7 _ _ _ ?en ?rd).mono ?_
              case en => first | rfl | omega
              case rd => exact reads_s0 (Nat.le_refl _) HLl.out _ _ _
              rintro e w8 ⟨rfl, g2⟩
              have b8 := b7.trans (g2.mono b7.size)
              go_wp2_with fail
              go_meet
              exact ⟨by simp, b8⟩
        obtain ⟨rfl, bx⟩ := hcut
        have HB1 := Lib.hid bx
        obtain ⟨cd, hcd⟩ : ∃ b, (cc || (pa && pb)) = b := ⟨_, rfl⟩
        rw [hcd] at HCC' ⊢
        have HC8 := HCC'
        clear bx HB CB hcd HCC'
        cases ss with
        | true =>
          have HS8 : Hid (true = (st0 || (List.range (cr + 1)).any fun k => decide (0 < k) && (PA k && PS k))) := Lib.hid (by rw [← HSS'.out]; simp)
          clear HSS'
          go_wp2_with fail
          go_roundw
          case rel => exact ⟨cr + 1, _, _, by omega, by go_num, rfl, rfl, HC8, HS8, Lib.hid HB1.out⟩
          case measure => simp [intOf] <;> omega
        | false =>
          by_cases hkp : 0 < cr
          · have hkpI : (0 : Int) < (cr : Int) := by omega
            go_wp2_with fail
            refine (CA.out _ HB1.out _ _ ?rd).mono ?_
            case rd => exact reads_pre (HRW.out _ (by assumption)) (Nat.le_refl _)
            rintro e w7 ⟨rfl, g⟩
            have b7 := HB1.out.trans (g.mono HB1.out.size)
            cases pa with
            | false =>
              have HS8 : Hid (false = (st0 || (List.range (cr + 1)).any fun k => decide (0 < k) && (PA k && PS k))) := Lib.hid (by rw [← HSS'.out]; simp)
              clear HSS'
              clear hkp
              go_wp2_with fail
              go_roundw
              case rel => exact ⟨cr + 1, _, _, by omega, by go_num, rfl, rfl, HC8, HS8, Lib.hid b7⟩
              case measure => simp [intOf] <;> omega
            | true =>
              have HS8 : Hid (ps = (st0 || (List.range (cr + 1)).any fun k => decide (0 < k) && (PA k && PS k))) := Lib.hid (by rw [← HSS'.out, decide_eq_true hkp]; simp)
              clear HSS'
              clear hkp
              go_wp2_with fail
              refine (CS.out _ b7 _ _ _ ?en ?rd).mono ?_
              case en => first | rfl | omega
              case rd => exact reads_s0 (Nat.le_refl _) HLl.out _ _ _
              rintro e w8 ⟨rfl, g2⟩
              have b8 := b7.trans (g2.mono b7.size)
              go_wp2_with fail
              go_roundw
              case rel => exact ⟨cr + 1, _, _, by omega, by go_num, rfl, rfl, HC8, HS8, Lib.hid b8⟩
              case measure => simp [intOf] <;> omega
          · exact absurd (Nat.pos_of_ne_zero hcr0) hkp
      · have hck3 : ¬ k = cr := fun e => hck e.symm
        have hcr0 : ¬ cr = 0 := by omega
        go_upto_region 12 with (fail)
        go_cut [13] from 74 to 88 (fun v wx => v = .bool (cc || (pa && pb)) ∧ Below w0.heap.size w0 wx)
        case first =>
          cases cc with
          | true =>
            go_wp2_with fail
            go_meet
            exact ⟨rfl, HB.out⟩
          | false =>
            go_wp2_with fail
            refine (CA.out _ HB.out _ _ ?rd).mono ?_
            case rd => exact reads_pre (HRW.out _ (by assumption)) hlt
            rintro e w7 ⟨rfl, g⟩
            have b7 := HB.out.trans (g.mono HB.out.size)
            cases pa with
            | false =>
              go_wp2_with fail
              go_meet
              exact ⟨rfl, b7⟩
            | true =>
              go_wp2_with fail
              refine (CB.out _ b7 _ _ _ ?en ?rd).mono ?_
              case en => first | rfl | omega
              case rd => exact reads_suf (HRW.out _ (by assumption)) hlt
              rintro e w8 ⟨rfl, g2⟩
              have b8 := b7.trans (g2.mono b7.size)
              go_wp2_with fail
              go_meet
              exact ⟨by simp, b8⟩
        obtain ⟨rfl, bx⟩ := hcut
        have HB1 := Lib.hid bx
        obtain ⟨cd, hcd⟩ : ∃ b, (cc || (pa && pb)) = b := ⟨_, rfl⟩
        rw [hcd] at HCC' ⊢
        have HC8 := HCC'
        clear bx HB CB hcd HCC'
        cases ss with
        | true =>
          have HS8 : Hid (true = (st0 || (List.range (k + 1)).any fun k => decide (0 < k) && (PA k && PS k))) := Lib.hid (by rw [← HSS'.out]; simp)
          clear HSS'
          go_wp2_with fail
          go_roundw
          case rel => exact ⟨k + 1, _, _, by omega, by go_num, rfl, rfl, HC8, HS8, Lib.hid HB1.out⟩
          case measure => simp [intOf] <;> omega
        | false =>
          by_cases hkp : 0 < k
          · have hkpI : (0 : Int) < (k : Int) := by omega
            go_wp2_with fail
            refine (CA.out _ HB1.out _ _ ?rd).mono ?_
            case rd => exact reads_pre (HRW.out _ (by assumption)) hlt
            rintro e w7 ⟨rfl, g⟩
            have b7 := HB1.out.trans (g.mono HB1.out.size)
            cases pa with
            | false =>
              have HS8 : Hid (false = (st0 || (List.range (k + 1)).any fun k => decide (0 < k) && (PA k && PS k))) := Lib.hid (by rw [← HSS'.out]; simp)
              clear HSS'
              clear hkp
              go_wp2_with fail
              go_roundw
              case rel => exact ⟨k + 1, _, _, by omega, by go_num, rfl, rfl, HC8, HS8, Lib.hid b7⟩
              case measure => simp [intOf] <;> omega
            | true =>
              have HS8 : Hid (ps = (st0 || (List.range (k + 1)).any fun k => decide (0 < k) && (PA k && PS k))) := Lib.hid (by rw [← HSS'.out, decide_eq_true hkp]; simp)
              clear HSS'
              clear hkp
              go_wp2_with fail
              refine (CS.out _ b7 _ _ _ ?en ?rd).mono ?_
              case en => first | rfl | omega
              case rd => exact reads_suf (HRW.out _ (by assumption)) hlt
              rintro e w8 ⟨rfl, g2⟩
              have b8 := b7.trans (g2.mono b7.size)
              go_wp2_with fail
              go_roundw
              case rel => exact ⟨k + 1, _, _, by omega, by go_num, rfl, rfl, HC8, HS8, Lib.hid b8⟩
              case measure => simp [intOf] <;> omega
          · have hkpI : ¬ (0 : Int) < (k : Int) := by omega
            have HS8 : Hid (false = (st0 || (List.range (k + 1)).any fun k => decide (0 < k) && (PA k && PS k))) := Lib.hid (by rw [← HSS'.out, decide_eq_false hkp]; simp)
            clear HSS'
            clear hkp
            go_wp2_with fail
            go_roundw
            case rel => exact ⟨k + 1, _, _, by omega, by go_num, rfl, rfl, HC8, HS8, Lib.hid HB1.out⟩
            case measure => simp [intOf] <;> omega
    · have hkn : k = nr + 1 := by omega
      have HC9 : Hid (takesB (flat (.cat ea eb) 0) l = cc) := Lib.hid (by rw [HCat.out, ← hkn]; exact HCC.out.symm)
      have HS9 : Hid (takesB (flat (.star ea) 0) l = ss) := Lib.hid (by rw [HStar.out, HSt1.out, ← hkn]; exact HSS.out.symm)
      have hkI : ¬ (k : Int) ≤ (nr : Int) := by omega
      clear HCC HSS HCat HStar HPA HPB HPS hkn
      obtain ⟨ta, hta⟩ : ∃ b, takesB (flat ea 0) l = b := ⟨_, rfl⟩
      obtain ⟨tb, htb⟩ : ∃ b, takesB (flat eb 0) l = b := ⟨_, rfl⟩
      have DA : Hid (takesB (flat (.alt ea eb) 0) l = (ta || tb)) := Lib.hid (by rw [HAlt.out, hta, htb])
      have HTa := Lib.hid hta
      have HTb := Lib.hid htb
      clear hta htb HAlt
      have e0 : (cc == cc) = true := by cases cc <;> rfl
      have e1 : (ss == ss) = true := by cases ss <;> rfl
      have e2 : (st0 == st0) = true := by cases st0 <;> rfl
      have e3 : (tb == tb) = true := by cases tb <;> rfl
      have hr6 : nr ≤ 100000 := by omega
      have C1 := Lib.hid (TC.out _ HB.out _ _ cr l (HRW.out _ HB.out) hr6)
      rw [HC9.out] at C1
      go_wp2_with fail
      refine C1.out.mono ?_
      rintro e u1 ⟨rfl, g⟩
      have bu := HB.out.trans (g.mono HB.out.size)
      clear g C1 HC9 TC
      have C2 := Lib.hid (TD.out _ bu _ _ cr l (HRW.out _ bu) hr6)
      rw [DA.out] at C2
      go_wp2_with fail
      refine C2.out.mono ?_
      rintro e u2 ⟨rfl, g⟩
      replace bu := bu.trans (g.mono bu.size)
      clear g C2 TD DA
      have C3 := Lib.hid (TA.out _ bu _ _ cr l (HRW.out _ bu) hr6)
      rw [HTa.out] at C3
      go_wp2_with fail
      refine C3.out.mono ?_
      rintro e u3 ⟨rfl, g⟩
      replace bu := bu.trans (g.mono bu.size)
      clear g C3 TA HTa
      cases ta with
      | true =>
        have C5 := Lib.hid (TS.out _ bu _ _ cr l (HRW.out _ bu) hr6)
        rw [HS9.out] at C5
        go_wp2_with fail
        refine C5.out.mono ?_
        rintro e u5 ⟨rfl, g⟩
        replace bu := bu.trans (g.mono bu.size)
        clear g C5 TS HS9
        go_wp2_with fail
        refine (leaf_any 0 _).mono ?_
        intro en u6 hO
        obtain ⟨A0, c0, L0, rfl, o0, v0, s0, g⟩ := outT1_of hO
        replace bu := bu.trans (g.mono bu.size)
        have C6 := Lib.hid (takes_any L0 A0 Ar 1 c0 nr cr l u6 o0.rt s0 (by decide) (HRW.out _ bu) hr6)
        rw [v0, HNever.out] at C6
        clear hO g o0 v0 s0
        go_wp2_with fail
        refine C6.out.mono ?_
        rintro e u7 ⟨rfl, g⟩
        replace bu := bu.trans (g.mono bu.size)
        clear g C6
        go_wp2_with fail
        refine (leaf_any 1 _).mono ?_
        intro en u8 hO
        obtain ⟨A1, c1, L1, rfl, o1, v1, s1, g⟩ := outT1_of hO
        replace bu := bu.trans (g.mono bu.size)
        have C7 := Lib.hid (takes_any L1 A1 Ar 1 c1 nr cr l u8 o1.rt s1 (by decide) (HRW.out _ bu) hr6)
        rw [v1, HEmpty.out, HSt1.out] at C7
        clear hO g o1 v1 s1
        go_wp2_with fail
        refine C7.out.mono ?_
        rintro e u9 ⟨rfl, g⟩
        replace bu := bu.trans (g.mono bu.size)
        clear g C7
        go_wp2_with fail
        refine (wakes_any _).mono ?_
        rintro e v9 ⟨rfl, g9⟩
        have bf := bb.trans ((bu.trans (g9.mono bu.size)).mono bb.size)
        clear g9
        go_wp2_with fail
        go_ret
        exact ⟨rfl, bf⟩
      | false =>
        have C4 := Lib.hid (TB.out _ bu _ _ cr l (HRW.out _ bu) hr6)
        rw [HTb.out] at C4
        simp only [Bool.false_or]
        go_wp2_with fail
        refine C4.out.mono ?_
        rintro e u4 ⟨rfl, g⟩
        replace bu := bu.trans (g.mono bu.size)
        clear g C4
        have C5 := Lib.hid (TS.out _ bu _ _ cr l (HRW.out _ bu) hr6)
        rw [HS9.out] at C5
        go_wp2_with fail
        refine C5.out.mono ?_
        rintro e u5 ⟨rfl, g⟩
        replace bu := bu.trans (g.mono bu.size)
        clear g C5 TS HS9
        go_wp2_with fail
        refine (leaf_any 0 _).mono ?_
        intro en u6 hO
        obtain ⟨A0, c0, L0, rfl, o0, v0, s0, g⟩ := outT1_of hO
        replace bu := bu.trans (g.mono bu.size)
        have C6 := Lib.hid (takes_any L0 A0 Ar 1 c0 nr cr l u6 o0.rt s0 (by decide) (HRW.out _ bu) hr6)
        rw [v0, HNever.out] at C6
        clear hO g o0 v0 s0
        go_wp2_with fail
        refine C6.out.mono ?_
        rintro e u7 ⟨rfl, g⟩
        replace bu := bu.trans (g.mono bu.size)
        clear g C6
        go_wp2_with fail
        refine (leaf_any 1 _).mono ?_
        intro en u8 hO
        obtain ⟨A1, c1, L1, rfl, o1, v1, s1, g⟩ := outT1_of hO
        replace bu := bu.trans (g.mono bu.size)
        have C7 := Lib.hid (takes_any L1 A1 Ar 1 c1 nr cr l u8 o1.rt s1 (by decide) (HRW.out _ bu) hr6)
        rw [v1, HEmpty.out, HSt1.out] at C7
        clear hO g o1 v1 s1
        go_wp2_with fail
        refine C7.out.mono ?_
        rintro e u9 ⟨rfl, g⟩
        replace bu := bu.trans (g.mono bu.size)
        clear g C7
        go_wp2_with fail
        refine (wakes_any _).mono ?_
        rintro e v9 ⟨rfl, g9⟩
        have bf := bb.trans ((bu.trans (g9.mono bu.size)).mono bb.size)
        clear g9
        go_wp2_with fail
        go_ret
        exact ⟨rfl, bf⟩

/-! From the walk to the row. -/
set_option maxRecDepth 100000 in
theorem contract (H : Type) (enc : TypeId × Value → H) (W : World) (base : Nat) (args : Array Value) (ds gs : List (DataW H)) (before : List MemPlace)
    (hval0 : ∀ (j : Nat) t v, Try.f5.params[j]? = some t → args[j]? = some v → Value.okWide Try.prog W .any base t v)
    (hW : DataW.Whole enc Try.prog Try.f5.params.toList Rows.treeTakesSpec.vars false W args.toList ds gs before) :
    Calls Try.prog 5 args W fun e W' => ∃ v, e = .returned v ∧ Rows.treeTakesSpec.post enc Try.prog Try.f5 false true false false W args v W' := by
  have hval : ∀ (j : Nat) t v, Try.f5.params[j]? = some t → args[j]? = some v → Value.okWide Try.prog W .any base t v := hval0
  have hW' := hW
  obtain ⟨p, q, hA0, hV, rfl, hfz, hnd⟩ := hW
  have hA : DataW.TrodAll enc Try.prog W 0 (fun _ => true) true Try.f5.params.toList args.toList ds p := hA0
  rw [Try.params5] at hA hval
  obtain ⟨v0, vs0, d0, ds0, p0, q0, hargs, rfl, rfl, h0, r0⟩ := trodAll_cons hA
  obtain ⟨v1, vs1, d1, ds1, p1, q1, rfl, rfl, rfl, h1, r1⟩ := trodAll_cons r0
  obtain ⟨v2, vs2, d2, ds2, p2, q2, rfl, rfl, rfl, h2, r2⟩ := trodAll_cons r1
  obtain ⟨rfl, rfl, rfl⟩ := trodAll_nil r2
  obtain rfl : args = #[v0, v1, v2] := by cases args; simp_all
  obtain ⟨rfl, rfl⟩ := trodVars_none hV
  obtain ⟨a0, len0, cap0, rfl⟩ := okWide_slice Try.underlying23 (hval 0 23 v0 rfl rfl)
  have k0 := h0
  have lt0 : ∀ x ∈ p0, x.block < W.heap.size := by obtain ⟨m, hm⟩ := k0; exact DataW.trod_lt m _ _ _ hm
  obtain ⟨l0, hs0, hr0, hm0⟩ : ∃ L : List NV, Shp a0 len0 cap0 ∧ RT W W.heap.size a0 len0 L ∧ ∀ y ∈ L, y.m.size ≤ maxLen := by
    obtain ⟨fuel, hf⟩ := h0
    exact open_tree (by simpa [Value.cells] using hf)
  obtain ⟨a1, len1, cap1, rfl⟩ := okWide_slice Try.underlying23 (hval 1 23 v1 rfl rfl)
  have k1 := h1
  have lt1 : ∀ x ∈ p1, x.block < W.heap.size := by obtain ⟨m, hm⟩ := k1; exact DataW.trod_lt m _ _ _ hm
  obtain ⟨l1, hs1, hr1, hm1⟩ : ∃ L : List NV, Shp a1 len1 cap1 ∧ RT W W.heap.size a1 len1 L ∧ ∀ y ∈ L, y.m.size ≤ maxLen := by
    obtain ⟨fuel, hf⟩ := h1
    exact open_tree (by simpa [Value.cells] using hf)
  obtain ⟨a2, len2, cap2, rfl⟩ := okWide_slice Try.underlying26 (hval 2 26 v2 rfl rfl)
  have k2 := h2
  have lt2 : ∀ x ∈ p2, x.block < W.heap.size := by obtain ⟨m, hm⟩ := k2; exact DataW.trod_lt m _ _ _ hm
  obtain ⟨l2, hl2, hs2, hr2⟩ : ∃ l : List Int, l.length = len2 ∧ Shp a2 len2 cap2 ∧ Reads W W.heap.size 1 a2 len2 (icells l) := by
    obtain ⟨fuel, hf⟩ := h2
    exact open_row Try.underlying26 (by simpa [Value.cells] using hf)
  clear hA0 hval0
  refine (walk l0 l1 l2 a0 a1 a2 len0 cap0 len1 cap1 len2 cap2 W hr0 hr1 hs0 hs1 hm0 hm1 hr2 hs2).mono fun e W' ⟨he, bel⟩ => ?_
  subst he
  exact ⟨_, rfl, _, _, _, [], _, [], hW', trodAll_mk1 (shut_bool Try.underlying4 _), (trodAll_cons_mk (Below.trod laidOut (by kernel_rfl) (of_decide_eq_true (by kernel_rfl)) k0 bel lt0) (trodAll_cons_mk (Below.trod laidOut (by kernel_rfl) (of_decide_eq_true (by kernel_rfl)) k1 bel lt1) (trodAll_cons_mk (Below.trod laidOut (by kernel_rfl) (of_decide_eq_true (by kernel_rfl)) k2 bel lt2) trodAll_mk0))), rfl, bel.frame _, fun h => by cases h⟩

set_option maxRecDepth 100000 in
theorem lifted (os : Os) (started : os.Started) (H : Type) (enc : TypeId × Value → H) :
    ReturnsInHanded {} Try.checked os 5 .any (Rows.treeTakesSpec.pre6 enc Try.prog Try.f5 Rows.treeTakesRow.domain false) (Rows.treeTakesSpec.post enc Try.prog Try.f5 false true false false) := by
  refine returnsInHanded_of_change (C := Try.checked) own started (by kernel_rfl) Try.func5
    (ChangeSpec.witness6 (enc := enc) (C := Try.checked) false ⟨#[], #[.slice none 0 0, .slice none 0 0, .slice none 0 0], []⟩ 8 (by kernel_rfl) (by kernel_rfl) (by kernel_rfl) (by kernel_rfl)) ?_
  intro W base args ds gs before hval hW _ _
  exact contract H enc W base args ds gs before hval hW

set_option maxRecDepth 100000 in
theorem over : Rows.treeTakesRow.holds Try.pinned (OpenSpec.ofChange Rows.treeTakesSpec) :=
  OpenClaim.holds_of_wide 5 Try.f5 rfl rfl rfl rfl rfl rfl rfl ⟨rfl, rfl, rfl, rfl, rfl⟩ rfl rfl rfl rfl rfl (by kernel_rfl) Try.func5 (by kernel_rfl)
    (of_decide_eq_true (by kernel_rfl)) (by unfold Func.isWrapper; first | (rw [if_pos (by decide +kernel)]; kernel_rfl) | (rw [if_neg (by decide +kernel)]; exact ⟨rfl, rfl⟩))
    (fun os started H enc _ => lifted os started H enc)
end Go.Proofs.Ytfpiackfhdiapaa.S.treeTakes

namespace Go.Proofs.Ytfpiackfhdiapaa
/-- The given statement, under a short name. -/
theorem treeTakes_holds : Rows.TreeTakesSaid := S.treeTakes.over
#print axioms treeTakes_holds
end Go.Proofs.Ytfpiackfhdiapaa
