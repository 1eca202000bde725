/- TreeParts: Parts of what Cat, Alt and Star make gives back what they were made of, and what Parts gives makes the tree again.
   Conditions: none but the row's own. -/
import Derived.Test.YtfpiackfhdiapaaTrKit
namespace Go.Proofs.Ytfpiackfhdiapaa.S.treeParts
open Go.ChangeShapes Go.WideShapes Go.ChangeAt Go.RowKit Go.Deep Go.BigFrame
set_option linter.unusedVariables false
set_option maxRecDepth 4000
set_option linter.unusedSimpArgs false

theorem outP3_of {e : Ex} {X Y : List Nd} (h : partsE e = some (X, Y)) {w w' : World} {en : Ending} (o : OutP3 (partsE e) w en w') :
    ∃ (A1 : Option Addr) (n1 c1 : Nat) (L1 : List NV) (A2 : Option Addr) (n2 c2 : Nat) (L2 : List NV), en = .returned (.tuple #[.slice A1 n1 c1, .slice A2 n2 c2, .bool true]) ∧
      OwnTr w' w.heap.size A1 n1 c1 L1 ∧ OwnTr w' w.heap.size A2 n2 c2 L2 ∧ nds L1 = X ∧ nds L2 = Y ∧ SmT L1 ∧ SmT L2 ∧ Below w.heap.size w w' ∧ n1 = X.length ∧ n2 = Y.length := by
  obtain ⟨A1, n1, c1, L1, A2, n2, c2, L2, h1, o1, o2, v1, v2, s1, s2, g⟩ := o
  rw [h] at h1 v1 v2
  have v1' : nds L1 = X := v1
  have v2' : nds L2 = Y := v2
  exact ⟨A1, n1, c1, L1, A2, n2, c2, L2, h1, o1, o2, v1, v2, s1, s2, g, by rw [← v1', nds_len, o1.len], by rw [← v2', nds_len, o2.len]⟩
theorem outP3_none {e : Ex} (h : partsE e = none) {w w' : World} {en : Ending} (o : OutP3 (partsE e) w en w') :
    ∃ (A1 : Option Addr) (n1 c1 : Nat) (A2 : Option Addr) (n2 c2 : Nat), en = .returned (.tuple #[.slice A1 n1 c1, .slice A2 n2 c2, .bool false]) ∧ Below w.heap.size w w' := by
  obtain ⟨A1, n1, c1, L1, A2, n2, c2, L2, h1, o1, o2, v1, v2, s1, s2, g⟩ := o
  rw [h] at h1
  exact ⟨A1, n1, c1, A2, n2, c2, h1, g⟩
theorem parts_cases (e : Ex) : (partsE e = none ∧ sz e = 1) ∨ (∃ x y, e = .cat x y) ∨ (∃ x y, e = .alt x y) ∨ ∃ x, e = .star x := by
  cases e with
  | never => exact .inl ⟨rfl, rfl⟩
  | empty => exact .inl ⟨rfl, rfl⟩
  | one s m => exact .inl ⟨rfl, rfl⟩
  | cat x y => exact .inr (.inl ⟨x, y, rfl⟩)
  | alt x y => exact .inr (.inr (.inl ⟨x, y, rfl⟩))
  | star x => exact .inr (.inr (.inr ⟨x, rfl⟩))
theorem root_cell {w : World} {B n : Nat} {A : Option Addr} {L : List NV} {e : Ex} (h : RT w B A n L) (hE : nds L = flat e 0) :
    ∃ b o m, A = some ⟨b, o, none⟩ ∧ n = m + 1 ∧ b < B ∧ w.cell? ⟨b, o + m * 5, none⟩ = some (.int .i64 (rootN e 0).k) := by
  have hsz : n = sz e := by have h1 := congrArg List.length hE; rw [nds_len, h.1, flat_len] at h1; exact h1
  have hp := sz_pos e
  obtain ⟨m, hm⟩ : ∃ m, n = m + 1 := ⟨n - 1, by omega⟩
  have kl : m < L.length := by rw [h.1]; omega
  obtain ⟨b, o, hA, hb, p0, _⟩ := h.at kl
  have hrt : L[m].nd = rootN e 0 := by
    have h1 := nds_at kl
    rw [← h1]
    have h2 := flat_kids e 0
    have h3 : (kids flat e 0).length = m := by have h4 := congrArg List.length h2; rw [flat_len, List.length_append] at h4; simp at h4; omega
    have h5 : (nds L)[m]? = some (rootN e 0) := by rw [hE, h2, List.getElem?_append_right (by omega), h3]; simp
    rw [List.getElem?_eq_getElem (by rw [nds_len]; exact kl)] at h5
    exact Option.some.inj h5
  have k0 : L[m].k = (rootN e 0).k := congrArg Nd.k hrt
  rw [k0] at p0
  exact ⟨b, o, m, hA, hm, hb, p0⟩

set_option maxHeartbeats 32000000 in
theorem walk (La Lb : List NV) (A B : Option Addr) (na ca nb cb : Nat) (W : World) (hA : RT W W.heap.size A na La) (hB : RT W W.heap.size B nb Lb) (sA : Shp A na ca) (sB : Shp B nb cb) (mA : ∀ y ∈ La, y.m.size ≤ maxLen) (mB : ∀ y ∈ Lb, y.m.size ≤ maxLen) :
    Calls Try.prog 4 #[.slice A na ca, .slice B nb cb] W fun e W' => e = .returned (.bool true) ∧ Below W.heap.size W W' := by
  have bb := Below.refl W.heap.size W
  have HLa := Lib.hid (fun V (g : Below W.heap.size W V) => largeTree_any La A na ca V (hA.on g) (Nat.le_trans sA.2.1 sA.2.2) mA)
  have HLb := Lib.hid (fun V (g : Below W.heap.size W V) => largeTree_any Lb B nb cb V (hB.on g) (Nat.le_trans sB.2.1 sB.2.2) mB)
  have HGa := Lib.hid (fun (h : SmT La) (hn : na ≤ 600) V (g : Below W.heap.size W V) => refGoodT_any La A na ca V (hA.on g) h (by omega))
  have HGb := Lib.hid (fun (h : SmT Lb) (hn : nb ≤ 600) V (g : Below W.heap.size W V) => refGoodT_any Lb B nb cb V (hB.on g) h (by omega))
  have HRa := Lib.hid (fun V (g : Below W.heap.size W V) => hA.on g)
  have HRb := Lib.hid (fun V (g : Below W.heap.size W V) => hB.on g)
  have HNa := Lib.hid hA.1
  have HNb := Lib.hid hB.1
  have HCa := Lib.hid sA.2.1
  clear hA hB sA sB mA mB
  go_enter Try.func4, Try.ntmps4
  go_wp2_with fail
  refine (HLa.out _ bb).mono ?_
  rintro e w1 ⟨q, rfl, g, hq⟩
  replace bb := bb.trans (g.mono bb.size)
  have HQa := Lib.hid hq
  clear hq g HLa
  cases q
  case true =>
    go_wp2_with fail
    refine (wakes_any _).mono ?_
    rintro e w9 ⟨rfl, g9⟩
    have bf := bb.trans (g9.mono bb.size)
    clear g9
    go_wp2_with fail
    go_ret
    exact ⟨rfl, bf⟩
  have HSa : Hid (SmT La) := Lib.hid (HQa.out rfl).2
  have hna : na ≤ 600 := (HQa.out rfl).1
  clear HQa
  go_wp2_with fail
  refine (HLb.out _ bb).mono ?_
  rintro e w1 ⟨q, rfl, g, hq⟩
  replace bb := bb.trans (g.mono bb.size)
  have HQb := Lib.hid hq
  clear hq g HLb
  cases q
  case true =>
    go_wp2_with fail
    refine (wakes_any _).mono ?_
    rintro e w9 ⟨rfl, g9⟩
    have bf := bb.trans (g9.mono bb.size)
    clear g9
    go_wp2_with fail
    go_ret
    exact ⟨rfl, bf⟩
  have HSb : Hid (SmT Lb) := Lib.hid (HQb.out rfl).2
  have hnb : nb ≤ 600 := (HQb.out rfl).1
  clear HQb
  go_wp2_with fail
  obtain ⟨ga, hga⟩ : ∃ g, treeB (nds La) = g := ⟨_, rfl⟩
  have HC := Lib.hid (HGa.out HSa.out hna _ bb)
  rw [hga] at HC
  have HGa' := Lib.hid hga
  clear hga HGa
  refine HC.out.mono ?_
  rintro e w1 ⟨rfl, g⟩
  replace bb := bb.trans (g.mono bb.size)
  clear g HC
  cases ga
  case false =>
    go_wp2_with fail
    refine (wakes_any _).mono ?_
    rintro e w9 ⟨rfl, g9⟩
    have bf := bb.trans (g9.mono bb.size)
    clear g9
    go_wp2_with fail
    go_ret
    exact ⟨rfl, bf⟩
  go_wp2_with fail
  obtain ⟨gb, hgb⟩ : ∃ g, treeB (nds Lb) = g := ⟨_, rfl⟩
  have HC := Lib.hid (HGb.out HSb.out hnb _ bb)
  rw [hgb] at HC
  have HGb' := Lib.hid hgb
  clear hgb HGb
  refine HC.out.mono ?_
  rintro e w1 ⟨rfl, g⟩
  replace bb := bb.trans (g.mono bb.size)
  clear g HC
  cases gb
  case false =>
    go_wp2_with fail
    refine (wakes_any _).mono ?_
    rintro e w9 ⟨rfl, g9⟩
    have bf := bb.trans (g9.mono bb.size)
    clear g9
    go_wp2_with fail
    go_ret
    exact ⟨rfl, bf⟩
  obtain ⟨ea, ga, hea, hla⟩ := (treeB_iff _).1 HGa'.out
  obtain ⟨eb, gb, heb, hlb⟩ := (treeB_iff _).1 HGb'.out
  have hza : sz ea = na := by have h := congrArg List.length hea; rw [nds_len, HNa.out, flat_len] at h; exact h.symm
  have hzb : sz eb = nb := by have h := congrArg List.length heb; rw [nds_len, HNb.out, flat_len] at h; exact h.symm
  have HEa := Lib.hid hea
  have HEb := Lib.hid heb
  have HGea := Lib.hid ga
  have HGeb := Lib.hid gb
  have HZa := Lib.hid hza
  have HZb := Lib.hid hzb
  clear hea heb ga gb hza hzb hla hlb HGa' HGb'
  have HC := Lib.hid (cat_any La Lb A B na ca nb cb _ (HRa.out _ bb) (HRb.out _ bb) HSa.out HSb.out (by omega) (by omega))
  rw [HEa.out, HEb.out, pairT_cat HGea.out HGeb.out (by have h1 := HZa.out; have h2 := HZb.out; omega)] at HC
  go_wp2_with fail
  refine HC.out.mono ?_
  intro en w2 hO
  obtain ⟨AC, nC, cC, LC, rfl, hzC, oC, vC, sC, g⟩ := outN_of rfl hO
  replace bb := bb.trans (g.mono bb.size)
  have HOC := Lib.hid oC
  have HVC := Lib.hid vC
  have HSC := Lib.hid sC
  have HZC := Lib.hid hzC
  clear oC vC sC hzC g HC hO
  have HC := Lib.hid (alt_any La Lb A B na ca nb cb _ (HRa.out _ bb) (HRb.out _ bb) HSa.out HSb.out (by omega) (by omega))
  rw [HEa.out, HEb.out, pairT_alt HGea.out HGeb.out (by have h1 := HZa.out; have h2 := HZb.out; omega)] at HC
  go_wp2_with fail
  refine HC.out.mono ?_
  intro en w2 hO
  obtain ⟨AD, nD, cD, LD, rfl, hzD, oD, vD, sD, g⟩ := outN_of rfl hO
  replace bb := bb.trans (g.mono bb.size)
  have HOD := Lib.hid oD
  have HVD := Lib.hid vD
  have HSD := Lib.hid sD
  have HZD := Lib.hid hzD
  replace HOC := Lib.hid (HOC.out.on g)
  clear oD vD sD hzD g HC hO
  have HC := Lib.hid (starTree_any La A na ca _ (HRa.out _ bb) HSa.out (by omega))
  rw [HEa.out, starT_flat HGea.out (by have h1 := HZa.out; omega)] at HC
  go_wp2_with fail
  refine HC.out.mono ?_
  intro en w2 hO
  obtain ⟨AS, nS, cS, LS, rfl, hzS, oS, vS, sS, g⟩ := outN_of rfl hO
  replace bb := bb.trans (g.mono bb.size)
  have HOS := Lib.hid oS
  have HVS := Lib.hid vS
  have HSS := Lib.hid sS
  have HZS := Lib.hid hzS
  replace HOC := Lib.hid (HOC.out.on g)
  replace HOD := Lib.hid (HOD.out.on g)
  clear oS vS sS hzS g HC hO
  have hnC : nC = na + nb + 1 := by have h := HZC.out; simp only [sz] at h; have h1 := HZa.out; have h2 := HZb.out; omega
  have hnD : nD = na + nb + 1 := by have h := HZD.out; simp only [sz] at h; have h1 := HZa.out; have h2 := HZb.out; omega
  have hnS : nS = na + 1 := by have h := HZS.out; simp only [sz] at h; have h1 := HZa.out; omega
  have HKC := Lib.hid hnC
  have HKD := Lib.hid hnD
  have HKS := Lib.hid hnS
  have q1 : IntKind.i64.wrap ((na : Int) + (nb : Int)) = (na : Int) + (nb : Int) := IntWalk.i64_in _ (by omega)
  have q2 : IntKind.i64.wrap ((na : Int) + (nb : Int) + 1) = (nC : Int) := by rw [IntWalk.i64_in _ (by omega)]; omega
  have q3 : IntKind.i64.wrap ((na : Int) + 1) = (nS : Int) := by rw [IntWalk.i64_in _ (by omega)]; omega
  clear hnC hnD hnS
  have HC := Lib.hid (parts_yes LC AC nC cC _ (.cat ea eb) HOC.out.rt HSC.out (by have h := HKC.out; omega) HOC.out.shp.2.1 HVC.out (by rw [HVC.out]; exact treeB_flat (e := .cat ea eb) ⟨HGea.out, HGeb.out⟩ (by simp only [sz]; have h1 := HZa.out; have h2 := HZb.out; omega)))
  go_wp2_with fail
  refine HC.out.mono ?_
  intro en w2 hO
  obtain ⟨Ac1, nc1, cc1, Lc1, Ac2, nc2, cc2, Lc2, rfl, o1, o2, v1, v2, s1, s2, g, l1, l2⟩ := outP3_of rfl hO
  replace bb := bb.trans (g.mono bb.size)
  have HOc1 := Lib.hid o1
  have HOc2 := Lib.hid o2
  have HVc1 := Lib.hid v1
  have HVc2 := Lib.hid v2
  have HSc1 := Lib.hid s1
  have HSc2 := Lib.hid s2
  have HNc1 := Lib.hid l1
  have HNc2 := Lib.hid l2
  replace HOC := Lib.hid (HOC.out.on g)
  replace HOD := Lib.hid (HOD.out.on g)
  replace HOS := Lib.hid (HOS.out.on g)
  clear o1 o2 v1 v2 s1 s2 l1 l2 g HC hO
  have HC := Lib.hid (parts_yes LD AD nD cD _ (.alt ea eb) HOD.out.rt HSD.out (by have h := HKD.out; omega) HOD.out.shp.2.1 HVD.out (by rw [HVD.out]; exact treeB_flat (e := .alt ea eb) ⟨HGea.out, HGeb.out⟩ (by simp only [sz]; have h1 := HZa.out; have h2 := HZb.out; omega)))
  go_wp2_with fail
  refine HC.out.mono ?_
  intro en w2 hO
  obtain ⟨Ad1, nd1, cd1, Ld1, Ad2, nd2, cd2, Ld2, rfl, o1, o2, v1, v2, s1, s2, g, l1, l2⟩ := outP3_of rfl hO
  replace bb := bb.trans (g.mono bb.size)
  have HOd1 := Lib.hid o1
  have HOd2 := Lib.hid o2
  have HVd1 := Lib.hid v1
  have HVd2 := Lib.hid v2
  have HSd1 := Lib.hid s1
  have HSd2 := Lib.hid s2
  have HNd1 := Lib.hid l1
  have HNd2 := Lib.hid l2
  replace HOC := Lib.hid (HOC.out.on g)
  replace HOD := Lib.hid (HOD.out.on g)
  replace HOS := Lib.hid (HOS.out.on g)
  replace HOc1 := Lib.hid (HOc1.out.on g)
  replace HOc2 := Lib.hid (HOc2.out.on g)
  clear o1 o2 v1 v2 s1 s2 l1 l2 g HC hO
  have HC := Lib.hid (parts_yes LS AS nS cS _ (.star ea) HOS.out.rt HSS.out (by have h := HKS.out; omega) HOS.out.shp.2.1 HVS.out (by rw [HVS.out]; exact treeB_flat (e := .star ea) HGea.out (by simp only [sz]; have h1 := HZa.out; have h2 := HZb.out; omega)))
  go_wp2_with fail
  refine HC.out.mono ?_
  intro en w2 hO
  obtain ⟨As1, ns1, cs1, Ls1, As2, ns2, cs2, Ls2, rfl, o1, o2, v1, v2, s1, s2, g, l1, l2⟩ := outP3_of rfl hO
  replace bb := bb.trans (g.mono bb.size)
  have HOs1 := Lib.hid o1
  have HOs2 := Lib.hid o2
  have HVs1 := Lib.hid v1
  have HVs2 := Lib.hid v2
  have HSs1 := Lib.hid s1
  have HSs2 := Lib.hid s2
  have HNs1 := Lib.hid l1
  have HNs2 := Lib.hid l2
  replace HOC := Lib.hid (HOC.out.on g)
  replace HOD := Lib.hid (HOD.out.on g)
  replace HOS := Lib.hid (HOS.out.on g)
  replace HOc1 := Lib.hid (HOc1.out.on g)
  replace HOc2 := Lib.hid (HOc2.out.on g)
  replace HOd1 := Lib.hid (HOd1.out.on g)
  replace HOd2 := Lib.hid (HOd2.out.on g)
  clear o1 o2 v1 v2 s1 s2 l1 l2 g HC hO
  have hs2 : ns2 = 0 := HNs2.out
  subst hs2
  have b1 : nc1 ≤ 1000 := by have h := HNc1.out; rw [flat_len, HZa.out] at h; omega
  have b2 : nc2 ≤ 1000 := by have h := HNc2.out; rw [flat_len, HZb.out] at h; omega
  have b3 : nd1 ≤ 1000 := by have h := HNd1.out; rw [flat_len, HZa.out] at h; omega
  have b4 : nd2 ≤ 1000 := by have h := HNd2.out; rw [flat_len, HZb.out] at h; omega
  have b5 : ns1 ≤ 1000 := by have h := HNs1.out; rw [flat_len, HZa.out] at h; omega
  have HC := Lib.hid (treeSame_any nc1 na Lc1 La Ac1 A cc1 ca _ HOc1.out.rt (HRa.out _ bb) HSc1.out HSa.out (by omega))
  rw [eqN_yes (by rw [HVc1.out, HEa.out])] at HC
  go_wp2_with fail
  refine HC.out.mono ?_
  rintro e w2 ⟨rfl, g⟩
  replace bb := bb.trans (g.mono bb.size)
  replace HOc2 := Lib.hid (HOc2.out.on g)
  replace HOd1 := Lib.hid (HOd1.out.on g)
  replace HOd2 := Lib.hid (HOd2.out.on g)
  replace HOs1 := Lib.hid (HOs1.out.on g)
  clear g HC
  have HC := Lib.hid (treeSame_any nc2 nb Lc2 Lb Ac2 B cc2 cb _ HOc2.out.rt (HRb.out _ bb) HSc2.out HSb.out (by omega))
  rw [eqN_yes (by rw [HVc2.out, HEb.out])] at HC
  go_wp2_with fail
  refine HC.out.mono ?_
  rintro e w2 ⟨rfl, g⟩
  replace bb := bb.trans (g.mono bb.size)
  replace HOd1 := Lib.hid (HOd1.out.on g)
  replace HOd2 := Lib.hid (HOd2.out.on g)
  replace HOs1 := Lib.hid (HOs1.out.on g)
  clear g HC
  have HC := Lib.hid (treeSame_any nd1 na Ld1 La Ad1 A cd1 ca _ HOd1.out.rt (HRa.out _ bb) HSd1.out HSa.out (by omega))
  rw [eqN_yes (by rw [HVd1.out, HEa.out])] at HC
  go_wp2_with fail
  refine HC.out.mono ?_
  rintro e w2 ⟨rfl, g⟩
  replace bb := bb.trans (g.mono bb.size)
  replace HOd2 := Lib.hid (HOd2.out.on g)
  replace HOs1 := Lib.hid (HOs1.out.on g)
  clear g HC
  have HC := Lib.hid (treeSame_any nd2 nb Ld2 Lb Ad2 B cd2 cb _ HOd2.out.rt (HRb.out _ bb) HSd2.out HSb.out (by omega))
  rw [eqN_yes (by rw [HVd2.out, HEb.out])] at HC
  go_wp2_with fail
  refine HC.out.mono ?_
  rintro e w2 ⟨rfl, g⟩
  replace bb := bb.trans (g.mono bb.size)
  replace HOs1 := Lib.hid (HOs1.out.on g)
  clear g HC
  have HC := Lib.hid (treeSame_any ns1 na Ls1 La As1 A cs1 ca _ HOs1.out.rt (HRa.out _ bb) HSs1.out HSa.out (by omega))
  rw [eqN_yes (by rw [HVs1.out, HEa.out])] at HC
  go_wp2_with fail
  refine HC.out.mono ?_
  rintro e w2 ⟨rfl, g⟩
  replace bb := bb.trans (g.mono bb.size)
  clear g HC
  go_wp2_with fail
  clear HOC HOD HOS HOc1 HOc2 HOd1 HOd2 HOs1 HOs2 HVc1 HVc2 HVd1 HVd2 HVs1 HVs2 HSc1 HSc2 HSd1 HSd2 HSs1 HSs2 HVC HVD HVS HSC HSD HSS HZC HZD HZS HKC HKD HKS HNc1 HNc2 HNd1 HNd2 HNs1 HNs2 q1 q2 q3 b1 b2 b3 b4 b5 HRb HSb HEb HGeb HZb HNb
  have HP := Lib.hid (parts_yes La A na ca _ ea (HRa.out _ bb) HSa.out (by omega) HCa.out HEa.out (by rw [HEa.out]; exact treeB_flat HGea.out (by have h1 := HZa.out; omega)))
  rcases parts_cases ea with ⟨hp, h1⟩ | ⟨x, y, rfl⟩ | ⟨x, y, rfl⟩ | ⟨x, rfl⟩
  · have hn1 : na = 1 := by rw [← HZa.out, h1]
    subst hn1
    refine HP.out.mono ?_
    intro en w2 hO
    obtain ⟨Ai1, ni1, ci1, Ai2, ni2, ci2, rfl, g⟩ := outP3_none hp hO
    replace bb := bb.trans (g.mono bb.size)
    clear g HP hO hp h1
    go_wp2_with fail
    refine (wakes_any _).mono ?_
    rintro e w9 ⟨rfl, g9⟩
    have bf := bb.trans (g9.mono bb.size)
    clear g9
    go_wp2_with fail
    go_ret
    exact ⟨rfl, bf⟩
  · refine HP.out.mono ?_
    intro en w2 hO
    obtain ⟨Ai1, ni1, ci1, Li1, Ai2, ni2, ci2, Li2, rfl, o1, o2, v1, v2, s1, s2, g, l1, l2⟩ := outP3_of rfl hO
    replace bb := bb.trans (g.mono bb.size)
    have HOi1 := Lib.hid o1
    have HVi1 := Lib.hid v1
    have HSi1 := Lib.hid s1
    have bi1 : ni1 ≤ 1000 := by rw [flat_len] at l1; have h1 := HZa.out; simp only [sz] at h1; omega
    have HOi2 := Lib.hid o2
    have HVi2 := Lib.hid v2
    have HSi2 := Lib.hid s2
    have bi2 : ni2 ≤ 1000 := by rw [flat_len] at l2; have h1 := HZa.out; simp only [sz] at h1; omega
    clear o1 o2 v1 v2 s1 s2 l1 l2 g HP hO
    obtain ⟨b, o, m, hAe, hm, hb, p0⟩ := root_cell (HRa.out _ bb) HEa.out
    subst hAe
    have p0 : _ = some (Value.int .i64 3) := p0
    have fm : IntKind.i64.wrap ((na : Int) - 1) = (m : Int) := by rw [IntWalk.i64_in _ (by omega)]; omega
    have hmI : (m : Int) < (na : Int) := by omega
    have hmI0 : (0 : Int) ≤ (m : Int) := by omega
    clear hm hb
    have HC := Lib.hid (by
      have h := cat_any Li1 Li2 Ai1 Ai2 ni1 ci1 ni2 ci2 _ HOi1.out.rt HOi2.out.rt HSi1.out HSi2.out (by omega) (by omega)
      rw [HVi1.out, HVi2.out, pairT_cat HGea.out.1 HGea.out.2 (by have h1 := HZa.out; simp only [sz] at h1; omega)] at h
      exact h)
    go_wp2_with fail
    refine HC.out.mono ?_
    intro en w3 hO
    obtain ⟨Au, nu, cu, Lu, rfl, hzu, ou, vu, su, g⟩ := outN_of (e := (.cat x y)) rfl hO
    replace bb := bb.trans (g.mono bb.size)
    replace HOi1 := Lib.hid (HOi1.out.on g)
    have hnu : nu ≤ 1000 := by rw [hzu, HZa.out]; omega
    have HC2 := Lib.hid (treeSame_any nu na Lu La Au _ cu ca _ ou.rt (HRa.out _ bb) su HSa.out (by omega))
    rw [eqN_yes (by rw [vu, HEa.out])] at HC2
    clear ou vu su hzu g HC hO p0 fm hmI hmI0
    go_wp2_with fail
    refine HC2.out.mono ?_
    rintro e w4 ⟨rfl, g⟩
    replace bb := bb.trans (g.mono bb.size)
    replace HOi1 := Lib.hid (HOi1.out.on g)
    clear g HC2
    have HC3 := Lib.hid (treeGood_any Li1 Ai1 ni1 ci1 _ HOi1.out.rt HSi1.out (by omega))
    rw [HVi1.out, treeB_flat HGea.out.1 (by have h1 := HZa.out; simp only [sz] at h1; omega)] at HC3
    go_wp2_with fail
    refine HC3.out.mono ?_
    rintro e w5 ⟨rfl, g⟩
    replace bb := bb.trans (g.mono bb.size)
    clear g HC3
    go_wp2_with fail
    refine (wakes_any _).mono ?_
    rintro e w9 ⟨rfl, g9⟩
    have bf := bb.trans (g9.mono bb.size)
    clear g9
    go_wp2_with fail
    go_ret
    exact ⟨rfl, bf⟩
  · refine HP.out.mono ?_
    intro en w2 hO
    obtain ⟨Ai1, ni1, ci1, Li1, Ai2, ni2, ci2, Li2, rfl, o1, o2, v1, v2, s1, s2, g, l1, l2⟩ := outP3_of rfl hO
    replace bb := bb.trans (g.mono bb.size)
    have HOi1 := Lib.hid o1
    have HVi1 := Lib.hid v1
    have HSi1 := Lib.hid s1
    have bi1 : ni1 ≤ 1000 := by rw [flat_len] at l1; have h1 := HZa.out; simp only [sz] at h1; omega
    have HOi2 := Lib.hid o2
    have HVi2 := Lib.hid v2
    have HSi2 := Lib.hid s2
    have bi2 : ni2 ≤ 1000 := by rw [flat_len] at l2; have h1 := HZa.out; simp only [sz] at h1; omega
    clear o1 o2 v1 v2 s1 s2 l1 l2 g HP hO
    obtain ⟨b, o, m, hAe, hm, hb, p0⟩ := root_cell (HRa.out _ bb) HEa.out
    subst hAe
    have p0 : _ = some (Value.int .i64 4) := p0
    have fm : IntKind.i64.wrap ((na : Int) - 1) = (m : Int) := by rw [IntWalk.i64_in _ (by omega)]; omega
    have hmI : (m : Int) < (na : Int) := by omega
    have hmI0 : (0 : Int) ≤ (m : Int) := by omega
    clear hm hb
    have HC := Lib.hid (by
      have h := alt_any Li1 Li2 Ai1 Ai2 ni1 ci1 ni2 ci2 _ HOi1.out.rt HOi2.out.rt HSi1.out HSi2.out (by omega) (by omega)
      rw [HVi1.out, HVi2.out, pairT_alt HGea.out.1 HGea.out.2 (by have h1 := HZa.out; simp only [sz] at h1; omega)] at h
      exact h)
    go_wp2_with fail
    refine HC.out.mono ?_
    intro en w3 hO
    obtain ⟨Au, nu, cu, Lu, rfl, hzu, ou, vu, su, g⟩ := outN_of (e := (.alt x y)) rfl hO
    replace bb := bb.trans (g.mono bb.size)
    replace HOi1 := Lib.hid (HOi1.out.on g)
    have hnu : nu ≤ 1000 := by rw [hzu, HZa.out]; omega
    have HC2 := Lib.hid (treeSame_any nu na Lu La Au _ cu ca _ ou.rt (HRa.out _ bb) su HSa.out (by omega))
    rw [eqN_yes (by rw [vu, HEa.out])] at HC2
    clear ou vu su hzu g HC hO p0 fm hmI hmI0
    go_wp2_with fail
    refine HC2.out.mono ?_
    rintro e w4 ⟨rfl, g⟩
    replace bb := bb.trans (g.mono bb.size)
    replace HOi1 := Lib.hid (HOi1.out.on g)
    clear g HC2
    have HC3 := Lib.hid (treeGood_any Li1 Ai1 ni1 ci1 _ HOi1.out.rt HSi1.out (by omega))
    rw [HVi1.out, treeB_flat HGea.out.1 (by have h1 := HZa.out; simp only [sz] at h1; omega)] at HC3
    go_wp2_with fail
    refine HC3.out.mono ?_
    rintro e w5 ⟨rfl, g⟩
    replace bb := bb.trans (g.mono bb.size)
    clear g HC3
    go_wp2_with fail
    refine (wakes_any _).mono ?_
    rintro e w9 ⟨rfl, g9⟩
    have bf := bb.trans (g9.mono bb.size)
    clear g9
    go_wp2_with fail
    go_ret
    exact ⟨rfl, bf⟩
  · refine HP.out.mono ?_
    intro en w2 hO
    obtain ⟨Ai1, ni1, ci1, Li1, Ai2, ni2, ci2, Li2, rfl, o1, o2, v1, v2, s1, s2, g, l1, l2⟩ := outP3_of rfl hO
    replace bb := bb.trans (g.mono bb.size)
    have HOi1 := Lib.hid o1
    have HVi1 := Lib.hid v1
    have HSi1 := Lib.hid s1
    have bi1 : ni1 ≤ 1000 := by rw [flat_len] at l1; have h1 := HZa.out; simp only [sz] at h1; omega
    clear o1 o2 v1 v2 s1 s2 l1 l2 g HP hO
    obtain ⟨b, o, m, hAe, hm, hb, p0⟩ := root_cell (HRa.out _ bb) HEa.out
    subst hAe
    have p0 : _ = some (Value.int .i64 5) := p0
    have fm : IntKind.i64.wrap ((na : Int) - 1) = (m : Int) := by rw [IntWalk.i64_in _ (by omega)]; omega
    have hmI : (m : Int) < (na : Int) := by omega
    have hmI0 : (0 : Int) ≤ (m : Int) := by omega
    clear hm hb
    have HC := Lib.hid (by
      have h := starTree_any Li1 Ai1 ni1 ci1 _ HOi1.out.rt HSi1.out (by omega)
      rw [HVi1.out, starT_flat (x := x) HGea.out (by have h1 := HZa.out; simp only [sz] at h1; omega)] at h
      exact h)
    go_wp2_with fail
    refine HC.out.mono ?_
    intro en w3 hO
    obtain ⟨Au, nu, cu, Lu, rfl, hzu, ou, vu, su, g⟩ := outN_of (e := (.star x)) rfl hO
    replace bb := bb.trans (g.mono bb.size)
    replace HOi1 := Lib.hid (HOi1.out.on g)
    have hnu : nu ≤ 1000 := by rw [hzu, HZa.out]; omega
    have HC2 := Lib.hid (treeSame_any nu na Lu La Au _ cu ca _ ou.rt (HRa.out _ bb) su HSa.out (by omega))
    rw [eqN_yes (by rw [vu, HEa.out])] at HC2
    clear ou vu su hzu g HC hO p0 fm hmI hmI0
    go_wp2_with fail
    refine HC2.out.mono ?_
    rintro e w4 ⟨rfl, g⟩
    replace bb := bb.trans (g.mono bb.size)
    replace HOi1 := Lib.hid (HOi1.out.on g)
    clear g HC2
    have HC3 := Lib.hid (treeGood_any Li1 Ai1 ni1 ci1 _ HOi1.out.rt HSi1.out (by omega))
    rw [HVi1.out, treeB_flat (e := x) HGea.out (by have h1 := HZa.out; simp only [sz] at h1; omega)] at HC3
    go_wp2_with fail
    refine HC3.out.mono ?_
    rintro e w5 ⟨rfl, g⟩
    replace bb := bb.trans (g.mono bb.size)
    clear g HC3
    go_wp2_with fail
    refine (wakes_any _).mono ?_
    rintro e w9 ⟨rfl, g9⟩
    have bf := bb.trans (g9.mono bb.size)
    clear g9
    go_wp2_with fail
    go_ret
    exact ⟨rfl, bf⟩

/-! From the walk to the row. -/
set_option maxRecDepth 100000 in
theorem contract (H : Type) (enc : TypeId × Value → H) (W : World) (base : Nat) (args : Array Value) (ds gs : List (DataW H)) (before : List MemPlace)
    (hval0 : ∀ (j : Nat) t v, Try.f4.params[j]? = some t → args[j]? = some v → Value.okWide Try.prog W .any base t v)
    (hW : DataW.Whole enc Try.prog Try.f4.params.toList Rows.treePartsSpec.vars false W args.toList ds gs before) :
    Calls Try.prog 4 args W fun e W' => ∃ v, e = .returned v ∧ Rows.treePartsSpec.post enc Try.prog Try.f4 false true false false W args v W' := by
  have hval : ∀ (j : Nat) t v, Try.f4.params[j]? = some t → args[j]? = some v → Value.okWide Try.prog W .any base t v := hval0
  have hW' := hW
  obtain ⟨p, q, hA0, hV, rfl, hfz, hnd⟩ := hW
  have hA : DataW.TrodAll enc Try.prog W 0 (fun _ => true) true Try.f4.params.toList args.toList ds p := hA0
  rw [Try.params4] at hA hval
  obtain ⟨v0, vs0, d0, ds0, p0, q0, hargs, rfl, rfl, h0, r0⟩ := trodAll_cons hA
  obtain ⟨v1, vs1, d1, ds1, p1, q1, rfl, rfl, rfl, h1, r1⟩ := trodAll_cons r0
  obtain ⟨rfl, rfl, rfl⟩ := trodAll_nil r1
  obtain rfl : args = #[v0, v1] := by cases args; simp_all
  obtain ⟨rfl, rfl⟩ := trodVars_none hV
  obtain ⟨a0, len0, cap0, rfl⟩ := okWide_slice Try.underlying23 (hval 0 23 v0 rfl rfl)
  have k0 := h0
  have lt0 : ∀ x ∈ p0, x.block < W.heap.size := by obtain ⟨m, hm⟩ := k0; exact DataW.trod_lt m _ _ _ hm
  obtain ⟨l0, hs0, hr0, hm0⟩ : ∃ L : List NV, Shp a0 len0 cap0 ∧ RT W W.heap.size a0 len0 L ∧ ∀ y ∈ L, y.m.size ≤ maxLen := by
    obtain ⟨fuel, hf⟩ := h0
    exact open_tree (by simpa [Value.cells] using hf)
  obtain ⟨a1, len1, cap1, rfl⟩ := okWide_slice Try.underlying23 (hval 1 23 v1 rfl rfl)
  have k1 := h1
  have lt1 : ∀ x ∈ p1, x.block < W.heap.size := by obtain ⟨m, hm⟩ := k1; exact DataW.trod_lt m _ _ _ hm
  obtain ⟨l1, hs1, hr1, hm1⟩ : ∃ L : List NV, Shp a1 len1 cap1 ∧ RT W W.heap.size a1 len1 L ∧ ∀ y ∈ L, y.m.size ≤ maxLen := by
    obtain ⟨fuel, hf⟩ := h1
    exact open_tree (by simpa [Value.cells] using hf)
  clear hA0 hval0
  refine (walk l0 l1 a0 a1 len0 cap0 len1 cap1 W hr0 hr1 hs0 hs1 hm0 hm1).mono fun e W' ⟨he, bel⟩ => ?_
  subst he
  exact ⟨_, rfl, _, _, _, [], _, [], hW', trodAll_mk1 (shut_bool Try.underlying4 _), (trodAll_cons_mk (Below.trod laidOut (by kernel_rfl) (of_decide_eq_true (by kernel_rfl)) k0 bel lt0) (trodAll_cons_mk (Below.trod laidOut (by kernel_rfl) (of_decide_eq_true (by kernel_rfl)) k1 bel lt1) trodAll_mk0)), rfl, bel.frame _, fun h => by cases h⟩

set_option maxRecDepth 100000 in
theorem lifted (os : Os) (started : os.Started) (H : Type) (enc : TypeId × Value → H) :
    ReturnsInHanded {} Try.checked os 4 .any (Rows.treePartsSpec.pre6 enc Try.prog Try.f4 Rows.treePartsRow.domain false) (Rows.treePartsSpec.post enc Try.prog Try.f4 false true false false) := by
  refine returnsInHanded_of_change (C := Try.checked) own started (by kernel_rfl) Try.func4
    (ChangeSpec.witness6 (enc := enc) (C := Try.checked) false ⟨#[], #[.slice none 0 0, .slice none 0 0], []⟩ 8 (by kernel_rfl) (by kernel_rfl) (by kernel_rfl) (by kernel_rfl)) ?_
  intro W base args ds gs before hval hW _ _
  exact contract H enc W base args ds gs before hval hW

set_option maxRecDepth 100000 in
theorem over : Rows.treePartsRow.holds Try.pinned (OpenSpec.ofChange Rows.treePartsSpec) :=
  OpenClaim.holds_of_wide 4 Try.f4 rfl rfl rfl rfl rfl rfl rfl ⟨rfl, rfl, rfl, rfl, rfl⟩ rfl rfl rfl rfl rfl (by kernel_rfl) Try.func4 (by kernel_rfl)
    (of_decide_eq_true (by kernel_rfl)) (by unfold Func.isWrapper; first | (rw [if_pos (by decide +kernel)]; kernel_rfl) | (rw [if_neg (by decide +kernel)]; exact ⟨rfl, rfl⟩))
    (fun os started H enc _ => lifted os started H enc)
end Go.Proofs.Ytfpiackfhdiapaa.S.treeParts

namespace Go.Proofs.Ytfpiackfhdiapaa
/-- The given statement, under a short name. -/
theorem treeParts_holds : Rows.TreePartsSaid := S.treeParts.over
#print axioms treeParts_holds
end Go.Proofs.Ytfpiackfhdiapaa
