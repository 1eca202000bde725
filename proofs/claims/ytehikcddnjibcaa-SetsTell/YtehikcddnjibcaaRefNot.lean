/- What the document's Not returns. -/
import Derived.Test.YtehikcddnjibcaaRefNotKit
namespace Go.Proofs.Ytehikcddnjibcaa
open Go.RowKit Go.BigFrame
set_option linter.unusedVariables false
set_option linter.unusedSimpArgs false

theorem rcells_int : ∀ (s : List Rg) (j : Nat) (u : Value), (rcells s)[j]? = some u → ∃ x : Int, u = .int .i64 x
  | [], j, u, h => by simp [rcells] at h
  | r :: s, 0, u, h => by simp [rcells, rcell] at h; exact ⟨_, h.symm⟩
  | r :: s, 1, u, h => by simp [rcells, rcell] at h; exact ⟨_, h.symm⟩
  | r :: s, j + 2, u, h => rcells_int s j u (by simpa [rcells, rcell] using h)
theorem reads_res {g B k : Nat} {W : World} {A : Option Addr} {s : List Rg} (h : Res g W) (hR : Reads W B 2 A k (rcells s)) (x y : Value) : Reads ((W.setCell ⟨g, 0, none⟩ x).setCell ⟨g, 1, none⟩ y) B 2 A k (rcells s) := by
  refine ⟨hR.1, fun hn => ?_⟩
  obtain ⟨b, o, rfl, hb, hc⟩ := hR.2 hn
  refine ⟨b, o, rfl, hb, fun j u hj => ?_⟩
  have hcj := hc j u hj
  obtain ⟨v, rfl⟩ := rcells_int s j u hj
  have n0 : (⟨b, o + j, none⟩ : Addr) ≠ ⟨g, 0, none⟩ := fun e => by rw [e, h.1] at hcj; cases hcj
  have n1 : (⟨b, o + j, none⟩ : Addr) ≠ ⟨g, 1, none⟩ := fun e => by rw [e, h.2.1] at hcj; cases hcj
  rw [World.cell?_setCell_other (h := by first | exact n1 | exact n1.symm), World.cell?_setCell_other (h := by first | exact n0 | exact n0.symm)]
  exact hcj

set_option maxRecDepth 100000 in
set_option maxHeartbeats 4000000 in
theorem refNot_good (l : List Rg) (n : Nat) (hl : l.length = n) (A : Option Addr) (c : Nat) (w : World) (hR : Reads w w.heap.size 2 A n (rcells l)) (hn : n ≤ 2000) (hg : Gd (-1) l) :
    Calls Try.prog 17 #[.slice A n c] w (OutG (fun v => ¬ In l v) 10000 w) := by
  obtain ⟨i0, hi0, hz0, hz1, hz2⟩ := info_parts info4
  have HR := Lib.hid (reads_on hR (below_new w (.cells #[.slice none 0 0, .bool false] 31)))
  have HL := Lib.hid hl
  have HG := Lib.hid hg
  have HRes := Lib.hid (res_new w)
  have HSt : Hid (∀ q : List Rg, (∀ r ∈ q, Ok r) → St (stL [0] q) q) := Lib.hid (st_all)
  clear hR hl hg
  go_enter Try.func17, Try.ntmps17
  go_wp2_with fail
  refine (refGood_yes HL.out HR.out (by omega) HG.out).mono ?_
  rintro e w1 ⟨rfl, g1⟩
  have HRes1 := Lib.hid (HRes.out.on (by simp) g1)
  have HR1 := Lib.hid (reads_on HR.out g1)
  have b1 := (below_new w (.cells #[.slice none 0 0, .bool false] 31)).trans (g1.mono (by simp))
  have hlt1 : w.heap.size < w1.heap.size := by have := g1.size; simp at this; omega
  clear g1 HRes HR
  go_wp2_with fail
  refine (starts_any l n HL.out A c _ HR1.out (by omega)).mono ?_
  rintro e w2 ⟨A2, c2, z, rfl, h2, s2, r2, g2⟩
  have hz : z ≤ 4001 := by have := stL_len l [0]; rw [h2, HL.out] at this; simp at this; omega
  have H2 := Lib.hid h2
  have R2 := Lib.hid r2
  have HR2 := Lib.hid (reads_on HR1.out g2)
  have HRes2 := Lib.hid (HRes1.out.on hlt1 g2)
  have b2 := b1.trans (g2.mono b1.size)
  have hlt2 : w.heap.size < w2.heap.size := by have := g2.size; omega
  have HSt1 := Lib.hid (HSt.out l (fun r hr => (HG.out.lo r hr).2))
  have HPl : Hid (Places (stL [0] l) (fun v => ¬ In l v)) := Lib.hid (places_of HSt1.out (fun i hi v hv h1 h2' => not_congr (st_const HSt1.out (fun r hr => hr) (fun r hr => (HG.out.lo r hr).2) i hi v hv h1 h2')))
  have HSc : Hid (∀ i (h : i < (stL [0] l).length), (!hasB l (stL [0] l)[i]) = true ↔ ¬ In l (stL [0] l)[i]) := Lib.hid (fun i h => by
    unfold hasB
    rw [(goodB_iff l).2 HG.out, (isB_iff _).2 (HSt1.out.2.2.1 _ (List.getElem_mem h)), Bool.true_and, Bool.true_and]
    rw [← inB_iff, Bool.not_eq_true'] ; simp)
  clear h2 s2 r2 g2 HR1 HRes1 b1 HSt HSt1
  generalize stL [0] l = ats at *
  go_wp2_with (at_make; refine wpList_make_full _ rfl _ _ 53 rfl w2.heap.size 4 i0 _ 1 Try.underlying53 hi0 hz0 hz1 .i64 .i64 z z z rfl rfl rfl rfl ?k1 ?k2 (Nat.le_refl _) ?_)
  case k1 => rw [hz2]; omega
  case k2 => unfold maxLen; omega
  first | (intro w3 hown3 hgrow3) | (rename_i w3 hown3 hgrow3)
  have HW : Hid (w3.ownsRow w2.heap.size 4 1 (.slice (some ⟨w2.heap.size, 0, none⟩) z z) z (bcells (List.replicate z false))) := Lib.hid (by
    have e : (madeCells #[Value.bool false] z).toList = bcells (List.replicate z false) := by rw [toList_madeCells_one]; simp [bcells]
    rw [← e]; exact hown3)
  have b3 : Below w2.heap.size w2 w3 := (Below.refl _ _).grown hgrow3 (Nat.le_refl _) (fun k hk => by cases hk)
  clear hown3 hgrow3
  go_wp2_with fail
  go_loopw [5] (fun i wr => MkRel ats (fun x => !hasB l x) z w2.heap.size w2.heap.size w2 i wr) (fun i _ => z - (intOf i).toNat)
  case atStart => exact ⟨0, List.replicate z false, Nat.zero_le _, rfl, Lib.hid (by simp), Lib.hid (fun i _ _ h => absurd h (Nat.not_lt_zero _)), HW.out, b3⟩
  case round =>
    obtain ⟨j, inl, hj, rfl, HLi, HM, hown, hb⟩ := hrel
    have hsz := hb.size
    by_cases hlt : j < z
    · have jl : j < ats.length := by rw [H2.out]; exact hlt
      have HX := Lib.hid (mark_step (f := fun x => !hasB l x) HM.out jl)
      obtain ⟨ba, oa, rfl, hba, pa⟩ := (R2.out.below hb).int jl
      have hcx := Lib.hid (fun W h => refHas_n l n HL.out A c ats[j] W h (by omega))
      have HLn : Hid ((inl.set j (!hasB l ats[j])).length = z) := Lib.hid (by rw [List.length_set]; exact HLi.out)
      have HRj := Lib.hid ((HR2.out.below hb).more hsz)
      clear HM
      generalize ats[j] = aj at *
      go_wp2_with fail
      refine (hcx.out _ HRj.out).mono ?_
      rintro e w5 ⟨rfl, g5⟩
      have b5 := hb.trans (g5.mono hsz)
      have own5 := own_below hown g5
      clear g5 hcx HRj hown hb pa
      generalize hasB l aj = bj at *
      have f1 := own5.frozenAt j
      have hst := (own5.stored j (.bool (!bj))).1
      rw [bcells_set] at hst
      have b6 : Below w2.heap.size w2 (w5.setCell ⟨w2.heap.size, j, none⟩ (.bool (!bj))) := b5.setCell (p := ⟨w2.heap.size, j, none⟩) (Nat.le_refl _) _
      have HO6 := Lib.hid hst
      obtain ⟨u9, hu9⟩ : ∃ u, w5.cell? ⟨w2.heap.size, j, none⟩ = some u := by
        have q := (own5.cellAt j (by omega))
        rw [show (bcells inl)[j]? = some (.bool (inl[j]'(by rw [HLi.out]; exact hlt))) by unfold bcells; rw [List.getElem?_map, List.getElem?_eq_getElem (by rw [HLi.out]; exact hlt)]; rfl] at q
        exact ⟨_, q⟩
      clear hst own5
      go_wp2_with fail
      go_roundw
      case rel => exact ⟨j + 1, inl.set j (!bj), by omega, by go_num, HLn, HX, HO6.out, b6⟩
      case measure => simp [intOf]; omega
    · obtain rfl : j = z := by omega
      have HI : Hid (∀ i (h : i < inl.length) (h2 : i < ats.length), inl[i] = true ↔ ¬ In l ats[i]) := Lib.hid (fun i h h2 => by
        have hm := HM.out i h h2 (by rw [← H2.out]; exact h2)
        rw [hm]; exact HSc.out i h2)
      have HRa := Lib.hid ((R2.out.below hb).more hsz)
      have HRb := Lib.hid (Reads.of_own hown)
      have HRes3 := Lib.hid (HRes2.out.on hlt2 hb)
      have b4 := b2.trans (hb.mono b2.size)
      clear hown HM hb HW b3 HRes2 b2
      go_wp2_with fail
      refine (build_any ats inl _ _ H2.out HLi.out _ _ _ _ _ HPl.out HI.out HRa.out HRb.out (by omega)).mono ?_
      rintro e w6 ⟨s, k, A6, c6, rfl, hk6, hkn, s6, i6, r6, g6⟩
      have HRes6 := Lib.hid (HRes3.out.on (by omega) g6)
      have b6 := b4.trans (g6.mono b4.size)
      have hlt6 := g6.size
      have R6 := Lib.hid r6
      have S6 := Lib.hid s6
      have I6 := Lib.hid i6
      have K6 := Lib.hid hk6
      obtain ⟨r0, r1, f0, f1⟩ := HRes6.out
      clear r6 s6 i6 hk6 HRes3 HI HPl HSc g6 b4
      go_wp2_with fail
      obtain ⟨k0, k1⟩ := res_set HRes6.out (.slice A6 k c6) (.bool true)
      have b7 := res_below b6 HRes6.out (.slice A6 k c6) (.bool true) (Nat.le_refl _)
      have r7 := Lib.hid (reads_res HRes6.out R6.out (.slice A6 k c6) (.bool true))
      have hs7 : ((w6.setCell ⟨w.heap.size, 0, none⟩ (.slice A6 k c6)).setCell ⟨w.heap.size, 1, none⟩ (.bool true)).heap.size = w6.heap.size := by simp
      rw [← hs7] at r7
      generalize (w6.setCell ⟨w.heap.size, 0, none⟩ (.slice A6 k c6)).setCell ⟨w.heap.size, 1, none⟩ (.bool true) = w7 at *
      exact bodyPost_ret (v := .agg #[.slice A6 k c6, .bool true]) (by simp [results, Try.results17, go_sem, k0, k1]) rfl ⟨s, k, A6, c6, rfl, K6.out, by omega, S6.out, I6.out, r7.out, b7⟩
end Go.Proofs.Ytehikcddnjibcaa
