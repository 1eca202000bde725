/- What the document's two returns: of two sets, what is in one, or in both. -/
import Derived.Test.YtehikcddnjibcaaRefNot
import Derived.Test.YtehikcddnjibcaaRefSts
import Derived.Deep.RegionHeld3
namespace Go.Proofs.Ytehikcddnjibcaa
open Go.RowKit Go.BigFrame
set_option linter.unusedVariables false
set_option linter.unusedSimpArgs false

def tw (both x y : Bool) : Bool := x && y || !both && (x || y)
theorem tw000 : tw false false false = false := rfl
theorem tw001 : tw false false true = true := rfl
theorem tw010 : tw false true false = true := rfl
theorem tw011 : tw false true true = true := rfl
theorem tw100 : tw true false false = false := rfl
theorem tw101 : tw true false true = false := rfl
theorem tw110 : tw true true false = false := rfl
theorem tw111 : tw true true true = true := rfl
def twP (both : Bool) (x y : Prop) : Prop := if both = true then x ∧ y else x ∨ y
theorem tw_iff (both x y : Bool) (p q : Prop) (hx : x = true ↔ p) (hy : y = true ↔ q) : tw both x y = true ↔ twP both p q := by
  unfold twP tw
  rw [← hx, ← hy]
  cases both <;> cases x <;> cases y <;> simp
theorem twP_congr (both : Bool) {p q p' q' : Prop} (hp : p ↔ p') (hq : q ↔ q') : twP both p q ↔ twP both p' q' := by
  unfold twP
  rw [hp, hq]
theorem hasB_in {l : List Rg} (h : Gd (-1) l) {v : Int} (hv : Sc v) : hasB l v = true ↔ In l v := by
  unfold hasB
  rw [(goodB_iff l).2 h, (isB_iff _).2 hv, Bool.true_and, Bool.true_and, inB_iff]

theorem two_bad (a b : List Rg) (n m : Nat) (ha : a.length = n) (hb : b.length = m) (A B : Option Addr) (c d : Nat) (both : Bool) (w : World)
    (hRa : Reads w w.heap.size 2 A n (rcells a)) (hRb : Reads w w.heap.size 2 B m (rcells b)) (hn : n ≤ 2000) (hm : m ≤ 2000) (hg : (goodB a && goodB b) = false) :
    Calls Try.prog 37 #[.slice A n c, .slice B m d, .bool both] w (OutGno w) := by
  have HRa := Lib.hid (reads_on hRa (below_new w (.cells #[.slice none 0 0, .bool false] 31)))
  have HRb := Lib.hid (reads_on hRb (below_new w (.cells #[.slice none 0 0, .bool false] 31)))
  have H1 := Lib.hid (fun W h => refGood_n n a ha A c W h (by omega))
  have H2 := Lib.hid (fun W h => refGood_n m b hb B d W h (by omega))
  have HRes := Lib.hid (res_new w)
  clear hRa hRb ha hb
  cases ga : goodB a
  · rw [ga] at H1
    clear hg
    go_enter Try.func37, Try.ntmps37
    go_wp2_with fail
    refine (H1.out _ HRa.out).mono ?_
    rintro e w1 ⟨rfl, g1⟩
    have b1 := (below_new w (.cells #[.slice none 0 0, .bool false] 31)).trans (g1.mono (by simp))
    have HRes1 := Lib.hid (HRes.out.on (by simp) g1)
    obtain ⟨r0, r1, f0, f1⟩ := HRes1.out
    clear g1
    go_wp2_with fail
    obtain ⟨k0, k1⟩ := res_set HRes1.out (.slice none 0 0) (.bool false)
    have b2 := res_below b1 HRes1.out (.slice none 0 0) (.bool false) (Nat.le_refl _)
    generalize (w1.setCell ⟨w.heap.size, 0, none⟩ (.slice none 0 0)).setCell ⟨w.heap.size, 1, none⟩ (.bool false) = w2 at *
    exact bodyPost_ret (v := .agg #[.slice none 0 0, .bool false]) (by simp [results, Try.results37, go_sem, k0, k1]) rfl ⟨rfl, b2⟩
  · rw [ga, Bool.true_and] at hg
    rw [ga] at H1
    rw [hg] at H2
    go_enter Try.func37, Try.ntmps37
    go_wp2_with fail
    refine (H1.out _ HRa.out).mono ?_
    rintro e w0 ⟨rfl, g0⟩
    have b0 := (below_new w (.cells #[.slice none 0 0, .bool false] 31)).trans (g0.mono (by simp))
    have HRes0 := Lib.hid (HRes.out.on (by simp) g0)
    have HRb0 := Lib.hid (reads_on HRb.out g0)
    have hlt0 : w.heap.size < w0.heap.size := by have := g0.size; simp at this; omega
    clear g0 HRes HRb
    go_wp2_with fail
    refine (H2.out _ HRb0.out).mono ?_
    rintro e w1 ⟨rfl, g1⟩
    have b1 := b0.trans (g1.mono b0.size)
    have HRes1 := Lib.hid (HRes0.out.on hlt0 g1)
    obtain ⟨r0, r1, f0, f1⟩ := HRes1.out
    clear g1
    go_wp2_with fail
    obtain ⟨k0, k1⟩ := res_set HRes1.out (.slice none 0 0) (.bool false)
    have b2 := res_below b1 HRes1.out (.slice none 0 0) (.bool false) (Nat.le_refl _)
    generalize (w1.setCell ⟨w.heap.size, 0, none⟩ (.slice none 0 0)).setCell ⟨w.heap.size, 1, none⟩ (.bool false) = w2 at *
    exact bodyPost_ret (v := .agg #[.slice none 0 0, .bool false]) (by simp [results, Try.results37, go_sem, k0, k1]) rfl ⟨rfl, b2⟩

set_option maxRecDepth 100000 in
set_option maxHeartbeats 4000000 in
theorem two_good (a b : List Rg) (n m : Nat) (ha : a.length = n) (hb : b.length = m) (A B : Option Addr) (c d : Nat) (both : Bool) (w : World) (hA : A = none → c = 0) (hB : B = none → d = 0)
    (hRa : Reads w w.heap.size 2 A n (rcells a)) (hRb : Reads w w.heap.size 2 B m (rcells b)) (hn : n ≤ 2000) (hm : m ≤ 2000) (hga : Gd (-1) a) (hgb : Gd (-1) b) :
    Calls Try.prog 37 #[.slice A n c, .slice B m d, .bool both] w (OutG (fun v => twP both (In a v) (In b v)) 10000 w) := by
  obtain ⟨i0, hi0, hz0, hz1, hz2⟩ := info_parts info4
  have HRa := Lib.hid (reads_on hRa (below_new w (.cells #[.slice none 0 0, .bool false] 31)))
  have HRb := Lib.hid (reads_on hRb (below_new w (.cells #[.slice none 0 0, .bool false] 31)))
  have HLa := Lib.hid ha
  have HLb := Lib.hid hb
  have HGa := Lib.hid hga
  have HGb := Lib.hid hgb
  have HA := Lib.hid hA
  have HB := Lib.hid hB
  have HRes := Lib.hid (res_new w)
  have HLL : Hid ((a ++ b).length = n + m) := Lib.hid (by simp [ha, hb])
  have HSt1 : Hid (St (stL [0] (a ++ b)) (a ++ b)) := Lib.hid (st_all (a ++ b) (fun r hr => by
    rcases List.mem_append.1 hr with h | h
    · exact (hga.lo r h).2
    · exact (hgb.lo r h).2))
  clear hRa hRb ha hb hga hgb hA hB
  have HPl : Hid (Places (stL [0] (a ++ b)) (fun v => twP both (In a v) (In b v))) := Lib.hid (places_of HSt1.out (fun i hi v hv h1 h2' => twP_congr both
    (st_const HSt1.out (fun r hr => List.mem_append_left _ hr) (fun r hr => (HGa.out.lo r hr).2) i hi v hv h1 h2')
    (st_const HSt1.out (fun r hr => List.mem_append_right _ hr) (fun r hr => (HGb.out.lo r hr).2) i hi v hv h1 h2')))
  have HSc : Hid (∀ i (h : i < (stL [0] (a ++ b)).length), tw both (hasB a (stL [0] (a ++ b))[i]) (hasB b (stL [0] (a ++ b))[i]) = true ↔ twP both (In a (stL [0] (a ++ b))[i]) (In b (stL [0] (a ++ b))[i])) := Lib.hid (fun i h =>
    tw_iff both _ _ _ _ (hasB_in HGa.out (HSt1.out.2.2.1 _ (List.getElem_mem h))) (hasB_in HGb.out (HSt1.out.2.2.1 _ (List.getElem_mem h))))
  have HSL : Hid ((stL [0] (a ++ b)).length ≤ 1 + 2 * (n + m)) := Lib.hid (by have := stL_len (a ++ b) [0]; rw [HLL.out] at this; simpa using this)
  go_enter Try.func37, Try.ntmps37
  go_wp2_with fail
  refine (refGood_yes HLa.out HRa.out (by omega) HGa.out).mono ?_
  rintro e w0 ⟨rfl, g0⟩
  have b0 := (below_new w (.cells #[.slice none 0 0, .bool false] 31)).trans (g0.mono (by simp))
  have HRes0 := Lib.hid (HRes.out.on (by simp) g0)
  have HRa0 := Lib.hid (reads_on HRa.out g0)
  have HRb0 := Lib.hid (reads_on HRb.out g0)
  have hlt0 : w.heap.size < w0.heap.size := by have := g0.size; simp at this; omega
  clear g0 HRes HRb HRa
  go_wp2_with fail
  refine (refGood_yes HLb.out HRb0.out (by omega) HGb.out).mono ?_
  rintro e w1 ⟨rfl, g1⟩
  have b1 := b0.trans (g1.mono b0.size)
  have HRes1 := Lib.hid (HRes0.out.on hlt0 g1)
  have HRa1 := Lib.hid (reads_on HRa0.out g1)
  have HRb1 := Lib.hid (reads_on HRb0.out g1)
  have hlt1 : w.heap.size < w1.heap.size := by have := g1.size; omega
  clear g1 HRes0 HRb0 HRa0 b0
  go_wp2_with fail
  have bn := below_new w1 (.cells #[.slice A n c, .slice B m d] 23)
  refine (starts_two a b n m HLa.out HLb.out A B c d w1.heap.size 2 _ HA.out HB.out (by simp) (by simp) (reads_on HRa1.out bn) (reads_on HRb1.out bn) (by omega) (by omega)).mono ?_
  rintro e w2 ⟨A2, c2, z, rfl, h2, s2, r2, g2⟩
  have g2' : Below w1.heap.size w1 w2 := bn.trans (g2.mono (by simp))
  have hz : z ≤ 8001 := by have := HSL.out; rw [h2] at this; omega
  have H2 := Lib.hid h2
  have R2 := Lib.hid r2
  have HRa2 := Lib.hid (reads_on HRa1.out g2')
  have HRb2 := Lib.hid (reads_on HRb1.out g2')
  have HRes2 := Lib.hid (HRes1.out.on hlt1 g2')
  have b2 := b1.trans (g2'.mono b1.size)
  have hlt2 : w.heap.size < w2.heap.size := by have := g2'.size; omega
  clear h2 s2 r2 g2 g2' bn HRa1 HRb1 HRes1 b1 HSt1 HSL HLL
  generalize stL [0] (a ++ b) = ats at *
  go_wp2_with (at_make; refine wpList_make_full _ rfl _ _ 53 rfl w2.heap.size 4 i0 _ 1 Try.underlying53 hi0 hz0 hz1 .i64 .i64 z z z rfl rfl rfl rfl ?k1 ?k2 (Nat.le_refl _) ?_)
  case k1 => rw [hz2]; omega
  case k2 => unfold maxLen; omega
  first | (intro w3 hown3 hgrow3) | (rename_i w3 hown3 hgrow3)
  have HW : Hid (w3.ownsRow w2.heap.size 4 1 (.slice (some ⟨w2.heap.size, 0, none⟩) z z) z (bcells (List.replicate z false))) := Lib.hid (by
    have e : (madeCells #[Value.bool false] z).toList = bcells (List.replicate z false) := by rw [toList_madeCells_one]; simp [bcells]
    rw [← e]; exact hown3)
  have b3 : Below w2.heap.size w2 w3 := (Below.refl _ _).grown hgrow3 (Nat.le_refl _) (fun k hk => by cases hk)
  clear hown3 hgrow3
  go_wp2_with fail
  go_loopw [9] (fun i wr => MkRel ats (fun x => tw both (hasB a x) (hasB b x)) z w2.heap.size w2.heap.size w2 i wr) (fun i _ => z - (intOf i).toNat)
  case atStart => exact ⟨0, List.replicate z false, Nat.zero_le _, rfl, Lib.hid (by simp), Lib.hid (fun i _ _ h => absurd h (Nat.not_lt_zero _)), HW.out, b3⟩
  case round =>
    obtain ⟨j, inl, hj, rfl, HLi, HM, hown, hb⟩ := hrel
    have hsz := hb.size
    by_cases hlt : j < z
    · have jl : j < ats.length := by rw [H2.out]; exact hlt
      have HX := Lib.hid (mark_step (f := fun x => tw both (hasB a x) (hasB b x)) HM.out jl)
      obtain ⟨ba, oa, rfl, hba, pa⟩ := (R2.out.below hb).int jl
      have HLn : Hid ((inl.set j (tw both (hasB a ats[j]) (hasB b ats[j]))).length = z) := Lib.hid (by rw [List.length_set]; exact HLi.out)
      have hca : Hid (∀ W : World, W.cell? ⟨ba, oa + j, none⟩ = some (.int .i64 ats[j]) ∧ Below wr.heap.size wr W → Calls Try.prog 21 #[.slice A n c, .int .i64 ats[j]] W fun e w' => e = .returned (.bool (hasB a ats[j])) ∧ (w'.cell? ⟨ba, oa + j, none⟩ = some (.int .i64 ats[j]) ∧ Below wr.heap.size wr w')) := Lib.hid (fun W hW =>
        (refHas_n a n HLa.out A c ats[j] W (reads_on ((HRa2.out.below hb).more hsz) hW.2) (by omega)).mono (fun e w' h => ⟨h.1, kept_cell h.2 hW.1, hW.2.trans (h.2.mono hW.2.size)⟩))
      have hcb : Hid (∀ W : World, W.cell? ⟨ba, oa + j, none⟩ = some (.int .i64 ats[j]) ∧ Below wr.heap.size wr W → Calls Try.prog 21 #[.slice B m d, .int .i64 ats[j]] W fun e w' => e = .returned (.bool (hasB b ats[j])) ∧ (w'.cell? ⟨ba, oa + j, none⟩ = some (.int .i64 ats[j]) ∧ Below wr.heap.size wr w')) := Lib.hid (fun W hW =>
        (refHas_n b m HLb.out B d ats[j] W (reads_on ((HRb2.out.below hb).more hsz) hW.2) (by omega)).mono (fun e w' h => ⟨h.1, kept_cell h.2 hW.1, hW.2.trans (h.2.mono hW.2.size)⟩))
      clear HM
      generalize hasB a ats[j] = xa at *
      generalize hasB b ats[j] = xb at *
      generalize ats[j] = aj at *
      have bR := Below.refl wr.heap.size wr
      go_wp2_with fail
      go_region_held3 (fun w' => w'.cell? ⟨ba, oa + j, none⟩ = some (.int .i64 aj) ∧ Below wr.heap.size wr w') (first | assumption | exact ⟨pa, bR⟩ | exact ⟨pa, Below.drew bR⟩ | exact ⟨by assumption, by assumption⟩ | exact ⟨by assumption, Below.drew (by assumption)⟩) (first | (go_at_call 21; with_reducible refine Calls.mono (hca.out _ ?_) ?_; (first | assumption | exact ⟨pa, bR⟩ | exact ⟨pa, Below.drew bR⟩ | exact ⟨by assumption, by assumption⟩ | exact ⟨by assumption, Below.drew (by assumption)⟩); rintro e w9 ⟨rfl, q9, b9⟩) | (go_at_call 21; with_reducible refine Calls.mono (hcb.out _ ?_) ?_; (first | assumption | exact ⟨pa, bR⟩ | exact ⟨pa, Below.drew bR⟩ | exact ⟨by assumption, by assumption⟩ | exact ⟨by assumption, Below.drew (by assumption)⟩); rintro e w8 ⟨rfl, q8, b8⟩))
      have b5 := hb.trans (b8.mono hsz)
      have own5 := own_below hown b8
      clear hca hcb hown hb pa bR b8 q8 q9 b9
      rename_i hHeld
      clear hHeld
      have f1 := own5.frozenAt j
      have hst := (own5.stored j (.bool (tw both xa xb))).1
      rw [bcells_set] at hst
      have b6 : Below w2.heap.size w2 (w8.setCell ⟨w2.heap.size, j, none⟩ (.bool (tw both xa xb))) := b5.setCell (p := ⟨w2.heap.size, j, none⟩) (Nat.le_refl _) _
      have HO6 := Lib.hid hst
      obtain ⟨u9, hu9⟩ : ∃ u, w8.cell? ⟨w2.heap.size, j, none⟩ = some u := by
        have q := (own5.cellAt j (by omega))
        rw [show (bcells inl)[j]? = some (.bool (inl[j]'(by rw [HLi.out]; exact hlt))) by unfold bcells; rw [List.getElem?_map, List.getElem?_eq_getElem (by rw [HLi.out]; exact hlt)]; rfl] at q
        exact ⟨_, q⟩
      clear hst own5
      cases both <;> cases xa <;> cases xb <;> simp only [tw000, tw001, tw010, tw011, tw100, tw101, tw110, tw111] at b6 HO6 HLn HX
      all_goals
        go_wp2_with fail
        go_roundw
        case rel => exact ⟨j + 1, _, by omega, by go_num, HLn, HX, HO6.out, b6⟩
        case measure => simp [intOf]; omega
    · obtain rfl : j = z := by omega
      have HI : Hid (∀ i (h : i < inl.length) (h2 : i < ats.length), inl[i] = true ↔ twP both (In a ats[i]) (In b ats[i])) := Lib.hid (fun i h h2 => by
        have hm := HM.out i h h2 (by rw [← H2.out]; exact h2)
        rw [hm]; exact HSc.out i h2)
      have HRa := Lib.hid ((R2.out.below hb).more hsz)
      have HRb := Lib.hid (Reads.of_own hown)
      have HRes3 := Lib.hid (HRes2.out.on hlt2 hb)
      have b4 := b2.trans (hb.mono b2.size)
      clear hown HM hb HW b3 HRes2 b2
      go_wp2_with fail
      refine (build_any ats inl _ _ H2.out HLi.out _ _ _ _ _ HPl.out HI.out HRa.out HRb.out (by omega)).mono ?_
      rintro e w6 ⟨s, k, A6, c6, rfl, hk6, hkn, s6, i6, r6, g6⟩
      have HRes6 := Lib.hid (HRes3.out.on (by omega) g6)
      have b6 := b4.trans (g6.mono b4.size)
      have hlt6 := g6.size
      have R6 := Lib.hid r6
      have S6 := Lib.hid s6
      have I6 := Lib.hid i6
      have K6 := Lib.hid hk6
      obtain ⟨r0, r1, f0, f1⟩ := HRes6.out
      clear r6 s6 i6 hk6 HRes3 HI HPl HSc g6 b4
      go_wp2_with fail
      obtain ⟨k0, k1⟩ := res_set HRes6.out (.slice A6 k c6) (.bool true)
      have b7 := res_below b6 HRes6.out (.slice A6 k c6) (.bool true) (Nat.le_refl _)
      have r7 := Lib.hid (reads_res HRes6.out R6.out (.slice A6 k c6) (.bool true))
      have hs7 : ((w6.setCell ⟨w.heap.size, 0, none⟩ (.slice A6 k c6)).setCell ⟨w.heap.size, 1, none⟩ (.bool true)).heap.size = w6.heap.size := by simp
      rw [← hs7] at r7
      generalize (w6.setCell ⟨w.heap.size, 0, none⟩ (.slice A6 k c6)).setCell ⟨w.heap.size, 1, none⟩ (.bool true) = w7 at *
      exact bodyPost_ret (v := .agg #[.slice A6 k c6, .bool true]) (by simp [results, Try.results37, go_sem, k0, k1]) rfl ⟨s, k, A6, c6, rfl, K6.out, by omega, S6.out, I6.out, r7.out, b7⟩
end Go.Proofs.Ytehikcddnjibcaa
