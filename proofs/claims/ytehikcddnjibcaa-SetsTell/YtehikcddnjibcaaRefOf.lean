/- What the document's Of returns. -/
import Derived.Test.YtehikcddnjibcaaRefOfKit
import Derived.BigRegion
namespace Go.Proofs.Ytehikcddnjibcaa
open Go.RowKit Go.BigFrame
set_option linter.unusedVariables false
set_option linter.unusedSimpArgs false

set_option maxRecDepth 100000 in
set_option maxHeartbeats 4000000 in
theorem refOf_any (l : List Rg) (n : Nat) (hl : l.length = n) (A : Option Addr) (c : Nat) (w : World) (hR : Reads w w.heap.size 2 A n (rcells l)) (hn : n ≤ 4000) :
    Calls Try.prog 14 #[.slice A n c] w fun e w' => (allOk l = true ∧ OutG (In l) 10000 w e w') ∨ (allOk l = false ∧ OutGno w e w') := by
  obtain ⟨i0, hi0, hz0, hz1, hz2⟩ := info_parts info4
  have HL := Lib.hid hl
  have HR0 := Lib.hid (reads_on hR (below_new w (.cells #[.slice none 0 0, .bool false] 31)))
  have HRes := Lib.hid (res_new w)
  have b0 := below_new w (.cells #[.slice none 0 0, .bool false] 31)
  have hlt0 : w.heap.size < (w.alloc (.cells #[.slice none 0 0, .bool false] 31)).heap.size := by simp
  clear hR hl
  go_enter Try.func14, Try.ntmps14
  go_wp2_with fail
  generalize w.alloc (.cells #[.slice none 0 0, .bool false] 31) = w0 at *
  go_loopw [3] (fun i wr => ∃ (k : Nat), k ≤ n ∧ i = .int .i64 k ∧ Below w0.heap.size w0 wr ∧ Hid (∀ r ∈ l.take k, Ok r)) (fun i _ => n - (intOf i).toNat)
  case atStart => exact ⟨0, Nat.zero_le _, rfl, Below.refl _ _, Lib.hid (by simp)⟩
  case round =>
    obtain ⟨k, hk, rfl, hb, HG⟩ := hrel
    have hsz := hb.size
    by_cases hlt : k < n
    · have kl : k < l.length := by rw [HL.out]; exact hlt
      obtain ⟨b, o, rfl, hbb, p0, p1⟩ := (HR0.out.below hb).rg kl
      have HM : Hid (mayB l[k] = true → ∀ r ∈ l.take (k + 1), Ok r) := Lib.hid (fun h r hr => by
        rw [List.take_succ_eq_append_getElem kl] at hr
        rcases List.mem_append.1 hr with hr | hr
        · exact HG.out r hr
        · rw [List.mem_singleton] at hr; subst hr; exact (mayB_iff _).1 h)
      have HF : Hid (mayB l[k] = false → allOk l = false) := Lib.hid (fun h => by
        unfold allOk
        rw [List.all_eq_false]
        exact ⟨l[k], List.getElem_mem kl, by rw [h]; decide⟩)
      generalize l[k] = x at *
      obtain ⟨x0, x1⟩ := x
      simp only [] at p0 p1
      have hd : mayB (x0, x1) = (isB x0 && (isB x1 && decide (x0 ≤ x1))) := rfl
      have HRes1 := Lib.hid (fun N => (HRes.out.on hlt0 (below_drewN hb N)))
      have b1 : Below w.heap.size w wr := b0.trans (hb.mono b0.size)
      cases hx : isB x0
      · have HX := Lib.hid (HF.out (by rw [hd, hx]; rfl))
        clear HM HF HG hd
        go_wp2_with fail
        go_big_quiet (first | (go_at_call 28; refine Calls.quiet_of_same (refIs_q _ _)))
        obtain ⟨r0, r1, f0, f1⟩ := HRes1.out nq
        have b2 := below_drewN b1 nq
        have HRs := Lib.hid (HRes1.out nq)
        generalize wr.drewN nq = w5 at *
        clear hb b1 p0 p1 HRes1
        go_wp2_with fail
        obtain ⟨k0, k1⟩ := res_set HRs.out (.slice none 0 0) (.bool false)
        have b7 := res_below b2 HRs.out (.slice none 0 0) (.bool false) (Nat.le_refl _)
        generalize (w5.setCell ⟨w.heap.size, 0, none⟩ (.slice none 0 0)).setCell ⟨w.heap.size, 1, none⟩ (.bool false) = w7 at *
        exact bodyPost_ret (v := .agg #[.slice none 0 0, .bool false]) (by simp [results, Try.results14, go_sem, k0, k1]) rfl (.inr ⟨HX.out, rfl, b7⟩)
      · cases hy : isB x1
        · have HX := Lib.hid (HF.out (by rw [hd, hx, hy]; rfl))
          clear HM HF HG hd
          go_wp2_with fail
          go_big_quiet (first | (go_at_call 28; refine Calls.quiet_of_same (refIs_q _ _)))
          obtain ⟨r0, r1, f0, f1⟩ := HRes1.out nq
          have b2 := below_drewN b1 nq
          have HRs := Lib.hid (HRes1.out nq)
          generalize wr.drewN nq = w5 at *
          clear hb b1 p0 p1 HRes1
          go_wp2_with fail
          obtain ⟨k0, k1⟩ := res_set HRs.out (.slice none 0 0) (.bool false)
          have b7 := res_below b2 HRs.out (.slice none 0 0) (.bool false) (Nat.le_refl _)
          generalize (w5.setCell ⟨w.heap.size, 0, none⟩ (.slice none 0 0)).setCell ⟨w.heap.size, 1, none⟩ (.bool false) = w7 at *
          exact bodyPost_ret (v := .agg #[.slice none 0 0, .bool false]) (by simp [results, Try.results14, go_sem, k0, k1]) rfl (.inr ⟨HX.out, rfl, b7⟩)
        · by_cases hxy : x1 < x0
          · have HX := Lib.hid (HF.out (by rw [hd, hx, hy, decide_eq_false (by omega)]; rfl))
            clear HM HF HG hd
            go_wp2_with fail
            go_big_quiet (first | (go_at_call 28; refine Calls.quiet_of_same (refIs_q _ _)))
            obtain ⟨r0, r1, f0, f1⟩ := HRes1.out nq
            have b2 := below_drewN b1 nq
            have HRs := Lib.hid (HRes1.out nq)
            generalize wr.drewN nq = w5 at *
            clear hb b1 p0 p1 HRes1
            go_wp2_with fail
            obtain ⟨k0, k1⟩ := res_set HRs.out (.slice none 0 0) (.bool false)
            have b7 := res_below b2 HRs.out (.slice none 0 0) (.bool false) (Nat.le_refl _)
            generalize (w5.setCell ⟨w.heap.size, 0, none⟩ (.slice none 0 0)).setCell ⟨w.heap.size, 1, none⟩ (.bool false) = w7 at *
            exact bodyPost_ret (v := .agg #[.slice none 0 0, .bool false]) (by simp [results, Try.results14, go_sem, k0, k1]) rfl (.inr ⟨HX.out, rfl, b7⟩)
          · have HX := Lib.hid (HM.out (by rw [hd, hx, hy, decide_eq_true (by omega)]; rfl))
            have hxy' : decide (x1 < x0) = false := decide_eq_false hxy
            clear HM HF HG hd
            go_wp2_with fail
            go_big_quiet (first | (go_at_call 28; refine Calls.quiet_of_same (refIs_q _ _)))
            go_wp2_with fail
            go_roundw
            case rel => exact ⟨k + 1, by omega, by go_num, below_drewN hb _, HX⟩
            case measure => simp [intOf]; omega
    · have HOk : Hid (∀ r ∈ l, Ok r) := Lib.hid (by
        have h := HG.out
        rwa [List.take_of_length_le (by rw [HL.out]; omega)] at h)
      have HAl : Hid (allOk l = true) := Lib.hid (by
        unfold allOk
        rw [List.all_eq_true]
        exact fun r hr => (mayB_iff r).2 (HOk.out r hr))
      have HR1 := Lib.hid ((HR0.out.below hb).more hsz)
      have HRes1 := Lib.hid (HRes.out.on hlt0 hb)
      have b1 : Below w.heap.size w wr := b0.trans (hb.mono b0.size)
      have hlt1 : w.heap.size < wr.heap.size := by omega
      clear HG HR0 HRes hb b0
      rename World => w1
      go_wp2_with fail
      refine (starts_any l n HL.out A c _ HR1.out (by omega)).mono ?_
      rintro e w2 ⟨A2, c2, z, rfl, h2, s2, r2, g2⟩
      have hz : z ≤ 8001 := by have := stL_len l [0]; rw [h2, HL.out] at this; simp at this; omega
      have H2 := Lib.hid h2
      have R2 := Lib.hid r2
      have HR2 := Lib.hid (reads_on HR1.out g2)
      have HRes2 := Lib.hid (HRes1.out.on hlt1 g2)
      have b2 := b1.trans (g2.mono b1.size)
      have hlt2 : w.heap.size < w2.heap.size := by have := g2.size; omega
      have HSt1 := Lib.hid (st_all l HOk.out)
      have HPl : Hid (Places (stL [0] l) (In l)) := Lib.hid (places_of HSt1.out (fun i hi v hv h1 h2' => (st_const HSt1.out (fun r hr => hr) HOk.out i hi v hv h1 h2')))
      clear h2 s2 r2 g2 HR1 HRes1 b1 HSt1
      generalize stL [0] l = ats at *
      go_wp2_with (at_make; refine wpList_make_full _ rfl _ _ 53 rfl w2.heap.size 4 i0 _ 1 Try.underlying53 hi0 hz0 hz1 .i64 .i64 z z z rfl rfl rfl rfl ?k1 ?k2 (Nat.le_refl _) ?_)
      case k1 => rw [hz2]; omega
      case k2 => unfold maxLen; omega
      first | (intro w3 hown3 hgrow3) | (rename_i w3 hown3 hgrow3)
      have HW : Hid (w3.ownsRow w2.heap.size 4 1 (.slice (some ⟨w2.heap.size, 0, none⟩) z z) z (bcells (mall (inB l) ats z 0))) := Lib.hid (by
        have e : (madeCells #[Value.bool false] z).toList = bcells (mall (inB l) ats z 0) := by rw [toList_madeCells_one]; simp [bcells, mall]
        rw [← e]; exact hown3)
      have b3 : Below w2.heap.size w2 w3 := (Below.refl _ _).grown hgrow3 (Nat.le_refl _) (fun k hk => by cases hk)
      clear hown3 hgrow3
      go_wp2_with fail
      go_loopw [6] (fun i wr => ∃ j : Nat, j ≤ z ∧ i = .int .i64 j ∧ wr.ownsRow w2.heap.size 4 1 (.slice (some ⟨w2.heap.size, 0, none⟩) z z) z (bcells (mall (inB l) ats z j)) ∧ Below w2.heap.size w2 wr) (fun i _ => z - (intOf i).toNat)
      case atStart => exact ⟨0, Nat.zero_le _, rfl, HW.out, b3⟩
      case round =>
        obtain ⟨j, hj, rfl, hown, hb⟩ := hrel
        by_cases hjz : j < z
        · have jl : j < ats.length := by rw [H2.out]; exact hjz
          rw [mall_open hjz] at hown
          have HO := Lib.hid hown
          have HShut := Lib.hid (mall_shut (f := inB l) H2.out jl)
          have HSet := Lib.hid (fun x y => mrow_set (f := inB l) H2.out hjz x y)
          have HAt := Lib.hid (fun x => mrow_at (f := inB l) H2.out hjz x)
          have HPa : Hid (∃ ba oa, A2 = some ⟨ba, oa, none⟩ ∧ ba < w2.heap.size ∧ w2.cell? ⟨ba, oa + j, none⟩ = some (.int .i64 ats[j])) := Lib.hid (R2.out.int jl)
          clear hown
          generalize ats[j] = aj at *
          rename World => w4
          go_wp2_with fail
          go_loopw [7] (fun i wr => ∃ k : Nat, k ≤ n ∧ i = .int .i64 k ∧ wr.ownsRow w2.heap.size 4 1 (.slice (some ⟨w2.heap.size, 0, none⟩) z z) z (bcells (mrow (inB l) ats z j (inB (l.take k) aj))) ∧ Below w2.heap.size w2 wr) (fun i _ => n - (intOf i).toNat)
          case atStart => exact ⟨0, Nat.zero_le _, rfl, HO.out, hb⟩
          case round =>
            obtain ⟨k, hk, rfl, hown, hbw⟩ := hrel
            by_cases hkn : k < n
            · have kl : k < l.length := by rw [HL.out]; exact hkn
              obtain ⟨ba, oa, rfl, hba, pa2⟩ := HPa.out
              have pa : wr.cell? ⟨ba, oa + j, none⟩ = some (.int .i64 aj) := (hbw.cell (p := ⟨ba, oa + j, none⟩) hba).trans pa2
              obtain ⟨b, o, rfl, hbb, p0, p1⟩ := (HR2.out.below hbw).rg kl
              have HT := Lib.hid (inB_take l k kl aj)
              have f1 := hown.frozenAt j
              have hu : wr.cell? ⟨w2.heap.size, j, none⟩ = some (.bool (inB (l.take k) aj)) := (hown.cellAt j (by omega)).trans (by unfold bcells; rw [List.getElem?_map, HAt.out]; rfl)
              have HSt : Hid (∀ x : Bool, (wr.setCell ⟨w2.heap.size, j, none⟩ (.bool x)).drew.ownsRow w2.heap.size 4 1 (.slice (some ⟨w2.heap.size, 0, none⟩) z z) z (bcells (mrow (inB l) ats z j x))) := Lib.hid (fun x => by
                have h := (hown.stored j (.bool x)).1
                rw [bcells_set, HSet.out] at h
                exact World.ownsRow.kept (row := none) h ⟨rfl, rfl, rfl, Nat.le_refl _, fun _ _ _ => rfl⟩ (by simp [Value.ownBlock]))
              have HBt : Hid (∀ x : Bool, Below w2.heap.size w2 (wr.setCell ⟨w2.heap.size, j, none⟩ (.bool x)).drew) := Lib.hid (fun x => Below.drew (hbw.setCell (p := ⟨w2.heap.size, j, none⟩) (Nat.le_refl _) _))
              generalize l[k] = x at *
              obtain ⟨x0, x1⟩ := x
              simp only [] at p0 p1
              clear hown hbw pa2 HO HShut HSet HAt HPa
              generalize inB (l.take k) aj = cur at *
              cases cur
              · by_cases h0 : x0 ≤ aj
                · by_cases h1 : aj ≤ x1
                  · have HY := Lib.hid (HSt.out true)
                    have HZ := Lib.hid (HBt.out true)
                    have HE : Hid (inB (l.take (k + 1)) aj = true) := Lib.hid (by rw [HT.out]; simp [h0, h1])
                    clear HT HSt HBt
                    go_wp2_with fail
                    go_region
                    go_wp2_with fail
                    go_roundw
                    case rel => exact ⟨k + 1, by omega, by go_num, by rw [HE.out]; exact HY.out, HZ.out⟩
                    case measure => simp [intOf]; omega
                  · have h1' : decide (aj ≤ x1) = false := decide_eq_false h1
                    have HY := Lib.hid (HSt.out false)
                    have HZ := Lib.hid (HBt.out false)
                    have HE : Hid (inB (l.take (k + 1)) aj = false) := Lib.hid (by rw [HT.out]; simp [h0, h1])
                    clear HT HSt HBt
                    go_wp2_with fail
                    go_region
                    go_wp2_with fail
                    go_roundw
                    case rel => exact ⟨k + 1, by omega, by go_num, by rw [HE.out]; exact HY.out, HZ.out⟩
                    case measure => simp [intOf]; omega
                · have h0' : decide (x0 ≤ aj) = false := decide_eq_false h0
                  have HY := Lib.hid (HSt.out false)
                  have HZ := Lib.hid (HBt.out false)
                  have HE : Hid (inB (l.take (k + 1)) aj = false) := Lib.hid (by rw [HT.out]; simp [h0])
                  clear HT HSt HBt
                  go_wp2_with fail
                  go_region
                  go_wp2_with fail
                  go_roundw
                  case rel => exact ⟨k + 1, by omega, by go_num, by rw [HE.out]; exact HY.out, HZ.out⟩
                  case measure => simp [intOf]; omega
              · have HY := Lib.hid (HSt.out true)
                have HZ := Lib.hid (HBt.out true)
                have HE : Hid (inB (l.take (k + 1)) aj = true) := Lib.hid (by rw [HT.out]; simp)
                clear HT HSt HBt
                go_wp2_with fail
                go_region
                go_wp2_with fail
                go_roundw
                case rel => exact ⟨k + 1, by omega, by go_num, by rw [HE.out]; exact HY.out, HZ.out⟩
                case measure => simp [intOf]; omega
            · have HN : Hid (wr.ownsRow w2.heap.size 4 1 (.slice (some ⟨w2.heap.size, 0, none⟩) z z) z (bcells (mall (inB l) ats z (j + 1)))) := Lib.hid (by
                rw [List.take_of_length_le (by rw [HL.out]; omega), HShut.out] at hown
                exact hown)
              clear hown HO
              go_wp2_with fail
              go_roundw
              case rel => exact ⟨j + 1, by omega, by go_num, HN.out, hbw⟩
              case measure => simp [intOf]; omega
        · obtain rfl : j = z := by omega
          rw [mall_end H2.out] at hown
          have hsz := hb.size
          have HI : Hid (∀ i (h : i < (ats.map (inB l)).length) (h2 : i < ats.length), (ats.map (inB l))[i] = true ↔ In l ats[i]) := Lib.hid (fun i h h2 => by
            rw [List.getElem_map]; exact inB_iff _ _)
          have HLi : Hid ((ats.map (inB l)).length = j) := Lib.hid (by rw [List.length_map]; exact H2.out)
          have HRa := Lib.hid ((R2.out.below hb).more hsz)
          have HRb := Lib.hid (Reads.of_own hown)
          have HRes3 := Lib.hid (HRes2.out.on hlt2 hb)
          have b4 := b2.trans (hb.mono b2.size)
          clear hown hb HW b3 HRes2 b2
          go_wp2_with fail
          refine (build_any ats (ats.map (inB l)) _ _ H2.out HLi.out _ _ _ _ _ HPl.out HI.out HRa.out HRb.out (by omega)).mono ?_
          rintro e w6 ⟨s, k', A6, c6, rfl, hk6, hkn, s6, i6, r6, g6⟩
          have HRes6 := Lib.hid (HRes3.out.on (by omega) g6)
          have b6 := b4.trans (g6.mono b4.size)
          have hlt6 := g6.size
          have R6 := Lib.hid r6
          have S6 := Lib.hid s6
          have I6 := Lib.hid i6
          have K6 := Lib.hid hk6
          obtain ⟨r0, r1, f0, f1⟩ := HRes6.out
          clear r6 s6 i6 hk6 HRes3 HI HPl g6 b4
          go_wp2_with fail
          obtain ⟨k0, k1⟩ := res_set HRes6.out (.slice A6 k' c6) (.bool true)
          have b7 := res_below b6 HRes6.out (.slice A6 k' c6) (.bool true) (Nat.le_refl _)
          have r7 := Lib.hid (reads_res HRes6.out R6.out (.slice A6 k' c6) (.bool true))
          have hs7 : ((w6.setCell ⟨w.heap.size, 0, none⟩ (.slice A6 k' c6)).setCell ⟨w.heap.size, 1, none⟩ (.bool true)).heap.size = w6.heap.size := by simp
          rw [← hs7] at r7
          generalize (w6.setCell ⟨w.heap.size, 0, none⟩ (.slice A6 k' c6)).setCell ⟨w.heap.size, 1, none⟩ (.bool true) = w7 at *
          exact bodyPost_ret (v := .agg #[.slice A6 k' c6, .bool true]) (by simp [results, Try.results14, go_sem, k0, k1]) rfl (.inl ⟨HAl.out, s, k', A6, c6, rfl, K6.out, by omega, S6.out, I6.out, r7.out, b7⟩)
end Go.Proofs.Ytehikcddnjibcaa
