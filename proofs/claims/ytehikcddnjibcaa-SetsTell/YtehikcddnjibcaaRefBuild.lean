/- What the document's Build returns: the set of the stretches that are marked. -/
import Derived.Test.YtehikcddnjibcaaRMath
import Derived.Test.YtehikcddnjibcaaRefGood
import Derived.Test.YtehikcddnjibcaaApp
namespace Go.Proofs.Ytehikcddnjibcaa
open Go.RowKit Go.BigFrame
set_option linter.unusedVariables false
set_option linter.unusedSimpArgs false

theorem field58 (x : Int) (y : Bool) (W : World) : (Instr.field 58 (.agg #[.int .i64 x, .bool y]) 0).run Try.prog W = .ok (.int .i64 x) W := by kernel_rfl
theorem Reads.int_at {w : World} {B n b o : Nat} {l : List Int} (h : Reads w B 1 (some ⟨b, o, none⟩) n (icells l)) {k : Nat} (hk : k < l.length) : w.cell? ⟨b, o + k, none⟩ = some (.int .i64 l[k]) := by
  obtain ⟨b', o', e, _, hc⟩ := h.int hk
  injection e with e
  injection e with e1 e2
  subst e1 e2
  exact hc

/-- What Build leaves. -/
def OutB (p : Int → Prop) (n : Nat) (w : World) (e : Ending) (w' : World) : Prop :=
  ∃ (s : List Rg) (k : Nat) (A : Option Addr) (c : Nat), e = .returned (.slice A k c) ∧ s.length = k ∧ k ≤ n ∧ Shp A k c ∧ IsSet s p ∧ Reads w' w'.heap.size 2 A k (rcells s) ∧ Below w.heap.size w w'
def BdRel (at_ : List Int) (p : Int → Prop) (n : Nat) (w : World) (vo vi : Value) (wr : World) : Prop :=
  ∃ (k z : Nat) (A2 : Option Addr) (c2 : Nat) (acc : List Rg), k ≤ n ∧ vi = .int .i64 k ∧ vo = .slice A2 z c2 ∧ Hid (acc.length = z) ∧ z ≤ k ∧ Hid (BdInv at_ p k acc) ∧ wr.ownsRow w.heap.size 41 2 (.slice A2 z c2) z (rcells acc) ∧ Below w.heap.size w wr

set_option maxRecDepth 100000 in
set_option maxHeartbeats 4000000 in
theorem build_any (at_ : List Int) (inn : List Bool) (p : Int → Prop) (n : Nat) (hl : at_.length = n) (hi : inn.length = n) (A B : Option Addr) (c d : Nat) (w : World) (hP : Places at_ p) (hI : ∀ i (h : i < inn.length) (h2 : i < at_.length), inn[i] = true ↔ p at_[i])
    (hRa : Reads w w.heap.size 1 A n (icells at_)) (hRb : Reads w w.heap.size 1 B n (bcells inn)) (hn : n ≤ 10000) :
    Calls Try.prog 36 #[.slice A n c, .slice B n d] w (OutB p n w) := by
  obtain ⟨i0, hi0, hz0, hz1, hz2⟩ := info_parts info41
  have hf58 := field58
  have HRa := Lib.hid hRa
  have HRb := Lib.hid hRb
  have HL := Lib.hid hl
  have HLi := Lib.hid hi
  have HP := Lib.hid hP
  have HI := Lib.hid hI
  clear hRa hRb hl hi hP hI
  go_enter Try.func36, Try.ntmps36
  go_wp2_with fail
  go_loopw [5, 6] (fun vo vi wr => BdRel at_ p n w vo vi wr) (fun _ i _ => n - (intOf i).toNat)
  case atStart => exact ⟨0, 0, none, 0, [], Nat.zero_le _, rfl, rfl, Lib.hid rfl, Nat.le_refl _, Lib.hid (bd_start HP.out), World.ownsRow_nil _ _ _ _, Below.refl _ _⟩
  case round =>
    obtain ⟨k, z, A2, c2, acc, hk, rfl, rfl, HZ, hzk, HJ, hown, hb⟩ := hrel
    have hsz := hb.size
    by_cases hlt : k < n
    · have kl : k < at_.length := by rw [HL.out]; exact hlt
      have ki : k < inn.length := by rw [HLi.out]; exact hlt
      obtain ⟨ba, oa, rfl, hba, pa⟩ := (HRa.out.below hb).int kl
      obtain ⟨bb, ob, rfl, hbb, pb⟩ := (HRb.out.below hb).bool ki
      have hik := HI.out k ki kl
      cases hin : inn[k]
      · have HX : Hid (BdInv at_ p (k + 1) acc) := Lib.hid (bd_skip HP.out HJ.out kl (fun hp => by rw [hik.2 hp] at hin; cases hin))
        rw [hin] at pb
        have HO := Lib.hid hown
        clear HJ hik hin hown
        go_wp2_with fail
        go_roundw
        case rel => exact ⟨k + 1, z, A2, c2, acc, by omega, by go_num, rfl, HZ, by omega, HX, HO.out, hb⟩
        case measure => simp [intOf]; omega
      · rw [hin] at pb
        have hpk := hik.1 hin
        rcases List.eq_nil_or_concat acc with rfl | ⟨t, x, rfl⟩
        · have HX : Hid (BdInv at_ p (k + 1) ([] ++ [(at_[k], hiN at_ k)])) := Lib.hid (bd_new HP.out HJ.out kl hpk (fun t x h => by simp at h))
          obtain rfl : z = 0 := by have := HZ.out; simpa using this.symm
          clear HJ hik hin hpk HZ
          by_cases hk1 : k + 1 < n
          · have kl1 : k + 1 < at_.length := by rw [HL.out]; exact hk1
            have hh : prevN at_[k + 1] = hiN at_ k := by unfold hiN; rw [dif_pos kl1]
            have hcp := fun W => refPrev_n at_[k + 1] W
            rw [hh] at hcp
            have pn := Reads.int_at (HRa.out.below hb) kl1
            generalize at_[k + 1] = an at *
            generalize at_[k] = ak at *
            generalize hiN at_ k = hiv at *
            go_wp2_with fail
            refine (hcp _).mono ?_
            rintro e w2 ⟨rfl, g2, _⟩
            have b2 := hb.trans (g2.mono hsz)
            have own2 := own_below hown g2
            have pa2 := kept_cell g2 pa
            clear hcp g2 hown hb pa pn pb
            go_wp2_with fail
            have d0 := fun n os => cell_grown (World.block_lt_of_cell? _ _ pa2) pa2 n os
            refine wp_region_quiet_grown mixedTry (by kernel_rfl) ?_
            repeat (go_big_quiet_step (fail))
            refine wpQuiet_nil ?_
            intro _ hw'
            obtain ⟨⟨nq, osq⟩, hw''⟩ := hw'
            subst hw''
            have hb9 := b2.trans ((below_grown_of w2 nq osq).1.mono b2.size)
            have hown9 := own_below own2 (below_grown_of w2 nq osq).1
            have e0 := d0 nq osq
            clear d0 own2 b2 pa2
            generalize Go.Sort.grow (w2.drewN nq) osq = w9 at *
            have hsz9 := hb9.size
            go_wp2_with (at_builtin; refine wpList_append_lies _ rfl _ _ 23 rfl w.heap.size 41 i0 _ 2 16 Try.underlying23 hi0 hz0 hz1 hz2 rfl (by decide) _ _ _ rfl (hown9.alloc _) ⟨w9.heap.size, 0, none⟩ 1 1 [.int .i64 ak, .int .i64 hiv] rfl rfl ?k1 ?k2 (by omega) ?k3 ?k4 ?k5 _ rfl ?_)
            case k1 =>
              intro j u hj
              match j, hj with
              | 0, hj => simp at hj; subst hj; simp [Addr.add]
              | 1, hj => simp at hj; subst hj; simp [Addr.add]
            case k2 => intro u hu; simp at hu; rcases hu with rfl | rfl <;> rfl
            case k3 => unfold maxLen; omega
            case k4 => omega
            case k5 => simp; omega
            · intro g cap w5 hown5 hgrow hat hlt5
              have b5 : Below w.heap.size w w5 := below_grown (hb9.alloc (by omega) _) (by simp; omega) (hown9.alloc _) hgrow
              have HO5 : Hid (w5.ownsRow w.heap.size 41 2 (.slice (some ⟨g, 0, none⟩) (0 + 1) cap) (0 + 1) (rcells ([] ++ [(ak, hiv)]))) := Lib.hid (by rw [rcells_snoc]; exact hown5)
              have HL5 : Hid (([] ++ [(ak, hiv)]).length = 0 + 1) := Lib.hid (by simp)
              clear hown5 hgrow hat hown9
              go_wp2_with fail
              go_roundw
              case rel => exact ⟨k + 1, 0 + 1, some ⟨g, 0, none⟩, cap, ([] ++ [(ak, hiv)]), by omega, by go_num, rfl, HL5, by omega, HX, HO5.out, b5⟩
              case measure => simp [intOf]; omega
          · have hh : hiN at_ k = 1114111 := by unfold hiN; rw [dif_neg (by rw [HL.out]; exact hk1)]
            rw [hh] at HX
            clear hh
            generalize at_[k] = ak at *
            go_wp2_with fail
            have d0 := fun n os => cell_grown (World.block_lt_of_cell? _ _ pa) pa n os
            refine wp_region_quiet_grown mixedTry (by kernel_rfl) ?_
            repeat (go_big_quiet_step (fail))
            refine wpQuiet_nil ?_
            intro _ hw'
            obtain ⟨⟨nq, osq⟩, hw''⟩ := hw'
            subst hw''
            have hb9 := hb.trans ((below_grown_of wr nq osq).1.mono hb.size)
            have hown9 := own_below hown (below_grown_of wr nq osq).1
            have e0 := d0 nq osq
            clear d0 hown hb pa
            generalize Go.Sort.grow (wr.drewN nq) osq = w9 at *
            have hsz9 := hb9.size
            go_wp2_with (at_builtin; refine wpList_append_lies _ rfl _ _ 23 rfl w.heap.size 41 i0 _ 2 16 Try.underlying23 hi0 hz0 hz1 hz2 rfl (by decide) _ _ _ rfl (hown9.alloc _) ⟨w9.heap.size, 0, none⟩ 1 1 [.int .i64 ak, .int .i64 1114111] rfl rfl ?k1 ?k2 (by omega) ?k3 ?k4 ?k5 _ rfl ?_)
            case k1 =>
              intro j u hj
              match j, hj with
              | 0, hj => simp at hj; subst hj; simp [Addr.add]
              | 1, hj => simp at hj; subst hj; simp [Addr.add]
            case k2 => intro u hu; simp at hu; rcases hu with rfl | rfl <;> rfl
            case k3 => unfold maxLen; omega
            case k4 => omega
            case k5 => simp; omega
            · intro g cap w5 hown5 hgrow hat hlt5
              have b5 : Below w.heap.size w w5 := below_grown (hb9.alloc (by omega) _) (by simp; omega) (hown9.alloc _) hgrow
              have HO5 : Hid (w5.ownsRow w.heap.size 41 2 (.slice (some ⟨g, 0, none⟩) (0 + 1) cap) (0 + 1) (rcells ([] ++ [(ak, 1114111)]))) := Lib.hid (by rw [rcells_snoc]; exact hown5)
              have HL5 : Hid (([] ++ [(ak, 1114111)]).length = 0 + 1) := Lib.hid (by simp)
              clear hown5 hgrow hat hown9
              go_wp2_with fail
              go_roundw
              case rel => exact ⟨k + 1, 0 + 1, some ⟨g, 0, none⟩, cap, ([] ++ [(ak, 1114111)]), by omega, by go_num, rfl, HL5, by omega, HX, HO5.out, b5⟩
              case measure => simp [intOf]; omega
        · rw [List.concat_eq_append] at *
          obtain ⟨m, hm⟩ : ∃ m, t.length = m := ⟨_, rfl⟩
          obtain rfl : z = m + 1 := by have := HZ.out; rw [← this]; simp [hm]
          have HM := Lib.hid hm
          obtain ⟨g, cap, hv, hg0, hg⟩ := hown.form (by omega)
          injection hv with e1 e2 e3
          subst e1 e3
          have q1 : wr.cell? ⟨g, m * 2 + 1, none⟩ = some (.int .i64 x.2) := by
            rw [hown.cellAt (m * 2 + 1) (by omega)]
            have := (rcells_at (t ++ [x]) m (by simp [hm])).2
            rw [this]; simp [← hm]
          by_cases hnx : nextN x.2 = at_[k]
          · have HX : Hid (BdInv at_ p (k + 1) (t ++ [(x.1, hiN at_ k)])) := Lib.hid (bd_more HP.out HJ.out kl hpk hnx)
            have heq : (nextN x.2 == at_[k]) = true := by rw [beq_iff_eq]; exact hnx
            clear HJ hik hin hpk HZ hm e2 hnx
            by_cases hk1 : k + 1 < n
            · have kl1 : k + 1 < at_.length := by rw [HL.out]; exact hk1
              have hh : prevN at_[k + 1] = hiN at_ k := by unfold hiN; rw [dif_pos kl1]
              have hcp := fun W => refPrev_n at_[k + 1] W
              rw [hh] at hcp
              have pn := Reads.int_at (HRa.out.below hb) kl1
              generalize at_[k + 1] = an at *
              generalize at_[k] = ak at *
              generalize hiN at_ k = hiv at *
              obtain ⟨x0, x1⟩ := x
              simp only [] at HX heq q1
              have hcx := fun W => lay_of (refNext_n x1 W)
              generalize nextN x1 = nx1 at *
              go_wp2_with fail
              refine (hcp _).mono ?_
              rintro e w2 ⟨rfl, g2, _⟩
              have b2 := hb.trans (g2.mono hsz)
              have own2 := own_below hown g2
              have pa2 := kept_cell g2 pa
              have q1' := kept_cell g2 q1
              clear hcp g2 hown hb pa pn pb
              go_wp2_with fail
              have d0 := fun n os => cell_grown (World.block_lt_of_cell? _ _ pa2) pa2 n os
              have d1 := fun n os => cell_grown (World.block_lt_of_cell? _ _ q1') q1' n os
              refine wp_region_quiet_grown mixedTry (by kernel_rfl) ?_
              repeat (go_big_quiet_step (first | (go_at_call 39; refine Calls.grown_of (hcx _))))
              refine wpQuiet_nil ?_
              intro _ hw'
              obtain ⟨⟨nq, osq⟩, hw''⟩ := hw'
              subst hw''
              have hb9 := b2.trans ((below_grown_of w2 nq osq).1.mono b2.size)
              have hown9 := own_below own2 (below_grown_of w2 nq osq).1
              have e0 := d0 nq osq
              clear d0 d1 hcx own2 b2 pa2
              generalize Go.Sort.grow (w2.drewN nq) osq = w9 at *
              have hsz9 := hb9.size
              have f1 := hown9.frozenAt (m * 2 + 1)
              have hst := (hown9.stored (m * 2 + 1) (.int .i64 hiv)).1
              have hset : (rcells (t ++ [(x0, x1)])).set (m * 2 + 1) (.int .i64 hiv) = rcells (t ++ [(x0, hiv)]) := by
                have hm := HM.out
                rw [rcells_snoc, rcells_snoc, List.set_append_right _ _ (by rw [rcells_len]; omega), rcells_len, hm, show m * 2 + 1 - m * 2 = 1 by omega]
                rfl
              rw [hset] at hst
              have b5 : Below w.heap.size w (w9.setCell ⟨g, m * 2 + 1, none⟩ (.int .i64 hiv)) := hb9.setCell (p := ⟨g, m * 2 + 1, none⟩) hg0 _
              have HO5 := Lib.hid hst
              have HL5 : Hid ((t ++ [(x0, hiv)]).length = m + 1) := Lib.hid (by simp [HM.out])
              have c9 : ∃ u, w9.cell? ⟨g, m * 2 + 1, none⟩ = some u := ⟨_, (hown9.cellAt (m * 2 + 1) (by omega)).trans (by
                have := (rcells_at (t ++ [(x0, x1)]) m (by simp [HM.out])).2
                exact this)⟩
              obtain ⟨u9, hu9⟩ := c9
              clear hst hset hown9
              go_wp2_with fail
              go_roundw
              case rel => exact ⟨k + 1, m + 1, some ⟨g, 0, none⟩, c2, t ++ [(x0, hiv)], by omega, by go_num, rfl, HL5, by omega, HX, HO5.out, b5⟩
              case measure => simp [intOf]; omega
            · have hh : hiN at_ k = 1114111 := by unfold hiN; rw [dif_neg (by rw [HL.out]; exact hk1)]
              rw [hh] at HX
              clear hh
              generalize at_[k] = ak at *
              obtain ⟨x0, x1⟩ := x
              simp only [] at HX heq q1
              have hcx := fun W => lay_of (refNext_n x1 W)
              generalize nextN x1 = nx1 at *
              go_wp2_with fail
              have d0 := fun n os => cell_grown (World.block_lt_of_cell? _ _ pa) pa n os
              have d1 := fun n os => cell_grown (World.block_lt_of_cell? _ _ q1) q1 n os
              refine wp_region_quiet_grown mixedTry (by kernel_rfl) ?_
              repeat (go_big_quiet_step (first | (go_at_call 39; refine Calls.grown_of (hcx _))))
              refine wpQuiet_nil ?_
              intro _ hw'
              obtain ⟨⟨nq, osq⟩, hw''⟩ := hw'
              subst hw''
              have hb9 := hb.trans ((below_grown_of wr nq osq).1.mono hb.size)
              have hown9 := own_below hown (below_grown_of wr nq osq).1
              have e0 := d0 nq osq
              clear d0 d1 hcx hown hb pa
              generalize Go.Sort.grow (wr.drewN nq) osq = w9 at *
              have hsz9 := hb9.size
              have f1 := hown9.frozenAt (m * 2 + 1)
              have hst := (hown9.stored (m * 2 + 1) (.int .i64 1114111)).1
              have hset : (rcells (t ++ [(x0, x1)])).set (m * 2 + 1) (.int .i64 1114111) = rcells (t ++ [(x0, 1114111)]) := by
                have hm := HM.out
                rw [rcells_snoc, rcells_snoc, List.set_append_right _ _ (by rw [rcells_len]; omega), rcells_len, hm, show m * 2 + 1 - m * 2 = 1 by omega]
                rfl
              rw [hset] at hst
              have b5 : Below w.heap.size w (w9.setCell ⟨g, m * 2 + 1, none⟩ (.int .i64 1114111)) := hb9.setCell (p := ⟨g, m * 2 + 1, none⟩) hg0 _
              have HO5 := Lib.hid hst
              have HL5 : Hid ((t ++ [(x0, 1114111)]).length = m + 1) := Lib.hid (by simp [HM.out])
              have c9 : ∃ u, w9.cell? ⟨g, m * 2 + 1, none⟩ = some u := ⟨_, (hown9.cellAt (m * 2 + 1) (by omega)).trans (by
                have := (rcells_at (t ++ [(x0, x1)]) m (by simp [HM.out])).2
                exact this)⟩
              obtain ⟨u9, hu9⟩ := c9
              clear hst hset hown9
              go_wp2_with fail
              go_roundw
              case rel => exact ⟨k + 1, m + 1, some ⟨g, 0, none⟩, c2, t ++ [(x0, 1114111)], by omega, by go_num, rfl, HL5, by omega, HX, HO5.out, b5⟩
              case measure => simp [intOf]; omega
          · have HX : Hid (BdInv at_ p (k + 1) (t ++ [x] ++ [(at_[k], hiN at_ k)])) := Lib.hid (bd_new HP.out HJ.out kl hpk (fun t' x' h => by
              obtain ⟨_, e⟩ := List.append_inj' h rfl
              simp at e
              subst e; exact hnx))
            have heq : (nextN x.2 == at_[k]) = false := by rw [beq_eq_false_iff_ne]; exact hnx
            clear HJ hik hin hpk HZ hm e2 hnx
            by_cases hk1 : k + 1 < n
            · have kl1 : k + 1 < at_.length := by rw [HL.out]; exact hk1
              have hh : prevN at_[k + 1] = hiN at_ k := by unfold hiN; rw [dif_pos kl1]
              have hcp := fun W => refPrev_n at_[k + 1] W
              rw [hh] at hcp
              have pn := Reads.int_at (HRa.out.below hb) kl1
              generalize at_[k + 1] = an at *
              generalize at_[k] = ak at *
              generalize hiN at_ k = hiv at *
              obtain ⟨x0, x1⟩ := x
              simp only [] at HX heq q1
              have hcx := fun W => lay_of (refNext_n x1 W)
              generalize nextN x1 = nx1 at *
              go_wp2_with fail
              refine (hcp _).mono ?_
              rintro e w2 ⟨rfl, g2, _⟩
              have b2 := hb.trans (g2.mono hsz)
              have own2 := own_below hown g2
              have pa2 := kept_cell g2 pa
              have q1' := kept_cell g2 q1
              clear hcp g2 hown hb pa pn pb
              go_wp2_with fail
              have d0 := fun n os => cell_grown (World.block_lt_of_cell? _ _ pa2) pa2 n os
              have d1 := fun n os => cell_grown (World.block_lt_of_cell? _ _ q1') q1' n os
              refine wp_region_quiet_grown mixedTry (by kernel_rfl) ?_
              repeat (go_big_quiet_step (first | (go_at_call 39; refine Calls.grown_of (hcx _))))
              refine wpQuiet_nil ?_
              intro _ hw'
              obtain ⟨⟨nq, osq⟩, hw''⟩ := hw'
              subst hw''
              have hb9 := b2.trans ((below_grown_of w2 nq osq).1.mono b2.size)
              have hown9 := own_below own2 (below_grown_of w2 nq osq).1
              have e0 := d0 nq osq
              clear d0 d1 hcx own2 b2 pa2
              generalize Go.Sort.grow (w2.drewN nq) osq = w9 at *
              have hsz9 := hb9.size
              go_wp2_with (at_builtin; refine wpList_append_lies _ rfl _ _ 23 rfl w.heap.size 41 i0 _ 2 16 Try.underlying23 hi0 hz0 hz1 hz2 rfl (by decide) _ _ _ rfl (hown9.alloc _) ⟨w9.heap.size, 0, none⟩ 1 1 [.int .i64 ak, .int .i64 hiv] rfl rfl ?k1 ?k2 (by omega) ?k3 ?k4 ?k5 _ rfl ?_)
              case k1 =>
                intro j u hj
                match j, hj with
                | 0, hj => simp at hj; subst hj; simp [Addr.add]
                | 1, hj => simp at hj; subst hj; simp [Addr.add]
              case k2 => intro u hu; simp at hu; rcases hu with rfl | rfl <;> rfl
              case k3 => unfold maxLen; omega
              case k4 => omega
              case k5 => simp; omega
              · intro g cap w5 hown5 hgrow hat hlt5
                have b5 : Below w.heap.size w w5 := below_grown (hb9.alloc (by omega) _) (by simp; omega) (hown9.alloc _) hgrow
                have HO5 : Hid (w5.ownsRow w.heap.size 41 2 (.slice (some ⟨g, 0, none⟩) ((m + 1) + 1) cap) ((m + 1) + 1) (rcells ((t ++ [(x0, x1)]) ++ [(ak, hiv)]))) := Lib.hid (by rw [rcells_snoc]; exact hown5)
                have HL5 : Hid (((t ++ [(x0, x1)]) ++ [(ak, hiv)]).length = (m + 1) + 1) := Lib.hid (by simp [HM.out])
                clear hown5 hgrow hat hown9
                go_wp2_with fail
                go_roundw
                case rel => exact ⟨k + 1, (m + 1) + 1, some ⟨g, 0, none⟩, cap, ((t ++ [(x0, x1)]) ++ [(ak, hiv)]), by omega, by go_num, rfl, HL5, by omega, HX, HO5.out, b5⟩
                case measure => simp [intOf]; omega
            · have hh : hiN at_ k = 1114111 := by unfold hiN; rw [dif_neg (by rw [HL.out]; exact hk1)]
              rw [hh] at HX
              clear hh
              generalize at_[k] = ak at *
              obtain ⟨x0, x1⟩ := x
              simp only [] at HX heq q1
              have hcx := fun W => lay_of (refNext_n x1 W)
              generalize nextN x1 = nx1 at *
              go_wp2_with fail
              have d0 := fun n os => cell_grown (World.block_lt_of_cell? _ _ pa) pa n os
              have d1 := fun n os => cell_grown (World.block_lt_of_cell? _ _ q1) q1 n os
              refine wp_region_quiet_grown mixedTry (by kernel_rfl) ?_
              repeat (go_big_quiet_step (first | (go_at_call 39; refine Calls.grown_of (hcx _))))
              refine wpQuiet_nil ?_
              intro _ hw'
              obtain ⟨⟨nq, osq⟩, hw''⟩ := hw'
              subst hw''
              have hb9 := hb.trans ((below_grown_of wr nq osq).1.mono hb.size)
              have hown9 := own_below hown (below_grown_of wr nq osq).1
              have e0 := d0 nq osq
              clear d0 d1 hcx hown hb pa
              generalize Go.Sort.grow (wr.drewN nq) osq = w9 at *
              have hsz9 := hb9.size
              go_wp2_with (at_builtin; refine wpList_append_lies _ rfl _ _ 23 rfl w.heap.size 41 i0 _ 2 16 Try.underlying23 hi0 hz0 hz1 hz2 rfl (by decide) _ _ _ rfl (hown9.alloc _) ⟨w9.heap.size, 0, none⟩ 1 1 [.int .i64 ak, .int .i64 1114111] rfl rfl ?k1 ?k2 (by omega) ?k3 ?k4 ?k5 _ rfl ?_)
              case k1 =>
                intro j u hj
                match j, hj with
                | 0, hj => simp at hj; subst hj; simp [Addr.add]
                | 1, hj => simp at hj; subst hj; simp [Addr.add]
              case k2 => intro u hu; simp at hu; rcases hu with rfl | rfl <;> rfl
              case k3 => unfold maxLen; omega
              case k4 => omega
              case k5 => simp; omega
              · intro g cap w5 hown5 hgrow hat hlt5
                have b5 : Below w.heap.size w w5 := below_grown (hb9.alloc (by omega) _) (by simp; omega) (hown9.alloc _) hgrow
                have HO5 : Hid (w5.ownsRow w.heap.size 41 2 (.slice (some ⟨g, 0, none⟩) ((m + 1) + 1) cap) ((m + 1) + 1) (rcells ((t ++ [(x0, x1)]) ++ [(ak, 1114111)]))) := Lib.hid (by rw [rcells_snoc]; exact hown5)
                have HL5 : Hid (((t ++ [(x0, x1)]) ++ [(ak, 1114111)]).length = (m + 1) + 1) := Lib.hid (by simp [HM.out])
                clear hown5 hgrow hat hown9
                go_wp2_with fail
                go_roundw
                case rel => exact ⟨k + 1, (m + 1) + 1, some ⟨g, 0, none⟩, cap, ((t ++ [(x0, x1)]) ++ [(ak, 1114111)]), by omega, by go_num, rfl, HL5, by omega, HX, HO5.out, b5⟩
                case measure => simp [intOf]; omega
    · have HE : Hid (IsSet acc p) := Lib.hid (bd_end HJ.out (by rw [HL.out]; exact hlt))
      have HR2 := Lib.hid (Reads.of_own hown)
      have HS2 := Lib.hid (own_shp hown)
      clear HJ
      go_wp2_with fail
      go_ret
      exact ⟨acc, z, A2, c2, rfl, HZ.out, by omega, HS2.out, HE.out, HR2.out, hb⟩
end Go.Proofs.Ytehikcddnjibcaa
