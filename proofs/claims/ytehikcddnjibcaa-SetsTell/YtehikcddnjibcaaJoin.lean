/- What joined returns: the set of the scalars of ranges. -/
import Derived.Test.YtehikcddnjibcaaSort
import Derived.Test.YtehikcddnjibcaaApp
namespace Go.Proofs.Ytehikcddnjibcaa
open Go.RowKit Go.BigFrame
set_option linter.unusedVariables false
set_option linter.unusedSimpArgs false

/-- What joined leaves. -/
def OutJoin (l : List Rg) (base : Nat) (w : World) (e : Ending) (w' : World) : Prop :=
  ∃ (s : List Rg) (A : Option Addr) (c : Nat), e = .returned (.slice A s.length c) ∧ Shp A s.length c ∧ IsSet s (In l) ∧ s.length ≤ l.length ∧ Reads w' w'.heap.size 2 A s.length (rcells s) ∧ Below base w w'

set_option maxHeartbeats 1000000 in
theorem joined_any (l : List Rg) (n : Nat) (hl : l.length = n) (A : Option Addr) (c base : Nat) (w : World) (h : w.ownsRow base 41 2 (.slice A n c) n (rcells l)) (hn : n ≤ 10000) (hbase : base ≤ w.heap.size) (hok : ∀ r ∈ l, Ok r) :
    Calls Try.prog 30 #[.slice A n c] w (OutJoin l base w) := by
  obtain ⟨i0, hi0, hz0, hz1, hz2⟩ := info_parts info41
  have HS := Lib.hid (fun W => sort_any l n hl A c base W)
  have HO := Lib.hid h
  have HOk := Lib.hid hok
  have HL := Lib.hid hl
  clear h hok hl
  go_enter Try.func30, Try.ntmps30
  go_wp2_with fail
  refine (HS.out _ HO.out (by omega) hbase).mono ?_
  rintro e w1 ⟨l', rfl, hl', hperm, hsort, hR, hb1⟩
  have HR := Lib.hid hR
  have HL' := Lib.hid hl'
  have HP := Lib.hid hperm
  have HSo := Lib.hid hsort
  have HOk' : Hid (∀ r ∈ l', Ok r) := Lib.hid (fun r hr => HOk.out r (HP.out.mem_iff.1 hr))
  have hsz1 := hb1.size
  clear hR hl' hperm hsort HS HO HOk
  go_wp2_with fail
  go_loopw [3, 11] (fun v i wr => ∃ (k : Nat) (A2 : Option Addr) (c2 : Nat) (acc : List Rg), k ≤ n ∧ i = .int .i64 k ∧ v = .slice A2 acc.length c2 ∧ Hid (JInv l' k acc) ∧ acc.length ≤ k ∧ wr.ownsRow w1.heap.size 41 2 (.slice A2 acc.length c2) acc.length (rcells acc) ∧ Below w1.heap.size w1 wr) (fun _ i _ => n - (intOf i).toNat)
  case atStart => exact ⟨0, none, 0, [], Nat.zero_le _, rfl, rfl, Lib.hid (jInv_start l'), Nat.le_refl _, World.ownsRow_nil _ _ _ _, Below.refl _ _⟩
  case round =>
    obtain ⟨k, A2, c2, acc, hk, rfl, rfl, HJ, hak, hown, hb⟩ := hrel
    have hsz := hb.size
    by_cases hlt : k < n
    · have kl : k < l'.length := by rw [HL'.out]; exact hlt
      obtain ⟨b, o, rfl, hbb, p0, p1⟩ := (HR.out.below hb).rg kl
      have HrOk : Hid (Ok l'[k]) := Lib.hid (HOk'.out _ (List.getElem_mem kl))
      rcases List.eq_nil_or_concat acc with rfl | ⟨t, x, rfl⟩
      · have HJ' : Hid (JInv l' (k + 1) [l'[k]]) := Lib.hid (jInv_first HJ.out kl HSo.out HrOk.out)
        generalize l'[k] = r at *
        obtain ⟨x0, x1⟩ := r
        simp only [] at p0 p1
        clear HJ
        rw [show ([] : List Rg).length = 0 from rfl] at *
        go_wp2_with fail
        have c0 : (wr.alloc (.cells #[.int .i64 x0, .int .i64 x1] 41)).cell? ⟨wr.heap.size, 0, none⟩ = some (.int .i64 x0) := by simp
        have c1 : (wr.alloc (.cells #[.int .i64 x0, .int .i64 x1] 41)).cell? ⟨wr.heap.size, 1, none⟩ = some (.int .i64 x1) := by simp
        have hb2 : Below w1.heap.size w1 (wr.alloc (.cells #[.int .i64 x0, .int .i64 x1] 41)) := hb.alloc hsz _
        have hown2 := hown.alloc (.cells #[.int .i64 x0, .int .i64 x1] 41)
        generalize wr.alloc (.cells #[.int .i64 x0, .int .i64 x1] 41) = w2 at *
        have d0 := fun n os => cell_grown (World.block_lt_of_cell? _ _ c0) c0 n os
        have d1 := fun n os => cell_grown (World.block_lt_of_cell? _ _ c1) c1 n os
        refine wp_region_quiet_grown mixedTry (by kernel_rfl) ?_
        repeat (go_big_quiet_step (fail))
        refine wpQuiet_nil ?_
        intro _ hw'
        obtain ⟨⟨nq, osq⟩, hw''⟩ := hw'
        subst hw''
        have hb9 := hb2.trans ((below_grown_of w2 nq osq).1.mono hb2.size)
        have hown9 := own_below hown2 (below_grown_of w2 nq osq).1
        have e0 := d0 nq osq
        have e1 := d1 nq osq
        clear d0 d1 c0 c1 hown2 hb2 hown hb
        generalize Go.Sort.grow (w2.drewN nq) osq = w9 at *
        have hsz9 := hb9.size
        go_wp2_with (at_builtin; refine wpList_append_lies _ rfl _ _ 23 rfl w1.heap.size 41 i0 _ 2 16 Try.underlying23 hi0 hz0 hz1 hz2 rfl (by decide) _ _ _ rfl (hown9.alloc _) ⟨w9.heap.size, 0, none⟩ 1 1 [.int .i64 x0, .int .i64 x1] rfl rfl ?c1 ?c2 (by omega) ?c3 ?c4 ?c5 _ rfl ?_)
        case c1 =>
          intro j u hj
          match j, hj with
          | 0, hj => simp at hj; subst hj; simp [Addr.add]
          | 1, hj => simp at hj; subst hj; simp [Addr.add]
        case c2 => intro u hu; simp at hu; rcases hu with rfl | rfl <;> rfl
        case c3 => unfold maxLen; first | omega | (simp at *; done) | (simp at *; omega)
        case c4 => first | omega | (simp at *; done) | (simp at *; omega)
        case c5 => simp; omega
        · intro g cap w3 hown3 hgrow hat hlt3
          have b3 : Below w1.heap.size w1 w3 := below_grown (hb9.alloc (by omega) _) (by simp; omega) (hown9.alloc _) hgrow
          have HO3 : Hid (w3.ownsRow w1.heap.size 41 2 (.slice (some ⟨g, 0, none⟩) ([(x0, x1)]).length cap) ([(x0, x1)]).length (rcells ([(x0, x1)]))) := Lib.hid (by
            rw [show ([(x0, x1)]).length = 0 + 1 by simp]
            rw [show rcells ([(x0, x1)]) = rcells ([]) ++ [.int .i64 x0, .int .i64 x1] by simp [rcells, rcell]]
            exact hown3)
          have HV3 : Hid (Value.slice (some ⟨g, 0, none⟩) (0 + 1) cap = .slice (some ⟨g, 0, none⟩) ([(x0, x1)]).length cap) := Lib.hid (by simp)
          clear hown3 hgrow hat hown9
          go_wp2_with fail
          go_roundw
          case rel => exact ⟨k + 1, some ⟨g, 0, none⟩, cap, [(x0, x1)], by omega, by go_num, HV3.out, HJ', by first | omega | (simp at *; done) | (simp at *; omega), HO3.out, b3⟩
          case measure => simp [intOf]; omega
      · rw [List.concat_eq_append] at *
        obtain ⟨m, hm⟩ : ∃ m, t.length = m := ⟨_, rfl⟩
        have hlen : (t ++ [x]).length = m + 1 := by simp [hm]
        rw [hlen] at hown hak ⊢
        have HM := Lib.hid hm
        have HA : Hid (apB x l'[k] = true → JInv l' (k + 1) (t ++ [x] ++ [l'[k]])) := Lib.hid (fun h => jInv_apart HJ.out kl HSo.out HrOk.out h)
        have HJn : Hid (apB x l'[k] = false → JInv l' (k + 1) (t ++ [(x.1, max x.2 l'[k].2)])) := Lib.hid (fun h => jInv_join HJ.out kl HSo.out HrOk.out h)
        obtain ⟨g, cap, hv, hg0, hg⟩ := hown.form (by omega)
        injection hv with e1 e2 e3
        subst e1 e3
        have q0 : wr.cell? ⟨g, m * 2, none⟩ = some (.int .i64 x.1) := by
          rw [hown.cellAt (m * 2) (by omega)]
          have := (rcells_at (t ++ [x]) m (by omega)).1
          rw [this]; simp [← hm]
        have q1 : wr.cell? ⟨g, m * 2 + 1, none⟩ = some (.int .i64 x.2) := by
          rw [hown.cellAt (m * 2 + 1) (by omega)]
          have := (rcells_at (t ++ [x]) m (by omega)).2
          rw [this]; simp [← hm]
        clear hm hlen e2
        generalize l'[k] = r at *
        obtain ⟨x0, x1⟩ := r
        obtain ⟨y0, y1⟩ := x
        simp only [] at p0 p1 q0 q1
        have hac := fun W => lay_of (apart_any y0 y1 x0 x1 W)
        have hdm : decide ((m : Int) < 0) = false := decide_eq_false (by omega)
        cases ha : apB (y0, y1) (x0, x1)
        · rw [ha] at hac
          have HX := Lib.hid (HJn.out ha)
          simp only [] at HX
          clear HA HJn HJ ha
          go_wp2_with fail
          have c0 : (wr.alloc (.cells #[.int .i64 x0, .int .i64 x1] 41)).cell? ⟨wr.heap.size, 0, none⟩ = some (.int .i64 x0) := by simp
          have c1 : (wr.alloc (.cells #[.int .i64 x0, .int .i64 x1] 41)).cell? ⟨wr.heap.size, 1, none⟩ = some (.int .i64 x1) := by simp
          have c2' := cell_alloc (.cells #[.int .i64 x0, .int .i64 x1] 41) q0
          have c3' := cell_alloc (.cells #[.int .i64 x0, .int .i64 x1] 41) q1
          have hb2 : Below w1.heap.size w1 (wr.alloc (.cells #[.int .i64 x0, .int .i64 x1] 41)) := hb.alloc hsz _
          have hown2 := hown.alloc (.cells #[.int .i64 x0, .int .i64 x1] 41)
          generalize wr.alloc (.cells #[.int .i64 x0, .int .i64 x1] 41) = w2 at *
          have d0 := fun n os => cell_grown (World.block_lt_of_cell? _ _ c0) c0 n os
          have d1 := fun n os => cell_grown (World.block_lt_of_cell? _ _ c1) c1 n os
          have d2 := fun n os => cell_grown (World.block_lt_of_cell? _ _ c2') c2' n os
          have d3 := fun n os => cell_grown (World.block_lt_of_cell? _ _ c3') c3' n os
          refine wp_region_quiet_grown mixedTry (by kernel_rfl) ?_
          repeat (go_big_quiet_step (first | (go_at_call 38; refine Calls.grown_of (hac _))))
          refine wpQuiet_nil ?_
          intro _ hw'
          obtain ⟨⟨nq, osq⟩, hw''⟩ := hw'
          subst hw''
          have hb9 := hb2.trans ((below_grown_of w2 nq osq).1.mono hb2.size)
          have hown9 := own_below hown2 (below_grown_of w2 nq osq).1
          have e0 := d0 nq osq
          have e1 := d1 nq osq
          have e2 := d2 nq osq
          have e3 := d3 nq osq
          clear d0 d1 d2 d3 c0 c1 c2' c3' hown2 hb2 hown hb
          generalize Go.Sort.grow (w2.drewN nq) osq = w9 at *
          have hsz9 := hb9.size
          have f1 := hown9.frozenAt (m * 2 + 1)
          have hst := (hown9.stored (m * 2 + 1) (.int .i64 (max y1 x1))).1
          have hset : (rcells (t ++ [(y0, y1)])).set (m * 2 + 1) (.int .i64 (max y1 x1)) = rcells (t ++ [(y0, max y1 x1)]) := by
            have hm := HM.out
            rw [rcells_snoc, rcells_snoc, List.set_append_right _ _ (by rw [rcells_len]; omega), rcells_len, hm, show m * 2 + 1 - m * 2 = 1 by omega]
            rfl
          rw [hset] at hst
          have bst : Below w1.heap.size w1 (w9.setCell ⟨g, m * 2 + 1, none⟩ (.int .i64 (max y1 x1))) := hb9.setCell (p := ⟨g, m * 2 + 1, none⟩) hg0 _
          have HO3 := Lib.hid (World.ownsRow.kept (row := none) hst ⟨rfl, rfl, rfl, Nat.le_refl _, fun _ _ _ => rfl⟩ (by simp [Value.ownBlock]) : (w9.setCell ⟨g, m * 2 + 1, none⟩ (.int .i64 (max y1 x1))).drew.ownsRow w1.heap.size 41 2 (.slice (some ⟨g, 0, none⟩) (m + 1) c2) (m + 1) (rcells (t ++ [(y0, max y1 x1)])))
          have b3 : Below w1.heap.size w1 (w9.setCell ⟨g, m * 2 + 1, none⟩ (.int .i64 (max y1 x1))).drew := Below.drew bst
          have HLn : Hid ((t ++ [(y0, max y1 x1)]).length = m + 1) := Lib.hid (by simp [HM.out])
          clear hst hset bst hown9
          go_wp2_with fail
          go_region
          go_wp2_with fail
          go_roundw
          case rel => exact ⟨k + 1, some ⟨g, 0, none⟩, c2, t ++ [(y0, max y1 x1)], by omega, by go_num, by rw [HLn.out], HX, by rw [HLn.out]; omega, by rw [HLn.out]; exact HO3.out, b3⟩
          case measure => simp [intOf]; omega
        · rw [ha] at hac
          have HX := Lib.hid (HA.out ha)
          clear HA HJn HJ ha
          go_wp2_with fail
          have c0 : (wr.alloc (.cells #[.int .i64 x0, .int .i64 x1] 41)).cell? ⟨wr.heap.size, 0, none⟩ = some (.int .i64 x0) := by simp
          have c1 : (wr.alloc (.cells #[.int .i64 x0, .int .i64 x1] 41)).cell? ⟨wr.heap.size, 1, none⟩ = some (.int .i64 x1) := by simp
          have c2' := cell_alloc (.cells #[.int .i64 x0, .int .i64 x1] 41) q0
          have c3' := cell_alloc (.cells #[.int .i64 x0, .int .i64 x1] 41) q1
          have hb2 : Below w1.heap.size w1 (wr.alloc (.cells #[.int .i64 x0, .int .i64 x1] 41)) := hb.alloc hsz _
          have hown2 := hown.alloc (.cells #[.int .i64 x0, .int .i64 x1] 41)
          generalize wr.alloc (.cells #[.int .i64 x0, .int .i64 x1] 41) = w2 at *
          have d0 := fun n os => cell_grown (World.block_lt_of_cell? _ _ c0) c0 n os
          have d1 := fun n os => cell_grown (World.block_lt_of_cell? _ _ c1) c1 n os
          have d2 := fun n os => cell_grown (World.block_lt_of_cell? _ _ c2') c2' n os
          have d3 := fun n os => cell_grown (World.block_lt_of_cell? _ _ c3') c3' n os
          refine wp_region_quiet_grown mixedTry (by kernel_rfl) ?_
          repeat (go_big_quiet_step (first | (go_at_call 38; refine Calls.grown_of (hac _))))
          refine wpQuiet_nil ?_
          intro _ hw'
          obtain ⟨⟨nq, osq⟩, hw''⟩ := hw'
          subst hw''
          have hb9 := hb2.trans ((below_grown_of w2 nq osq).1.mono hb2.size)
          have hown9 := own_below hown2 (below_grown_of w2 nq osq).1
          have e0 := d0 nq osq
          have e1 := d1 nq osq
          have e2 := d2 nq osq
          have e3 := d3 nq osq
          clear d0 d1 d2 d3 c0 c1 c2' c3' hown2 hb2 hown hb
          generalize Go.Sort.grow (w2.drewN nq) osq = w9 at *
          have hsz9 := hb9.size
          go_wp2_with (at_builtin; refine wpList_append_lies _ rfl _ _ 23 rfl w1.heap.size 41 i0 _ 2 16 Try.underlying23 hi0 hz0 hz1 hz2 rfl (by decide) _ _ _ rfl (hown9.alloc _) ⟨w9.heap.size, 0, none⟩ 1 1 [.int .i64 x0, .int .i64 x1] rfl rfl ?c1 ?c2 (by omega) ?c3 ?c4 ?c5 _ rfl ?_)
          case c1 =>
            intro j u hj
            match j, hj with
            | 0, hj => simp at hj; subst hj; simp [Addr.add]
            | 1, hj => simp at hj; subst hj; simp [Addr.add]
          case c2 => intro u hu; simp at hu; rcases hu with rfl | rfl <;> rfl
          case c3 => unfold maxLen; omega
          case c4 => omega
          case c5 => simp; omega
          · intro g' cap' w3 hown3 hgrow hat hlt3
            have b3 : Below w1.heap.size w1 w3 := below_grown (hb9.alloc (by omega) _) (by simp; omega) (hown9.alloc _) hgrow
            have HO3 : Hid (w3.ownsRow w1.heap.size 41 2 (.slice (some ⟨g', 0, none⟩) (t ++ [(y0, y1)] ++ [(x0, x1)]).length cap') (t ++ [(y0, y1)] ++ [(x0, x1)]).length (rcells (t ++ [(y0, y1)] ++ [(x0, x1)]))) := Lib.hid (by
              rw [show (t ++ [(y0, y1)] ++ [(x0, x1)]).length = m + 1 + 1 by simp [HM.out]]
              rw [show rcells (t ++ [(y0, y1)] ++ [(x0, x1)]) = rcells (t ++ [(y0, y1)]) ++ [.int .i64 x0, .int .i64 x1] by simp [rcells, rcell]]
              exact hown3)
            have HV3 : Hid (Value.slice (some ⟨g', 0, none⟩) (m + 1 + 1) cap' = .slice (some ⟨g', 0, none⟩) (t ++ [(y0, y1)] ++ [(x0, x1)]).length cap') := Lib.hid (by simp [HM.out])
            have HLe : Hid ((t ++ [(y0, y1)] ++ [(x0, x1)]).length ≤ k + 1) := Lib.hid (by simp [HM.out]; omega)
            clear hown3 hgrow hat hown9
            go_wp2_with fail
            go_roundw
            case rel => exact ⟨k + 1, some ⟨g', 0, none⟩, cap', t ++ [(y0, y1)] ++ [(x0, x1)], by omega, by go_num, HV3.out, HX, HLe.out, HO3.out, b3⟩
            case measure => simp [intOf]; omega
    · have HE : Hid (IsSet acc (In l')) := Lib.hid (jInv_end HJ.out (by rw [HL'.out]; exact hlt))
      have HR2 := Lib.hid (Reads.of_own hown)
      have HN2 := Lib.hid (own_shp hown)
      go_wp2_with fail
      go_ret
      exact ⟨acc, A2, c2, rfl, HN2.out, HE.out.conv (fun v _ => In_perm HP.out v), by have := HL.out; omega, HR2.out, hb1.trans (hb.mono (by omega))⟩
end Go.Proofs.Ytehikcddnjibcaa
