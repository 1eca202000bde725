/- What the document's Unbits returns. -/
import Derived.Test.YtbnconieedgcmaaDoorUnbits
namespace Go.Proofs.YtbnconieedgcmaaDoor
open Go.RowKit Go.BigFrame
set_option linter.unusedVariables false
set_option maxRecDepth 4000
set_option linter.unusedSimpArgs false


theorem range_snoc (b : List Nat) (o : Nat) : bcells ((List.range (o + 1)).map (bitY b)) = bcells ((List.range o).map (bitY b)) ++ [.bool (bitY b o)] := by
  rw [List.range_succ, List.map_append, bcells_app]; rfl
set_option maxHeartbeats 2000000 in
theorem refUnbits_any (l : List Nat) (m : Nat) (A : Option Addr) (c : Nat) (n : Int) (w : World) (hR : RB w w.heap.size A m l) (hm : m ≤ 10000) :
    Calls Tryd.prog 60 #[.slice A m c, .int .i64 n] w (OutU (unbR l n) w) := by
  obtain ⟨i0, hi0, hz0, hz1, hz2⟩ := info_parts info4
  have hl := hR.1
  by_cases h1 : n < 0
  · rw [unbR_no (by omega)]
    clear hR hl
    go_enter Tryd.func60, Tryd.ntmps60
    go_wp2_with fail
    go_ret2
    exact outU_no _ _ (Below.refl _ _)
  by_cases h2 : 8 * (m : Int) < n
  · rw [unbR_no (by omega)]
    clear hR hl
    go_enter Tryd.func60, Tryd.ntmps60
    go_wp2_with fail
    go_ret2
    exact outU_no _ _ (Below.refl _ _)
  obtain ⟨k, rfl⟩ := Int.eq_ofNat_of_zero_le (show 0 ≤ n by omega)
  have hk8 : k ≤ 8 * m := by omega
  by_cases h3 : (k + 7) / 8 < m
  · rw [unbR_no (by omega)]
    have h3' : (((k : Int) + 7) / 8 != (m : Int)) = true := by rw [bne_iff_ne]; omega
    clear hR hl
    go_enter Tryd.func60, Tryd.ntmps60
    go_wp2_with fail
    go_ret2
    exact outU_no _ _ (Below.refl _ _)
  have h3' : (((k : Int) + 7) / 8 != (m : Int)) = false := by rw [bne_eq_false_iff_eq]; omega
  have HR := Lib.hid hR
  have HMZ : Hid (l.length ≤ (k + 7) / 8) := Lib.hid (by omega)
  have HL := Lib.hid hl
  clear hR hl
  go_enter Tryd.func60, Tryd.ntmps60
  go_wp2_with fail
  go_loopw [6, 7] (fun vo i wr => ∃ (j o : Nat) (A2 : Option Addr) (c2 : Nat), j ≤ 8 * m ∧ Hid (o = min j k) ∧ o ≤ 100000 ∧ i = .int .i64 j ∧ vo = .slice A2 o c2 ∧ Hid (wr.ownsRow w.heap.size 4 1 (.slice A2 o c2) o (bcells ((List.range o).map (bitY l)))) ∧ Below w.heap.size w wr ∧ Hid (∀ q, k ≤ q → q < j → bitY l q = false)) (fun _ i _ => 8 * m - (intOf i).toNat)
  case atStart => exact ⟨0, 0, none, 0, by omega, Lib.hid (by omega), by omega, rfl, rfl, Lib.hid (World.ownsRow_nil _ _ _ _), Below.refl _ _, Lib.hid (fun q h1 h2 => by omega)⟩
  case round =>
    obtain ⟨j, o, A2, c2, hj1, HO, ho, rfl, rfl, HW, hb, HG⟩ := hrel
    have hsz := hb.size
    by_cases hlt : j < 8 * m
    · have hltI : (j : Int) < 8 * (m : Int) := by omega
      have kl : j / 8 < l.length := by rw [HL.out]; omega
      obtain ⟨b, off, rfl, _, p0, px⟩ := (HR.out.on hb).at kl
      have HBT := Lib.hid ((bit_test l[j / 8] (j % 8) px).trans (bitY_eq l j kl).symm)
      obtain ⟨q, hq⟩ : ∃ q, j / 8 = q := ⟨_, rfl⟩
      obtain ⟨r, hr⟩ : ∃ r, j % 8 = r := ⟨_, rfl⟩
      have hr8 : r < 8 := by omega
      have i1 : (j : Int) / 8 = (q : Int) := by omega
      have i2 : (j : Int) % 8 = (r : Int) := by omega
      have i3 : q < m := by omega
      rw [hr] at HBT
      generalize l[j / 8] = x at *
      rw [hq] at p0
      have hbt := HBT.out
      clear HBT kl hq hr
      by_cases hjk : j < k
      · have hjkI : (j : Int) < (k : Int) := by omega
        have HW' : Hid (wr.ownsRow w.heap.size 4 1 (.slice A2 o c2) o (bcells ((List.range o).map (bitY l)))) := HW
        have HOj : Hid (o = j) := Lib.hid (by have := HO.out; omega)
        have HG' : Hid (∀ q, k ≤ q → q < j + 1 → bitY l q = false) := Lib.hid (fun q h1 h2 => by omega)
        have HNil := Lib.hid (own_nil HW.out)
        have HOne := Lib.hid (bcells_one [bitY l j])
        clear HO HG HW
        generalize hbj : bitY l j = bj at *
        have hReads : Hid (Reads (wr.alloc (.cells #[.bool bj] 4)) (wr.heap.size + 1) 1 (some ⟨wr.heap.size, 0, none⟩) 1 [.bool bj]) := Lib.hid ⟨rfl, fun _ => ⟨_, _, rfl, by omega, fun i u hu => by
          match i, hu with
          | 0, hu => injection hu with hu; subst hu; simp⟩⟩
        have HOa := Lib.hid (HW'.out.alloc (.cells #[.bool bj] 4))
        have hba := hb.alloc hsz (.cells #[.bool bj] 4)
        go_wp2_with (at_builtin; refine wpList_append_src rfl _ _ 24 rfl w.heap.size 4 i0 _ 1 1 Tryd.underlying24 hi0 hz0 hz1 hz2 rfl (by decide) _ _ _ rfl HOa.out (some ⟨wr.heap.size, 0, none⟩) 1 1 (wr.heap.size + 1) [.bool bj] rfl (fun h => by cases h) hReads.out HOne.out ?n3 ?n4 ?n5 ?_)
        case n3 => unfold maxLen; omega
        case n4 => omega
        case n5 => simp; omega
        intro A3 c3 w3 hown3 hn3 hgrow3
        have b3 : Below w.heap.size w w3 := below_grown hba (by simp; omega) HOa.out hgrow3
        have HO3 : Hid (w3.ownsRow w.heap.size 4 1 (.slice A3 (o + 1) c3) (o + 1) (bcells ((List.range (o + 1)).map (bitY l)))) := Lib.hid (by
          rw [range_snoc, HOj.out, hbj, ← HOj.out]; exact hown3)
        clear hown3 hgrow3 HOa hReads HW' hba hb
        go_wp2_with fail
        go_roundw
        case rel => exact ⟨j + 1, o + 1, A3, c3, by omega, Lib.hid (by have := HOj.out; omega), by have := HOj.out; omega, by go_num, rfl, HO3, b3, HG'⟩
        case measure => simp [intOf]; omega
      · have hjkI : ¬ ((j : Int) < (k : Int)) := by omega
        have HO' : Hid (o = min (j + 1) k) := Lib.hid (by have := HO.out; omega)
        cases hx : bitY l j
        · have HG' : Hid (∀ q, k ≤ q → q < j + 1 → bitY l q = false) := Lib.hid (fun q h1 h2 => by
            by_cases e : q = j
            · rw [e]; exact hx
            · exact HG.out q h1 (by omega))
          rw [hx] at hbt
          clear HG hx HO
          go_wp2_with fail
          go_roundw
          case rel => exact ⟨j + 1, o, A2, c2, by omega, HO', ho, by go_num, rfl, HW, hb, HG'⟩
          case measure => simp [intOf]; omega
        · have HNo : Hid (unbR l k = none) := Lib.hid (unbR_no (fun h => by
            have := h.2.2.2 j (by rw [Int.toNat_natCast]; omega) (by rw [HL.out]; exact hlt)
            rw [hx] at this; cases this))
          rw [hx] at hbt
          clear HG hx HO
          go_wp2_with fail
          go_ret2
          rw [HNo.out]
          exact outU_no _ _ hb
    · have hltI : ¬ ((j : Int) < 8 * (m : Int)) := by omega
      have HYes : Hid (unbR l k = some ((List.range k).map (bitY l))) := Lib.hid (unbR_yes (by rw [HL.out]; omega) HMZ.out (fun q h1 h2 => HG.out q h1 (by rw [HL.out] at h2; omega)))
      have HOk : Hid (o = k) := Lib.hid (by have := HO.out; omega)
      have HS := Lib.hid (own_shp HW.out)
      clear HG HO
      go_wp2_with fail
      go_ret2
      rw [HYes.out]
      have hle : ((some ((List.range k).map (bitY l))).getD []).length = k := by simp
      obtain rfl := HOk.out
      refine ⟨A2, c2, ?_, ?_, hb⟩
      · rw [hle]; rfl
      · rw [hle]; exact HW.out
end Go.Proofs.YtbnconieedgcmaaDoor
