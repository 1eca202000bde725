/- What the document's Bits returns. -/
import Derived.Test.YtbnconieedgcmaaDoorBits
namespace Go.Proofs.YtbnconieedgcmaaDoor
open Go.RowKit Go.BigFrame
set_option linter.unusedVariables false
set_option linter.unusedSimpArgs false

set_option maxHeartbeats 1000000 in
theorem refBits_any (l : List Bool) (n : Nat) (A : Option Addr) (c : Nat) (w : World) (hR : RL w w.heap.size A n l) (hn : n ≤ 10000) :
    Calls Tryd.prog 50 #[.slice A n c] w fun e w' => ∃ b, IsBits b l ∧ OutY b ((n + 7) / 8) w e w' := by
  obtain ⟨i0, hi0, hz0, hz1, hz2⟩ := info_parts info5
  have HR := Lib.hid hR
  obtain ⟨m, hm⟩ : ∃ m, (n + 7) / 8 = m := ⟨_, rfl⟩
  have hmn : n ≤ 8 * m := by omega
  have hmm : m ≤ 2000 := by omega
  rw [hm]
  have hmI : ((n : Int) + 7) / 8 = (m : Int) := by omega
  have HM := Lib.hid hm
  clear hR hm
  go_enter Tryd.func50, Tryd.ntmps50
  go_wp2_with (at_make; refine wpList_make_full _ rfl _ _ 27 rfl w.heap.size 5 i0 _ 1 Tryd.underlying27 hi0 hz0 hz1 .i64 .i64 (((n : Int) + 7) / 8) (((n : Int) + 7) / 8) m rfl rfl hmI hmI ?k1 ?k2 (Nat.le_refl _) ?_)
  case k1 => rw [hz2]; omega
  case k2 => unfold maxLen; omega
  first | (intro w3 hown3 hgrow3) | (rename_i w3 hown3 hgrow3)
  have HW : Hid (w3.ownsRow w.heap.size 5 1 (.slice (some ⟨w.heap.size, 0, none⟩) m m) m (ycells (List.replicate m 0))) := Lib.hid (by
    rw [← ycells_rep]; exact hown3)
  have b3 : Below w.heap.size w w3 := (Below.refl _ _).grown hgrow3 (Nat.le_refl _) (fun k hk => by cases hk)
  clear hown3 hgrow3
  go_wp2_with fail
  go_loopw [4] (fun i wr => ∃ (k : Nat) (bs : List Nat), k ≤ n ∧ i = .int .i64 k ∧ Hid (BInv l k m bs) ∧ Hid (wr.ownsRow w.heap.size 5 1 (.slice (some ⟨w.heap.size, 0, none⟩) m m) m (ycells bs)) ∧ Below w.heap.size w wr) (fun i _ => n - (intOf i).toNat)
  case atStart => exact ⟨0, _, Nat.zero_le _, rfl, Lib.hid (binv_0 l m), HW, b3⟩
  case round =>
    obtain ⟨k, bs, hk, rfl, HI, HO, hb⟩ := hrel
    clear HW b3
    by_cases hlt : k < n
    · have kl : k < l.length := by rw [HR.out.1]; exact hlt
      have kb : k / 8 < bs.length := by rw [HI.out.1]; omega
      obtain ⟨b, o, rfl, hbb, p0⟩ := RL.at ⟨HR.out.1, HR.out.2.below hb⟩ kl
      have km : k / 8 < m := by omega
      cases hx : l[k]
      · rw [hx] at p0
        have HI' := Lib.hid (binv_skip HI.out kl hx)
        clear HI hx
        go_wp2_with fail
        go_roundw
        case rel => exact ⟨k + 1, bs, by omega, by go_num, HI', HO, hb⟩
        case measure => simp [intOf]; omega
      · rw [hx] at p0
        have HI' := Lib.hid (binv_set HI.out kl hx kb)
        have hb0 := HI.out.2.1 _ (List.getElem_mem kb)
        have q0 := own_byte HO.out kb
        have f0 := HO.out.frozenAt (k / 8)
        have HSt : Hid (∀ y : Nat, (wr.setCell ⟨w.heap.size, k / 8, none⟩ (.int .u8 (y : Int))).ownsRow w.heap.size 5 1 (.slice (some ⟨w.heap.size, 0, none⟩) m m) m (ycells (bs.set (k / 8) y))) := Lib.hid (fun y => by
          have h := (HO.out.stored (k / 8) (.int .u8 (y : Int))).1
          rwa [ycells_set] at h)
        clear HI hx
        generalize bs[k / 8] = x at *
        obtain ⟨q, hq⟩ : ∃ q, k / 8 = q := ⟨_, rfl⟩
        obtain ⟨r, hr⟩ : ∃ r, k % 8 = r := ⟨_, rfl⟩
        have hr8 : r < 8 := by omega
        rw [hq] at km q0 f0 HSt HI'
        rw [hr] at HI'
        have i1 : (k : Int) / 8 = (q : Int) := by omega
        have i2 : (k : Int) % 8 = (r : Int) := by omega
        have i3 : Int.tdiv (k : Int) 8 = (q : Int) := by rw [Int.tdiv_eq_ediv_of_nonneg (by omega)]; exact i1
        have i4 : Int.tmod (k : Int) 8 = (r : Int) := by rw [Int.tmod_eq_emod_of_nonneg (by omega)]; exact i2
        have i5 : (0 : Int) ≤ (q : Int) := by omega
        have i6 : (q : Int) < (m : Int) := by omega
        have i7 : (0 : Int) ≤ (r : Int) := by omega
        have i8 : (r : Int) < 8 := by omega
        have i9 : min r 8 = r := by omega
        have iw : IntKind.i64.wrap (q : Int) = (q : Int) := by rw [IntKind.wrap_i64]; omega
        have hor := or_u8 x r hb0 hr8
        have HSt2 : Hid ((wr.setCell ⟨w.heap.size, q, none⟩ (.int .u8 (bits .or .u8 (x : Int) (2 ^ r % 256)))).ownsRow w.heap.size 5 1 (.slice (some ⟨w.heap.size, 0, none⟩) m m) m (ycells (bs.set q (x ||| 2 ^ r)))) := Lib.hid (by
          rw [hor]; exact HSt.out (x ||| 2 ^ r))
        have b9 : Below w.heap.size w (wr.setCell ⟨w.heap.size, q, none⟩ (.int .u8 (bits .or .u8 (x : Int) (2 ^ r % 256)))) := hb.setCell (p := ⟨w.heap.size, q, none⟩) (Nat.le_refl _) _
        clear hor HSt hb0 kb hq hr
        go_wp2_with fail
        go_roundw
        case rel => exact ⟨k + 1, _, by omega, by go_num, HI', HSt2, b9⟩
        case measure => simp [intOf]; omega
    · have HI' : Hid (IsBits bs l) := Lib.hid (binv_all (by have h := HI.out; rwa [show k = n by omega] at h) HR.out.1 HM.out)
      have HLen : Hid (bs.length = m ∧ ∀ x ∈ bs, x < 256) := Lib.hid ⟨HI.out.1, HI.out.2.1⟩
      clear HI
      go_wp2_with fail
      go_ret
      exact ⟨bs, HI'.out, _, _, rfl, HLen.out.1, HLen.out.2, HO.out, hb⟩
end Go.Proofs.YtbnconieedgcmaaDoor
