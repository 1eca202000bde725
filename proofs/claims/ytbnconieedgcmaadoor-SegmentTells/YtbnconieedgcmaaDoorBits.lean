/- What Bits and the document's Bits return. -/
import Derived.Test.YtbnconieedgcmaaDoorApp
import Derived.Test.YtbnconieedgcmaaDoorBit
import Derived.BigRegion
import Derived.Laws.MakeOwn
import Derived.Deep.RegionHeld3
namespace Go.Proofs.YtbnconieedgcmaaDoor
open Go.RowKit Go.BigFrame
set_option linter.unusedVariables false
set_option linter.unusedSimpArgs false



theorem ycells_set (l : List Nat) (k y : Nat) : (ycells l).set k (.int .u8 (y : Int)) = ycells (l.set k y) := by
  unfold ycells; rw [List.map_set]
theorem ycells_rep (m : Nat) : (madeCells #[Value.int .u8 0] m).toList = ycells (List.replicate m 0) := by rw [toList_madeCells_one]; simp [ycells]
theorem own_byte {w : World} {base g z : Nat} {l : List Nat} (h : w.ownsRow base 5 1 (.slice (some ⟨g, 0, none⟩) z z) z (ycells l)) {k : Nat} (hk : k < l.length) : w.cell? ⟨g, k, none⟩ = some (.int .u8 (l[k] : Int)) := by
  have q := h.cellAt k (by have := h.1; rw [ycells_len] at this; omega)
  rwa [show (ycells l)[k]? = some (.int .u8 (l[k] : Int)) by unfold ycells; rw [List.getElem?_map, List.getElem?_eq_getElem hk]; rfl] at q
/-- The bits of the first k are laid. -/
def BInv (l : List Bool) (k m : Nat) (bs : List Nat) : Prop := bs.length = m ∧ (∀ x ∈ bs, x < 256) ∧ ∀ j, bitY bs j = ((l.take k)[j]?).getD false
theorem binv_0 (l : List Bool) (m : Nat) : BInv l 0 m (List.replicate m 0) := by
  refine ⟨by simp, fun x hx => by rw [List.eq_of_mem_replicate hx]; decide, fun j => ?_⟩
  unfold bitY
  rw [List.getElem?_replicate]
  split <;> simp
theorem take_getD (l : List Bool) (k j : Nat) (hk : k < l.length) : ((l.take (k + 1))[j]?).getD false = (((l.take k)[j]?).getD false || (decide (j = k) && l[k])) := by
  rw [List.take_succ_eq_append_getElem hk]
  rcases Nat.lt_trichotomy j k with h | h | h
  · rw [List.getElem?_append_left (by rw [List.length_take]; omega), decide_eq_false (by omega), Bool.false_and, Bool.or_false]
  · subst h
    rw [List.getElem?_append_right (by rw [List.length_take]; omega), List.length_take, Nat.min_eq_left (by omega), Nat.sub_self, decide_eq_true rfl, show (l.take j)[j]? = none from List.getElem?_eq_none (by rw [List.length_take]; omega)]
    simp
  · rw [List.getElem?_eq_none (by simp; omega), List.getElem?_eq_none (by rw [List.length_take]; omega), decide_eq_false (by omega)]; rfl
theorem binv_skip {l : List Bool} {k m : Nat} {bs : List Nat} (h : BInv l k m bs) (hk : k < l.length) (he : l[k] = false) : BInv l (k + 1) m bs :=
  ⟨h.1, h.2.1, fun j => by rw [take_getD l k j hk, he, Bool.and_false, Bool.or_false]; exact h.2.2 j⟩
theorem binv_set {l : List Bool} {k m : Nat} {bs : List Nat} (h : BInv l k m bs) (hk : k < l.length) (he : l[k] = true) (hb : k / 8 < bs.length) : BInv l (k + 1) m (bs.set (k / 8) (bs[k / 8] ||| 2 ^ (k % 8))) :=
  ⟨by rw [List.length_set]; exact h.1, set_lt h.2.1 _ _ (set_or_lt (h.2.1 _ (List.getElem_mem hb))), fun j => by rw [take_getD l k j hk, he, Bool.and_true, bitY_set bs k j hb, h.2.2 j]⟩
theorem binv_all {l : List Bool} {n m : Nat} {bs : List Nat} (h : BInv l n m bs) (hl : l.length = n) (hm : (n + 7) / 8 = m) : IsBits bs l :=
  ⟨by rw [h.1, hl, hm], h.2.1, fun j => by rw [h.2.2 j, List.take_of_length_le (by omega)]⟩

theorem or_u8 (x r : Nat) (hx : x < 256) (hr : r < 8) : bits .or .u8 (x : Int) (2 ^ r % 256) = ((x ||| 2 ^ r : Nat) : Int) := by
  have hp : 2 ^ r < 256 := Nat.pow_lt_pow_right (a := 2) (by decide) hr
  have h := u8_or_nat x (2 ^ r) hx hp
  have e : (2 : Int) ^ r = ((2 ^ r : Nat) : Int) := by rw [Int.natCast_pow]; rfl
  have e2 : ((2 ^ r : Nat) : Int) % 256 = ((2 ^ r : Nat) : Int) := Int.emod_eq_of_lt (Int.natCast_nonneg _) (Int.ofNat_lt.2 hp)
  rw [← h, e, e2]
set_option maxHeartbeats 1000000 in
theorem bits_any (l : List Bool) (n : Nat) (A : Option Addr) (c : Nat) (w : World) (hR : RL w w.heap.size A n l) (hn : n ≤ 10000) :
    Calls Tryd.prog 46 #[.slice A n c] w fun e w' => ∃ b, IsBits b l ∧ OutY b ((n + 7) / 8) w e w' := by
  obtain ⟨i0, hi0, hz0, hz1, hz2⟩ := info_parts info5
  have HR := Lib.hid hR
  have HBF := Lib.hid (bytesFor_any n (by omega))
  obtain ⟨m, hm⟩ : ∃ m, (n + 7) / 8 = m := ⟨_, rfl⟩
  have hmn : n ≤ 8 * m := by omega
  have hmm : m ≤ 2000 := by omega
  rw [hm] at HBF ⊢
  have HM := Lib.hid hm
  clear hR hm
  go_enter Tryd.func46, Tryd.ntmps46
  go_wp2_with fail
  refine (HBF.out _).mono ?_
  rintro e w1 ⟨rfl, rfl⟩
  go_wp2_with (at_make; refine wpList_make_full _ rfl _ _ 27 rfl w1.heap.size 5 i0 _ 1 Tryd.underlying27 hi0 hz0 hz1 .i64 .i64 m m m rfl rfl rfl rfl ?k1 ?k2 (Nat.le_refl _) ?_)
  case k1 => rw [hz2]; omega
  case k2 => unfold maxLen; omega
  first | (intro w3 hown3 hgrow3) | (rename_i w3 hown3 hgrow3)
  have HW : Hid (w3.ownsRow w1.heap.size 5 1 (.slice (some ⟨w1.heap.size, 0, none⟩) m m) m (ycells (List.replicate m 0))) := Lib.hid (by
    rw [← ycells_rep]; exact hown3)
  have b3 : Below w1.heap.size w1 w3 := (Below.refl _ _).grown hgrow3 (Nat.le_refl _) (fun k hk => by cases hk)
  clear hown3 hgrow3 HBF
  go_wp2_with fail
  go_loopw [12] (fun i wr => ∃ (k : Nat) (bs : List Nat), k ≤ n ∧ i = .int .i64 k ∧ Hid (BInv l k m bs) ∧ Hid (wr.ownsRow w1.heap.size 5 1 (.slice (some ⟨w1.heap.size, 0, none⟩) m m) m (ycells bs)) ∧ Below w1.heap.size w1 wr) (fun i _ => n - (intOf i).toNat)
  case atStart => exact ⟨0, _, Nat.zero_le _, rfl, Lib.hid (binv_0 l m), HW, b3⟩
  case round =>
    obtain ⟨k, bs, hk, rfl, HI, HO, hb⟩ := hrel
    clear HW b3
    by_cases hlt : k < n
    · have kl : k < l.length := by rw [HR.out.1]; exact hlt
      have kb : k / 8 < bs.length := by rw [HI.out.1]; omega
      obtain ⟨b, o, rfl, hbb, p0⟩ := RL.at ⟨HR.out.1, HR.out.2.below hb⟩ kl
      have km : k / 8 < m := by omega
      cases hx : l[k]
      · rw [hx] at p0
        have HI' := Lib.hid (binv_skip HI.out kl hx)
        clear HI hx
        go_wp2_with fail
        go_roundw
        case rel => exact ⟨k + 1, bs, by omega, by go_num, HI', HO, hb⟩
        case measure => simp [intOf]; omega
      · rw [hx] at p0
        have HI' := Lib.hid (binv_set HI.out kl hx kb)
        have hb0 := HI.out.2.1 _ (List.getElem_mem kb)
        have q0 := own_byte HO.out kb
        have f0 := HO.out.frozenAt (k / 8)
        have HSt : Hid (∀ y : Nat, (wr.setCell ⟨w1.heap.size, k / 8, none⟩ (.int .u8 (y : Int))).ownsRow w1.heap.size 5 1 (.slice (some ⟨w1.heap.size, 0, none⟩) m m) m (ycells (bs.set (k / 8) y))) := Lib.hid (fun y => by
          have h := (HO.out.stored (k / 8) (.int .u8 (y : Int))).1
          rwa [ycells_set] at h)
        clear HI hx
        generalize bs[k / 8] = x at *
        obtain ⟨q, hq⟩ : ∃ q, k / 8 = q := ⟨_, rfl⟩
        obtain ⟨r, hr⟩ : ∃ r, k % 8 = r := ⟨_, rfl⟩
        have hr8 : r < 8 := by omega
        rw [hq] at km q0 f0 HSt HI'
        rw [hr] at HI'
        have i1 : (k : Int) / 8 = (q : Int) := by omega
        have i2 : (k : Int) % 8 = (r : Int) := by omega
        have i3 : Int.tdiv (k : Int) 8 = (q : Int) := by rw [Int.tdiv_eq_ediv_of_nonneg (by omega)]; exact i1
        have i4 : Int.tmod (k : Int) 8 = (r : Int) := by rw [Int.tmod_eq_emod_of_nonneg (by omega)]; exact i2
        have i5 : (0 : Int) ≤ (q : Int) := by omega
        have i6 : (q : Int) < (m : Int) := by omega
        have i7 : (0 : Int) ≤ (r : Int) := by omega
        have i8 : (r : Int) < 8 := by omega
        have i9 : min r 8 = r := by omega
        have iw : IntKind.i64.wrap (q : Int) = (q : Int) := by rw [IntKind.wrap_i64]; omega
        clear hq hr
        go_wp2_with fail
        have hor := or_u8 x r hb0 hr8
        have HSt2 : Hid ((wr.setCell ⟨w1.heap.size, q, none⟩ (.int .u8 (bits .or .u8 (x : Int) (2 ^ r % 256)))).drew.ownsRow w1.heap.size 5 1 (.slice (some ⟨w1.heap.size, 0, none⟩) m m) m (ycells (bs.set q (x ||| 2 ^ r)))) := Lib.hid (by
          rw [hor]; exact (HSt.out (x ||| 2 ^ r)).drew)
        have b9 : Below w1.heap.size w1 (wr.setCell ⟨w1.heap.size, q, none⟩ (.int .u8 (bits .or .u8 (x : Int) (2 ^ r % 256)))).drew := Below.drew (hb.setCell (p := ⟨w1.heap.size, q, none⟩) (Nat.le_refl _) _)
        clear hor HSt hb0 kb
        go_region
        generalize (wr.setCell ⟨w1.heap.size, q, none⟩ (.int .u8 (bits .or .u8 (x : Int) (2 ^ r % 256)))).drew = w9 at *
        clear p0 q0 f0 HO hb
        go_wp2_with fail
        go_roundw
        case rel => exact ⟨k + 1, _, by omega, by go_num, HI', HSt2, b9⟩
        case measure => simp [intOf]; omega
    · have HI' : Hid (IsBits bs l) := Lib.hid (binv_all (by have h := HI.out; rwa [show k = n by omega] at h) HR.out.1 HM.out)
      have HLen : Hid (bs.length = m ∧ ∀ x ∈ bs, x < 256) := Lib.hid ⟨HI.out.1, HI.out.2.1⟩
      clear HI
      go_wp2_with fail
      go_ret
      exact ⟨bs, HI'.out, _, _, rfl, HLen.out.1, HLen.out.2, HO.out, hb⟩
end Go.Proofs.YtbnconieedgcmaaDoor
