/- What Unbits returns. -/
import Derived.Test.YtbnconieedgcmaaDoorBits
import Derived.Deep.RegionHeld3
namespace Go.Proofs.YtbnconieedgcmaaDoor
open Go.RowKit Go.BigFrame
set_option linter.unusedVariables false
set_option linter.unusedSimpArgs false


def OutU (r : Option (List Bool)) (w : World) (e : Ending) (w' : World) : Prop :=
  ∃ (A : Option Addr) (c : Nat), e = .returned (.tuple #[.slice A (r.getD []).length c, .bool r.isSome]) ∧ w'.ownsRow w.heap.size 4 1 (.slice A (r.getD []).length c) (r.getD []).length (bcells (r.getD [])) ∧ Below w.heap.size w w'
theorem outU_no (w w' : World) (g : Below w.heap.size w w') : OutU none w (.returned (.tuple #[.slice none 0 0, .bool false])) w' :=
  ⟨none, 0, rfl, World.ownsRow_nil _ _ _ _, g⟩
theorem unbR_no {b : List Nat} {n : Int} (h : ¬ (0 ≤ n ∧ n ≤ 8 * b.length ∧ (b.length : Int) ≤ (n + 7) / 8 ∧ (∀ i, n.toNat ≤ i → i < 8 * b.length → bitY b i = false))) : unbR b n = none := by unfold unbR; rw [if_neg h]
theorem unbR_yes {b : List Nat} {n : Nat} (h1 : n ≤ 8 * b.length) (h2 : b.length ≤ (n + 7) / 8) (h : ∀ i, n ≤ i → i < 8 * b.length → bitY b i = false) : unbR b n = some ((List.range n).map (bitY b)) := by
  unfold unbR; rw [if_pos ⟨by omega, by omega, by omega, by rw [Int.toNat_natCast]; exact h⟩, Int.toNat_natCast]
theorem bcells_set (l : List Bool) (k : Nat) (y : Bool) : (bcells l).set k (.bool y) = bcells (l.set k y) := by
  unfold bcells; rw [List.map_set]
theorem bcells_rep (m : Nat) : (madeCells #[Value.bool false] m).toList = bcells (List.replicate m false) := by rw [toList_madeCells_one]; simp [bcells]
theorem own_RL {w : World} {base n c : Nat} {A : Option Addr} {l : List Bool} (h : w.ownsRow base 4 1 (.slice A n c) n (bcells l)) : RL w w.heap.size A n l := ⟨by have := h.1; rw [bcells_len] at this; omega, Reads.of_own h⟩
theorem own_RB {w : World} {base n c : Nat} {A : Option Addr} {l : List Nat} (h : w.ownsRow base 5 1 (.slice A n c) n (ycells l)) (hl : ∀ x ∈ l, x < 256) : RB w w.heap.size A n l := ⟨by have := h.1; rw [ycells_len] at this; omega, Reads.of_own h, hl⟩
/-- The first k bits are laid. -/
def UInv (b : List Nat) (k n : Nat) (bs : List Bool) : Prop := bs.length = n ∧ ∀ j, j < k → bs[j]? = some (bitY b j)
theorem uinv_set {b : List Nat} {k n : Nat} {bs : List Bool} (h : UInv b k n bs) (hk : k < n) : UInv b (k + 1) n (bs.set k (bitY b k)) := by
  refine ⟨by rw [List.length_set]; exact h.1, fun j hj => ?_⟩
  rw [List.getElem?_set]
  by_cases e : k = j
  · subst e; rw [if_pos rfl, if_pos (by rw [h.1]; exact hk)]
  · rw [if_neg e]; exact h.2 j (by omega)
theorem uinv_all {b : List Nat} {n : Nat} {bs : List Bool} (h : UInv b n n bs) : bs = (List.range n).map (bitY b) := by
  apply List.ext_getElem?
  intro j
  by_cases hj : j < n
  · rw [h.2 j hj, List.getElem?_map, List.getElem?_range hj]; rfl
  · rw [List.getElem?_eq_none (by rw [h.1]; omega), List.getElem?_eq_none (by simp; omega)]

set_option maxHeartbeats 2000000 in
theorem unbits_any (l : List Nat) (m : Nat) (A : Option Addr) (c : Nat) (n : Int) (w : World) (hR : RB w w.heap.size A m l) (hm : m ≤ 10000) :
    Calls Tryd.prog 56 #[.slice A m c, .int .i64 n] w (OutU (unbR l n) w) := by
  obtain ⟨i0, hi0, hz0, hz1, hz2⟩ := info_parts info4
  have hl := hR.1
  by_cases h1 : n < 0
  · rw [unbR_no (by omega)]
    clear hR hl
    go_enter Tryd.func56, Tryd.ntmps56
    go_wp2_with fail
    go_ret2
    exact outU_no _ _ (Below.refl _ _)
  by_cases h2 : 8 * (m : Int) < n
  · rw [unbR_no (by omega)]
    clear hR hl
    go_enter Tryd.func56, Tryd.ntmps56
    go_wp2_with fail
    go_ret2
    exact outU_no _ _ (Below.refl _ _)
  obtain ⟨k, rfl⟩ := Int.eq_ofNat_of_zero_le (show 0 ≤ n by omega)
  have HBF := Lib.hid (bytesFor_any k (by omega))
  obtain ⟨z, hz⟩ : ∃ z, (k + 7) / 8 = z := ⟨_, rfl⟩
  rw [hz] at HBF
  have hk8 : k ≤ 8 * m := by omega
  by_cases h3 : z < m
  · rw [unbR_no (by omega)]
    have h3' : (z : Int) < (m : Int) := by omega
    clear hR hl
    go_enter Tryd.func56, Tryd.ntmps56
    go_wp2_with fail
    refine (HBF.out _).mono ?_
    rintro e w1 ⟨rfl, rfl⟩
    go_wp2_with fail
    go_ret2
    exact outU_no _ _ (Below.refl _ _)
  have h3' : ¬ ((z : Int) < (m : Int)) := by omega
  have HR := Lib.hid hR
  have HMZ : Hid (l.length ≤ (k + 7) / 8) := Lib.hid (by omega)
  have HL := Lib.hid hl
  clear hR hl hz
  go_enter Tryd.func56, Tryd.ntmps56
  go_wp2_with fail
  refine (HBF.out _).mono ?_
  rintro e w1 ⟨rfl, rfl⟩
  go_wp2_with fail
  go_loopw [6] (fun i wr => ∃ (j : Nat), k ≤ j ∧ j ≤ 8 * m ∧ i = .int .i64 j ∧ wr = w1 ∧ Hid (∀ q, k ≤ q → q < j → bitY l q = false)) (fun i _ => 8 * m - (intOf i).toNat)
  case atStart => exact ⟨k, Nat.le_refl _, by omega, rfl, rfl, Lib.hid (fun q h1 h2 => by omega)⟩
  case round =>
    obtain ⟨j, hj0, hj1, rfl, rfl, HG⟩ := hrel
    by_cases hlt : j < 8 * m
    · have hltI : (j : Int) < 8 * (m : Int) := by omega
      have HB := Lib.hid (bitAt_any l m j A c _ HR.out (by omega) (by omega))
      cases hx : bitY l j
      · rw [hx] at HB
        have HG' : Hid (∀ q, k ≤ q → q < j + 1 → bitY l q = false) := Lib.hid (fun q h1 h2 => by
          by_cases e : q = j
          · rw [e]; exact hx
          · exact HG.out q h1 (by omega))
        clear HG hx
        go_wp2_with fail
        refine HB.out.mono ?_
        rintro e w2 ⟨rfl, rfl⟩
        go_wp2_with fail
        go_roundw
        case rel => exact ⟨j + 1, by omega, by omega, by go_num, trivial, HG'⟩
        case measure => simp [intOf]; omega
      · rw [hx] at HB
        have HNo : Hid (unbR l k = none) := Lib.hid (unbR_no (fun h => by
          have := h.2.2.2 j (by rw [Int.toNat_natCast]; exact hj0) (by rw [HL.out]; exact hlt)
          rw [hx] at this; cases this))
        clear HG hx
        go_wp2_with fail
        refine HB.out.mono ?_
        rintro e w2 ⟨rfl, rfl⟩
        go_wp2_with fail
        go_ret2
        rw [HNo.out]
        exact outU_no _ _ (Below.refl _ _)
    · have hltI : ¬ ((j : Int) < 8 * (m : Int)) := by omega
      have HYes : Hid (unbR l k = some ((List.range k).map (bitY l))) := Lib.hid (unbR_yes (by rw [HL.out]; omega) HMZ.out (fun q h1 h2 => HG.out q h1 (by rw [HL.out] at h2; omega)))
      clear HG
      rename World => w2
      go_wp2_with (at_make; refine wpList_make_full _ rfl _ _ 24 rfl w2.heap.size 4 i0 _ 1 Tryd.underlying24 hi0 hz0 hz1 .i64 .i64 k k k rfl rfl rfl rfl ?k1 ?k2 (Nat.le_refl _) ?_)
      case k1 => first | omega | (rw [hz2]; omega)
      case k2 => unfold maxLen; omega
      first | (intro w3 hown3 hgrow3) | (rename_i w3 hown3 hgrow3)
      have HW : Hid (w3.ownsRow w2.heap.size 4 1 (.slice (some ⟨w2.heap.size, 0, none⟩) k k) k (bcells (List.replicate k false))) := Lib.hid (by
        rw [← bcells_rep]; exact hown3)
      have b3 : Below w2.heap.size w2 w3 := (Below.refl _ _).grown hgrow3 (Nat.le_refl _) (fun k hk => by cases hk)
      clear hown3 hgrow3
      go_wp2_with fail
      go_loopw [40] (fun i wr => ∃ (j : Nat) (bs : List Bool), j ≤ k ∧ i = .int .i64 j ∧ Hid (UInv l j k bs) ∧ Hid (wr.ownsRow w2.heap.size 4 1 (.slice (some ⟨w2.heap.size, 0, none⟩) k k) k (bcells bs)) ∧ Below w2.heap.size w2 wr) (fun i _ => k - (intOf i).toNat)
      case atStart => exact ⟨0, _, Nat.zero_le _, rfl, Lib.hid ⟨by simp, fun j hj => by omega⟩, HW, b3⟩
      case round =>
        clear HW b3
        obtain ⟨q, bs, hq, rfl, HI, HO, hb⟩ := hrel
        by_cases hlt2 : q < k
        · have HB := Lib.hid (bitAt_any l m q A c wr (HR.out.on hb) (by omega) (by omega))
          have ql : q < bs.length := by rw [HI.out.1]; exact hlt2
          have HI' := Lib.hid (uinv_set HI.out hlt2)
          have q0 : wr.cell? ⟨w2.heap.size, q, none⟩ = some (.bool bs[q]) := (HO.out.cellAt q (by omega)).trans (by unfold bcells; rw [List.getElem?_map, List.getElem?_eq_getElem ql]; rfl)
          have f0 := HO.out.frozenAt q
          have HSt : Hid ((wr.setCell ⟨w2.heap.size, q, none⟩ (.bool (bitY l q))).ownsRow w2.heap.size 4 1 (.slice (some ⟨w2.heap.size, 0, none⟩) k k) k (bcells (bs.set q (bitY l q)))) := Lib.hid (by
            have h := (HO.out.stored q (.bool (bitY l q))).1
            rwa [bcells_set] at h)
          have b9 : Below w2.heap.size w2 (wr.setCell ⟨w2.heap.size, q, none⟩ (.bool (bitY l q))) := hb.setCell (p := ⟨w2.heap.size, q, none⟩) (Nat.le_refl _) _
          generalize bitY l q = x at *
          generalize bs[q] = y at *
          clear HI HO hb ql
          go_wp2_with fail
          refine HB.out.mono ?_
          rintro e w4 ⟨rfl, rfl⟩
          go_wp2_with fail
          go_roundw
          case rel => exact ⟨q + 1, _, by omega, by go_num, HI', HSt, b9⟩
          case measure => simp [intOf]; omega
        · have HE : Hid (bs = (List.range k).map (bitY l)) := Lib.hid (uinv_all (by have h := HI.out; rwa [show q = k by omega] at h))
          have HLn : Hid (bs.length = k) := Lib.hid HI.out.1
          clear HI
          go_wp2_with fail
          go_ret2
          rw [HYes.out, ← HE.out]
          have hle := HLn.out
          refine ⟨some ⟨w2.heap.size, 0, none⟩, k, ?_, ?_, hb⟩
          · rw [show ((some bs).getD []).length = k from hle]; rfl
          · rw [show ((some bs).getD []).length = k from hle]; exact HO.out
end Go.Proofs.YtbnconieedgcmaaDoor
