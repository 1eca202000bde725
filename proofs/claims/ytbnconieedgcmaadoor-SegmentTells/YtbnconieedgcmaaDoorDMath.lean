/- What Decode says, in the order of the program; its parts. -/
import Derived.Test.YtbnconieedgcmaaDoorSeal
import Derived.Test.YtbnconieedgcmaaDoorBandsOf
import Derived.Test.YtbnconieedgcmaaDoorNextOf
namespace Go.Proofs.YtbnconieedgcmaaDoor
open Go.RowKit Go.BigFrame
set_option linter.unusedVariables false
set_option maxRecDepth 4000
set_option linter.unusedSimpArgs false

def zeroT : Tb := { cl := 0, bd := [], nx := [], br := [] }
def zeroV : TV := ⟨0, none, 0, 0, [], none, 0, 0, [], none, 0, 0, []⟩
theorem zeroV_ok (w : World) : zeroV.ok w := ⟨RD.nil _ _ _, ⟨fun _ => rfl, Nat.le_refl _, Nat.zero_le _⟩, RN.nil _ _ _, ⟨fun _ => rfl, Nat.le_refl _, Nat.zero_le _⟩, RL.nil _ _ _, ⟨fun _ => rfl, Nat.le_refl _, Nat.zero_le _⟩⟩
theorem zeroV_tb : zeroV.tb = zeroT := rfl
open Classical in
/-- The table that Decode tells. -/
noncomputable def decR (l : List Nat) : Tb := if errT l = 0 then decT l else zeroT
theorem decR_no {l : List Nat} (h : errT l ≠ 0) : decR l = zeroT := by unfold decR; rw [if_neg h]
theorem decR_yes {l : List Nat} (h : errT l = 0) : decR l = decT l := by unfold decR; rw [if_pos h]
/-- The table of bytes, or why there is none. -/
def OutDc (l : List Nat) (w : World) (e : Ending) (w' : World) : Prop :=
  ∃ V : TV, e = .returned (.tuple #[V.v, .int .i64 (errT l : Nat)]) ∧ V.ok w' ∧ V.tb = decR l ∧ Below w.heap.size w w'
theorem outDc_no {l : List Nat} {w w' : World} {r : Nat} (h : errT l = r) (h0 : r ≠ 0) (g : Below w.heap.size w w') : OutDc l w (.returned (.tuple #[.agg #[.int .i64 0, .slice none 0 0, .slice none 0 0, .slice none 0 0], .int .i64 (r : Int)])) w' :=
  ⟨zeroV, by rw [h]; rfl, zeroV_ok _, by rw [decR_no (by rw [h]; exact h0), zeroV_tb], g⟩
/-- The bits' bytes. -/
def bitsP (l : List Nat) : List Nat := (l.take (l.length - 4)).drop (7 + 4 * l[6]?.getD 0 + l[5]?.getD 0 * l[4]?.getD 0)
theorem errT_seal {l : List Nat} (h : sealE l ≠ 0) : errT l = sealE l := by
  unfold sealE at h
  unfold errT
  unfold sealE
  split
  · rfl
  · rename_i h1
    rw [if_neg h1] at h
    split
    · rfl
    · rename_i h2
      rw [if_neg h2] at h
      split
      · rfl
      · rename_i h3
        rw [if_neg h3] at h
        exact absurd rfl h
theorem seal_zero {l : List Nat} (h : sealE l = 0) : ¬ l.length < 11 ∧ ¬ (l.take 4 ≠ markB) ∧ ¬ (numL (l.drop (l.length - 4)) ≠ sumL (l.take (l.length - 4))) := by
  unfold sealE at h
  split at h
  · cases h
  · split at h
    · cases h
    · split at h
      · cases h
      · rename_i h1 h2 h3
        exact ⟨h1, h2, h3⟩
theorem errT_count {l : List Nat} (h : sealE l = 0) (h2 : ¬ (cntB (l[4]?.getD 0) (l[5]?.getD 0) (l[6]?.getD 0) = true ∧ lenT (l[4]?.getD 0) (l[5]?.getD 0) (l[6]?.getD 0) = l.length)) : errT l = 24 := by
  obtain ⟨a, b, c⟩ := seal_zero h
  unfold errT
  rw [if_neg a, if_neg b, if_neg c, if_pos]
  rintro ⟨x, y, z, u⟩
  exact h2 ⟨decide_eq_true ⟨x, y, z⟩, u⟩
theorem errT_bits {l : List Nat} (h : sealE l = 0) (h2 : cntB (l[4]?.getD 0) (l[5]?.getD 0) (l[6]?.getD 0) = true) (h3 : lenT (l[4]?.getD 0) (l[5]?.getD 0) (l[6]?.getD 0) = l.length) (h4 : unbR (bitsP l) (l[5]?.getD 0 : Nat) = none) : errT l = 25 := by
  obtain ⟨a, b, c⟩ := seal_zero h
  obtain ⟨x, y, z⟩ := of_decide_eq_true h2
  unfold bitsP at h4
  unfold errT
  rw [if_neg a, if_neg b, if_neg c, if_neg (fun hn => hn ⟨x, y, z, h3⟩), if_pos h4]
theorem errT_ok {l : List Nat} (h : sealE l = 0) (h2 : cntB (l[4]?.getD 0) (l[5]?.getD 0) (l[6]?.getD 0) = true) (h3 : lenT (l[4]?.getD 0) (l[5]?.getD 0) (l[6]?.getD 0) = l.length) (r : List Bool) (h4 : unbR (bitsP l) (l[5]?.getD 0 : Nat) = some r) : errT l = 0 ∧ decR l = tabOf l r := by
  obtain ⟨a, b, c⟩ := seal_zero h
  obtain ⟨x, y, z⟩ := of_decide_eq_true h2
  have e : errT l = 0 := by
    unfold errT
    rw [if_neg a, if_neg b, if_neg c, if_neg (fun hn => hn ⟨x, y, z, h3⟩), if_neg]
    intro hn
    unfold bitsP at h4
    rw [h4] at hn
    cases hn
  refine ⟨e, ?_⟩
  rw [decR_yes e]
  unfold decT
  unfold bitsP at h4
  rw [h4]
  rfl
/-- A part of a row. -/
theorem RB.sub {w : World} {B n b o : Nat} {l : List Nat} (h : RB w B (some ⟨b, o, none⟩) n l) {i j : Nat} (hij : i ≤ j) (hj : j ≤ n) : RB w B (some ⟨b, o + i, none⟩) (j - i) ((l.take j).drop i) := by
  have hl := h.1
  have hlen : ((l.take j).drop i).length = j - i := by rw [List.length_drop, List.length_take]; omega
  refine ⟨hlen, ⟨by rw [ycells_len, hlen, Nat.mul_one], fun hp => ?_⟩, fun x hx => h.2.2 x (List.mem_of_mem_take (List.mem_of_mem_drop hx))⟩
  obtain ⟨b', o', e, hb, hc⟩ := h.2.1.2 (by omega)
  injection e with e
  injection e with e1 e2
  subst e1 e2
  refine ⟨b, o + i, rfl, hb, fun q u hu => ?_⟩
  have hq : q < j - i := by
    have := (List.getElem?_eq_some_iff.1 hu).1
    rw [ycells_len, hlen] at this
    exact this
  rw [Nat.add_assoc]
  refine hc (i + q) u ?_
  rw [← hu]
  unfold ycells
  rw [List.getElem?_map, List.getElem?_map, List.getElem?_drop, List.getElem?_take_of_lt (by omega)]
theorem bands_part (l : List Nat) (k : Nat) : (List.range k).map (fun i => bandOf (chunk 4 ((l.take (7 + 4 * k)).drop 7) i)) = (List.range k).map fun i => bandOf (chunk 4 (l.drop 7) i) := by
  refine List.map_congr_left fun i hi => ?_
  rw [List.drop_take, show 7 + 4 * k - 7 = 4 * k by omega, chunk_take 4 k _ i (List.mem_range.1 hi)]
theorem rows_part (l : List Nat) (a c s : Nat) : (List.range s).map (fun i => (chunk c ((l.take (a + s * c)).drop a) i).map Int.ofNat) = (List.range s).map fun i => (chunk c (l.drop a) i).map Int.ofNat := by
  refine List.map_congr_left fun i hi => ?_
  rw [List.drop_take, show a + s * c - a = c * s by rw [Nat.mul_comm]; omega, chunk_take c s _ i (List.mem_range.1 hi)]
end Go.Proofs.YtbnconieedgcmaaDoor
