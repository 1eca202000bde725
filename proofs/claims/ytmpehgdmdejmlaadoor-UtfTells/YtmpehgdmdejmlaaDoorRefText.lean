/- What the document's own Text returns, and caesurakeep.Ints at two rows that are the same. -/
import Derived.Test.YtmpehgdmdejmlaaDoorRefs
namespace Go.Proofs.YtmpehgdmdejmlaaDoor
open Go.RowKit
set_option linter.unusedVariables false
set_option linter.unusedSimpArgs false

theorem strOf_append (a b : List UInt8) : strOf a ++ strOf b = strOf (a ++ b) := by
  have h : (strOf a ++ strOf b).data.toList = (strOf (a ++ b)).data.toList := by simp [strOf]
  have := congrArg strOf h
  rwa [strOf_of, strOf_of] at this

theorem reads_int {w : World} {B n : Nat} {A : Option Addr} {l : List Int} (h : Reads w B 1 A n (icells l)) {k : Nat} (hk : k < l.length) : ∃ b o, A = some ⟨b, o, none⟩ ∧ b < B ∧ w.cell? ⟨b, o + k, none⟩ = some (.int .i64 l[k]) := by
  have h1 := h.1
  rw [icells_len] at h1
  obtain ⟨b, o, rfl, hb, hc⟩ := h.2 (by omega)
  exact ⟨b, o, rfl, hb, hc k _ (by unfold icells; rw [List.getElem?_map, List.getElem?_eq_getElem hk]; rfl)⟩

theorem bytes_some {v : Int} (h : isB v = true) : (strOf (bytesOf v)).toList.isEmpty = false := by
  rw [ByteArray.toList_eq, strOf_data]
  have := bytesOf_ne v h
  cases e : bytesOf v with
  | nil => exact absurd e this
  | cons b r => rfl

set_option maxHeartbeats 1000000 in
theorem refText_any (l : List Int) (n : Nat) (hln : l.length = n) (A : Option Addr) (c : Nat) (w : World) (hR : Reads w w.heap.size 1 A n (icells l)) (hn : n ≤ 100000) :
    Calls Tryd.prog 10 #[.slice A n c] w (OutT l w) := by
  have HR := Lib.hid hR
  have HLN := Lib.hid hln
  clear hR hln
  go_enter Tryd.func10, Tryd.ntmps10
  go_wp2_with fail
  go_loopw [4, 5] (fun t i wr => ∃ (k : Nat) (bs : List UInt8), k ≤ n ∧ bs.length ≤ 4 * k ∧ i = .int .i64 k ∧ t = .string (strOf bs) ∧ Hid (bs = textL (l.take k)) ∧ Hid (allB (l.take k) = true) ∧ Below w.heap.size w wr) (fun _ i _ => n - (intOf i).toNat)
  case atStart => exact ⟨0, [], Nat.zero_le _, Nat.le_refl _, rfl, rfl, Lib.hid rfl, Lib.hid rfl, Below.refl _ _⟩
  case round =>
    obtain ⟨k, bs, hk, hbk, rfl, rfl, HB, HA, hb⟩ := hrel
    have hsz := hb.size
    by_cases hlt : k < n
    · have kl : k < l.length := by rw [HLN.out]; exact hlt
      obtain ⟨b, o, rfl, hbB, hx⟩ := reads_int (HR.out.below hb) kl
      have HE : Hid (l.take (k + 1) = l.take k ++ [l[k]]) := Lib.hid (List.take_succ_eq_append_getElem kl)
      have hbsz : (strOf bs).size ≤ 400000 := by rw [strOf_size]; omega
      have hcat : ∀ q, strOf bs ++ strOf q = strOf (bs ++ q) := strOf_append bs
      cases hB : isB l[k]
      · have hby := refBytes_any l[k]
        rw [bytesOf_no hB] at hby
        have HBY := Lib.hid hby
        have HNO := Lib.hid (allB_mem kl hB)
        clear hby hB hcat
        go_wp2_with fail
        refine (HBY.out _).mono ?_
        rintro e w2 ⟨rfl, g2⟩
        have b2 := hb.trans (g2.mono hsz)
        clear g2
        rw [show strOf [] = (⟨#[]⟩ : ByteArray) from rfl]
        go_wp2_with fail
        go_ret2
        exact outT_no HNO.out rfl b2
      · have e1 := bytes_some hB
        have hby := refBytes_any l[k]
        have HBY := Lib.hid hby
        have hl4 := bytesOf_len l[k]
        have HB' : Hid (bs ++ bytesOf l[k] = textL (l.take (k + 1))) := Lib.hid (by rw [HE.out, textL_append, ← HB.out]; simp [textL])
        have HA' : Hid (allB (l.take (k + 1)) = true) := Lib.hid (by
          have h1 := HA.out
          rw [HE.out]
          unfold allB at h1 ⊢
          rw [List.all_append, h1]
          simp [hB])
        have hsb : (strOf (bytesOf l[k])).size ≤ 4 := by rw [strOf_size]; exact hl4
        have HC := Lib.hid (hcat (bytesOf l[k]))
        clear hby hB hcat HB HA HE
        go_wp2_with fail
        refine (HBY.out _).mono ?_
        rintro e w2 ⟨rfl, g2⟩
        have b2 := hb.trans (g2.mono hsz)
        clear g2 hb
        go_wp2_with fail
        refine ⟨⟨k + 1, bs ++ bytesOf l[k], by omega, by rw [List.length_append]; omega, by go_num, by rw [← HC.out], HB', HA', b2⟩, ?_⟩
        simp [intOf]; omega
    · have HB' : Hid (bs = textL l ∧ allB l = true) := Lib.hid (by
        have h1 := HB.out
        have h2 := HA.out
        rw [List.take_of_length_le (by rw [HLN.out]; omega)] at h1 h2
        exact ⟨h1, h2⟩)
      clear HB HA
      go_wp2_with fail
      go_ret2
      exact outT_yes HB'.out.2 (ret_str2 HB'.out.1) hb

set_option maxHeartbeats 1000000 in
theorem ints_same (l : List Int) (n : Nat) (hln : l.length = n) (A B : Option Addr) (c d : Nat) (w : World) (hA : Reads w w.heap.size 1 A n (icells l)) (hB : Reads w w.heap.size 1 B n (icells l)) (hn : n ≤ 1048576) :
    Calls Tryd.prog 18 #[.slice A n c, .slice B n d] w fun e w' => e = .returned (.bool true) ∧ Below w.heap.size w w' := by
  have HA := Lib.hid hA
  have HB := Lib.hid hB
  have HLN := Lib.hid hln
  clear hA hB hln
  go_enter Tryd.func18, Tryd.ntmps18
  go_wp2_with fail
  go_loopw [5] (fun i wr => ∃ (k q : Nat), k ≤ n ∧ i = .int .i64 k ∧ wr = w.drewN q) (fun i _ => n - (intOf i).toNat)
  case atStart => exact ⟨0, 0, Nat.zero_le _, rfl, rfl⟩
  case round =>
    obtain ⟨k, q, hk, rfl, rfl⟩ := hrel
    by_cases hlt : k < n
    · have kl : k < l.length := by rw [HLN.out]; exact hlt
      obtain ⟨b, o, rfl, _, h1⟩ := reads_int HA.out kl
      obtain ⟨b', o', rfl, _, h2⟩ := reads_int HB.out kl
      generalize l[k] = x at *
      have e1 : (x != x) = false := by simp
      go_wp2_with fail
      go_quiet (fail)
      go_wp2_with fail
      go_roundw
      case rel => exact ⟨k + 1, _, by omega, by go_num, rfl⟩
      case measure => simp [intOf]; omega
    · go_wp2_with fail
      go_ret
      exact ⟨rfl, below_drewN (Below.refl _ _) _⟩
end Go.Proofs.YtmpehgdmdejmlaaDoor
