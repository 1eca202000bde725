/- What Valid returns: whether nothing is ill-formed. -/
import Derived.Test.YtbnconieedgcmaaDoorUPiece
import Derived.Test.YtbnconieedgcmaaDoorUMath2
namespace Go.Proofs.YtbnconieedgcmaaDoor.U
open Go.RowKit
set_option linter.unusedVariables false

/-- The piece at a place: its call, how long it is, and that the rest's pieces follow it. -/
theorem pieceAt_some (s : ByteArray) (k : Nat) (hs : s.size ≤ maxLen) (hk : k < s.size) :
    ∃ (v : Int) (n : Nat) (ok : Bool), (∀ W : World, Tab W → Calls Tryd.prog 89 #[.string s, .int .i64 k] W (Out k ⟨v, n, ok⟩ W)) ∧ 1 ≤ n ∧ n ≤ 4 ∧ k + n ≤ s.size ∧ isB v = true ∧
      piecesAt k (s.data.toList.drop k) = ⟨v, k, n, ok⟩ :: piecesAt (k + n) (s.data.toList.drop (k + n)) := by
  have hf := piece_fits s[k] (s.data.toList.drop (k + 1))
  have hB := piece_isB s[k] (s.data.toList.drop (k + 1))
  have hc := fun W hW => pieceAt_any s k W hs hk hW
  have hd := drop_cons s k hk
  have hl : (s.data.toList.drop k).length = s.size - k := by simp
  have hp := piecesAt_step k (s.data.toList.drop k) (by rw [hd]; simp)
  rw [← hd] at hf hB
  generalize pieceOf (s.data.toList.drop k) = p at *
  obtain ⟨v, n, ok⟩ := p
  obtain ⟨f1, f2, f3, _⟩ := hf
  simp only [hl] at f1 f2 f3
  refine ⟨v, n, ok, hc, f1, f2, by omega, hB, ?_⟩
  rw [hp, List.drop_drop]

set_option maxHeartbeats 1000000 in
theorem valid_any (s : ByteArray) (w : World) (hs : s.size ≤ maxLen) (hT : Tab w) :
    Calls Tryd.prog 41 #[.string s] w fun e w' => e = .returned (.bool (validL s.data.toList)) ∧ Below w.heap.size w w' := by
  have hm := hs
  unfold maxLen at hm
  have HT := Lib.hid hT
  have HS := Lib.hid hs
  clear hT hs
  go_enter Tryd.func41, Tryd.ntmps41
  go_wp2_with fail
  go_loopw [3] (fun i wr => ∃ k : Nat, k ≤ s.size ∧ i = .int .i64 k ∧ Hid (okAll (piecesAt k (s.data.toList.drop k)) = validL s.data.toList) ∧ Below w.heap.size w wr) (fun i _ => s.size - (intOf i).toNat)
  case atStart => exact ⟨0, Nat.zero_le _, rfl, Lib.hid rfl, Below.refl _ _⟩
  case round =>
    obtain ⟨k, hk, rfl, HV, hb⟩ := hrel
    have hTr := Lib.hid (HT.out.below hb)
    have hwr := hb.size
    by_cases hlt : k < s.size
    · obtain ⟨v, n, ok, hc, n1, n2, n3, hB, hp⟩ := pieceAt_some s k HS.out hlt
      rw [hp] at HV
      have HC := Lib.hid hc
      clear hp hc hB
      cases ok
      · have HV' : Hid (validL s.data.toList = false) := Lib.hid (by rw [← HV.out]; rfl)
        clear HV
        go_wp2_with fail
        refine (HC.out _ hTr.out).mono ?_
        rintro e w1 ⟨rfl, hw1⟩
        have hz : wr.heap.size ≤ w1.heap.size := hw1.size
        have b1 : Below w.heap.size w w1 := hb.trans (hw1.mono hwr)
        clear hw1
        go_wp2_with fail
        go_ret
        exact ⟨ret_bool HV'.out.symm, by go_grown⟩
      · have HV' : Hid (okAll (piecesAt (k + n) (s.data.toList.drop (k + n))) = validL s.data.toList) := Lib.hid (by rw [← HV.out]; rfl)
        clear HV
        go_wp2_with fail
        refine (HC.out _ hTr.out).mono ?_
        rintro e w1 ⟨rfl, hw1⟩
        have hz : wr.heap.size ≤ w1.heap.size := hw1.size
        have b1 : Below w.heap.size w w1 := hb.trans (hw1.mono hwr)
        clear hw1
        go_wp2_with fail
        go_roundw
        case rel => exact ⟨k + n, n3, by go_num, HV', by go_grown⟩
        case measure => simp [intOf]; omega
    · have HV' : Hid (validL s.data.toList = true) := Lib.hid (by rw [← HV.out, drop_none s k hlt]; rfl)
      clear HV
      go_wp2_with fail
      go_ret
      exact ⟨ret_bool HV'.out.symm, hb⟩
end Go.Proofs.YtbnconieedgcmaaDoor.U
