/- What Pieces returns: a new row that holds the pieces of the text. -/
import Derived.Test.YtbnconieedgcmaaDoorUOwn
namespace Go.Proofs.YtbnconieedgcmaaDoor.U
open Go.RowKit
set_option linter.unusedVariables false

/-- What Pieces leaves. -/
def OutPs (l : List Pp) (w : World) (e : Ending) (w' : World) : Prop :=
  ∃ A c, e = .returned (.slice A l.length c) ∧ w'.ownsRow w.heap.size 65 3 (.slice A l.length c) l.length (pcells l) ∧ Below w.heap.size w w'

set_option maxHeartbeats 1000000 in
theorem pieces_any (s : ByteArray) (w : World) (hs : s.size ≤ 1048576) (hT : Tab w) :
    Calls Tryd.prog 38 #[.string s] w (OutPs (piecesAt 0 s.data.toList) w) := by
  obtain ⟨i0, hi0, hz0, hz1, hz2⟩ := info_parts info35
  have HT := Lib.hid hT
  have HS : Hid (s.size ≤ maxLen) := Lib.hid (by unfold maxLen; omega)
  clear hT
  go_enter Tryd.func38, Tryd.ntmps38
  go_wp2_with fail
  go_loopw [3, 4] (fun v i wr => ∃ (k : Nat) (A : Option Addr) (c : Nat) (acc : List Pp), k ≤ s.size ∧ acc.length ≤ k ∧ i = .int .i64 k ∧ v = .slice A acc.length c ∧ Hid (acc ++ piecesAt k (s.data.toList.drop k) = piecesAt 0 s.data.toList) ∧ wr.ownsRow w.heap.size 65 3 (.slice A acc.length c) acc.length (pcells acc) ∧ Below w.heap.size w wr) (fun _ i _ => s.size - (intOf i).toNat)
  case atStart => exact ⟨0, none, 0, [], Nat.zero_le _, Nat.le_refl _, rfl, rfl, Lib.hid rfl, World.ownsRow_nil _ _ _ _, Below.refl _ _⟩
  case round =>
    obtain ⟨k, A, c, acc, hk, hak, rfl, rfl, HV, hown, hb⟩ := hrel
    have hTr := Lib.hid (HT.out.below hb)
    have hwr := hb.size
    by_cases hlt : k < s.size
    · obtain ⟨v, n, ok, hc, n1, n2, n3, hB, hp⟩ := pieceAt_some s k HS.out hlt
      rw [hp] at HV
      have HC := Lib.hid hc
      clear hp hc hB
      go_wp2_with fail
      refine (HC.out _ hTr.out).mono ?_
      rintro e w1 ⟨rfl, hw1⟩
      have hz : wr.heap.size ≤ w1.heap.size := hw1.size
      have b1 : Below w.heap.size w w1 := hb.trans (hw1.mono hwr)
      have hown1 := own_below hown hw1
      clear hw1 hown hb HC
      go_wp2_with (at_builtin; refine wpList_append_lies _ rfl _ _ 62 rfl w.heap.size 65 i0 _ 3 24 Tryd.underlying62 hi0 hz0 hz1 hz2 rfl (by decide) _ _ _ rfl ((hown1.alloc _).alloc _) ⟨w1.heap.size + 1, 0, none⟩ 1 1 [.int .i64 v, .int .i64 k, .int .i64 n] rfl rfl ?c1 ?c2 (by omega) ?c3 ?c4 ?c5 _ rfl ?_)
      case c1 =>
        intro j u hj
        match j, hj with
        | 0, hj => simp at hj; subst hj; simp [Addr.add]
        | 1, hj => simp at hj; subst hj; simp [Addr.add]
        | 2, hj => simp at hj; subst hj; simp [Addr.add]
      case c2 => intro u hu; simp at hu; rcases hu with rfl | rfl | rfl <;> rfl
      case c3 => unfold maxLen; omega
      case c4 => omega
      case c5 => simp; omega
      · intro g cap w2 hown2 hgrow hat hlt2
        have hlt3 := (hown1.lt)
        have hc2 : w2.cell? ⟨w1.heap.size, 2, none⟩ = some (.int .i64 n) := by
          refine hgrow.cell (by simp) ?_
          intro he
          have := (hown1.lt _ he.symm).2
          simp at this
        have b2 : Below w.heap.size w w2 := below_grown ((b1.alloc (by omega) _).alloc (by simp; omega) _) (by simp; omega) ((hown1.alloc _).alloc _) hgrow
        have R : ∃ (A' : Option Addr) (c' : Nat), Value.slice (some ⟨g, 0, none⟩) (acc.length + 1) cap = .slice A' (acc ++ [(⟨v, k, n, ok⟩ : Pp)]).length c' ∧ w2.ownsRow w.heap.size 65 3 (.slice A' (acc ++ [(⟨v, k, n, ok⟩ : Pp)]).length c') (acc ++ [(⟨v, k, n, ok⟩ : Pp)]).length (pcells (acc ++ [(⟨v, k, n, ok⟩ : Pp)])) := by
          refine ⟨some ⟨g, 0, none⟩, cap, by simp, ?_⟩
          rw [pcells_snoc, List.length_append]
          exact hown2
        have HR := Lib.hid R
        have HV' : Hid ((acc ++ [(⟨v, k, n, ok⟩ : Pp)]) ++ piecesAt (k + n) (s.data.toList.drop (k + n)) = piecesAt 0 s.data.toList) := Lib.hid (by rw [← HV.out]; simp)
        clear R hown2 hgrow hat hown1 HV hlt3
        go_wp2_with fail
        go_roundw
        case rel =>
          obtain ⟨A', c', e1, o1⟩ := HR.out
          exact ⟨k + n, A', c', acc ++ [⟨v, k, n, ok⟩], n3, by simp; omega, by go_num, e1, HV', o1, b2⟩
        case measure => simp [intOf]; omega
    · have HV' : Hid (acc = piecesAt 0 s.data.toList) := Lib.hid (by rw [← HV.out, drop_none s k hlt, piecesAt_nil, List.append_nil])
      clear HV
      go_wp2_with fail
      go_ret
      rw [← HV'.out]
      exact ⟨A, c, rfl, hown, hb⟩
end Go.Proofs.YtbnconieedgcmaaDoor.U
