/- What bandsOf returns. -/
import Derived.Test.YtbnconieedgcmaaDoorEnc
import Derived.Deep.AppendLies
namespace Go.Proofs.YtbnconieedgcmaaDoor
open Go.RowKit Go.BigFrame
set_option linter.unusedVariables false
set_option maxRecDepth 4000
set_option linter.unusedSimpArgs false

/-- A new row of bands. -/
def OutBD (L : List Rg) (n : Nat) (w : World) (e : Ending) (w' : World) : Prop := ∃ (A : Option Addr) (c : Nat), e = .returned (.slice A n c) ∧ w'.ownsRow w.heap.size 52 2 (.slice A n c) n (rcells L) ∧ Below w.heap.size w w'
theorem band_at (l : List Nat) (j : Nat) (h : 4 * j + 3 < l.length) : bandOf (chunk 4 l j) = (((numL ((l.drop (4 * j)).take 3) : Nat) : Int), ((l[4 * j + 3] : Nat) : Int)) := by
  unfold bandOf chunk
  have e1 : (((l.drop (4 * j)).take 4).take 3) = (l.drop (4 * j)).take 3 := by rw [List.take_take]; rfl
  have e2 : (((l.drop (4 * j)).take 4).drop 3).headD 0 = l[4 * j + 3] := by
    have : ((l.drop (4 * j)).take 4).drop 3 = [l[4 * j + 3]] := by
      rw [List.drop_take, List.drop_drop]
      show List.take 1 (List.drop (4 * j + 3) l) = _
      rw [List.drop_eq_getElem_cons h]
      rfl
    rw [this]; rfl
  rw [e1, e2]
theorem reads_band (w : World) (x y : Int) : Reads (w.alloc (.cells #[.int .i64 x, .int .i64 y] 52)) (w.heap.size + 1) 2 (some ⟨w.heap.size, 0, none⟩) 1 (rcells [(x, y)]) := ⟨rfl, fun _ => ⟨_, _, rfl, by omega, fun i u hu => by
  match i, hu with
  | 0, hu => injection hu with hu; subst hu; simp
  | 1, hu => injection hu with hu; subst hu; simp⟩⟩
set_option maxRecDepth 4000 in
set_option maxHeartbeats 2000000 in
theorem bandsOf_any (l : List Nat) (n k : Nat) (A : Option Addr) (c : Nat) (w : World) (hR : RB w w.heap.size A n l) (hnk : n = 4 * k) (hc : n ≤ c) (hk : k ≤ 1000) :
    Calls Tryd.prog 57 #[.slice A n c] w (OutBD ((List.range k).map fun i => bandOf (chunk 4 l i)) k w) := by
  obtain ⟨i0, hi0, hz0, hz1, hz2⟩ := info_parts info52
  have HR := Lib.hid hR
  have HNK := Lib.hid hnk
  have hn : n ≤ 4000 := by omega
  clear hR hnk
  go_enter Tryd.func57, Tryd.ntmps57
  go_wp2_with fail
  go_loopw [3, 4] (fun vo vi wr => ∃ (j a : Nat) (A2 : Option Addr) (c2 : Nat), j ≤ k ∧ Hid (a = 4 * j) ∧ a ≤ n ∧ vi = .int .i64 a ∧ vo = .slice A2 j c2 ∧ Hid (wr.ownsRow w.heap.size 52 2 (.slice A2 j c2) j (rcells ((List.range j).map fun i => bandOf (chunk 4 l i)))) ∧ Below w.heap.size w wr) (fun _ i _ => n - (intOf i).toNat)
  case atStart => exact ⟨0, 0, none, 0, Nat.zero_le _, Lib.hid rfl, Nat.zero_le _, rfl, rfl, Lib.hid (World.ownsRow_nil _ _ _ _), Below.refl _ _⟩
  case round =>
    obtain ⟨j, a, A2, c2, hj, HA, ha, rfl, rfl, HO, hb⟩ := hrel
    have hsz := hb.size
    by_cases hlt : a < n
    · have ha4 : a + 4 ≤ n := by have := HA.out; have := HNK.out; omega
      have hjk : j < k := by have := HA.out; have := HNK.out; omega
      have HG := Lib.hid (get_3 l n a A c wr (HR.out.on hb) hc (by omega) (by omega))
      have kl : a + 3 < l.length := by rw [HR.out.1]; omega
      obtain ⟨b, o, rfl, hbb, p0, px⟩ := HR.out.at kl
      have HS : Hid (rcells ((List.range (j + 1)).map fun i => bandOf (chunk 4 l i)) = rcells ((List.range j).map fun i => bandOf (chunk 4 l i)) ++ rcells [(((numL ((l.drop a).take 3) : Nat) : Int), ((l[a + 3] : Nat) : Int))]) := Lib.hid (by
        have h4 := HA.out
        rw [List.range_succ, List.map_append, rcells_app]
        congr 1
        simp only [List.map_cons, List.map_nil]
        rw [band_at l j (by omega)]
        simp only [← h4])
      generalize l[a + 3] = x at *
      generalize numL ((l.drop a).take 3) = f at *
      go_wp2_with fail
      refine HG.out.mono ?_
      rintro e w5 ⟨rfl, g5⟩
      have p0 : w5.cell? ⟨b, o + (a + 3), none⟩ = some (.int .u8 (x : Int)) := kept_cell (hb.trans (g5.mono hsz)) p0
      have b5 := hb.trans (g5.mono hsz)
      have hs5 := b5.size
      have HO5 := Lib.hid (own_below HO.out g5)
      have HOa := Lib.hid (HO5.out.alloc (.cells #[.int .i64 (f : Int), .int .i64 (x : Int)] 52))
      have hba := b5.alloc hs5 (.cells #[.int .i64 (f : Int), .int .i64 (x : Int)] 52)
      have HRd := Lib.hid (reads_band w5 f x)
      have HOne := Lib.hid (rcells_one [((f : Int), (x : Int))])
      have hai : (a : Int) + 3 < (n : Int) := by omega
      clear HO HO5 g5 HG hb
      simp only [Option.getD_some, Option.isSome_some]
      go_wp2_with (at_builtin; refine wpList_append_src rfl _ _ 22 rfl w.heap.size 52 i0 _ 2 16 Tryd.underlying22 hi0 hz0 hz1 hz2 rfl (by decide) _ _ _ rfl HOa.out (some ⟨w5.heap.size, 0, none⟩) 1 1 (w5.heap.size + 1) (rcells [((f : Int), (x : Int))]) rfl (fun h => by cases h) HRd.out HOne.out ?n3 ?n4 ?n5 ?_)
      case n3 => unfold maxLen; omega
      case n4 => omega
      case n5 => simp; omega
      intro A8 c8 w8 hown8 hn8 hgrow8
      have b8 : Below w.heap.size w w8 := below_grown hba (by simp; omega) HOa.out hgrow8
      have HO8 : Hid (w8.ownsRow w.heap.size 52 2 (.slice A8 (j + 1) c8) (j + 1) (rcells ((List.range (j + 1)).map fun i => bandOf (chunk 4 l i)))) := Lib.hid (by
        rw [HS.out]; exact hown8)
      clear hown8 hgrow8 HOa hba HRd HOne p0 b5
      go_wp2_with fail
      go_roundw
      case rel => exact ⟨j + 1, a + 4, A8, c8, by omega, Lib.hid (by have := HA.out; omega), by omega, by go_num, rfl, HO8, b8⟩
      case measure => simp [intOf]; omega
    · obtain rfl : j = k := by have := HA.out; have := HNK.out; omega
      go_wp2_with fail
      go_ret
      exact ⟨A2, c2, rfl, HO.out, hb⟩
end Go.Proofs.YtbnconieedgcmaaDoor
