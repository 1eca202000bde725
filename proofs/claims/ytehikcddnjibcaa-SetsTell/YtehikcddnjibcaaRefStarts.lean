/- What the document's starts and Starts return: all places where something may begin. -/
import Derived.Test.YtehikcddnjibcaaRefPut
import Derived.Test.YtehikcddnjibcaaRefGood
import Derived.Test.YtehikcddnjibcaaWake0
namespace Go.Proofs.Ytehikcddnjibcaa
open Go.RowKit Go.BigFrame
set_option linter.unusedVariables false
set_option linter.unusedSimpArgs false

theorem putL_pos (l : List Int) (v : Int) : 0 < (putL l v).length := by
  cases l with
  | nil => simp [putL]
  | cons x l => unfold putL; split <;> (try split) <;> simp
/-- Ahead of each round: the places of the first k. -/
def StRel (l : List Rg) (n : Nat) (w : World) (vo vi : Value) (wr : World) : Prop :=
  ∃ (k z : Nat) (A2 : Option Addr) (c2 : Nat) (acc : List Int), k ≤ n ∧ vi = .int .i64 k ∧ vo = .slice A2 z c2 ∧ Hid (acc.length = z) ∧ 0 < z ∧ Hid (Shp A2 z c2) ∧ Hid (acc = stL [0] (l.take k)) ∧ z ≤ 1 + 2 * k ∧ Hid (Reads wr wr.heap.size 1 A2 z (icells acc)) ∧ Below w.heap.size w wr

set_option maxHeartbeats 2000000 in
theorem starts_any (l : List Rg) (n : Nat) (hl : l.length = n) (A : Option Addr) (c : Nat) (w : World) (hR : Reads w w.heap.size 2 A n (rcells l)) (hn : n ≤ 4000) :
    Calls Try.prog 35 #[.slice A n c] w (OutI (stL [0] l) w) := by
  have HR := Lib.hid hR
  have HL := Lib.hid hl
  clear hR hl
  go_enter Try.func35, Try.ntmps35
  go_wp2_with fail
  go_loopw [3, 4] (fun vo vi wr => StRel l n w vo vi wr) (fun _ i _ => n - (intOf i).toNat)
  case atStart =>
    refine ⟨0, 1, some ⟨w.heap.size, 0, none⟩, 1, [0], Nat.zero_le _, rfl, rfl, Lib.hid rfl, by omega, Lib.hid (shp_lit _ 1 (by omega)), Lib.hid rfl, by omega, Lib.hid ?_, below_new _ _⟩
    refine ⟨rfl, fun _ => ⟨w.heap.size, 0, rfl, by simp, fun j u hj => ?_⟩⟩
    match j, hj with
    | 0, hj => simp [icells] at hj; subst hj; simp
  case round =>
    obtain ⟨k, z, A2, c2, acc, hk, rfl, rfl, HLz, hz0, HSh, HE, hz, HRd, hb⟩ := hrel
    have hsz := hb.size
    by_cases hlt : k < n
    · have kl : k < l.length := by rw [HL.out]; exact hlt
      obtain ⟨b, o, rfl, hbb, p0, p1⟩ := (HR.out.below hb).rg kl
      have HN : Hid (st1 acc l[k] = stL [0] (l.take (k + 1))) := Lib.hid (by rw [List.take_succ_eq_append_getElem kl, stL_snoc, ← HE.out])
      generalize l[k] = r at *
      obtain ⟨x0, x1⟩ := r
      simp only [] at p0 p1
      clear HE
      have hcn := fun W => refNext_n x1 W
      have hs1 : st1 acc (x0, x1) = if nextB x1 then putL (putL acc x0) (nextN x1) else putL acc x0 := rfl
      rw [hs1] at HN
      clear hs1
      go_wp2_with fail
      refine (put_any acc z HLz.out A2 c2 x0 _ HSh.out HRd.out hz0 (by omega)).mono ?_
      rintro e w1 ⟨A3, c3, z3, rfl, h3, s3, r3, g3⟩
      have hz30 : 0 < z3 := by rw [← h3]; exact putL_pos acc x0
      have hz3 : z3 ≤ z + 1 := by have := putL_len acc x0; have := HLz.out; omega
      have H3 := Lib.hid h3
      have S3 := Lib.hid s3
      have R3 := Lib.hid r3
      have b3 := hb.trans (g3.mono hsz)
      have q1 := kept_cell g3 p1
      have hs3 := b3.size
      clear h3 s3 r3 g3 HRd HSh p0 p1 hb
      generalize putL acc x0 = acc3 at *
      generalize nextN x1 = nn at *
      go_wp2_with fail
      refine (hcn _).mono ?_
      rintro e w2 ⟨rfl, g4, _⟩
      cases hnb : nextB x1
      · rw [hnb] at hcn HN
        rw [if_neg (by decide)] at HN
        have R5 := Lib.hid (reads_on (reads_on R3.out g4) (below_new w2 (.cells #[.int .i64 nn, .bool false] 58)))
        have b5 := (b3.trans (g4.mono hs3)).alloc (by have := (b3.trans (g4.mono hs3)).size; omega) (.cells #[.int .i64 nn, .bool false] 58)
        clear R3 g4 hcn hnb
        go_wp2_with fail
        go_roundw
        case rel => exact ⟨k + 1, z3, A3, c3, acc3, by omega, by go_num, rfl, H3, hz30, S3, HN, by omega, R5, b5⟩
        case measure => simp [intOf]; omega
      · rw [hnb] at hcn HN
        rw [if_pos rfl] at HN
        have R5 := Lib.hid (reads_on (reads_on R3.out g4) (below_new w2 (.cells #[.int .i64 nn, .bool true] 58)))
        have b5 := (b3.trans (g4.mono hs3)).alloc (by have := (b3.trans (g4.mono hs3)).size; omega) (.cells #[.int .i64 nn, .bool true] 58)
        clear R3 g4 hcn hnb
        go_wp2_with fail
        refine (put_any acc3 z3 H3.out A3 c3 nn _ S3.out R5.out hz30 (by omega)).mono ?_
        rintro e w6 ⟨A6, c6, z6, rfl, h6, s6, r6, g6⟩
        have hz60 : 0 < z6 := by rw [← h6]; exact putL_pos acc3 nn
        have hz6 : z6 ≤ z3 + 1 := by have := putL_len acc3 nn; have := H3.out; omega
        have H6 := Lib.hid h6
        have S6 := Lib.hid s6
        have R6 := Lib.hid r6
        have b6 := b5.trans (g6.mono b5.size)
        clear h6 s6 r6 g6 R5
        go_wp2_with fail
        go_roundw
        case rel => exact ⟨k + 1, z6, A6, c6, putL acc3 nn, by omega, by go_num, rfl, H6, hz60, S6, HN, by omega, R6, b6⟩
        case measure => simp [intOf]; omega
    · have HD : Hid (acc = stL [0] l) := Lib.hid (by
        have h := HE.out
        rwa [List.take_of_length_le (by rw [HL.out]; omega)] at h)
      clear HE
      go_wp2_with fail
      go_ret
      exact ⟨A2, c2, z, rfl, by rw [← HD.out]; exact HLz.out, HSh.out, by rw [← HD.out]; exact HRd.out, hb⟩
end Go.Proofs.Ytehikcddnjibcaa
