/- What Not returns: the set of all other scalars. -/
import Derived.Test.YtehikcddnjibcaaSame
import Derived.Test.YtehikcddnjibcaaNMath
namespace Go.Proofs.Ytehikcddnjibcaa
open Go.RowKit Go.BigFrame
set_option linter.unusedVariables false
set_option linter.unusedSimpArgs false

theorem not_bad (l : List Rg) (n : Nat) (hl : l.length = n) (A : Option Addr) (c : Nat) (w : World) (hR : Reads w w.heap.size 2 A n (rcells l)) (hn : n ≤ 10000) (hg : goodB l = false) :
    Calls Try.prog 13 #[.slice A n c] w (OutNo w) := by
  have HR := Lib.hid hR
  have H2 := Lib.hid (fun W hR => good_n n l hl A c W hR (by omega))
  rw [hg] at H2
  clear hR hl hg
  go_enter Try.func13, Try.ntmps13
  go_wp2_with fail
  refine (H2.out _ HR.out).mono ?_
  rintro e w1 ⟨rfl, b1⟩
  go_wp2_with fail
  go_ret2
  exact ⟨rfl, b1⟩

set_option maxHeartbeats 1000000 in
theorem not_good (l : List Rg) (n : Nat) (hl : l.length = n) (A : Option Addr) (c : Nat) (w : World) (hR : Reads w w.heap.size 2 A n (rcells l)) (hn : n ≤ 5000) (hg : Gd (-1) l) :
    Calls Try.prog 13 #[.slice A n c] w (OutSet (fun v => ¬ In l v) (n + 1) w) := by
  obtain ⟨i0, hi0, hz0, hz1, hz2⟩ := info_parts info41
  have HR := Lib.hid hR
  have HL := Lib.hid hl
  have HG := Lib.hid hg
  have H2 := Lib.hid (fun W hR => good_n n l hl A c W hR (by omega))
  rw [(goodB_iff l).2 hg] at H2
  clear hR hl hg
  go_enter Try.func13, Try.ntmps13
  go_wp2_with fail
  refine (H2.out _ HR.out).mono ?_
  rintro e w1 ⟨rfl, b1⟩
  have HR1 := Lib.hid ((HR.out.below b1).more b1.size)
  have hs1 := b1.size
  clear HR H2
  go_wp2_with fail
  go_loopw [4, 5, 6, 16] (fun s f mo i wr => ∃ (k : Nat) (F : Int) (A2 : Option Addr) (c2 : Nat) (acc : List Rg), k ≤ n ∧ i = .int .i64 k ∧ s = .slice A2 acc.length c2 ∧ f = .int .i64 (fromN F) ∧ mo = .bool (moreB F) ∧ Hid (NInv l k acc F) ∧ acc.length ≤ k ∧ wr.ownsRow w1.heap.size 41 2 (.slice A2 acc.length c2) acc.length (rcells acc) ∧ Below w1.heap.size w1 wr) (fun _ _ _ i _ => n - (intOf i).toNat)
  case atStart => exact ⟨0, 0, none, 0, [], Nat.zero_le _, rfl, rfl, rfl, rfl, Lib.hid (nInv_start l), Nat.le_refl _, World.ownsRow_nil _ _ _ _, Below.refl _ _⟩
  case round =>
    obtain ⟨k, F, A2, c2, acc, hk, rfl, rfl, rfl, rfl, HN, hak, hown, hb⟩ := hrel
    have hsz := hb.size
    by_cases hlt : k < n
    · have kl : k < l.length := by rw [HL.out]; exact hlt
      obtain ⟨b, o, rfl, hbb, p0, p1⟩ := (HR1.out.below hb).rg kl
      have hF := nInv_gd HG.out HN.out kl
      have hfr : fromN F = F := by unfold fromN; rw [if_pos hF.2.1]
      have HNf : Hid (prevB l[k].1 = false → NInv l (k + 1) acc (nx l[k].2)) := Lib.hid (fun h => nInv_none HG.out HN.out kl h)
      have HNt : Hid (prevB l[k].1 = true → NInv l (k + 1) (acc ++ [(F, prevN l[k].1)]) (nx l[k].2)) := Lib.hid (fun h => nInv_some HG.out HN.out kl h)
      have hnx := next_from hF.2.2.2.1.2.1
      have hcn := fun W => next_any l[k].2 W
      rw [hnx.1, hnx.2] at hcn
      have hcp := fun W => prev_any l[k].1 W
      rw [hfr]
      generalize l[k] = r at *
      obtain ⟨x0, x1⟩ := r
      simp only [] at p0 p1 hcn hcp HNf HNt
      generalize nx x1 = F' at *
      generalize prevN x0 = pv at *
      obtain ⟨m, hm⟩ : ∃ m, acc.length = m := ⟨_, rfl⟩
      have HM := Lib.hid hm
      rw [hm] at hown hak ⊢
      clear hm hF hnx hfr HN
      cases hp : prevB x0
      · rw [hp] at hcp
        have HX := Lib.hid (HNf.out hp)
        clear HNf HNt hp
        go_wp2_with fail
        refine (hcp _).mono ?_
        rintro e w2 ⟨rfl, rfl⟩
        go_wp2_with fail
        refine (hcn _).mono ?_
        rintro e w2 ⟨rfl, rfl⟩
        have b2 := hb.alloc hsz (.cells #[.int .i64 x0, .int .i64 x1] 41)
        have HO := Lib.hid (hown.alloc (.cells #[.int .i64 x0, .int .i64 x1] 41))
        clear hown
        go_wp2_with fail
        go_roundw
        case rel => exact ⟨k + 1, F', A2, c2, acc, by omega, by go_num, by rw [HM.out], rfl, rfl, HX, by rw [HM.out]; omega, by rw [HM.out]; exact HO.out, b2⟩
        case measure => simp [intOf]; omega
      · rw [hp] at hcp
        have HX := Lib.hid (HNt.out hp)
        clear HNf HNt hp
        go_wp2_with fail
        refine (hcp _).mono ?_
        rintro e w2 ⟨rfl, rfl⟩
        have b2 := hb.alloc hsz (.cells #[.int .i64 x0, .int .i64 x1] 41)
        have hown2 := hown.alloc (.cells #[.int .i64 x0, .int .i64 x1] 41)
        have c1 : (wr.alloc (.cells #[.int .i64 x0, .int .i64 x1] 41)).cell? ⟨wr.heap.size, 1, none⟩ = some (.int .i64 x1) := by simp
        have hs2 := b2.size
        have hob := hown.lt
        clear hown hb
        generalize wr.alloc (.cells #[.int .i64 x0, .int .i64 x1] 41) = w2 at *
        go_wp2_with (at_builtin; refine wpList_append_lies _ rfl _ _ 23 rfl w1.heap.size 41 i0 _ 2 16 Try.underlying23 hi0 hz0 hz1 hz2 rfl (by decide) _ _ _ rfl (hown2.alloc _) ⟨w2.heap.size, 0, none⟩ 1 1 [.int .i64 F, .int .i64 pv] rfl rfl ?c1 ?c2 (by omega) ?c3 ?c4 ?c5 _ rfl ?_)
        case c1 =>
          intro j u hj
          match j, hj with
          | 0, hj => simp at hj; subst hj; simp [Addr.add]
          | 1, hj => simp at hj; subst hj; simp [Addr.add]
        case c2 => intro u hu; simp at hu; rcases hu with rfl | rfl <;> rfl
        case c3 => unfold maxLen; omega
        case c4 => omega
        case c5 => simp; omega
        · intro g cap w3 hown3 hgrow hat hlt3
          have b3 : Below w1.heap.size w1 w3 := below_grown (b2.alloc (by omega) _) (by simp; omega) (hown2.alloc _) hgrow
          have c1' : w3.cell? ⟨wr.heap.size, 1, none⟩ = some (.int .i64 x1) := hgrow.cell (cell_alloc _ c1) (by
            intro he
            have := (hob _ he.symm).2
            simp at this)
          have HO3 : Hid (w3.ownsRow w1.heap.size 41 2 (.slice (some ⟨g, 0, none⟩) (acc ++ [(F, pv)]).length cap) (acc ++ [(F, pv)]).length (rcells (acc ++ [(F, pv)]))) := Lib.hid (by
            rw [show (acc ++ [(F, pv)]).length = m + 1 by simp [HM.out]]
            rw [rcells_snoc]
            exact hown3)
          have HV3 : Hid (Value.slice (some ⟨g, 0, none⟩) (m + 1) cap = .slice (some ⟨g, 0, none⟩) (acc ++ [(F, pv)]).length cap) := Lib.hid (by simp [HM.out])
          have HLe : Hid ((acc ++ [(F, pv)]).length ≤ k + 1) := Lib.hid (by simp [HM.out]; omega)
          clear hown3 hgrow hat hown2 hob c1
          go_wp2_with fail
          refine (hcn _).mono ?_
          rintro e w4 ⟨rfl, rfl⟩
          go_wp2_with fail
          go_roundw
          case rel => exact ⟨k + 1, F', some ⟨g, 0, none⟩, cap, acc ++ [(F, pv)], by omega, by go_num, HV3.out, rfl, rfl, HX, HLe.out, HO3.out, b3⟩
          case measure => simp [intOf]; omega
    · have hend := nInv_end HN.out (by rw [HL.out]; exact hlt)
      have HT := Lib.hid hend.1
      have HF := Lib.hid hend.2
      obtain ⟨m, hm⟩ : ∃ m, acc.length = m := ⟨_, rfl⟩
      have HM := Lib.hid hm
      have hfr : moreB F = true → fromN F = F := fun h => by unfold fromN; rw [if_pos (of_decide_eq_true h)]
      rw [hm] at hown hak ⊢
      clear hm hend HN
      cases hmo : moreB F
      · have HX := Lib.hid (HF.out hmo)
        have HR2 := Lib.hid (Reads.of_own hown)
        have HS2 := Lib.hid (own_shp hown)
        clear HT HF hmo hfr
        go_wp2_with fail
        go_ret2
        exact ⟨acc, A2, c2, by rw [HM.out]; rfl, by rw [HM.out]; exact HS2.out, HX.out, by rw [HM.out]; omega, by rw [HM.out]; exact HR2.out, b1.trans (hb.mono hs1)⟩
      · have HX := Lib.hid (HT.out hmo)
        rw [hfr hmo]
        clear HT HF hmo hfr
        go_wp2_with (at_builtin; refine wpList_append_lies _ rfl _ _ 23 rfl w1.heap.size 41 i0 _ 2 16 Try.underlying23 hi0 hz0 hz1 hz2 rfl (by decide) _ _ _ rfl (hown.alloc _) ⟨wr.heap.size, 0, none⟩ 1 1 [.int .i64 F, .int .i64 1114111] rfl rfl ?c1 ?c2 (by omega) ?c3 ?c4 ?c5 _ rfl ?_)
        case c1 =>
          intro j u hj
          match j, hj with
          | 0, hj => simp at hj; subst hj; simp [Addr.add]
          | 1, hj => simp at hj; subst hj; simp [Addr.add]
        case c2 => intro u hu; simp at hu; rcases hu with rfl | rfl <;> rfl
        case c3 => unfold maxLen; omega
        case c4 => omega
        case c5 => simp; omega
        · intro g cap w3 hown3 hgrow hat hlt3
          have b3 : Below w1.heap.size w1 w3 := below_grown (hb.alloc (by omega) _) (by simp; omega) (hown.alloc _) hgrow
          have hlen : (acc ++ [(F, 1114111)]).length = m + 1 := by simp [HM.out]
          have hO3 : w3.ownsRow w1.heap.size 41 2 (.slice (some ⟨g, 0, none⟩) (m + 1) cap) (m + 1) (rcells (acc ++ [(F, 1114111)])) := by
            rw [rcells_snoc]
            exact hown3
          have HR2 := Lib.hid (Reads.of_own hO3)
          have HS2 := Lib.hid (own_shp hO3)
          have HLn := Lib.hid hlen
          clear hown3 hgrow hat hO3 hlen hown
          go_wp2_with fail
          go_ret2
          exact ⟨acc ++ [(F, 1114111)], some ⟨g, 0, none⟩, cap, by rw [HLn.out]; rfl, by rw [HLn.out]; exact HS2.out, HX.out, by rw [HLn.out]; omega, by rw [HLn.out]; exact HR2.out, b1.trans (b3.mono hs1)⟩
end Go.Proofs.Ytehikcddnjibcaa
