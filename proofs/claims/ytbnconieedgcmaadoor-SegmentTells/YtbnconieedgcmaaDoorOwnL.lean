/- A row of rows copied, each row in memory of its own. -/
import Derived.Test.YtbnconieedgcmaaDoorNextOf
namespace Go.Proofs.YtbnconieedgcmaaDoor
open Go.RowKit Go.BigFrame
set_option linter.unusedVariables false
set_option maxRecDepth 4000
set_option linter.unusedSimpArgs false

/-- No two rows share a block. -/
def Apt (H : List Hi) : Prop := H.Pairwise fun x y => ∀ g, x.v.ownBlock = some g → y.v.ownBlock ≠ some g
theorem Apt.nil : Apt [] := List.Pairwise.nil
theorem Apt.snoc {H : List Hi} {x : Hi} (h : Apt H) {B : Nat} (h1 : ∀ y ∈ H, ∀ g, y.v.ownBlock = some g → g < B) (h2 : ∀ g, x.v.ownBlock = some g → B ≤ g) : Apt (H ++ [x]) := by
  refine List.pairwise_append.2 ⟨h, List.pairwise_singleton _ _, fun y hy z hz g hg hg' => ?_⟩
  rw [List.mem_singleton] at hz
  subst hz
  have a := h1 y hy g hg
  have b := h2 g hg'
  omega
def OutRA (L : List (List Int)) (n : Nat) (w : World) (e : Ending) (w' : World) : Prop := ∃ (A : Option Addr) (c : Nat) (H : List Hi), e = .returned (.slice A n c) ∧ listsOf H = L ∧ OwnI w' w.heap.size A n c H ∧ Below w.heap.size w w' ∧ Apt H
set_option maxRecDepth 4000 in
set_option maxHeartbeats 2000000 in
theorem ownLists_any (H : List Hi) (n : Nat) (A : Option Addr) (cc : Nat) (w : World) (hR : RN w w.heap.size A n H) (hn : n ≤ 10000) (hm : ∀ h ∈ H, h.n ≤ 10000) :
    Calls Tryd.prog 43 #[.slice A n cc] w (OutRA (listsOf H) n w) := by
  obtain ⟨i0, hi0, hz0, hz1, hz2⟩ := info_parts info3
  obtain ⟨j0, hj0, hy0, hy1, hy2⟩ := info_parts info53
  have HR := Lib.hid hR
  have HMm := Lib.hid hm
  clear hR hm
  go_enter Tryd.func43, Tryd.ntmps43
  go_wp2_with fail
  go_loopw [3, 4] (fun vo vi wr => ∃ (j : Nat) (A2 : Option Addr) (c2 : Nat) (G : List Hi), j ≤ n ∧ vi = .int .i64 j ∧ vo = .slice A2 j c2 ∧ Hid (listsOf G = (listsOf H).take j) ∧ Hid (OwnI wr w.heap.size A2 j c2 G) ∧ Below w.heap.size w wr ∧ Hid (Apt G)) (fun _ i _ => n - (intOf i).toNat)
  case atStart => exact ⟨0, none, 0, [], Nat.zero_le _, rfl, rfl, Lib.hid rfl, Lib.hid (OwnI.nil _ _), Below.refl _ _, Lib.hid Apt.nil⟩
  case round =>
    obtain ⟨j, A2, c2, G, hj, rfl, rfl, HL, HO, hb, HAp⟩ := hrel
    have hsz := hb.size
    by_cases hlt : j < n
    · have kl : j < H.length := by rw [HR.out.1]; exact hlt
      obtain ⟨b, o, rfl, hbb, p0, rI, sI⟩ := (HR.out.on hb).at kl
      have hm2 : H[j].n ≤ 10000 := HMm.out _ (List.getElem_mem kl)
      have HTk : Hid ((listsOf H).take (j + 1) = (listsOf H).take j ++ [H[j].l]) := Lib.hid (by
        have kk : j < (listsOf H).length := by rw [listsOf_len]; exact kl
        rw [List.take_succ_eq_append_getElem kk]
        simp [listsOf])
      generalize H[j] = x at *
      obtain ⟨ha, hn2, hc, hl⟩ := x
      dsimp only at *
      have p1 : (wr.alloc (.cells #[] 3)).cell? ⟨b, o + j, none⟩ = some (.slice ha hn2 hc) := by rw [World.cell?_alloc_lt _ _ _ hbb]; exact p0
      have HRI := Lib.hid rI
      have HNil : Hid (ha = none → hc = 0) := Lib.hid sI.1
      have HOm := Lib.hid (World.ownsRow_made (e := 3) (size := 1) wr #[] 0 (Nat.le_refl _) (Nat.zero_le _) (by simp))
      have HRd := Lib.hid (rI.2.alloc (Nat.le_refl _) (.cells #[] 3))
      have HOne := Lib.hid (icells_one hl)
      have hjj : (j : Int) < (n : Int) := by omega
      clear rI sI
      go_wp2_with (at_builtin; refine wpList_append_src rfl _ _ 49 rfl wr.heap.size 3 i0 _ 1 8 Tryd.underlying49 hi0 hz0 hz1 hz2 rfl (by decide) _ _ _ rfl HOm.out ha hn2 hc wr.heap.size (icells hl) rfl HNil.out HRd.out HOne.out ?c3 ?c4 ?c5 ?_)
      case c3 => unfold maxLen; omega
      case c4 => omega
      case c5 => simp
      intro A3 d3 w3 hown hnil hgrow
      have g : Below wr.heap.size wr w3 := below_grown (below_new _ _) (by simp) HOm.out hgrow
      have HO3 : Hid (w3.ownsRow wr.heap.size 3 1 (.slice A3 hn2 d3) hn2 (icells hl)) := Lib.hid (by simpa using hown)
      try simp only [Nat.zero_add]
      clear hown hgrow hnil HOm HRd HOne HNil p0 p1
      have hb5 := hb.trans (g.mono hsz)
      have hs5 := hb5.size
      have HO5 := Lib.hid (HO.out.on g)
      have hownO := HO5.out.out
      have HXX : Hid ((⟨A3, hn2, d3, hl⟩ : Hi).l.length = (⟨A3, hn2, d3, hl⟩ : Hi).n ∧ w3.ownsRow w.heap.size 3 1 (⟨A3, hn2, d3, hl⟩ : Hi).v (⟨A3, hn2, d3, hl⟩ : Hi).n (icells (⟨A3, hn2, d3, hl⟩ : Hi).l)) := Lib.hid ⟨HRI.out.1, own_base HO3.out hsz⟩
      have HL5 : Hid (listsOf (G ++ [(⟨A3, hn2, d3, hl⟩ : Hi)]) = (listsOf H).take (j + 1)) := Lib.hid (by
        have e : listsOf (G ++ [(⟨A3, hn2, d3, hl⟩ : Hi)]) = listsOf G ++ [hl] := by simp [listsOf]
        rw [e, HL.out, HTk.out])
      have HAp5 : Hid (Apt (G ++ [(⟨A3, hn2, d3, hl⟩ : Hi)])) := Lib.hid (HAp.out.snoc (B := wr.heap.size) (fun y hy g hg => ((HO.out.inn y hy).2.lt g hg).2) (fun g hg => (HO3.out.lt g hg).1))
      clear HL HO HTk HO3 HRI g
      go_wp2_with (at_builtin; refine wpList_append_lies _ rfl _ _ 23 rfl w.heap.size 49 j0 _ 1 24 Tryd.underlying23 hj0 hy0 hy1 hy2 rfl (by decide) _ _ _ rfl (hownO.alloc _) ⟨w3.heap.size, 0, none⟩ 1 1 [.slice A3 hn2 d3] rfl rfl ?k1 ?k2 (by omega) ?k3 ?k4 ?k5 _ rfl ?_)
      try (case k1 => exact lit1 (by simp))
      case k2 => first | rfl | (intro u hu; simp at hu; subst hu; rfl)
      case k3 => unfold maxLen; omega
      case k4 => omega
      case k5 => first | omega | (simp; omega)
      intro g5 cap5 w5 hown5 hgrow5 hat5 hlt5
      have HO9 : Hid (OwnI w5 w.heap.size (some ⟨g5, 0, none⟩) (j + 1) cap5 (G ++ [(⟨A3, hn2, d3, hl⟩ : Hi)])) := Lib.hid ((HO5.out.on (below_new w3 (.cells #[.slice A3 hn2 d3] 49))).snoc ⟨HXX.out.1, HXX.out.2.alloc _⟩ hown5 hgrow5)
      have b9 : Below w.heap.size w w5 := below_grown (hb5.alloc hs5 _) (by simp; omega) (hownO.alloc _) hgrow5
      clear hown5 hgrow5 hat5 hownO HXX HO5
      go_wp2_with fail
      go_roundw
      case rel => exact ⟨j + 1, some ⟨g5, 0, none⟩, cap5, _, by omega, by go_num, rfl, HL5, HO9, b9, HAp5⟩
      case measure => simp [intOf]; omega
    · obtain rfl : j = n := by omega
      have HE : Hid (listsOf G = listsOf H) := Lib.hid (by
        rw [HL.out, List.take_of_length_le]
        rw [listsOf_len, HR.out.1]
        exact Nat.le_refl _)
      go_wp2_with fail
      go_ret
      exact ⟨A2, c2, G, rfl, HE.out, HO.out, hb, HAp.out⟩
end Go.Proofs.YtbnconieedgcmaaDoor
