/- What segment.Cut returns. -/
import Derived.Test.YtbnconieedgcmaaDoorGCutK
import Derived.BigRegion
namespace Go.Proofs.YtbnconieedgcmaaDoor
open Go.RowKit Go.BigFrame
open U (Tr tcells tcell tris Tab strOf)
set_option linter.unusedVariables false
set_option maxRecDepth 4000
set_option linter.unusedSimpArgs false

/-! The program's Cut. -/
theorem B3.grown {w w' : World} {g : Nat} {row : Option Nat} {p : Tr} (h : B3 w g p) (hg : w.grownBy w' row) (hne : some g ≠ row) : B3 w' g p := by
  have hl : g < w.heap.size := World.block_lt_of_cell? _ _ h.c0
  exact ⟨(hg.cell_far ⟨g, 0, none⟩ hl hne).trans h.c0, (hg.cell_far ⟨g, 1, none⟩ hl hne).trans h.c1, (hg.cell_far ⟨g, 2, none⟩ hl hne).trans h.c2, fun k => (hg.frozen_far ⟨g, k, none⟩ hl hne).trans (h.f k)⟩
theorem cut_boxes (W : World) (x y z x' y' z' : Int) (t t' : TypeId) : B3 ((W.alloc (.cells #[.int .i64 x, .int .i64 y, .int .i64 z] t)).alloc (.cells #[.int .i64 x', .int .i64 y', .int .i64 z'] t')).drew W.heap.size ⟨x, y, z⟩ ∧ B3 ((W.alloc (.cells #[.int .i64 x, .int .i64 y, .int .i64 z] t)).alloc (.cells #[.int .i64 x', .int .i64 y', .int .i64 z'] t')).drew (W.heap.size + 1) ⟨x', y', z'⟩ ∧ Below W.heap.size W ((W.alloc (.cells #[.int .i64 x, .int .i64 y, .int .i64 z] t)).alloc (.cells #[.int .i64 x', .int .i64 y', .int .i64 z'] t')).drew ∧ ((W.alloc (.cells #[.int .i64 x, .int .i64 y, .int .i64 z] t)).alloc (.cells #[.int .i64 x', .int .i64 y', .int .i64 z'] t')).drew.heap.size = W.heap.size + 2 := by
  have h1 := b3_on (b3_new W x y z t) (.cells #[.int .i64 x', .int .i64 y', .int .i64 z'] t')
  have h2 := b3_new (W.alloc (.cells #[.int .i64 x, .int .i64 y, .int .i64 z] t)) x' y' z' t'
  rw [show (W.alloc (.cells #[.int .i64 x, .int .i64 y, .int .i64 z] t)).heap.size = W.heap.size + 1 by simp] at h2
  have hd : ∀ V : World, Below V.heap.size V V.drew := fun V => Below.drew (Below.refl _ _)
  exact ⟨h1.below (World.block_lt_of_cell? _ _ h1.c0) (hd _), h2.below (World.block_lt_of_cell? _ _ h2.c0) (hd _), Below.drew (((Below.refl _ _).alloc (Nat.le_refl _) _).alloc (by simp) _), by show ((W.alloc _).alloc _).heap.size = _; simp⟩
set_option maxHeartbeats 16000000 in
theorem cut_any (T : TV) (s : ByteArray) (w : World) (hT : T.ok w) (hs : s.size ≤ 90000) (hTab : Tab w) :
    Calls Tryd.prog 34 #[T.v, .string s] w (OutSs (cutS T.tb s.data.toList) w) := by
  obtain ⟨i0, hi0, hz0, hz1, hz2⟩ := info_parts infoSt
  obtain ⟨j0, hj0, hy0, hy1, hy2⟩ := info_parts infoP
  obtain ⟨L, hL⟩ : ∃ L, s.data.toList = L := ⟨_, rfl⟩
  have HStr := Lib.hid (fun a b (h : a ≤ b) => cut_str s L hL a b h)
  have hsz := strOf_sz s L hL
  have hnp := nP_le L
  obtain ⟨M, hM⟩ : ∃ M, nP L = M := ⟨_, rfl⟩
  have HEn : Hid (∀ V, Below w.heap.size w V → Calls Tryd.prog 85 #[.string s] V fun e w' => ∃ A c, e = .returned (.slice A (M + 1) c) ∧ RP w' w'.heap.size A (M + 1) (endE L) ∧ M + 1 ≤ c ∧ Below V.heap.size V w') := Lib.hid (fun V g => (ended_any s V (by omega) (hTab.below g)).mono fun e w' ⟨A, c, he, ho, hb⟩ => by
    rw [hL, hM] at ho he
    exact ⟨A, c, he, own_RP ho, (own_shp ho).2.1, hb⟩)
  have HBk : Hid (∀ V A c, Below w.heap.size w V → RP V V.heap.size A (M + 1) (endE L) → M + 1 ≤ c → Calls Tryd.prog 84 #[T.v, .slice A (M + 1) c] V (OutTp (brE T.tb L) V)) := Lib.hid (fun V A c g h1 h2 => broken_any T L M (M + 1) hM rfl A c V (hT.on g) h1 h2 (by omega))
  have HCl9 := Lib.hid (fun (x : ByteArray) V (h : x.size ≤ 281474976710656) => clone_any x V h)
  rw [hL]
  have b0 := below_new w (.cells #[.int .i64 T.cl, .slice T.a1 T.n1 T.c1, .slice T.a2 T.n2 T.c2, .slice T.a3 T.n3 T.c3] 26)
  have HX := Lib.hid (box_new w T)
  have HLe : Hid ((endE L).length = M + 1) := Lib.hid (by rw [endE_len, hM])
  have HT0 : Hid (∀ (i : Nat) (h : i < (endE L).length), (endE L)[i] = trAt L i) := Lib.hid (fun i h => (trAt_is L h).symm)
  have HTa : Hid (∀ i, i ≤ M → (trAt L i).a = (atL L i : Int)) := Lib.hid (fun i h => trAt_a L (by omega))
  have HTe : Hid (∀ i q, i ≤ M → q ≤ M → (trAt L q = trAt L i ↔ atL L q = atL L i)) := Lib.hid (fun i q h1 h2 => trAt_eq L (by omega) (by omega))
  have HTm : Hid (∀ i q, i ≤ q → q ≤ M → atL L i ≤ atL L q) := Lib.hid (fun i q h1 h2 => atL_mono L h1 (by omega))
  have HTl : Hid (∀ i, i ≤ M → atL L i ≤ s.size) := Lib.hid (fun i h => by have := atL_le L (i := i) (by omega); omega)
  have HZl : (brT T.tb L).length ≤ M + 1 := by rw [brT_len, ← hM]; exact brN_len _ _
  have HRq : Hid (brT T.tb L ++ [trAt L M] = (cutQ T.tb L).map (trAt L)) := Lib.hid (by unfold brT cutQ; rw [List.map_append, hM]; rfl)
  have HQl : Hid ((cutQ T.tb L).length = (brT T.tb L).length + 1) := Lib.hid (by unfold cutQ; rw [List.length_append, brT_len]; rfl)
  have HQm : Hid (∀ q ∈ cutQ T.tb L, q ≤ M) := Lib.hid (fun q h => by have := cutQ_le h; omega)
  have HQs : Hid (∀ j k (hj : j < (cutQ T.tb L).length) (hk : k < (cutQ T.tb L).length), j < k → (cutQ T.tb L)[j] ≤ (cutQ T.tb L)[k]) := Lib.hid (fun j k hj hk h => cutQ_next _ _ hj hk h)
  have HCu : Hid (cutA T.tb L = cutsF L 0 ((cutQ T.tb L).map (atL L))) := Lib.hid (by unfold cutA; rw [cutQ_at])
  have HA0 : Hid (atL L 0 = 0) := Lib.hid (atL_zero L)
  have hMb : M ≤ 90000 := by omega
  have hsb : s.size ≤ maxLen := by unfold maxLen; omega
  clear hT hTab hM hL hsz hnp
  simp only [TV.v] at *
  generalize T.tb = tb at *
  obtain ⟨_, p0, p1, p2, p3⟩ := HX.out
  go_enter Tryd.func34, Tryd.ntmps34
  go_wp2_with fail
  generalize w.alloc (.cells #[.int .i64 T.cl, .slice T.a1 T.n1 T.c1, .slice T.a2 T.n2 T.c2, .slice T.a3 T.n3 T.c3] 26) = w0 at *
  refine (HEn.out _ b0).mono ?_
  rintro e w1 ⟨A, c, rfl, hr1, hc1, g⟩
  replace b0 := b0.trans (g.mono b0.size)
  replace HX := Lib.hid (HX.out.on g)
  clear g p0 p1 p2 p3 HEn
  obtain ⟨_, p0, p1, p2, p3⟩ := HX.out
  go_wp2_with fail
  refine (HBk.out _ _ _ b0 hr1 hc1).mono ?_
  rintro e w4 ⟨A4, c4, rfl, hown4, g⟩
  have hw14 := g.size
  have hw1 := b0.size
  replace b0 := b0.trans (g.mono b0.size)
  replace hr1 := hr1.on g
  clear g p0 p1 p2 p3 HBk HX
  by_cases he : errV tb = 0
  case neg =>
    have HE : Hid (cutS tb L = none) := Lib.hid (by unfold cutS; rw [if_neg he])
    have hE2 : brE tb L = none := by unfold brE; rw [if_neg he]
    simp only [hE2, Option.isSome_none, Option.getD_none, List.length_nil] at hown4 ⊢
    clear he hE2 hown4 hr1
    go_wp2_with fail
    go_ret2
    exact OutSs.no HE.out b0
  case pos =>
    have HE : Hid (cutS tb L = some (cutA tb L)) := Lib.hid (by unfold cutS; rw [if_pos he])
    have hE2 : brE tb L = some (brT tb L) := by unfold brE; rw [if_pos he]
    simp only [hE2, Option.isSome_some, Option.getD_some] at hown4 ⊢
    clear he hE2
    obtain ⟨Z, hZ⟩ : ∃ Z, (brT tb L).length = Z := ⟨_, rfl⟩
    rw [hZ] at hown4 HZl HQl ⊢
    clear hZ
    obtain ⟨b, o, hA, _, q0, q1, q2⟩ := hr1.at (k := 0) (by rw [HLe.out]; omega)
    obtain ⟨b', o', hA', _, r0, r1, r2⟩ := hr1.at (k := M) (by rw [HLe.out]; omega)
    subst hA
    injection hA' with hA'
    injection hA' with h1 h2
    subst h1 h2
    rw [HT0.out] at q0 q1 q2 r0 r1 r2
    rw [HTa.out 0 (Nat.zero_le _), HA0.out] at q1
    rw [HTa.out M (Nat.le_refl _)] at r1
    have HT00 : Hid (trAt L 0 = ⟨(trAt L 0).v, ((0 : Nat) : Int), (trAt L 0).n⟩) := Lib.hid (by
      have h := HTa.out 0 (Nat.zero_le _)
      rw [HA0.out] at h
      rw [← h])
    have HT0M : Hid (trAt L M = ⟨(trAt L M).v, ((atL L M : Nat) : Int), (trAt L M).n⟩) := Lib.hid (by rw [← HTa.out M (Nat.le_refl _)])
    generalize (trAt L 0).v = xv at *
    generalize (trAt L 0).n = xn at *
    generalize (trAt L M).v = ev at *
    generalize (trAt L M).n = en at *
    generalize atL L M = ea at *
    simp only [Nat.zero_mul, Nat.add_zero] at q0 q1 q2
    have e1 : ((M : Int) + 1) - 1 = (M : Int) := by omega
    have e2 : IntKind.i64.wrap ((M : Int) + 1 - 1) = (M : Int) := by rw [IntKind.wrap_i64]; omega
    have e3 : IntKind.i64.wrap (M : Int) = (M : Int) := by rw [IntKind.wrap_i64]; omega
    have hMI : (M : Int) < ((M + 1 : Nat) : Int) := by omega
    have HB4 := Lib.hid b0
    have hw4 := b0.size
    have HO4 := Lib.hid hown4
    clear b0 hown4 hr1
    go_upto_region 6 with (fail)
    go_cut [10, 11] from 24 to 32 (fun v10 v11 wx => ∃ g10 g11, v10 = .pointer (some ⟨g10, 0, none⟩) ∧ v11 = .pointer (some ⟨g11, 0, none⟩) ∧ B3 wx g10 ⟨xv, ((0 : Nat) : Int), xn⟩ ∧ B3 wx g11 ⟨ev, (ea : Int), en⟩ ∧ w4.heap.size ≤ g10 ∧ g10 < wx.heap.size ∧ Below w4.heap.size w4 wx)
    case first =>
      go_region
      all_goals
        go_wp2_with fail
        go_meet
      · obtain ⟨k1, k2, k3, k4⟩ := cut_boxes w4 xv 0 xn ev ea en 65 65
        exact ⟨_, _, rfl, rfl, k1, k2, Nat.le_refl _, by rw [k4]; omega, k3⟩
      · obtain ⟨k1, k2, k3, k4⟩ := cut_boxes w4 ev ea en xv 0 xn 65 65
        exact ⟨_, _, rfl, rfl, k2, k1, Nat.le_succ _, by rw [k4]; omega, k3⟩
    obtain ⟨g10, g11, rfl, rfl, h10, h11, hg10, hl10, hb4⟩ := hcut
    clear q0 q1 q2 r0 r1 r2
    have HOc := Lib.hid ((own_below HO4.out hb4).alloc (.cells #[.int .i64 ev, .int .i64 ea, .int .i64 en] 65))
    have HBc := Lib.hid (HB4.out.trans (hb4.mono hw4))
    have hlo : ∀ k, (Value.slice A4 Z c4).ownBlock = some k → k < w4.heap.size := fun k h => (HO4.out.lt k h).2
    have Hlo := Lib.hid hlo
    obtain ⟨t0, t1, t2, tf⟩ := h11
    simp only [] at t0 t1 t2
    have H10 := Lib.hid h10
    have hwc := hb4.size
    clear hlo h10 hb4 tf
    go_wp2_with (at_builtin; refine wpList_append_lies _ rfl _ _ 62 rfl w1.heap.size 65 j0 _ 3 24 Tryd.underlying62 hj0 hy0 hy1 hy2 rfl (by decide) _ _ _ rfl HOc.out ⟨wc.heap.size, 0, none⟩ 1 1 [.int .i64 ev, .int .i64 ea, .int .i64 en] rfl rfl ?m1 ?m2 (by omega) ?m3 ?m4 ?m5 _ rfl ?_)
    case m2 => exact ⟨rfl, rfl, rfl⟩
    case m3 => unfold maxLen; omega
    case m4 => omega
    case m5 => first | omega | (simp; omega)
    intro gR capR w6 hown6 hgrow6 hat6 hlt6
    have hgR : g10 ≠ gR := by
      rcases hat6 with h | h
      · have := Hlo.out gR h; omega
      · first | omega | (simp at h; omega)
    have hrow : some g10 ≠ (Value.slice A4 Z c4).ownBlock := fun h => by have := Hlo.out g10 h.symm; omega
    have hg6 := hgrow6.size
    have HB6 : Hid (Below w.heap.size w w6) := Lib.hid (below_grown (HBc.out.alloc HBc.out.size _) (by have := HBc.out.size; simp; omega) (HOc.out.mono hw1) hgrow6)
    have H10 := Lib.hid ((b3_on H10.out _).grown hgrow6 hrow)
    have hl6 : g10 < w6.heap.size := by simp at hg6; omega
    have HRP : Hid (RP w6 w6.heap.size (some ⟨gR, 0, none⟩) (Z + 1) ((cutQ tb L).map (trAt L))) := Lib.hid (by
      rw [← HRq.out]
      have e : tcells (brT tb L ++ [trAt L M]) = tcells (brT tb L) ++ [.int .i64 ev, .int .i64 ea, .int .i64 en] := by
        rw [tcells_snoc, HT0M.out]; rfl
      exact own_RP (by rw [e]; exact hown6))
    clear hown6 hgrow6 hat6 HOc HBc Hlo t0 t1 t2 hrow hlt6 hg6
    have hw6 := HB6.out.size
    go_wp2_with fail
    go_loopw [9, 38] (fun vs vi wr => ∃ (j m i fr : Nat) (xv xn : Int) (A7 : Option Addr) (c7 : Nat) (acc : List (List UInt8)), vi = .int .i64 j ∧ j ≤ Z + 1 ∧ m ≤ j ∧ i ≤ M ∧ vs = .slice A7 m c7 ∧ Hid (acc.length = m) ∧ Hid (trAt L i = ⟨xv, (fr : Int), xn⟩) ∧ Hid (atL L i = fr) ∧ Hid (∀ k (h : k < (cutQ tb L).length), j ≤ k → i ≤ (cutQ tb L)[k]) ∧ Hid (acc ++ cutsF L fr (((cutQ tb L).drop j).map (atL L)) = cutA tb L) ∧ Hid (wr.ownsRow w6.heap.size 9 1 (.slice A7 m c7) m (scells acc)) ∧ Hid (B3 wr g10 ⟨xv, (fr : Int), xn⟩) ∧ Hid (RP wr w6.heap.size (some ⟨gR, 0, none⟩) (Z + 1) ((cutQ tb L).map (trAt L))) ∧ Hid (Below w.heap.size w wr) ∧ w6.heap.size ≤ wr.heap.size) (fun _ vi _ => Z + 1 - (intOf vi).toNat)
    case atStart => exact ⟨0, 0, 0, 0, xv, xn, none, 0, [], rfl, Nat.zero_le _, Nat.le_refl _, Nat.zero_le _, rfl, Lib.hid rfl, HT00, HA0, Lib.hid (fun _ _ _ => Nat.zero_le _), Lib.hid (by rw [HCu.out]; rfl), Lib.hid (World.ownsRow_nil _ _ _ _), H10, HRP, HB6, Nat.le_refl _⟩
    case round =>
      clear H10 HRP HB6 HT00
      obtain ⟨j, m, i, fr, xv, xn, A7, c7, acc, rfl, hj, hmj, hi, rfl, HM, HTi, HAi, HSi, HQ, HO, HG, HR, HB, hws⟩ := hrel
      by_cases hlt : j < Z + 1
      · have jq : j < (cutQ tb L).length := by rw [HQl.out]; exact hlt
        have jr : j < ((cutQ tb L).map (trAt L)).length := by rw [List.length_map]; exact jq
        obtain ⟨b9, o9, hA9, _, q0, q1, q2⟩ := HR.out.at jr
        have hel : ((cutQ tb L).map (trAt L))[j] = trAt L (cutQ tb L)[j] := List.getElem_map _
        rw [hel] at q0 q1 q2
        have hqM := HQm.out _ (List.getElem_mem jq)
        have hiq := HSi.out j jq (Nat.le_refl _)
        have HSn : Hid (∀ k (h : k < (cutQ tb L).length), j + 1 ≤ k → (cutQ tb L)[j] ≤ (cutQ tb L)[k]) := Lib.hid (fun k h h2 => HQs.out j k jq h (by omega))
        have HD : Hid ((cutQ tb L).drop j = (cutQ tb L)[j] :: (cutQ tb L).drop (j + 1)) := Lib.hid (drop_one jq)
        clear hel jr
        generalize (cutQ tb L)[j] = qq at *
        rw [HTa.out qq hqM] at q1
        have hEq := HTe.out i qq hi hqM
        have hmo := HTm.out i qq hiq hqM
        have hto := HTl.out qq hqM
        rw [HAi.out] at hEq hmo
        rw [HTi.out] at hEq
        have HTq : Hid (trAt L qq = ⟨(trAt L qq).v, ((atL L qq : Nat) : Int), (trAt L qq).n⟩) := Lib.hid (by rw [← HTa.out qq hqM])
        have HQ' : Hid (acc ++ ((if fr < atL L qq then [(L.drop fr).take (atL L qq - fr)] else []) ++ cutsF L (atL L qq) (((cutQ tb L).drop (j + 1)).map (atL L))) = cutA tb L) := Lib.hid (by
          have h := HQ.out
          rw [HD.out, List.map_cons, cutsF] at h
          exact h)
        rw [HTq.out] at hEq
        injection hA9 with hA9
        injection hA9 with h1 h2
        subst h1 h2
        simp only [Nat.zero_add] at q0 q1 q2
        have HEqs := Lib.hid hEq
        clear HQ HD HSi hiq hEq jq
        obtain ⟨ta, hta⟩ : ∃ ta, atL L qq = ta := ⟨_, rfl⟩
        rw [hta] at q1 HTq HQ' HEqs hmo hto
        have HAq := Lib.hid hta
        generalize (trAt L qq).v = tv at *
        generalize (trAt L qq).n = tn at *
        clear hta
        obtain ⟨s0, s1, s2, sf⟩ := HG.out
        simp only [] at s0 s1 s2
        have gx0 := sf 0
        have gx1 := sf 1
        have gx2 := sf 2
        clear sf
        have hgl0 := World.block_lt_of_cell? _ _ s0
        have g65 := U.guard35
        have ga := below_new wr (.cells #[.int .i64 tv, .int .i64 ta, .int .i64 tn] 65)
        by_cases hsame : ta = fr
        · subst hsame
          have hne := fun W => U.neq35_same tv (ta : Int) tn W
          have hv : xv = tv ∧ xn = tn := by
            have h := HEqs.out.2 rfl
            injection h with h1 h2 h3
            exact ⟨h1.symm, h3.symm⟩
          obtain ⟨rfl, rfl⟩ := hv
          have HQn : Hid (acc ++ cutsF L ta (((cutQ tb L).drop (j + 1)).map (atL L)) = cutA tb L) := Lib.hid (by
            have h := HQ'.out
            rw [if_neg (Nat.lt_irrefl _), List.nil_append] at h
            exact h)
          have HGn := Lib.hid (b3_on (HG.out.set xv (ta : Int) xn) (.cells #[.int .i64 xv, .int .i64 ta, .int .i64 xn] 65))
          have HRn := Lib.hid ((rp3 (v0 := .int .i64 xv) (v1 := .int .i64 (ta : Int)) (v2 := .int .i64 xn) HR.out hgR).below ((Below.refl _ _).alloc (by simp; omega) (.cells #[.int .i64 xv, .int .i64 ta, .int .i64 xn] 65)))
          have HOn := Lib.hid ((own3 (v0 := .int .i64 xv) (v1 := .int .i64 (ta : Int)) (v2 := .int .i64 xn) hl6 HO.out).alloc (.cells #[.int .i64 xv, .int .i64 ta, .int .i64 xn] 65))
          have HBn := Lib.hid ((below3 (v0 := .int .i64 xv) (v1 := .int .i64 (ta : Int)) (v2 := .int .i64 xn) HB.out (Nat.le_trans hw4 hg10)).alloc (by have := HB.out.size; simp; omega) (.cells #[.int .i64 xv, .int .i64 ta, .int .i64 xn] 65))
          clear HEqs HQ' HG HR HO HB hmo HTi HAi
          go_wp2_with fail
          go_roundw
          case rel => exact ⟨j + 1, m, qq, ta, xv, xn, A7, c7, acc, by go_num, by omega, by omega, hqM, rfl, HM, HTq, HAq, HSn, HQn, HOn, HGn, HRn, HBn, by simp; omega⟩
          case measure => simp [intOf]; omega
        · have hlt2 : fr < ta := by omega
          have hne := fun W => U.neq35_diff tv (ta : Int) tn xv (fr : Int) xn (by omega) W
          have HQn : Hid (acc ++ [(L.drop fr).take (ta - fr)] ++ cutsF L ta (((cutQ tb L).drop (j + 1)).map (atL L)) = cutA tb L) := Lib.hid (by
            have h := HQ'.out
            rw [if_pos hlt2] at h
            rw [List.append_assoc]; exact h)
          have HS := HStr.out fr ta (by omega)
          have HCx := Lib.hid (fun V => HCl9.out (s.extract fr ta) V (by rw [HS]; unfold ByteArray.size; simp [U.strOf]; omega))
          rw [HS] at HCx
          have f1 : (fr : Int) ≤ (ta : Int) := by omega
          have f2 : (ta : Int) ≤ (s.size : Int) := by omega
          clear HEqs HQ' hmo HTi HAi hsame
          generalize (L.drop fr).take (ta - fr) = piece at *
          go_wp2_with fail
          refine (HCx.out _).mono ?_
          rintro e w7 ⟨rfl, g7⟩
          have gz := ga.trans (g7.mono ga.size)
          have HR7 := Lib.hid (HR.out.below (gz.mono hws))
          have HG7 := Lib.hid (HG.out.below hgl0 gz)
          have hAp : Hid (∀ k, (Value.slice A7 m c7).ownBlock = some k → k < wr.heap.size) := Lib.hid (fun k h => (HO.out.lt k h).2)
          have HO7 := Lib.hid (own_below HO.out gz)
          have HB7 := Lib.hid (HB.out.trans (gz.mono HB.out.size))
          have hws7 := Nat.le_trans hws gz.size
          have t0 : w7.cell? ⟨wr.heap.size, 0, none⟩ = some (.int .i64 tv) := kept_cell g7 (by simp)
          have t1 : w7.cell? ⟨wr.heap.size, 1, none⟩ = some (.int .i64 ta) := kept_cell g7 (by simp)
          have t2 : w7.cell? ⟨wr.heap.size, 2, none⟩ = some (.int .i64 tn) := kept_cell g7 (by simp)
          have hzr : wr.heap.size < w7.heap.size := World.block_lt_of_cell? _ _ t0
          clear HR HG HO HB gz g7 ga q0 q1 q2 s0 s1 s2 gx0 gx1 gx2 hne HCx HS
          generalize wr.heap.size = gt at *
          have HRd := Lib.hid (reads_st w7 piece 9)
          have HOne := Lib.hid (scells_one [piece])
          have HOa := Lib.hid (HO7.out.alloc (.cells #[.string (strOf piece)] 9))
          have gs := below_new w7 (.cells #[.string (strOf piece)] 9)
          have HRa := Lib.hid (HR7.out.below (gs.mono hws7))
          have HGa := Lib.hid (b3_on HG7.out (.cells #[.string (strOf piece)] 9))
          have HBa := Lib.hid (HB7.out.trans (gs.mono HB7.out.size))
          have t0a := kept_cell gs t0
          have t1a := kept_cell gs t1
          have t2a := kept_cell gs t2
          have hl7 : g10 < w7.heap.size := by omega
          have hwsa := Nat.le_trans hws7 gs.size
          clear HO7 HR7 HG7 HB7 gs t0 t1 t2
          go_wp2_with (at_builtin; refine wpList_append_src rfl _ _ 56 rfl w6.heap.size 9 i0 _ 1 16 Tryd.underlying56 hi0 hz0 hz1 hz2 rfl (by decide) _ _ _ rfl HOa.out (some ⟨w7.heap.size, 0, none⟩) 1 1 (w7.heap.size + 1) (scells [piece]) rfl (fun h => by cases h) HRd.out HOne.out ?n3 ?n4 ?n5 ?_)
          case n3 => unfold maxLen; omega
          case n4 => omega
          case n5 => first | omega | (simp; omega)
          intro A9 c9 wx hown9 hn9 hgrow9
          have hb9 := below_grown (Below.refl w6.heap.size (w7.alloc (.cells #[.string (strOf piece)] 9))) hwsa HOa.out hgrow9
          have hx9 := hb9.size
          have hgx : some g10 ≠ (Value.slice A7 m c7).ownBlock := fun h => by have := (HOa.out.lt g10 h.symm).1; omega
          have HGx := Lib.hid (HGa.out.grown hgrow9 hgx)
          have HRx := Lib.hid (HRa.out.below hb9)
          have HBx := Lib.hid (below_grown HBa.out HBa.out.size (HOa.out.mono hw6) hgrow9)
          have hgt9 : wx.cell? ⟨gt, 0, none⟩ = some (.int .i64 tv) ∧ wx.cell? ⟨gt, 1, none⟩ = some (.int .i64 ta) ∧ wx.cell? ⟨gt, 2, none⟩ = some (.int .i64 tn) := by
            have hk : some gt ≠ (Value.slice A7 m c7).ownBlock := fun h => by
              have := (hAp.out gt h.symm); omega
            exact ⟨hgrow9.cell t0a hk, hgrow9.cell t1a hk, hgrow9.cell t2a hk⟩
          obtain ⟨t0, t1, t2⟩ := hgt9
          obtain ⟨s0, s1, s2, sf⟩ := HGx.out
          simp only [] at s0 s1 s2
          have gx0 := sf 0
          have gx1 := sf 1
          have gx2 := sf 2
          have HM9 : Hid ((acc ++ [piece]).length = m + 1) := Lib.hid (by rw [List.length_append, HM.out]; rfl)
          have HGn := Lib.hid (HGx.out.set tv (ta : Int) tn)
          have HRn := Lib.hid (rp3 (v0 := .int .i64 tv) (v1 := .int .i64 (ta : Int)) (v2 := .int .i64 tn) HRx.out hgR)
          have HOn := Lib.hid (own3 (v0 := .int .i64 tv) (v1 := .int .i64 (ta : Int)) (v2 := .int .i64 tn) hl6 (show wx.ownsRow w6.heap.size 9 1 (.slice A9 (m + 1) c9) (m + 1) (scells (acc ++ [piece])) by rw [scells_snoc]; exact hown9))
          have HBn := Lib.hid (below3 (v0 := .int .i64 tv) (v1 := .int .i64 (ta : Int)) (v2 := .int .i64 tn) HBx.out (Nat.le_trans hw4 hg10))
          have hwx : w6.heap.size ≤ wx.heap.size := Nat.le_trans hwsa hx9
          clear HGa HRa HBa HOa HRd HOne hgrow9 hown9 hb9 sf HRx HGx HBx hgx t0a t1a t2a
          go_wp2_with fail
          go_roundw
          case rel => exact ⟨j + 1, m + 1, qq, ta, tv, tn, A9, c9, acc ++ [piece], by go_num, by omega, by omega, hqM, rfl, HM9, HTq, HAq, HSn, HQn, HOn, HGn, HRn, HBn, by simp; omega⟩
          case measure => simp [intOf]; omega
      · obtain rfl : j = Z + 1 := by omega
        have HF : Hid (acc = cutA tb L) := Lib.hid (by
          have h := HQ.out
          rw [List.drop_of_length_le (by rw [HQl.out]; exact Nat.le_refl _)] at h
          simpa [cutsF] using h)
        have HCm : Hid ((cutA tb L).length = m) := Lib.hid (by rw [← HF.out, HM.out])
        rw [HF.out] at HO
        have hjI : ¬ (((Z + 1 : Nat) : Int) < ((Z + 1 : Nat) : Int)) := by omega
        clear HQ HR HG HTi HAi HSi
        go_wp2_with fail
        go_ret2
        exact OutSs.of HE.out HCm.out HO.out hw6 HB.out
end Go.Proofs.YtbnconieedgcmaaDoor
