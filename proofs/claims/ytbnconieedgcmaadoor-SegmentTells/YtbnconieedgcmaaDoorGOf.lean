/- At which bytes a text is broken: what segment.Of and the document's Of return. -/
import Derived.Test.YtbnconieedgcmaaDoorGRow
namespace Go.Proofs.YtbnconieedgcmaaDoor
open Go.RowKit Go.BigFrame
open U (Tr tcells tcell tris Tab)
set_option linter.unusedVariables false
set_option maxRecDepth 4000
set_option linter.unusedSimpArgs false

theorem OutPl.of {r : Option (List Int)} {z : Nat} {w w' : World} {A : Option Addr} {c base : Nat} {l : List Int} (h : r = some l) (hz : l.length = z) (ho : w'.ownsRow base 3 1 (.slice A z c) z (icells l)) (hb : w.heap.size ≤ base) (b : Below w.heap.size w w') : OutPl r w (.returned (.tuple #[.slice A z c, .bool true])) w' := by
  subst h hz
  exact ⟨A, c, rfl, ho.mono hb, b⟩
theorem natI_len (l : List Nat) : (natI l).length = l.length := by simp [natI]
set_option maxHeartbeats 8000000 in
theorem of_any (T : TV) (s : ByteArray) (w : World) (hT : T.ok w) (hs : s.size ≤ 90000) (hTab : Tab w) :
    Calls Tryd.prog 32 #[T.v, .string s] w (OutPl (ofS T.tb s.data.toList) w) := by
  obtain ⟨i0, hi0, hz0, hz1, hz2⟩ := info_parts info3
  obtain ⟨L, hL⟩ : ∃ L, s.data.toList = L := ⟨_, rfl⟩
  have hsz : nP L ≤ 90000 := by have := nP_le L; have h2 : s.data.toList.length = s.size := Array.length_toList; rw [hL] at h2; omega
  obtain ⟨M, hM⟩ : ∃ M, nP L = M := ⟨_, rfl⟩
  have HEn : Hid (∀ V, Below w.heap.size w V → Calls Tryd.prog 85 #[.string s] V fun e w' => ∃ A c, e = .returned (.slice A (M + 1) c) ∧ RP w' w'.heap.size A (M + 1) (endE L) ∧ M + 1 ≤ c ∧ Below V.heap.size V w') := Lib.hid (fun V g => (ended_any s V (by omega) (hTab.below g)).mono fun e w' ⟨A, c, he, ho, hb⟩ => by
    rw [hL, hM] at ho he
    exact ⟨A, c, he, own_RP ho, (own_shp ho).2.1, hb⟩)
  have HBk : Hid (∀ V A c, Below w.heap.size w V → RP V V.heap.size A (M + 1) (endE L) → M + 1 ≤ c → Calls Tryd.prog 84 #[T.v, .slice A (M + 1) c] V (OutTp (brE T.tb L) V)) := Lib.hid (fun V A c g h1 h2 => broken_any T L M (M + 1) hM rfl A c V (hT.on g) h1 h2 (by omega))
  rw [hL]
  have b0 := below_new w (.cells #[.int .i64 T.cl, .slice T.a1 T.n1 T.c1, .slice T.a2 T.n2 T.c2, .slice T.a3 T.n3 T.c3] 26)
  have HX := Lib.hid (box_new w T)
  have hZM : (brT T.tb L).length ≤ M + 1 := by rw [brT_len, ← hM]; exact brN_len _ _
  have hMb : M ≤ 90000 := by omega
  clear hT hTab hsz hM hL
  simp only [TV.v] at *
  generalize T.tb = tb at *
  obtain ⟨_, p0, p1, p2, p3⟩ := HX.out
  go_enter Tryd.func32, Tryd.ntmps32
  go_wp2_with fail
  generalize w.alloc (.cells #[.int .i64 T.cl, .slice T.a1 T.n1 T.c1, .slice T.a2 T.n2 T.c2, .slice T.a3 T.n3 T.c3] 26) = w1 at *
  have hw1 : w.heap.size ≤ w1.heap.size := b0.size
  have hS0 : w1.cell? ⟨w.heap.size, 0, none⟩ = some (.int .i64 T.cl) ∧ w1.cell? ⟨w.heap.size, 1, none⟩ = some (.slice T.a1 T.n1 T.c1) ∧ w1.cell? ⟨w.heap.size, 2, none⟩ = some (.slice T.a2 T.n2 T.c2) ∧ w1.cell? ⟨w.heap.size, 3, none⟩ = some (.slice T.a3 T.n3 T.c3) ∧ Below w.heap.size w w1 := ⟨p0, p1, p2, p3, b0⟩
  have hS1 := sOn (Below.drew (Below.refl w1.heap.size w1)) hS0
  clear p0 p1 p2 p3 b0 HX
  go_region_held3 (fun V => V.cell? ⟨w.heap.size, 0, none⟩ = some (.int .i64 T.cl) ∧ V.cell? ⟨w.heap.size, 1, none⟩ = some (.slice T.a1 T.n1 T.c1) ∧ V.cell? ⟨w.heap.size, 2, none⟩ = some (.slice T.a2 T.n2 T.c2) ∧ V.cell? ⟨w.heap.size, 3, none⟩ = some (.slice T.a3 T.n3 T.c3) ∧ Below w.heap.size w V) (with_reducible (first | assumption | exact hS0 | exact hS1)) (first | (go_at_call 85; (with_reducible refine Calls.mono (HEn.out _ ?_) ?_); (first | exact hS1.2.2.2.2 | exact hS0.2.2.2.2); rintro e v1 ⟨A1, c1, rfl, hr1, hc1, g1⟩; have hS2 := sOn g1 (by with_reducible (first | assumption | exact hS1 | exact hS0))) | (go_at_call 84; (with_reducible refine Calls.mono (HBk.out _ _ _ ?_ ?_ ?_) ?_); exact hS2.2.2.2.2; exact hr1; exact hc1; rintro e v2 ⟨A2, c2, rfl, hown2, g2⟩; have hS3 := sOn g2 hS2))
  have HB3 := Lib.hid hS3.2.2.2.2
  clear hS0 hS1 hS2 hS3 hr1 hc1 g1 g2 HEn HBk
  by_cases he : errV tb = 0
  case neg =>
    have HE : Hid (ofS tb L = none) := Lib.hid (by unfold ofS; rw [if_neg he])
    have hE2 : brE tb L = none := by unfold brE; rw [if_neg he]
    simp only [hE2, Option.isSome_none, Option.getD_none, List.length_nil] at hown2 ⊢
    clear he hE2 hown2
    go_wp2_with fail
    go_ret2
    exact OutPl.no HE.out HB3.out
  case pos =>
    have HE : Hid (ofS tb L = some (natI (ofA tb L))) := Lib.hid (by unfold ofS; rw [if_pos he])
    have hE2 : brE tb L = some (brT tb L) := by unfold brE; rw [if_pos he]
    simp only [hE2, Option.isSome_some, Option.getD_some] at hown2 ⊢
    have HRP := Lib.hid (own_RP hown2)
    have HAl : Hid ((natI (ofA tb L)).length = (brT tb L).length) := Lib.hid (by rw [← brT_a]; simp)
    have HTa : Hid (∀ j (h : j < (brT tb L).length), (natI (ofA tb L)).take (j + 1) = (natI (ofA tb L)).take j ++ [(brT tb L)[j].a]) := Lib.hid (fun j h => by
      have h3 : j < ((brT tb L).map (·.a)).length := by simpa using h
      have e1 : ((brT tb L).map (·.a))[j] = (brT tb L)[j].a := List.getElem_map _
      rw [← brT_a, take_one h3, e1])
    have hw3 := HB3.out.size
    clear he hE2 hown2
    rename World => w3
    obtain ⟨Z, hZ⟩ : ∃ Z, (brT tb L).length = Z := ⟨_, rfl⟩
    rw [hZ] at HRP HAl hZM ⊢
    have HZ := Lib.hid hZ
    clear hZ
    have hZb : Z ≤ 100000 := by omega
    go_wp2_with fail
    go_loopw [8, 22] (fun vs vi wx => ∃ (j c7 : Nat) (A7 : Option Addr), vi = .int .i64 j ∧ j ≤ Z ∧ vs = .slice A7 j c7 ∧ Hid (wx.ownsRow w3.heap.size 3 1 (.slice A7 j c7) j (icells ((natI (ofA tb L)).take j))) ∧ Hid (Below w3.heap.size w3 wx)) (fun _ vi _ => Z - (intOf vi).toNat)
    case atStart => exact ⟨0, 0, none, rfl, Nat.zero_le _, rfl, Lib.hid (World.ownsRow_nil _ _ _ _), Lib.hid (Below.refl _ _)⟩
    case round =>
      rename World => wx
      obtain ⟨k, c6, A6, rfl, hk, rfl, HO, HB⟩ := hrel
      by_cases hlt : k < Z
      · have kl : k < (brT tb L).length := by rw [HZ.out]; exact hlt
        obtain ⟨bb, oo, hA, _, q0, q1, q2⟩ := (HRP.out.on HB.out).at kl
        subst hA
        have HTk := Lib.hid (HTa.out k kl)
        generalize (brT tb L)[k] = P at *
        obtain ⟨x, y, z⟩ := P
        simp only [] at q0 q1 q2 HTk
        have hws := HB.out.size
        have HRd : Hid (Reads ((wx.alloc (.cells #[.int .i64 x, .int .i64 y, .int .i64 z] 65)).alloc (.cells #[.int .i64 y] 3)) (wx.heap.size + 1 + 1) 1 (some ⟨wx.heap.size + 1, 0, none⟩) 1 (icells [y])) := Lib.hid (by
          have h := reads_int (wx.alloc (.cells #[.int .i64 x, .int .i64 y, .int .i64 z] 65)) y
          simpa using h)
        have HOne := Lib.hid (icells_one [y])
        have HOa := Lib.hid ((HO.out.alloc (.cells #[.int .i64 x, .int .i64 y, .int .i64 z] 65)).alloc (.cells #[.int .i64 y] 3))
        have HBa := Lib.hid ((HB.out.alloc hws (.cells #[.int .i64 x, .int .i64 y, .int .i64 z] 65)).alloc (by simp; omega) (.cells #[.int .i64 y] 3))
        clear HO HB
        go_wp2_with (at_builtin; refine wpList_append_src rfl _ _ 49 rfl w3.heap.size 3 i0 _ 1 8 Tryd.underlying49 hi0 hz0 hz1 hz2 rfl (by decide) _ _ _ rfl HOa.out (some ⟨wx.heap.size + 1, 0, none⟩) 1 1 (wx.heap.size + 1 + 1) (icells [y]) rfl (fun h => by cases h) HRd.out HOne.out ?n3 ?n4 ?n5 ?_)
        case n3 => unfold maxLen; omega
        case n4 => omega
        case n5 => first | omega | (simp; omega)
        intro A9 c9 w9 hown9 hn9 hgrow9
        have HB9 : Hid (Below w3.heap.size w3 w9) := Lib.hid (below_grown HBa.out HBa.out.size HOa.out hgrow9)
        have HO9 : Hid (w9.ownsRow w3.heap.size 3 1 (.slice A9 (k + 1) c9) (k + 1) (icells ((natI (ofA tb L)).take (k + 1)))) := Lib.hid (by rw [HTk.out, icells_snoc']; exact hown9)
        clear hown9 hgrow9 HOa HRd HOne HBa HTk q0 q1 q2
        go_wp2_with fail
        go_roundw
        case rel => exact ⟨k + 1, c9, A9, by go_num, by omega, rfl, HO9, HB9⟩
        case measure => simp [intOf]; omega
      · obtain rfl : k = Z := by omega
        have HTe : Hid ((natI (ofA tb L)).take k = natI (ofA tb L)) := Lib.hid (List.take_of_length_le (by rw [HAl.out]; exact Nat.le_refl _))
        rw [HTe.out] at HO
        have HBf := Lib.hid (HB3.out.trans (HB.out.mono hw3))
        clear HB HB3 HRP
        go_wp2_with fail
        go_ret2
        exact OutPl.of HE.out HAl.out HO.out hw3 HBf.out

end Go.Proofs.YtbnconieedgcmaaDoor
