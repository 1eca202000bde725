/- The law PackTells returns true at all bytes, numbers and lists of bools: any number behind any bytes, what stands anywhere, the sum, bits of any list and the list of any bits are the document's. Conditions: none; nothing that was there before the call is changed. -/
import Derived.Test.YtjhcjdgmhggimaaLawMath
import Derived.BigQuiet
import Derived.Deep.RegionHeld3
namespace Go.Proofs.Ytjhcjdgmhggimaa.packTells
open Go.ChangeShapes Go.WideShapes Go.ChangeAt Go.RowKit Go.BigFrame
set_option linter.unusedVariables false
set_option linter.unusedSimpArgs false

theorem unb_len (b : List Nat) (n : Int) : ((unbR b n).getD []).length ≤ 8 * b.length := by
  unfold unbR
  split
  · rename_i h
    simp
    omega
  · simp

theorem walk_a (n : Nat) (A : Option Addr) (c : Nat) (n0 n1 n2 : Int) (m : Nat) (L : Option Addr) (d : Nat) (w : World) (h : 500 < n) :
    Calls Try.prog 3 #[.slice A n c, .agg #[.int .i64 n0, .int .i64 n1, .int .i64 n2], .slice L m d] w fun e w' => e = .returned (.bool true) ∧ Below w.heap.size w w' := by
  have h1 : (500 : Int) < (n : Int) := by omega
  have bx := below_new w (.cells #[.int .i64 n0, .int .i64 n1, .int .i64 n2] 23)
  go_enter Try.func3, Try.ntmps3
  go_wp2_with fail
  generalize w.alloc (.cells #[.int .i64 n0, .int .i64 n1, .int .i64 n2] 23) = w0 at *
  refine (wakes_any _).mono ?_
  rintro e w1 ⟨rfl, g⟩
  have b2 := bx.trans (g.mono bx.size)
  go_wp2_with fail
  go_ret
  exact ⟨rfl, b2⟩

theorem walk_b (n : Nat) (A : Option Addr) (c : Nat) (n0 n1 n2 : Int) (m : Nat) (L : Option Addr) (d : Nat) (w : World) (h : ¬ 500 < n) (h2 : 500 < m) :
    Calls Try.prog 3 #[.slice A n c, .agg #[.int .i64 n0, .int .i64 n1, .int .i64 n2], .slice L m d] w fun e w' => e = .returned (.bool true) ∧ Below w.heap.size w w' := by
  have h1 : ¬ ((500 : Int) < (n : Int)) := by omega
  have h3 : (500 : Int) < (m : Int) := by omega
  have bx := below_new w (.cells #[.int .i64 n0, .int .i64 n1, .int .i64 n2] 23)
  go_enter Try.func3, Try.ntmps3
  go_wp2_with fail
  generalize w.alloc (.cells #[.int .i64 n0, .int .i64 n1, .int .i64 n2] 23) = w0 at *
  refine (wakes_any _).mono ?_
  rintro e w1 ⟨rfl, g⟩
  have b2 := bx.trans (g.mono bx.size)
  go_wp2_with fail
  go_ret
  exact ⟨rfl, b2⟩

set_option maxRecDepth 8000 in
set_option maxHeartbeats 16000000 in
theorem walk_in (b : List Nat) (n : Nat) (A : Option Addr) (c : Nat) (n0 n1 n2 : Int) (lb : List Bool) (m : Nat) (L : Option Addr) (d : Nat) (w : World) (hA : Shp A n c) (hL0 : Shp L m d) (hB : RB w w.heap.size A n b) (hL : RL w w.heap.size L m lb) (hn : n ≤ 500) (hm : m ≤ 500) :
    Calls Try.prog 3 #[.slice A n c, .agg #[.int .i64 n0, .int .i64 n1, .int .i64 n2], .slice L m d] w fun e w' => e = .returned (.bool true) ∧ Below w.heap.size w w' := by
  obtain ⟨i0, hi0, hz0, hz1, hz2⟩ := info_parts info5
  obtain ⟨j0, hj0, hy0, hy1, hy2⟩ := info_parts info4
  have hmb : ¬ ((500 : Int) < (n : Int)) := by omega
  have hml : ¬ ((500 : Int) < (m : Int)) := by omega
  have HAs := Lib.hid hA
  have HLs := Lib.hid hL0
  have HYb := Lib.hid hB.2.2
  have bx := below_new w (.cells #[.int .i64 n0, .int .i64 n1, .int .i64 n2] 23)
  have HB0 := Lib.hid (hB.on bx)
  have HL0 := Lib.hid (hL.on bx)
  have HC0 : Hid ((w.alloc (.cells #[.int .i64 n0, .int .i64 n1, .int .i64 n2] 23)).cell? ⟨w.heap.size, 0, none⟩ = some (.int .i64 n0)) := Lib.hid (by simp)
  have HC1 : Hid ((w.alloc (.cells #[.int .i64 n0, .int .i64 n1, .int .i64 n2] 23)).cell? ⟨w.heap.size, 1, none⟩ = some (.int .i64 n1)) := Lib.hid (by simp)
  have HC2 : Hid ((w.alloc (.cells #[.int .i64 n0, .int .i64 n1, .int .i64 n2] 23)).cell? ⟨w.heap.size, 2, none⟩ = some (.int .i64 n2)) := Lib.hid (by simp)
  have hzw : (w.alloc (.cells #[.int .i64 n0, .int .i64 n1, .int .i64 n2] 23)).heap.size = w.heap.size + 1 := by simp
  clear hA hL0 hB hL
  have HM : Hid (((w.alloc (.cells #[.int .i64 n0, .int .i64 n1, .int .i64 n2] 23)).alloc (.cells #[] 5)).ownsRow (w.heap.size + 1) 5 1 (.slice (some ⟨w.heap.size + 1, 0, none⟩) 0 0) 0 []) := Lib.hid (by
    have h := World.ownsRow_made (base := w.heap.size + 1) (e := 5) (size := 1) (w.alloc (.cells #[.int .i64 n0, .int .i64 n1, .int .i64 n2] 23)) #[] 0 (by simp) (Nat.zero_le _) (by simp)
    rw [hzw] at h
    simpa using h)
  have HRx := Lib.hid (HB0.out.2.1.alloc (Nat.le_refl _) (.cells #[] 5))
  have bz : Below (w.heap.size + 1) (w.alloc (.cells #[.int .i64 n0, .int .i64 n1, .int .i64 n2] 23)) ((w.alloc (.cells #[.int .i64 n0, .int .i64 n1, .int .i64 n2] 23)).alloc (.cells #[] 5)) := (Below.refl _ _).alloc (by simp) _
  have hHZ := Lib.hid hzw
  clear hzw
  go_enter Try.func3, Try.ntmps3
  go_wp2_with (at_builtin; refine wpList_append_src rfl _ _ 22 rfl (w.heap.size + 1) 5 i0 _ 1 1 Try.underlying22 hi0 hz0 hz1 hz2 rfl (by decide) _ _ _ rfl HM.out A n c _ (ycells b) rfl HAs.out.1 HRx.out (ycells_one b) ?c3 ?c4 (by simp) ?_)
  case c3 => unfold maxLen; omega
  case c4 => omega
  intro A1 c1 w1 hown1 hn1 hgrow1
  have b1 : Below (w.heap.size + 1) (w.alloc (.cells #[.int .i64 n0, .int .i64 n1, .int .i64 n2] 23)) w1 := below_grown bz (by simp) HM.out hgrow1
  rw [← hHZ.out] at b1
  try simp only [Nat.zero_add, List.nil_append] at hown1 ⊢
  have HO1 : Hid (w1.ownsRow (w.heap.size + 1) 5 1 (.slice A1 n c1) n (ycells b)) := Lib.hid (by simpa using hown1)
  have HB1 := Lib.hid (HB0.out.on b1)
  have HL1 := Lib.hid (HL0.out.on b1)
  have HI1 := Lib.hid (own_RB HO1.out HYb.out)
  have HS1 := Lib.hid (own_shp HO1.out)
  have HD0 := Lib.hid (kept_cell b1 HC0.out)
  have HD1 := Lib.hid (kept_cell b1 HC1.out)
  have HD2 := Lib.hid (kept_cell b1 HC2.out)
  have bb1 := bx.trans (b1.mono bx.size)
  clear hown1 hgrow1 hn1 HB0 HL0 HC0 HC1 HC2 b1 bx HO1 HM HRx bz hHZ
  go_wp2_with (at_builtin; refine wpList_append_src rfl _ _ 24 rfl w1.heap.size 4 j0 _ 1 1 Try.underlying24 hj0 hy0 hy1 hy2 rfl (by decide) _ _ _ rfl (World.ownsRow_made (size := 1) w1 #[] 0 (Nat.le_refl _) (Nat.zero_le _) (by simp)) L m d w1.heap.size (bcells lb) rfl HLs.out.1 (HL1.out.2.alloc (Nat.le_refl _) _) (bcells_one lb) ?c3 ?c4 (by simp) ?_)
  case c3 => unfold maxLen; omega
  case c4 => omega
  intro A2 c2 w2 hown2 hn2 hgrow2
  have b2 : Below w1.heap.size w1 w2 := below_grown (below_new _ _) (by simp) (World.ownsRow_made (size := 1) w1 #[] 0 (Nat.le_refl _) (Nat.zero_le _) (by simp)) hgrow2
  try simp only [Nat.zero_add, List.nil_append] at hown2 ⊢
  have HO2 : Hid (w2.ownsRow w1.heap.size 4 1 (.slice A2 m c2) m (bcells lb)) := Lib.hid (by simpa using hown2)
  have b_0 := Lib.hid (HB1.out.on b2)
  have l_0 := Lib.hid (HL1.out.on b2)
  have in_0 := Lib.hid (HI1.out.on b2)
  have at_0 := Lib.hid (own_RL HO2.out)
  have x0_0 := Lib.hid (kept_cell b2 HD0.out)
  have x1_0 := Lib.hid (kept_cell b2 HD1.out)
  have x2_0 := Lib.hid (kept_cell b2 HD2.out)
  have bb_0 := bb1.trans (b2.mono bb1.size)
  have hc1 := HS1.out.2.1
  clear hown2 hgrow2 hn2 HB1 HL1 HI1 HD0 HD1 HD2 b2 bb1 HO2
  obtain ⟨rg, hrg⟩ : ∃ rg, getR b n1 n2 = rg := ⟨_, rfl⟩
  obtain ⟨ug, hug⟩ : ∃ ug, unbR b n0 = ug := ⟨_, rfl⟩
  have HRg := Lib.hid hrg
  have HUg := Lib.hid hug
  clear hrg hug
  have qx1 := x1_0.out
  have qx2 := x2_0.out
  go_wp2_with fail
  have HG := Lib.hid (get_any b n A1 c1 n1 n2 _ in_0.out hc1 (by omega))
  rw [HRg.out] at HG
  clear qx1 qx2
  refine (HG.out).mono ?_
  rintro e W1 ⟨rfl, g⟩
  have b_1 := Lib.hid (b_0.out.on g)
  have l_1 := Lib.hid (l_0.out.on g)
  have in_1 := Lib.hid (in_0.out.on g)
  have at_1 := Lib.hid (at_0.out.on g)
  have x0_1 := Lib.hid (kept_cell g x0_0.out)
  have x1_1 := Lib.hid (kept_cell g x1_0.out)
  have x2_1 := Lib.hid (kept_cell g x2_0.out)
  have bb_1 := bb_0.trans (g.mono bb_0.size)
  clear b_0 l_0 in_0 at_0 x0_0 x1_0 x2_0 bb_0 g
  clear HG
  have qx1 := x1_1.out
  have qx2 := x2_1.out
  go_wp2_with fail
  have HG := Lib.hid (refGet_any b n A c n1 n2 _ b_1.out (by omega))
  rw [HRg.out] at HG
  clear qx1 qx2
  refine (HG.out).mono ?_
  rintro e W2 ⟨rfl, g⟩
  have b_2 := Lib.hid (b_1.out.on g)
  have l_2 := Lib.hid (l_1.out.on g)
  have in_2 := Lib.hid (in_1.out.on g)
  have at_2 := Lib.hid (at_1.out.on g)
  have x0_2 := Lib.hid (kept_cell g x0_1.out)
  have x1_2 := Lib.hid (kept_cell g x1_1.out)
  have x2_2 := Lib.hid (kept_cell g x2_1.out)
  have bb_2 := bb_1.trans (g.mono bb_1.size)
  clear b_1 l_1 in_1 at_1 x0_1 x1_1 x2_1 bb_1 g
  clear HG
  generalize (rg.getD 0) = rv at *
  generalize rg.isSome = ro at *
  have qx0 := kept_cell (below_new W2 (.cells #[.int .i64 (rv : Int), .bool ro] 29)) x0_2.out
  go_wp2_with fail
  clear qx0
  have g_3 : Below W2.heap.size W2 (W2.alloc (.cells #[.int .i64 (rv : Int), .bool ro] 29)) := below_new _ _
  have b_3 := Lib.hid (b_2.out.on g_3)
  have l_3 := Lib.hid (l_2.out.on g_3)
  have in_3 := Lib.hid (in_2.out.on g_3)
  have at_3 := Lib.hid (at_2.out.on g_3)
  have x0_3 := Lib.hid (kept_cell g_3 x0_2.out)
  have x1_3 := Lib.hid (kept_cell g_3 x1_2.out)
  have x2_3 := Lib.hid (kept_cell g_3 x2_2.out)
  have bb_3 := bb_2.trans (g_3.mono bb_2.size)
  have g0_3 := Lib.hid (show (W2.alloc (.cells #[.int .i64 (rv : Int), .bool ro] 29)).cell? ⟨W2.heap.size, 0, none⟩ = some (.int .i64 (rv : Int)) by simp)
  have g1_3 := Lib.hid (show (W2.alloc (.cells #[.int .i64 (rv : Int), .bool ro] 29)).cell? ⟨W2.heap.size, 1, none⟩ = some (.bool ro) by simp)
  clear b_2 l_2 in_2 at_2 x0_2 x1_2 x2_2 bb_2 g_3
  have hz_3 : (W2.alloc (.cells #[.int .i64 (rv : Int), .bool ro] 29)).heap.size = W2.heap.size + 1 := by simp
  generalize W2.alloc (.cells #[.int .i64 (rv : Int), .bool ro] 29) = W3 at *
  have HU := Lib.hid (unbits_any b n A1 c1 n0 _ in_3.out (by omega))
  rw [HUg.out] at HU
  refine (HU.out).mono ?_
  rintro e W4 ⟨A3, c3, rfl, r3, s3, g⟩
  have b_4 := Lib.hid (b_3.out.on g)
  have l_4 := Lib.hid (l_3.out.on g)
  have in_4 := Lib.hid (in_3.out.on g)
  have at_4 := Lib.hid (at_3.out.on g)
  have x0_4 := Lib.hid (kept_cell g x0_3.out)
  have x1_4 := Lib.hid (kept_cell g x1_3.out)
  have x2_4 := Lib.hid (kept_cell g x2_3.out)
  have g0_4 := Lib.hid (kept_cell g g0_3.out)
  have g1_4 := Lib.hid (kept_cell g g1_3.out)
  have bb_4 := bb_3.trans (g.mono bb_3.size)
  have u_4 := Lib.hid (r3)
  clear b_3 l_3 in_3 at_3 x0_3 x1_3 x2_3 g0_3 g1_3 bb_3 g
  clear HU r3 s3
  have qx0 := x0_4.out
  go_wp2_with fail
  have HU := Lib.hid (refUnbits_any b n A c n0 _ b_4.out (by omega))
  rw [HUg.out] at HU
  clear qx0
  refine (HU.out).mono ?_
  rintro e W5 ⟨A4, c4, rfl, r4, s4, g⟩
  have b_5 := Lib.hid (b_4.out.on g)
  have l_5 := Lib.hid (l_4.out.on g)
  have in_5 := Lib.hid (in_4.out.on g)
  have at_5 := Lib.hid (at_4.out.on g)
  have x0_5 := Lib.hid (kept_cell g x0_4.out)
  have x1_5 := Lib.hid (kept_cell g x1_4.out)
  have x2_5 := Lib.hid (kept_cell g x2_4.out)
  have g0_5 := Lib.hid (kept_cell g g0_4.out)
  have g1_5 := Lib.hid (kept_cell g g1_4.out)
  have u_5 := Lib.hid (u_4.out.on g)
  have bb_5 := bb_4.trans (g.mono bb_4.size)
  have v_5 := Lib.hid (r4)
  clear b_4 l_4 in_4 at_4 x0_4 x1_4 x2_4 g0_4 g1_4 u_4 bb_4 g
  clear HU r4 s4
  have hul : (ug.getD []).length ≤ 8000 := by have := v_5.out.1; have h8 := unb_len b n0; rw [HUg.out] at h8; have := in_5.out.1; omega
  generalize (ug.getD []).length = uq at *
  generalize ug.getD [] = ul at *
  generalize ug.isSome = uo at *
  obtain ⟨N, hN⟩ : ∃ N, n + cutN n2 = N := ⟨_, rfl⟩
  obtain ⟨PL, hPL⟩ : ∃ PL, b ++ lowB n0 (cutN n2) = PL := ⟨_, rfl⟩
  obtain ⟨y, hy⟩ := isBits_some lb
  obtain ⟨z, hz⟩ : ∃ z, (m + 7) / 8 = z := ⟨_, rfl⟩
  have HPut : Hid (∀ (V : World), V.cell? ⟨w.heap.size, 0, none⟩ = some (.int .i64 n0) ∧ V.cell? ⟨w.heap.size, 2, none⟩ = some (.int .i64 n2) ∧ V.cell? ⟨W2.heap.size, 0, none⟩ = some (.int .i64 (rv : Int)) ∧ V.cell? ⟨W2.heap.size, 1, none⟩ = some (.bool ro) ∧ Below W5.heap.size W5 V → Calls Try.prog 14 #[.slice A1 n c1, .int .i64 n0, .int .i64 n2] V fun e w' => (∃ (A5 : Option Addr) (c5 : Nat), e = .returned (.slice A5 N c5) ∧ Hid (RB w' w'.heap.size A5 N PL)) ∧ (w'.cell? ⟨w.heap.size, 0, none⟩ = some (.int .i64 n0) ∧ w'.cell? ⟨w.heap.size, 2, none⟩ = some (.int .i64 n2) ∧ w'.cell? ⟨W2.heap.size, 0, none⟩ = some (.int .i64 (rv : Int)) ∧ w'.cell? ⟨W2.heap.size, 1, none⟩ = some (.bool ro) ∧ Below W5.heap.size W5 w') ∧ Below V.heap.size V w') := Lib.hid (fun V ⟨h1, h2, h3, h4, h5⟩ => by
    subst hN hPL
    refine (put_r b n A1 c1 n0 n2 V HS1.out (in_5.out.on h5) (by omega)).mono fun e w' ⟨A5, c5, he, hr, _, g⟩ => ?_
    exact ⟨⟨A5, c5, he, Lib.hid hr⟩, ⟨kept_cell g h1, kept_cell g h2, kept_cell g h3, kept_cell g h4, h5.trans (g.mono h5.size)⟩, g⟩)
  have HRPut : Hid (∀ (V : World), V.cell? ⟨w.heap.size, 0, none⟩ = some (.int .i64 n0) ∧ V.cell? ⟨w.heap.size, 2, none⟩ = some (.int .i64 n2) ∧ V.cell? ⟨W2.heap.size, 0, none⟩ = some (.int .i64 (rv : Int)) ∧ V.cell? ⟨W2.heap.size, 1, none⟩ = some (.bool ro) ∧ Below W5.heap.size W5 V → Calls Try.prog 15 #[.slice A n c, .int .i64 n0, .int .i64 n2] V fun e w' => (∃ (A5 : Option Addr) (c5 : Nat), e = .returned (.slice A5 N c5) ∧ Hid (RB w' w'.heap.size A5 N PL)) ∧ (w'.cell? ⟨w.heap.size, 0, none⟩ = some (.int .i64 n0) ∧ w'.cell? ⟨w.heap.size, 2, none⟩ = some (.int .i64 n2) ∧ w'.cell? ⟨W2.heap.size, 0, none⟩ = some (.int .i64 (rv : Int)) ∧ w'.cell? ⟨W2.heap.size, 1, none⟩ = some (.bool ro) ∧ Below W5.heap.size W5 w') ∧ Below V.heap.size V w') := Lib.hid (fun V ⟨h1, h2, h3, h4, h5⟩ => by
    subst hN hPL
    refine (refPut_r b n A c n0 n2 V HAs.out (b_5.out.on h5) (by omega)).mono fun e w' ⟨A5, c5, he, hr, _, g⟩ => ?_
    exact ⟨⟨A5, c5, he, Lib.hid hr⟩, ⟨kept_cell g h1, kept_cell g h2, kept_cell g h3, kept_cell g h4, h5.trans (g.mono h5.size)⟩, g⟩)
  have HBy1 : Hid (∀ (A5 A6 : Option Addr) (c5 c6 : Nat) (V : World), RB V V.heap.size A5 N PL → RB V V.heap.size A6 N PL → V.cell? ⟨w.heap.size, 0, none⟩ = some (.int .i64 n0) ∧ V.cell? ⟨w.heap.size, 2, none⟩ = some (.int .i64 n2) ∧ V.cell? ⟨W2.heap.size, 0, none⟩ = some (.int .i64 (rv : Int)) ∧ V.cell? ⟨W2.heap.size, 1, none⟩ = some (.bool ro) ∧ Below W5.heap.size W5 V → Calls Try.prog 13 #[.slice A5 N c5, .slice A6 N c6] V fun e w' => e = .returned (.bool true) ∧ (w'.cell? ⟨w.heap.size, 0, none⟩ = some (.int .i64 n0) ∧ w'.cell? ⟨w.heap.size, 2, none⟩ = some (.int .i64 n2) ∧ w'.cell? ⟨W2.heap.size, 0, none⟩ = some (.int .i64 (rv : Int)) ∧ w'.cell? ⟨W2.heap.size, 1, none⟩ = some (.bool ro) ∧ Below W5.heap.size W5 w') ∧ Below V.heap.size V w') := Lib.hid (fun A5 A6 c5 c6 V q5 q6 ⟨h1, h2, h3, h4, h5⟩ => (keepBytes_yes PL PL rfl N N A5 A6 c5 c6 V q5 q6).mono fun e w' ⟨he, g⟩ => ⟨he, ⟨kept_cell g h1, kept_cell g h2, kept_cell g h3, kept_cell g h4, h5.trans (g.mono h5.size)⟩, g⟩)
  have HSum : Hid (∀ (V : World), V.cell? ⟨w.heap.size, 0, none⟩ = some (.int .i64 n0) ∧ V.cell? ⟨w.heap.size, 2, none⟩ = some (.int .i64 n2) ∧ V.cell? ⟨W2.heap.size, 0, none⟩ = some (.int .i64 (rv : Int)) ∧ V.cell? ⟨W2.heap.size, 1, none⟩ = some (.bool ro) ∧ Below W5.heap.size W5 V → Calls Try.prog 16 #[.slice A1 n c1] V fun e w' => e = .returned (.int .u32 (sumL b : Nat)) ∧ (w'.cell? ⟨w.heap.size, 0, none⟩ = some (.int .i64 n0) ∧ w'.cell? ⟨w.heap.size, 2, none⟩ = some (.int .i64 n2) ∧ w'.cell? ⟨W2.heap.size, 0, none⟩ = some (.int .i64 (rv : Int)) ∧ w'.cell? ⟨W2.heap.size, 1, none⟩ = some (.bool ro) ∧ Below W5.heap.size W5 w') ∧ Below V.heap.size V w') := Lib.hid (fun V ⟨h1, h2, h3, h4, h5⟩ => (sum_b b n A1 c1 V (in_5.out.on h5) (by omega)).mono fun e w' ⟨he, g⟩ => ⟨he, ⟨kept_cell g h1, kept_cell g h2, kept_cell g h3, kept_cell g h4, h5.trans (g.mono h5.size)⟩, g⟩)
  have HRSum : Hid (∀ (V : World), V.cell? ⟨w.heap.size, 0, none⟩ = some (.int .i64 n0) ∧ V.cell? ⟨w.heap.size, 2, none⟩ = some (.int .i64 n2) ∧ V.cell? ⟨W2.heap.size, 0, none⟩ = some (.int .i64 (rv : Int)) ∧ V.cell? ⟨W2.heap.size, 1, none⟩ = some (.bool ro) ∧ Below W5.heap.size W5 V → Calls Try.prog 17 #[.slice A n c] V fun e w' => e = .returned (.int .u32 (sumL b : Nat)) ∧ (w'.cell? ⟨w.heap.size, 0, none⟩ = some (.int .i64 n0) ∧ w'.cell? ⟨w.heap.size, 2, none⟩ = some (.int .i64 n2) ∧ w'.cell? ⟨W2.heap.size, 0, none⟩ = some (.int .i64 (rv : Int)) ∧ w'.cell? ⟨W2.heap.size, 1, none⟩ = some (.bool ro) ∧ Below W5.heap.size W5 w') ∧ Below V.heap.size V w') := Lib.hid (fun V ⟨h1, h2, h3, h4, h5⟩ => (refSum_b b n A c V (b_5.out.on h5) (by omega)).mono fun e w' ⟨he, g⟩ => ⟨he, ⟨kept_cell g h1, kept_cell g h2, kept_cell g h3, kept_cell g h4, h5.trans (g.mono h5.size)⟩, g⟩)
  have HBits : Hid (∀ (V : World), V.cell? ⟨w.heap.size, 0, none⟩ = some (.int .i64 n0) ∧ V.cell? ⟨w.heap.size, 2, none⟩ = some (.int .i64 n2) ∧ V.cell? ⟨W2.heap.size, 0, none⟩ = some (.int .i64 (rv : Int)) ∧ V.cell? ⟨W2.heap.size, 1, none⟩ = some (.bool ro) ∧ Below W5.heap.size W5 V → Calls Try.prog 18 #[.slice A2 m c2] V fun e w' => (∃ (A5 : Option Addr) (c5 : Nat), e = .returned (.slice A5 z c5) ∧ Hid (RB w' w'.heap.size A5 z y)) ∧ (w'.cell? ⟨w.heap.size, 0, none⟩ = some (.int .i64 n0) ∧ w'.cell? ⟨w.heap.size, 2, none⟩ = some (.int .i64 n2) ∧ w'.cell? ⟨W2.heap.size, 0, none⟩ = some (.int .i64 (rv : Int)) ∧ w'.cell? ⟨W2.heap.size, 1, none⟩ = some (.bool ro) ∧ Below W5.heap.size W5 w') ∧ Below V.heap.size V w') := Lib.hid (fun V ⟨h1, h2, h3, h4, h5⟩ => (bits_is y z lb hy m hz A2 c2 V (at_5.out.on h5) (by omega)).mono fun e w' ⟨A5, c5, he, hr, _, g⟩ => ⟨⟨A5, c5, he, Lib.hid hr⟩, ⟨kept_cell g h1, kept_cell g h2, kept_cell g h3, kept_cell g h4, h5.trans (g.mono h5.size)⟩, g⟩)
  have HRBits : Hid (∀ (V : World), V.cell? ⟨w.heap.size, 0, none⟩ = some (.int .i64 n0) ∧ V.cell? ⟨w.heap.size, 2, none⟩ = some (.int .i64 n2) ∧ V.cell? ⟨W2.heap.size, 0, none⟩ = some (.int .i64 (rv : Int)) ∧ V.cell? ⟨W2.heap.size, 1, none⟩ = some (.bool ro) ∧ Below W5.heap.size W5 V → Calls Try.prog 19 #[.slice L m d] V fun e w' => (∃ (A5 : Option Addr) (c5 : Nat), e = .returned (.slice A5 z c5) ∧ Hid (RB w' w'.heap.size A5 z y)) ∧ (w'.cell? ⟨w.heap.size, 0, none⟩ = some (.int .i64 n0) ∧ w'.cell? ⟨w.heap.size, 2, none⟩ = some (.int .i64 n2) ∧ w'.cell? ⟨W2.heap.size, 0, none⟩ = some (.int .i64 (rv : Int)) ∧ w'.cell? ⟨W2.heap.size, 1, none⟩ = some (.bool ro) ∧ Below W5.heap.size W5 w') ∧ Below V.heap.size V w') := Lib.hid (fun V ⟨h1, h2, h3, h4, h5⟩ => (refBits_is y z lb hy m hz L d V (l_5.out.on h5) (by omega)).mono fun e w' ⟨A5, c5, he, hr, _, g⟩ => ⟨⟨A5, c5, he, Lib.hid hr⟩, ⟨kept_cell g h1, kept_cell g h2, kept_cell g h3, kept_cell g h4, h5.trans (g.mono h5.size)⟩, g⟩)
  have HBy2 : Hid (∀ (A5 A6 : Option Addr) (c5 c6 : Nat) (V : World), RB V V.heap.size A5 z y → RB V V.heap.size A6 z y → V.cell? ⟨w.heap.size, 0, none⟩ = some (.int .i64 n0) ∧ V.cell? ⟨w.heap.size, 2, none⟩ = some (.int .i64 n2) ∧ V.cell? ⟨W2.heap.size, 0, none⟩ = some (.int .i64 (rv : Int)) ∧ V.cell? ⟨W2.heap.size, 1, none⟩ = some (.bool ro) ∧ Below W5.heap.size W5 V → Calls Try.prog 13 #[.slice A5 z c5, .slice A6 z c6] V fun e w' => e = .returned (.bool true) ∧ (w'.cell? ⟨w.heap.size, 0, none⟩ = some (.int .i64 n0) ∧ w'.cell? ⟨w.heap.size, 2, none⟩ = some (.int .i64 n2) ∧ w'.cell? ⟨W2.heap.size, 0, none⟩ = some (.int .i64 (rv : Int)) ∧ w'.cell? ⟨W2.heap.size, 1, none⟩ = some (.bool ro) ∧ Below W5.heap.size W5 w') ∧ Below V.heap.size V w') := Lib.hid (fun A5 A6 c5 c6 V q5 q6 ⟨h1, h2, h3, h4, h5⟩ => (keepBytes_yes y y rfl z z A5 A6 c5 c6 V q5 q6).mono fun e w' ⟨he, g⟩ => ⟨he, ⟨kept_cell g h1, kept_cell g h2, kept_cell g h3, kept_cell g h4, h5.trans (g.mono h5.size)⟩, g⟩)
  have HBo1 : Hid (∀ (V : World), V.cell? ⟨w.heap.size, 0, none⟩ = some (.int .i64 n0) ∧ V.cell? ⟨w.heap.size, 2, none⟩ = some (.int .i64 n2) ∧ V.cell? ⟨W2.heap.size, 0, none⟩ = some (.int .i64 (rv : Int)) ∧ V.cell? ⟨W2.heap.size, 1, none⟩ = some (.bool ro) ∧ Below W5.heap.size W5 V → Calls Try.prog 20 #[.slice A3 uq c3, .slice A4 uq c4] V fun e w' => e = .returned (.bool true) ∧ (w'.cell? ⟨w.heap.size, 0, none⟩ = some (.int .i64 n0) ∧ w'.cell? ⟨w.heap.size, 2, none⟩ = some (.int .i64 n2) ∧ w'.cell? ⟨W2.heap.size, 0, none⟩ = some (.int .i64 (rv : Int)) ∧ w'.cell? ⟨W2.heap.size, 1, none⟩ = some (.bool ro) ∧ Below W5.heap.size W5 w') ∧ Below V.heap.size V w') := Lib.hid (fun V ⟨h1, h2, h3, h4, h5⟩ => (keepBools_yes ul ul rfl uq uq A3 A4 c3 c4 V (u_5.out.on h5) (v_5.out.on h5) (by omega)).mono fun e w' ⟨he, g⟩ => ⟨he, ⟨kept_cell g h1, kept_cell g h2, kept_cell g h3, kept_cell g h4, h5.trans (g.mono h5.size)⟩, g⟩)
  have HBy3 : Hid (∀ (V : World), V.cell? ⟨w.heap.size, 0, none⟩ = some (.int .i64 n0) ∧ V.cell? ⟨w.heap.size, 2, none⟩ = some (.int .i64 n2) ∧ V.cell? ⟨W2.heap.size, 0, none⟩ = some (.int .i64 (rv : Int)) ∧ V.cell? ⟨W2.heap.size, 1, none⟩ = some (.bool ro) ∧ Below W5.heap.size W5 V → Calls Try.prog 13 #[.slice A1 n c1, .slice A n c] V fun e w' => e = .returned (.bool true) ∧ (w'.cell? ⟨w.heap.size, 0, none⟩ = some (.int .i64 n0) ∧ w'.cell? ⟨w.heap.size, 2, none⟩ = some (.int .i64 n2) ∧ w'.cell? ⟨W2.heap.size, 0, none⟩ = some (.int .i64 (rv : Int)) ∧ w'.cell? ⟨W2.heap.size, 1, none⟩ = some (.bool ro) ∧ Below W5.heap.size W5 w') ∧ Below V.heap.size V w') := Lib.hid (fun V ⟨h1, h2, h3, h4, h5⟩ => (keepBytes_yes b b rfl n n A1 A c1 c V (in_5.out.on h5) (b_5.out.on h5)).mono fun e w' ⟨he, g⟩ => ⟨he, ⟨kept_cell g h1, kept_cell g h2, kept_cell g h3, kept_cell g h4, h5.trans (g.mono h5.size)⟩, g⟩)
  have HBo2 : Hid (∀ (V : World), V.cell? ⟨w.heap.size, 0, none⟩ = some (.int .i64 n0) ∧ V.cell? ⟨w.heap.size, 2, none⟩ = some (.int .i64 n2) ∧ V.cell? ⟨W2.heap.size, 0, none⟩ = some (.int .i64 (rv : Int)) ∧ V.cell? ⟨W2.heap.size, 1, none⟩ = some (.bool ro) ∧ Below W5.heap.size W5 V → Calls Try.prog 20 #[.slice A2 m c2, .slice L m d] V fun e w' => e = .returned (.bool true) ∧ (w'.cell? ⟨w.heap.size, 0, none⟩ = some (.int .i64 n0) ∧ w'.cell? ⟨w.heap.size, 2, none⟩ = some (.int .i64 n2) ∧ w'.cell? ⟨W2.heap.size, 0, none⟩ = some (.int .i64 (rv : Int)) ∧ w'.cell? ⟨W2.heap.size, 1, none⟩ = some (.bool ro) ∧ Below W5.heap.size W5 w') ∧ Below V.heap.size V w') := Lib.hid (fun V ⟨h1, h2, h3, h4, h5⟩ => (keepBools_yes lb lb rfl m m A2 L c2 d V (at_5.out.on h5) (l_5.out.on h5) (by omega)).mono fun e w' ⟨he, g⟩ => ⟨he, ⟨kept_cell g h1, kept_cell g h2, kept_cell g h3, kept_cell g h4, h5.trans (g.mono h5.size)⟩, g⟩)
  have HWk : Hid (∀ (V : World), V.cell? ⟨w.heap.size, 0, none⟩ = some (.int .i64 n0) ∧ V.cell? ⟨w.heap.size, 2, none⟩ = some (.int .i64 n2) ∧ V.cell? ⟨W2.heap.size, 0, none⟩ = some (.int .i64 (rv : Int)) ∧ V.cell? ⟨W2.heap.size, 1, none⟩ = some (.bool ro) ∧ Below W5.heap.size W5 V → Calls Try.prog 8 #[] V fun e w' => e = .returned (.bool true) ∧ (w'.cell? ⟨w.heap.size, 0, none⟩ = some (.int .i64 n0) ∧ w'.cell? ⟨w.heap.size, 2, none⟩ = some (.int .i64 n2) ∧ w'.cell? ⟨W2.heap.size, 0, none⟩ = some (.int .i64 (rv : Int)) ∧ w'.cell? ⟨W2.heap.size, 1, none⟩ = some (.bool ro) ∧ Below W5.heap.size W5 w') ∧ Below V.heap.size V w') := Lib.hid (fun V ⟨h1, h2, h3, h4, h5⟩ => (wakes_any V).mono fun e w' ⟨he, g⟩ => ⟨he, ⟨kept_cell g h1, kept_cell g h2, kept_cell g h3, kept_cell g h4, h5.trans (g.mono h5.size)⟩, g⟩)
  generalize sumL b = sb at *
  have f0 := x0_5.out
  have f2 := x2_5.out
  have e0 := g0_5.out
  have e1 := g1_5.out
  have bR := Below.refl W5.heap.size W5
  have k1 : ((rv : Int) == (rv : Int)) = true := by simp
  have k2 : (ro == ro) = true := by simp
  have k3 : ((sb : Int) == (sb : Int)) = true := by simp
  have k4 : (uo == uo) = true := by simp
  have bbF := bb_5
  clear hN hPL hy hz HRg HUg x0_5 x1_5 x2_5 g0_5 g1_5 b_5 l_5 in_5 at_5 u_5 v_5 HS1 HAs HLs HYb hul bb_5
  go_wp2_with fail
  try simp only [List.append_eq, List.cons_append, List.nil_append]
  go_region_held3 (fun w' => w'.cell? ⟨w.heap.size, 0, none⟩ = some (.int .i64 n0) ∧ w'.cell? ⟨w.heap.size, 2, none⟩ = some (.int .i64 n2) ∧ w'.cell? ⟨W2.heap.size, 0, none⟩ = some (.int .i64 (rv : Int)) ∧ w'.cell? ⟨W2.heap.size, 1, none⟩ = some (.bool ro) ∧ Below W5.heap.size W5 w') (first | assumption | exact ⟨f0, f2, e0, e1, bR⟩ | exact ⟨f0, f2, e0, e1, Below.drew bR⟩ | exact ⟨by assumption, by assumption, by assumption, by assumption, by assumption⟩) (first | (go_at_call 14; with_reducible refine Calls.mono (HPut.out _ ?_) ?_; (first | assumption | exact ⟨f0, f2, e0, e1, bR⟩ | exact ⟨f0, f2, e0, e1, Below.drew bR⟩ | exact ⟨by assumption, by assumption, by assumption, by assumption, by assumption⟩); rintro e v1 ⟨⟨B1, k1x, rfl, r1⟩, ⟨t1a, t1b, t1c, t1d, t1e⟩, g1⟩) | (go_at_call 15; with_reducible refine Calls.mono (HRPut.out _ ?_) ?_; (first | assumption | exact ⟨f0, f2, e0, e1, bR⟩ | exact ⟨f0, f2, e0, e1, Below.drew bR⟩ | exact ⟨by assumption, by assumption, by assumption, by assumption, by assumption⟩); rintro e v2 ⟨⟨B2, k2x, rfl, r2⟩, ⟨t2a, t2b, t2c, t2d, t2e⟩, g2⟩) | (go_at_call 13; with_reducible refine Calls.mono (HBy1.out _ _ _ _ _ (r1.out.on g2) r2.out ?_) ?_; (first | assumption | exact ⟨f0, f2, e0, e1, bR⟩ | exact ⟨f0, f2, e0, e1, Below.drew bR⟩ | exact ⟨by assumption, by assumption, by assumption, by assumption, by assumption⟩); rintro e v3 ⟨rfl, ⟨t3a, t3b, t3c, t3d, t3e⟩, g3⟩) | (go_at_call 16; with_reducible refine Calls.mono (HSum.out _ ?_) ?_; (first | assumption | exact ⟨f0, f2, e0, e1, bR⟩ | exact ⟨f0, f2, e0, e1, Below.drew bR⟩ | exact ⟨by assumption, by assumption, by assumption, by assumption, by assumption⟩); rintro e v4 ⟨rfl, ⟨t4a, t4b, t4c, t4d, t4e⟩, g4⟩) | (go_at_call 17; with_reducible refine Calls.mono (HRSum.out _ ?_) ?_; (first | assumption | exact ⟨f0, f2, e0, e1, bR⟩ | exact ⟨f0, f2, e0, e1, Below.drew bR⟩ | exact ⟨by assumption, by assumption, by assumption, by assumption, by assumption⟩); rintro e v5 ⟨rfl, ⟨t5a, t5b, t5c, t5d, t5e⟩, g5⟩) | (go_at_call 18; with_reducible refine Calls.mono (HBits.out _ ?_) ?_; (first | assumption | exact ⟨f0, f2, e0, e1, bR⟩ | exact ⟨f0, f2, e0, e1, Below.drew bR⟩ | exact ⟨by assumption, by assumption, by assumption, by assumption, by assumption⟩); rintro e v6 ⟨⟨B6, k6x, rfl, r6⟩, ⟨t6a, t6b, t6c, t6d, t6e⟩, g6⟩) | (go_at_call 19; with_reducible refine Calls.mono (HRBits.out _ ?_) ?_; (first | assumption | exact ⟨f0, f2, e0, e1, bR⟩ | exact ⟨f0, f2, e0, e1, Below.drew bR⟩ | exact ⟨by assumption, by assumption, by assumption, by assumption, by assumption⟩); rintro e v7 ⟨⟨B7, k7x, rfl, r7⟩, ⟨t7a, t7b, t7c, t7d, t7e⟩, g7⟩) | (go_at_call 13; with_reducible refine Calls.mono (HBy2.out _ _ _ _ _ (r6.out.on g7) r7.out ?_) ?_; (first | assumption | exact ⟨f0, f2, e0, e1, bR⟩ | exact ⟨f0, f2, e0, e1, Below.drew bR⟩ | exact ⟨by assumption, by assumption, by assumption, by assumption, by assumption⟩); rintro e v8 ⟨rfl, ⟨t8a, t8b, t8c, t8d, t8e⟩, g8⟩) | (go_at_call 20; with_reducible refine Calls.mono (HBo1.out _ ?_) ?_; (first | assumption | exact ⟨f0, f2, e0, e1, bR⟩ | exact ⟨f0, f2, e0, e1, Below.drew bR⟩ | exact ⟨by assumption, by assumption, by assumption, by assumption, by assumption⟩); rintro e v9 ⟨rfl, ⟨t9a, t9b, t9c, t9d, t9e⟩, g9⟩) | (go_at_call 13; with_reducible refine Calls.mono (HBy3.out _ ?_) ?_; (first | assumption | exact ⟨f0, f2, e0, e1, bR⟩ | exact ⟨f0, f2, e0, e1, Below.drew bR⟩ | exact ⟨by assumption, by assumption, by assumption, by assumption, by assumption⟩); rintro e v10 ⟨rfl, ⟨t10a, t10b, t10c, t10d, t10e⟩, g10⟩) | (go_at_call 20; with_reducible refine Calls.mono (HBo2.out _ ?_) ?_; (first | assumption | exact ⟨f0, f2, e0, e1, bR⟩ | exact ⟨f0, f2, e0, e1, Below.drew bR⟩ | exact ⟨by assumption, by assumption, by assumption, by assumption, by assumption⟩); rintro e v11 ⟨rfl, ⟨t11a, t11b, t11c, t11d, t11e⟩, g11⟩) | (go_at_call 8; with_reducible refine Calls.mono (HWk.out _ ?_) ?_; (first | assumption | exact ⟨f0, f2, e0, e1, bR⟩ | exact ⟨f0, f2, e0, e1, Below.drew bR⟩ | exact ⟨by assumption, by assumption, by assumption, by assumption, by assumption⟩); rintro e v12 ⟨rfl, ⟨t12a, t12b, t12c, t12d, t12e⟩, g12⟩))
  have b12 := bbF.trans (t12e.mono bbF.size)
  go_wp2_with fail
  go_ret
  exact ⟨rfl, b12⟩

theorem walk (b : List Nat) (n : Nat) (A : Option Addr) (c : Nat) (n0 n1 n2 : Int) (lb : List Bool) (m : Nat) (L : Option Addr) (d : Nat) (w : World) (hA : Shp A n c) (hL0 : Shp L m d) (hB : RB w w.heap.size A n b) (hL : RL w w.heap.size L m lb) :
    Calls Try.prog 3 #[.slice A n c, .agg #[.int .i64 n0, .int .i64 n1, .int .i64 n2], .slice L m d] w fun e w' => e = .returned (.bool true) ∧ Below w.heap.size w w' := by
  by_cases h1 : 500 < n
  · exact walk_a n A c n0 n1 n2 m L d w h1
  by_cases h2 : 500 < m
  · exact walk_b n A c n0 n1 n2 m L d w h1 h2
  exact walk_in b n A c n0 n1 n2 lb m L d w hA hL0 hB hL (by omega) (by omega)

/-! From the walk to the row. -/
set_option maxRecDepth 100000 in
theorem contract (H : Type) (enc : TypeId × Value → H) (W : World) (base : Nat) (args : Array Value) (ds gs : List (DataW H)) (before : List MemPlace)
    (hval0 : ∀ (j : Nat) t v, Try.f3.params[j]? = some t → args[j]? = some v → Value.okWide Try.prog W .any base t v)
    (hW : DataW.Whole enc Try.prog Try.f3.params.toList Rows.packTellsSpec.vars false W args.toList ds gs before) :
    Calls Try.prog 3 args W fun e W' => ∃ v, e = .returned v ∧ Rows.packTellsSpec.post enc Try.prog Try.f3 false true false false W args v W' := by
  have hval : ∀ (j : Nat) t v, Try.f3.params[j]? = some t → args[j]? = some v → Value.okWide Try.prog W .any base t v := hval0
  have hW' := hW
  obtain ⟨p, q, hA0, hV, rfl, hfz, hnd⟩ := hW
  have hA : DataW.TrodAll enc Try.prog W 0 (fun _ => true) true Try.f3.params.toList args.toList ds p := hA0
  rw [Try.params3] at hA hval
  obtain ⟨v0, vs0, d0, ds0, p0, q0, hargs, rfl, rfl, h0, r0⟩ := trodAll_cons hA
  obtain ⟨v1, vs1, d1, ds1, p1, q1, rfl, rfl, rfl, h1, r1⟩ := trodAll_cons r0
  obtain ⟨v2, vs2, d2, ds2, p2, q2, rfl, rfl, rfl, h2, r2⟩ := trodAll_cons r1
  obtain ⟨rfl, rfl, rfl⟩ := trodAll_nil r2
  obtain rfl : args = #[v0, v1, v2] := by cases args; simp_all
  obtain ⟨rfl, rfl⟩ := trodVars_none hV
  obtain ⟨a0, len0, cap0, rfl⟩ := okWide_slice Try.underlying22 (hval 0 22 v0 rfl rfl)
  have k0 := h0
  have lt0 : ∀ x ∈ p0, x.block < W.heap.size := by obtain ⟨m, hm⟩ := k0; exact DataW.trod_lt m _ _ _ hm
  obtain ⟨l0, hl0, hs0, hr0⟩ : ∃ l, l.length = len0 ∧ Shp a0 len0 cap0 ∧ RB W W.heap.size a0 len0 l := by
    obtain ⟨fuel, hf⟩ := h0
    exact open_bytes (by simpa [Value.cells] using hf)
  obtain ⟨cs1, rfl⟩ := okWide_arr Try.underlying23 (hval 1 23 v1 rfl rfl)
  have k1 := h1
  have lt1 : ∀ x ∈ p1, x.block < W.heap.size := by obtain ⟨m, hm⟩ := k1; exact DataW.trod_lt m _ _ _ hm
  obtain ⟨x1, y1, z1, e1⟩ : ∃ x y z : Int, cs1.toList = [.int .i64 x, .int .i64 y, .int .i64 z] := by
    obtain ⟨fuel, hf⟩ := h1
    exact open_arr3 (by simpa [Value.cells] using hf)
  obtain rfl : cs1 = #[.int .i64 x1, .int .i64 y1, .int .i64 z1] := by cases cs1; simp_all
  obtain ⟨a2, len2, cap2, rfl⟩ := okWide_slice Try.underlying24 (hval 2 24 v2 rfl rfl)
  have k2 := h2
  have lt2 : ∀ x ∈ p2, x.block < W.heap.size := by obtain ⟨m, hm⟩ := k2; exact DataW.trod_lt m _ _ _ hm
  obtain ⟨l2, hl2, hs2, hr2⟩ : ∃ l, l.length = len2 ∧ Shp a2 len2 cap2 ∧ RL W W.heap.size a2 len2 l := by
    obtain ⟨fuel, hf⟩ := h2
    exact open_bools (by simpa [Value.cells] using hf)
  clear hA0 hval0
  refine (walk l0 len0 a0 cap0 x1 y1 z1 l2 len2 a2 cap2 W hs0 hs2 hr0 hr2).mono fun e W' ⟨he, bel⟩ => ?_
  subst he
  exact ⟨_, rfl, _, _, _, [], _, [], hW', trodAll_mk1 (shut_bool Try.underlying4 _), (trodAll_cons_mk (Below.trod laidOut (by kernel_rfl) (of_decide_eq_true (by kernel_rfl)) k0 bel lt0) (trodAll_cons_mk (Below.trod laidOut (by kernel_rfl) (of_decide_eq_true (by kernel_rfl)) k1 bel lt1) (trodAll_cons_mk (Below.trod laidOut (by kernel_rfl) (of_decide_eq_true (by kernel_rfl)) k2 bel lt2) trodAll_mk0))), rfl, bel.frame _, fun h => by cases h⟩

set_option maxRecDepth 100000 in
theorem lifted (os : Os) (started : os.Started) (H : Type) (enc : TypeId × Value → H) :
    ReturnsInHanded {} Try.checked os 3 .any (Rows.packTellsSpec.pre6 enc Try.prog Try.f3 Rows.packTellsRow.domain false) (Rows.packTellsSpec.post enc Try.prog Try.f3 false true false false) := by
  refine returnsInHanded_of_change (C := Try.checked) own started (by kernel_rfl) Try.func3
    (ChangeSpec.witness6 (enc := enc) (C := Try.checked) false ⟨#[], #[.slice none 0 0, .agg #[.int .i64 0, .int .i64 0, .int .i64 0], .slice none 0 0], []⟩ 8 (by kernel_rfl) (by kernel_rfl) (by kernel_rfl) (by kernel_rfl)) ?_
  intro W base args ds gs before hval hW _ _
  exact contract H enc W base args ds gs before hval hW

set_option maxRecDepth 100000 in
theorem over : Rows.packTellsRow.holds Try.pinned (OpenSpec.ofChange Rows.packTellsSpec) :=
  OpenClaim.holds_of_wide 3 Try.f3 rfl rfl rfl rfl rfl rfl rfl ⟨rfl, rfl, rfl, rfl, rfl⟩ rfl rfl rfl rfl rfl (by kernel_rfl) Try.func3 (by kernel_rfl)
    (of_decide_eq_true (by kernel_rfl)) (by unfold Func.isWrapper; first | (rw [if_pos (by decide +kernel)]; kernel_rfl) | (rw [if_neg (by decide +kernel)]; exact ⟨rfl, rfl⟩))
    (fun os started H enc _ => lifted os started H enc)
end Go.Proofs.Ytjhcjdgmhggimaa.packTells

namespace Go.Proofs.Ytjhcjdgmhggimaa
/-- The given statement, under a short name. -/
theorem packTells_holds : Rows.PackTellsSaid := packTells.over
#print axioms packTells_holds
end Go.Proofs.Ytjhcjdgmhggimaa
