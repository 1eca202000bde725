/- The law RefineTells returns true at all sets, parts, bands and numbers: the parts of any sets, the bands of any parts, the class of any number by any bands, the parts within any sets, or that there are none, are the document's. Conditions: none; nothing that was there before the call is changed. -/
import Derived.Test.YthaageiflimnnaaGrpU
import Derived.Test.YthaageiflimnnaaGrpH
namespace Go.Proofs.Ythaageiflimnnaa.refineTells
open Go.ChangeShapes Go.WideShapes Go.ChangeAt Go.RowKit Go.BigFrame
set_option linter.unusedVariables false
set_option linter.unusedSimpArgs false
theorem copy_n {w : World} {B n : Nat} {A : Option Addr} {H : List Hd} {L : List (List Rg)} (h : Nest w B A n H) (e : setsOf H = L) (ht : tot L ≤ 150) : ∀ x ∈ H, x.n ≤ 150 := fun x hx => by
  have h1 := mem_le_sum (lens H) x.n (List.mem_map.2 ⟨x, hx, rfl⟩)
  rw [← tot_lens h, e] at h1
  omega
set_option maxRecDepth 100000 in
set_option maxHeartbeats 8000000 in
theorem walk_a (G : List Hd) (n : Nat) (A : Option Addr) (c : Nat) (K : List Hd) (m : Nat) (B : Option Addr) (d : Nat) (bs : List Rg) (k : Nat) (hk : bs.length = k) (E : Option Addr) (f : Nat) (v : Int) (w : World) (hG : Nest w w.heap.size A n G) (hK : Nest w w.heap.size B m K) (hR : Reads w w.heap.size 2 E k (rcells bs)) (hf : fairB G = false) :
    Calls Try.prog 3 #[.slice A n c, .slice B m d, .agg #[.slice E k f, .int .i64 v]] w fun e w' => e = .returned (.bool true) ∧ Below w.heap.size w w' := by
  have fg_0 := Lib.hid (hG)
  have fh_0 := Lib.hid (hK)
  have fr_0 := Lib.hid (hR)
  have bb_0 : Below w.heap.size w w := Below.refl _ _
  clear hG hK hR
  go_enter Try.func3, Try.ntmps3
  go_wp2_with fail
  have g_1 : Below w.heap.size w (w.alloc (.cells #[.slice E k f, .int .i64 v] 25)) := below_new _ _
  have fg_1 := Lib.hid (fg_0.out.on g_1)
  have fh_1 := Lib.hid (fh_0.out.on g_1)
  have fr_1 := Lib.hid (reads_on fr_0.out g_1)
  have bb_1 := bb_0.trans (g_1.mono bb_0.size)
  have x0_1 : Hid ((w.alloc (.cells #[.slice E k f, .int .i64 v] 25)).cell? ⟨w.heap.size, 0, none⟩ = some (.slice E k f)) := Lib.hid (by simp)
  have x1_1 : Hid ((w.alloc (.cells #[.slice E k f, .int .i64 v] 25)).cell? ⟨w.heap.size, 1, none⟩ = some (.int .i64 v)) := Lib.hid (by simp)
  clear fg_0 fh_0 fr_0 bb_0 g_1
  have hz_1 : (w.alloc (.cells #[.slice E k f, .int .i64 v] 25)).heap.size = w.heap.size + 1 := by simp
  generalize w.alloc (.cells #[.slice E k f, .int .i64 v] 25) = W1 at *
  have HFG := Lib.hid (fair_n G n A c W1 fg_1.out)
  rw [hf] at HFG
  refine HFG.out.mono ?_
  rintro e w1 ⟨rfl, rfl⟩
  clear HFG
  go_wp2_with fail
  refine (wakes_any _).mono ?_
  rintro e W2 ⟨rfl, g⟩
  have fg_2 := Lib.hid (fg_1.out.on g)
  have fh_2 := Lib.hid (fh_1.out.on g)
  have fr_2 := Lib.hid (reads_on fr_1.out g)
  have x0_2 := Lib.hid (kept_cell g x0_1.out)
  have x1_2 := Lib.hid (kept_cell g x1_1.out)
  have bb_2 := bb_1.trans (g.mono bb_1.size)
  clear fg_1 fh_1 fr_1 x0_1 x1_1 bb_1 g
  go_wp2_with fail
  go_ret
  exact ⟨rfl, bb_2⟩
set_option maxRecDepth 100000 in
set_option maxHeartbeats 8000000 in
theorem walk_b (G : List Hd) (n : Nat) (A : Option Addr) (c : Nat) (K : List Hd) (m : Nat) (B : Option Addr) (d : Nat) (bs : List Rg) (k : Nat) (hk : bs.length = k) (E : Option Addr) (f : Nat) (v : Int) (w : World) (hG : Nest w w.heap.size A n G) (hK : Nest w w.heap.size B m K) (hR : Reads w w.heap.size 2 E k (rcells bs)) (hf : fairB G = true) (hf2 : fairB K = false) :
    Calls Try.prog 3 #[.slice A n c, .slice B m d, .agg #[.slice E k f, .int .i64 v]] w fun e w' => e = .returned (.bool true) ∧ Below w.heap.size w w' := by
  have fg_0 := Lib.hid (hG)
  have fh_0 := Lib.hid (hK)
  have fr_0 := Lib.hid (hR)
  have bb_0 : Below w.heap.size w w := Below.refl _ _
  clear hG hK hR
  go_enter Try.func3, Try.ntmps3
  go_wp2_with fail
  have g_1 : Below w.heap.size w (w.alloc (.cells #[.slice E k f, .int .i64 v] 25)) := below_new _ _
  have fg_1 := Lib.hid (fg_0.out.on g_1)
  have fh_1 := Lib.hid (fh_0.out.on g_1)
  have fr_1 := Lib.hid (reads_on fr_0.out g_1)
  have bb_1 := bb_0.trans (g_1.mono bb_0.size)
  have x0_1 : Hid ((w.alloc (.cells #[.slice E k f, .int .i64 v] 25)).cell? ⟨w.heap.size, 0, none⟩ = some (.slice E k f)) := Lib.hid (by simp)
  have x1_1 : Hid ((w.alloc (.cells #[.slice E k f, .int .i64 v] 25)).cell? ⟨w.heap.size, 1, none⟩ = some (.int .i64 v)) := Lib.hid (by simp)
  clear fg_0 fh_0 fr_0 bb_0 g_1
  have hz_1 : (w.alloc (.cells #[.slice E k f, .int .i64 v] 25)).heap.size = w.heap.size + 1 := by simp
  generalize w.alloc (.cells #[.slice E k f, .int .i64 v] 25) = W1 at *
  have HFG := Lib.hid (fair_n G n A c W1 fg_1.out)
  rw [hf] at HFG
  refine HFG.out.mono ?_
  rintro e w1 ⟨rfl, rfl⟩
  clear HFG
  go_wp2_with fail
  have HFK := Lib.hid (fair_n K m B d W1 fh_1.out)
  rw [hf2] at HFK
  refine HFK.out.mono ?_
  rintro e w1 ⟨rfl, rfl⟩
  clear HFK
  go_wp2_with fail
  refine (wakes_any _).mono ?_
  rintro e W2 ⟨rfl, g⟩
  have fg_2 := Lib.hid (fg_1.out.on g)
  have fh_2 := Lib.hid (fh_1.out.on g)
  have fr_2 := Lib.hid (reads_on fr_1.out g)
  have x0_2 := Lib.hid (kept_cell g x0_1.out)
  have x1_2 := Lib.hid (kept_cell g x1_1.out)
  have bb_2 := bb_1.trans (g.mono bb_1.size)
  clear fg_1 fh_1 fr_1 x0_1 x1_1 bb_1 g
  go_wp2_with fail
  go_ret
  exact ⟨rfl, bb_2⟩
set_option maxRecDepth 100000 in
set_option maxHeartbeats 8000000 in
theorem walk_c (G : List Hd) (n : Nat) (A : Option Addr) (c : Nat) (K : List Hd) (m : Nat) (B : Option Addr) (d : Nat) (bs : List Rg) (k : Nat) (hk : bs.length = k) (E : Option Addr) (f : Nat) (v : Int) (w : World) (hG : Nest w w.heap.size A n G) (hK : Nest w w.heap.size B m K) (hR : Reads w w.heap.size 2 E k (rcells bs)) (hf : fairB G = true) (hf2 : fairB K = true) (hk2 : 200 < k) :
    Calls Try.prog 3 #[.slice A n c, .slice B m d, .agg #[.slice E k f, .int .i64 v]] w fun e w' => e = .returned (.bool true) ∧ Below w.heap.size w w' := by
  have fg_0 := Lib.hid (hG)
  have fh_0 := Lib.hid (hK)
  have fr_0 := Lib.hid (hR)
  have bb_0 : Below w.heap.size w w := Below.refl _ _
  clear hG hK hR
  go_enter Try.func3, Try.ntmps3
  go_wp2_with fail
  have g_1 : Below w.heap.size w (w.alloc (.cells #[.slice E k f, .int .i64 v] 25)) := below_new _ _
  have fg_1 := Lib.hid (fg_0.out.on g_1)
  have fh_1 := Lib.hid (fh_0.out.on g_1)
  have fr_1 := Lib.hid (reads_on fr_0.out g_1)
  have bb_1 := bb_0.trans (g_1.mono bb_0.size)
  have x0_1 : Hid ((w.alloc (.cells #[.slice E k f, .int .i64 v] 25)).cell? ⟨w.heap.size, 0, none⟩ = some (.slice E k f)) := Lib.hid (by simp)
  have x1_1 : Hid ((w.alloc (.cells #[.slice E k f, .int .i64 v] 25)).cell? ⟨w.heap.size, 1, none⟩ = some (.int .i64 v)) := Lib.hid (by simp)
  clear fg_0 fh_0 fr_0 bb_0 g_1
  have hz_1 : (w.alloc (.cells #[.slice E k f, .int .i64 v] 25)).heap.size = w.heap.size + 1 := by simp
  generalize w.alloc (.cells #[.slice E k f, .int .i64 v] 25) = W1 at *
  have HFG := Lib.hid (fair_n G n A c W1 fg_1.out)
  rw [hf] at HFG
  refine HFG.out.mono ?_
  rintro e w1 ⟨rfl, rfl⟩
  clear HFG
  go_wp2_with fail
  have HFK := Lib.hid (fair_n K m B d W1 fh_1.out)
  rw [hf2] at HFK
  refine HFK.out.mono ?_
  rintro e w1 ⟨rfl, rfl⟩
  clear HFK
  have px := x0_1.out
  go_wp2_with fail
  clear px
  refine (wakes_any _).mono ?_
  rintro e W2 ⟨rfl, g⟩
  have fg_2 := Lib.hid (fg_1.out.on g)
  have fh_2 := Lib.hid (fh_1.out.on g)
  have fr_2 := Lib.hid (reads_on fr_1.out g)
  have x0_2 := Lib.hid (kept_cell g x0_1.out)
  have x1_2 := Lib.hid (kept_cell g x1_1.out)
  have bb_2 := bb_1.trans (g.mono bb_1.size)
  clear fg_1 fh_1 fr_1 x0_1 x1_1 bb_1 g
  go_wp2_with fail
  go_ret
  exact ⟨rfl, bb_2⟩
set_option maxRecDepth 100000 in
set_option maxHeartbeats 8000000 in
theorem walk_d (G : List Hd) (n : Nat) (A : Option Addr) (c : Nat) (K : List Hd) (m : Nat) (B : Option Addr) (d : Nat) (bs : List Rg) (k : Nat) (hk : bs.length = k) (E : Option Addr) (f : Nat) (v : Int) (w : World) (hG : Nest w w.heap.size A n G) (hK : Nest w w.heap.size B m K) (hR : Reads w w.heap.size 2 E k (rcells bs)) (hf : fairB G = true) (hf2 : fairB K = true) (hk2 : k ≤ 200) :
    Calls Try.prog 3 #[.slice A n c, .slice B m d, .agg #[.slice E k f, .int .i64 v]] w fun e w' => e = .returned (.bool true) ∧ Below w.heap.size w w' := by
  obtain ⟨f1, f2, f3⟩ := fair_facts hf
  obtain ⟨f4, f5, f6⟩ := fair_facts hf2
  have hn : n ≤ 150 := by rw [← hG.1]; exact f1
  have hm : m ≤ 150 := by rw [← hK.1]; exact f4
  have HM1 := Lib.hid f2
  have HM2 := Lib.hid f5
  have HT1 : Hid (tot (setsOf G) ≤ 150) := Lib.hid (by rw [tot_lens hG]; exact f3)
  have HT2 : Hid (tot (setsOf K) ≤ 150) := Lib.hid (by rw [tot_lens hK]; exact f6)
  have HLk := Lib.hid hk
  have HLn : Hid ((setsOf G).length = n) := Lib.hid hG.len.symm
  have HLm : Hid ((setsOf K).length = m) := Lib.hid hK.len.symm
  clear f1 f2 f3 f4 f5 f6 hk
  have fg_0 := Lib.hid (hG)
  have fh_0 := Lib.hid (hK)
  have fr_0 := Lib.hid (hR)
  have bb_0 : Below w.heap.size w w := Below.refl _ _
  clear hG hK hR
  go_enter Try.func3, Try.ntmps3
  go_wp2_with fail
  have g_1 : Below w.heap.size w (w.alloc (.cells #[.slice E k f, .int .i64 v] 25)) := below_new _ _
  have fg_1 := Lib.hid (fg_0.out.on g_1)
  have fh_1 := Lib.hid (fh_0.out.on g_1)
  have fr_1 := Lib.hid (reads_on fr_0.out g_1)
  have bb_1 := bb_0.trans (g_1.mono bb_0.size)
  have x0_1 : Hid ((w.alloc (.cells #[.slice E k f, .int .i64 v] 25)).cell? ⟨w.heap.size, 0, none⟩ = some (.slice E k f)) := Lib.hid (by simp)
  have x1_1 : Hid ((w.alloc (.cells #[.slice E k f, .int .i64 v] 25)).cell? ⟨w.heap.size, 1, none⟩ = some (.int .i64 v)) := Lib.hid (by simp)
  clear fg_0 fh_0 fr_0 bb_0 g_1
  have hz_1 : (w.alloc (.cells #[.slice E k f, .int .i64 v] 25)).heap.size = w.heap.size + 1 := by simp
  generalize w.alloc (.cells #[.slice E k f, .int .i64 v] 25) = W1 at *
  have HFG := Lib.hid (fair_n G n A c W1 fg_1.out)
  rw [hf] at HFG
  refine HFG.out.mono ?_
  rintro e w1 ⟨rfl, rfl⟩
  clear HFG
  go_wp2_with fail
  have HFK := Lib.hid (fair_n K m B d W1 fh_1.out)
  rw [hf2] at HFK
  refine HFK.out.mono ?_
  rintro e w1 ⟨rfl, rfl⟩
  clear HFK
  have px := x0_1.out
  clear hf hf2
  go_wp2_with fail
  clear px
  refine (ownSets_n G n A c _ fg_1.out (by omega) (fun h hh => by have := HM1.out h hh; omega)).mono ?_
  rintro e W2 ⟨A1, c1, G1, rfl, hs1, hn1, _, g⟩
  have fg_2 := Lib.hid (fg_1.out.on g)
  have fh_2 := Lib.hid (fh_1.out.on g)
  have fr_2 := Lib.hid (reads_on fr_1.out g)
  have x0_2 := Lib.hid (kept_cell g x0_1.out)
  have x1_2 := Lib.hid (kept_cell g x1_1.out)
  have bb_2 := bb_1.trans (g.mono bb_1.size)
  have fi_2 := Lib.hid (hn1)
  clear fg_1 fh_1 fr_1 x0_1 x1_1 bb_1 g
  have HS1 := Lib.hid hs1
  have HB1 : Hid (∀ h ∈ G1, h.n ≤ 150) := Lib.hid (copy_n hn1 hs1 HT1.out)
  clear hs1 hn1
  go_wp2_with fail
  refine (ownSets_n K m B d _ fh_2.out (by omega) (fun h hh => by have := HM2.out h hh; omega)).mono ?_
  rintro e W3 ⟨A2, c2, K1, rfl, hs2, hn2, _, g⟩
  have fg_3 := Lib.hid (fg_2.out.on g)
  have fh_3 := Lib.hid (fh_2.out.on g)
  have fr_3 := Lib.hid (reads_on fr_2.out g)
  have x0_3 := Lib.hid (kept_cell g x0_2.out)
  have x1_3 := Lib.hid (kept_cell g x1_2.out)
  have fi_3 := Lib.hid (fi_2.out.on g)
  have bb_3 := bb_2.trans (g.mono bb_2.size)
  have fj_3 := Lib.hid (hn2)
  clear fg_2 fh_2 fr_2 x0_2 x1_2 fi_2 bb_2 g
  have HS2 := Lib.hid hs2
  have HB2 : Hid (∀ h ∈ K1, h.n ≤ 150) := Lib.hid (copy_n hn2 hs2 HT2.out)
  clear hs2 hn2
  go_wp2_with fail
  have HC := Lib.hid (parts_n G1 n A1 c1 _ fi_3.out (by omega) (fun h hh => by have := HB1.out h hh; omega) (by rw [HS1.out]; have := HT1.out; omega))
  rw [HS1.out] at HC
  refine (HC.out.mono fun _ _ h => flatP_of (by have := HT1.out; omega) h).mono ?_
  rintro e W4 ⟨A3, c3, z3, H3, rfl, hs3, hb3, hz3, hn3, g⟩
  have fg_4 := Lib.hid (fg_3.out.on g)
  have fh_4 := Lib.hid (fh_3.out.on g)
  have fr_4 := Lib.hid (reads_on fr_3.out g)
  have x0_4 := Lib.hid (kept_cell g x0_3.out)
  have x1_4 := Lib.hid (kept_cell g x1_3.out)
  have fi_4 := Lib.hid (fi_3.out.on g)
  have fj_4 := Lib.hid (fj_3.out.on g)
  have bb_4 := bb_3.trans (g.mono bb_3.size)
  have fp_4 := Lib.hid (hn3)
  clear fg_3 fh_3 fr_3 x0_3 x1_3 fi_3 fj_3 bb_3 g
  have HS3 := Lib.hid hs3
  have HB3 := Lib.hid hb3
  clear hs3 hn3 hb3 HC
  go_wp2_with fail
  refine ((refParts_n G n A c _ fg_4.out (by omega) (fun h hh => by have := HM1.out h hh; omega) (by have := HT1.out; omega)).mono fun _ _ h => flatP_of (by have := HT1.out; omega) h).mono ?_
  rintro e W5 ⟨A4, c4, z4, H4, rfl, hs4, hb4, hz4, hn4, g⟩
  have fg_5 := Lib.hid (fg_4.out.on g)
  have fh_5 := Lib.hid (fh_4.out.on g)
  have fr_5 := Lib.hid (reads_on fr_4.out g)
  have x0_5 := Lib.hid (kept_cell g x0_4.out)
  have x1_5 := Lib.hid (kept_cell g x1_4.out)
  have fi_5 := Lib.hid (fi_4.out.on g)
  have fj_5 := Lib.hid (fj_4.out.on g)
  have fp_5 := Lib.hid (fp_4.out.on g)
  have bb_5 := bb_4.trans (g.mono bb_4.size)
  have fq_5 := Lib.hid (hn4)
  clear fg_4 fh_4 fr_4 x0_4 x1_4 fi_4 fj_4 fp_4 bb_4 g
  have HS4 := Lib.hid hs4
  clear hs4 hn4 hb4
  go_wp2_with fail
  have HC := Lib.hid (bands_flat K1 m A2 c2 _ fj_5.out (by omega) (fun h hh => by have := HB2.out h hh; omega) (by rw [HS2.out]; have := HT2.out; omega))
  rw [HS2.out] at HC
  refine (HC.out).mono ?_
  rintro e W6 ⟨A5, c5, z5, rfl, hl5, hz5, hr5, g⟩
  have fg_6 := Lib.hid (fg_5.out.on g)
  have fh_6 := Lib.hid (fh_5.out.on g)
  have fr_6 := Lib.hid (reads_on fr_5.out g)
  have x0_6 := Lib.hid (kept_cell g x0_5.out)
  have x1_6 := Lib.hid (kept_cell g x1_5.out)
  have fi_6 := Lib.hid (fi_5.out.on g)
  have fj_6 := Lib.hid (fj_5.out.on g)
  have fp_6 := Lib.hid (fp_5.out.on g)
  have fq_6 := Lib.hid (fq_5.out.on g)
  have bb_6 := bb_5.trans (g.mono bb_5.size)
  have fs_6 := Lib.hid (hr5)
  clear fg_5 fh_5 fr_5 x0_5 x1_5 fi_5 fj_5 fp_5 fq_5 bb_5 g
  have HL5 := Lib.hid hl5
  clear hl5 hr5 HC
  go_wp2_with fail
  refine ((refBands_n K m B d _ fh_6.out (by omega) (fun h hh => by have := HM2.out h hh; omega) (by have := HT2.out; omega)).mono fun _ _ h => flatB_of h).mono ?_
  rintro e W7 ⟨A6, c6, z6, rfl, hl6, hz6, hr6, g⟩
  have fg_7 := Lib.hid (fg_6.out.on g)
  have fh_7 := Lib.hid (fh_6.out.on g)
  have fr_7 := Lib.hid (reads_on fr_6.out g)
  have x0_7 := Lib.hid (kept_cell g x0_6.out)
  have x1_7 := Lib.hid (kept_cell g x1_6.out)
  have fi_7 := Lib.hid (fi_6.out.on g)
  have fj_7 := Lib.hid (fj_6.out.on g)
  have fp_7 := Lib.hid (fp_6.out.on g)
  have fq_7 := Lib.hid (fq_6.out.on g)
  have fs_7 := Lib.hid (reads_on fs_6.out g)
  have bb_7 := bb_6.trans (g.mono bb_6.size)
  have ft_7 := Lib.hid (hr6)
  clear fg_6 fh_6 fr_6 x0_6 x1_6 fi_6 fj_6 fp_6 fq_6 fs_6 bb_6 g
  have HL6 := Lib.hid hl6
  clear hl6 hr6
  have px := x0_7.out
  have py := x1_7.out
  go_wp2_with fail
  clear px py
  refine (of_n bs k HLk.out E f v _ fr_7.out (by omega)).mono ?_
  rintro e W8 ⟨rfl, g⟩
  have fg_8 := Lib.hid (fg_7.out.on g)
  have fh_8 := Lib.hid (fh_7.out.on g)
  have fr_8 := Lib.hid (reads_on fr_7.out g)
  have x0_8 := Lib.hid (kept_cell g x0_7.out)
  have x1_8 := Lib.hid (kept_cell g x1_7.out)
  have fi_8 := Lib.hid (fi_7.out.on g)
  have fj_8 := Lib.hid (fj_7.out.on g)
  have fp_8 := Lib.hid (fp_7.out.on g)
  have fq_8 := Lib.hid (fq_7.out.on g)
  have fs_8 := Lib.hid (reads_on fs_7.out g)
  have ft_8 := Lib.hid (reads_on ft_7.out g)
  have bb_8 := bb_7.trans (g.mono bb_7.size)
  clear fg_7 fh_7 fr_7 x0_7 x1_7 fi_7 fj_7 fp_7 fq_7 fs_7 ft_7 bb_7 g
  have px := x0_8.out
  have py := x1_8.out
  go_wp2_with fail
  clear px py
  refine (refOf_n bs k HLk.out E f v _ fr_8.out (by omega)).mono ?_
  rintro e w1 ⟨rfl, rfl⟩
  go_wp2_with fail
  have HC := Lib.hid (within_n G1 n A1 c1 K1 m A2 c2 _ fi_8.out fj_8.out (by omega) (by omega) (fun h hh => by have := HB1.out h hh; omega) (fun h hh => by have := HB2.out h hh; omega))
  rw [HS1.out, HS2.out] at HC
  refine (HC.out.mono fun _ _ h => flatW_wi h).mono ?_
  rintro e W9 ⟨A7, c7, z7, H7, rfl, hs7, hn7, g⟩
  have fg_9 := Lib.hid (fg_8.out.on g)
  have fh_9 := Lib.hid (fh_8.out.on g)
  have fr_9 := Lib.hid (reads_on fr_8.out g)
  have x0_9 := Lib.hid (kept_cell g x0_8.out)
  have x1_9 := Lib.hid (kept_cell g x1_8.out)
  have fi_9 := Lib.hid (fi_8.out.on g)
  have fj_9 := Lib.hid (fj_8.out.on g)
  have fp_9 := Lib.hid (fp_8.out.on g)
  have fq_9 := Lib.hid (fq_8.out.on g)
  have fs_9 := Lib.hid (reads_on fs_8.out g)
  have ft_9 := Lib.hid (reads_on ft_8.out g)
  have bb_9 := bb_8.trans (g.mono bb_8.size)
  have fu_9 := Lib.hid (hn7)
  clear fg_8 fh_8 fr_8 x0_8 x1_8 fi_8 fj_8 fp_8 fq_8 fs_8 ft_8 bb_8 g
  have HS7 := Lib.hid hs7
  have hz7 : z7 ≤ 150 := by have h1 := (withR_len (L := setsOf G) (P := setsOf K)).1; rw [← hs7, HLn.out] at h1; rw [← hn7.1]; simp [listsOf] at h1; omega
  have HB7 : Hid (∀ h ∈ H7, h.n ≤ 1048576) := Lib.hid (fun h hh => by
    have h1 := (withR_len (L := setsOf G) (P := setsOf K)).2 h.l (by rw [← hs7]; exact List.mem_map.2 ⟨h, hh, rfl⟩)
    rw [HLm.out, (hn7.2.2 h hh).1] at h1
    omega)
  clear hs7 hn7 HC
  go_wp2_with fail
  refine ((refWithin_n G n A c K m B d _ fg_9.out fh_9.out (by omega) (by omega) (fun h hh => by have := HM1.out h hh; omega) (fun h hh => by have := HM2.out h hh; omega)).mono fun _ _ h => flatW_of h).mono ?_
  rintro e W10 ⟨A8, c8, z8, H8, rfl, hs8, hn8, g⟩
  have fg_10 := Lib.hid (fg_9.out.on g)
  have fh_10 := Lib.hid (fh_9.out.on g)
  have fr_10 := Lib.hid (reads_on fr_9.out g)
  have x0_10 := Lib.hid (kept_cell g x0_9.out)
  have x1_10 := Lib.hid (kept_cell g x1_9.out)
  have fi_10 := Lib.hid (fi_9.out.on g)
  have fj_10 := Lib.hid (fj_9.out.on g)
  have fp_10 := Lib.hid (fp_9.out.on g)
  have fq_10 := Lib.hid (fq_9.out.on g)
  have fs_10 := Lib.hid (reads_on fs_9.out g)
  have ft_10 := Lib.hid (reads_on ft_9.out g)
  have fu_10 := Lib.hid (fu_9.out.on g)
  have bb_10 := bb_9.trans (g.mono bb_9.size)
  have fy_10 := Lib.hid (hn8)
  clear fg_9 fh_9 fr_9 x0_9 x1_9 fi_9 fj_9 fp_9 fq_9 fs_9 ft_9 fu_9 bb_9 g
  have HS8 := Lib.hid hs8
  clear hs8 hn8
  have HOf := Lib.hid (of_both bs v)
  generalize ofN bs v = oN at *
  generalize ofB bs v = oB at *
  generalize ofI bs v = oI at *
  generalize (partsR (setsOf G)).isSome = b1 at *
  generalize (bandsR (setsOf K)).isSome = b2 at *
  generalize (withR (setsOf G) (setsOf K)).isSome = b3 at *
  have hb1 : (b1 == b1) = true := by simp
  have hb2 : (b2 == b2) = true := by simp
  have hb3 : (b3 == b3) = true := by simp
  rcases HOf.out with ⟨rfl, rfl, rfl⟩ | ⟨rfl, o, ol, rfl, eo⟩
  · clear HOf
    go_wp2_with fail
    refine (keepSets_yes fp_10.out fq_10.out (by omega) (fun h hh => by have := HB3.out h hh; omega) (HS3.out.trans HS4.out.symm)).mono ?_
    rintro e W11 ⟨rfl, g⟩
    have fg_11 := Lib.hid (fg_10.out.on g)
    have fh_11 := Lib.hid (fh_10.out.on g)
    have fi_11 := Lib.hid (fi_10.out.on g)
    have fj_11 := Lib.hid (fj_10.out.on g)
    have fs_11 := Lib.hid (reads_on fs_10.out g)
    have ft_11 := Lib.hid (reads_on ft_10.out g)
    have fu_11 := Lib.hid (fu_10.out.on g)
    have fy_11 := Lib.hid (fy_10.out.on g)
    have bb_11 := bb_10.trans (g.mono bb_10.size)
    clear fg_10 fh_10 fr_10 x0_10 x1_10 fi_10 fj_10 fp_10 fq_10 fs_10 ft_10 fu_10 fy_10 bb_10 g
    go_wp2_with fail
    refine (keepBands_yes HL5.out HL6.out fs_11.out ft_11.out (by omega) rfl).mono ?_
    rintro e W12 ⟨rfl, g⟩
    have fg_12 := Lib.hid (fg_11.out.on g)
    have fh_12 := Lib.hid (fh_11.out.on g)
    have fi_12 := Lib.hid (fi_11.out.on g)
    have fj_12 := Lib.hid (fj_11.out.on g)
    have fu_12 := Lib.hid (fu_11.out.on g)
    have fy_12 := Lib.hid (fy_11.out.on g)
    have bb_12 := bb_11.trans (g.mono bb_11.size)
    clear fg_11 fh_11 fi_11 fj_11 fs_11 ft_11 fu_11 fy_11 bb_11 g
    go_wp2_with fail
    refine (keepLists_yes fu_12.out fy_12.out (by omega) HB7.out (HS7.out.trans HS8.out.symm)).mono ?_
    rintro e W13 ⟨rfl, g⟩
    have fg_13 := Lib.hid (fg_12.out.on g)
    have fh_13 := Lib.hid (fh_12.out.on g)
    have fi_13 := Lib.hid (fi_12.out.on g)
    have fj_13 := Lib.hid (fj_12.out.on g)
    have bb_13 := bb_12.trans (g.mono bb_12.size)
    clear fg_12 fh_12 fi_12 fj_12 fu_12 fy_12 bb_12 g
    go_wp2_with fail
    refine (keepSets_yes fi_13.out fg_13.out (by omega) (fun h hh => by have := HB1.out h hh; omega) HS1.out).mono ?_
    rintro e W14 ⟨rfl, g⟩
    have fg_14 := Lib.hid (fg_13.out.on g)
    have fh_14 := Lib.hid (fh_13.out.on g)
    have fi_14 := Lib.hid (fi_13.out.on g)
    have fj_14 := Lib.hid (fj_13.out.on g)
    have bb_14 := bb_13.trans (g.mono bb_13.size)
    clear fg_13 fh_13 fi_13 fj_13 bb_13 g
    go_wp2_with fail
    refine (keepSets_yes fj_14.out fh_14.out (by omega) (fun h hh => by have := HB2.out h hh; omega) HS2.out).mono ?_
    rintro e W15 ⟨rfl, g⟩
    have fg_15 := Lib.hid (fg_14.out.on g)
    have fh_15 := Lib.hid (fh_14.out.on g)
    have fi_15 := Lib.hid (fi_14.out.on g)
    have fj_15 := Lib.hid (fj_14.out.on g)
    have bb_15 := bb_14.trans (g.mono bb_14.size)
    clear fg_14 fh_14 fi_14 fj_14 bb_14 g
    go_wp2_with fail
    refine (wakes_any _).mono ?_
    rintro e W16 ⟨rfl, g⟩
    have fg_16 := Lib.hid (fg_15.out.on g)
    have fh_16 := Lib.hid (fh_15.out.on g)
    have fi_16 := Lib.hid (fi_15.out.on g)
    have fj_16 := Lib.hid (fj_15.out.on g)
    have bb_16 := bb_15.trans (g.mono bb_15.size)
    clear fg_15 fh_15 fi_15 fj_15 bb_15 g
    go_wp2_with fail
    go_ret
    exact ⟨rfl, bb_16⟩
  · have okk : o < k := by rw [← HLk.out]; exact ol
    have Ho := Lib.hid eo
    clear HOf
    obtain ⟨be, oe, eE, _, _, pe⟩ := fr_10.out.rg ol
    rw [eo] at pe
    subst eE
    have px := x0_10.out
    have hne : (oN != oN) = false := by simp
    have hge : decide ((0 : Int) ≤ (o : Int)) = true := decide_eq_true (by omega)
    clear eo
    go_wp2_with fail
    refine (keepSets_yes fp_10.out fq_10.out (by omega) (fun h hh => by have := HB3.out h hh; omega) (HS3.out.trans HS4.out.symm)).mono ?_
    rintro e W11 ⟨rfl, g⟩
    have fg_11 := Lib.hid (fg_10.out.on g)
    have fh_11 := Lib.hid (fh_10.out.on g)
    have fi_11 := Lib.hid (fi_10.out.on g)
    have fj_11 := Lib.hid (fj_10.out.on g)
    have fs_11 := Lib.hid (reads_on fs_10.out g)
    have ft_11 := Lib.hid (reads_on ft_10.out g)
    have fu_11 := Lib.hid (fu_10.out.on g)
    have fy_11 := Lib.hid (fy_10.out.on g)
    have bb_11 := bb_10.trans (g.mono bb_10.size)
    clear fg_10 fh_10 fr_10 x0_10 x1_10 fi_10 fj_10 fp_10 fq_10 fs_10 ft_10 fu_10 fy_10 bb_10 g
    go_wp2_with fail
    refine (keepBands_yes HL5.out HL6.out fs_11.out ft_11.out (by omega) rfl).mono ?_
    rintro e W12 ⟨rfl, g⟩
    have fg_12 := Lib.hid (fg_11.out.on g)
    have fh_12 := Lib.hid (fh_11.out.on g)
    have fi_12 := Lib.hid (fi_11.out.on g)
    have fj_12 := Lib.hid (fj_11.out.on g)
    have fu_12 := Lib.hid (fu_11.out.on g)
    have fy_12 := Lib.hid (fy_11.out.on g)
    have bb_12 := bb_11.trans (g.mono bb_11.size)
    clear fg_11 fh_11 fi_11 fj_11 fs_11 ft_11 fu_11 fy_11 bb_11 g
    go_wp2_with fail
    refine (keepLists_yes fu_12.out fy_12.out (by omega) HB7.out (HS7.out.trans HS8.out.symm)).mono ?_
    rintro e W13 ⟨rfl, g⟩
    have fg_13 := Lib.hid (fg_12.out.on g)
    have fh_13 := Lib.hid (fh_12.out.on g)
    have fi_13 := Lib.hid (fi_12.out.on g)
    have fj_13 := Lib.hid (fj_12.out.on g)
    have bb_13 := bb_12.trans (g.mono bb_12.size)
    clear fg_12 fh_12 fi_12 fj_12 fu_12 fy_12 bb_12 g
    go_wp2_with fail
    refine (keepSets_yes fi_13.out fg_13.out (by omega) (fun h hh => by have := HB1.out h hh; omega) HS1.out).mono ?_
    rintro e W14 ⟨rfl, g⟩
    have fg_14 := Lib.hid (fg_13.out.on g)
    have fh_14 := Lib.hid (fh_13.out.on g)
    have fi_14 := Lib.hid (fi_13.out.on g)
    have fj_14 := Lib.hid (fj_13.out.on g)
    have bb_14 := bb_13.trans (g.mono bb_13.size)
    clear fg_13 fh_13 fi_13 fj_13 bb_13 g
    go_wp2_with fail
    refine (keepSets_yes fj_14.out fh_14.out (by omega) (fun h hh => by have := HB2.out h hh; omega) HS2.out).mono ?_
    rintro e W15 ⟨rfl, g⟩
    have fg_15 := Lib.hid (fg_14.out.on g)
    have fh_15 := Lib.hid (fh_14.out.on g)
    have fi_15 := Lib.hid (fi_14.out.on g)
    have fj_15 := Lib.hid (fj_14.out.on g)
    have bb_15 := bb_14.trans (g.mono bb_14.size)
    clear fg_14 fh_14 fi_14 fj_14 bb_14 g
    go_wp2_with fail
    refine (wakes_any _).mono ?_
    rintro e W16 ⟨rfl, g⟩
    have fg_16 := Lib.hid (fg_15.out.on g)
    have fh_16 := Lib.hid (fh_15.out.on g)
    have fi_16 := Lib.hid (fi_15.out.on g)
    have fj_16 := Lib.hid (fj_15.out.on g)
    have bb_16 := bb_15.trans (g.mono bb_15.size)
    clear fg_15 fh_15 fi_15 fj_15 bb_15 g
    go_wp2_with fail
    go_ret
    exact ⟨rfl, bb_16⟩
theorem walk (G : List Hd) (n : Nat) (A : Option Addr) (c : Nat) (K : List Hd) (m : Nat) (B : Option Addr) (d : Nat) (bs : List Rg) (k : Nat) (hk : bs.length = k) (E : Option Addr) (f : Nat) (v : Int) (w : World) (hG : Nest w w.heap.size A n G) (hK : Nest w w.heap.size B m K) (hR : Reads w w.heap.size 2 E k (rcells bs)) :
    Calls Try.prog 3 #[.slice A n c, .slice B m d, .agg #[.slice E k f, .int .i64 v]] w fun e w' => e = .returned (.bool true) ∧ Below w.heap.size w w' := by
  cases hf : fairB G
  · exact walk_a G n A c K m B d bs k hk E f v w hG hK hR hf
  · cases hf2 : fairB K
    · exact walk_b G n A c K m B d bs k hk E f v w hG hK hR hf hf2
    · by_cases hk2 : k ≤ 200
      · exact walk_d G n A c K m B d bs k hk E f v w hG hK hR hf hf2 hk2
      · exact walk_c G n A c K m B d bs k hk E f v w hG hK hR hf hf2 (by omega)

/-! From the walk to the row. -/
set_option maxRecDepth 100000 in
theorem contract (H : Type) (enc : TypeId × Value → H) (W : World) (base : Nat) (args : Array Value) (ds gs : List (DataW H)) (before : List MemPlace)
    (hval0 : ∀ (j : Nat) t v, Try.f3.params[j]? = some t → args[j]? = some v → Value.okWide Try.prog W .any base t v)
    (hW : DataW.Whole enc Try.prog Try.f3.params.toList Rows.refineTellsSpec.vars false W args.toList ds gs before) :
    Calls Try.prog 3 args W fun e W' => ∃ v, e = .returned v ∧ Rows.refineTellsSpec.post enc Try.prog Try.f3 false true false false W args v W' := by
  have hval : ∀ (j : Nat) t v, Try.f3.params[j]? = some t → args[j]? = some v → Value.okWide Try.prog W .any base t v := hval0
  have hW' := hW
  obtain ⟨p, q, hA0, hV, rfl, hfz, hnd⟩ := hW
  have hA : DataW.TrodAll enc Try.prog W 0 (fun _ => true) true Try.f3.params.toList args.toList ds p := hA0
  rw [Try.params3] at hA hval
  obtain ⟨v0, vs0, d0, ds0, p0, q0, hargs, rfl, rfl, h0, r0⟩ := trodAll_cons hA
  obtain ⟨v1, vs1, d1, ds1, p1, q1, rfl, rfl, rfl, h1, r1⟩ := trodAll_cons r0
  obtain ⟨v2, vs2, d2, ds2, p2, q2, rfl, rfl, rfl, h2, r2⟩ := trodAll_cons r1
  obtain ⟨rfl, rfl, rfl⟩ := trodAll_nil r2
  obtain rfl : args = #[v0, v1, v2] := by cases args; simp_all
  obtain ⟨rfl, rfl⟩ := trodVars_none hV
  obtain ⟨a0, len0, cap0, rfl⟩ := okWide_slice Try.underlying22 (hval 0 22 v0 rfl rfl)
  have k0 := h0
  have lt0 : ∀ x ∈ p0, x.block < W.heap.size := by obtain ⟨m, hm⟩ := k0; exact DataW.trod_lt m _ _ _ hm
  obtain ⟨l0, hl0, hs0, hr0⟩ : ∃ l : List Hd, l.length = len0 ∧ Shp a0 len0 cap0 ∧ Nest W W.heap.size a0 len0 l := by
    obtain ⟨fuel, hf⟩ := h0
    exact open_sets Try.underlying22 (by simpa [Value.cells] using hf)
  obtain ⟨a1, len1, cap1, rfl⟩ := okWide_slice Try.underlying22 (hval 1 22 v1 rfl rfl)
  have k1 := h1
  have lt1 : ∀ x ∈ p1, x.block < W.heap.size := by obtain ⟨m, hm⟩ := k1; exact DataW.trod_lt m _ _ _ hm
  obtain ⟨l1, hl1, hs1, hr1⟩ : ∃ l : List Hd, l.length = len1 ∧ Shp a1 len1 cap1 ∧ Nest W W.heap.size a1 len1 l := by
    obtain ⟨fuel, hf⟩ := h1
    exact open_sets Try.underlying22 (by simpa [Value.cells] using hf)
  obtain ⟨cs2, rfl, _⟩ := okWide_struct Try.underlying25 (hval 2 25 v2 rfl rfl)
  have k2 := h2
  have lt2 : ∀ x ∈ p2, x.block < W.heap.size := by obtain ⟨m, hm⟩ := k2; exact DataW.trod_lt m _ _ _ hm
  obtain ⟨a2, len2, cap2, v2i, bs2, e2, hl2, hs2, hr2⟩ : ∃ (a : Option Addr) (len cap : Nat) (v : Int) (bs : List Rg), cs2.toList = [.slice a len cap, .int .i64 v] ∧ bs.length = len ∧ Shp a len cap ∧ Reads W W.heap.size 2 a len (rcells bs) := by
    obtain ⟨fuel, hf⟩ := h2
    exact open_asked (by simpa [Value.cells] using hf)
  obtain rfl : cs2 = #[.slice a2 len2 cap2, .int .i64 v2i] := by cases cs2; simp_all
  clear hA0 hval0
  refine (walk l0 len0 a0 cap0 l1 len1 a1 cap1 bs2 len2 hl2 a2 cap2 v2i W hr0 hr1 hr2).mono fun e W' ⟨he, bel⟩ => ?_
  subst he
  exact ⟨_, rfl, _, _, _, [], _, [], hW', trodAll_mk1 (shut_bool Try.underlying4 _), (trodAll_cons_mk (Below.trod laidOut (by kernel_rfl) (of_decide_eq_true (by kernel_rfl)) k0 bel lt0) (trodAll_cons_mk (Below.trod laidOut (by kernel_rfl) (of_decide_eq_true (by kernel_rfl)) k1 bel lt1) (trodAll_cons_mk (Below.trod laidOut (by kernel_rfl) (of_decide_eq_true (by kernel_rfl)) k2 bel lt2) trodAll_mk0))), rfl, bel.frame _, fun h => by cases h⟩

set_option maxRecDepth 100000 in
theorem lifted (os : Os) (started : os.Started) (H : Type) (enc : TypeId × Value → H) :
    ReturnsInHanded {} Try.checked os 3 .any (Rows.refineTellsSpec.pre6 enc Try.prog Try.f3 Rows.refineTellsRow.domain false) (Rows.refineTellsSpec.post enc Try.prog Try.f3 false true false false) := by
  refine returnsInHanded_of_change (C := Try.checked) own started (by kernel_rfl) Try.func3
    (ChangeSpec.witness6 (enc := enc) (C := Try.checked) false ⟨#[], #[.slice none 0 0, .slice none 0 0, .agg #[.slice none 0 0, .int .i64 0]], []⟩ 8 (by kernel_rfl) (by kernel_rfl) (by kernel_rfl) (by kernel_rfl)) ?_
  intro W base args ds gs before hval hW _ _
  exact contract H enc W base args ds gs before hval hW

set_option maxRecDepth 100000 in
theorem over : Rows.refineTellsRow.holds Try.pinned (OpenSpec.ofChange Rows.refineTellsSpec) :=
  OpenClaim.holds_of_wide 3 Try.f3 rfl rfl rfl rfl rfl rfl rfl ⟨rfl, rfl, rfl, rfl, rfl⟩ rfl rfl rfl rfl rfl (by kernel_rfl) Try.func3 (by kernel_rfl)
    (of_decide_eq_true (by kernel_rfl)) (by unfold Func.isWrapper; first | (rw [if_pos (by decide +kernel)]; kernel_rfl) | (rw [if_neg (by decide +kernel)]; exact ⟨rfl, rfl⟩))
    (fun os started H enc _ => lifted os started H enc)
end Go.Proofs.Ythaageiflimnnaa.refineTells

namespace Go.Proofs.Ythaageiflimnnaa
/-- The given statement, under a short name. -/
theorem refineTells_holds : Rows.RefineTellsSaid := refineTells.over
#print axioms refineTells_holds
end Go.Proofs.Ythaageiflimnnaa
