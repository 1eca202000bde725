/- The law RefineOne returns true at every set: one set makes two parts, it and all others, the one with the least scalar first; of nothing, and of all, it makes one. Conditions: none; nothing that was there before the call is changed. -/
import Derived.Test.YthaageiflimnnaaGrpF
import Derived.Test.YthaageiflimnnaaGrpC
namespace Go.Proofs.Ythaageiflimnnaa.refineOne
open Go.ChangeShapes Go.WideShapes Go.ChangeAt Go.RowKit Go.BigFrame
set_option linter.unusedVariables false
set_option linter.unusedSimpArgs false
theorem field56 (A : Option Addr) (n c : Nat) (y : Bool) (W : World) : (Instr.field 56 (.agg #[.slice A n c, .bool y]) 0).run Try.prog W = .ok (.slice A n c) W := by kernel_rfl
theorem nil_of {s : List Rg} {n : Nat} (h : s.length = n) (h0 : ((n : Int) == 0) = true) : s = [] := List.eq_nil_of_length_eq_zero (by have := eq_of_beq h0; omega)
theorem tot1 {s : List Rg} {n : Nat} {a : Option Addr} {m c : Nat} (h : s.length = n) : tot (setsOf [⟨a, m, c, s⟩]) = n := by simp [tot, setsOf, h]
set_option maxRecDepth 100000 in
set_option maxHeartbeats 4000000 in
theorem walk_large (s : List Rg) (n : Nat) (hl : s.length = n) (A : Option Addr) (c : Nat) (w : World) (hA : Shp A n c) (hR : Reads w w.heap.size 2 A n (rcells s)) (h : 60 < n) :
    Calls Try.prog 7 #[.slice A n c] w fun e w' => e = .returned (.bool true) ∧ Below w.heap.size w w' := by
  have bb_0 : Below w.heap.size w w := Below.refl _ _
  clear hR
  go_enter Try.func7, Try.ntmps7
  go_wp2_with fail
  refine (wakes_any _).mono ?_
  rintro e W1 ⟨rfl, g⟩
  have bb_1 := bb_0.trans (g.mono bb_0.size)
  clear bb_0 g
  go_wp2_with fail
  go_ret
  exact ⟨rfl, bb_1⟩
set_option maxRecDepth 100000 in
set_option maxHeartbeats 4000000 in
theorem walk_bad (s : List Rg) (n : Nat) (hl : s.length = n) (A : Option Addr) (c : Nat) (w : World) (hA : Shp A n c) (hR : Reads w w.heap.size 2 A n (rcells s)) (hn : n ≤ 60) (h : goodB s = false) :
    Calls Try.prog 7 #[.slice A n c] w fun e w' => e = .returned (.bool true) ∧ Below w.heap.size w w' := by
  have HL := Lib.hid hl
  have HS := Lib.hid hA
  have r_0 := Lib.hid (hR)
  have bb_0 : Below w.heap.size w w := Below.refl _ _
  clear hR hl hA
  go_enter Try.func7, Try.ntmps7
  go_wp2_with fail
  refine (refGood_no HL.out r_0.out (by omega) h).mono ?_
  rintro e W1 ⟨rfl, g⟩
  have r_1 := Lib.hid (reads_on r_0.out g)
  have bb_1 := bb_0.trans (g.mono bb_0.size)
  clear r_0 bb_0 g
  go_wp2_with fail
  refine (wakes_any _).mono ?_
  rintro e W2 ⟨rfl, g⟩
  have r_2 := Lib.hid (reads_on r_1.out g)
  have bb_2 := bb_1.trans (g.mono bb_1.size)
  clear r_1 bb_1 g
  go_wp2_with fail
  go_ret
  exact ⟨rfl, bb_2⟩
set_option maxRecDepth 100000 in
set_option maxHeartbeats 4000000 in
theorem walk_good (s : List Rg) (n : Nat) (hl : s.length = n) (A : Option Addr) (c : Nat) (w : World) (hA : Shp A n c) (hR : Reads w w.heap.size 2 A n (rcells s)) (hn : n ≤ 60) (hg : Gd (-1) s) :
    Calls Try.prog 7 #[.slice A n c] w fun e w' => e = .returned (.bool true) ∧ Below w.heap.size w w' := by
  have HG := Lib.hid hg
  have HL := Lib.hid hl
  have HS := Lib.hid hA
  have r_0 := Lib.hid (hR)
  have bb_0 : Below w.heap.size w w := Below.refl _ _
  clear hR hl hA hg
  go_enter Try.func7, Try.ntmps7
  go_wp2_with fail
  refine (refGood_yes HL.out r_0.out (by omega) HG.out).mono ?_
  rintro e W1 ⟨rfl, g⟩
  have r_1 := Lib.hid (reads_on r_0.out g)
  have bb_1 := bb_0.trans (g.mono bb_0.size)
  clear r_0 bb_0 g
  go_wp2_with fail
  have g_2 : Below W1.heap.size W1 (W1.alloc (.cells #[.slice A n c] 48)) := below_new _ _
  have r_2 := Lib.hid (reads_on r_1.out g_2)
  have bb_2 := bb_1.trans (g_2.mono bb_1.size)
  have l_2 := Lib.hid (nest_litB W1 (W1.heap.size) (by first | rfl | omega) [⟨A, n, c, s⟩] 1 #[.slice A n c] rfl rfl (mem1 ⟨HL.out, HS.out, r_1.out⟩))
  clear r_1 bb_1 g_2
  have hz_2 : (W1.alloc (.cells #[.slice A n c] 48)).heap.size = W1.heap.size + 1 := by simp
  generalize W1.alloc (.cells #[.slice A n c] 48) = W2 at *
  refine (parts_yes [⟨A, n, c, s⟩] 1 (some ⟨W1.heap.size, 0, none⟩) 1 _ l_2.out (by omega) (mem1 (show n ≤ 1000 by omega)) (by rw [tot1 HL.out]; omega) (mem1 HG.out) (not_many (show [s].length ≤ 8 by simp))).mono ?_
  rintro e W3 ⟨P, A4, c4, z4, H4, rfl, hs4, hp4, hz4, hm4, hn4, hsh4, g⟩
  have r_3 := Lib.hid (reads_on r_2.out g)
  have bb_3 := bb_2.trans (g.mono bb_2.size)
  have p_3 := Lib.hid (hn4)
  clear r_2 l_2 bb_2 g
  have HM4 : Hid (∀ h ∈ H4, h.n ≤ 1000) := Lib.hid (fun h hh => by have h1 := hm4 h hh; rw [tot1 HL.out] at h1; omega)
  have HP4 : Hid (Parts (Ek [s]) (setsOf H4)) := Lib.hid (by rw [hs4]; exact hp4)
  have HN4 : Hid (z4 = (setsOf H4).length) := Lib.hid hn4.len
  clear hs4 hp4 hm4 hn4 hsh4
  go_wp2_with fail
  refine (refNot_good s n HL.out A c _ r_3.out (by omega) HG.out).mono ?_
  rintro e W4 ⟨t, k, A5, c5, rfl, hk5, hm5, hs5, hi5, hr5, g⟩
  have r_4 := Lib.hid (reads_on r_3.out g)
  have p_4 := Lib.hid (p_3.out.on g)
  have bb_4 := bb_3.trans (g.mono bb_3.size)
  have t_4 := Lib.hid (hr5)
  clear r_3 p_3 bb_3 g
  have HK := Lib.hid hk5
  have HSt := Lib.hid hs5
  have HT := Lib.hid hi5
  clear hk5 hs5 hi5 hr5
  have hf := field56 A5 k c5 true
  have hz : ((n : Int) == 0) = true ∨ (((n : Int) == 0) = false ∧ ((k : Int) == 0) = true) ∨ (((n : Int) == 0) = false ∧ ((k : Int) == 0) = false) := by
    cases h1 : ((n : Int) == 0) <;> cases h2 : ((k : Int) == 0) <;> simp
  rcases hz with h0 | ⟨h0, h1⟩ | hz
  · have HE : Hid (setsOf H4 = [lAll]) := Lib.hid (HP4.out.uniq (fun u v hu hv => ek_one s u v) (parts_all (not_nil HG.out HT.out (.inl (nil_of HL.out h0)))))
    go_wp2_with fail
    have g_5 : Below W4.heap.size W4 (W4.alloc (.cells #[.int .i64 0, .int .i64 1114111] 50)) := below_new _ _
    have r_5 := Lib.hid (reads_on r_4.out g_5)
    have p_5 := Lib.hid (p_4.out.on g_5)
    have t_5 := Lib.hid (reads_on t_4.out g_5)
    have bb_5 := bb_4.trans (g_5.mono bb_4.size)
    have x_5 := Lib.hid (reads_litB W4 (W4.heap.size) (by first | rfl | omega) 50 2 1 (rcells lAll) #[.int .i64 0, .int .i64 1114111] rfl rfl)
    clear r_4 p_4 t_4 bb_4 g_5
    have hz_5 : (W4.alloc (.cells #[.int .i64 0, .int .i64 1114111] 50)).heap.size = W4.heap.size + 1 := by simp
    generalize W4.alloc (.cells #[.int .i64 0, .int .i64 1114111] 50) = W5 at *
    have g_6 : Below W5.heap.size W5 (W5.alloc (.cells #[.slice (some ⟨W4.heap.size, 0, none⟩) 1 1] 48)) := below_new _ _
    have r_6 := Lib.hid (reads_on r_5.out g_6)
    have p_6 := Lib.hid (p_5.out.on g_6)
    have t_6 := Lib.hid (reads_on t_5.out g_6)
    have x_6 := Lib.hid (reads_on x_5.out g_6)
    have bb_6 := bb_5.trans (g_6.mono bb_5.size)
    have xx_6 := Lib.hid (nest_litB W5 (W4.heap.size + 1) (by first | rfl | omega) [⟨(some ⟨W4.heap.size, 0, none⟩), 1, 1, lAll⟩] 1 #[.slice (some ⟨W4.heap.size, 0, none⟩) 1 1] rfl rfl (mem1 ⟨rfl, shp_lit _ 1 (by omega), x_5.out⟩))
    clear r_5 p_5 t_5 x_5 bb_5 g_6
    have hz_6 : (W5.alloc (.cells #[.slice (some ⟨W4.heap.size, 0, none⟩) 1 1] 48)).heap.size = W5.heap.size + 1 := by simp
    generalize W5.alloc (.cells #[.slice (some ⟨W4.heap.size, 0, none⟩) 1 1] 48) = W6 at *
    refine (keepSets_yes p_6.out xx_6.out (by omega) (fun h hh => Nat.le_trans (HM4.out h hh) (by omega)) HE.out).mono ?_
    rintro e W7 ⟨rfl, g⟩
    have r_7 := Lib.hid (reads_on r_6.out g)
    have p_7 := Lib.hid (p_6.out.on g)
    have t_7 := Lib.hid (reads_on t_6.out g)
    have bb_7 := bb_6.trans (g.mono bb_6.size)
    clear r_6 p_6 t_6 x_6 xx_6 bb_6 g
    go_wp2_with fail
    refine (wakes_any _).mono ?_
    rintro e W8 ⟨rfl, g⟩
    have r_8 := Lib.hid (reads_on r_7.out g)
    have p_8 := Lib.hid (p_7.out.on g)
    have t_8 := Lib.hid (reads_on t_7.out g)
    have bb_8 := bb_7.trans (g.mono bb_7.size)
    clear r_7 p_7 t_7 bb_7 g
    go_wp2_with fail
    go_ret
    exact ⟨rfl, bb_8⟩
  · have HE : Hid (setsOf H4 = [lAll]) := Lib.hid (HP4.out.uniq (fun u v hu hv => ek_one s u v) (parts_all (not_nil HG.out HT.out (.inr (nil_of HK.out h1)))))
    go_wp2_with fail
    have g_5 : Below W4.heap.size W4 (W4.alloc (.cells #[.int .i64 0, .int .i64 1114111] 50)) := below_new _ _
    have r_5 := Lib.hid (reads_on r_4.out g_5)
    have p_5 := Lib.hid (p_4.out.on g_5)
    have t_5 := Lib.hid (reads_on t_4.out g_5)
    have bb_5 := bb_4.trans (g_5.mono bb_4.size)
    have x_5 := Lib.hid (reads_litB W4 (W4.heap.size) (by first | rfl | omega) 50 2 1 (rcells lAll) #[.int .i64 0, .int .i64 1114111] rfl rfl)
    clear r_4 p_4 t_4 bb_4 g_5
    have hz_5 : (W4.alloc (.cells #[.int .i64 0, .int .i64 1114111] 50)).heap.size = W4.heap.size + 1 := by simp
    generalize W4.alloc (.cells #[.int .i64 0, .int .i64 1114111] 50) = W5 at *
    have g_6 : Below W5.heap.size W5 (W5.alloc (.cells #[.slice (some ⟨W4.heap.size, 0, none⟩) 1 1] 48)) := below_new _ _
    have r_6 := Lib.hid (reads_on r_5.out g_6)
    have p_6 := Lib.hid (p_5.out.on g_6)
    have t_6 := Lib.hid (reads_on t_5.out g_6)
    have x_6 := Lib.hid (reads_on x_5.out g_6)
    have bb_6 := bb_5.trans (g_6.mono bb_5.size)
    have xx_6 := Lib.hid (nest_litB W5 (W4.heap.size + 1) (by first | rfl | omega) [⟨(some ⟨W4.heap.size, 0, none⟩), 1, 1, lAll⟩] 1 #[.slice (some ⟨W4.heap.size, 0, none⟩) 1 1] rfl rfl (mem1 ⟨rfl, shp_lit _ 1 (by omega), x_5.out⟩))
    clear r_5 p_5 t_5 x_5 bb_5 g_6
    have hz_6 : (W5.alloc (.cells #[.slice (some ⟨W4.heap.size, 0, none⟩) 1 1] 48)).heap.size = W5.heap.size + 1 := by simp
    generalize W5.alloc (.cells #[.slice (some ⟨W4.heap.size, 0, none⟩) 1 1] 48) = W6 at *
    refine (keepSets_yes p_6.out xx_6.out (by omega) (fun h hh => Nat.le_trans (HM4.out h hh) (by omega)) HE.out).mono ?_
    rintro e W7 ⟨rfl, g⟩
    have r_7 := Lib.hid (reads_on r_6.out g)
    have p_7 := Lib.hid (p_6.out.on g)
    have t_7 := Lib.hid (reads_on t_6.out g)
    have bb_7 := bb_6.trans (g.mono bb_6.size)
    clear r_6 p_6 t_6 x_6 xx_6 bb_6 g
    go_wp2_with fail
    refine (wakes_any _).mono ?_
    rintro e W8 ⟨rfl, g⟩
    have r_8 := Lib.hid (reads_on r_7.out g)
    have p_8 := Lib.hid (p_7.out.on g)
    have t_8 := Lib.hid (reads_on t_7.out g)
    have bb_8 := bb_7.trans (g.mono bb_7.size)
    clear r_7 p_7 t_7 bb_7 g
    go_wp2_with fail
    go_ret
    exact ⟨rfl, bb_8⟩
  · have hs0 : s ≠ [] := fun e => by have h1 := HL.out; rw [e] at h1; rw [← h1] at hz; simp at hz
    have ht0 : t ≠ [] := fun e => by have h1 := HK.out; rw [e] at h1; rw [← h1] at hz; simp at hz
    obtain ⟨h0, h1⟩ := hz
    have hnp : 0 < n := by rw [← HL.out]; exact List.length_pos_iff.2 hs0
    have hkp : 0 < k := by rw [← HK.out]; exact List.length_pos_iff.2 ht0
    have ls : 0 < s.length := by rw [HL.out]; exact hnp
    have lt : 0 < t.length := by rw [HK.out]; exact hkp
    obtain ⟨bs, os, rfl, hbs, p0, p00⟩ := r_4.out.rg ls
    obtain ⟨bt, ot, rfl, hbt, q0, q00⟩ := t_4.out.rg lt
    rw [Nat.zero_mul, Nat.add_zero] at p0 q0
    clear p00 q00
    have es : fst1 s = s[0].1 := by cases s with | nil => exact absurd rfl hs0 | cons x y => rfl
    have et : fst1 t = t[0].1 := by cases t with | nil => exact absurd rfl ht0 | cons x y => rfl
    rw [← es] at p0
    rw [← et] at q0
    have hne : fst1 t ≠ fst1 s := fun e => (HT.out.2 _ (fst1_in HT.out.1 ht0).1).1 (fst1_in HT.out.1 ht0).2 (by rw [e]; exact (fst1_in HG.out hs0).2)
    have HT1 : Hid (fst1 t < fst1 s → setsOf H4 = [t, s]) := Lib.hid (fun hlt => HP4.out.uniq (fun u v hu hv => Iff.rfl) (parts_two HG.out HT.out hs0 ht0 (fun u v hu hv => ek_one s u v) (.inr ⟨rfl, rfl⟩) hlt))
    have HT2 : Hid (fst1 s < fst1 t → setsOf H4 = [s, t]) := Lib.hid (fun hlt => HP4.out.uniq (fun u v hu hv => Iff.rfl) (parts_two HG.out HT.out hs0 ht0 (fun u v hu hv => ek_one s u v) (.inl ⟨rfl, rfl⟩) hlt))
    have HIns : Hid (∀ a b : List Rg, (a = s ∧ b = t ∨ a = t ∧ b = s) → ∃ x, witA [a, b] [] [s] = some [[x]]) := Lib.hid (fun a b hab => by
      obtain ⟨x, hx⟩ := ins_two HG.out HT.out hs0 ht0 hab
      exact ⟨x, by simp [witA, hx]⟩)
    clear hs0 ht0 ls lt es et
    generalize fst1 s = fs at *
    generalize fst1 t = ft at *
    by_cases hlt : ft < fs
    · have HF := Lib.hid hlt
      have HQ : Hid (setsOf H4 = [t, s]) := Lib.hid (HT1.out HF.out)
      obtain ⟨x, hx⟩ := HIns.out t s (.inr ⟨rfl, rfl⟩)
      have HX := Lib.hid hx
      have HZ : Hid (z4 = 2) := Lib.hid (by rw [HN4.out, HQ.out]; rfl)
      obtain rfl := HZ.out
      clear hx HT1 HT2 HIns HN4 HZ hne
      go_wp2_with fail
      go_quiet (fail)
      go_wp2_with fail
      have g_5 : Below W4.heap.size W4 (W4.drewN nq) := below_drewN (Below.refl _ _) _
      have r_5 := Lib.hid (reads_on r_4.out g_5)
      have p_5 := Lib.hid (p_4.out.on g_5)
      have t_5 := Lib.hid (reads_on t_4.out g_5)
      have bb_5 := bb_4.trans (g_5.mono bb_4.size)
      clear r_4 p_4 t_4 bb_4 g_5
      have hz_5 : (W4.drewN nq).heap.size = W4.heap.size := rfl
      generalize W4.drewN nq = W5 at *
      have g_6 : Below W5.heap.size W5 (W5.alloc (.cells #[.slice (some ⟨bs, os, none⟩) n c] 48)) := below_new _ _
      have r_6 := Lib.hid (reads_on r_5.out g_6)
      have p_6 := Lib.hid (p_5.out.on g_6)
      have t_6 := Lib.hid (reads_on t_5.out g_6)
      have bb_6 := bb_5.trans (g_6.mono bb_5.size)
      have l2_6 := Lib.hid (nest_litB W5 (W4.heap.size) (by first | rfl | omega) [⟨(some ⟨bs, os, none⟩), n, c, s⟩] 1 #[.slice (some ⟨bs, os, none⟩) n c] rfl rfl (mem1 ⟨HL.out, HS.out, r_5.out⟩))
      clear r_5 p_5 t_5 bb_5 g_6
      have hz_6 : (W5.alloc (.cells #[.slice (some ⟨bs, os, none⟩) n c] 48)).heap.size = W5.heap.size + 1 := by simp
      generalize W5.alloc (.cells #[.slice (some ⟨bs, os, none⟩) n c] 48) = W6 at *
      refine (within_yes [⟨(some ⟨bs, os, none⟩), n, c, s⟩] 1 (some ⟨W4.heap.size, 0, none⟩) 1 H4 2 A4 c4 _ l2_6.out p_6.out (by omega) (by omega) (mem1 (show n ≤ 2000 by omega)) (fun h hh => Nat.le_trans (HM4.out h hh) (by omega)) (mem1 HG.out) HP4.out.gd (r := [[x]]) (by rw [HQ.out]; exact HX.out)).mono ?_
      rintro e W7 ⟨A7, c7, z7, H7, rfl, hl7, hn7, g⟩
      have r_7 := Lib.hid (reads_on r_6.out g)
      have p_7 := Lib.hid (p_6.out.on g)
      have t_7 := Lib.hid (reads_on t_6.out g)
      have bb_7 := bb_6.trans (g.mono bb_6.size)
      have i_7 := Lib.hid (hn7)
      clear r_6 p_6 t_6 l2_6 bb_6 g
      obtain rfl : z7 = 1 := by rw [← hn7.1, show H7.length = (listsOf H7).length by simp [listsOf], hl7]; rfl
      have k7 : 0 < H7.length := by rw [hn7.1]; omega
      have l7 : H7[0].l = [x] := by
        have h1 : (listsOf H7)[0]? = some H7[0].l := by unfold listsOf; rw [List.getElem?_map, List.getElem?_eq_getElem k7]; rfl
        rw [hl7] at h1
        simpa using h1.symm
      obtain ⟨b7, o7, e7, hb7, p7, q7, _⟩ := hn7.at k7
      rw [l7] at q7
      rw [← q7] at p7
      rw [Nat.add_zero] at p7
      subst e7
      have cc_7 := Lib.hid p7
      clear p7 q7 l7 hn7 hl7 i_7
      go_wp2_with fail
      have g_8 : Below W7.heap.size W7 (W7.alloc (.cells #[.slice (some ⟨bt, ot, none⟩) k c5, .slice (some ⟨bs, os, none⟩) n c] 48)) := below_new _ _
      have r_8 := Lib.hid (reads_on r_7.out g_8)
      have p_8 := Lib.hid (p_7.out.on g_8)
      have t_8 := Lib.hid (reads_on t_7.out g_8)
      have cc_8 := Lib.hid (kept_cell g_8 cc_7.out)
      have bb_8 := bb_7.trans (g_8.mono bb_7.size)
      have l3_8 := Lib.hid (nest_litB W7 (W7.heap.size) (by first | rfl | omega) [⟨(some ⟨bt, ot, none⟩), k, c5, t⟩, ⟨(some ⟨bs, os, none⟩), n, c, s⟩] 2 #[.slice (some ⟨bt, ot, none⟩) k c5, .slice (some ⟨bs, os, none⟩) n c] rfl rfl (mem2 ⟨HK.out, HSt.out, t_7.out⟩ ⟨HL.out, HS.out, r_7.out⟩))
      clear r_7 p_7 t_7 cc_7 bb_7 g_8
      have hz_8 : (W7.alloc (.cells #[.slice (some ⟨bt, ot, none⟩) k c5, .slice (some ⟨bs, os, none⟩) n c] 48)).heap.size = W7.heap.size + 1 := by simp
      generalize W7.alloc (.cells #[.slice (some ⟨bt, ot, none⟩) k c5, .slice (some ⟨bs, os, none⟩) n c] 48) = W8 at *
      refine (keepSets_yes p_8.out l3_8.out (by omega) (fun h hh => Nat.le_trans (HM4.out h hh) (by omega)) HQ.out).mono ?_
      rintro e W9 ⟨rfl, g⟩
      have r_9 := Lib.hid (reads_on r_8.out g)
      have p_9 := Lib.hid (p_8.out.on g)
      have t_9 := Lib.hid (reads_on t_8.out g)
      have cc_9 := Lib.hid (kept_cell g cc_8.out)
      have bb_9 := bb_8.trans (g.mono bb_8.size)
      clear r_8 p_8 t_8 cc_8 l3_8 bb_8 g
      have p7 := cc_9.out
      go_wp2_with fail
      refine (wakes_any _).mono ?_
      rintro e W10 ⟨rfl, g⟩
      have r_10 := Lib.hid (reads_on r_9.out g)
      have p_10 := Lib.hid (p_9.out.on g)
      have t_10 := Lib.hid (reads_on t_9.out g)
      have cc_10 := Lib.hid (kept_cell g cc_9.out)
      have bb_10 := bb_9.trans (g.mono bb_9.size)
      clear r_9 p_9 t_9 cc_9 bb_9 g
      go_wp2_with fail
      go_ret
      exact ⟨rfl, bb_10⟩
    · have HF : Hid (fs < ft) := Lib.hid (by omega)
      have hd : decide (ft < fs) = false := decide_eq_false hlt
      have HQ : Hid (setsOf H4 = [s, t]) := Lib.hid (HT2.out HF.out)
      obtain ⟨x, hx⟩ := HIns.out s t (.inl ⟨rfl, rfl⟩)
      have HX := Lib.hid hx
      have HZ : Hid (z4 = 2) := Lib.hid (by rw [HN4.out, HQ.out]; rfl)
      obtain rfl := HZ.out
      clear hx HT1 HT2 HIns HN4 HZ hne
      go_wp2_with fail
      go_quiet (fail)
      go_wp2_with fail
      have g_5 : Below W4.heap.size W4 (W4.drewN nq) := below_drewN (Below.refl _ _) _
      have r_5 := Lib.hid (reads_on r_4.out g_5)
      have p_5 := Lib.hid (p_4.out.on g_5)
      have t_5 := Lib.hid (reads_on t_4.out g_5)
      have bb_5 := bb_4.trans (g_5.mono bb_4.size)
      clear r_4 p_4 t_4 bb_4 g_5
      have hz_5 : (W4.drewN nq).heap.size = W4.heap.size := rfl
      generalize W4.drewN nq = W5 at *
      have g_6 : Below W5.heap.size W5 (W5.alloc (.cells #[.slice (some ⟨bs, os, none⟩) n c] 48)) := below_new _ _
      have r_6 := Lib.hid (reads_on r_5.out g_6)
      have p_6 := Lib.hid (p_5.out.on g_6)
      have t_6 := Lib.hid (reads_on t_5.out g_6)
      have bb_6 := bb_5.trans (g_6.mono bb_5.size)
      have l2_6 := Lib.hid (nest_litB W5 (W4.heap.size) (by first | rfl | omega) [⟨(some ⟨bs, os, none⟩), n, c, s⟩] 1 #[.slice (some ⟨bs, os, none⟩) n c] rfl rfl (mem1 ⟨HL.out, HS.out, r_5.out⟩))
      clear r_5 p_5 t_5 bb_5 g_6
      have hz_6 : (W5.alloc (.cells #[.slice (some ⟨bs, os, none⟩) n c] 48)).heap.size = W5.heap.size + 1 := by simp
      generalize W5.alloc (.cells #[.slice (some ⟨bs, os, none⟩) n c] 48) = W6 at *
      refine (within_yes [⟨(some ⟨bs, os, none⟩), n, c, s⟩] 1 (some ⟨W4.heap.size, 0, none⟩) 1 H4 2 A4 c4 _ l2_6.out p_6.out (by omega) (by omega) (mem1 (show n ≤ 2000 by omega)) (fun h hh => Nat.le_trans (HM4.out h hh) (by omega)) (mem1 HG.out) HP4.out.gd (r := [[x]]) (by rw [HQ.out]; exact HX.out)).mono ?_
      rintro e W7 ⟨A7, c7, z7, H7, rfl, hl7, hn7, g⟩
      have r_7 := Lib.hid (reads_on r_6.out g)
      have p_7 := Lib.hid (p_6.out.on g)
      have t_7 := Lib.hid (reads_on t_6.out g)
      have bb_7 := bb_6.trans (g.mono bb_6.size)
      have i_7 := Lib.hid (hn7)
      clear r_6 p_6 t_6 l2_6 bb_6 g
      obtain rfl : z7 = 1 := by rw [← hn7.1, show H7.length = (listsOf H7).length by simp [listsOf], hl7]; rfl
      have k7 : 0 < H7.length := by rw [hn7.1]; omega
      have l7 : H7[0].l = [x] := by
        have h1 : (listsOf H7)[0]? = some H7[0].l := by unfold listsOf; rw [List.getElem?_map, List.getElem?_eq_getElem k7]; rfl
        rw [hl7] at h1
        simpa using h1.symm
      obtain ⟨b7, o7, e7, hb7, p7, q7, _⟩ := hn7.at k7
      rw [l7] at q7
      rw [← q7] at p7
      rw [Nat.add_zero] at p7
      subst e7
      have cc_7 := Lib.hid p7
      clear p7 q7 l7 hn7 hl7 i_7
      go_wp2_with fail
      have g_8 : Below W7.heap.size W7 (W7.alloc (.cells #[.slice (some ⟨bs, os, none⟩) n c, .slice (some ⟨bt, ot, none⟩) k c5] 48)) := below_new _ _
      have r_8 := Lib.hid (reads_on r_7.out g_8)
      have p_8 := Lib.hid (p_7.out.on g_8)
      have t_8 := Lib.hid (reads_on t_7.out g_8)
      have cc_8 := Lib.hid (kept_cell g_8 cc_7.out)
      have bb_8 := bb_7.trans (g_8.mono bb_7.size)
      have l3_8 := Lib.hid (nest_litB W7 (W7.heap.size) (by first | rfl | omega) [⟨(some ⟨bs, os, none⟩), n, c, s⟩, ⟨(some ⟨bt, ot, none⟩), k, c5, t⟩] 2 #[.slice (some ⟨bs, os, none⟩) n c, .slice (some ⟨bt, ot, none⟩) k c5] rfl rfl (mem2 ⟨HL.out, HS.out, r_7.out⟩ ⟨HK.out, HSt.out, t_7.out⟩))
      clear r_7 p_7 t_7 cc_7 bb_7 g_8
      have hz_8 : (W7.alloc (.cells #[.slice (some ⟨bs, os, none⟩) n c, .slice (some ⟨bt, ot, none⟩) k c5] 48)).heap.size = W7.heap.size + 1 := by simp
      generalize W7.alloc (.cells #[.slice (some ⟨bs, os, none⟩) n c, .slice (some ⟨bt, ot, none⟩) k c5] 48) = W8 at *
      refine (keepSets_yes p_8.out l3_8.out (by omega) (fun h hh => Nat.le_trans (HM4.out h hh) (by omega)) HQ.out).mono ?_
      rintro e W9 ⟨rfl, g⟩
      have r_9 := Lib.hid (reads_on r_8.out g)
      have p_9 := Lib.hid (p_8.out.on g)
      have t_9 := Lib.hid (reads_on t_8.out g)
      have cc_9 := Lib.hid (kept_cell g cc_8.out)
      have bb_9 := bb_8.trans (g.mono bb_8.size)
      clear r_8 p_8 t_8 cc_8 l3_8 bb_8 g
      have p7 := cc_9.out
      go_wp2_with fail
      refine (wakes_any _).mono ?_
      rintro e W10 ⟨rfl, g⟩
      have r_10 := Lib.hid (reads_on r_9.out g)
      have p_10 := Lib.hid (p_9.out.on g)
      have t_10 := Lib.hid (reads_on t_9.out g)
      have cc_10 := Lib.hid (kept_cell g cc_9.out)
      have bb_10 := bb_9.trans (g.mono bb_9.size)
      clear r_9 p_9 t_9 cc_9 bb_9 g
      go_wp2_with fail
      go_ret
      exact ⟨rfl, bb_10⟩
theorem walk (s : List Rg) (n : Nat) (hl : s.length = n) (A : Option Addr) (c : Nat) (w : World) (hA : Shp A n c) (hR : Reads w w.heap.size 2 A n (rcells s)) :
    Calls Try.prog 7 #[.slice A n c] w fun e w' => e = .returned (.bool true) ∧ Below w.heap.size w w' := by
  by_cases hn : n ≤ 60
  · cases hg : goodB s
    · exact walk_bad s n hl A c w hA hR hn hg
    · exact walk_good s n hl A c w hA hR hn ((goodB_iff s).1 hg)
  · exact walk_large s n hl A c w hA hR (by omega)

/-! From the walk to the row. -/
set_option maxRecDepth 100000 in
theorem contract (H : Type) (enc : TypeId × Value → H) (W : World) (base : Nat) (args : Array Value) (ds gs : List (DataW H)) (before : List MemPlace)
    (hval0 : ∀ (j : Nat) t v, Try.f7.params[j]? = some t → args[j]? = some v → Value.okWide Try.prog W .any base t v)
    (hW : DataW.Whole enc Try.prog Try.f7.params.toList Rows.refineOneSpec.vars false W args.toList ds gs before) :
    Calls Try.prog 7 args W fun e W' => ∃ v, e = .returned v ∧ Rows.refineOneSpec.post enc Try.prog Try.f7 false true false false W args v W' := by
  have hval : ∀ (j : Nat) t v, Try.f7.params[j]? = some t → args[j]? = some v → Value.okWide Try.prog W .any base t v := hval0
  have hW' := hW
  obtain ⟨p, q, hA0, hV, rfl, hfz, hnd⟩ := hW
  have hA : DataW.TrodAll enc Try.prog W 0 (fun _ => true) true Try.f7.params.toList args.toList ds p := hA0
  rw [Try.params7] at hA hval
  obtain ⟨v0, vs0, d0, ds0, p0, q0, hargs, rfl, rfl, h0, r0⟩ := trodAll_cons hA
  obtain ⟨rfl, rfl, rfl⟩ := trodAll_nil r0
  obtain rfl : args = #[v0] := by cases args; simp_all
  obtain ⟨rfl, rfl⟩ := trodVars_none hV
  obtain ⟨a0, len0, cap0, rfl⟩ := okWide_slice Try.underlying48 (hval 0 48 v0 rfl rfl)
  have k0 := h0
  have lt0 : ∀ x ∈ p0, x.block < W.heap.size := by obtain ⟨m, hm⟩ := k0; exact DataW.trod_lt m _ _ _ hm
  obtain ⟨l0, hl0, hs0, hr0⟩ : ∃ l, l.length = len0 ∧ Shp a0 len0 cap0 ∧ Reads W W.heap.size 2 a0 len0 (rcells l) := by
    obtain ⟨fuel, hf⟩ := h0
    exact open_set Try.underlying48 (by simpa [Value.cells] using hf)
  clear hA0 hval0
  refine (walk l0 len0 hl0 a0 cap0 W hs0 hr0).mono fun e W' ⟨he, bel⟩ => ?_
  subst he
  exact ⟨_, rfl, _, _, _, [], _, [], hW', trodAll_mk1 (shut_bool Try.underlying4 _), (trodAll_cons_mk (Below.trod laidOut (by kernel_rfl) (of_decide_eq_true (by kernel_rfl)) k0 bel lt0) trodAll_mk0), rfl, bel.frame _, fun h => by cases h⟩

set_option maxRecDepth 100000 in
theorem lifted (os : Os) (started : os.Started) (H : Type) (enc : TypeId × Value → H) :
    ReturnsInHanded {} Try.checked os 7 .any (Rows.refineOneSpec.pre6 enc Try.prog Try.f7 Rows.refineOneRow.domain false) (Rows.refineOneSpec.post enc Try.prog Try.f7 false true false false) := by
  refine returnsInHanded_of_change (C := Try.checked) own started (by kernel_rfl) Try.func7
    (ChangeSpec.witness6 (enc := enc) (C := Try.checked) false ⟨#[], #[.slice none 0 0], []⟩ 8 (by kernel_rfl) (by kernel_rfl) (by kernel_rfl) (by kernel_rfl)) ?_
  intro W base args ds gs before hval hW _ _
  exact contract H enc W base args ds gs before hval hW

set_option maxRecDepth 100000 in
theorem over : Rows.refineOneRow.holds Try.pinned (OpenSpec.ofChange Rows.refineOneSpec) :=
  OpenClaim.holds_of_wide 7 Try.f7 rfl rfl rfl rfl rfl rfl rfl ⟨rfl, rfl, rfl, rfl, rfl⟩ rfl rfl rfl rfl rfl (by kernel_rfl) Try.func7 (by kernel_rfl)
    (of_decide_eq_true (by kernel_rfl)) (by unfold Func.isWrapper; first | (rw [if_pos (by decide +kernel)]; kernel_rfl) | (rw [if_neg (by decide +kernel)]; exact ⟨rfl, rfl⟩))
    (fun os started H enc _ => lifted os started H enc)
end Go.Proofs.Ythaageiflimnnaa.refineOne

namespace Go.Proofs.Ythaageiflimnnaa
/-- The given statement, under a short name. -/
theorem refineOne_holds : Rows.RefineOneSaid := refineOne.over
#print axioms refineOne_holds
end Go.Proofs.Ythaageiflimnnaa
