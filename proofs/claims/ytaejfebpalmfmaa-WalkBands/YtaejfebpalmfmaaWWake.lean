/- The example of the statements of walk. -/
import Derived.Test.YtaejfebpalmfmaaWRefB
namespace Go.Proofs.Ytaejfebpalmfmaa
open Go.RowKit Go.BigFrame Go.Maps
set_option linter.unusedVariables false
set_option maxRecDepth 4000
set_option linter.unusedSimpArgs false

def tTo : Tb := { cl := 2, bd := [(0, 0), (97, 1), (98, 0)], nx := [[0, 1], [0, 1]], br := [false, true] }
theorem tTo_err : errV tTo = 0 := by decide
theorem infoTb : (Try.prog.info? 26).map (fun i => (i.zero, i.size, i.bytes)) = some (some (.agg #[.int .i64 0, .slice none 0 0, .slice none 0 0, .slice none 0 0]), 4, 80) := by kernel_rfl
set_option maxHeartbeats 4000000 in
theorem two_any (w : World) : Calls Try.prog 19 #[] w (fun e w' => ∃ T : TV, e = .returned T.v ∧ T.tb = tTo ∧ T.ok w' ∧ Below w.heap.size w w') := by
  obtain ⟨j0, hj0, hy0, hy1, hy2⟩ := info_parts infoTb
  obtain ⟨i0, hi0, hz0, hz1, hz2⟩ := info_parts info52
  go_enter Try.func19, Try.ntmps19
  go_wp2_with fail
  have G0 : Below w.heap.size w w := Below.refl _ _
  have g := below_new w (.cells #[.int .i64 2, .slice (some ⟨w.heap.size + 1, 0, none⟩) 3 3, .slice (some ⟨w.heap.size + 1 + 1 + 1 + 1, 0, none⟩) 2 2, .slice (some ⟨w.heap.size + 1 + 1 + 1 + 1 + 1, 0, none⟩) 2 2] 26)
  have z1 : (w.alloc (.cells #[.int .i64 2, .slice (some ⟨w.heap.size + 1, 0, none⟩) 3 3, .slice (some ⟨w.heap.size + 1 + 1 + 1 + 1, 0, none⟩) 2 2, .slice (some ⟨w.heap.size + 1 + 1 + 1 + 1 + 1, 0, none⟩) 2 2] 26)).heap.size = w.heap.size + 1 := by simp; try omega
  have c0 : (w.alloc (.cells #[.int .i64 2, .slice (some ⟨w.heap.size + 1, 0, none⟩) 3 3, .slice (some ⟨w.heap.size + 1 + 1 + 1 + 1, 0, none⟩) 2 2, .slice (some ⟨w.heap.size + 1 + 1 + 1 + 1 + 1, 0, none⟩) 2 2] 26)).cell? ⟨w.heap.size, 0, none⟩ = some (.int .i64 2) := by simp
  have c1 : (w.alloc (.cells #[.int .i64 2, .slice (some ⟨w.heap.size + 1, 0, none⟩) 3 3, .slice (some ⟨w.heap.size + 1 + 1 + 1 + 1, 0, none⟩) 2 2, .slice (some ⟨w.heap.size + 1 + 1 + 1 + 1 + 1, 0, none⟩) 2 2] 26)).cell? ⟨w.heap.size, 1, none⟩ = some (.slice (some ⟨w.heap.size + 1, 0, none⟩) 3 3) := by simp
  have c2 : (w.alloc (.cells #[.int .i64 2, .slice (some ⟨w.heap.size + 1, 0, none⟩) 3 3, .slice (some ⟨w.heap.size + 1 + 1 + 1 + 1, 0, none⟩) 2 2, .slice (some ⟨w.heap.size + 1 + 1 + 1 + 1 + 1, 0, none⟩) 2 2] 26)).cell? ⟨w.heap.size, 2, none⟩ = some (.slice (some ⟨w.heap.size + 1 + 1 + 1 + 1, 0, none⟩) 2 2) := by simp
  have c3 : (w.alloc (.cells #[.int .i64 2, .slice (some ⟨w.heap.size + 1, 0, none⟩) 3 3, .slice (some ⟨w.heap.size + 1 + 1 + 1 + 1, 0, none⟩) 2 2, .slice (some ⟨w.heap.size + 1 + 1 + 1 + 1 + 1, 0, none⟩) 2 2] 26)).cell? ⟨w.heap.size, 3, none⟩ = some (.slice (some ⟨w.heap.size + 1 + 1 + 1 + 1 + 1, 0, none⟩) 2 2) := by simp
  have G1 := G0.trans (g.mono (by omega))
  clear g
  generalize (w.alloc (.cells #[.int .i64 2, .slice (some ⟨w.heap.size + 1, 0, none⟩) 3 3, .slice (some ⟨w.heap.size + 1 + 1 + 1 + 1, 0, none⟩) 2 2, .slice (some ⟨w.heap.size + 1 + 1 + 1 + 1 + 1, 0, none⟩) 2 2] 26)) = W1 at *
  have g := below_new W1 (.cells #[.int .i64 0, .int .i64 0, .int .i64 97, .int .i64 1, .int .i64 98, .int .i64 0] 49)
  have z2 : (W1.alloc (.cells #[.int .i64 0, .int .i64 0, .int .i64 97, .int .i64 1, .int .i64 98, .int .i64 0] 49)).heap.size = w.heap.size + 1 + 1 := by simp; try omega
  replace c0 := kept_cell g c0
  replace c1 := kept_cell g c1
  replace c2 := kept_cell g c2
  replace c3 := kept_cell g c3
  have f1 := rd_lit W1 (w.heap.size + 1) z1.symm [(0, 0), (97, 1), (98, 0)] 3 #[.int .i64 0, .int .i64 0, .int .i64 97, .int .i64 1, .int .i64 98, .int .i64 0] rfl rfl (by decide)
  have G2 := G1.trans (g.mono (by omega))
  clear g
  generalize (W1.alloc (.cells #[.int .i64 0, .int .i64 0, .int .i64 97, .int .i64 1, .int .i64 98, .int .i64 0] 49)) = W2 at *
  have g := below_new W2 (.cells #[.int .i64 0, .int .i64 1] 3)
  have z3 : (W2.alloc (.cells #[.int .i64 0, .int .i64 1] 3)).heap.size = w.heap.size + 1 + 1 + 1 := by simp; try omega
  replace c0 := kept_cell g c0
  replace c1 := kept_cell g c1
  replace c2 := kept_cell g c2
  replace c3 := kept_cell g c3
  have f2 := ri_lit W2 (w.heap.size + 1 + 1) z2.symm [0, 1] 2 #[.int .i64 0, .int .i64 1] rfl rfl (by decide)
  replace f1 := f1.on g
  have G3 := G2.trans (g.mono (by omega))
  clear g
  generalize (W2.alloc (.cells #[.int .i64 0, .int .i64 1] 3)) = W3 at *
  have g := below_new W3 (.cells #[.int .i64 0, .int .i64 1] 3)
  have z4 : (W3.alloc (.cells #[.int .i64 0, .int .i64 1] 3)).heap.size = w.heap.size + 1 + 1 + 1 + 1 := by simp; try omega
  replace c0 := kept_cell g c0
  replace c1 := kept_cell g c1
  replace c2 := kept_cell g c2
  replace c3 := kept_cell g c3
  have f3 := ri_lit W3 (w.heap.size + 1 + 1 + 1) z3.symm [0, 1] 2 #[.int .i64 0, .int .i64 1] rfl rfl (by decide)
  replace f1 := f1.on g
  replace f2 := f2.on g
  have G4 := G3.trans (g.mono (by omega))
  clear g
  generalize (W3.alloc (.cells #[.int .i64 0, .int .i64 1] 3)) = W4 at *
  have g := below_new W4 (.cells #[.slice (some ⟨w.heap.size + 1 + 1, 0, none⟩) 2 2, .slice (some ⟨w.heap.size + 1 + 1 + 1, 0, none⟩) 2 2] 27)
  have z5 : (W4.alloc (.cells #[.slice (some ⟨w.heap.size + 1 + 1, 0, none⟩) 2 2, .slice (some ⟨w.heap.size + 1 + 1 + 1, 0, none⟩) 2 2] 27)).heap.size = w.heap.size + 1 + 1 + 1 + 1 + 1 := by simp; try omega
  replace c0 := kept_cell g c0
  replace c1 := kept_cell g c1
  replace c2 := kept_cell g c2
  replace c3 := kept_cell g c3
  have f4 := rn_lit W4 (w.heap.size + 1 + 1 + 1 + 1) z4.symm [⟨some ⟨w.heap.size + 1 + 1, 0, none⟩, 2, 2, [0, 1]⟩, ⟨some ⟨w.heap.size + 1 + 1 + 1, 0, none⟩, 2, 2, [0, 1]⟩] 2 #[.slice (some ⟨w.heap.size + 1 + 1, 0, none⟩) 2 2, .slice (some ⟨w.heap.size + 1 + 1 + 1, 0, none⟩) 2 2] rfl rfl (by decide) (fun h hh => by
    simp only [List.mem_cons, List.not_mem_nil, or_false] at hh
    rcases hh with rfl | rfl
    · exact ⟨f2, shpN _ 2 (by decide)⟩
    · exact ⟨f3, shpN _ 2 (by decide)⟩)
  replace f1 := f1.on g
  replace f2 := f2.on g
  replace f3 := f3.on g
  have G5 := G4.trans (g.mono (by omega))
  clear g
  generalize (W4.alloc (.cells #[.slice (some ⟨w.heap.size + 1 + 1, 0, none⟩) 2 2, .slice (some ⟨w.heap.size + 1 + 1 + 1, 0, none⟩) 2 2] 27)) = W5 at *
  have g := below_new W5 (.cells #[.bool false, .bool true] 4)
  have z6 : (W5.alloc (.cells #[.bool false, .bool true] 4)).heap.size = w.heap.size + 1 + 1 + 1 + 1 + 1 + 1 := by simp; try omega
  replace c0 := kept_cell g c0
  replace c1 := kept_cell g c1
  replace c2 := kept_cell g c2
  replace c3 := kept_cell g c3
  have f5 := rl_lit W5 (w.heap.size + 1 + 1 + 1 + 1 + 1) z5.symm [false, true] 2 #[.bool false, .bool true] rfl rfl (by decide)
  replace f1 := f1.on g
  replace f2 := f2.on g
  replace f3 := f3.on g
  replace f4 := f4.on g
  have G6 := G5.trans (g.mono (by omega))
  clear g
  generalize (W5.alloc (.cells #[.bool false, .bool true] 4)) = W6 at *
  exact bodyPost_ret (v := .agg #[.int .i64 2, .slice (some ⟨w.heap.size + 1, 0, none⟩) 3 3, .slice (some ⟨w.heap.size + 1 + 1 + 1 + 1, 0, none⟩) 2 2, .slice (some ⟨w.heap.size + 1 + 1 + 1 + 1 + 1, 0, none⟩) 2 2]) (by simp [results, Try.results19, go_sem, c0, c1, c2, c3]) rfl ⟨⟨2, some ⟨w.heap.size + 1, 0, none⟩, 3, 3, [(0, 0), (97, 1), (98, 0)], some ⟨w.heap.size + 1 + 1 + 1 + 1, 0, none⟩, 2, 2, [⟨some ⟨w.heap.size + 1 + 1, 0, none⟩, 2, 2, [0, 1]⟩, ⟨some ⟨w.heap.size + 1 + 1 + 1, 0, none⟩, 2, 2, [0, 1]⟩], some ⟨w.heap.size + 1 + 1 + 1 + 1 + 1, 0, none⟩, 2, 2, [false, true]⟩, rfl, rfl, ⟨f1, shpN _ 3 (by decide), f4, shpN _ 2 (by decide), f5, shpN _ 2 (by decide)⟩, G6⟩
theorem tTo_a : clB tTo 97 = true ∧ clN tTo 97 = 1 ∧ stO tTo [97, 98] = true ∧ stN tTo [97, 98] = 0 ∧ clB tTo 55296 = false := by decide
theorem tTo_b : brW tTo [97, 98, 97, 97] = some [1, 3, 4] := by decide
theorem zT_st : stO { cl := 0, bd := [], nx := [], br := [] } [] = false ∧ stN { cl := 0, bd := [], nx := [], br := [] } [] = 0 := by decide
set_option maxHeartbeats 4000000 in
theorem wakes8_any (w : World) : Calls Try.prog 8 #[] w fun e w' => e = .returned (.bool true) ∧ Below w.heap.size w w' := by
  have HTw := Lib.hid two_any
  have HCl := Lib.hid class_any
  have HSt := Lib.hid state_any
  have HBr := Lib.hid wbreaks_any
  go_enter Try.func8, Try.ntmps8
  go_wp2_with fail
  refine (HTw.out _).mono ?_
  rintro e w1 ⟨T, rfl, ht, hok, g⟩
  have b1 : Below w.heap.size w w1 := g
  have hc := HCl.out T 97 w1 hok
  rw [ht, tTo_a.1, tTo_a.2.1] at hc
  have HC := Lib.hid hc
  clear g hc ht hok
  go_wp2_with fail
  refine HC.out.mono ?_
  rintro e w2 ⟨rfl, g⟩
  have b1 := below_call b1 b1.size g
  clear g HC
  go_wp2_with fail
  refine (HTw.out _).mono ?_
  rintro e w3 ⟨T3, rfl, ht, hok, g⟩
  have b1 := below_call b1 b1.size g
  have ga := below_new w3 (.cells #[.int .i64 97, .int .i64 98] 3)
  have hs := HSt.out T3 [97, 98] 2 (some ⟨w3.heap.size, 0, none⟩) 2 (w3.alloc (.cells #[.int .i64 97, .int .i64 98] 3)) (hok.on ga) (ri_lit w3 _ rfl [97, 98] 2 #[.int .i64 97, .int .i64 98] rfl rfl (by decide)) (by decide)
  rw [ht, tTo_a.2.2.1, tTo_a.2.2.2.1] at hs
  have HS := Lib.hid hs
  have b1 := below_call b1 b1.size ga
  clear g hs ht hok ga
  go_wp2_with fail
  refine HS.out.mono ?_
  rintro e w4 ⟨rfl, g⟩
  have b1 := below_call b1 b1.size g
  clear g HS
  go_wp2_with fail
  refine (HTw.out _).mono ?_
  rintro e w5 ⟨T5, rfl, ht, hok, g⟩
  have b1 := below_call b1 b1.size g
  have ga := below_new w5 (.cells #[.int .i64 97, .int .i64 98, .int .i64 97, .int .i64 97] 3)
  have hs := HBr.out T5 [97, 98, 97, 97] 4 (some ⟨w5.heap.size, 0, none⟩) 4 (w5.alloc (.cells #[.int .i64 97, .int .i64 98, .int .i64 97, .int .i64 97] 3)) (hok.on ga) (ri_lit w5 _ rfl [97, 98, 97, 97] 4 #[.int .i64 97, .int .i64 98, .int .i64 97, .int .i64 97] rfl rfl (by decide)) (by decide)
  rw [ht, tTo_b] at hs
  have HS := Lib.hid hs
  have b1 := below_call b1 b1.size ga
  clear g hs ht hok ga
  go_wp2_with fail
  refine HS.out.mono ?_
  rintro e w6 ⟨A6, c6, rfl, hown, g⟩
  simp only [Option.getD_some, List.length_cons, List.length_nil, Option.isSome_some, Nat.zero_add, Nat.reduceAdd] at hown ⊢
  have b1 := below_call b1 b1.size g
  have HR6 := Lib.hid (own_RI hown)
  clear g HS hown
  go_wp2_with fail
  refine (HTw.out _).mono ?_
  rintro e w7 ⟨T7, rfl, ht, hok, g⟩
  have b1 := below_call b1 b1.size g
  have HR6 := Lib.hid (HR6.out.on g)
  have hc := HCl.out T7 55296 w7 hok
  rw [ht, tTo_a.2.2.2.2] at hc
  have HC := Lib.hid hc
  clear g hc ht hok
  go_wp2_with fail
  refine HC.out.mono ?_
  rintro e w8 ⟨rfl, g⟩
  have b1 := below_call b1 b1.size g
  have HR6 := Lib.hid (HR6.out.on g)
  clear g HC
  have hz : Calls Try.prog 10 #[.agg #[.int .i64 0, .slice none 0 0, .slice none 0 0, .slice none 0 0], .slice none 0 0] w8 fun e w' => e = .returned (.tuple #[.int .i64 0, .bool false]) ∧ Below w8.heap.size w8 w' := by
    have h := HSt.out ⟨0, none, 0, 0, [], none, 0, 0, [], none, 0, 0, []⟩ [] 0 none 0 w8 ⟨RD.nil _ _ _, ⟨fun _ => rfl, Nat.le_refl _, Nat.zero_le _⟩, RN.nil _ _ _, ⟨fun _ => rfl, Nat.le_refl _, Nat.zero_le _⟩, RL.nil _ _ _, ⟨fun _ => rfl, Nat.le_refl _, Nat.zero_le _⟩⟩ (RI.nil _ _ _) (by decide)
    have e1 : (⟨0, none, 0, 0, [], none, 0, 0, [], none, 0, 0, []⟩ : TV).tb = { cl := 0, bd := [], nx := [], br := [] } := rfl
    rw [e1, zT_st.1, zT_st.2] at h
    exact h
  have HZ := Lib.hid hz
  clear hz
  go_wp2_with fail
  refine HZ.out.mono ?_
  rintro e w9 ⟨rfl, g⟩
  have b1 := below_call b1 b1.size g
  have HR6 := Lib.hid (HR6.out.on g)
  clear g HZ
  have ga := below_new w9 (.cells #[.int .i64 1, .int .i64 3, .int .i64 4] 3)
  have hk := keepInts_n [1, 3, 4] [1, 3, 4] 3 3 A6 (some ⟨w9.heap.size, 0, none⟩) c6 3 (w9.alloc (.cells #[.int .i64 1, .int .i64 3, .int .i64 4] 3)) (HR6.out.on ga) (ri_lit w9 _ rfl [1, 3, 4] 3 #[.int .i64 1, .int .i64 3, .int .i64 4] rfl rfl (by decide)) (by decide)
  rw [eqX_yes rfl] at hk
  have HK := Lib.hid hk
  have b1 := below_call b1 b1.size ga
  clear hk ga HR6
  go_wp2_with fail
  refine HK.out.mono ?_
  rintro e w10 ⟨rfl, g⟩
  have b1 := below_call b1 b1.size g
  clear g
  go_wp2_with fail
  go_ret
  exact ⟨rfl, b1⟩
end Go.Proofs.Ytaejfebpalmfmaa
