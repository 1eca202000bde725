/- What length, mayBe, countsOf, Length and the document's Length return. -/
import Derived.Test.YtbnconieedgcmaaDoorFits
import Derived.BigRegion
namespace Go.Proofs.YtbnconieedgcmaaDoor
open Go.RowKit Go.BigFrame
set_option linter.unusedVariables false
set_option maxRecDepth 4000
set_option linter.unusedSimpArgs false

theorem RB.all {w : World} {B n : Nat} {A : Option Addr} {l : List Nat} (h : RB w B A n l) (h0 : 0 < n) : ∃ b o, A = some ⟨b, o, none⟩ ∧ b < B ∧ ∀ k (hk : k < l.length), w.cell? ⟨b, o + k, none⟩ = some (.int .u8 (l[k] : Int)) := by
  obtain ⟨b, o, rfl, hb, hc⟩ := h.2.1.2 h0
  exact ⟨b, o, rfl, hb, fun k hk => hc k _ (by unfold ycells; rw [List.getElem?_map, List.getElem?_eq_getElem hk]; rfl)⟩
theorem getD_at (l : List Nat) (k : Nat) (h : k < l.length) : l[k]?.getD 0 = l[k] := by rw [List.getElem?_eq_getElem h]; rfl
theorem mul_wrap (s c : Nat) (hs : s ≤ 255) (hc : c ≤ 255) : ∃ m : Nat, m = s * c ∧ (s : Int) * (c : Int) = (m : Int) ∧ m ≤ 65025 :=
  ⟨s * c, rfl, by rw [Int.natCast_mul], by have := Nat.mul_le_mul hs hc; omega⟩
set_option maxHeartbeats 1000000 in
theorem length_any (c s k : Nat) (hc : c ≤ 255) (hs : s ≤ 255) (hk : k ≤ 255) (w : World) :
    Calls Tryd.prog 55 #[.agg #[.int .i64 c, .int .i64 s, .int .i64 k]] w fun e w' => e = .returned (.int .i64 (lenT c s k : Nat)) ∧ Below w.heap.size w w' := by
  obtain ⟨m, hm, hmm, hmb⟩ := mul_wrap s c hs hc
  have HE : Hid ((7 + (k : Int) * 4 + (m : Int) + ((s : Int) + 8 - 1) / 8 + 4) = ((lenT c s k : Nat) : Int)) := Lib.hid (by unfold lenT; rw [← hm]; omega)
  clear hm
  go_enter Tryd.func55, Tryd.ntmps55
  go_wp2_with fail
  go_ret
  exact ⟨congrArg (fun z => Ending.returned (.int .i64 z)) HE.out, below_new _ _⟩
/-- Counts within their limits? -/
def cntB (c s k : Nat) : Bool := decide ((1 ≤ c ∧ c ≤ 8) ∧ (1 ≤ s ∧ s ≤ 5) ∧ (1 ≤ k ∧ k ≤ 60))
set_option maxHeartbeats 1000000 in
theorem mayBe_any (c s k : Nat) (w : World) :
    Calls Tryd.prog 54 #[.agg #[.int .i64 c, .int .i64 s, .int .i64 k]] w fun e w' => e = .returned (.bool (cntB c s k)) ∧ Below w.heap.size w w' := by
  by_cases h1 : 1 ≤ (c : Int) ∧ (c : Int) ≤ 8
  case neg =>
    have H : Hid (cntB c s k = false) := Lib.hid (decide_eq_false (by omega))
    go_enter Tryd.func54, Tryd.ntmps54
    go_wp2_with fail
    refine (within_f _ _ _ h1 _).mono ?_
    rintro e w1 ⟨rfl, rfl⟩
    go_wp2_with fail
    go_ret
    exact ⟨ret_bool H.out.symm, below_new _ _⟩
  by_cases h2 : 1 ≤ (s : Int) ∧ (s : Int) ≤ 5
  case neg =>
    have H : Hid (cntB c s k = false) := Lib.hid (decide_eq_false (by omega))
    go_enter Tryd.func54, Tryd.ntmps54
    go_wp2_with fail
    refine (within_t _ _ _ h1 _).mono ?_
    rintro e w1 ⟨rfl, rfl⟩
    go_wp2_with fail
    refine (within_f _ _ _ h2 _).mono ?_
    rintro e w1 ⟨rfl, rfl⟩
    go_wp2_with fail
    go_ret
    exact ⟨ret_bool H.out.symm, below_new _ _⟩
  by_cases h3 : 1 ≤ (k : Int) ∧ (k : Int) ≤ 60
  case neg =>
    have H : Hid (cntB c s k = false) := Lib.hid (decide_eq_false (by omega))
    go_enter Tryd.func54, Tryd.ntmps54
    go_wp2_with fail
    refine (within_t _ _ _ h1 _).mono ?_
    rintro e w1 ⟨rfl, rfl⟩
    go_wp2_with fail
    refine (within_t _ _ _ h2 _).mono ?_
    rintro e w1 ⟨rfl, rfl⟩
    go_wp2_with fail
    refine (within_f _ _ _ h3 _).mono ?_
    rintro e w1 ⟨rfl, rfl⟩
    go_wp2_with fail
    go_ret
    exact ⟨ret_bool H.out.symm, below_new _ _⟩
  have H : Hid (cntB c s k = true) := Lib.hid (decide_eq_true (by omega))
  go_enter Tryd.func54, Tryd.ntmps54
  go_wp2_with fail
  refine (within_t _ _ _ h1 _).mono ?_
  rintro e w1 ⟨rfl, rfl⟩
  go_wp2_with fail
  refine (within_t _ _ _ h2 _).mono ?_
  rintro e w1 ⟨rfl, rfl⟩
  go_wp2_with fail
  refine (within_t _ _ _ h3 _).mono ?_
  rintro e w1 ⟨rfl, rfl⟩
  go_wp2_with fail
  go_ret
  exact ⟨ret_bool H.out.symm, below_new _ _⟩
set_option maxHeartbeats 1000000 in
theorem countsOf_any (l : List Nat) (n : Nat) (A : Option Addr) (c : Nat) (w : World) (hR : RB w w.heap.size A n l) (hn : 7 ≤ n) (hn2 : n ≤ 100000) :
    Calls Tryd.prog 53 #[.slice A n c] w fun e w' => e = .returned (.agg #[.int .i64 (l[4]?.getD 0 : Nat), .int .i64 (l[5]?.getD 0 : Nat), .int .i64 (l[6]?.getD 0 : Nat)]) ∧ Below w.heap.size w w' := by
  have hl := hR.1
  have hy := hR.2.2
  obtain ⟨b, o, rfl, hb, hc⟩ := hR.all (by omega)
  have p4 := hc 4 (by omega)
  have p5 := hc 5 (by omega)
  have p6 := hc 6 (by omega)
  have y4 := hy l[4] (List.getElem_mem _)
  have y5 := hy l[5] (List.getElem_mem _)
  have y6 := hy l[6] (List.getElem_mem _)
  rw [getD_at l 4 (by omega), getD_at l 5 (by omega), getD_at l 6 (by omega)]
  have hc4 : (w.alloc (.cells #[.int .i64 0, .int .i64 0, .int .i64 0] 82)).cell? ⟨b, o + 4, none⟩ = some (.int .u8 (l[4] : Int)) := (World.cell?_alloc_lt w _ _ hb).trans p4
  have hc5 : (w.alloc (.cells #[.int .i64 0, .int .i64 0, .int .i64 0] 82)).cell? ⟨b, o + 5, none⟩ = some (.int .u8 (l[5] : Int)) := (World.cell?_alloc_lt w _ _ hb).trans p5
  have hc6 : (w.alloc (.cells #[.int .i64 0, .int .i64 0, .int .i64 0] 82)).cell? ⟨b, o + 6, none⟩ = some (.int .u8 (l[6] : Int)) := (World.cell?_alloc_lt w _ _ hb).trans p6
  generalize l[4] = x4 at *
  generalize l[5] = x5 at *
  generalize l[6] = x6 at *
  clear hR hc hy hl p4 p5 p6
  have i0 : (4 : Int) < (n : Int) := by omega
  have i1 : (5 : Int) < (n : Int) := by omega
  have i2 : (6 : Int) < (n : Int) := by omega
  go_enter Tryd.func53, Tryd.ntmps53
  go_wp2_with fail
  go_region
  go_wp2_with fail
  exact bodyPost_ret (v := .agg #[.int .i64 x4, .int .i64 x5, .int .i64 x6]) (by simp [results, Tryd.results53, go_sem]) rfl ⟨rfl, by first | exact Below.drew (Below.setCells (below_new _ _) _ _ _) | (go_grown)⟩
/-- How many bytes; 0: a count has no byte. -/
def lenI (c s k : Int) : Nat := if byB c = true ∧ byB s = true ∧ byB k = true then lenT c.toNat s.toNat k.toNat else 0
theorem lenI_no {c s k : Int} (h : ¬ (byB c = true ∧ byB s = true ∧ byB k = true)) : lenI c s k = 0 := by unfold lenI; rw [if_neg h]
theorem lenI_nat {c s k : Nat} (h1 : c ≤ 255) (h2 : s ≤ 255) (h3 : k ≤ 255) : lenI c s k = lenT c s k := by
  unfold lenI; rw [if_pos ⟨byB_yes (by omega), byB_yes (by omega), byB_yes (by omega)⟩]; rfl
set_option maxHeartbeats 1000000 in
theorem lengthOf_any (c s k : Int) (w : World) :
    Calls Tryd.prog 22 #[.int .i64 c, .int .i64 s, .int .i64 k] w fun e w' => e = .returned (.int .i64 (lenI c s k : Nat)) ∧ Below w.heap.size w w' := by
  have H1 := Lib.hid (inByte_any c)
  have H2 := Lib.hid (inByte_any s)
  have H3 := Lib.hid (inByte_any k)
  cases h1 : byB c
  case false =>
    rw [lenI_no (by simp [h1])]
    rw [h1] at H1
    clear h1
    go_enter Tryd.func22, Tryd.ntmps22
    go_wp2_with fail
    refine (H1.out _).mono ?_
    rintro e w1 ⟨rfl, rfl⟩
    go_wp2_with fail
    go_ret
    exact ⟨rfl, Below.refl _ _⟩
  rw [h1] at H1
  cases h2 : byB s
  case false =>
    rw [lenI_no (by simp [h2])]
    rw [h2] at H2
    clear h2
    go_enter Tryd.func22, Tryd.ntmps22
    go_wp2_with fail
    refine (H1.out _).mono ?_
    rintro e w1 ⟨rfl, rfl⟩
    go_wp2_with fail
    refine (H2.out _).mono ?_
    rintro e w1 ⟨rfl, rfl⟩
    go_wp2_with fail
    go_ret
    exact ⟨rfl, Below.refl _ _⟩
  rw [h2] at H2
  cases h3 : byB k
  case false =>
    rw [lenI_no (by simp [h3])]
    rw [h3] at H3
    clear h3
    go_enter Tryd.func22, Tryd.ntmps22
    go_wp2_with fail
    refine (H1.out _).mono ?_
    rintro e w1 ⟨rfl, rfl⟩
    go_wp2_with fail
    refine (H2.out _).mono ?_
    rintro e w1 ⟨rfl, rfl⟩
    go_wp2_with fail
    refine (H3.out _).mono ?_
    rintro e w1 ⟨rfl, rfl⟩
    go_wp2_with fail
    go_ret
    exact ⟨rfl, Below.refl _ _⟩
  rw [h3] at H3
  have g1 := (byB_iff c).1 h1
  have g2 := (byB_iff s).1 h2
  have g3 := (byB_iff k).1 h3
  obtain ⟨c, rfl⟩ := Int.eq_ofNat_of_zero_le g1.1
  obtain ⟨s, rfl⟩ := Int.eq_ofNat_of_zero_le g2.1
  obtain ⟨k, rfl⟩ := Int.eq_ofNat_of_zero_le g3.1
  have e1 : c ≤ 255 := by have := g1.2; omega
  have e2 : s ≤ 255 := by have := g2.2; omega
  have e3 : k ≤ 255 := by have := g3.2; omega
  rw [lenI_nat e1 e2 e3]
  clear g1 g2 g3 h1 h2 h3
  have HL := Lib.hid (length_any c s k e1 e2 e3)
  go_enter Tryd.func22, Tryd.ntmps22
  go_wp2_with fail
  refine (H1.out _).mono ?_
  rintro e w1 ⟨rfl, rfl⟩
  go_wp2_with fail
  refine (H2.out _).mono ?_
  rintro e w1 ⟨rfl, rfl⟩
  go_wp2_with fail
  refine (H3.out _).mono ?_
  rintro e w1 ⟨rfl, rfl⟩
  go_wp2_with fail
  refine (HL.out _).mono ?_
  rintro e w1 ⟨rfl, g⟩
  go_wp2_with fail
  go_ret
  exact ⟨rfl, g⟩
set_option maxHeartbeats 1000000 in
theorem refLength_any (c s k : Int) (w : World) :
    Calls Tryd.prog 23 #[.int .i64 c, .int .i64 s, .int .i64 k] w fun e w' => e = .returned (.int .i64 (lenI c s k : Nat)) ∧ Below w.heap.size w w' := by
  have H1 := Lib.hid (byteOf_any c)
  have H2 := Lib.hid (byteOf_any s)
  have H3 := Lib.hid (byteOf_any k)
  cases h1 : byB c
  case false =>
    rw [lenI_no (by simp [h1])]
    rw [h1] at H1
    clear h1
    go_enter Tryd.func23, Tryd.ntmps23
    go_wp2_with fail
    refine (H1.out _).mono ?_
    rintro e w1 ⟨rfl, rfl⟩
    go_wp2_with fail
    go_ret
    exact ⟨rfl, Below.refl _ _⟩
  rw [h1] at H1
  cases h2 : byB s
  case false =>
    rw [lenI_no (by simp [h2])]
    rw [h2] at H2
    clear h2
    go_enter Tryd.func23, Tryd.ntmps23
    go_wp2_with fail
    refine (H1.out _).mono ?_
    rintro e w1 ⟨rfl, rfl⟩
    go_wp2_with fail
    refine (H2.out _).mono ?_
    rintro e w1 ⟨rfl, rfl⟩
    go_wp2_with fail
    go_ret
    exact ⟨rfl, Below.refl _ _⟩
  rw [h2] at H2
  cases h3 : byB k
  case false =>
    rw [lenI_no (by simp [h3])]
    rw [h3] at H3
    clear h3
    go_enter Tryd.func23, Tryd.ntmps23
    go_wp2_with fail
    refine (H1.out _).mono ?_
    rintro e w1 ⟨rfl, rfl⟩
    go_wp2_with fail
    refine (H2.out _).mono ?_
    rintro e w1 ⟨rfl, rfl⟩
    go_wp2_with fail
    refine (H3.out _).mono ?_
    rintro e w1 ⟨rfl, rfl⟩
    go_wp2_with fail
    go_ret
    exact ⟨rfl, Below.refl _ _⟩
  rw [h3] at H3
  have g1 := (byB_iff c).1 h1
  have g2 := (byB_iff s).1 h2
  have g3 := (byB_iff k).1 h3
  obtain ⟨c, rfl⟩ := Int.eq_ofNat_of_zero_le g1.1
  obtain ⟨s, rfl⟩ := Int.eq_ofNat_of_zero_le g2.1
  obtain ⟨k, rfl⟩ := Int.eq_ofNat_of_zero_le g3.1
  have e1 : c ≤ 255 := by have := g1.2; omega
  have e2 : s ≤ 255 := by have := g2.2; omega
  have e3 : k ≤ 255 := by have := g3.2; omega
  rw [lenI_nat e1 e2 e3]
  clear g1 g2 g3 h1 h2 h3
  obtain ⟨m, hm, hmm, hmb⟩ := mul_wrap s c e2 e1
  have HE : Hid ((7 + 4 * (k : Int) + (m : Int) + ((s : Int) + 7) / 8 + 4) = ((lenT c s k : Nat) : Int)) := Lib.hid (by unfold lenT; rw [← hm]; omega)
  clear hm
  go_enter Tryd.func23, Tryd.ntmps23
  go_wp2_with fail
  refine (H1.out _).mono ?_
  rintro e w1 ⟨rfl, rfl⟩
  go_wp2_with fail
  refine (H2.out _).mono ?_
  rintro e w1 ⟨rfl, rfl⟩
  go_wp2_with fail
  refine (H3.out _).mono ?_
  rintro e w1 ⟨rfl, rfl⟩
  go_wp2_with fail
  go_ret
  exact ⟨congrArg (fun z => Ending.returned (.int .i64 z)) HE.out, Below.refl _ _⟩
end Go.Proofs.YtbnconieedgcmaaDoor
