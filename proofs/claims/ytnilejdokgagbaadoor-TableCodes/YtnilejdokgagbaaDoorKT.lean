/- Joined: Cnts Enc NextOf OwnL Seal BandsOf DMath Dec Bare Dec2 Dec3. -/
import Derived.Test.YtnilejdokgagbaaDoorKA2
import Derived.BigRegion
import Derived.Deep.AppendLies
import Derived.Laws.MakeOwn
import Derived.Laws.StructEq
import Derived.Laws.CopyOwn
import Derived.Deep.AppendSrc
import Derived.Deep.RegionHeld3
/- What length, mayBe, countsOf, Length and the document's Length return. -/
namespace Go.Proofs.YtnilejdokgagbaaDoor
open Go.RowKit Go.BigFrame
set_option linter.unusedVariables false
set_option maxRecDepth 4000
set_option linter.unusedSimpArgs false

theorem RB.all {w : World} {B n : Nat} {A : Option Addr} {l : List Nat} (h : RB w B A n l) (h0 : 0 < n) : ∃ b o, A = some ⟨b, o, none⟩ ∧ b < B ∧ ∀ k (hk : k < l.length), w.cell? ⟨b, o + k, none⟩ = some (.int .u8 (l[k] : Int)) := by
  obtain ⟨b, o, rfl, hb, hc⟩ := h.2.1.2 h0
  exact ⟨b, o, rfl, hb, fun k hk => hc k _ (by unfold ycells; rw [List.getElem?_map, List.getElem?_eq_getElem hk]; rfl)⟩
theorem getD_at (l : List Nat) (k : Nat) (h : k < l.length) : l[k]?.getD 0 = l[k] := by rw [List.getElem?_eq_getElem h]; rfl
theorem mul_wrap (s c : Nat) (hs : s ≤ 255) (hc : c ≤ 255) : ∃ m : Nat, m = s * c ∧ (s : Int) * (c : Int) = (m : Int) ∧ m ≤ 65025 :=
  ⟨s * c, rfl, by rw [Int.natCast_mul], by have := Nat.mul_le_mul hs hc; omega⟩
set_option maxHeartbeats 1000000 in
theorem length_any (c s k : Nat) (hc : c ≤ 255) (hs : s ≤ 255) (hk : k ≤ 255) (w : World) :
    Calls Tryd.prog 37 #[.agg #[.int .i64 c, .int .i64 s, .int .i64 k]] w fun e w' => e = .returned (.int .i64 (lenT c s k : Nat)) ∧ Below w.heap.size w w' := by
  obtain ⟨m, hm, hmm, hmb⟩ := mul_wrap s c hs hc
  have HE : Hid ((7 + (k : Int) * 4 + (m : Int) + ((s : Int) + 8 - 1) / 8 + 4) = ((lenT c s k : Nat) : Int)) := Lib.hid (by unfold lenT; rw [← hm]; omega)
  clear hm
  go_enter Tryd.func37, Tryd.ntmps37
  go_wp2_with fail
  go_ret
  exact ⟨congrArg (fun z => Ending.returned (.int .i64 z)) HE.out, below_new _ _⟩
/-- Counts within their limits? -/
def cntB (c s k : Nat) : Bool := decide ((1 ≤ c ∧ c ≤ 8) ∧ (1 ≤ s ∧ s ≤ 5) ∧ (1 ≤ k ∧ k ≤ 60))
set_option maxHeartbeats 1000000 in
theorem mayBe_any (c s k : Nat) (w : World) :
    Calls Tryd.prog 36 #[.agg #[.int .i64 c, .int .i64 s, .int .i64 k]] w fun e w' => e = .returned (.bool (cntB c s k)) ∧ Below w.heap.size w w' := by
  by_cases h1 : 1 ≤ (c : Int) ∧ (c : Int) ≤ 8
  case neg =>
    have H : Hid (cntB c s k = false) := Lib.hid (decide_eq_false (by omega))
    go_enter Tryd.func36, Tryd.ntmps36
    go_wp2_with fail
    refine (within_f _ _ _ h1 _).mono ?_
    rintro e w1 ⟨rfl, rfl⟩
    go_wp2_with fail
    go_ret
    exact ⟨ret_bool H.out.symm, below_new _ _⟩
  by_cases h2 : 1 ≤ (s : Int) ∧ (s : Int) ≤ 5
  case neg =>
    have H : Hid (cntB c s k = false) := Lib.hid (decide_eq_false (by omega))
    go_enter Tryd.func36, Tryd.ntmps36
    go_wp2_with fail
    refine (within_t _ _ _ h1 _).mono ?_
    rintro e w1 ⟨rfl, rfl⟩
    go_wp2_with fail
    refine (within_f _ _ _ h2 _).mono ?_
    rintro e w1 ⟨rfl, rfl⟩
    go_wp2_with fail
    go_ret
    exact ⟨ret_bool H.out.symm, below_new _ _⟩
  by_cases h3 : 1 ≤ (k : Int) ∧ (k : Int) ≤ 60
  case neg =>
    have H : Hid (cntB c s k = false) := Lib.hid (decide_eq_false (by omega))
    go_enter Tryd.func36, Tryd.ntmps36
    go_wp2_with fail
    refine (within_t _ _ _ h1 _).mono ?_
    rintro e w1 ⟨rfl, rfl⟩
    go_wp2_with fail
    refine (within_t _ _ _ h2 _).mono ?_
    rintro e w1 ⟨rfl, rfl⟩
    go_wp2_with fail
    refine (within_f _ _ _ h3 _).mono ?_
    rintro e w1 ⟨rfl, rfl⟩
    go_wp2_with fail
    go_ret
    exact ⟨ret_bool H.out.symm, below_new _ _⟩
  have H : Hid (cntB c s k = true) := Lib.hid (decide_eq_true (by omega))
  go_enter Tryd.func36, Tryd.ntmps36
  go_wp2_with fail
  refine (within_t _ _ _ h1 _).mono ?_
  rintro e w1 ⟨rfl, rfl⟩
  go_wp2_with fail
  refine (within_t _ _ _ h2 _).mono ?_
  rintro e w1 ⟨rfl, rfl⟩
  go_wp2_with fail
  refine (within_t _ _ _ h3 _).mono ?_
  rintro e w1 ⟨rfl, rfl⟩
  go_wp2_with fail
  go_ret
  exact ⟨ret_bool H.out.symm, below_new _ _⟩
set_option maxHeartbeats 1000000 in
theorem countsOf_any (l : List Nat) (n : Nat) (A : Option Addr) (c : Nat) (w : World) (hR : RB w w.heap.size A n l) (hn : 7 ≤ n) (hn2 : n ≤ 100000) :
    Calls Tryd.prog 35 #[.slice A n c] w fun e w' => e = .returned (.agg #[.int .i64 (l[4]?.getD 0 : Nat), .int .i64 (l[5]?.getD 0 : Nat), .int .i64 (l[6]?.getD 0 : Nat)]) ∧ Below w.heap.size w w' := by
  have hl := hR.1
  have hy := hR.2.2
  obtain ⟨b, o, rfl, hb, hc⟩ := hR.all (by omega)
  have p4 := hc 4 (by omega)
  have p5 := hc 5 (by omega)
  have p6 := hc 6 (by omega)
  have y4 := hy l[4] (List.getElem_mem _)
  have y5 := hy l[5] (List.getElem_mem _)
  have y6 := hy l[6] (List.getElem_mem _)
  rw [getD_at l 4 (by omega), getD_at l 5 (by omega), getD_at l 6 (by omega)]
  have hc4 : (w.alloc (.cells #[.int .i64 0, .int .i64 0, .int .i64 0] 62)).cell? ⟨b, o + 4, none⟩ = some (.int .u8 (l[4] : Int)) := (World.cell?_alloc_lt w _ _ hb).trans p4
  have hc5 : (w.alloc (.cells #[.int .i64 0, .int .i64 0, .int .i64 0] 62)).cell? ⟨b, o + 5, none⟩ = some (.int .u8 (l[5] : Int)) := (World.cell?_alloc_lt w _ _ hb).trans p5
  have hc6 : (w.alloc (.cells #[.int .i64 0, .int .i64 0, .int .i64 0] 62)).cell? ⟨b, o + 6, none⟩ = some (.int .u8 (l[6] : Int)) := (World.cell?_alloc_lt w _ _ hb).trans p6
  generalize l[4] = x4 at *
  generalize l[5] = x5 at *
  generalize l[6] = x6 at *
  clear hR hc hy hl p4 p5 p6
  have i0 : (4 : Int) < (n : Int) := by omega
  have i1 : (5 : Int) < (n : Int) := by omega
  have i2 : (6 : Int) < (n : Int) := by omega
  go_enter Tryd.func35, Tryd.ntmps35
  go_wp2_with fail
  go_region
  go_wp2_with fail
  exact bodyPost_ret (v := .agg #[.int .i64 x4, .int .i64 x5, .int .i64 x6]) (by simp [results, Tryd.results35, go_sem]) rfl ⟨rfl, by first | exact Below.drew (Below.setCells (below_new _ _) _ _ _) | (go_grown)⟩
/-- How many bytes; 0: a count has no byte. -/
def lenI (c s k : Int) : Nat := if byB c = true ∧ byB s = true ∧ byB k = true then lenT c.toNat s.toNat k.toNat else 0
theorem lenI_no {c s k : Int} (h : ¬ (byB c = true ∧ byB s = true ∧ byB k = true)) : lenI c s k = 0 := by unfold lenI; rw [if_neg h]
theorem lenI_nat {c s k : Nat} (h1 : c ≤ 255) (h2 : s ≤ 255) (h3 : k ≤ 255) : lenI c s k = lenT c s k := by
  unfold lenI; rw [if_pos ⟨byB_yes (by omega), byB_yes (by omega), byB_yes (by omega)⟩]; rfl
set_option maxHeartbeats 1000000 in
theorem lengthOf_any (c s k : Int) (w : World) :
    Calls Tryd.prog 15 #[.int .i64 c, .int .i64 s, .int .i64 k] w fun e w' => e = .returned (.int .i64 (lenI c s k : Nat)) ∧ Below w.heap.size w w' := by
  have H1 := Lib.hid (inByte_any c)
  have H2 := Lib.hid (inByte_any s)
  have H3 := Lib.hid (inByte_any k)
  cases h1 : byB c
  case false =>
    rw [lenI_no (by simp [h1])]
    rw [h1] at H1
    clear h1
    go_enter Tryd.func15, Tryd.ntmps15
    go_wp2_with fail
    refine (H1.out _).mono ?_
    rintro e w1 ⟨rfl, rfl⟩
    go_wp2_with fail
    go_ret
    exact ⟨rfl, Below.refl _ _⟩
  rw [h1] at H1
  cases h2 : byB s
  case false =>
    rw [lenI_no (by simp [h2])]
    rw [h2] at H2
    clear h2
    go_enter Tryd.func15, Tryd.ntmps15
    go_wp2_with fail
    refine (H1.out _).mono ?_
    rintro e w1 ⟨rfl, rfl⟩
    go_wp2_with fail
    refine (H2.out _).mono ?_
    rintro e w1 ⟨rfl, rfl⟩
    go_wp2_with fail
    go_ret
    exact ⟨rfl, Below.refl _ _⟩
  rw [h2] at H2
  cases h3 : byB k
  case false =>
    rw [lenI_no (by simp [h3])]
    rw [h3] at H3
    clear h3
    go_enter Tryd.func15, Tryd.ntmps15
    go_wp2_with fail
    refine (H1.out _).mono ?_
    rintro e w1 ⟨rfl, rfl⟩
    go_wp2_with fail
    refine (H2.out _).mono ?_
    rintro e w1 ⟨rfl, rfl⟩
    go_wp2_with fail
    refine (H3.out _).mono ?_
    rintro e w1 ⟨rfl, rfl⟩
    go_wp2_with fail
    go_ret
    exact ⟨rfl, Below.refl _ _⟩
  rw [h3] at H3
  have g1 := (byB_iff c).1 h1
  have g2 := (byB_iff s).1 h2
  have g3 := (byB_iff k).1 h3
  obtain ⟨c, rfl⟩ := Int.eq_ofNat_of_zero_le g1.1
  obtain ⟨s, rfl⟩ := Int.eq_ofNat_of_zero_le g2.1
  obtain ⟨k, rfl⟩ := Int.eq_ofNat_of_zero_le g3.1
  have e1 : c ≤ 255 := by have := g1.2; omega
  have e2 : s ≤ 255 := by have := g2.2; omega
  have e3 : k ≤ 255 := by have := g3.2; omega
  rw [lenI_nat e1 e2 e3]
  clear g1 g2 g3 h1 h2 h3
  have HL := Lib.hid (length_any c s k e1 e2 e3)
  go_enter Tryd.func15, Tryd.ntmps15
  go_wp2_with fail
  refine (H1.out _).mono ?_
  rintro e w1 ⟨rfl, rfl⟩
  go_wp2_with fail
  refine (H2.out _).mono ?_
  rintro e w1 ⟨rfl, rfl⟩
  go_wp2_with fail
  refine (H3.out _).mono ?_
  rintro e w1 ⟨rfl, rfl⟩
  go_wp2_with fail
  refine (HL.out _).mono ?_
  rintro e w1 ⟨rfl, g⟩
  go_wp2_with fail
  go_ret
  exact ⟨rfl, g⟩
set_option maxHeartbeats 1000000 in
theorem refLength_any (c s k : Int) (w : World) :
    Calls Tryd.prog 16 #[.int .i64 c, .int .i64 s, .int .i64 k] w fun e w' => e = .returned (.int .i64 (lenI c s k : Nat)) ∧ Below w.heap.size w w' := by
  have H1 := Lib.hid (byteOf_any c)
  have H2 := Lib.hid (byteOf_any s)
  have H3 := Lib.hid (byteOf_any k)
  cases h1 : byB c
  case false =>
    rw [lenI_no (by simp [h1])]
    rw [h1] at H1
    clear h1
    go_enter Tryd.func16, Tryd.ntmps16
    go_wp2_with fail
    refine (H1.out _).mono ?_
    rintro e w1 ⟨rfl, rfl⟩
    go_wp2_with fail
    go_ret
    exact ⟨rfl, Below.refl _ _⟩
  rw [h1] at H1
  cases h2 : byB s
  case false =>
    rw [lenI_no (by simp [h2])]
    rw [h2] at H2
    clear h2
    go_enter Tryd.func16, Tryd.ntmps16
    go_wp2_with fail
    refine (H1.out _).mono ?_
    rintro e w1 ⟨rfl, rfl⟩
    go_wp2_with fail
    refine (H2.out _).mono ?_
    rintro e w1 ⟨rfl, rfl⟩
    go_wp2_with fail
    go_ret
    exact ⟨rfl, Below.refl _ _⟩
  rw [h2] at H2
  cases h3 : byB k
  case false =>
    rw [lenI_no (by simp [h3])]
    rw [h3] at H3
    clear h3
    go_enter Tryd.func16, Tryd.ntmps16
    go_wp2_with fail
    refine (H1.out _).mono ?_
    rintro e w1 ⟨rfl, rfl⟩
    go_wp2_with fail
    refine (H2.out _).mono ?_
    rintro e w1 ⟨rfl, rfl⟩
    go_wp2_with fail
    refine (H3.out _).mono ?_
    rintro e w1 ⟨rfl, rfl⟩
    go_wp2_with fail
    go_ret
    exact ⟨rfl, Below.refl _ _⟩
  rw [h3] at H3
  have g1 := (byB_iff c).1 h1
  have g2 := (byB_iff s).1 h2
  have g3 := (byB_iff k).1 h3
  obtain ⟨c, rfl⟩ := Int.eq_ofNat_of_zero_le g1.1
  obtain ⟨s, rfl⟩ := Int.eq_ofNat_of_zero_le g2.1
  obtain ⟨k, rfl⟩ := Int.eq_ofNat_of_zero_le g3.1
  have e1 : c ≤ 255 := by have := g1.2; omega
  have e2 : s ≤ 255 := by have := g2.2; omega
  have e3 : k ≤ 255 := by have := g3.2; omega
  rw [lenI_nat e1 e2 e3]
  clear g1 g2 g3 h1 h2 h3
  obtain ⟨m, hm, hmm, hmb⟩ := mul_wrap s c e2 e1
  have HE : Hid ((7 + 4 * (k : Int) + (m : Int) + ((s : Int) + 7) / 8 + 4) = ((lenT c s k : Nat) : Int)) := Lib.hid (by unfold lenT; rw [← hm]; omega)
  clear hm
  go_enter Tryd.func16, Tryd.ntmps16
  go_wp2_with fail
  refine (H1.out _).mono ?_
  rintro e w1 ⟨rfl, rfl⟩
  go_wp2_with fail
  refine (H2.out _).mono ?_
  rintro e w1 ⟨rfl, rfl⟩
  go_wp2_with fail
  refine (H3.out _).mono ?_
  rintro e w1 ⟨rfl, rfl⟩
  go_wp2_with fail
  go_ret
  exact ⟨congrArg (fun z => Ending.returned (.int .i64 z)) HE.out, Below.refl _ _⟩
end Go.Proofs.YtnilejdokgagbaaDoor

/- What Encode returns. -/
namespace Go.Proofs.YtnilejdokgagbaaDoor
open Go.RowKit Go.BigFrame
set_option linter.unusedVariables false
set_option maxRecDepth 4000
set_option linter.unusedSimpArgs false

noncomputable def encR (t : Tb) : Option (List Nat) := @dite _ (∃ b, IsEnc b t) (Classical.propDecidable _) (fun h => some (Classical.choose h)) (fun _ => none)
theorem encR_yes {t : Tb} {b : List Nat} (h : IsEnc b t) : encR t = some b := by
  unfold encR
  have hex : ∃ b, IsEnc b t := ⟨b, h⟩
  rw [dif_pos hex]
  exact congrArg some ((Classical.choose_spec hex).uniq h)
theorem encR_no {t : Tb} (h : ¬ MayT t) : encR t = none := by
  unfold encR
  rw [dif_neg]
  rintro ⟨b, hb⟩
  exact h hb.1
theorem encR_may {t : Tb} (h : MayT t) : ∃ b, IsEnc b t ∧ encR t = some b := by
  obtain ⟨y, hy⟩ := isBits_some t.br
  exact ⟨_, ⟨h, y, hy, rfl⟩, encR_yes ⟨h, y, hy, rfl⟩⟩
/-- Bytes, or that there are none. -/
def OutEn (r : Option (List Nat)) (w : World) (e : Ending) (w' : World) : Prop :=
  ∃ (A : Option Addr) (c : Nat), e = .returned (.tuple #[.slice A (r.getD []).length c, .bool r.isSome]) ∧ RB w' w'.heap.size A (r.getD []).length (r.getD []) ∧ Shp A (r.getD []).length c ∧ Below w.heap.size w w'
theorem outEn_no (w w' : World) (g : Below w.heap.size w w') : OutEn none w (.returned (.tuple #[.slice none 0 0, .bool false])) w' :=
  ⟨none, 0, rfl, RB.nil _ _ _, ⟨fun _ => rfl, Nat.le_refl _, Nat.zero_le _⟩, g⟩
theorem outEn_yes {w w' : World} {b : List Nat} {n : Nat} {A : Option Addr} {c : Nat} (h : RB w' w'.heap.size A n b) (s : Shp A n c) (g : Below w.heap.size w w') : OutEn (some b) w (.returned (.tuple #[.slice A n c, .bool true])) w' := by
  have := h.1
  subst this
  exact ⟨A, c, rfl, h, s, g⟩
theorem ix_mark0 (W : World) : (Instr.index 54 (.agg #[.int .u8 66, .int .u8 82, .int .u8 75, .int .u8 49]) (.int .i64 0)).run Tryd.prog W = .ok (.int .u8 66) W := by kernel_rfl
theorem ix_mark1 (W : World) : (Instr.index 54 (.agg #[.int .u8 66, .int .u8 82, .int .u8 75, .int .u8 49]) (.int .i64 1)).run Tryd.prog W = .ok (.int .u8 82) W := by kernel_rfl
theorem ix_mark2 (W : World) : (Instr.index 54 (.agg #[.int .u8 66, .int .u8 82, .int .u8 75, .int .u8 49]) (.int .i64 2)).run Tryd.prog W = .ok (.int .u8 75) W := by kernel_rfl
theorem ix_mark3 (W : World) : (Instr.index 54 (.agg #[.int .u8 66, .int .u8 82, .int .u8 75, .int .u8 49]) (.int .i64 3)).run Tryd.prog W = .ok (.int .u8 49) W := by kernel_rfl
theorem ix_mark (k : Nat) (hk : k < 4) (W : World) : (Instr.index 54 (.agg #[.int .u8 66, .int .u8 82, .int .u8 75, .int .u8 49]) (.int .i64 (k : Int))).run Tryd.prog W = .ok (.int .u8 ((markB.getD k 0 : Nat) : Int)) W := by
  have : k = 0 ∨ k = 1 ∨ k = 2 ∨ k = 3 := by omega
  rcases this with rfl | rfl | rfl | rfl
  · exact ix_mark0 W
  · exact ix_mark1 W
  · exact ix_mark2 W
  · exact ix_mark3 W
theorem mark_take (k : Nat) (hk : k < 4) : markB.take (k + 1) = markB.take k ++ [markB.getD k 0] ∧ markB.getD k 0 < 256 := by
  match k, hk with
  | 0, _ => decide
  | 1, _ => decide
  | 2, _ => decide
  | 3, _ => decide
theorem reads_one (w : World) (x : Nat) : Reads (w.alloc (.cells #[.int .u8 (x : Int)] 5)) (w.heap.size + 1) 1 (some ⟨w.heap.size, 0, none⟩) 1 (ycells [x]) := ⟨rfl, fun _ => ⟨_, _, rfl, by omega, fun i u hu => by
  match i, hu with
  | 0, hu => injection hu with hu; subst hu; simp⟩⟩
theorem reads_three (w : World) (x y z : Nat) : Reads (w.alloc (.cells #[.int .u8 (x : Int), .int .u8 (y : Int), .int .u8 (z : Int)] 5)) (w.heap.size + 1) 1 (some ⟨w.heap.size, 0, none⟩) 3 (ycells [x, y, z]) := ⟨rfl, fun _ => ⟨_, _, rfl, by omega, fun i u hu => by
  match i, hu with
  | 0, hu => injection hu with hu; subst hu; simp
  | 1, hu => injection hu with hu; subst hu; simp
  | 2, hu => injection hu with hu; subst hu; simp⟩⟩
theorem app_lt {a b : List Nat} (ha : ∀ x ∈ a, x < 256) (hb : ∀ x ∈ b, x < 256) : ∀ x ∈ a ++ b, x < 256 := fun x hx => (List.mem_append.1 hx).elim (ha x) (hb x)
theorem one_lt {x : Nat} (h : x < 256) : ∀ y ∈ [x], y < 256 := fun y hy => by rw [List.mem_singleton] at hy; subst hy; exact h
theorem own_lt {w : World} {base n c : Nat} {A : Option Addr} {l : List Nat} (h : w.ownsRow base 5 1 (.slice A n c) n (ycells l)) : l.length = n := by have := h.1; rw [ycells_len] at this; omega
set_option maxRecDepth 4000 in
set_option maxHeartbeats 4000000 in
theorem encode_yes (T : TV) (w : World) (hT : T.ok w) (hS : Small T.tb) (hM : Mark w) (hMay : MayT T.tb) : Calls Tryd.prog 8 #[T.v] w (OutEn (encR T.tb) w) := by
  obtain ⟨i0, hi0, hz0, hz1, hz2⟩ := info_parts info5
  have HFit := Lib.hid (fun W (g : Below w.heap.size w W) => fits_any T W (hT.on g) hS)
  rw [mayB_yes hMay] at HFit
  have hcells := hS.cells hMay
  obtain ⟨cl, a1, n1, c1, bd, a2, n2, c2, hs, a3, n3, c3, br⟩ := T
  simp only [TV.v] at *
  have L1 : bd.length = n1 := hT.r1.1
  have L2 : hs.length = n2 := hT.r2.1
  have L3 : br.length = n3 := hT.r3.1
  have L2' : (listsOf hs).length = n2 := by rw [listsOf_len, L2]
  obtain ⟨cn, rfl⟩ := Int.eq_ofNat_of_zero_le (show 0 ≤ cl by have := hMay.c1; simp only [TV.tb] at this; omega)
  have B0 : cn ≤ 255 := by have := hMay.c2; simp only [TV.tb] at this; omega
  have B1 : n1 ≤ 255 := by have := hMay.k1; simp only [TV.tb] at this; omega
  have B2 : n2 ≤ 255 := by have := hMay.n2; simp only [TV.tb] at this; omega
  have B3 : n3 ≤ 255 := by have := hMay.b1; simp only [TV.tb] at this; omega
  have HBulk : Hid (∀ k, bulk (listsOf (hs.take k)) ≤ 3000) := Lib.hid (fun k => by
    have h1 := hS.n
    have h2 : listsOf hs = listsOf (hs.take k) ++ listsOf (hs.drop k) := by unfold listsOf; rw [← List.map_append, List.take_append_drop]
    simp only [TV.tb] at h1
    rw [h2, bulk_app] at h1
    omega)
  have HBd : Hid (∀ x ∈ bd, (0 ≤ x.1 ∧ x.1 ≤ 16777215) ∧ byteI x.2) := Lib.hid hMay.bd
  have HNx : Hid (∀ h ∈ hs, ∀ x ∈ h.l, byteI x) := Lib.hid (fun h hh => (hMay.nx h.l (List.mem_map.2 ⟨h, hh, rfl⟩)).2)
  have HEnc : Hid (∀ y, IsBits y br → encR (TV.tb ⟨(cn : Int), a1, n1, c1, bd, a2, n2, c2, hs, a3, n3, c3, br⟩) = some (sealB (headB (TV.tb ⟨(cn : Int), a1, n1, c1, bd, a2, n2, c2, hs, a3, n3, c3, br⟩) ++ (bd.flatMap bandB ++ ((listsOf hs).flatMap rowB ++ y))))) := Lib.hid (fun y hy => encR_yes ⟨hMay, y, hy, rfl⟩)
  have HLt : Hid (∀ y, IsBits y br → ∀ z ∈ headB (TV.tb ⟨(cn : Int), a1, n1, c1, bd, a2, n2, c2, hs, a3, n3, c3, br⟩) ++ (bd.flatMap bandB ++ ((listsOf hs).flatMap rowB ++ y)), z < 256) := Lib.hid (fun y hy => body_lt hMay hy)
  have HHead : Hid (headB (TV.tb ⟨(cn : Int), a1, n1, c1, bd, a2, n2, c2, hs, a3, n3, c3, br⟩) = markB ++ [cn, n2, n1]) := Lib.hid (by
    unfold headB
    simp only [TV.tb]
    rw [L2', L1, Int.toNat_natCast])
  rw [HHead.out] at HEnc HLt
  have HT := Lib.hid hT
  have HM := Lib.hid hM
  have HL1 := Lib.hid L1
  have HL2 := Lib.hid L2
  generalize hR : encR (TV.tb ⟨(cn : Int), a1, n1, c1, bd, a2, n2, c2, hs, a3, n3, c3, br⟩) = R at *
  clear hR hT hS hM hMay L1 L2 L2' L3 HHead hcells
  have e0 : (cn : Int) % 256 = (cn : Int) := by omega
  have e1 : (n1 : Int) % 256 = (n1 : Int) := by omega
  have e2 : (n2 : Int) % 256 = (n2 : Int) := by omega
  go_enter Tryd.func8, Tryd.ntmps8
  go_wp2_with fail
  have q0 : (w.alloc (.cells #[.int .i64 cn, .slice a1 n1 c1, .slice a2 n2 c2, .slice a3 n3 c3] 26)).cell? ⟨w.heap.size, 0, none⟩ = some (.int .i64 cn) := by simp
  have q1 : (w.alloc (.cells #[.int .i64 cn, .slice a1 n1 c1, .slice a2 n2 c2, .slice a3 n3 c3] 26)).cell? ⟨w.heap.size, 1, none⟩ = some (.slice a1 n1 c1) := by simp
  have q2 : (w.alloc (.cells #[.int .i64 cn, .slice a1 n1 c1, .slice a2 n2 c2, .slice a3 n3 c3] 26)).cell? ⟨w.heap.size, 2, none⟩ = some (.slice a2 n2 c2) := by simp
  have q3 : (w.alloc (.cells #[.int .i64 cn, .slice a1 n1 c1, .slice a2 n2 c2, .slice a3 n3 c3] 26)).cell? ⟨w.heap.size, 3, none⟩ = some (.slice a3 n3 c3) := by simp
  have b0 := below_new w (.cells #[.int .i64 cn, .slice a1 n1 c1, .slice a2 n2 c2, .slice a3 n3 c3] 26)
  generalize w.alloc (.cells #[.int .i64 cn, .slice a1 n1 c1, .slice a2 n2 c2, .slice a3 n3 c3] 26) = W at *
  refine (HFit.out _ b0).mono ?_
  rintro e w1 ⟨rfl, g⟩
  have q0 := kept_cell g q0
  have q1 := kept_cell g q1
  have q2 := kept_cell g q2
  have q3 := kept_cell g q3
  have b1 := b0.trans (g.mono b0.size)
  have HT1 := Lib.hid (HT.out.on b1)
  obtain ⟨hm0, m0, m1, m2, m3⟩ := HM.out.on b1
  have hwz := b1.size
  clear g b0 HFit HT HM
  go_wp2_with fail
  clear m0 m1 m2 m3 hm0
  go_loopw [4, 17] (fun vo vi wr => ∃ (k : Nat) (A : Option Addr) (c : Nat), k ≤ 4 ∧ vi = .int .i64 k ∧ vo = .slice A k c ∧ Hid (wr.ownsRow w1.heap.size 5 1 (.slice A k c) k (ycells (markB.take k))) ∧ Below w1.heap.size w1 wr) (fun _ i _ => 4 - (intOf i).toNat)
  case atStart => exact ⟨0, none, 0, Nat.zero_le _, rfl, rfl, Lib.hid (World.ownsRow_nil _ _ _ _), Below.refl _ _⟩
  case round =>
    obtain ⟨k, A, c, hk, rfl, rfl, HO, hb⟩ := hrel
    have hsz := hb.size
    by_cases hlt : k < 4
    · have hix := ix_mark k hlt
      obtain ⟨hmt, hml⟩ := mark_take k hlt
      have HMT := Lib.hid hmt
      clear hmt
      generalize markB.getD k 0 = x at *
      have HOa := Lib.hid (HO.out.alloc (.cells #[.int .u8 (x : Int)] 5))
      have hba := hb.alloc hsz (.cells #[.int .u8 (x : Int)] 5)
      have HRd := Lib.hid (reads_one wr x)
      have HOne := Lib.hid (ycells_one [x])
      go_wp2_with (at_builtin; refine wpList_append_src rfl _ _ 27 rfl w1.heap.size 5 i0 _ 1 1 Tryd.underlying27 hi0 hz0 hz1 hz2 rfl (by decide) _ _ _ rfl HOa.out (some ⟨wr.heap.size, 0, none⟩) 1 1 (wr.heap.size + 1) (ycells [x]) rfl (fun h => by cases h) HRd.out HOne.out ?n3 ?n4 ?n5 ?_)
      case n3 => unfold maxLen; omega
      case n4 => omega
      case n5 => simp; omega
      intro A3 c3 w3 hown3 hn3 hgrow3
      have b3 : Below w1.heap.size w1 w3 := below_grown hba (by simp; omega) HOa.out hgrow3
      have HO3 : Hid (w3.ownsRow w1.heap.size 5 1 (.slice A3 (k + 1) c3) (k + 1) (ycells (markB.take (k + 1)))) := Lib.hid (by
        rw [HMT.out, ycells_app]; exact hown3)
      clear hown3 hgrow3 HOa HO hba hb hix
      go_wp2_with fail
      go_roundw
      case rel => exact ⟨k + 1, A3, c3, by omega, by go_num, rfl, HO3, b3⟩
      case measure => simp [intOf]; omega
    · obtain rfl : k = 4 := by omega
      have HOm : Hid (wr.ownsRow w1.heap.size 5 1 (.slice A 4 c) 4 (ycells markB)) := Lib.hid (by have h := HO.out; rwa [show markB.take 4 = markB from rfl] at h)
      clear HO
      have q0 := kept_cell hb q0
      have q1' := kept_cell hb q1
      have q2' := kept_cell hb q2
      have HOa := Lib.hid (HOm.out.alloc (.cells #[.int .u8 (cn : Int), .int .u8 (n2 : Int), .int .u8 (n1 : Int)] 5))
      have hba := hb.alloc hsz (.cells #[.int .u8 (cn : Int), .int .u8 (n2 : Int), .int .u8 (n1 : Int)] 5)
      have HRd := Lib.hid (reads_three wr cn n2 n1)
      have HOne := Lib.hid (ycells_one [cn, n2, n1])
      clear HOm
      rename World => wr0
      go_wp2_with (at_builtin; refine wpList_append_src rfl _ _ 27 rfl w1.heap.size 5 i0 _ 1 1 Tryd.underlying27 hi0 hz0 hz1 hz2 rfl (by decide) _ _ _ rfl HOa.out (some ⟨wr0.heap.size, 0, none⟩) 3 3 (wr0.heap.size + 1) (ycells [cn, n2, n1]) rfl (fun h => by cases h) HRd.out HOne.out ?n3 ?n4 ?n5 ?_)
      case n3 => unfold maxLen; omega
      case n4 => omega
      case n5 => simp; omega
      intro A3 c3' w3 hown3 hn3 hgrow3
      have b3 : Below w1.heap.size w1 w3 := below_grown hba (by simp; omega) HOa.out hgrow3
      have HO3 : Hid (w3.ownsRow w1.heap.size 5 1 (.slice A3 7 c3') 7 (ycells (markB ++ [cn, n2, n1]))) := Lib.hid (by
        rw [ycells_app]; exact hown3)
      have q1' := kept_cell b3 q1
      clear hown3 hgrow3 HOa hba hb q0 q2'
      go_wp2_with fail
      go_loopw [4, 42] (fun vo vi wr => ∃ (k z : Nat) (A : Option Addr) (c : Nat), k ≤ n1 ∧ z ≤ 7 + 4 * k ∧ vi = .int .i64 k ∧ vo = .slice A z c ∧ Hid (wr.ownsRow w1.heap.size 5 1 (.slice A z c) z (ycells ((markB ++ [cn, n2, n1]) ++ (bd.take k).flatMap bandB))) ∧ Below w1.heap.size w1 wr) (fun _ i _ => n1 - (intOf i).toNat)
      case atStart => exact ⟨0, 7, A3, c3', Nat.zero_le _, by omega, rfl, rfl, Lib.hid (by rw [List.take_zero, List.flatMap_nil, List.append_nil]; exact HO3.out), b3⟩
      case round =>
        obtain ⟨k, z, A, c, hk, hz, rfl, rfl, HO, hb⟩ := hrel
        clear HO3 b3 q1'
        have hsz := hb.size
        by_cases hlt : k < n1
        · have kl : k < bd.length := by rw [HL1.out]; exact hlt
          obtain ⟨b, o, rfl, _, p0, p1⟩ := (HT1.out.r1.on hb).at kl
          obtain ⟨hx0, hx1⟩ := HBd.out bd[k] (List.getElem_mem kl)
          have HTk : Hid ((bd.take (k + 1)).flatMap bandB = (bd.take k).flatMap bandB ++ (lowB bd[k].1 3 ++ [bd[k].2.toNat])) := Lib.hid (by rw [List.take_succ_eq_append_getElem kl, List.flatMap_append]; simp [bandB])
          generalize bd[k] = x at *
          obtain ⟨x0, x1⟩ := x
          simp only [] at p0 p1 HTk hx0 hx1
          obtain ⟨y1, rfl⟩ := Int.eq_ofNat_of_zero_le hx1.1
          have hy1 : y1 ≤ 255 := by have := hx1.2; omega
          have ey : (y1 : Int) % 256 = (y1 : Int) := by omega
          have HTk' : Hid ((markB ++ [cn, n2, n1]) ++ (bd.take (k + 1)).flatMap bandB = ((markB ++ [cn, n2, n1]) ++ (bd.take k).flatMap bandB ++ lowB x0 3) ++ [y1]) := Lib.hid (by rw [HTk.out, Int.toNat_natCast]; simp only [List.append_assoc])
          generalize (markB ++ [cn, n2, n1]) ++ (bd.take k).flatMap bandB = bs at *
          clear HTk hx1
          have bal := hb.alloc hsz (.cells #[.int .i64 x0, .int .i64 y1] 50)
          have HOb := Lib.hid (HO.out.alloc (.cells #[.int .i64 x0, .int .i64 y1] 50))
          have HNe : Hid (some wr.heap.size ≠ (Value.slice A z c).ownBlock) := Lib.hid (fun e => by have := (HO.out.lt _ e.symm).2; omega)
          clear HO
          go_wp2_with fail
          have s1 : (wr.alloc (.cells #[.int .i64 x0, .int .i64 y1] 50)).cell? ⟨wr.heap.size, 1, none⟩ = some (.int .i64 y1) := by simp
          have hzz : wr.heap.size ≤ (wr.alloc (.cells #[.int .i64 x0, .int .i64 y1] 50)).heap.size := by simp
          generalize wr.alloc (.cells #[.int .i64 x0, .int .i64 y1] 50) = w5 at *
          refine (put_3 [] 0 none 0 x0 w5 (fun _ => rfl) (RB.nil _ _ _) (by omega)).mono ?_
          rintro e w6 ⟨A6, c6, rfl, l6, y6, o6, g6⟩
          have s1 := kept_cell g6 s1
          have b6 := bal.trans (g6.mono bal.size)
          have hs6 := b6.size
          have HO6 := Lib.hid (own_below HOb.out g6)
          have HN6 := Lib.hid (own_nil o6)
          have HR6 : Hid (Reads w6 w6.heap.size 1 A6 (0 + 3) (ycells (lowB x0 3))) := Lib.hid (Reads.of_own o6)
          have HY6 := Lib.hid (ycells_one (lowB x0 3))
          clear o6 l6 y6 g6 HOb bal hzz
          go_wp2_with (at_builtin; refine wpList_append_src rfl _ _ 27 rfl w1.heap.size 5 i0 _ 1 1 Tryd.underlying27 hi0 hz0 hz1 hz2 rfl (by decide) _ _ _ rfl HO6.out A6 3 c6 w6.heap.size (ycells (lowB x0 3)) rfl HN6.out HR6.out HY6.out ?n3 ?n4 ?n5 ?_)
          case n3 => unfold maxLen; omega
          case n4 => omega
          case n5 => omega
          intro A7 c7 w7 hown7 hn7 hgrow7
          have b7 : Below w1.heap.size w1 w7 := below_grown b6 hs6 HO6.out hgrow7
          have hs7 := b7.size
          have HO7 : Hid (w7.ownsRow w1.heap.size 5 1 (.slice A7 (z + 3) c7) (z + 3) (ycells (bs ++ lowB x0 3))) := Lib.hid (by
            rw [ycells_app]; exact hown7)
          have s1 : w7.cell? ⟨wr.heap.size, 1, none⟩ = some (.int .i64 y1) := hgrow7.cell s1 HNe.out
          clear hown7 hgrow7 HO6 HN6 HR6 HY6 b6 HNe
          have HOa := Lib.hid (HO7.out.alloc (.cells #[.int .u8 (y1 : Int)] 5))
          have hba := b7.alloc hs7 (.cells #[.int .u8 (y1 : Int)] 5)
          have HRd := Lib.hid (reads_one w7 y1)
          have HOne := Lib.hid (ycells_one [y1])
          clear HO7
          go_wp2_with (at_builtin; refine wpList_append_src rfl _ _ 27 rfl w1.heap.size 5 i0 _ 1 1 Tryd.underlying27 hi0 hz0 hz1 hz2 rfl (by decide) _ _ _ rfl HOa.out (some ⟨w7.heap.size, 0, none⟩) 1 1 (w7.heap.size + 1) (ycells [y1]) rfl (fun h => by cases h) HRd.out HOne.out ?n3 ?n4 ?n5 ?_)
          case n3 => unfold maxLen; omega
          case n4 => omega
          case n5 => simp; omega
          intro A8 c8 w8 hown8 hn8 hgrow8
          have b8 : Below w1.heap.size w1 w8 := below_grown hba (by simp; omega) HOa.out hgrow8
          have HO8 : Hid (w8.ownsRow w1.heap.size 5 1 (.slice A8 (z + 3 + 1) c8) (z + 3 + 1) (ycells ((markB ++ [cn, n2, n1]) ++ (bd.take (k + 1)).flatMap bandB))) := Lib.hid (by
            rw [HTk'.out, ycells_app]; exact hown8)
          clear hown8 hgrow8 HOa hba HRd HOne s1 b7
          go_wp2_with fail
          go_roundw
          case rel => exact ⟨k + 1, z + 3 + 1, A8, c8, by omega, by omega, by go_num, rfl, HO8, b8⟩
          case measure => simp [intOf]; omega
        · have HO' : Hid (wr.ownsRow w1.heap.size 5 1 (.slice A z c) z (ycells ((markB ++ [cn, n2, n1]) ++ bd.flatMap bandB))) := Lib.hid (by
            have h := HO.out
            rwa [List.take_of_length_le (by rw [HL1.out]; omega)] at h)
          have hz7 : z ≤ 1027 := by omega
          have q2' := kept_cell hb q2
          have hb0 := hb
          clear HO hz hsz hb
          rename World => wr1
          go_wp2_with fail
          go_loopw [4, 61] (fun vo vi wr => ∃ (k z : Nat) (A : Option Addr) (c : Nat), k ≤ n2 ∧ Hid (z ≤ 1027 + bulk (listsOf (hs.take k))) ∧ vi = .int .i64 k ∧ vo = .slice A z c ∧ Hid (wr.ownsRow w1.heap.size 5 1 (.slice A z c) z (ycells (((markB ++ [cn, n2, n1]) ++ bd.flatMap bandB) ++ (listsOf (hs.take k)).flatMap rowB))) ∧ Below w1.heap.size w1 wr) (fun _ i _ => n2 - (intOf i).toNat)
          case atStart => exact ⟨0, z, A, c, Nat.zero_le _, Lib.hid (by omega), rfl, rfl, Lib.hid (by rw [List.take_zero]; unfold listsOf; rw [List.map_nil, List.flatMap_nil, List.append_nil]; exact HO'.out), hb0⟩
          case round =>
            obtain ⟨k, z, A, c, hk, HZ, rfl, rfl, HO, hb⟩ := hrel
            clear HO' hb0 q2'
            have hsz := hb.size
            have hz4 : z ≤ 4100 := by have := HZ.out; have := HBulk.out k; omega
            by_cases hlt : k < n2
            · have kl : k < hs.length := by rw [HL2.out]; exact hlt
              obtain ⟨b, o, rfl, _, p0, pr, _⟩ := (HT1.out.r2.on hb).at kl
              have HX := Lib.hid (HNx.out hs[k] (List.getElem_mem kl))
              have hxl := pr.1
              have pr0 := (HT1.out.r2.2.2 hs[k] (List.getElem_mem kl)).1
              have HTk : Hid ((((markB ++ [cn, n2, n1]) ++ bd.flatMap bandB) ++ (listsOf (hs.take (k + 1))).flatMap rowB) = (((markB ++ [cn, n2, n1]) ++ bd.flatMap bandB) ++ (listsOf (hs.take k)).flatMap rowB) ++ rowB hs[k].l) := Lib.hid (by
                rw [List.take_succ_eq_append_getElem kl]
                unfold listsOf
                rw [List.map_append, List.flatMap_append]
                simp)
              have HTb : Hid (bulk (listsOf (hs.take (k + 1))) = bulk (listsOf (hs.take k)) + (1 + hs[k].l.length)) := Lib.hid (by
                rw [List.take_succ_eq_append_getElem kl]
                unfold listsOf
                rw [List.map_append, bulk_app]
                simp [bulk])
              have hbk := HBulk.out (k + 1)
              rw [HTb.out] at hbk
              have HZ' := Lib.hid HZ.out
              generalize hs[k] = x at *
              obtain ⟨xa, xn, xc, xs⟩ := x
              simp only [] at p0 pr pr0 HX hxl HTk HTb hbk
              have hxn : xn ≤ 3000 := by omega
              have HXL := Lib.hid hxl
              have HPr := Lib.hid pr0
              clear hxl pr pr0 hbk
              generalize (((markB ++ [cn, n2, n1]) ++ bd.flatMap bandB) ++ (listsOf (hs.take k)).flatMap rowB) = bs at *
              have hb0 := hb
              have HO0 := HO
              clear hb HO
              rename World => wr2
              go_wp2_with fail
              go_loopw [4, 67] (fun vo vi wr => ∃ (j y : Nat) (A : Option Addr) (c : Nat), j ≤ xn ∧ Hid (y = z + j) ∧ vi = .int .i64 j ∧ vo = .slice A y c ∧ Hid (wr.ownsRow w1.heap.size 5 1 (.slice A y c) y (ycells (bs ++ rowB (xs.take j)))) ∧ Below w1.heap.size w1 wr) (fun _ i _ => xn - (intOf i).toNat)
              case atStart => exact ⟨0, z, A, c, Nat.zero_le _, Lib.hid rfl, rfl, rfl, Lib.hid (by rw [List.take_zero]; unfold rowB; rw [List.map_nil, List.append_nil]; exact HO0.out), hb0⟩
              case round =>
                obtain ⟨j, y, A, c, hj, HY, rfl, rfl, HO, hb⟩ := hrel
                clear HO0 hb0 p0
                have hsz := hb.size
                have hy : y ≤ 7200 := by have := HY.out; omega
                by_cases hjl : j < xn
                · have jl : j < xs.length := by rw [HXL.out]; exact hjl
                  obtain ⟨b2, o2, rfl, _, r0⟩ := (HPr.out.on hb).at jl
                  have hxx := HX.out xs[j] (List.getElem_mem jl)
                  have HTj : Hid (bs ++ rowB (xs.take (j + 1)) = (bs ++ rowB (xs.take j)) ++ [xs[j].toNat]) := Lib.hid (by
                    rw [List.take_succ_eq_append_getElem jl]; unfold rowB; rw [List.map_append]; simp)
                  generalize xs[j] = v at *
                  obtain ⟨v, rfl⟩ := Int.eq_ofNat_of_zero_le hxx.1
                  rw [Int.toNat_natCast] at HTj
                  have hv : v ≤ 255 := by have := hxx.2; omega
                  have ev : (v : Int) % 256 = (v : Int) := by omega
                  generalize bs ++ rowB (xs.take j) = bj at *
                  have HOa := Lib.hid (HO.out.alloc (.cells #[.int .u8 (v : Int)] 5))
                  have hba := hb.alloc hsz (.cells #[.int .u8 (v : Int)] 5)
                  have HRd := Lib.hid (reads_one wr v)
                  have HOne := Lib.hid (ycells_one [v])
                  clear HO hxx
                  go_wp2_with (at_builtin; refine wpList_append_src rfl _ _ 27 rfl w1.heap.size 5 i0 _ 1 1 Tryd.underlying27 hi0 hz0 hz1 hz2 rfl (by decide) _ _ _ rfl HOa.out (some ⟨wr.heap.size, 0, none⟩) 1 1 (wr.heap.size + 1) (ycells [v]) rfl (fun h => by cases h) HRd.out HOne.out ?n3 ?n4 ?n5 ?_)
                  case n3 => unfold maxLen; omega
                  case n4 => omega
                  case n5 => simp; omega
                  intro A8 c8 w8 hown8 hn8 hgrow8
                  have b8 : Below w1.heap.size w1 w8 := below_grown hba (by simp; omega) HOa.out hgrow8
                  have HO8 : Hid (w8.ownsRow w1.heap.size 5 1 (.slice A8 (y + 1) c8) (y + 1) (ycells (bs ++ rowB (xs.take (j + 1))))) := Lib.hid (by
                    rw [HTj.out, ycells_app]; exact hown8)
                  clear hown8 hgrow8 HOa hba HRd HOne r0 hb
                  go_wp2_with fail
                  go_roundw
                  case rel => exact ⟨j + 1, y + 1, A8, c8, by omega, Lib.hid (by have := HY.out; omega), by go_num, rfl, HO8, b8⟩
                  case measure => simp [intOf]; omega
                · have HO9 : Hid (wr.ownsRow w1.heap.size 5 1 (.slice A y c) y (ycells (((markB ++ [cn, n2, n1]) ++ bd.flatMap bandB) ++ (listsOf (hs.take (k + 1))).flatMap rowB))) := Lib.hid (by
                    have h := HO.out
                    rw [List.take_of_length_le (by rw [HXL.out]; omega)] at h
                    rw [HTk.out]
                    exact h)
                  have HZ9 : Hid (y ≤ 1027 + bulk (listsOf (hs.take (k + 1)))) := Lib.hid (by
                    have h1 := HTb.out
                    have h2 := HXL.out
                    have h3 := HZ'.out
                    have h4 := HY.out
                    omega)
                  clear HO HTk HTb HX HPr
                  go_wp2_with fail
                  go_roundw
                  case rel => exact ⟨k + 1, y, A, c, by omega, HZ9, by go_num, rfl, HO9, hb⟩
                  case measure => simp [intOf]; omega
            · have HO' : Hid (wr.ownsRow w1.heap.size 5 1 (.slice A z c) z (ycells (((markB ++ [cn, n2, n1]) ++ bd.flatMap bandB) ++ (listsOf hs).flatMap rowB))) := Lib.hid (by
                have h := HO.out
                rwa [List.take_of_length_le (by rw [HL2.out]; omega)] at h)
              have q3' := kept_cell hb q3
              have HBt := Lib.hid (bits_any br n3 a3 c3 wr (HT1.out.r3.on hb) (by omega))
              clear HO HZ
              rename World => wr3
              go_wp2_with fail
              refine HBt.out.mono ?_
              rintro e w4 ⟨yb, hyb, A4, c4, rfl, l4, y4, o4, g4⟩
              obtain ⟨m, hm⟩ : ∃ m, (n3 + 7) / 8 = m := ⟨_, rfl⟩
              rw [hm] at l4 o4 ⊢
              have hm2 : m ≤ 100 := by omega
              have HE4 := Lib.hid (HEnc.out yb hyb)
              have b4 := hb.trans (g4.mono hsz)
              have hs4 := b4.size
              have HO4 := Lib.hid (own_below HO'.out g4)
              have HN4 := Lib.hid (own_nil o4)
              have HR4 : Hid (Reads w4 w4.heap.size 1 A4 m (ycells yb)) := Lib.hid (Reads.of_own o4)
              have HY4 := Lib.hid (ycells_one yb)
              have HYl := Lib.hid y4
              have hyb := Lib.hid hyb
              clear hm l4 y4 o4 g4 HBt HO' q3' hb
              go_wp2_with (at_builtin; refine wpList_append_src rfl _ _ 27 rfl w1.heap.size 5 i0 _ 1 1 Tryd.underlying27 hi0 hz0 hz1 hz2 rfl (by decide) _ _ _ rfl HO4.out A4 m c4 w4.heap.size (ycells yb) rfl HN4.out HR4.out HY4.out ?n3 ?n4 ?n5 ?_)
              case n3 => unfold maxLen; omega
              case n4 => omega
              case n5 => omega
              intro A5 c5 w5 hown5 hn5 hgrow5
              have b5 : Below w1.heap.size w1 w5 := below_grown b4 hs4 HO4.out hgrow5
              have HAss : Hid ((((markB ++ [cn, n2, n1]) ++ bd.flatMap bandB) ++ (listsOf hs).flatMap rowB) ++ yb = (markB ++ [cn, n2, n1]) ++ (bd.flatMap bandB ++ ((listsOf hs).flatMap rowB ++ yb))) := Lib.hid (by simp only [List.append_assoc])
              have hown5' : w5.ownsRow w1.heap.size 5 1 (.slice A5 (z + m) c5) (z + m) (ycells ((markB ++ [cn, n2, n1]) ++ (bd.flatMap bandB ++ ((listsOf hs).flatMap rowB ++ yb)))) := by
                rw [← HAss.out, ycells_app]; exact hown5
              have HBl := Lib.hid (HLt.out yb hyb.out)
              generalize (markB ++ [cn, n2, n1]) ++ (bd.flatMap bandB ++ ((listsOf hs).flatMap rowB ++ yb)) = body at *
              have HBody : Hid (∀ x ∈ body, x < 256) := HBl
              have HRB := Lib.hid (own_RB hown5' HBody.out)
              have HSh := Lib.hid (own_shp hown5')
              have b5w := b1.trans (b5.mono hwz)
              clear hown5 hown5' hgrow5 HO4 HN4 HR4 HY4 HAss b4 b5
              have HSum := Lib.hid (sum_any body (z + m) A5 c5 w5 HRB.out (by omega))
              have HPut := Lib.hid (put_4 body (z + m) A5 c5 ((sumL body : Nat) : Int) w5 HSh.out.1 HRB.out (by omega))
              have hsl := sumL_lt body
              have HSeal : Hid (body ++ lowB ((sumL body : Nat) : Int) 4 = sealB body) := Lib.hid rfl
              generalize sumL body = su at *
              go_wp2_with fail
              refine HSum.out.mono ?_
              rintro e w6 ⟨rfl, rfl⟩
              go_wp2_with fail
              refine HPut.out.mono ?_
              rintro e w7 ⟨A7, c7, rfl, l7, y7, o7, g7⟩
              have b7 := b5w.trans (g7.mono b5w.size)
              have HR7 := Lib.hid (own_RB o7 y7)
              have HS7 := Lib.hid (own_shp o7)
              clear l7 y7 o7 g7 HPut HSum
              go_wp2_with fail
              go_ret2
              rw [HE4.out, ← HSeal.out]
              exact outEn_yes HR7.out HS7.out b7
theorem encode_any (T : TV) (w : World) (hT : T.ok w) (hS : Small T.tb) (hM : Mark w) : Calls Tryd.prog 8 #[T.v] w (OutEn (encR T.tb) w) := by
  by_cases hMay : MayT T.tb
  · exact encode_yes T w hT hS hM hMay
  · have HFit := Lib.hid (fun W (g : Below w.heap.size w W) => fits_any T W (hT.on g) hS)
    rw [mayB_no hMay] at HFit
    rw [encR_no hMay]
    obtain ⟨cl, a1, n1, c1, bd, a2, n2, c2, hs, a3, n3, c3, br⟩ := T
    simp only [TV.v] at *
    clear hT hS hM hMay
    go_enter Tryd.func8, Tryd.ntmps8
    go_wp2_with fail
    refine (HFit.out _ (below_new _ _)).mono ?_
    rintro e w1 ⟨rfl, g⟩
    go_wp2_with fail
    go_ret2
    exact outEn_no _ _ ((below_new _ _).trans (g.mono (by simp)))
end Go.Proofs.YtnilejdokgagbaaDoor

/- What rowsOf returns. -/
namespace Go.Proofs.YtnilejdokgagbaaDoor
open Go.RowKit Go.BigFrame
set_option linter.unusedVariables false
set_option maxRecDepth 4000
set_option linter.unusedSimpArgs false

/-- A new row of rows. -/
def OutRN (L : List (List Int)) (n : Nat) (w : World) (e : Ending) (w' : World) : Prop := ∃ (A : Option Addr) (c : Nat) (H : List Hi), e = .returned (.slice A n c) ∧ listsOf H = L ∧ OwnI w' w.heap.size A n c H ∧ Below w.heap.size w w'
theorem lit1 {w : World} {b : Nat} {u : Value} (h0 : w.cell? ⟨b, 0, none⟩ = some u) : ∀ j y, [u][j]? = some y → w.cell? ((⟨b, 0, none⟩ : Addr).add j) = some y := by
  intro j y hj
  match j, hj with
  | 0, hj => simp at hj; subst hj; simpa [Addr.add] using h0
theorem icells_set (l : List Int) (k : Nat) (y : Int) : (icells l).set k (.int .i64 y) = icells (l.set k y) := by
  unfold icells; rw [List.map_set]
theorem icells_rep (m : Nat) : (madeCells #[Value.int .i64 0] m).toList = icells (List.replicate m 0) := by rw [toList_madeCells_one]; simp [icells]
/-- The first q are laid. -/
def RInv (ch : List Nat) (q c : Nat) (xs : List Int) : Prop := xs.length = c ∧ ∀ j, j < q → xs[j]? = some ((ch[j]?.getD 0 : Nat) : Int)
theorem rinv_set {ch : List Nat} {q c : Nat} {xs : List Int} (h : RInv ch q c xs) (hq : q < c) : RInv ch (q + 1) c (xs.set q ((ch[q]?.getD 0 : Nat) : Int)) := by
  refine ⟨by rw [List.length_set]; exact h.1, fun j hj => ?_⟩
  rw [List.getElem?_set]
  by_cases e : q = j
  · subst e; rw [if_pos rfl, if_pos (by rw [h.1]; exact hq)]
  · rw [if_neg e]; exact h.2 j (by omega)
theorem rinv_all {ch : List Nat} {c : Nat} {xs : List Int} (h : RInv ch c c xs) (hl : ch.length = c) : xs = ch.map Int.ofNat := by
  apply List.ext_getElem?
  intro j
  by_cases hj : j < c
  · rw [h.2 j hj, List.getElem?_map, List.getElem?_eq_getElem (by omega)]; rfl
  · rw [List.getElem?_eq_none (by rw [h.1]; omega), List.getElem?_eq_none (by rw [List.length_map]; omega)]
theorem chunk_get (l : List Nat) (c j q : Nat) (hq : q < c) : (chunk c l j)[q]?.getD 0 = l[c * j + q]?.getD 0 := by
  unfold chunk
  rw [List.getElem?_take_of_lt hq, List.getElem?_drop]
set_option maxRecDepth 4000 in
set_option maxHeartbeats 2000000 in
theorem rowsOf_any (l : List Nat) (n c s : Nat) (A : Option Addr) (cc : Nat) (w : World) (hR : RB w w.heap.size A n l) (hn : n = c * s) (hc : 1 ≤ c) (hc2 : c ≤ 8) (hs : s ≤ 1000) (hnb : n ≤ 10000) :
    Calls Tryd.prog 40 #[.slice A n cc, .int .i64 c] w (OutRN ((List.range s).map fun i => (chunk c l i).map Int.ofNat) s w) := by
  obtain ⟨i0, hi0, hz0, hz1, hz2⟩ := info_parts info3
  obtain ⟨j0, hj0, hy0, hy1, hy2⟩ := info_parts info53
  have HR := Lib.hid hR
  have HN := Lib.hid hn
  clear hR hn
  go_enter Tryd.func40, Tryd.ntmps40
  go_wp2_with fail
  go_loopw [5, 6] (fun vo vi wr => ∃ (j a : Nat) (A2 : Option Addr) (c2 : Nat) (H : List Hi), j ≤ s ∧ Hid (a = c * j) ∧ a ≤ n ∧ vi = .int .i64 a ∧ vo = .slice A2 j c2 ∧ Hid (listsOf H = (List.range j).map fun i => (chunk c l i).map Int.ofNat) ∧ Hid (OwnI wr w.heap.size A2 j c2 H) ∧ Below w.heap.size w wr) (fun _ i _ => n - (intOf i).toNat)
  case atStart => exact ⟨0, 0, none, 0, [], Nat.zero_le _, Lib.hid (by simp), Nat.zero_le _, rfl, rfl, Lib.hid rfl, Lib.hid (OwnI.nil _ _), Below.refl _ _⟩
  case round =>
    obtain ⟨j, a, A2, c2, H, hj, HA, ha, rfl, rfl, HL, HO, hb⟩ := hrel
    have hsz := hb.size
    by_cases hlt : a < n
    · have hjs : j < s := by
        rcases Nat.lt_or_ge j s with h | h
        · exact h
        · exfalso
          have h1 := HA.out
          have h2 := HN.out
          have h3 := Nat.mul_le_mul_left c h
          omega
      have hac : a + c ≤ n := by
        have h1 := HA.out
        have h2 := HN.out
        have h3 := Nat.mul_le_mul_left c hjs
        rw [Nat.mul_succ] at h3
        omega
      rename World => w2
      go_wp2_with (at_make; refine wpList_make_full _ rfl _ _ 51 rfl w2.heap.size 3 i0 _ 1 Tryd.underlying51 hi0 hz0 hz1 .i64 .i64 c c c rfl rfl rfl rfl ?k1 ?k2 (Nat.le_refl _) ?_)
      case k1 => first | omega | (rw [hz2]; omega)
      case k2 => unfold maxLen; omega
      first | (intro w3 hown3 hgrow3) | (rename_i w3 hown3 hgrow3)
      have HW : Hid (w3.ownsRow w2.heap.size 3 1 (.slice (some ⟨w2.heap.size, 0, none⟩) c c) c (icells (List.replicate c 0))) := Lib.hid (by
        rw [← icells_rep]; exact hown3)
      have b3 : Below w2.heap.size w2 w3 := (Below.refl _ _).grown hgrow3 (Nat.le_refl _) (fun k hk => by cases hk)
      clear hown3 hgrow3
      go_wp2_with fail
      go_loopw [20] (fun i wr => ∃ (q : Nat) (xs : List Int), q ≤ c ∧ i = .int .i64 q ∧ Hid (RInv (chunk c l j) q c xs) ∧ Hid (wr.ownsRow w2.heap.size 3 1 (.slice (some ⟨w2.heap.size, 0, none⟩) c c) c (icells xs)) ∧ Below w2.heap.size w2 wr) (fun i _ => c - (intOf i).toNat)
      case atStart => exact ⟨0, _, Nat.zero_le _, rfl, Lib.hid ⟨by simp, fun j hj => by omega⟩, HW, b3⟩
      case round =>
        clear HW b3
        obtain ⟨q, xs, hq, rfl, HI, HX, hbq⟩ := hrel
        have hsq := hbq.size
        by_cases hlt2 : q < c
        · have kl : a + q < l.length := by rw [HR.out.1]; omega
          obtain ⟨b, o, rfl, hbb, p0, px⟩ := (HR.out.on (hb.trans (hbq.mono hsz))).at kl
          have HI' := Lib.hid (rinv_set HI.out hlt2)
          have HCg : Hid ((chunk c l j)[q]?.getD 0 = l[a + q]) := Lib.hid (by rw [chunk_get l c j q hlt2, ← HA.out, getD_at l _ kl])
          rw [HCg.out] at HI'
          have ql : q < xs.length := by rw [HI.out.1]; exact hlt2
          have q0 : wr.cell? ⟨w2.heap.size, q, none⟩ = some (.int .i64 xs[q]) := (HX.out.cellAt q (by omega)).trans (by unfold icells; rw [List.getElem?_map, List.getElem?_eq_getElem ql]; rfl)
          have f0 := HX.out.frozenAt q
          have HSt : Hid ((wr.setCell ⟨w2.heap.size, q, none⟩ (.int .i64 ((l[a + q] : Nat) : Int))).ownsRow w2.heap.size 3 1 (.slice (some ⟨w2.heap.size, 0, none⟩) c c) c (icells (xs.set q ((l[a + q] : Nat) : Int)))) := Lib.hid (by
            have h := (HX.out.stored q (.int .i64 ((l[a + q] : Nat) : Int))).1
            rwa [icells_set] at h)
          have b9 : Below w2.heap.size w2 (wr.setCell ⟨w2.heap.size, q, none⟩ (.int .i64 ((l[a + q] : Nat) : Int))) := hbq.setCell (p := ⟨w2.heap.size, q, none⟩) (Nat.le_refl _) _
          generalize l[a + q] = x at *
          generalize xs[q] = y at *
          have haq : (a : Int) + (q : Int) < (n : Int) := by omega
          clear HI HX hbq ql HCg
          go_wp2_with fail
          go_roundw
          case rel => exact ⟨q + 1, _, by omega, by go_num, HI', HSt, b9⟩
          case measure => simp [intOf]; omega
        · have hb5 := hb.trans (hbq.mono hsz)
          have hs5 := hb5.size
          have HCl : Hid ((chunk c l j).length = c) := Lib.hid (chunk_len c l j s (by rw [HR.out.1]; exact HN.out) hjs)
          have HXs : Hid (xs = (chunk c l j).map Int.ofNat) := Lib.hid (rinv_all (by have h := HI.out; rwa [show q = c by omega] at h) HCl.out)
          have HO5 := Lib.hid (HO.out.on hbq)
          have hownO := HO5.out.out
          have HXX : Hid ((⟨some ⟨w2.heap.size, 0, none⟩, c, c, xs⟩ : Hi).l.length = (⟨some ⟨w2.heap.size, 0, none⟩, c, c, xs⟩ : Hi).n ∧ wr.ownsRow w.heap.size 3 1 (⟨some ⟨w2.heap.size, 0, none⟩, c, c, xs⟩ : Hi).v (⟨some ⟨w2.heap.size, 0, none⟩, c, c, xs⟩ : Hi).n (icells (⟨some ⟨w2.heap.size, 0, none⟩, c, c, xs⟩ : Hi).l)) := Lib.hid ⟨HI.out.1, own_base HX.out hsz⟩
          have HL5 : Hid (listsOf (H ++ [(⟨some ⟨w2.heap.size, 0, none⟩, c, c, xs⟩ : Hi)]) = (List.range (j + 1)).map fun i => (chunk c l i).map Int.ofNat) := Lib.hid (by
            have e : listsOf (H ++ [(⟨some ⟨w2.heap.size, 0, none⟩, c, c, xs⟩ : Hi)]) = listsOf H ++ [xs] := by simp [listsOf]
            rw [e, HL.out, HXs.out, List.range_succ, List.map_append]
            rfl)
          clear HI HX HXs HCl HO HL
          go_wp2_with (at_builtin; refine wpList_append_lies _ rfl _ _ 23 rfl w.heap.size 51 j0 _ 1 24 Tryd.underlying23 hj0 hy0 hy1 hy2 rfl (by decide) _ _ _ rfl (hownO.alloc _) ⟨wr.heap.size, 0, none⟩ 1 1 [.slice (some ⟨w2.heap.size, 0, none⟩) c c] rfl rfl ?k1 ?k2 (by omega) ?k3 ?k4 ?k5 _ rfl ?_)
          try (case k1 => exact lit1 (by simp))
          case k2 => first | rfl | (intro u hu; simp at hu; subst hu; rfl)
          case k3 => unfold maxLen; omega
          case k4 => omega
          case k5 => first | omega | (simp; omega)
          intro g5 cap5 w5 hown5 hgrow5 hat5 hlt5
          have HO9 : Hid (OwnI w5 w.heap.size (some ⟨g5, 0, none⟩) (j + 1) cap5 (H ++ [(⟨some ⟨w2.heap.size, 0, none⟩, c, c, xs⟩ : Hi)])) := Lib.hid ((HO5.out.on (below_new wr (.cells #[.slice (some ⟨w2.heap.size, 0, none⟩) c c] 51))).snoc ⟨HXX.out.1, HXX.out.2.alloc _⟩ hown5 hgrow5)
          have b9 : Below w.heap.size w w5 := below_grown (hb5.alloc hs5 _) (by simp; omega) (hownO.alloc _) hgrow5
          clear hown5 hgrow5 hat5 hownO HXX HO5
          go_wp2_with fail
          go_roundw
          case rel => exact ⟨j + 1, a + c, some ⟨g5, 0, none⟩, cap5, _, by omega, Lib.hid (by have := HA.out; rw [Nat.mul_succ]; omega), by omega, by go_num, rfl, HL5, HO9, b9⟩
          case measure => simp [intOf]; omega
    · obtain rfl : j = s := by
        have h1 := HA.out
        have h2 := HN.out
        rcases Nat.lt_or_ge j s with h | h
        · have h3 := Nat.mul_le_mul_left c h
          rw [Nat.mul_succ] at h3
          omega
        · omega
      go_wp2_with fail
      go_ret
      exact ⟨A2, c2, H, rfl, HL.out, HO.out, hb⟩
end Go.Proofs.YtnilejdokgagbaaDoor

/- A row of rows copied, each row in memory of its own. -/
namespace Go.Proofs.YtnilejdokgagbaaDoor
open Go.RowKit Go.BigFrame
set_option linter.unusedVariables false
set_option maxRecDepth 4000
set_option linter.unusedSimpArgs false

/-- No two rows share a block. -/
def Apt (H : List Hi) : Prop := H.Pairwise fun x y => ∀ g, x.v.ownBlock = some g → y.v.ownBlock ≠ some g
theorem Apt.nil : Apt [] := List.Pairwise.nil
theorem Apt.snoc {H : List Hi} {x : Hi} (h : Apt H) {B : Nat} (h1 : ∀ y ∈ H, ∀ g, y.v.ownBlock = some g → g < B) (h2 : ∀ g, x.v.ownBlock = some g → B ≤ g) : Apt (H ++ [x]) := by
  refine List.pairwise_append.2 ⟨h, List.pairwise_singleton _ _, fun y hy z hz g hg hg' => ?_⟩
  rw [List.mem_singleton] at hz
  subst hz
  have a := h1 y hy g hg
  have b := h2 g hg'
  omega
def OutRA (L : List (List Int)) (n : Nat) (w : World) (e : Ending) (w' : World) : Prop := ∃ (A : Option Addr) (c : Nat) (H : List Hi), e = .returned (.slice A n c) ∧ listsOf H = L ∧ OwnI w' w.heap.size A n c H ∧ Below w.heap.size w w' ∧ Apt H
set_option maxRecDepth 4000 in
set_option maxHeartbeats 2000000 in
theorem ownLists_any (H : List Hi) (n : Nat) (A : Option Addr) (cc : Nat) (w : World) (hR : RN w w.heap.size A n H) (hn : n ≤ 10000) (hm : ∀ h ∈ H, h.n ≤ 10000) :
    Calls Tryd.prog 25 #[.slice A n cc] w (OutRA (listsOf H) n w) := by
  obtain ⟨i0, hi0, hz0, hz1, hz2⟩ := info_parts info3
  obtain ⟨j0, hj0, hy0, hy1, hy2⟩ := info_parts info53
  have HR := Lib.hid hR
  have HMm := Lib.hid hm
  clear hR hm
  go_enter Tryd.func25, Tryd.ntmps25
  go_wp2_with fail
  go_loopw [3, 4] (fun vo vi wr => ∃ (j : Nat) (A2 : Option Addr) (c2 : Nat) (G : List Hi), j ≤ n ∧ vi = .int .i64 j ∧ vo = .slice A2 j c2 ∧ Hid (listsOf G = (listsOf H).take j) ∧ Hid (OwnI wr w.heap.size A2 j c2 G) ∧ Below w.heap.size w wr ∧ Hid (Apt G)) (fun _ i _ => n - (intOf i).toNat)
  case atStart => exact ⟨0, none, 0, [], Nat.zero_le _, rfl, rfl, Lib.hid rfl, Lib.hid (OwnI.nil _ _), Below.refl _ _, Lib.hid Apt.nil⟩
  case round =>
    obtain ⟨j, A2, c2, G, hj, rfl, rfl, HL, HO, hb, HAp⟩ := hrel
    have hsz := hb.size
    by_cases hlt : j < n
    · have kl : j < H.length := by rw [HR.out.1]; exact hlt
      obtain ⟨b, o, rfl, hbb, p0, rI, sI⟩ := (HR.out.on hb).at kl
      have hm2 : H[j].n ≤ 10000 := HMm.out _ (List.getElem_mem kl)
      have HTk : Hid ((listsOf H).take (j + 1) = (listsOf H).take j ++ [H[j].l]) := Lib.hid (by
        have kk : j < (listsOf H).length := by rw [listsOf_len]; exact kl
        rw [List.take_succ_eq_append_getElem kk]
        simp [listsOf])
      generalize H[j] = x at *
      obtain ⟨ha, hn2, hc, hl⟩ := x
      dsimp only at *
      have p1 : (wr.alloc (.cells #[] 3)).cell? ⟨b, o + j, none⟩ = some (.slice ha hn2 hc) := by rw [World.cell?_alloc_lt _ _ _ hbb]; exact p0
      have HRI := Lib.hid rI
      have HNil : Hid (ha = none → hc = 0) := Lib.hid sI.1
      have HOm := Lib.hid (World.ownsRow_made (e := 3) (size := 1) wr #[] 0 (Nat.le_refl _) (Nat.zero_le _) (by simp))
      have HRd := Lib.hid (rI.2.alloc (Nat.le_refl _) (.cells #[] 3))
      have HOne := Lib.hid (icells_one hl)
      have hjj : (j : Int) < (n : Int) := by omega
      clear rI sI
      go_wp2_with (at_builtin; refine wpList_append_src rfl _ _ 51 rfl wr.heap.size 3 i0 _ 1 8 Tryd.underlying51 hi0 hz0 hz1 hz2 rfl (by decide) _ _ _ rfl HOm.out ha hn2 hc wr.heap.size (icells hl) rfl HNil.out HRd.out HOne.out ?c3 ?c4 ?c5 ?_)
      case c3 => unfold maxLen; omega
      case c4 => omega
      case c5 => simp
      intro A3 d3 w3 hown hnil hgrow
      have g : Below wr.heap.size wr w3 := below_grown (below_new _ _) (by simp) HOm.out hgrow
      have HO3 : Hid (w3.ownsRow wr.heap.size 3 1 (.slice A3 hn2 d3) hn2 (icells hl)) := Lib.hid (by simpa using hown)
      try simp only [Nat.zero_add]
      clear hown hgrow hnil HOm HRd HOne HNil p0 p1
      have hb5 := hb.trans (g.mono hsz)
      have hs5 := hb5.size
      have HO5 := Lib.hid (HO.out.on g)
      have hownO := HO5.out.out
      have HXX : Hid ((⟨A3, hn2, d3, hl⟩ : Hi).l.length = (⟨A3, hn2, d3, hl⟩ : Hi).n ∧ w3.ownsRow w.heap.size 3 1 (⟨A3, hn2, d3, hl⟩ : Hi).v (⟨A3, hn2, d3, hl⟩ : Hi).n (icells (⟨A3, hn2, d3, hl⟩ : Hi).l)) := Lib.hid ⟨HRI.out.1, own_base HO3.out hsz⟩
      have HL5 : Hid (listsOf (G ++ [(⟨A3, hn2, d3, hl⟩ : Hi)]) = (listsOf H).take (j + 1)) := Lib.hid (by
        have e : listsOf (G ++ [(⟨A3, hn2, d3, hl⟩ : Hi)]) = listsOf G ++ [hl] := by simp [listsOf]
        rw [e, HL.out, HTk.out])
      have HAp5 : Hid (Apt (G ++ [(⟨A3, hn2, d3, hl⟩ : Hi)])) := Lib.hid (HAp.out.snoc (B := wr.heap.size) (fun y hy g hg => ((HO.out.inn y hy).2.lt g hg).2) (fun g hg => (HO3.out.lt g hg).1))
      clear HL HO HTk HO3 HRI g
      go_wp2_with (at_builtin; refine wpList_append_lies _ rfl _ _ 23 rfl w.heap.size 51 j0 _ 1 24 Tryd.underlying23 hj0 hy0 hy1 hy2 rfl (by decide) _ _ _ rfl (hownO.alloc _) ⟨w3.heap.size, 0, none⟩ 1 1 [.slice A3 hn2 d3] rfl rfl ?k1 ?k2 (by omega) ?k3 ?k4 ?k5 _ rfl ?_)
      try (case k1 => exact lit1 (by simp))
      case k2 => first | rfl | (intro u hu; simp at hu; subst hu; rfl)
      case k3 => unfold maxLen; omega
      case k4 => omega
      case k5 => first | omega | (simp; omega)
      intro g5 cap5 w5 hown5 hgrow5 hat5 hlt5
      have HO9 : Hid (OwnI w5 w.heap.size (some ⟨g5, 0, none⟩) (j + 1) cap5 (G ++ [(⟨A3, hn2, d3, hl⟩ : Hi)])) := Lib.hid ((HO5.out.on (below_new w3 (.cells #[.slice A3 hn2 d3] 51))).snoc ⟨HXX.out.1, HXX.out.2.alloc _⟩ hown5 hgrow5)
      have b9 : Below w.heap.size w w5 := below_grown (hb5.alloc hs5 _) (by simp; omega) (hownO.alloc _) hgrow5
      clear hown5 hgrow5 hat5 hownO HXX HO5
      go_wp2_with fail
      go_roundw
      case rel => exact ⟨j + 1, some ⟨g5, 0, none⟩, cap5, _, by omega, by go_num, rfl, HL5, HO9, b9, HAp5⟩
      case measure => simp [intOf]; omega
    · obtain rfl : j = n := by omega
      have HE : Hid (listsOf G = listsOf H) := Lib.hid (by
        rw [HL.out, List.take_of_length_le]
        rw [listsOf_len, HR.out.1]
        exact Nat.le_refl _)
      go_wp2_with fail
      go_ret
      exact ⟨A2, c2, G, rfl, HE.out, HO.out, hb, HAp.out⟩
end Go.Proofs.YtnilejdokgagbaaDoor

/- Two arrays of four bytes compared; what sealFault returns. -/
namespace Go.Proofs.YtnilejdokgagbaaDoor
open Go.RowKit Go.BigFrame
set_option linter.unusedVariables false
set_option maxRecDepth 4000
set_option linter.unusedSimpArgs false

theorem guard61 : Tryd.prog.eqGuardType Tryd.prog.depth 54 = false := by kernel_rfl
theorem part5 (cs : Array Value) (off : Nat) (v : Value) (h : cs[off]? = some v) (W : World) : (part 5 cs off).run Tryd.prog W = .ok v W := by
  unfold part
  simp [go_sem, h]
theorem sizeOf5 (W : World) : (sizeOf 5).run Tryd.prog W = .ok 1 W := by kernel_rfl
theorem eq61 (d : Nat) (x0 x1 x2 x3 y0 y1 y2 y3 : Int) (W : World) : (Op.equalIn (d + 1 + 1) 54 (.agg #[.int .u8 x0, .int .u8 x1, .int .u8 x2, .int .u8 x3]) (.agg #[.int .u8 y0, .int .u8 y1, .int .u8 y2, .int .u8 y3])).run Tryd.prog W = .ok (x0 == y0 && (x1 == y1 && (x2 == y2 && x3 == y3))) W := by
  rw [Op.equalIn]
  simp only [Sem.run_bind, run_underlying Tryd.underlying54, Result.andThen_ok, sizeOf5]
  rw [Std.Legacy.Range.forIn_eq_forIn_range']
  have hr : List.range' [:4].start [:4].size [:4].step = [0, 1, 2, 3] := by decide
  rw [hr]
  have he : ∀ (a b : Int) (w : World), (Op.equalIn (d + 1) 5 (.int .u8 a) (.int .u8 b)).run Tryd.prog w = .ok (a == b) w := fun a b w => run_equalIn_int w d 5 .u8 .u8 a b Tryd.underlying5
  simp only [List.forIn_cons, List.forIn_nil, Sem.run_bind, part5 _ _ _ (show (#[Value.int IntKind.u8 x0, Value.int IntKind.u8 x1, Value.int IntKind.u8 x2, Value.int IntKind.u8 x3])[0 * 1]? = some (.int .u8 x0) from rfl), part5 _ _ _ (show (#[Value.int IntKind.u8 x0, Value.int IntKind.u8 x1, Value.int IntKind.u8 x2, Value.int IntKind.u8 x3])[1 * 1]? = some (.int .u8 x1) from rfl), part5 _ _ _ (show (#[Value.int IntKind.u8 x0, Value.int IntKind.u8 x1, Value.int IntKind.u8 x2, Value.int IntKind.u8 x3])[2 * 1]? = some (.int .u8 x2) from rfl), part5 _ _ _ (show (#[Value.int IntKind.u8 x0, Value.int IntKind.u8 x1, Value.int IntKind.u8 x2, Value.int IntKind.u8 x3])[3 * 1]? = some (.int .u8 x3) from rfl), part5 _ _ _ (show (#[Value.int IntKind.u8 y0, Value.int IntKind.u8 y1, Value.int IntKind.u8 y2, Value.int IntKind.u8 y3])[0 * 1]? = some (.int .u8 y0) from rfl), part5 _ _ _ (show (#[Value.int IntKind.u8 y0, Value.int IntKind.u8 y1, Value.int IntKind.u8 y2, Value.int IntKind.u8 y3])[1 * 1]? = some (.int .u8 y1) from rfl), part5 _ _ _ (show (#[Value.int IntKind.u8 y0, Value.int IntKind.u8 y1, Value.int IntKind.u8 y2, Value.int IntKind.u8 y3])[2 * 1]? = some (.int .u8 y2) from rfl), part5 _ _ _ (show (#[Value.int IntKind.u8 y0, Value.int IntKind.u8 y1, Value.int IntKind.u8 y2, Value.int IntKind.u8 y3])[3 * 1]? = some (.int .u8 y3) from rfl), Result.andThen_ok, he]
  by_cases h0 : x0 = y0 <;> by_cases h1 : x1 = y1 <;> by_cases h2 : x2 = y2 <;> by_cases h3 : x3 = y3 <;> simp [go_sem, h0, h1, h2, h3]
theorem neq61_same (x0 x1 x2 x3 : Int) (W : World) : (binOp .neq 54 (.agg #[.int .u8 x0, .int .u8 x1, .int .u8 x2, .int .u8 x3]) (.agg #[.int .u8 x0, .int .u8 x1, .int .u8 x2, .int .u8 x3])).run Tryd.prog W = .ok (.bool false) W := by
  rw [run_neq_struct, eq61 9998]
  simp
theorem neq61_diff (x0 x1 x2 x3 y0 y1 y2 y3 : Int) (h : ¬ (x0 = y0 ∧ x1 = y1 ∧ x2 = y2 ∧ x3 = y3)) (W : World) : (binOp .neq 54 (.agg #[.int .u8 x0, .int .u8 x1, .int .u8 x2, .int .u8 x3]) (.agg #[.int .u8 y0, .int .u8 y1, .int .u8 y2, .int .u8 y3])).run Tryd.prog W = .ok (.bool true) W := by
  rw [run_neq_struct, eq61 9998]
  have : (x0 == y0 && (x1 == y1 && (x2 == y2 && x3 == y3))) = false := by
    cases hq : (x0 == y0 && (x1 == y1 && (x2 == y2 && x3 == y3)))
    · rfl
    · exfalso; apply h; simpa using hq
  rw [this]
  rfl
open Classical in
/-- What is wrong ahead of what the counts say. -/
noncomputable def sealE (l : List Nat) : Nat :=
  if l.length < 11 then 21 else if l.take 4 ≠ markB then 22 else if numL (l.drop (l.length - 4)) ≠ sumL (l.take (l.length - 4)) then 23 else 0
theorem sealE_short {l : List Nat} (h : l.length < 11) : sealE l = 21 := by unfold sealE; rw [if_pos h]
theorem sealE_mark {l : List Nat} (h : ¬ l.length < 11) (h2 : l.take 4 ≠ markB) : sealE l = 22 := by unfold sealE; rw [if_neg h, if_pos h2]
theorem sealE_sum {l : List Nat} (h : ¬ l.length < 11) (h2 : l.take 4 = markB) (h3 : numL (l.drop (l.length - 4)) ≠ sumL (l.take (l.length - 4))) : sealE l = 23 := by unfold sealE; rw [if_neg h, if_neg (by rw [h2]; simp), if_pos h3]
theorem sealE_ok {l : List Nat} (h : ¬ l.length < 11) (h2 : l.take 4 = markB) (h3 : numL (l.drop (l.length - 4)) = sumL (l.take (l.length - 4))) : sealE l = 0 := by unfold sealE; rw [if_neg h, if_neg (by rw [h2]; simp), if_neg (by rw [h3]; simp)]
theorem ret_i64 {a b : Nat} (h : a = b) : Ending.returned (.int .i64 (a : Int)) = .returned (.int .i64 (b : Int)) := by rw [h]
set_option maxRecDepth 4000 in
set_option maxHeartbeats 2000000 in
theorem sealFault_any (l : List Nat) (n : Nat) (A : Option Addr) (c : Nat) (w : World) (hR : RB w w.heap.size A n l) (hc : n ≤ c) (hn : n ≤ 100000) (hM : Mark w) :
    Calls Tryd.prog 34 #[.slice A n c] w fun e w' => e = .returned (.int .i64 (sealE l : Nat)) ∧ Below w.heap.size w w' := by
  have hl := hR.1
  by_cases h11 : n < 11
  · have HE : Hid (sealE l = 21) := Lib.hid (sealE_short (by omega))
    clear hR hM hl
    go_enter Tryd.func34, Tryd.ntmps34
    go_wp2_with fail
    go_ret
    exact ⟨ret_i64 HE.out.symm, Below.refl _ _⟩
  have hsz5 : (Tryd.prog.info? 5).map (·.size) = some 1 := by kernel_rfl
  have hmin : Hid (4 = Nat.min n 4) := Lib.hid (Nat.min_eq_right (by omega)).symm
  obtain ⟨m, hm⟩ : ∃ m, n - 4 = m := ⟨_, rfl⟩
  have hmI : (n : Int) - 4 = (m : Int) := by omega
  have HG := Lib.hid (fun W (g : Below w.heap.size w W) => get_4 l n m A c W (hR.on g) hc hn (by omega))
  have HTk : Hid ((l.drop m).take 4 = l.drop (l.length - 4)) := Lib.hid (by rw [hl, hm, List.take_of_length_le (by rw [List.length_drop]; omega)])
  rw [HTk.out] at HG
  have HSm := Lib.hid (fun W (g : Below w.heap.size w W) => sum_any (l.take m) m A c W ((hR.on g).take (by omega)) (by omega))
  rw [show l.take m = l.take (l.length - 4) by rw [hl, hm]] at HSm
  have hvl : numL (l.drop (l.length - 4)) < 4294967296 := by
    have := numL_lt (l.drop (l.length - 4)) (fun x hx => hR.2.2 x (List.mem_of_mem_drop hx)) 4 (by rw [List.length_drop]; omega)
    simpa using this
  have HMk := Lib.hid hM
  have HE2 : Hid (l.take 4 ≠ markB → sealE l = 22) := Lib.hid (fun h => sealE_mark (by omega) h)
  have HE3 : Hid (l.take 4 = markB → numL (l.drop (l.length - 4)) ≠ sumL (l.take (l.length - 4)) → sealE l = 23) := Lib.hid (fun h1 h2 => sealE_sum (by omega) h1 h2)
  have HE4 : Hid (l.take 4 = markB → numL (l.drop (l.length - 4)) = sumL (l.take (l.length - 4)) → sealE l = 0) := Lib.hid (fun h1 h2 => sealE_ok (by omega) h1 h2)
  obtain ⟨b0, o0, rfl, hb0, hsrc⟩ := hR.src (a := 0) (k := 4) (by omega) (by decide)
  rw [Nat.add_zero, List.drop_zero] at hsrc
  have hL : (l.take 4).length = 4 := by rw [List.length_take]; omega
  have hsl := sumL_lt (l.take (l.length - 4))
  generalize numL (l.drop (l.length - 4)) = v at *
  generalize sumL (l.take (l.length - 4)) = s at *
  generalize sealE l = r at *
  generalize l.take 4 = L at *
  have hmn : m ≤ n := by omega
  have hmc : (m : Int) ≤ (c : Int) := by omega
  clear hR hM hl HTk hm
  match L, hL with
  | [x0, x1, x2, x3], _ =>
  have HSrc := Lib.hid hsrc
  have HOne := Lib.hid (ycells_one [x0, x1, x2, x3])
  clear hsrc
  go_enter Tryd.func34, Tryd.ntmps34
  go_wp2_with (with_reducible refine wpList_copy_splice rfl (.tmp 10) (.tmp 11) 27 27 rfl 5 Tryd.underlying27 hsz5 (some ⟨w.heap.size, 0, none⟩) (some ⟨b0, o0, none⟩) 4 4 n c ?hd ?hs w.heap.size 0 [.int .u8 0, .int .u8 0, .int .u8 0, .int .u8 0] 54 ?hg (ycells [x0, x1, x2, x3]) ?hn ?hpos ?hfit HOne.out w.heap.size w ?hbel ?hle ?_)
  case hd => rfl
  case hs => rfl
  case hg => exact heap_alloc_new w _
  case hn => exact hmin.out
  case hpos =>
    intro _ j v hv
    have h := HSrc.out w (Below.refl _ _) j v hv
    by_cases h0 : j = 0
    · subst h0; simpa [Addr.add] using h
    · simpa [Addr.add, h0] using h
  case hfit => rw [ycells_len]; exact Nat.le_refl 4
  case hbel => exact below_new _ _
  case hle => exact Nat.le_refl _
  first | (intro w4 hg4 hb4) | (rename_i w4 hg4 hb4)
  have hg5 : w4.heap[w.heap.size]? = some (.cells #[.int .u8 (x0 : Int), .int .u8 (x1 : Int), .int .u8 (x2 : Int), .int .u8 (x3 : Int)] 54 (0, 0)) := hg4.out
  have q0 : w4.cell? ⟨w.heap.size, 0, none⟩ = some (.int .u8 (x0 : Int)) := by rw [cell_of_row w4 w.heap.size 0 _ 54 (0, 0) hg5]; rfl
  have q1 : w4.cell? ⟨w.heap.size, 1, none⟩ = some (.int .u8 (x1 : Int)) := by rw [cell_of_row w4 w.heap.size 1 _ 54 (0, 0) hg5]; rfl
  have q2 : w4.cell? ⟨w.heap.size, 2, none⟩ = some (.int .u8 (x2 : Int)) := by rw [cell_of_row w4 w.heap.size 2 _ 54 (0, 0) hg5]; rfl
  have q3 : w4.cell? ⟨w.heap.size, 3, none⟩ = some (.int .u8 (x3 : Int)) := by rw [cell_of_row w4 w.heap.size 3 _ 54 (0, 0) hg5]; rfl
  obtain ⟨hm0, m0, m1, m2, m3⟩ := HMk.out.on hb4
  clear hg4 hg5 HSrc HOne HMk
  have g61 := guard61
  by_cases hx : x0 = 66 ∧ x1 = 82 ∧ x2 = 75 ∧ x3 = 49
  · obtain ⟨rfl, rfl, rfl, rfl⟩ := hx
    have hne := neq61_same 66 82 75 49
    have HE3' := Lib.hid (HE3.out rfl)
    have HE4' := Lib.hid (HE4.out rfl)
    clear HE2 HE3 HE4
    go_wp2_with fail
    refine (HG.out _ hb4).mono ?_
    rintro e w5 ⟨rfl, g5⟩
    have b5 := hb4.trans (g5.mono hb4.size)
    clear g5 q0 q1 q2 q3 m0 m1 m2 m3 hm0 hb4 HG
    have e1 : (v : Int) % 4294967296 = (v : Int) := by omega
    simp only [Option.getD_some, Option.isSome_some]
    go_wp2_with fail
    refine (HSm.out _ b5).mono ?_
    rintro e w6 ⟨rfl, rfl⟩
    by_cases hvs : v = s
    · subst hvs
      have hb : ((v : Int) != (v : Int)) = false := by simp
      have HD := Lib.hid (HE4'.out rfl)
      clear HE3' HE4'
      go_wp2_with fail
      go_ret
      exact ⟨ret_i64 HD.out.symm, b5⟩
    · have hb : ((v : Int) != (s : Int)) = true := by rw [bne_iff_ne]; omega
      have HD := Lib.hid (HE3'.out hvs)
      clear HE3' HE4'
      go_wp2_with fail
      go_ret
      exact ⟨ret_i64 HD.out.symm, b5⟩
  · have hne := neq61_diff x0 x1 x2 x3 66 82 75 49 (by omega)
    have HD := Lib.hid (HE2.out (by unfold markB; intro h; simp only [List.cons.injEq] at h; omega))
    clear HE2 HE3 HE4 hx
    go_wp2_with fail
    go_ret
    exact ⟨ret_i64 HD.out.symm, hb4⟩
end Go.Proofs.YtnilejdokgagbaaDoor

/- What bandsOf returns. -/
namespace Go.Proofs.YtnilejdokgagbaaDoor
open Go.RowKit Go.BigFrame
set_option linter.unusedVariables false
set_option maxRecDepth 4000
set_option linter.unusedSimpArgs false

/-- A new row of bands. -/
def OutBD (L : List Rg) (n : Nat) (w : World) (e : Ending) (w' : World) : Prop := ∃ (A : Option Addr) (c : Nat), e = .returned (.slice A n c) ∧ w'.ownsRow w.heap.size 50 2 (.slice A n c) n (rcells L) ∧ Below w.heap.size w w'
theorem band_at (l : List Nat) (j : Nat) (h : 4 * j + 3 < l.length) : bandOf (chunk 4 l j) = (((numL ((l.drop (4 * j)).take 3) : Nat) : Int), ((l[4 * j + 3] : Nat) : Int)) := by
  unfold bandOf chunk
  have e1 : (((l.drop (4 * j)).take 4).take 3) = (l.drop (4 * j)).take 3 := by rw [List.take_take]; rfl
  have e2 : (((l.drop (4 * j)).take 4).drop 3).headD 0 = l[4 * j + 3] := by
    have : ((l.drop (4 * j)).take 4).drop 3 = [l[4 * j + 3]] := by
      rw [List.drop_take, List.drop_drop]
      show List.take 1 (List.drop (4 * j + 3) l) = _
      rw [List.drop_eq_getElem_cons h]
      rfl
    rw [this]; rfl
  rw [e1, e2]
theorem reads_band (w : World) (x y : Int) : Reads (w.alloc (.cells #[.int .i64 x, .int .i64 y] 50)) (w.heap.size + 1) 2 (some ⟨w.heap.size, 0, none⟩) 1 (rcells [(x, y)]) := ⟨rfl, fun _ => ⟨_, _, rfl, by omega, fun i u hu => by
  match i, hu with
  | 0, hu => injection hu with hu; subst hu; simp
  | 1, hu => injection hu with hu; subst hu; simp⟩⟩
set_option maxRecDepth 4000 in
set_option maxHeartbeats 2000000 in
theorem bandsOf_any (l : List Nat) (n k : Nat) (A : Option Addr) (c : Nat) (w : World) (hR : RB w w.heap.size A n l) (hnk : n = 4 * k) (hc : n ≤ c) (hk : k ≤ 1000) :
    Calls Tryd.prog 39 #[.slice A n c] w (OutBD ((List.range k).map fun i => bandOf (chunk 4 l i)) k w) := by
  obtain ⟨i0, hi0, hz0, hz1, hz2⟩ := info_parts info52
  have HR := Lib.hid hR
  have HNK := Lib.hid hnk
  have hn : n ≤ 4000 := by omega
  clear hR hnk
  go_enter Tryd.func39, Tryd.ntmps39
  go_wp2_with fail
  go_loopw [3, 4] (fun vo vi wr => ∃ (j a : Nat) (A2 : Option Addr) (c2 : Nat), j ≤ k ∧ Hid (a = 4 * j) ∧ a ≤ n ∧ vi = .int .i64 a ∧ vo = .slice A2 j c2 ∧ Hid (wr.ownsRow w.heap.size 50 2 (.slice A2 j c2) j (rcells ((List.range j).map fun i => bandOf (chunk 4 l i)))) ∧ Below w.heap.size w wr) (fun _ i _ => n - (intOf i).toNat)
  case atStart => exact ⟨0, 0, none, 0, Nat.zero_le _, Lib.hid rfl, Nat.zero_le _, rfl, rfl, Lib.hid (World.ownsRow_nil _ _ _ _), Below.refl _ _⟩
  case round =>
    obtain ⟨j, a, A2, c2, hj, HA, ha, rfl, rfl, HO, hb⟩ := hrel
    have hsz := hb.size
    by_cases hlt : a < n
    · have ha4 : a + 4 ≤ n := by have := HA.out; have := HNK.out; omega
      have hjk : j < k := by have := HA.out; have := HNK.out; omega
      have HG := Lib.hid (get_3 l n a A c wr (HR.out.on hb) hc (by omega) (by omega))
      have kl : a + 3 < l.length := by rw [HR.out.1]; omega
      obtain ⟨b, o, rfl, hbb, p0, px⟩ := HR.out.at kl
      have HS : Hid (rcells ((List.range (j + 1)).map fun i => bandOf (chunk 4 l i)) = rcells ((List.range j).map fun i => bandOf (chunk 4 l i)) ++ rcells [(((numL ((l.drop a).take 3) : Nat) : Int), ((l[a + 3] : Nat) : Int))]) := Lib.hid (by
        have h4 := HA.out
        rw [List.range_succ, List.map_append, rcells_app]
        congr 1
        simp only [List.map_cons, List.map_nil]
        rw [band_at l j (by omega)]
        simp only [← h4])
      generalize l[a + 3] = x at *
      generalize numL ((l.drop a).take 3) = f at *
      go_wp2_with fail
      refine HG.out.mono ?_
      rintro e w5 ⟨rfl, g5⟩
      have p0 : w5.cell? ⟨b, o + (a + 3), none⟩ = some (.int .u8 (x : Int)) := kept_cell (hb.trans (g5.mono hsz)) p0
      have b5 := hb.trans (g5.mono hsz)
      have hs5 := b5.size
      have HO5 := Lib.hid (own_below HO.out g5)
      have HOa := Lib.hid (HO5.out.alloc (.cells #[.int .i64 (f : Int), .int .i64 (x : Int)] 50))
      have hba := b5.alloc hs5 (.cells #[.int .i64 (f : Int), .int .i64 (x : Int)] 50)
      have HRd := Lib.hid (reads_band w5 f x)
      have HOne := Lib.hid (rcells_one [((f : Int), (x : Int))])
      have hai : (a : Int) + 3 < (n : Int) := by omega
      clear HO HO5 g5 HG hb
      simp only [Option.getD_some, Option.isSome_some]
      go_wp2_with (at_builtin; refine wpList_append_src rfl _ _ 22 rfl w.heap.size 50 i0 _ 2 16 Tryd.underlying22 hi0 hz0 hz1 hz2 rfl (by decide) _ _ _ rfl HOa.out (some ⟨w5.heap.size, 0, none⟩) 1 1 (w5.heap.size + 1) (rcells [((f : Int), (x : Int))]) rfl (fun h => by cases h) HRd.out HOne.out ?n3 ?n4 ?n5 ?_)
      case n3 => unfold maxLen; omega
      case n4 => omega
      case n5 => simp; omega
      intro A8 c8 w8 hown8 hn8 hgrow8
      have b8 : Below w.heap.size w w8 := below_grown hba (by simp; omega) HOa.out hgrow8
      have HO8 : Hid (w8.ownsRow w.heap.size 50 2 (.slice A8 (j + 1) c8) (j + 1) (rcells ((List.range (j + 1)).map fun i => bandOf (chunk 4 l i)))) := Lib.hid (by
        rw [HS.out]; exact hown8)
      clear hown8 hgrow8 HOa hba HRd HOne p0 b5
      go_wp2_with fail
      go_roundw
      case rel => exact ⟨j + 1, a + 4, A8, c8, by omega, Lib.hid (by have := HA.out; omega), by omega, by go_num, rfl, HO8, b8⟩
      case measure => simp [intOf]; omega
    · obtain rfl : j = k := by have := HA.out; have := HNK.out; omega
      go_wp2_with fail
      go_ret
      exact ⟨A2, c2, rfl, HO.out, hb⟩
end Go.Proofs.YtnilejdokgagbaaDoor

/- What Decode says, in the order of the program; its parts. -/
namespace Go.Proofs.YtnilejdokgagbaaDoor
open Go.RowKit Go.BigFrame
set_option linter.unusedVariables false
set_option maxRecDepth 4000
set_option linter.unusedSimpArgs false

def zeroT : Tb := { cl := 0, bd := [], nx := [], br := [] }
def zeroV : TV := ⟨0, none, 0, 0, [], none, 0, 0, [], none, 0, 0, []⟩
theorem zeroV_ok (w : World) : zeroV.ok w := ⟨RD.nil _ _ _, ⟨fun _ => rfl, Nat.le_refl _, Nat.zero_le _⟩, RN.nil _ _ _, ⟨fun _ => rfl, Nat.le_refl _, Nat.zero_le _⟩, RL.nil _ _ _, ⟨fun _ => rfl, Nat.le_refl _, Nat.zero_le _⟩⟩
theorem zeroV_tb : zeroV.tb = zeroT := rfl
open Classical in
/-- The table that Decode tells. -/
noncomputable def decR (l : List Nat) : Tb := if errT l = 0 then decT l else zeroT
theorem decR_no {l : List Nat} (h : errT l ≠ 0) : decR l = zeroT := by unfold decR; rw [if_neg h]
theorem decR_yes {l : List Nat} (h : errT l = 0) : decR l = decT l := by unfold decR; rw [if_pos h]
/-- The table of bytes, or why there is none. -/
def OutDc (l : List Nat) (w : World) (e : Ending) (w' : World) : Prop :=
  ∃ V : TV, e = .returned (.tuple #[V.v, .int .i64 (errT l : Nat)]) ∧ V.ok w' ∧ V.tb = decR l ∧ Below w.heap.size w w'
theorem outDc_no {l : List Nat} {w w' : World} {r : Nat} (h : errT l = r) (h0 : r ≠ 0) (g : Below w.heap.size w w') : OutDc l w (.returned (.tuple #[.agg #[.int .i64 0, .slice none 0 0, .slice none 0 0, .slice none 0 0], .int .i64 (r : Int)])) w' :=
  ⟨zeroV, by rw [h]; rfl, zeroV_ok _, by rw [decR_no (by rw [h]; exact h0), zeroV_tb], g⟩
/-- The bits' bytes. -/
def bitsP (l : List Nat) : List Nat := (l.take (l.length - 4)).drop (7 + 4 * l[6]?.getD 0 + l[5]?.getD 0 * l[4]?.getD 0)
theorem errT_seal {l : List Nat} (h : sealE l ≠ 0) : errT l = sealE l := by
  unfold sealE at h
  unfold errT
  unfold sealE
  split
  · rfl
  · rename_i h1
    rw [if_neg h1] at h
    split
    · rfl
    · rename_i h2
      rw [if_neg h2] at h
      split
      · rfl
      · rename_i h3
        rw [if_neg h3] at h
        exact absurd rfl h
theorem seal_zero {l : List Nat} (h : sealE l = 0) : ¬ l.length < 11 ∧ ¬ (l.take 4 ≠ markB) ∧ ¬ (numL (l.drop (l.length - 4)) ≠ sumL (l.take (l.length - 4))) := by
  unfold sealE at h
  split at h
  · cases h
  · split at h
    · cases h
    · split at h
      · cases h
      · rename_i h1 h2 h3
        exact ⟨h1, h2, h3⟩
theorem errT_count {l : List Nat} (h : sealE l = 0) (h2 : ¬ (cntB (l[4]?.getD 0) (l[5]?.getD 0) (l[6]?.getD 0) = true ∧ lenT (l[4]?.getD 0) (l[5]?.getD 0) (l[6]?.getD 0) = l.length)) : errT l = 24 := by
  obtain ⟨a, b, c⟩ := seal_zero h
  unfold errT
  rw [if_neg a, if_neg b, if_neg c, if_pos]
  rintro ⟨x, y, z, u⟩
  exact h2 ⟨decide_eq_true ⟨x, y, z⟩, u⟩
theorem errT_bits {l : List Nat} (h : sealE l = 0) (h2 : cntB (l[4]?.getD 0) (l[5]?.getD 0) (l[6]?.getD 0) = true) (h3 : lenT (l[4]?.getD 0) (l[5]?.getD 0) (l[6]?.getD 0) = l.length) (h4 : unbR (bitsP l) (l[5]?.getD 0 : Nat) = none) : errT l = 25 := by
  obtain ⟨a, b, c⟩ := seal_zero h
  obtain ⟨x, y, z⟩ := of_decide_eq_true h2
  unfold bitsP at h4
  unfold errT
  rw [if_neg a, if_neg b, if_neg c, if_neg (fun hn => hn ⟨x, y, z, h3⟩), if_pos h4]
theorem errT_ok {l : List Nat} (h : sealE l = 0) (h2 : cntB (l[4]?.getD 0) (l[5]?.getD 0) (l[6]?.getD 0) = true) (h3 : lenT (l[4]?.getD 0) (l[5]?.getD 0) (l[6]?.getD 0) = l.length) (r : List Bool) (h4 : unbR (bitsP l) (l[5]?.getD 0 : Nat) = some r) : errT l = 0 ∧ decR l = tabOf l r := by
  obtain ⟨a, b, c⟩ := seal_zero h
  obtain ⟨x, y, z⟩ := of_decide_eq_true h2
  have e : errT l = 0 := by
    unfold errT
    rw [if_neg a, if_neg b, if_neg c, if_neg (fun hn => hn ⟨x, y, z, h3⟩), if_neg]
    intro hn
    unfold bitsP at h4
    rw [h4] at hn
    cases hn
  refine ⟨e, ?_⟩
  rw [decR_yes e]
  unfold decT
  unfold bitsP at h4
  rw [h4]
  rfl
/-- A part of a row. -/
theorem RB.sub {w : World} {B n b o : Nat} {l : List Nat} (h : RB w B (some ⟨b, o, none⟩) n l) {i j : Nat} (hij : i ≤ j) (hj : j ≤ n) : RB w B (some ⟨b, o + i, none⟩) (j - i) ((l.take j).drop i) := by
  have hl := h.1
  have hlen : ((l.take j).drop i).length = j - i := by rw [List.length_drop, List.length_take]; omega
  refine ⟨hlen, ⟨by rw [ycells_len, hlen, Nat.mul_one], fun hp => ?_⟩, fun x hx => h.2.2 x (List.mem_of_mem_take (List.mem_of_mem_drop hx))⟩
  obtain ⟨b', o', e, hb, hc⟩ := h.2.1.2 (by omega)
  injection e with e
  injection e with e1 e2
  subst e1 e2
  refine ⟨b, o + i, rfl, hb, fun q u hu => ?_⟩
  have hq : q < j - i := by
    have := (List.getElem?_eq_some_iff.1 hu).1
    rw [ycells_len, hlen] at this
    exact this
  rw [Nat.add_assoc]
  refine hc (i + q) u ?_
  rw [← hu]
  unfold ycells
  rw [List.getElem?_map, List.getElem?_map, List.getElem?_drop, List.getElem?_take_of_lt (by omega)]
theorem bands_part (l : List Nat) (k : Nat) : (List.range k).map (fun i => bandOf (chunk 4 ((l.take (7 + 4 * k)).drop 7) i)) = (List.range k).map fun i => bandOf (chunk 4 (l.drop 7) i) := by
  refine List.map_congr_left fun i hi => ?_
  rw [List.drop_take, show 7 + 4 * k - 7 = 4 * k by omega, chunk_take 4 k _ i (List.mem_range.1 hi)]
theorem rows_part (l : List Nat) (a c s : Nat) : (List.range s).map (fun i => (chunk c ((l.take (a + s * c)).drop a) i).map Int.ofNat) = (List.range s).map fun i => (chunk c (l.drop a) i).map Int.ofNat := by
  refine List.map_congr_left fun i hi => ?_
  rw [List.drop_take, show a + s * c - a = c * s by rw [Nat.mul_comm]; omega, chunk_take c s _ i (List.mem_range.1 hi)]
end Go.Proofs.YtnilejdokgagbaaDoor

/- What Decode returns. -/
namespace Go.Proofs.YtnilejdokgagbaaDoor
open Go.RowKit Go.BigFrame
set_option linter.unusedVariables false
set_option maxRecDepth 4000
set_option linter.unusedSimpArgs false

theorem kept_frozen {w w' : World} {g i : Nat} (h : Below w.heap.size w w') (hg : g < w.heap.size) (hf : w.frozen? ⟨g, i, none⟩ = false) : w'.frozen? ⟨g, i, none⟩ = false := (h.frozen (p := ⟨g, i, none⟩) hg).trans hf
theorem store4 {w0 w : World} {B g : Nat} {o0 o1 o2 o3 : Value} (v0 v1 v2 v3 : Value) (hb : Below B w0 w) (hBg : B ≤ g) (p0 : w.cell? ⟨g, 0, none⟩ = some o0) (p1 : w.cell? ⟨g, 1, none⟩ = some o1) (p2 : w.cell? ⟨g, 2, none⟩ = some o2) (p3 : w.cell? ⟨g, 3, none⟩ = some o3) :
    ∃ W, W = (((w.setCell ⟨g, 0, none⟩ v0).setCell ⟨g, 1, none⟩ v1).setCell ⟨g, 2, none⟩ v2).setCell ⟨g, 3, none⟩ v3 ∧ Below B w0 W ∧ W.heap.size = w.heap.size ∧ W.cell? ⟨g, 0, none⟩ = some v0 ∧ W.cell? ⟨g, 1, none⟩ = some v1 ∧ W.cell? ⟨g, 2, none⟩ = some v2 ∧ W.cell? ⟨g, 3, none⟩ = some v3 ∧
      ∀ (base : Nat) (e : TypeId) (size : Nat) (v : Value) (n : Nat) (xs : List Value), g < base → w.ownsRow base e size v n xs → W.ownsRow base e size v n xs := by
  refine ⟨_, rfl, (((hb.setCell (p := ⟨g, 0, none⟩) hBg _).setCell (p := ⟨g, 1, none⟩) hBg _).setCell (p := ⟨g, 2, none⟩) hBg _).setCell (p := ⟨g, 3, none⟩) hBg _, by simp, ?_, ?_, ?_, ?_, fun base e size v n xs h ho => ownsRow_setCell_below (ownsRow_setCell_below (ownsRow_setCell_below (ownsRow_setCell_below ho h _) h _) h _) h _⟩
  · simp [go_sem, p0, p1, p2, p3]
  · simp [go_sem, p0, p1, p2, p3]
  · simp [go_sem, p0, p1, p2, p3]
  · simp [go_sem, p0, p1, p2, p3]
theorem far4 {w : World} {g k i : Nat} {u v0 v1 v2 v3 : Value} (h : w.cell? ⟨k, i, none⟩ = some u) (hne : g ≠ k) : ((((w.setCell ⟨g, 0, none⟩ v0).setCell ⟨g, 1, none⟩ v1).setCell ⟨g, 2, none⟩ v2).setCell ⟨g, 3, none⟩ v3).cell? ⟨k, i, none⟩ = some u := by
  rw [World.cell?_setCell_far _ _ _ _ hne, World.cell?_setCell_far _ _ _ _ hne, World.cell?_setCell_far _ _ _ _ hne, World.cell?_setCell_far _ _ _ _ hne]; exact h
theorem below4 {w0 w : World} {B g : Nat} {v0 v1 v2 v3 : Value} (hb : Below B w0 w) (hBg : B ≤ g) : Below B w0 ((((w.setCell ⟨g, 0, none⟩ v0).setCell ⟨g, 1, none⟩ v1).setCell ⟨g, 2, none⟩ v2).setCell ⟨g, 3, none⟩ v3) :=
  (((hb.setCell (p := ⟨g, 0, none⟩) hBg _).setCell (p := ⟨g, 1, none⟩) hBg _).setCell (p := ⟨g, 2, none⟩) hBg _).setCell (p := ⟨g, 3, none⟩) hBg _
/-- The result's cells as they were laid. -/
def Res (g : Nat) (w : World) : Prop := g < w.heap.size ∧ (w.cell? ⟨g, 0, none⟩ = some (.int .i64 0) ∧ w.cell? ⟨g, 1, none⟩ = some (.slice none 0 0) ∧ w.cell? ⟨g, 2, none⟩ = some (.slice none 0 0) ∧ w.cell? ⟨g, 3, none⟩ = some (.slice none 0 0)) ∧ w.frozen? ⟨g, 0, none⟩ = false ∧ w.frozen? ⟨g, 1, none⟩ = false ∧ w.frozen? ⟨g, 2, none⟩ = false ∧ w.frozen? ⟨g, 3, none⟩ = false
theorem Res.parts {g : Nat} {w : World} (h : Res g w) : g < w.heap.size ∧ (w.cell? ⟨g, 0, none⟩ = some (.int .i64 0) ∧ w.cell? ⟨g, 1, none⟩ = some (.slice none 0 0) ∧ w.cell? ⟨g, 2, none⟩ = some (.slice none 0 0) ∧ w.cell? ⟨g, 3, none⟩ = some (.slice none 0 0)) ∧ w.frozen? ⟨g, 0, none⟩ = false ∧ w.frozen? ⟨g, 1, none⟩ = false ∧ w.frozen? ⟨g, 2, none⟩ = false ∧ w.frozen? ⟨g, 3, none⟩ = false := h
theorem Res.drew {g : Nat} {w : World} (h : Res g w) : Res g w.drew := by
  unfold Res at h ⊢
  exact h
theorem Res.on {g : Nat} {w w' : World} (h : Res g w) (b : Below w.heap.size w w') : Res g w' :=
  ⟨Nat.lt_of_lt_of_le h.1 b.size, ⟨kept_cell b h.2.1.1, kept_cell b h.2.1.2.1, kept_cell b h.2.1.2.2.1, kept_cell b h.2.1.2.2.2⟩, kept_frozen b h.1 h.2.2.1, kept_frozen b h.1 h.2.2.2.1, kept_frozen b h.1 h.2.2.2.2.1, kept_frozen b h.1 h.2.2.2.2.2⟩
set_option maxRecDepth 4000 in
set_option maxHeartbeats 4000000 in
theorem decode_seal (l : List Nat) (n : Nat) (A : Option Addr) (c : Nat) (w : World) (hR : RB w w.heap.size A n l) (hnc : n ≤ c) (hn : n ≤ 10000) (hM : Mark w) (h0 : sealE l ≠ 0) :
    Calls Tryd.prog 10 #[.slice A n c] w (OutDc l w) := by
  have HSeal := Lib.hid (fun W (g : Below w.heap.size w W) => sealFault_any l n A c W (hR.on g) hnc (by omega) (hM.on g))
  have HE := Lib.hid (errT_seal h0)
  generalize sealE l = r at *
  have hne : ((r : Int) != 0) = true := by rw [bne_iff_ne]; omega
  have HR0 := Lib.hid h0
  clear hR hM h0
  go_enter Tryd.func10, Tryd.ntmps10
  go_wp2_with fail
  have hg0 : w.heap.size < (w.alloc (.cells #[.int .i64 0, .slice none 0 0, .slice none 0 0, .slice none 0 0] 26)).heap.size := by simp
  have p0 : (w.alloc (.cells #[.int .i64 0, .slice none 0 0, .slice none 0 0, .slice none 0 0] 26)).cell? ⟨w.heap.size, 0, none⟩ = some (.int .i64 0) := by simp
  have f0 : (w.alloc (.cells #[.int .i64 0, .slice none 0 0, .slice none 0 0, .slice none 0 0] 26)).frozen? ⟨w.heap.size, 0, none⟩ = false := World.frozen?_alloc_at _ _ _ _ rfl
  have p1 : (w.alloc (.cells #[.int .i64 0, .slice none 0 0, .slice none 0 0, .slice none 0 0] 26)).cell? ⟨w.heap.size, 1, none⟩ = some (.slice none 0 0) := by simp
  have f1 : (w.alloc (.cells #[.int .i64 0, .slice none 0 0, .slice none 0 0, .slice none 0 0] 26)).frozen? ⟨w.heap.size, 1, none⟩ = false := World.frozen?_alloc_at _ _ _ _ rfl
  have p2 : (w.alloc (.cells #[.int .i64 0, .slice none 0 0, .slice none 0 0, .slice none 0 0] 26)).cell? ⟨w.heap.size, 2, none⟩ = some (.slice none 0 0) := by simp
  have f2 : (w.alloc (.cells #[.int .i64 0, .slice none 0 0, .slice none 0 0, .slice none 0 0] 26)).frozen? ⟨w.heap.size, 2, none⟩ = false := World.frozen?_alloc_at _ _ _ _ rfl
  have p3 : (w.alloc (.cells #[.int .i64 0, .slice none 0 0, .slice none 0 0, .slice none 0 0] 26)).cell? ⟨w.heap.size, 3, none⟩ = some (.slice none 0 0) := by simp
  have f3 : (w.alloc (.cells #[.int .i64 0, .slice none 0 0, .slice none 0 0, .slice none 0 0] 26)).frozen? ⟨w.heap.size, 3, none⟩ = false := World.frozen?_alloc_at _ _ _ _ rfl
  have b0 := below_new w (.cells #[.int .i64 0, .slice none 0 0, .slice none 0 0, .slice none 0 0] 26)
  generalize (w.alloc (.cells #[.int .i64 0, .slice none 0 0, .slice none 0 0, .slice none 0 0] 26)) = W at *
  refine (HSeal.out _ b0).mono ?_
  rintro e w1 ⟨rfl, g1⟩
  have p0 := kept_cell g1 p0
  have f0 := kept_frozen g1 hg0 f0
  have p1 := kept_cell g1 p1
  have f1 := kept_frozen g1 hg0 f1
  have p2 := kept_cell g1 p2
  have f2 := kept_frozen g1 hg0 f2
  have p3 := kept_cell g1 p3
  have f3 := kept_frozen g1 hg0 f3
  have b1 := b0.trans (g1.mono b0.size)
  have hg0 : w.heap.size < w1.heap.size := Nat.lt_of_lt_of_le hg0 g1.size
  clear g1 b0 HSeal
  go_wp2_with fail
  obtain ⟨W9, hW9, b9, s9, c0, c1, c2, c3, _⟩ := store4 (.int .i64 0) (.slice none 0 0) (.slice none 0 0) (.slice none 0 0) b1 (Nat.le_refl _) p0 p1 p2 p3
  rw [← hW9]
  exact bodyPost_ret (v := .tuple #[.agg #[.int .i64 0, .slice none 0 0, .slice none 0 0, .slice none 0 0], .int .i64 (r : Int)]) (by simp [results, Tryd.results10, go_sem, c0, c1, c2, c3]) rfl (outDc_no HE.out HR0.out b9)

set_option maxRecDepth 4000 in
set_option maxHeartbeats 4000000 in
theorem decode_count (l : List Nat) (n : Nat) (A : Option Addr) (c : Nat) (w : World) (hR : RB w w.heap.size A n l) (hnc : n ≤ c) (hn : n ≤ 10000) (hM : Mark w) (h0 : sealE l = 0) (h1 : ¬ (cntB (l[4]?.getD 0) (l[5]?.getD 0) (l[6]?.getD 0) = true ∧ lenT (l[4]?.getD 0) (l[5]?.getD 0) (l[6]?.getD 0) = l.length)) :
    Calls Tryd.prog 10 #[.slice A n c] w (OutDc l w) := by
  have HSeal := Lib.hid (fun W (g : Below w.heap.size w W) => sealFault_any l n A c W (hR.on g) hnc (by omega) (hM.on g))
  rw [h0] at HSeal
  obtain ⟨hz1, _, _⟩ := seal_zero h0
  have hl := hR.1
  have hn11 : 11 ≤ n := by omega
  have HCo := Lib.hid (fun W (g : Below w.heap.size w W) => countsOf_any l n A c W (hR.on g) (by omega) (by omega))
  have hx4 : l[4]?.getD 0 < 256 := by rw [getD_at l 4 (by omega)]; exact hR.2.2 _ (List.getElem_mem _)
  have hx5 : l[5]?.getD 0 < 256 := by rw [getD_at l 5 (by omega)]; exact hR.2.2 _ (List.getElem_mem _)
  have hx6 : l[6]?.getD 0 < 256 := by rw [getD_at l 6 (by omega)]; exact hR.2.2 _ (List.getElem_mem _)
  have HE := Lib.hid (errT_count h0 h1)
  rw [hl] at h1
  generalize l[4]?.getD 0 = x4 at *
  generalize l[5]?.getD 0 = x5 at *
  generalize l[6]?.getD 0 = x6 at *
  have HMay := Lib.hid (mayBe_any x4 x5 x6)
  have HLen := Lib.hid (length_any x4 x5 x6 (by omega) (by omega) (by omega))
  clear hR hM h0 hz1 hl
  cases hc : cntB x4 x5 x6
  · rw [hc] at HMay
    clear h1 hc
    go_enter Tryd.func10, Tryd.ntmps10
    go_wp2_with fail
    have hg0 : w.heap.size < (w.alloc (.cells #[.int .i64 0, .slice none 0 0, .slice none 0 0, .slice none 0 0] 26)).heap.size := by simp
    have p0 : (w.alloc (.cells #[.int .i64 0, .slice none 0 0, .slice none 0 0, .slice none 0 0] 26)).cell? ⟨w.heap.size, 0, none⟩ = some (.int .i64 0) := by simp
    have f0 : (w.alloc (.cells #[.int .i64 0, .slice none 0 0, .slice none 0 0, .slice none 0 0] 26)).frozen? ⟨w.heap.size, 0, none⟩ = false := World.frozen?_alloc_at _ _ _ _ rfl
    have p1 : (w.alloc (.cells #[.int .i64 0, .slice none 0 0, .slice none 0 0, .slice none 0 0] 26)).cell? ⟨w.heap.size, 1, none⟩ = some (.slice none 0 0) := by simp
    have f1 : (w.alloc (.cells #[.int .i64 0, .slice none 0 0, .slice none 0 0, .slice none 0 0] 26)).frozen? ⟨w.heap.size, 1, none⟩ = false := World.frozen?_alloc_at _ _ _ _ rfl
    have p2 : (w.alloc (.cells #[.int .i64 0, .slice none 0 0, .slice none 0 0, .slice none 0 0] 26)).cell? ⟨w.heap.size, 2, none⟩ = some (.slice none 0 0) := by simp
    have f2 : (w.alloc (.cells #[.int .i64 0, .slice none 0 0, .slice none 0 0, .slice none 0 0] 26)).frozen? ⟨w.heap.size, 2, none⟩ = false := World.frozen?_alloc_at _ _ _ _ rfl
    have p3 : (w.alloc (.cells #[.int .i64 0, .slice none 0 0, .slice none 0 0, .slice none 0 0] 26)).cell? ⟨w.heap.size, 3, none⟩ = some (.slice none 0 0) := by simp
    have f3 : (w.alloc (.cells #[.int .i64 0, .slice none 0 0, .slice none 0 0, .slice none 0 0] 26)).frozen? ⟨w.heap.size, 3, none⟩ = false := World.frozen?_alloc_at _ _ _ _ rfl
    have b0 := below_new w (.cells #[.int .i64 0, .slice none 0 0, .slice none 0 0, .slice none 0 0] 26)
    generalize (w.alloc (.cells #[.int .i64 0, .slice none 0 0, .slice none 0 0, .slice none 0 0] 26)) = W at *
    refine (HSeal.out _ b0).mono ?_
    rintro e w1 ⟨rfl, g1⟩
    have p0 := kept_cell g1 p0
    have f0 := kept_frozen g1 hg0 f0
    have p1 := kept_cell g1 p1
    have f1 := kept_frozen g1 hg0 f1
    have p2 := kept_cell g1 p2
    have f2 := kept_frozen g1 hg0 f2
    have p3 := kept_cell g1 p3
    have f3 := kept_frozen g1 hg0 f3
    have b1 := b0.trans (g1.mono b0.size)
    have hg0 : w.heap.size < w1.heap.size := Nat.lt_of_lt_of_le hg0 g1.size
    clear g1 b0 HSeal
    go_wp2_with fail
    refine (HCo.out _ b1).mono ?_
    rintro e w2 ⟨rfl, g2⟩
    have p0 := kept_cell g2 p0
    have f0 := kept_frozen g2 hg0 f0
    have p1 := kept_cell g2 p1
    have f1 := kept_frozen g2 hg0 f1
    have p2 := kept_cell g2 p2
    have f2 := kept_frozen g2 hg0 f2
    have p3 := kept_cell g2 p3
    have f3 := kept_frozen g2 hg0 f3
    have b2 := b1.trans (g2.mono b1.size)
    have hg0 : w.heap.size < w2.heap.size := Nat.lt_of_lt_of_le hg0 g2.size
    clear g2 b1 HCo
    go_wp2_with fail
    have g3 := below_new w2 (.cells #[.int .i64 x4, .int .i64 x5, .int .i64 x6] 62)
    have s0 : (w2.alloc (.cells #[.int .i64 x4, .int .i64 x5, .int .i64 x6] 62)).cell? ⟨w2.heap.size, 0, none⟩ = some (.int .i64 x4) := by simp
    have s1 : (w2.alloc (.cells #[.int .i64 x4, .int .i64 x5, .int .i64 x6] 62)).cell? ⟨w2.heap.size, 1, none⟩ = some (.int .i64 x5) := by simp
    have s2 : (w2.alloc (.cells #[.int .i64 x4, .int .i64 x5, .int .i64 x6] 62)).cell? ⟨w2.heap.size, 2, none⟩ = some (.int .i64 x6) := by simp
    have p0 := kept_cell g3 p0
    have f0 := kept_frozen g3 hg0 f0
    have p1 := kept_cell g3 p1
    have f1 := kept_frozen g3 hg0 f1
    have p2 := kept_cell g3 p2
    have f2 := kept_frozen g3 hg0 f2
    have p3 := kept_cell g3 p3
    have f3 := kept_frozen g3 hg0 f3
    have b3 := b2.trans (g3.mono b2.size)
    have hgc : w.heap.size < w2.heap.size := hg0
    have hg0 : w.heap.size < (w2.alloc (.cells #[.int .i64 x4, .int .i64 x5, .int .i64 x6] 62)).heap.size := Nat.lt_of_lt_of_le hg0 g3.size
    clear g3 b2
    generalize w2.alloc (.cells #[.int .i64 x4, .int .i64 x5, .int .i64 x6] 62) = W3 at *
    refine (HMay.out _).mono ?_
    rintro e w4 ⟨rfl, g4⟩
    have p0 := kept_cell g4 p0
    have f0 := kept_frozen g4 hg0 f0
    have p1 := kept_cell g4 p1
    have f1 := kept_frozen g4 hg0 f1
    have p2 := kept_cell g4 p2
    have f2 := kept_frozen g4 hg0 f2
    have p3 := kept_cell g4 p3
    have f3 := kept_frozen g4 hg0 f3
    have s0 := kept_cell g4 s0
    have s1 := kept_cell g4 s1
    have s2 := kept_cell g4 s2
    have b4 := b3.trans (g4.mono b3.size)
    have hg0 : w.heap.size < w4.heap.size := Nat.lt_of_lt_of_le hg0 g4.size
    clear g4 b3 HMay
    go_wp2_with fail
    obtain ⟨W9, hW9, b9, s9, c0, c1, c2, c3, _⟩ := store4 (.int .i64 0) (.slice none 0 0) (.slice none 0 0) (.slice none 0 0) b4 (Nat.le_refl _) p0 p1 p2 p3
    rw [← hW9]
    exact bodyPost_ret (v := .tuple #[.agg #[.int .i64 0, .slice none 0 0, .slice none 0 0, .slice none 0 0], .int .i64 24]) (by simp [results, Tryd.results10, go_sem, c0, c1, c2, c3]) rfl (outDc_no HE.out (by decide) b9)
  · rw [hc] at HMay
    have hne : ((lenT x4 x5 x6 : Nat) : Int) ≠ (n : Int) := fun h => h1 ⟨hc, by omega⟩
    generalize lenT x4 x5 x6 = z at *
    have hbn : ((z : Int) != (n : Int)) = true := by rw [bne_iff_ne]; exact hne
    clear h1 hc hne
    go_enter Tryd.func10, Tryd.ntmps10
    go_wp2_with fail
    have hg0 : w.heap.size < (w.alloc (.cells #[.int .i64 0, .slice none 0 0, .slice none 0 0, .slice none 0 0] 26)).heap.size := by simp
    have p0 : (w.alloc (.cells #[.int .i64 0, .slice none 0 0, .slice none 0 0, .slice none 0 0] 26)).cell? ⟨w.heap.size, 0, none⟩ = some (.int .i64 0) := by simp
    have f0 : (w.alloc (.cells #[.int .i64 0, .slice none 0 0, .slice none 0 0, .slice none 0 0] 26)).frozen? ⟨w.heap.size, 0, none⟩ = false := World.frozen?_alloc_at _ _ _ _ rfl
    have p1 : (w.alloc (.cells #[.int .i64 0, .slice none 0 0, .slice none 0 0, .slice none 0 0] 26)).cell? ⟨w.heap.size, 1, none⟩ = some (.slice none 0 0) := by simp
    have f1 : (w.alloc (.cells #[.int .i64 0, .slice none 0 0, .slice none 0 0, .slice none 0 0] 26)).frozen? ⟨w.heap.size, 1, none⟩ = false := World.frozen?_alloc_at _ _ _ _ rfl
    have p2 : (w.alloc (.cells #[.int .i64 0, .slice none 0 0, .slice none 0 0, .slice none 0 0] 26)).cell? ⟨w.heap.size, 2, none⟩ = some (.slice none 0 0) := by simp
    have f2 : (w.alloc (.cells #[.int .i64 0, .slice none 0 0, .slice none 0 0, .slice none 0 0] 26)).frozen? ⟨w.heap.size, 2, none⟩ = false := World.frozen?_alloc_at _ _ _ _ rfl
    have p3 : (w.alloc (.cells #[.int .i64 0, .slice none 0 0, .slice none 0 0, .slice none 0 0] 26)).cell? ⟨w.heap.size, 3, none⟩ = some (.slice none 0 0) := by simp
    have f3 : (w.alloc (.cells #[.int .i64 0, .slice none 0 0, .slice none 0 0, .slice none 0 0] 26)).frozen? ⟨w.heap.size, 3, none⟩ = false := World.frozen?_alloc_at _ _ _ _ rfl
    have b0 := below_new w (.cells #[.int .i64 0, .slice none 0 0, .slice none 0 0, .slice none 0 0] 26)
    generalize (w.alloc (.cells #[.int .i64 0, .slice none 0 0, .slice none 0 0, .slice none 0 0] 26)) = W at *
    refine (HSeal.out _ b0).mono ?_
    rintro e w1 ⟨rfl, g1⟩
    have p0 := kept_cell g1 p0
    have f0 := kept_frozen g1 hg0 f0
    have p1 := kept_cell g1 p1
    have f1 := kept_frozen g1 hg0 f1
    have p2 := kept_cell g1 p2
    have f2 := kept_frozen g1 hg0 f2
    have p3 := kept_cell g1 p3
    have f3 := kept_frozen g1 hg0 f3
    have b1 := b0.trans (g1.mono b0.size)
    have hg0 : w.heap.size < w1.heap.size := Nat.lt_of_lt_of_le hg0 g1.size
    clear g1 b0 HSeal
    go_wp2_with fail
    refine (HCo.out _ b1).mono ?_
    rintro e w2 ⟨rfl, g2⟩
    have p0 := kept_cell g2 p0
    have f0 := kept_frozen g2 hg0 f0
    have p1 := kept_cell g2 p1
    have f1 := kept_frozen g2 hg0 f1
    have p2 := kept_cell g2 p2
    have f2 := kept_frozen g2 hg0 f2
    have p3 := kept_cell g2 p3
    have f3 := kept_frozen g2 hg0 f3
    have b2 := b1.trans (g2.mono b1.size)
    have hg0 : w.heap.size < w2.heap.size := Nat.lt_of_lt_of_le hg0 g2.size
    clear g2 b1 HCo
    go_wp2_with fail
    have g3 := below_new w2 (.cells #[.int .i64 x4, .int .i64 x5, .int .i64 x6] 62)
    have s0 : (w2.alloc (.cells #[.int .i64 x4, .int .i64 x5, .int .i64 x6] 62)).cell? ⟨w2.heap.size, 0, none⟩ = some (.int .i64 x4) := by simp
    have s1 : (w2.alloc (.cells #[.int .i64 x4, .int .i64 x5, .int .i64 x6] 62)).cell? ⟨w2.heap.size, 1, none⟩ = some (.int .i64 x5) := by simp
    have s2 : (w2.alloc (.cells #[.int .i64 x4, .int .i64 x5, .int .i64 x6] 62)).cell? ⟨w2.heap.size, 2, none⟩ = some (.int .i64 x6) := by simp
    have p0 := kept_cell g3 p0
    have f0 := kept_frozen g3 hg0 f0
    have p1 := kept_cell g3 p1
    have f1 := kept_frozen g3 hg0 f1
    have p2 := kept_cell g3 p2
    have f2 := kept_frozen g3 hg0 f2
    have p3 := kept_cell g3 p3
    have f3 := kept_frozen g3 hg0 f3
    have b3 := b2.trans (g3.mono b2.size)
    have hgc : w.heap.size < w2.heap.size := hg0
    have hg0 : w.heap.size < (w2.alloc (.cells #[.int .i64 x4, .int .i64 x5, .int .i64 x6] 62)).heap.size := Nat.lt_of_lt_of_le hg0 g3.size
    clear g3 b2
    generalize w2.alloc (.cells #[.int .i64 x4, .int .i64 x5, .int .i64 x6] 62) = W3 at *
    refine (HMay.out _).mono ?_
    rintro e w4 ⟨rfl, g4⟩
    have p0 := kept_cell g4 p0
    have f0 := kept_frozen g4 hg0 f0
    have p1 := kept_cell g4 p1
    have f1 := kept_frozen g4 hg0 f1
    have p2 := kept_cell g4 p2
    have f2 := kept_frozen g4 hg0 f2
    have p3 := kept_cell g4 p3
    have f3 := kept_frozen g4 hg0 f3
    have s0 := kept_cell g4 s0
    have s1 := kept_cell g4 s1
    have s2 := kept_cell g4 s2
    have b4 := b3.trans (g4.mono b3.size)
    have hg0 : w.heap.size < w4.heap.size := Nat.lt_of_lt_of_le hg0 g4.size
    clear g4 b3 HMay
    go_wp2_with fail
    refine (HLen.out _).mono ?_
    rintro e w5 ⟨rfl, g5⟩
    have p0 := kept_cell g5 p0
    have f0 := kept_frozen g5 hg0 f0
    have p1 := kept_cell g5 p1
    have f1 := kept_frozen g5 hg0 f1
    have p2 := kept_cell g5 p2
    have f2 := kept_frozen g5 hg0 f2
    have p3 := kept_cell g5 p3
    have f3 := kept_frozen g5 hg0 f3
    have s0 := kept_cell g5 s0
    have s1 := kept_cell g5 s1
    have s2 := kept_cell g5 s2
    have b5 := b4.trans (g5.mono b4.size)
    have hg0 : w.heap.size < w5.heap.size := Nat.lt_of_lt_of_le hg0 g5.size
    clear g5 b4 HLen
    go_wp2_with fail
    obtain ⟨W9, hW9, b9, s9, c0, c1, c2, c3, _⟩ := store4 (.int .i64 0) (.slice none 0 0) (.slice none 0 0) (.slice none 0 0) b5 (Nat.le_refl _) p0 p1 p2 p3
    rw [← hW9]
    exact bodyPost_ret (v := .tuple #[.agg #[.int .i64 0, .slice none 0 0, .slice none 0 0, .slice none 0 0], .int .i64 24]) (by simp [results, Tryd.results10, go_sem, c0, c1, c2, c3]) rfl (outDc_no HE.out (by decide) b9)

end Go.Proofs.YtnilejdokgagbaaDoor

/- append onto an empty slice that has no room: whatever block it names. -/
namespace Go.Proofs.YtnilejdokgagbaaDoor
open Go.RowKit Go.BigFrame
set_option linter.unusedVariables false
set_option maxRecDepth 4000
set_option linter.unusedSimpArgs false

/-- A row of the call's own, or an empty slice that may be anything. -/
def OwnZ (w : World) (base : Nat) (e : TypeId) (size : Nat) (A : Option Addr) (n c : Nat) (xs : List Value) : Prop := Shp A n c ∧ ((n = 0 ∧ xs = []) ∨ w.ownsRow base e size (.slice A n c) n xs)
theorem OwnZ.on {w w' : World} {base size n c : Nat} {e : TypeId} {A : Option Addr} {xs : List Value} (h : OwnZ w base e size A n c xs) (g : Below w.heap.size w w') : OwnZ w' base e size A n c xs := ⟨h.1, h.2.imp id fun h => own_below h g⟩
theorem OwnZ.alloc {w : World} {base size n c : Nat} {e : TypeId} {A : Option Addr} {xs : List Value} {o : Obj} (h : OwnZ w base e size A n c xs) : OwnZ (w.alloc o) base e size A n c xs := h.on (below_new _ _)
theorem OwnZ.lower {w : World} {base base' size n c : Nat} {e : TypeId} {A : Option Addr} {xs : List Value} (h : OwnZ w base e size A n c xs) (hb : base' ≤ base) : OwnZ w base' e size A n c xs := ⟨h.1, h.2.imp id fun h => own_base h hb⟩
theorem OwnZ.store {w W : World} {base g size n c : Nat} {e : TypeId} {A : Option Addr} {xs : List Value} (h : OwnZ w base e size A n c xs) (hg : g < base) (ho : ∀ (base : Nat) (e : TypeId) (size : Nat) (v : Value) (n : Nat) (xs : List Value), g < base → w.ownsRow base e size v n xs → W.ownsRow base e size v n xs) : OwnZ W base e size A n c xs := ⟨h.1, h.2.imp id fun h => ho _ _ _ _ _ _ hg h⟩
theorem OwnZ.reads {w : World} {base size n c : Nat} {e : TypeId} {A : Option Addr} {xs : List Value} (h : OwnZ w base e size A n c xs) : Reads w w.heap.size size A n xs := by
  rcases h.2 with ⟨rfl, rfl⟩ | h
  · exact ⟨by simp, fun h => by omega⟩
  · exact Reads.of_own h
theorem OwnI.lower {w : World} {base base' z c : Nat} {A : Option Addr} {H : List Hi} (h : OwnI w base A z c H) (hb : base' ≤ base) : OwnI w base' A z c H := ⟨h.len, own_base h.out hb, fun x hx => ⟨(h.inn x hx).1, own_base (h.inn x hx).2 hb⟩⟩
theorem OwnI.alloc {w : World} {base z c : Nat} {A : Option Addr} {H : List Hi} {o : Obj} (h : OwnI w base A z c H) : OwnI (w.alloc o) base A z c H := h.on (below_new _ _)
theorem src_reads {P : Program} {w : World} {B size m c : Nat} {t e : TypeId} {A : Option Addr} {news : List Value} (ht : P.underlying t = some (.slice e)) (hnil : A = none → c = 0) (hR : Reads w B size A m news) (h1 : ∀ u ∈ news, u.oneCell' = true) : Src P size t (.slice A m c) m news w := by
  cases A with
  | none =>
    obtain rfl := hnil rfl
    have hm : m = 0 := by
      rcases Nat.eq_zero_or_pos m with h | h
      · exact h
      · obtain ⟨_, _, h, _⟩ := hR.2 h; cases h
    subst hm
    have hne : news = [] := List.eq_nil_of_length_eq_zero (by have := hR.1; omega)
    subst hne
    exact Src.ofNil w ht 0
  | some ad =>
    refine Src.ofSlice w ht ad m c news hR.1 (fun j u hj => ?_) h1
    have hm : 0 < m := by
      have := (List.getElem?_eq_some_iff.1 hj).1
      rw [hR.1] at this
      rcases Nat.eq_zero_or_pos m with h | h
      · subst h; omega
      · exact h
    obtain ⟨b, o', he, _, hc⟩ := hR.2 hm
    injection he with he
    subst he
    have := hc j u hj
    by_cases h0 : j = 0
    · subst h0; simpa [Addr.add] using this
    · simpa [Addr.add, h0] using this
theorem run_append_bare {P : Program} {w : World} (t ty e : TypeId) (i : TypeInfo) (z : Value) (size bytes : Nat) (ht : P.underlying t = some (.slice e)) (hi : P.info? e = some i) (hz : i.zero = some z)
    (hsize : i.size = size) (hby : i.bytes = bytes) (hzs : z.cells.size = size) (g : Nat)
    (A : Option Addr) (m c B : Nat) (news : List Value) (hnil : A = none → c = 0) (hR : Reads w B size A m news) (h1 : ∀ u ∈ news, u.oneCell' = true)
    (h63 : m ≤ maxLen) (hbytes : m * bytes ≤ 140737488355328) :
    ∃ A' c' w', (Builtin.append_ #[t, t] ty #[.slice (some ⟨g, 0, none⟩) 0 0, .slice A m c]).run P w = .ok (.slice A' m c') w' ∧ OwnZ w' w.heap.size e size A' m c' news ∧ Below w.heap.size w w' := by
  subst hsize
  subst hby
  have hs := src_reads (size := i.size) ht hnil hR h1
  rcases Nat.eq_zero_or_pos m with hm | hm
  · subst hm
    have hne : news = [] := List.eq_nil_of_length_eq_zero (by have := hR.1; omega)
    subst hne
    have hr := run_append_room_src (P := P) w t t ty e i ht hi g 0 0 0 (.slice A 0 c) 0 [] hs (by omega) (fun j hj => by simp at hj) (fun j hj => by simp at hj)
    exact ⟨_, _, _, hr, ⟨⟨(fun h => by cases h), Nat.le_refl _, Nat.zero_le _⟩, .inl ⟨rfl, rfl⟩⟩, Below.refl _ _⟩
  · have hsmall : m ≤ 9223372036854775807 := by simp only [maxLen] at h63; omega
    have hr := run_append_grow_src (P := P) w t t ty e i z ht hi hz (some ⟨g, 0, none⟩) 0 0 [] (run_firstCells_some w.drew i.size 0 ⟨g, 0, none⟩ 0 0 [] (by simp) (fun j u hj => by simp at hj)) (.slice A m c) m news hs (by omega) (by omega) (growslice_fits (by omega) (by simpa using hbytes))
    simp only [Nat.zero_add, List.nil_append] at hr
    have hge := grownCap_ge w m 0 e
    have hcm : grownCap w m 0 e ≤ maxLen := grownCap_le_maxLen w m 0 e h63
    have hown : (w.drew.alloc (.cells (news.toArray ++ Builtin.zeroCells z.cells (grownCap w m 0 e - m)) e)).ownsRow w.heap.size e i.size (.slice (some ⟨w.heap.size, 0, none⟩) m (grownCap w m 0 e)) m news := by
      refine ⟨hR.1, .inr ⟨w.heap.size, _, _, rfl, Nat.le_refl _, heap_alloc_new w.drew _, hge, hcm, ?_, ?_⟩⟩
      · simp only [Array.size_append, List.size_toArray, size_zeroCells, hzs, hR.1, ← Nat.add_mul]
        congr 1
        omega
      · simp only [Array.toList_append]
        rw [← hR.1]
        exact List.take_left
    exact ⟨_, _, _, hr, ⟨own_shp hown, .inr hown⟩, (Below.drew (Below.refl _ _)).alloc (Nat.le_refl _) _⟩
theorem step_append_bare {P : Program} {w : World} {ops : Array Oper} {o : Oper} {a : Act} {K : Act → World → Prop} {Q : Exit → Act → World → Prop} {E : Prop} (hgd : o.guard = none) (s x : Operand) (t : TypeId)
    (ho : o.op = .call { callee := .builtin .append, args := #[s, x], argTypes := #[t, t] })
    (e : TypeId) (i : TypeInfo) (z : Value) (size bytes : Nat) (ht : P.underlying t = some (.slice e)) (hi : P.info? e = some i) (hz : i.zero = some z)
    (hsize : i.size = size) (hby : i.bytes = bytes) (hzs : z.cells.size = size) (g : Nat) (hs : a.eval s = .slice (some ⟨g, 0, none⟩) 0 0)
    (A : Option Addr) (m c B : Nat) (news : List Value) (hx : a.eval x = .slice A m c) (hnil : A = none → c = 0) (hR : Reads w B size A m news) (h1 : ∀ u ∈ news, u.oneCell' = true)
    (h63 : m ≤ maxLen) (hbytes : m * bytes ≤ 140737488355328)
    (h : ∀ A' c' w', OwnZ w' w.heap.size e size A' m c' news → Below w.heap.size w w' → K (a.put o.dst (.slice A' m c')) w') :
    if Region.wanted o (yielded ops a.tmps) = true then Oper.wp P o a w K Q else E := by
  have hw : Region.wanted o (yielded ops a.tmps) = true := by simp [Region.wanted, hgd]
  rw [if_pos hw]
  obtain ⟨A', c', w', hrun, h2, h4⟩ := run_append_bare (P := P) (w := w) t o.type e i z size bytes ht hi hz hsize hby hzs g A m c B news hnil hR h1 h63 hbytes
  unfold Oper.wp
  simp [execOp, ho, resolve, invoke, builtin, hs, hx, hrun, Result.andThen]
  exact h A' c' w' h2 h4
end Go.Proofs.YtnilejdokgagbaaDoor

/- What Decode returns of bytes whose counts may be. -/
namespace Go.Proofs.YtnilejdokgagbaaDoor
open Go.RowKit Go.BigFrame
set_option linter.unusedVariables false
set_option maxRecDepth 4000
set_option linter.unusedSimpArgs false

set_option maxRecDepth 4000 in
set_option maxHeartbeats 4000000 in
theorem decode_bits (l : List Nat) (n : Nat) (A : Option Addr) (c : Nat) (w : World) (hR : RB w w.heap.size A n l) (hnc : n ≤ c) (hn : n ≤ 10000) (hM : Mark w) (h0 : sealE l = 0) (h1 : cntB (l[4]?.getD 0) (l[5]?.getD 0) (l[6]?.getD 0) = true) (h2 : lenT (l[4]?.getD 0) (l[5]?.getD 0) (l[6]?.getD 0) = l.length) (h3 : unbR (bitsP l) (l[5]?.getD 0 : Nat) = none) :
    Calls Tryd.prog 10 #[.slice A n c] w (OutDc l w) := by
  have HE := Lib.hid (errT_bits h0 h1 h2 h3)
  have HSeal := Lib.hid (fun W (g : Below w.heap.size w W) => sealFault_any l n A c W (hR.on g) hnc (by omega) (hM.on g))
  rw [h0] at HSeal
  obtain ⟨hz1, _, _⟩ := seal_zero h0
  have hl := hR.1
  have hn11 : 11 ≤ n := by omega
  have HCo := Lib.hid (fun W (g : Below w.heap.size w W) => countsOf_any l n A c W (hR.on g) (by omega) (by omega))
  have hx4 : l[4]?.getD 0 < 256 := by rw [getD_at l 4 (by omega)]; exact hR.2.2 _ (List.getElem_mem _)
  have hx5 : l[5]?.getD 0 < 256 := by rw [getD_at l 5 (by omega)]; exact hR.2.2 _ (List.getElem_mem _)
  have hx6 : l[6]?.getD 0 < 256 := by rw [getD_at l 6 (by omega)]; exact hR.2.2 _ (List.getElem_mem _)
  rw [hl] at h2
  obtain ⟨⟨c1, c2⟩, ⟨s1', s2'⟩, ⟨k1, k2⟩⟩ := of_decide_eq_true h1
  obtain ⟨b0, o0, rfl, hb0, _⟩ := hR.all (by omega)
  generalize hX4 : l[4]?.getD 0 = x4 at *
  generalize hX5 : l[5]?.getD 0 = x5 at *
  generalize hX6 : l[6]?.getD 0 = x6 at *
  have HMay := Lib.hid (mayBe_any x4 x5 x6)
  have HLen := Lib.hid (length_any x4 x5 x6 (by omega) (by omega) (by omega))
  rw [h1] at HMay
  rw [h2] at HLen
  obtain ⟨m, hm, hmI, hmb⟩ := mul_wrap x5 x4 (by omega) (by omega)
  obtain ⟨na, hna⟩ : ∃ na, 7 + 4 * x6 = na := ⟨_, rfl⟩
  obtain ⟨ba, hba⟩ : ∃ ba, na + m = ba := ⟨_, rfl⟩
  obtain ⟨en, hen⟩ : ∃ en, n - 4 = en := ⟨_, rfl⟩
  have hz : ba + (x5 + 7) / 8 = en := by unfold lenT at h2; rw [← hm] at h2; omega
  have HBP : Hid (bitsP l = (l.take en).drop ba) := Lib.hid (by unfold bitsP; rw [hX4, hX5, hX6, hl, hen, hna, ← hm, hba])
  have hbn : ((n : Int) != (n : Int)) = false := by simp
  have e1 : (7 : Int) + (x6 : Int) * 4 = (na : Int) := by omega
  have e2 : (na : Int) + (m : Int) = (ba : Int) := by omega
  have e3 : IntKind.i64.wrap ((n : Int) - 4) = (en : Int) := by rw [IntKind.wrap_i64]; omega
  have e4 : (n : Int) - 4 = (en : Int) := by omega
  have e5 : IntKind.i64.wrap (en : Int) = (en : Int) := by rw [IntKind.wrap_i64]; omega
  have i1 : (0 : Int) ≤ (ba : Int) := by omega
  have i2 : (ba : Int) ≤ (en : Int) := by omega
  have i3 : (en : Int) ≤ (c : Int) := by omega
  have i4 : ¬ c = ba := by omega
  have i5 : (7 : Int) ≤ (na : Int) := by omega
  have i6 : (na : Int) ≤ (ba : Int) := by omega
  have i7 : (na : Int) ≤ (c : Int) := by omega
  have i8 : (ba : Int) ≤ (c : Int) := by omega
  have i9 : ¬ c = 7 := by omega
  have i10 : ¬ c = na := by omega
  have j1 : ba ≤ en := by omega
  have j2 : en ≤ c := by omega
  have j3 : ¬ ba = 0 := by omega
  have j4 : 7 ≤ na := by omega
  have j5 : na ≤ c := by omega
  have j6 : na ≤ ba := by omega
  have j7 : ba ≤ c := by omega
  have j8 : ¬ na = 0 := by omega
  rw [HBP.out] at h3
  have HUn := Lib.hid (fun W (g : Below w.heap.size w W) => unbits_any ((l.take en).drop ba) (en - ba) (some ⟨b0, o0 + ba, none⟩) (c - ba) x5 W ((hR.on g).sub (by omega) (by omega)) (by omega))
  rw [h3] at HUn
  clear hR hM h0 h1 h2 h3 hz1 hl HBP hX4 hX5 hX6 hm hna hba hen hz
  go_enter Tryd.func10, Tryd.ntmps10
  go_wp2_with fail
  have hg0 : w.heap.size < (w.alloc (.cells #[.int .i64 0, .slice none 0 0, .slice none 0 0, .slice none 0 0] 26)).heap.size := by simp
  have p0 : (w.alloc (.cells #[.int .i64 0, .slice none 0 0, .slice none 0 0, .slice none 0 0] 26)).cell? ⟨w.heap.size, 0, none⟩ = some (.int .i64 0) := by simp
  have f0 : (w.alloc (.cells #[.int .i64 0, .slice none 0 0, .slice none 0 0, .slice none 0 0] 26)).frozen? ⟨w.heap.size, 0, none⟩ = false := World.frozen?_alloc_at _ _ _ _ rfl
  have p1 : (w.alloc (.cells #[.int .i64 0, .slice none 0 0, .slice none 0 0, .slice none 0 0] 26)).cell? ⟨w.heap.size, 1, none⟩ = some (.slice none 0 0) := by simp
  have f1 : (w.alloc (.cells #[.int .i64 0, .slice none 0 0, .slice none 0 0, .slice none 0 0] 26)).frozen? ⟨w.heap.size, 1, none⟩ = false := World.frozen?_alloc_at _ _ _ _ rfl
  have p2 : (w.alloc (.cells #[.int .i64 0, .slice none 0 0, .slice none 0 0, .slice none 0 0] 26)).cell? ⟨w.heap.size, 2, none⟩ = some (.slice none 0 0) := by simp
  have f2 : (w.alloc (.cells #[.int .i64 0, .slice none 0 0, .slice none 0 0, .slice none 0 0] 26)).frozen? ⟨w.heap.size, 2, none⟩ = false := World.frozen?_alloc_at _ _ _ _ rfl
  have p3 : (w.alloc (.cells #[.int .i64 0, .slice none 0 0, .slice none 0 0, .slice none 0 0] 26)).cell? ⟨w.heap.size, 3, none⟩ = some (.slice none 0 0) := by simp
  have f3 : (w.alloc (.cells #[.int .i64 0, .slice none 0 0, .slice none 0 0, .slice none 0 0] 26)).frozen? ⟨w.heap.size, 3, none⟩ = false := World.frozen?_alloc_at _ _ _ _ rfl
  have b0 := below_new w (.cells #[.int .i64 0, .slice none 0 0, .slice none 0 0, .slice none 0 0] 26)
  generalize (w.alloc (.cells #[.int .i64 0, .slice none 0 0, .slice none 0 0, .slice none 0 0] 26)) = W at *
  refine (HSeal.out _ b0).mono ?_
  rintro e w1 ⟨rfl, g1⟩
  have p0 := kept_cell g1 p0
  have f0 := kept_frozen g1 hg0 f0
  have p1 := kept_cell g1 p1
  have f1 := kept_frozen g1 hg0 f1
  have p2 := kept_cell g1 p2
  have f2 := kept_frozen g1 hg0 f2
  have p3 := kept_cell g1 p3
  have f3 := kept_frozen g1 hg0 f3
  have b1 := b0.trans (g1.mono b0.size)
  have hg0 : w.heap.size < w1.heap.size := Nat.lt_of_lt_of_le hg0 g1.size
  clear g1 b0 HSeal
  go_wp2_with fail
  refine (HCo.out _ b1).mono ?_
  rintro e w2 ⟨rfl, g2⟩
  have p0 := kept_cell g2 p0
  have f0 := kept_frozen g2 hg0 f0
  have p1 := kept_cell g2 p1
  have f1 := kept_frozen g2 hg0 f1
  have p2 := kept_cell g2 p2
  have f2 := kept_frozen g2 hg0 f2
  have p3 := kept_cell g2 p3
  have f3 := kept_frozen g2 hg0 f3
  have b2 := b1.trans (g2.mono b1.size)
  have hg0 : w.heap.size < w2.heap.size := Nat.lt_of_lt_of_le hg0 g2.size
  clear g2 b1 HCo
  go_wp2_with fail
  have g3 := below_new w2 (.cells #[.int .i64 x4, .int .i64 x5, .int .i64 x6] 62)
  have s0 : (w2.alloc (.cells #[.int .i64 x4, .int .i64 x5, .int .i64 x6] 62)).cell? ⟨w2.heap.size, 0, none⟩ = some (.int .i64 x4) := by simp
  have s1 : (w2.alloc (.cells #[.int .i64 x4, .int .i64 x5, .int .i64 x6] 62)).cell? ⟨w2.heap.size, 1, none⟩ = some (.int .i64 x5) := by simp
  have s2 : (w2.alloc (.cells #[.int .i64 x4, .int .i64 x5, .int .i64 x6] 62)).cell? ⟨w2.heap.size, 2, none⟩ = some (.int .i64 x6) := by simp
  have p0 := kept_cell g3 p0
  have f0 := kept_frozen g3 hg0 f0
  have p1 := kept_cell g3 p1
  have f1 := kept_frozen g3 hg0 f1
  have p2 := kept_cell g3 p2
  have f2 := kept_frozen g3 hg0 f2
  have p3 := kept_cell g3 p3
  have f3 := kept_frozen g3 hg0 f3
  have b3 := b2.trans (g3.mono b2.size)
  have hgc : w.heap.size < w2.heap.size := hg0
  have hg0 : w.heap.size < (w2.alloc (.cells #[.int .i64 x4, .int .i64 x5, .int .i64 x6] 62)).heap.size := Nat.lt_of_lt_of_le hg0 g3.size
  clear g3 b2
  generalize w2.alloc (.cells #[.int .i64 x4, .int .i64 x5, .int .i64 x6] 62) = W3 at *
  refine (HMay.out _).mono ?_
  rintro e w4 ⟨rfl, g4⟩
  have p0 := kept_cell g4 p0
  have f0 := kept_frozen g4 hg0 f0
  have p1 := kept_cell g4 p1
  have f1 := kept_frozen g4 hg0 f1
  have p2 := kept_cell g4 p2
  have f2 := kept_frozen g4 hg0 f2
  have p3 := kept_cell g4 p3
  have f3 := kept_frozen g4 hg0 f3
  have s0 := kept_cell g4 s0
  have s1 := kept_cell g4 s1
  have s2 := kept_cell g4 s2
  have b4 := b3.trans (g4.mono b3.size)
  have hg0 : w.heap.size < w4.heap.size := Nat.lt_of_lt_of_le hg0 g4.size
  clear g4 b3 HMay
  go_wp2_with fail
  refine (HLen.out _).mono ?_
  rintro e w5 ⟨rfl, g5⟩
  have p0 := kept_cell g5 p0
  have f0 := kept_frozen g5 hg0 f0
  have p1 := kept_cell g5 p1
  have f1 := kept_frozen g5 hg0 f1
  have p2 := kept_cell g5 p2
  have f2 := kept_frozen g5 hg0 f2
  have p3 := kept_cell g5 p3
  have f3 := kept_frozen g5 hg0 f3
  have s0 := kept_cell g5 s0
  have s1 := kept_cell g5 s1
  have s2 := kept_cell g5 s2
  have b5 := b4.trans (g5.mono b4.size)
  have hg0 : w.heap.size < w5.heap.size := Nat.lt_of_lt_of_le hg0 g5.size
  clear g5 b4 HLen
  go_wp2_with fail
  have hun : Hid (∀ V, (V.cell? ⟨w2.heap.size, 1, none⟩ = some (.int .i64 x5) ∧ Below w5.heap.size w5 V) → Calls Tryd.prog 38 #[.slice (some ⟨b0, o0 + ba, none⟩) (en - ba) (c - ba), .int .i64 x5] V fun e w' => (∃ A9 c9, e = .returned (.tuple #[.slice A9 0 c9, .bool false])) ∧ (w'.cell? ⟨w2.heap.size, 1, none⟩ = some (.int .i64 x5) ∧ Below w5.heap.size w5 w')) := Lib.hid (fun V hV => (HUn.out V (b5.trans (hV.2.mono b5.size))).mono (fun e w' h => by
    obtain ⟨A9, c9, he, _, g9⟩ := h
    exact ⟨⟨A9, c9, he⟩, kept_cell g9 hV.1, hV.2.trans (g9.mono hV.2.size)⟩))
  clear HUn
  have bR := Below.refl w5.heap.size w5
  go_region_held3 (fun V => V.cell? ⟨w2.heap.size, 1, none⟩ = some (.int .i64 x5) ∧ Below w5.heap.size w5 V) (first | assumption | exact ⟨s1, bR⟩ | exact ⟨s1, Below.drew bR⟩ | exact ⟨by assumption, by assumption⟩) (first | (go_at_call 38; with_reducible refine Calls.mono (hun.out _ ?_) ?_; (first | assumption | exact ⟨s1, bR⟩ | exact ⟨s1, Below.drew bR⟩ | exact ⟨by assumption, by assumption⟩); rintro e w9 ⟨⟨A9, c9, rfl⟩, q9, b9⟩))
  have p0 := kept_cell b9 p0
  have f0 := kept_frozen b9 hg0 f0
  have p1 := kept_cell b9 p1
  have f1 := kept_frozen b9 hg0 f1
  have p2 := kept_cell b9 p2
  have f2 := kept_frozen b9 hg0 f2
  have p3 := kept_cell b9 p3
  have f3 := kept_frozen b9 hg0 f3
  have b9 := b5.trans (b9.mono b5.size)
  clear hun q9 bR
  go_wp2_with fail
  obtain ⟨W9, hW9, b99, s9, c0, c1, c2, c3, _⟩ := store4 (.int .i64 0) (.slice none 0 0) (.slice none 0 0) (.slice none 0 0) b9 (Nat.le_refl _) p0 p1 p2 p3
  rw [← hW9]
  exact bodyPost_ret (v := .tuple #[.agg #[.int .i64 0, .slice none 0 0, .slice none 0 0, .slice none 0 0], .int .i64 25]) (by simp [results, Tryd.results10, go_sem, c0, c1, c2, c3]) rfl (outDc_no HE.out (by decide) b99)
end Go.Proofs.YtnilejdokgagbaaDoor

/- What Decode returns of bytes that are a table's. -/
namespace Go.Proofs.YtnilejdokgagbaaDoor
open Go.RowKit Go.BigFrame
set_option linter.unusedVariables false
set_option maxRecDepth 4000
set_option linter.unusedSimpArgs false

theorem below_undrew {w w' : World} (h : Below w.drew.heap.size w.drew w') : Below w.heap.size w w' := ⟨h.os, h.tape, h.output, h.size, h.block⟩
theorem OwnI.store {w W : World} {base g z c : Nat} {A : Option Addr} {H : List Hi} (h : OwnI w base A z c H) (hg : g < base) (ho : ∀ (base : Nat) (e : TypeId) (size : Nat) (v : Value) (n : Nat) (xs : List Value), g < base → w.ownsRow base e size v n xs → W.ownsRow base e size v n xs) : OwnI W base A z c H :=
  ⟨h.len, ho _ _ _ _ _ _ hg h.out, fun x hx => ⟨(h.inn x hx).1, ho _ _ _ _ _ _ hg (h.inn x hx).2⟩⟩
set_option maxRecDepth 4000 in
set_option maxHeartbeats 4000000 in
theorem decode_ok (l : List Nat) (n : Nat) (A : Option Addr) (c : Nat) (w : World) (hR : RB w w.heap.size A n l) (hnc : n ≤ c) (hn : n ≤ 10000) (hM : Mark w) (h0 : sealE l = 0) (h1 : cntB (l[4]?.getD 0) (l[5]?.getD 0) (l[6]?.getD 0) = true) (h2 : lenT (l[4]?.getD 0) (l[5]?.getD 0) (l[6]?.getD 0) = l.length) (r : List Bool) (h3 : unbR (bitsP l) (l[5]?.getD 0 : Nat) = some r) :
    Calls Tryd.prog 10 #[.slice A n c] w (OutDc l w) := by
  obtain ⟨hE0, hDec⟩ := errT_ok h0 h1 h2 r h3
  have hrl := (bits_of_unb (b := bitsP l) (fun x hx => hR.2.2 x (List.mem_of_mem_take (List.mem_of_mem_drop hx))) h3).2
  have HSeal := Lib.hid (fun W (g : Below w.heap.size w W) => sealFault_any l n A c W (hR.on g) hnc (by omega) (hM.on g))
  rw [h0] at HSeal
  obtain ⟨hz1, _, _⟩ := seal_zero h0
  have hl := hR.1
  have hn11 : 11 ≤ n := by omega
  have HCo := Lib.hid (fun W (g : Below w.heap.size w W) => countsOf_any l n A c W (hR.on g) (by omega) (by omega))
  have hx4 : l[4]?.getD 0 < 256 := by rw [getD_at l 4 (by omega)]; exact hR.2.2 _ (List.getElem_mem _)
  have hx5 : l[5]?.getD 0 < 256 := by rw [getD_at l 5 (by omega)]; exact hR.2.2 _ (List.getElem_mem _)
  have hx6 : l[6]?.getD 0 < 256 := by rw [getD_at l 6 (by omega)]; exact hR.2.2 _ (List.getElem_mem _)
  rw [hl] at h2
  obtain ⟨⟨c1, c2⟩, ⟨s1', s2'⟩, ⟨k1, k2⟩⟩ := of_decide_eq_true h1
  obtain ⟨b0, o0, rfl, hb0, _⟩ := hR.all (by omega)
  generalize hX4 : l[4]?.getD 0 = x4 at *
  generalize hX5 : l[5]?.getD 0 = x5 at *
  generalize hX6 : l[6]?.getD 0 = x6 at *
  have HMay := Lib.hid (mayBe_any x4 x5 x6)
  have HLen := Lib.hid (length_any x4 x5 x6 (by omega) (by omega) (by omega))
  rw [h1] at HMay
  rw [h2] at HLen
  obtain ⟨m, hm, hmI, hmb⟩ := mul_wrap x5 x4 (by omega) (by omega)
  obtain ⟨na, hna⟩ : ∃ na, 7 + 4 * x6 = na := ⟨_, rfl⟩
  obtain ⟨ba, hba⟩ : ∃ ba, na + m = ba := ⟨_, rfl⟩
  obtain ⟨en, hen⟩ : ∃ en, n - 4 = en := ⟨_, rfl⟩
  have hz : ba + (x5 + 7) / 8 = en := by unfold lenT at h2; rw [← hm] at h2; omega
  have HBP : Hid (bitsP l = (l.take en).drop ba) := Lib.hid (by unfold bitsP; rw [hX4, hX5, hX6, hl, hen, hna, ← hm, hba])
  have hbn : ((n : Int) != (n : Int)) = false := by simp
  have e1 : (7 : Int) + (x6 : Int) * 4 = (na : Int) := by omega
  have e2 : (na : Int) + (m : Int) = (ba : Int) := by omega
  have e3 : IntKind.i64.wrap ((n : Int) - 4) = (en : Int) := by rw [IntKind.wrap_i64]; omega
  have e4 : (n : Int) - 4 = (en : Int) := by omega
  have e5 : IntKind.i64.wrap (en : Int) = (en : Int) := by rw [IntKind.wrap_i64]; omega
  have i1 : (0 : Int) ≤ (ba : Int) := by omega
  have i2 : (ba : Int) ≤ (en : Int) := by omega
  have i3 : (en : Int) ≤ (c : Int) := by omega
  have i4 : ¬ c = ba := by omega
  have i5 : (7 : Int) ≤ (na : Int) := by omega
  have i6 : (na : Int) ≤ (ba : Int) := by omega
  have i7 : (na : Int) ≤ (c : Int) := by omega
  have i8 : (ba : Int) ≤ (c : Int) := by omega
  have i9 : ¬ c = 7 := by omega
  have i10 : ¬ c = na := by omega
  have j1 : ba ≤ en := by omega
  have j2 : en ≤ c := by omega
  have j3 : ¬ ba = 0 := by omega
  have j4 : 7 ≤ na := by omega
  have j5 : na ≤ c := by omega
  have j6 : na ≤ ba := by omega
  have j7 : ba ≤ c := by omega
  have j8 : ¬ na = 0 := by omega
  rw [HBP.out] at h3
  have HUn := Lib.hid (fun W (g : Below w.heap.size w W) => unbits_any ((l.take en).drop ba) (en - ba) (some ⟨b0, o0 + ba, none⟩) (c - ba) x5 W ((hR.on g).sub (by omega) (by omega)) (by omega))
  rw [h3] at HUn
  have HBd := Lib.hid (fun W (g : Below w.heap.size w W) => bandsOf_any ((l.take na).drop 7) (na - 7) x6 (some ⟨b0, o0 + 7, none⟩) (c - 7) W ((hR.on g).sub (by omega) (by omega)) (by omega) (by omega) (by omega))
  have HRw := Lib.hid (fun W (g : Below w.heap.size w W) => rowsOf_any ((l.take ba).drop na) (ba - na) x4 x5 (some ⟨b0, o0 + na, none⟩) (c - na) W ((hR.on g).sub (by omega) (by omega)) (by rw [Nat.mul_comm, ← hm]; omega) c1 c2 (by omega) (by omega))
  have hL1 : (List.range x6).map (fun i => bandOf (chunk 4 ((l.take na).drop 7) i)) = (List.range x6).map fun i => bandOf (chunk 4 (l.drop 7) i) := by rw [← hna]; exact bands_part l x6
  have hL2 : (List.range x5).map (fun i => (chunk x4 ((l.take ba).drop na) i).map Int.ofNat) = (List.range x5).map fun i => (chunk x4 (l.drop na) i).map Int.ofNat := by rw [← hba, hm]; exact rows_part l na x4 x5
  have HTab : Hid (decR l = { cl := (x4 : Int), bd := (List.range x6).map (fun i => bandOf (chunk 4 (l.drop 7) i)), nx := (List.range x5).map (fun i => (chunk x4 (l.drop na) i).map Int.ofNat), br := r }) := Lib.hid (by
    rw [hDec]
    unfold tabOf
    rw [hX4, hX5, hX6, hna])
  rw [hL1] at HBd
  rw [hL2] at HRw
  have HE0 := Lib.hid hE0
  generalize (List.range x6).map (fun i => bandOf (chunk 4 (l.drop 7) i)) = L1 at *
  generalize (List.range x5).map (fun i => (chunk x4 (l.drop na) i).map Int.ofNat) = L2 at *
  have HRL := Lib.hid hrl
  clear hR hM h0 h1 h2 h3 hz1 hl HBP hX4 hX5 hX6 hm hna hba hen hz hE0 hDec hL1 hL2 hrl
  go_enter Tryd.func10, Tryd.ntmps10
  go_wp2_with fail
  have hg0 : w.heap.size < (w.alloc (.cells #[.int .i64 0, .slice none 0 0, .slice none 0 0, .slice none 0 0] 26)).heap.size := by simp
  have p0 : (w.alloc (.cells #[.int .i64 0, .slice none 0 0, .slice none 0 0, .slice none 0 0] 26)).cell? ⟨w.heap.size, 0, none⟩ = some (.int .i64 0) := by simp
  have f0 : (w.alloc (.cells #[.int .i64 0, .slice none 0 0, .slice none 0 0, .slice none 0 0] 26)).frozen? ⟨w.heap.size, 0, none⟩ = false := World.frozen?_alloc_at _ _ _ _ rfl
  have p1 : (w.alloc (.cells #[.int .i64 0, .slice none 0 0, .slice none 0 0, .slice none 0 0] 26)).cell? ⟨w.heap.size, 1, none⟩ = some (.slice none 0 0) := by simp
  have f1 : (w.alloc (.cells #[.int .i64 0, .slice none 0 0, .slice none 0 0, .slice none 0 0] 26)).frozen? ⟨w.heap.size, 1, none⟩ = false := World.frozen?_alloc_at _ _ _ _ rfl
  have p2 : (w.alloc (.cells #[.int .i64 0, .slice none 0 0, .slice none 0 0, .slice none 0 0] 26)).cell? ⟨w.heap.size, 2, none⟩ = some (.slice none 0 0) := by simp
  have f2 : (w.alloc (.cells #[.int .i64 0, .slice none 0 0, .slice none 0 0, .slice none 0 0] 26)).frozen? ⟨w.heap.size, 2, none⟩ = false := World.frozen?_alloc_at _ _ _ _ rfl
  have p3 : (w.alloc (.cells #[.int .i64 0, .slice none 0 0, .slice none 0 0, .slice none 0 0] 26)).cell? ⟨w.heap.size, 3, none⟩ = some (.slice none 0 0) := by simp
  have f3 : (w.alloc (.cells #[.int .i64 0, .slice none 0 0, .slice none 0 0, .slice none 0 0] 26)).frozen? ⟨w.heap.size, 3, none⟩ = false := World.frozen?_alloc_at _ _ _ _ rfl
  have b0 := below_new w (.cells #[.int .i64 0, .slice none 0 0, .slice none 0 0, .slice none 0 0] 26)
  generalize (w.alloc (.cells #[.int .i64 0, .slice none 0 0, .slice none 0 0, .slice none 0 0] 26)) = W at *
  refine (HSeal.out _ b0).mono ?_
  rintro e w1 ⟨rfl, g1⟩
  have p0 := kept_cell g1 p0
  have f0 := kept_frozen g1 hg0 f0
  have p1 := kept_cell g1 p1
  have f1 := kept_frozen g1 hg0 f1
  have p2 := kept_cell g1 p2
  have f2 := kept_frozen g1 hg0 f2
  have p3 := kept_cell g1 p3
  have f3 := kept_frozen g1 hg0 f3
  have b1 := b0.trans (g1.mono b0.size)
  have hg0 : w.heap.size < w1.heap.size := Nat.lt_of_lt_of_le hg0 g1.size
  clear g1 b0 HSeal
  go_wp2_with fail
  refine (HCo.out _ b1).mono ?_
  rintro e w2 ⟨rfl, g2⟩
  have p0 := kept_cell g2 p0
  have f0 := kept_frozen g2 hg0 f0
  have p1 := kept_cell g2 p1
  have f1 := kept_frozen g2 hg0 f1
  have p2 := kept_cell g2 p2
  have f2 := kept_frozen g2 hg0 f2
  have p3 := kept_cell g2 p3
  have f3 := kept_frozen g2 hg0 f3
  have b2 := b1.trans (g2.mono b1.size)
  have hg0 : w.heap.size < w2.heap.size := Nat.lt_of_lt_of_le hg0 g2.size
  clear g2 b1 HCo
  go_wp2_with fail
  have g3 := below_new w2 (.cells #[.int .i64 x4, .int .i64 x5, .int .i64 x6] 62)
  have s0 : (w2.alloc (.cells #[.int .i64 x4, .int .i64 x5, .int .i64 x6] 62)).cell? ⟨w2.heap.size, 0, none⟩ = some (.int .i64 x4) := by simp
  have s1 : (w2.alloc (.cells #[.int .i64 x4, .int .i64 x5, .int .i64 x6] 62)).cell? ⟨w2.heap.size, 1, none⟩ = some (.int .i64 x5) := by simp
  have s2 : (w2.alloc (.cells #[.int .i64 x4, .int .i64 x5, .int .i64 x6] 62)).cell? ⟨w2.heap.size, 2, none⟩ = some (.int .i64 x6) := by simp
  have p0 := kept_cell g3 p0
  have f0 := kept_frozen g3 hg0 f0
  have p1 := kept_cell g3 p1
  have f1 := kept_frozen g3 hg0 f1
  have p2 := kept_cell g3 p2
  have f2 := kept_frozen g3 hg0 f2
  have p3 := kept_cell g3 p3
  have f3 := kept_frozen g3 hg0 f3
  have b3 := b2.trans (g3.mono b2.size)
  have hgc : w.heap.size < w2.heap.size := hg0
  have hg0 : w.heap.size < (w2.alloc (.cells #[.int .i64 x4, .int .i64 x5, .int .i64 x6] 62)).heap.size := Nat.lt_of_lt_of_le hg0 g3.size
  clear g3 b2
  generalize w2.alloc (.cells #[.int .i64 x4, .int .i64 x5, .int .i64 x6] 62) = W3 at *
  refine (HMay.out _).mono ?_
  rintro e w4 ⟨rfl, g4⟩
  have p0 := kept_cell g4 p0
  have f0 := kept_frozen g4 hg0 f0
  have p1 := kept_cell g4 p1
  have f1 := kept_frozen g4 hg0 f1
  have p2 := kept_cell g4 p2
  have f2 := kept_frozen g4 hg0 f2
  have p3 := kept_cell g4 p3
  have f3 := kept_frozen g4 hg0 f3
  have s0 := kept_cell g4 s0
  have s1 := kept_cell g4 s1
  have s2 := kept_cell g4 s2
  have b4 := b3.trans (g4.mono b3.size)
  have hg0 : w.heap.size < w4.heap.size := Nat.lt_of_lt_of_le hg0 g4.size
  clear g4 b3 HMay
  go_wp2_with fail
  refine (HLen.out _).mono ?_
  rintro e w5 ⟨rfl, g5⟩
  have p0 := kept_cell g5 p0
  have f0 := kept_frozen g5 hg0 f0
  have p1 := kept_cell g5 p1
  have f1 := kept_frozen g5 hg0 f1
  have p2 := kept_cell g5 p2
  have f2 := kept_frozen g5 hg0 f2
  have p3 := kept_cell g5 p3
  have f3 := kept_frozen g5 hg0 f3
  have s0 := kept_cell g5 s0
  have s1 := kept_cell g5 s1
  have s2 := kept_cell g5 s2
  have b5 := b4.trans (g5.mono b4.size)
  have hg0 : w.heap.size < w5.heap.size := Nat.lt_of_lt_of_le hg0 g5.size
  clear g5 b4 HLen
  go_wp2_with fail
  have hun : Hid (∀ V, (V.cell? ⟨w2.heap.size, 1, none⟩ = some (.int .i64 x5) ∧ Below w5.heap.size w5 V) → Calls Tryd.prog 38 #[.slice (some ⟨b0, o0 + ba, none⟩) (en - ba) (c - ba), .int .i64 x5] V fun e w' => (∃ A9 c9, e = .returned (.tuple #[.slice A9 x5 c9, .bool true]) ∧ w'.ownsRow w5.heap.size 4 1 (.slice A9 x5 c9) x5 (bcells r)) ∧ (w'.cell? ⟨w2.heap.size, 1, none⟩ = some (.int .i64 x5) ∧ Below w5.heap.size w5 w')) := Lib.hid (fun V hV => (HUn.out V (b5.trans (hV.2.mono b5.size))).mono (fun e w' h => by
    obtain ⟨A9, c9, he, ho, g9⟩ := h
    have e9 : ((some r).getD []).length = x5 := HRL.out
    rw [e9] at he ho
    exact ⟨⟨A9, c9, he, own_base ho hV.2.size⟩, kept_cell g9 hV.1, hV.2.trans (g9.mono hV.2.size)⟩))
  clear HUn
  have bR := Below.refl w5.heap.size w5
  go_region_held3 (fun V => V.cell? ⟨w2.heap.size, 1, none⟩ = some (.int .i64 x5) ∧ Below w5.heap.size w5 V) (first | assumption | exact ⟨s1, bR⟩ | exact ⟨s1, Below.drew bR⟩ | exact ⟨by assumption, by assumption⟩) (first | (go_at_call 38; with_reducible refine Calls.mono (hun.out _ ?_) ?_; (first | assumption | exact ⟨s1, bR⟩ | exact ⟨s1, Below.drew bR⟩ | exact ⟨by assumption, by assumption⟩); rintro e w9 ⟨⟨A9, c9, rfl, o9⟩, q9, b9⟩))
  have p0 := kept_cell b9 p0
  have f0 := kept_frozen b9 hg0 f0
  have p1 := kept_cell b9 p1
  have f1 := kept_frozen b9 hg0 f1
  have p2 := kept_cell b9 p2
  have f2 := kept_frozen b9 hg0 f2
  have p3 := kept_cell b9 p3
  have f3 := kept_frozen b9 hg0 f3
  have s0 := kept_cell b9 s0
  have hres : Res w.heap.size w9 := ⟨Nat.lt_of_lt_of_le hg0 b9.size, ⟨p0, p1, p2, p3⟩, f0, f1, f2, f3⟩
  have hs9 := b9.size
  have b9 := b5.trans (b9.mono b5.size)
  have HO9 := Lib.hid o9
  have hne : w.heap.size ≠ w2.heap.size := by omega
  clear hun q9 bR o9 p0 p1 p2 p3 f0 f1 f2 f3 s1 s2 b5
  have hB : Hid (∀ V, (V.cell? ⟨w2.heap.size, 0, none⟩ = some (.int .i64 x4) ∧ Below w.heap.size w V) → Calls Tryd.prog 39 #[.slice (some ⟨b0, o0 + 7, none⟩) (na - 7) (c - 7)] V fun e w' => (∃ A1 c1, e = .returned (.slice A1 x6 c1) ∧ w'.ownsRow V.heap.size 50 2 (.slice A1 x6 c1) x6 (rcells L1)) ∧ Below V.heap.size V w' ∧ (w'.cell? ⟨w2.heap.size, 0, none⟩ = some (.int .i64 x4) ∧ Below w.heap.size w w')) := Lib.hid (fun V hV => (HBd.out V hV.2).mono (fun e w' h => by
    obtain ⟨A1, c1, he, ho, g⟩ := h
    exact ⟨⟨A1, c1, he, ho⟩, g, kept_cell g hV.1, hV.2.trans (g.mono hV.2.size)⟩))
  have hN : Hid (∀ V, (V.cell? ⟨w2.heap.size, 0, none⟩ = some (.int .i64 x4) ∧ Below w.heap.size w V) → Calls Tryd.prog 40 #[.slice (some ⟨b0, o0 + na, none⟩) (ba - na) (c - na), .int .i64 x4] V fun e w' => (∃ A1 c1 H, e = .returned (.slice A1 x5 c1) ∧ listsOf H = L2 ∧ OwnI w' V.heap.size A1 x5 c1 H) ∧ Below V.heap.size V w' ∧ (w'.cell? ⟨w2.heap.size, 0, none⟩ = some (.int .i64 x4) ∧ Below w.heap.size w w')) := Lib.hid (fun V hV => (HRw.out V hV.2).mono (fun e w' h => by
    obtain ⟨A1, c1, H, he, hl, ho, g⟩ := h
    exact ⟨⟨A1, c1, H, he, hl, ho⟩, g, kept_cell g hV.1, hV.2.trans (g.mono hV.2.size)⟩))
  clear HBd HRw
  have s0d : w9.drew.cell? ⟨w2.heap.size, 0, none⟩ = some (.int .i64 x4) := s0
  have b9d := Below.drew b9
  go_wp2_with fail
  go_region_held3 (fun V => V.cell? ⟨w2.heap.size, 0, none⟩ = some (.int .i64 x4) ∧ Below w.heap.size w V) (with_reducible (first | assumption | exact ⟨s0d, b9d⟩ | exact ⟨by assumption, by assumption⟩ | exact ⟨far4 (by assumption) hne, below4 (by assumption) (Nat.le_refl _)⟩ | exact ⟨s0, b9⟩)) (first | (go_at_call 39; with_reducible refine Calls.mono (hB.out _ ?_) ?_; (with_reducible (first | assumption | exact ⟨s0d, b9d⟩ | exact ⟨by assumption, by assumption⟩ | exact ⟨far4 (by assumption) hne, below4 (by assumption) (Nat.le_refl _)⟩ | exact ⟨s0, b9⟩)); rintro e V1 ⟨⟨A1, c1, rfl, o1⟩, g1, q1, b1⟩; have hres1 : Res w.heap.size V1 := hres.drew.on g1) | (go_at_call 40; with_reducible refine Calls.mono (hN.out _ ?_) ?_; (with_reducible (first | assumption | exact ⟨s0d, b9d⟩ | exact ⟨by assumption, by assumption⟩ | exact ⟨far4 (by assumption) hne, below4 (by assumption) (Nat.le_refl _)⟩ | exact ⟨s0, b9⟩)); rintro e V2 ⟨⟨A2, c2, H, rfl, hl2, o2⟩, g2, q2, b2⟩; obtain ⟨hg2, ⟨p0, p1, p2, p3⟩, f0, f1, f2, f3⟩ := (hres1.on g2).parts))
  go_wp2_with fail
  obtain ⟨W9, hW9, b99, z9, c0', c1', c2', c3', ho9⟩ := store4 (.int .i64 x4) (.slice A1 x6 c1) (.slice A2 x5 c2) (.slice A9 x5 c9) b2 (Nat.le_refl _) p0 p1 p2 p3
  rw [← hW9]
  have hz0 : w.heap.size < w9.heap.size := hres.1
  have hz1 : w.heap.size < V1.heap.size := hres1.1
  have k9 := ho9 _ _ _ _ _ _ (by omega) (own_below (own_below HO9.out (show Below w9.heap.size w9 V1 from below_undrew g1)) g2)
  have k1 := ho9 _ _ _ _ _ _ (show w.heap.size < w9.drew.heap.size from hz0) (own_below o1 g2)
  have k2 := (o2.store hz1 ho9).nest
  refine bodyPost_ret (v := .tuple #[TV.v ⟨x4, A1, x6, c1, L1, A2, x5, c2, H, A9, x5, c9, r⟩, .int .i64 0]) (by simp [results, Tryd.results10, go_sem, c0', c1', c2', c3', TV.v]) rfl ⟨⟨x4, A1, x6, c1, L1, A2, x5, c2, H, A9, x5, c9, r⟩, by rw [HE0.out]; rfl, ⟨own_RD k1, own_shp k1, k2.1, k2.2, own_RL k9, own_shp k9⟩, ?_, b99⟩
  rw [HTab.out]
  unfold TV.tb
  simp only []
  rw [hl2]
theorem decode_any (l : List Nat) (n : Nat) (A : Option Addr) (c : Nat) (w : World) (hR : RB w w.heap.size A n l) (hs : Shp A n c) (hn : n ≤ 10000) (hM : Mark w) :
    Calls Tryd.prog 10 #[.slice A n c] w (OutDc l w) := by
  by_cases h0 : sealE l = 0
  · by_cases h1 : cntB (l[4]?.getD 0) (l[5]?.getD 0) (l[6]?.getD 0) = true ∧ lenT (l[4]?.getD 0) (l[5]?.getD 0) (l[6]?.getD 0) = l.length
    · cases h3 : unbR (bitsP l) (l[5]?.getD 0 : Nat) with
      | none => exact decode_bits l n A c w hR hs.2.1 hn hM h0 h1.1 h1.2 h3
      | some r => exact decode_ok l n A c w hR hs.2.1 hn hM h0 h1.1 h1.2 r h3
    · exact decode_count l n A c w hR hs.2.1 hn hM h0 h1
  · exact decode_seal l n A c w hR hs.2.1 hn hM h0
end Go.Proofs.YtnilejdokgagbaaDoor

