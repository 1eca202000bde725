/- What appendScalar, Text and Bytes return. -/
import Derived.Test.YtbnconieedgcmaaDoorUPieces
import Derived.Deep.RegionLaw
namespace Go.Proofs.YtbnconieedgcmaaDoor.U
open Go.RowKit
set_option linter.unusedVariables false
set_option linter.unusedSimpArgs false

/-- A byte's cell; a row's. -/
def bcells (l : List UInt8) : List Value := l.map fun b => .int .u8 (nb b)
theorem bcells_len (l : List UInt8) : (bcells l).length = l.length := by simp [bcells]
theorem bcells_append (a b : List UInt8) : bcells (a ++ b) = bcells a ++ bcells b := by simp [bcells]

/-- What appendScalar leaves. -/
def OutApp (base n : Nat) (xs : List Value) (bs : List UInt8) (w : World) (e : Ending) (w' : World) : Prop :=
  ∃ A c, e = .returned (.slice A (n + bs.length) c) ∧ w'.ownsRow base 5 1 (.slice A (n + bs.length) c) (n + bs.length) (xs ++ bcells bs) ∧ Below base w w'

theorem one_cell (b : Nat) (u : Value) (W : World) (h : W.cell? ⟨b, 0, none⟩ = some u) : ∀ (j : Nat) (t : Value), [u][j]? = some t → W.cell? ((⟨b, 0, none⟩ : Addr).add j) = some t := by
  intro j t hj
  match j, hj with
  | 0, hj => simp at hj; subst hj; simpa [Addr.add] using h
theorem one_oneCell (k : IntKind) (n : Int) : ∀ u ∈ [Value.int k n], u.oneCell' = true := by
  intro u hu; simp at hu; subst hu; rfl
theorem wrap_u8_in (n : Int) (h0 : 0 ≤ n) (h1 : n < 256) : IntKind.u8.wrap n = n := by rw [IntKind.wrap_u8']; omega

set_option maxHeartbeats 2000000 in
theorem app1 (x : Int) (A : Option Addr) (c n base : Nat) (xs : List Value) (w : World) (h0 : 0 ≤ x) (h1 : x ≤ 127) (hT : Tab w) (hown : w.ownsRow base 5 1 (.slice A n c) n xs) (hbase : base ≤ w.heap.size) (hn : n ≤ 1048576) :
    Calls Tryd.prog 113 #[.slice A n c, .int .i64 x] w (OutApp base n xs [ub (x)] w) := by
  obtain ⟨i0, hi0, hz0, hz1, hz2⟩ := info_parts info5
  have hl := leadFor_any x w hT (by omega)
  rw [show leadForV x = .agg #[.int .u8 0, .int .u8 7, .int .i64 1, .int .i64 0] by unfold leadForV; rw [if_pos (by omega)]] at hl
  have HL := Lib.hid hl
  have x1 : bits .or .u8 (IntKind.u8.wrap 0) (IntKind.u8.wrap (x)) = x := by
    rw [wrap_u8_in _ (by omega) (by omega), wrap_u8_in _ (by omega) (by omega)]; exact or0 (x) (by omega) (by omega)
  clear hl hT
  go_enter Tryd.func113, Tryd.ntmps113
  go_wp2_with fail
  refine HL.out.mono ?_
  rintro e w1 ⟨rfl, hw1⟩
  have hz : w.heap.size ≤ w1.heap.size := hw1.size
  have hown1 := own_below hown hw1
  have b1 : Below base w w1 := hw1.mono hbase
  clear hw1 hown HL
  go_wp2_with fail
  go_region_law (refine step_append_lies _ rfl (.tmp 13) (.tmp 24) 27 rfl base 5 i0 _ 1 1 Tryd.underlying27 hi0 hz0 hz1 hz2 rfl (by decide) (.slice A n c) n xs (by simp [Act.eval, Act.put]) (by exact ((hown1.alloc _).alloc _)) ⟨w1.heap.size + 1, 0, none⟩ 1 1 [.int .u8 (x)] (by simp [Act.eval, Act.put]) rfl (fun j u hj => one_cell _ _ _ (by simp [x1]) j u hj) (one_oneCell _ _) (by omega) (by unfold maxLen; omega) (by omega) (by simp; omega) _ rfl ?_; intro g cap w2 hown2 hgrow hat hlt2)
  all_goals
    have b2 : Below base w w2 := below_grown (w := (w1.alloc _).alloc _) ((b1.alloc (by omega) _).alloc (by simp; omega) _) (by simp; omega) ((hown1.alloc _).alloc _) ⟨hgrow.os, hgrow.tape, hgrow.output, hgrow.size, hgrow.block⟩
    have hs2 := b2.size
    clear hgrow hat hown1
    go_wp2_with fail
    refine wp_loop_rounds 1 ?_
    rw [rounds_succ]
    go_wp2_with fail
    go_ret
    refine ⟨some ⟨g, 0, none⟩, _, rfl, ?_, b2⟩
    have e : bcells [ub (x)] = [.int .u8 (x)] := by
      simp only [bcells, List.map_cons, List.map_nil]
      rw [nb_ub _ (by omega) (by omega)]
    rw [e]
    simpa using hown2

set_option maxHeartbeats 2000000 in
theorem app2 (x : Int) (A : Option Addr) (c n base : Nat) (xs : List Value) (w : World) (h0 : 128 ≤ x) (h1 : x ≤ 2047) (hT : Tab w) (hown : w.ownsRow base 5 1 (.slice A n c) n xs) (hbase : base ≤ w.heap.size) (hn : n ≤ 1048576) :
    Calls Tryd.prog 113 #[.slice A n c, .int .i64 x] w (OutApp base n xs [ub (192 + x / 64), ub (128 + x % 64)] w) := by
  obtain ⟨i0, hi0, hz0, hz1, hz2⟩ := info_parts info5
  have hl := leadFor_any x w hT (by omega)
  rw [show leadForV x = .agg #[.int .u8 6, .int .u8 5, .int .i64 2, .int .i64 128] by unfold leadForV; rw [if_neg (by omega), if_pos (by omega)]] at hl
  have HL := Lib.hid hl
  have x1 : bits .or .u8 (IntKind.u8.wrap 192) (IntKind.u8.wrap (x / 64)) = 192 + x / 64 := by
    rw [wrap_u8_in _ (by omega) (by omega), wrap_u8_in _ (by omega) (by omega)]; exact or192 (x / 64) (by omega) (by omega)
  have y0 := andI63 (x) (by omega) (by omega)
  have z0 := or128 (x % 64) (by omega) (by omega)
  clear hl hT
  go_enter Tryd.func113, Tryd.ntmps113
  go_wp2_with fail
  refine HL.out.mono ?_
  rintro e w1 ⟨rfl, hw1⟩
  have hz : w.heap.size ≤ w1.heap.size := hw1.size
  have hown1 := own_below hown hw1
  have b1 : Below base w w1 := hw1.mono hbase
  clear hw1 hown HL
  go_wp2_with fail
  go_region_law (refine step_append_lies _ rfl (.tmp 13) (.tmp 24) 27 rfl base 5 i0 _ 1 1 Tryd.underlying27 hi0 hz0 hz1 hz2 rfl (by decide) (.slice A n c) n xs (by simp [Act.eval, Act.put]) (by exact ((hown1.alloc _).alloc _)) ⟨w1.heap.size + 1, 0, none⟩ 1 1 [.int .u8 (192 + x / 64)] (by simp [Act.eval, Act.put]) rfl (fun j u hj => one_cell _ _ _ (by simp [x1]) j u hj) (one_oneCell _ _) (by omega) (by unfold maxLen; omega) (by omega) (by simp; omega) _ rfl ?_; intro g cap w2 hown2 hgrow hat hlt2)
  all_goals
    have b2 : Below base w w2 := below_grown (w := (w1.alloc _).alloc _) ((b1.alloc (by omega) _).alloc (by simp; omega) _) (by simp; omega) ((hown1.alloc _).alloc _) ⟨hgrow.os, hgrow.tape, hgrow.output, hgrow.size, hgrow.block⟩
    have hs2 := b2.size
    clear hgrow hat hown1
    go_wp2_with fail
    refine wp_loop_rounds 2 ?_
    rw [rounds_succ]
    go_wp2_with (at_builtin; refine wpList_append_lies _ rfl _ _ 27 rfl base 5 i0 _ 1 1 Tryd.underlying27 hi0 hz0 hz1 hz2 rfl (by decide) _ _ _ rfl (hown2.alloc _) ⟨w2.heap.size, 0, none⟩ 1 1 [.int .u8 (128 + x % 64)] rfl rfl (fun j u hj => one_cell _ _ _ (by simp) j u hj) (one_oneCell _ _) (by omega) (by unfold maxLen; omega) (by omega) (by simp; omega) _ rfl ?_; intro g3 cap3 w3 hown3 hgrow3 hat3 hlt3; have b3 : Below base w w3 := below_grown (b2.alloc (by omega) _) (by simp; omega) (hown2.alloc _) hgrow3; have hs3 := b3.size; clear hgrow3 hat3 hown2)
    rw [rounds_succ]
    go_wp2_with fail
    go_ret
    refine ⟨some ⟨g3, 0, none⟩, _, rfl, ?_, b3⟩
    have e : bcells [ub (192 + x / 64), ub (128 + x % 64)] = [.int .u8 (192 + x / 64), .int .u8 (128 + x % 64)] := by
      simp only [bcells, List.map_cons, List.map_nil]
      rw [nb_ub _ (by omega) (by omega), nb_ub _ (by omega) (by omega)]
    rw [e]
    simpa using hown3

set_option maxHeartbeats 2000000 in
theorem app3 (x : Int) (A : Option Addr) (c n base : Nat) (xs : List Value) (w : World) (h0 : 2048 ≤ x) (h1 : x ≤ 65535) (hT : Tab w) (hown : w.ownsRow base 5 1 (.slice A n c) n xs) (hbase : base ≤ w.heap.size) (hn : n ≤ 1048576) :
    Calls Tryd.prog 113 #[.slice A n c, .int .i64 x] w (OutApp base n xs [ub (224 + x / 4096), ub (128 + x / 64 % 64), ub (128 + x % 64)] w) := by
  obtain ⟨i0, hi0, hz0, hz1, hz2⟩ := info_parts info5
  have hl := leadFor_any x w hT (by omega)
  rw [show leadForV x = .agg #[.int .u8 14, .int .u8 4, .int .i64 3, .int .i64 2048] by unfold leadForV; rw [if_neg (by omega), if_neg (by omega), if_pos (by omega)]] at hl
  have HL := Lib.hid hl
  have x1 : bits .or .u8 (IntKind.u8.wrap 224) (IntKind.u8.wrap (x / 4096)) = 224 + x / 4096 := by
    rw [wrap_u8_in _ (by omega) (by omega), wrap_u8_in _ (by omega) (by omega)]; exact or224 (x / 4096) (by omega) (by omega)
  have y0 := andI63 (x / 64) (by omega) (by omega)
  have z0 := or128 (x / 64 % 64) (by omega) (by omega)
  have y1 := andI63 (x) (by omega) (by omega)
  have z1 := or128 (x % 64) (by omega) (by omega)
  clear hl hT
  go_enter Tryd.func113, Tryd.ntmps113
  go_wp2_with fail
  refine HL.out.mono ?_
  rintro e w1 ⟨rfl, hw1⟩
  have hz : w.heap.size ≤ w1.heap.size := hw1.size
  have hown1 := own_below hown hw1
  have b1 : Below base w w1 := hw1.mono hbase
  clear hw1 hown HL
  go_wp2_with fail
  go_region_law (refine step_append_lies _ rfl (.tmp 13) (.tmp 24) 27 rfl base 5 i0 _ 1 1 Tryd.underlying27 hi0 hz0 hz1 hz2 rfl (by decide) (.slice A n c) n xs (by simp [Act.eval, Act.put]) (by exact ((hown1.alloc _).alloc _)) ⟨w1.heap.size + 1, 0, none⟩ 1 1 [.int .u8 (224 + x / 4096)] (by simp [Act.eval, Act.put]) rfl (fun j u hj => one_cell _ _ _ (by simp [x1]) j u hj) (one_oneCell _ _) (by omega) (by unfold maxLen; omega) (by omega) (by simp; omega) _ rfl ?_; intro g cap w2 hown2 hgrow hat hlt2)
  all_goals
    have b2 : Below base w w2 := below_grown (w := (w1.alloc _).alloc _) ((b1.alloc (by omega) _).alloc (by simp; omega) _) (by simp; omega) ((hown1.alloc _).alloc _) ⟨hgrow.os, hgrow.tape, hgrow.output, hgrow.size, hgrow.block⟩
    have hs2 := b2.size
    clear hgrow hat hown1
    go_wp2_with fail
    refine wp_loop_rounds 3 ?_
    rw [rounds_succ]
    go_wp2_with (at_builtin; refine wpList_append_lies _ rfl _ _ 27 rfl base 5 i0 _ 1 1 Tryd.underlying27 hi0 hz0 hz1 hz2 rfl (by decide) _ _ _ rfl (hown2.alloc _) ⟨w2.heap.size, 0, none⟩ 1 1 [.int .u8 (128 + x / 64 % 64)] rfl rfl (fun j u hj => one_cell _ _ _ (by simp) j u hj) (one_oneCell _ _) (by omega) (by unfold maxLen; omega) (by omega) (by simp; omega) _ rfl ?_; intro g3 cap3 w3 hown3 hgrow3 hat3 hlt3; have b3 : Below base w w3 := below_grown (b2.alloc (by omega) _) (by simp; omega) (hown2.alloc _) hgrow3; have hs3 := b3.size; clear hgrow3 hat3 hown2)
    rw [rounds_succ]
    go_wp2_with (at_builtin; refine wpList_append_lies _ rfl _ _ 27 rfl base 5 i0 _ 1 1 Tryd.underlying27 hi0 hz0 hz1 hz2 rfl (by decide) _ _ _ rfl (hown3.alloc _) ⟨w3.heap.size, 0, none⟩ 1 1 [.int .u8 (128 + x % 64)] rfl rfl (fun j u hj => one_cell _ _ _ (by simp) j u hj) (one_oneCell _ _) (by omega) (by unfold maxLen; omega) (by omega) (by simp; omega) _ rfl ?_; intro g4 cap4 w4 hown4 hgrow4 hat4 hlt4; have b4 : Below base w w4 := below_grown (b3.alloc (by omega) _) (by simp; omega) (hown3.alloc _) hgrow4; have hs4 := b4.size; clear hgrow4 hat4 hown3)
    rw [rounds_succ]
    go_wp2_with fail
    go_ret
    refine ⟨some ⟨g4, 0, none⟩, _, rfl, ?_, b4⟩
    have e : bcells [ub (224 + x / 4096), ub (128 + x / 64 % 64), ub (128 + x % 64)] = [.int .u8 (224 + x / 4096), .int .u8 (128 + x / 64 % 64), .int .u8 (128 + x % 64)] := by
      simp only [bcells, List.map_cons, List.map_nil]
      rw [nb_ub _ (by omega) (by omega), nb_ub _ (by omega) (by omega), nb_ub _ (by omega) (by omega)]
    rw [e]
    simpa using hown4

set_option maxHeartbeats 2000000 in
theorem app4 (x : Int) (A : Option Addr) (c n base : Nat) (xs : List Value) (w : World) (h0 : 65536 ≤ x) (h1 : x ≤ 1114111) (hT : Tab w) (hown : w.ownsRow base 5 1 (.slice A n c) n xs) (hbase : base ≤ w.heap.size) (hn : n ≤ 1048576) :
    Calls Tryd.prog 113 #[.slice A n c, .int .i64 x] w (OutApp base n xs [ub (240 + x / 262144), ub (128 + x / 4096 % 64), ub (128 + x / 64 % 64), ub (128 + x % 64)] w) := by
  obtain ⟨i0, hi0, hz0, hz1, hz2⟩ := info_parts info5
  have hl := leadFor_any x w hT (by omega)
  rw [show leadForV x = .agg #[.int .u8 30, .int .u8 3, .int .i64 4, .int .i64 65536] by unfold leadForV; rw [if_neg (by omega), if_neg (by omega), if_neg (by omega)]] at hl
  have HL := Lib.hid hl
  have x1 : bits .or .u8 (IntKind.u8.wrap 240) (IntKind.u8.wrap (x / 262144)) = 240 + x / 262144 := by
    rw [wrap_u8_in _ (by omega) (by omega), wrap_u8_in _ (by omega) (by omega)]; exact or240 (x / 262144) (by omega) (by omega)
  have y0 := andI63 (x / 4096) (by omega) (by omega)
  have z0 := or128 (x / 4096 % 64) (by omega) (by omega)
  have y1 := andI63 (x / 64) (by omega) (by omega)
  have z1 := or128 (x / 64 % 64) (by omega) (by omega)
  have y2 := andI63 (x) (by omega) (by omega)
  have z2 := or128 (x % 64) (by omega) (by omega)
  clear hl hT
  go_enter Tryd.func113, Tryd.ntmps113
  go_wp2_with fail
  refine HL.out.mono ?_
  rintro e w1 ⟨rfl, hw1⟩
  have hz : w.heap.size ≤ w1.heap.size := hw1.size
  have hown1 := own_below hown hw1
  have b1 : Below base w w1 := hw1.mono hbase
  clear hw1 hown HL
  go_wp2_with fail
  go_region_law (refine step_append_lies _ rfl (.tmp 13) (.tmp 24) 27 rfl base 5 i0 _ 1 1 Tryd.underlying27 hi0 hz0 hz1 hz2 rfl (by decide) (.slice A n c) n xs (by simp [Act.eval, Act.put]) (by exact ((hown1.alloc _).alloc _)) ⟨w1.heap.size + 1, 0, none⟩ 1 1 [.int .u8 (240 + x / 262144)] (by simp [Act.eval, Act.put]) rfl (fun j u hj => one_cell _ _ _ (by simp [x1]) j u hj) (one_oneCell _ _) (by omega) (by unfold maxLen; omega) (by omega) (by simp; omega) _ rfl ?_; intro g cap w2 hown2 hgrow hat hlt2)
  all_goals
    have b2 : Below base w w2 := below_grown (w := (w1.alloc _).alloc _) ((b1.alloc (by omega) _).alloc (by simp; omega) _) (by simp; omega) ((hown1.alloc _).alloc _) ⟨hgrow.os, hgrow.tape, hgrow.output, hgrow.size, hgrow.block⟩
    have hs2 := b2.size
    clear hgrow hat hown1
    go_wp2_with fail
    refine wp_loop_rounds 4 ?_
    rw [rounds_succ]
    go_wp2_with (at_builtin; refine wpList_append_lies _ rfl _ _ 27 rfl base 5 i0 _ 1 1 Tryd.underlying27 hi0 hz0 hz1 hz2 rfl (by decide) _ _ _ rfl (hown2.alloc _) ⟨w2.heap.size, 0, none⟩ 1 1 [.int .u8 (128 + x / 4096 % 64)] rfl rfl (fun j u hj => one_cell _ _ _ (by simp) j u hj) (one_oneCell _ _) (by omega) (by unfold maxLen; omega) (by omega) (by simp; omega) _ rfl ?_; intro g3 cap3 w3 hown3 hgrow3 hat3 hlt3; have b3 : Below base w w3 := below_grown (b2.alloc (by omega) _) (by simp; omega) (hown2.alloc _) hgrow3; have hs3 := b3.size; clear hgrow3 hat3 hown2)
    rw [rounds_succ]
    go_wp2_with (at_builtin; refine wpList_append_lies _ rfl _ _ 27 rfl base 5 i0 _ 1 1 Tryd.underlying27 hi0 hz0 hz1 hz2 rfl (by decide) _ _ _ rfl (hown3.alloc _) ⟨w3.heap.size, 0, none⟩ 1 1 [.int .u8 (128 + x / 64 % 64)] rfl rfl (fun j u hj => one_cell _ _ _ (by simp) j u hj) (one_oneCell _ _) (by omega) (by unfold maxLen; omega) (by omega) (by simp; omega) _ rfl ?_; intro g4 cap4 w4 hown4 hgrow4 hat4 hlt4; have b4 : Below base w w4 := below_grown (b3.alloc (by omega) _) (by simp; omega) (hown3.alloc _) hgrow4; have hs4 := b4.size; clear hgrow4 hat4 hown3)
    rw [rounds_succ]
    go_wp2_with (at_builtin; refine wpList_append_lies _ rfl _ _ 27 rfl base 5 i0 _ 1 1 Tryd.underlying27 hi0 hz0 hz1 hz2 rfl (by decide) _ _ _ rfl (hown4.alloc _) ⟨w4.heap.size, 0, none⟩ 1 1 [.int .u8 (128 + x % 64)] rfl rfl (fun j u hj => one_cell _ _ _ (by simp) j u hj) (one_oneCell _ _) (by omega) (by unfold maxLen; omega) (by omega) (by simp; omega) _ rfl ?_; intro g5 cap5 w5 hown5 hgrow5 hat5 hlt5; have b5 : Below base w w5 := below_grown (b4.alloc (by omega) _) (by simp; omega) (hown4.alloc _) hgrow5; have hs5 := b5.size; clear hgrow5 hat5 hown4)
    rw [rounds_succ]
    go_wp2_with fail
    go_ret
    refine ⟨some ⟨g5, 0, none⟩, _, rfl, ?_, b5⟩
    have e : bcells [ub (240 + x / 262144), ub (128 + x / 4096 % 64), ub (128 + x / 64 % 64), ub (128 + x % 64)] = [.int .u8 (240 + x / 262144), .int .u8 (128 + x / 4096 % 64), .int .u8 (128 + x / 64 % 64), .int .u8 (128 + x % 64)] := by
      simp only [bcells, List.map_cons, List.map_nil]
      rw [nb_ub _ (by omega) (by omega), nb_ub _ (by omega) (by omega), nb_ub _ (by omega) (by omega), nb_ub _ (by omega) (by omega)]
    rw [e]
    simpa using hown5

/-- appendScalar at every scalar. -/
theorem app_any (x : Int) (A : Option Addr) (c n base : Nat) (xs : List Value) (w : World) (hx : isB x = true) (hT : Tab w) (hown : w.ownsRow base 5 1 (.slice A n c) n xs) (hbase : base ≤ w.heap.size) (hn : n ≤ 1048576) :
    Calls Tryd.prog 113 #[.slice A n c, .int .i64 x] w (OutApp base n xs (bytesOf x) w) := by
  have hb := (isB_iff x).1 hx
  unfold bytesOf
  rw [if_neg (isB_no hx)]
  split
  · exact app1 x A c n base xs w (by omega) (by omega) hT hown hbase hn
  split
  · exact app2 x A c n base xs w (by omega) (by omega) hT hown hbase hn
  split
  · exact app3 x A c n base xs w (by omega) (by omega) hT hown hbase hn
  · exact app4 x A c n base xs w (by omega) (by omega) hT hown hbase hn
end Go.Proofs.YtbnconieedgcmaaDoor.U
