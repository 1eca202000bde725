/- The law PackRows returns true at all numbers and sizes: numbers of unlike sizes, one behind the other, are got at their places, and beyond the last byte there is none. Conditions: none; nothing that was there before the call is changed. -/
import Derived.Test.YtjhcjdgmhggimaaLawMath
import Derived.BigQuiet
import Derived.Deep.RegionHeld3
namespace Go.Proofs.Ytjhcjdgmhggimaa.packRows
open Go.ChangeShapes Go.WideShapes Go.ChangeAt Go.RowKit Go.BigFrame
set_option linter.unusedVariables false
set_option linter.unusedSimpArgs false

/-- The first i numbers, one behind the other. -/
def rowsL (l s : List Nat) : Nat → List Nat
  | 0 => []
  | i + 1 => rowsL l s i ++ lowB ((l[i]?.getD 0 : Nat) : Int) (1 + s[i]?.getD 0 % 4)
theorem rowsL_succ (l s : List Nat) (i : Nat) (hl : i < l.length) (hs : i < s.length) : rowsL l s (i + 1) = rowsL l s i ++ lowB (l[i] : Int) (1 + s[i] % 4) := by
  rw [rowsL, List.getElem?_eq_getElem hl, List.getElem?_eq_getElem hs]; rfl
theorem rowsL_pre (l s : List Nat) (i n : Nat) (h : i ≤ n) : ∃ t, rowsL l s n = rowsL l s i ++ t := by
  induction n with
  | zero => obtain rfl : i = 0 := by omega
            exact ⟨[], by simp⟩
  | succ n ih =>
    by_cases e : i = n + 1
    · subst e; exact ⟨[], by simp⟩
    · obtain ⟨t, ht⟩ := ih (by omega)
      exact ⟨t ++ lowB ((l[n]?.getD 0 : Nat) : Int) (1 + s[n]?.getD 0 % 4), by rw [rowsL, ht, List.append_assoc]⟩
theorem rowsL_get (l s : List Nat) (i n k : Nat) (hl : i < l.length) (hs : i < s.length) (h : i < n) (hk : 1 + s[i] % 4 = k) : getR (rowsL l s n) ((rowsL l s i).length : Nat) k = some (l[i] % 256 ^ k) := by
  obtain ⟨t, ht⟩ := rowsL_pre l s (i + 1) n h
  rw [rowsL_succ l s i hl hs, hk] at ht
  rw [ht, getR_yes (by omega) (by omega) (by rw [List.length_append, List.length_append, lowB_len]; omega), List.append_assoc, List.drop_left, List.take_left' (lowB_len _ _), numL_low _ _ (by omega)]
theorem rowsL_len (l s : List Nat) (i : Nat) : (rowsL l s i).length ≤ 4 * i := by
  induction i with
  | zero => simp [rowsL]
  | succ i ih => rw [rowsL, List.length_append, lowB_len]; omega

theorem walk_out (l : List Nat) (n : Nat) (A : Option Addr) (c : Nat) (s : List Nat) (m : Nat) (B : Option Addr) (d : Nat) (w : World) (h : 60 < n ∨ (¬ 60 < n ∧ m < n)) :
    Calls Try.prog 7 #[.slice A n c, .slice B m d] w fun e w' => e = .returned (.bool true) ∧ Below w.heap.size w w' := by
  rcases h with h | ⟨h1, h2⟩
  · have h1 : (60 : Int) < (n : Int) := by omega
    go_enter Try.func7, Try.ntmps7
    go_wp2_with fail
    refine (wakes_any _).mono ?_
    rintro e w1 ⟨rfl, g⟩
    go_wp2_with fail
    go_ret
    exact ⟨rfl, g⟩
  · have h3 : ¬ ((60 : Int) < (n : Int)) := by omega
    have h4 : (m : Int) < (n : Int) := by omega
    go_enter Try.func7, Try.ntmps7
    go_wp2_with fail
    refine (wakes_any _).mono ?_
    rintro e w1 ⟨rfl, g⟩
    go_wp2_with fail
    go_ret
    exact ⟨rfl, g⟩
set_option maxRecDepth 4000 in
set_option maxHeartbeats 8000000 in
theorem walk_in (l : List Nat) (n : Nat) (A : Option Addr) (c : Nat) (s : List Nat) (m : Nat) (B : Option Addr) (d : Nat) (w : World) (hA : RU w w.heap.size A n l) (hB : RB w w.heap.size B m s) (hn : n ≤ 60) (hm : n ≤ m) :
    Calls Try.prog 7 #[.slice A n c, .slice B m d] w fun e w' => e = .returned (.bool true) ∧ Below w.heap.size w w' := by
  have h3 : ¬ ((60 : Int) < (n : Int)) := by omega
  have h4 : ¬ ((m : Int) < (n : Int)) := by omega
  have HA := Lib.hid hA
  have HB := Lib.hid hB
  have HLn := Lib.hid hA.1
  have HLm := Lib.hid hB.1
  clear hA hB
  go_enter Try.func7, Try.ntmps7
  go_wp2_with fail
  go_loopw [5, 6] (fun vb vi wr => ∃ (i z : Nat) (A1 : Option Addr) (c1 : Nat), i ≤ n ∧ vb = .slice A1 z c1 ∧ vi = .int .i64 i ∧ z ≤ 240 ∧ Hid (z = (rowsL l s i).length) ∧ Hid (RB wr wr.heap.size A1 z (rowsL l s i)) ∧ Hid (Shp A1 z c1) ∧ Below w.heap.size w wr) (fun _ i _ => n - (intOf i).toNat)
  case atStart => exact ⟨0, 0, none, 0, Nat.zero_le _, rfl, rfl, by omega, Lib.hid rfl, Lib.hid (RB.nil _ _ _), Lib.hid ⟨fun _ => rfl, Nat.le_refl _, Nat.zero_le _⟩, Below.refl _ _⟩
  case round =>
    obtain ⟨i, z, A1, c1, hi, rfl, rfl, hz, HZ, HR, HS, hb⟩ := hrel
    by_cases hlt : i < n
    · have il : i < l.length := by rw [HLn.out]; exact hlt
      have is : i < s.length := by rw [HLm.out]; omega
      obtain ⟨bl, ol, rfl, _, pl, xl⟩ := (HA.out.on hb).at il
      obtain ⟨bs, os, rfl, _, ps, xs⟩ := (HB.out.on hb).at is
      have HSc := Lib.hid (rowsL_succ l s i il is)
      have HLe := Lib.hid (rowsL_len l s (i + 1))
      generalize l[i] = x at *
      generalize s[i] = y at *
      have cx : IntKind.i64.wrap (x : Int) = (x : Int) := by rw [IntKind.wrap_i64]; omega
      have cy : IntKind.i64.wrap (y : Int) = (y : Int) := by rw [IntKind.wrap_i64]; omega
      have imI : (i : Int) < (m : Int) := by omega
      have inI : (i : Int) < (n : Int) := by omega
      have i0I : (0 : Int) ≤ (i : Int) := by omega
      have bR := Below.refl wr.heap.size wr
      have hrr : y % 4 = 0 ∨ y % 4 = 1 ∨ y % 4 = 2 ∨ y % 4 = 3 := by omega
      rcases hrr with hr | hr | hr | hr
      · have s1 : (y : Int) % 4 = 0 := by omega
        have s2 : Int.tmod (y : Int) 4 = 0 := by rw [Int.tmod_eq_emod_of_nonneg (by omega)]; exact s1
        have s3 : IntKind.i64.wrap 1 = 1 := by kernel_rfl
        have s4 : IntKind.i64.wrap 0 = 0 := by kernel_rfl
        rw [show 1 + y % 4 = 1 by omega] at HSc
        have HC : Hid (∀ W : World, W.cell? ⟨bl, ol + i, none⟩ = some (.int .u32 (x : Int)) ∧ W.cell? ⟨bs, os + i, none⟩ = some (.int .u8 (y : Int)) ∧ Below wr.heap.size wr W → Calls Try.prog 14 #[.slice A1 z c1, .int .i64 (x : Int), .int .i64 1] W fun e w' => (∃ (A2 : Option Addr) (c2 : Nat), e = .returned (.slice A2 (z + 1) c2) ∧ Hid (RB w' w'.heap.size A2 (z + 1) (rowsL l s (i + 1))) ∧ Hid (Shp A2 (z + 1) c2)) ∧ w'.cell? ⟨bl, ol + i, none⟩ = some (.int .u32 (x : Int)) ∧ w'.cell? ⟨bs, os + i, none⟩ = some (.int .u8 (y : Int)) ∧ Below wr.heap.size wr w') := Lib.hid (fun W ⟨h1, h2, h3⟩ => by
          rw [HSc.out]
          refine (put_r (rowsL l s i) z A1 c1 x 1 W HS.out (HR.out.on h3) (by omega)).mono fun e w' ⟨A2, c2, he, hr2, hs2, g⟩ => ?_
          exact ⟨⟨A2, c2, he, Lib.hid hr2, Lib.hid hs2⟩, kept_cell g h1, kept_cell g h2, h3.trans (g.mono h3.size)⟩)
        have HZ' : Hid (z + 1 = (rowsL l s (i + 1)).length) := Lib.hid (by rw [HSc.out, List.length_append, lowB_len, HZ.out])
        have hz' : z + 1 ≤ 240 := by have h1 := HLe.out; rw [← HZ'.out] at h1; omega
        clear HR HS HZ HSc HLe
        go_wp2_with fail
        go_region_held3 (fun w' => w'.cell? ⟨bl, ol + i, none⟩ = some (.int .u32 (x : Int)) ∧ w'.cell? ⟨bs, os + i, none⟩ = some (.int .u8 (y : Int)) ∧ Below wr.heap.size wr w') (first | assumption | exact ⟨pl, ps, bR⟩ | exact ⟨pl, ps, Below.drew bR⟩ | exact ⟨by assumption, by assumption, by assumption⟩ | exact ⟨by assumption, by assumption, Below.drew (by assumption)⟩) (first | (go_at_call 14; with_reducible refine Calls.mono (HC.out _ ?_) ?_; (first | assumption | exact ⟨pl, ps, bR⟩ | exact ⟨pl, ps, Below.drew bR⟩ | exact ⟨by assumption, by assumption, by assumption⟩ | exact ⟨by assumption, by assumption, Below.drew (by assumption)⟩); rintro e w13 ⟨⟨A2, c2, rfl, r2, s2'⟩, t1, t2, t3⟩))
        have b12 := hb.trans (t3.mono hb.size)
        clear HC pl ps bR t1 t2 t3 hb
        rename_i hHeld
        clear hHeld
        go_wp2_with fail
        go_roundw
        case rel => exact ⟨i + 1, z + 1, A2, c2, by omega, rfl, by go_num, hz', HZ', r2, s2', b12⟩
        case measure => simp [intOf]; omega
      · have s1 : (y : Int) % 4 = 1 := by omega
        have s2 : Int.tmod (y : Int) 4 = 1 := by rw [Int.tmod_eq_emod_of_nonneg (by omega)]; exact s1
        have s3 : IntKind.i64.wrap 2 = 2 := by kernel_rfl
        have s4 : IntKind.i64.wrap 1 = 1 := by kernel_rfl
        rw [show 1 + y % 4 = 2 by omega] at HSc
        have HC : Hid (∀ W : World, W.cell? ⟨bl, ol + i, none⟩ = some (.int .u32 (x : Int)) ∧ W.cell? ⟨bs, os + i, none⟩ = some (.int .u8 (y : Int)) ∧ Below wr.heap.size wr W → Calls Try.prog 14 #[.slice A1 z c1, .int .i64 (x : Int), .int .i64 2] W fun e w' => (∃ (A2 : Option Addr) (c2 : Nat), e = .returned (.slice A2 (z + 2) c2) ∧ Hid (RB w' w'.heap.size A2 (z + 2) (rowsL l s (i + 1))) ∧ Hid (Shp A2 (z + 2) c2)) ∧ w'.cell? ⟨bl, ol + i, none⟩ = some (.int .u32 (x : Int)) ∧ w'.cell? ⟨bs, os + i, none⟩ = some (.int .u8 (y : Int)) ∧ Below wr.heap.size wr w') := Lib.hid (fun W ⟨h1, h2, h3⟩ => by
          rw [HSc.out]
          refine (put_r (rowsL l s i) z A1 c1 x 2 W HS.out (HR.out.on h3) (by omega)).mono fun e w' ⟨A2, c2, he, hr2, hs2, g⟩ => ?_
          exact ⟨⟨A2, c2, he, Lib.hid hr2, Lib.hid hs2⟩, kept_cell g h1, kept_cell g h2, h3.trans (g.mono h3.size)⟩)
        have HZ' : Hid (z + 2 = (rowsL l s (i + 1)).length) := Lib.hid (by rw [HSc.out, List.length_append, lowB_len, HZ.out])
        have hz' : z + 2 ≤ 240 := by have h1 := HLe.out; rw [← HZ'.out] at h1; omega
        clear HR HS HZ HSc HLe
        go_wp2_with fail
        go_region_held3 (fun w' => w'.cell? ⟨bl, ol + i, none⟩ = some (.int .u32 (x : Int)) ∧ w'.cell? ⟨bs, os + i, none⟩ = some (.int .u8 (y : Int)) ∧ Below wr.heap.size wr w') (first | assumption | exact ⟨pl, ps, bR⟩ | exact ⟨pl, ps, Below.drew bR⟩ | exact ⟨by assumption, by assumption, by assumption⟩ | exact ⟨by assumption, by assumption, Below.drew (by assumption)⟩) (first | (go_at_call 14; with_reducible refine Calls.mono (HC.out _ ?_) ?_; (first | assumption | exact ⟨pl, ps, bR⟩ | exact ⟨pl, ps, Below.drew bR⟩ | exact ⟨by assumption, by assumption, by assumption⟩ | exact ⟨by assumption, by assumption, Below.drew (by assumption)⟩); rintro e w13 ⟨⟨A2, c2, rfl, r2, s2'⟩, t1, t2, t3⟩))
        have b12 := hb.trans (t3.mono hb.size)
        clear HC pl ps bR t1 t2 t3 hb
        rename_i hHeld
        clear hHeld
        go_wp2_with fail
        go_roundw
        case rel => exact ⟨i + 1, z + 2, A2, c2, by omega, rfl, by go_num, hz', HZ', r2, s2', b12⟩
        case measure => simp [intOf]; omega
      · have s1 : (y : Int) % 4 = 2 := by omega
        have s2 : Int.tmod (y : Int) 4 = 2 := by rw [Int.tmod_eq_emod_of_nonneg (by omega)]; exact s1
        have s3 : IntKind.i64.wrap 3 = 3 := by kernel_rfl
        have s4 : IntKind.i64.wrap 2 = 2 := by kernel_rfl
        rw [show 1 + y % 4 = 3 by omega] at HSc
        have HC : Hid (∀ W : World, W.cell? ⟨bl, ol + i, none⟩ = some (.int .u32 (x : Int)) ∧ W.cell? ⟨bs, os + i, none⟩ = some (.int .u8 (y : Int)) ∧ Below wr.heap.size wr W → Calls Try.prog 14 #[.slice A1 z c1, .int .i64 (x : Int), .int .i64 3] W fun e w' => (∃ (A2 : Option Addr) (c2 : Nat), e = .returned (.slice A2 (z + 3) c2) ∧ Hid (RB w' w'.heap.size A2 (z + 3) (rowsL l s (i + 1))) ∧ Hid (Shp A2 (z + 3) c2)) ∧ w'.cell? ⟨bl, ol + i, none⟩ = some (.int .u32 (x : Int)) ∧ w'.cell? ⟨bs, os + i, none⟩ = some (.int .u8 (y : Int)) ∧ Below wr.heap.size wr w') := Lib.hid (fun W ⟨h1, h2, h3⟩ => by
          rw [HSc.out]
          refine (put_r (rowsL l s i) z A1 c1 x 3 W HS.out (HR.out.on h3) (by omega)).mono fun e w' ⟨A2, c2, he, hr2, hs2, g⟩ => ?_
          exact ⟨⟨A2, c2, he, Lib.hid hr2, Lib.hid hs2⟩, kept_cell g h1, kept_cell g h2, h3.trans (g.mono h3.size)⟩)
        have HZ' : Hid (z + 3 = (rowsL l s (i + 1)).length) := Lib.hid (by rw [HSc.out, List.length_append, lowB_len, HZ.out])
        have hz' : z + 3 ≤ 240 := by have h1 := HLe.out; rw [← HZ'.out] at h1; omega
        clear HR HS HZ HSc HLe
        go_wp2_with fail
        go_region_held3 (fun w' => w'.cell? ⟨bl, ol + i, none⟩ = some (.int .u32 (x : Int)) ∧ w'.cell? ⟨bs, os + i, none⟩ = some (.int .u8 (y : Int)) ∧ Below wr.heap.size wr w') (first | assumption | exact ⟨pl, ps, bR⟩ | exact ⟨pl, ps, Below.drew bR⟩ | exact ⟨by assumption, by assumption, by assumption⟩ | exact ⟨by assumption, by assumption, Below.drew (by assumption)⟩) (first | (go_at_call 14; with_reducible refine Calls.mono (HC.out _ ?_) ?_; (first | assumption | exact ⟨pl, ps, bR⟩ | exact ⟨pl, ps, Below.drew bR⟩ | exact ⟨by assumption, by assumption, by assumption⟩ | exact ⟨by assumption, by assumption, Below.drew (by assumption)⟩); rintro e w13 ⟨⟨A2, c2, rfl, r2, s2'⟩, t1, t2, t3⟩))
        have b12 := hb.trans (t3.mono hb.size)
        clear HC pl ps bR t1 t2 t3 hb
        rename_i hHeld
        clear hHeld
        go_wp2_with fail
        go_roundw
        case rel => exact ⟨i + 1, z + 3, A2, c2, by omega, rfl, by go_num, hz', HZ', r2, s2', b12⟩
        case measure => simp [intOf]; omega
      · have s1 : (y : Int) % 4 = 3 := by omega
        have s2 : Int.tmod (y : Int) 4 = 3 := by rw [Int.tmod_eq_emod_of_nonneg (by omega)]; exact s1
        have s3 : IntKind.i64.wrap 4 = 4 := by kernel_rfl
        have s4 : IntKind.i64.wrap 3 = 3 := by kernel_rfl
        rw [show 1 + y % 4 = 4 by omega] at HSc
        have HC : Hid (∀ W : World, W.cell? ⟨bl, ol + i, none⟩ = some (.int .u32 (x : Int)) ∧ W.cell? ⟨bs, os + i, none⟩ = some (.int .u8 (y : Int)) ∧ Below wr.heap.size wr W → Calls Try.prog 14 #[.slice A1 z c1, .int .i64 (x : Int), .int .i64 4] W fun e w' => (∃ (A2 : Option Addr) (c2 : Nat), e = .returned (.slice A2 (z + 4) c2) ∧ Hid (RB w' w'.heap.size A2 (z + 4) (rowsL l s (i + 1))) ∧ Hid (Shp A2 (z + 4) c2)) ∧ w'.cell? ⟨bl, ol + i, none⟩ = some (.int .u32 (x : Int)) ∧ w'.cell? ⟨bs, os + i, none⟩ = some (.int .u8 (y : Int)) ∧ Below wr.heap.size wr w') := Lib.hid (fun W ⟨h1, h2, h3⟩ => by
          rw [HSc.out]
          refine (put_r (rowsL l s i) z A1 c1 x 4 W HS.out (HR.out.on h3) (by omega)).mono fun e w' ⟨A2, c2, he, hr2, hs2, g⟩ => ?_
          exact ⟨⟨A2, c2, he, Lib.hid hr2, Lib.hid hs2⟩, kept_cell g h1, kept_cell g h2, h3.trans (g.mono h3.size)⟩)
        have HZ' : Hid (z + 4 = (rowsL l s (i + 1)).length) := Lib.hid (by rw [HSc.out, List.length_append, lowB_len, HZ.out])
        have hz' : z + 4 ≤ 240 := by have h1 := HLe.out; rw [← HZ'.out] at h1; omega
        clear HR HS HZ HSc HLe
        go_wp2_with fail
        go_region_held3 (fun w' => w'.cell? ⟨bl, ol + i, none⟩ = some (.int .u32 (x : Int)) ∧ w'.cell? ⟨bs, os + i, none⟩ = some (.int .u8 (y : Int)) ∧ Below wr.heap.size wr w') (first | assumption | exact ⟨pl, ps, bR⟩ | exact ⟨pl, ps, Below.drew bR⟩ | exact ⟨by assumption, by assumption, by assumption⟩ | exact ⟨by assumption, by assumption, Below.drew (by assumption)⟩) (first | (go_at_call 14; with_reducible refine Calls.mono (HC.out _ ?_) ?_; (first | assumption | exact ⟨pl, ps, bR⟩ | exact ⟨pl, ps, Below.drew bR⟩ | exact ⟨by assumption, by assumption, by assumption⟩ | exact ⟨by assumption, by assumption, Below.drew (by assumption)⟩); rintro e w13 ⟨⟨A2, c2, rfl, r2, s2'⟩, t1, t2, t3⟩))
        have b12 := hb.trans (t3.mono hb.size)
        clear HC pl ps bR t1 t2 t3 hb
        rename_i hHeld
        clear hHeld
        go_wp2_with fail
        go_roundw
        case rel => exact ⟨i + 1, z + 4, A2, c2, by omega, rfl, by go_num, hz', HZ', r2, s2', b12⟩
        case measure => simp [intOf]; omega
    · obtain rfl : i = n := by omega
      have HA2 := Lib.hid (HA.out.on hb)
      have HB2 := Lib.hid (HB.out.on hb)
      have b2 := hb
      have hc1 := HS.out.2.1
      clear HA HB hb HS
      rename World => w2
      go_wp2_with fail
      go_loopw [7, 8] (fun va vj wr => ∃ (j a : Nat), j ≤ i ∧ va = .int .i64 a ∧ vj = .int .i64 j ∧ a ≤ 240 ∧ Hid (a = (rowsL l s j).length) ∧ Below w2.heap.size w2 wr) (fun _ j _ => i - (intOf j).toNat)
      case atStart => exact ⟨0, 0, Nat.zero_le _, rfl, rfl, by omega, Lib.hid rfl, Below.refl _ _⟩
      case round =>
        obtain ⟨j, a, hj, rfl, rfl, ha, HAt, hb⟩ := hrel
        have HR3 := Lib.hid (HR.out.on hb)
        by_cases hlt2 : j < i
        · have jl : j < l.length := by rw [HLn.out]; exact hlt2
          have js : j < s.length := by rw [HLm.out]; omega
          obtain ⟨bl, ol, rfl, _, pl, xl⟩ := (HA2.out.on hb).at jl
          obtain ⟨bs, os, rfl, _, ps, xs⟩ := (HB2.out.on hb).at js
          have HG := fun k hk => rowsL_get l s j i k jl js hlt2 hk
          have HSc := Lib.hid (rowsL_succ l s j jl js)
          have HLe := Lib.hid (rowsL_len l s (j + 1))
          generalize l[j] = x at *
          generalize s[j] = y at *
          have hrr : y % 4 = 0 ∨ y % 4 = 1 ∨ y % 4 = 2 ∨ y % 4 = 3 := by omega
          rcases hrr with hr | hr | hr | hr
          · have s1 : (y : Int) % 4 = 0 := by omega
            have s2 : Int.tmod (y : Int) 4 = 0 := by rw [Int.tmod_eq_emod_of_nonneg (by omega)]; exact s1
            rw [show 1 + y % 4 = 1 by omega] at HSc
            have HGk : Hid (getR (rowsL l s i) a 1 = some (x % 256)) := Lib.hid (by rw [HAt.out]; exact HG 1 (by omega))
            have hand : bits .and .i64 (x : Int) 255 = ((x % 256 : Nat) : Int) := and_i64 x 8 xl (by decide)
            have HZ' : Hid (a + 1 = (rowsL l s (j + 1)).length) := Lib.hid (by rw [HSc.out, List.length_append, lowB_len, HAt.out])
            have hz' : a + 1 ≤ 240 := by have h1 := HLe.out; rw [← HZ'.out] at h1; omega
            have HGet := Lib.hid (fun W (g : Below wr.heap.size wr W) => get_yes (rowsL l s i) z A1 c1 a 1 _ HGk.out W (HR3.out.on g) hc1 (by omega))
            generalize x % 256 = vm at *
            have hvm : ((vm : Int) != (vm : Int)) = false := by simp
            clear HG HGk HAt HSc HLe HR3
            go_wp2_with fail
            refine (HGet.out _ (Below.refl _ _)).mono ?_
            rintro e w5 ⟨rfl, g⟩
            have pl5 := kept_cell g pl
            have b5 := hb.trans (g.mono hb.size)
            clear HGet g hb pl ps
            go_wp2_with fail
            go_roundw
            case rel => exact ⟨j + 1, a + 1, by omega, by go_num, by go_num, hz', HZ', b5⟩
            case measure => simp [intOf]; omega
          · have s1 : (y : Int) % 4 = 1 := by omega
            have s2 : Int.tmod (y : Int) 4 = 1 := by rw [Int.tmod_eq_emod_of_nonneg (by omega)]; exact s1
            rw [show 1 + y % 4 = 2 by omega] at HSc
            have HGk : Hid (getR (rowsL l s i) a 2 = some (x % 65536)) := Lib.hid (by rw [HAt.out]; exact HG 2 (by omega))
            have hand : bits .and .i64 (x : Int) 65535 = ((x % 65536 : Nat) : Int) := and_i64 x 16 xl (by decide)
            have HZ' : Hid (a + 2 = (rowsL l s (j + 1)).length) := Lib.hid (by rw [HSc.out, List.length_append, lowB_len, HAt.out])
            have hz' : a + 2 ≤ 240 := by have h1 := HLe.out; rw [← HZ'.out] at h1; omega
            have HGet := Lib.hid (fun W (g : Below wr.heap.size wr W) => get_yes (rowsL l s i) z A1 c1 a 2 _ HGk.out W (HR3.out.on g) hc1 (by omega))
            generalize x % 65536 = vm at *
            have hvm : ((vm : Int) != (vm : Int)) = false := by simp
            clear HG HGk HAt HSc HLe HR3
            go_wp2_with fail
            refine (HGet.out _ (Below.refl _ _)).mono ?_
            rintro e w5 ⟨rfl, g⟩
            have pl5 := kept_cell g pl
            have b5 := hb.trans (g.mono hb.size)
            clear HGet g hb pl ps
            go_wp2_with fail
            go_roundw
            case rel => exact ⟨j + 1, a + 2, by omega, by go_num, by go_num, hz', HZ', b5⟩
            case measure => simp [intOf]; omega
          · have s1 : (y : Int) % 4 = 2 := by omega
            have s2 : Int.tmod (y : Int) 4 = 2 := by rw [Int.tmod_eq_emod_of_nonneg (by omega)]; exact s1
            rw [show 1 + y % 4 = 3 by omega] at HSc
            have HGk : Hid (getR (rowsL l s i) a 3 = some (x % 16777216)) := Lib.hid (by rw [HAt.out]; exact HG 3 (by omega))
            have hand : bits .and .i64 (x : Int) 16777215 = ((x % 16777216 : Nat) : Int) := and_i64 x 24 xl (by decide)
            have HZ' : Hid (a + 3 = (rowsL l s (j + 1)).length) := Lib.hid (by rw [HSc.out, List.length_append, lowB_len, HAt.out])
            have hz' : a + 3 ≤ 240 := by have h1 := HLe.out; rw [← HZ'.out] at h1; omega
            have HGet := Lib.hid (fun W (g : Below wr.heap.size wr W) => get_yes (rowsL l s i) z A1 c1 a 3 _ HGk.out W (HR3.out.on g) hc1 (by omega))
            generalize x % 16777216 = vm at *
            have hvm : ((vm : Int) != (vm : Int)) = false := by simp
            clear HG HGk HAt HSc HLe HR3
            go_wp2_with fail
            refine (HGet.out _ (Below.refl _ _)).mono ?_
            rintro e w5 ⟨rfl, g⟩
            have pl5 := kept_cell g pl
            have b5 := hb.trans (g.mono hb.size)
            clear HGet g hb pl ps
            go_wp2_with fail
            go_roundw
            case rel => exact ⟨j + 1, a + 3, by omega, by go_num, by go_num, hz', HZ', b5⟩
            case measure => simp [intOf]; omega
          · have s1 : (y : Int) % 4 = 3 := by omega
            have s2 : Int.tmod (y : Int) 4 = 3 := by rw [Int.tmod_eq_emod_of_nonneg (by omega)]; exact s1
            rw [show 1 + y % 4 = 4 by omega] at HSc
            have HGk : Hid (getR (rowsL l s i) a 4 = some (x % 4294967296)) := Lib.hid (by rw [HAt.out]; exact HG 4 (by omega))
            have hand : bits .and .i64 (x : Int) 4294967295 = ((x % 4294967296 : Nat) : Int) := and_i64 x 32 xl (by decide)
            have HZ' : Hid (a + 4 = (rowsL l s (j + 1)).length) := Lib.hid (by rw [HSc.out, List.length_append, lowB_len, HAt.out])
            have hz' : a + 4 ≤ 240 := by have h1 := HLe.out; rw [← HZ'.out] at h1; omega
            have HGet := Lib.hid (fun W (g : Below wr.heap.size wr W) => get_yes (rowsL l s i) z A1 c1 a 4 _ HGk.out W (HR3.out.on g) hc1 (by omega))
            generalize x % 4294967296 = vm at *
            have hvm : ((vm : Int) != (vm : Int)) = false := by simp
            clear HG HGk HAt HSc HLe HR3
            go_wp2_with fail
            refine (HGet.out _ (Below.refl _ _)).mono ?_
            rintro e w5 ⟨rfl, g⟩
            have pl5 := kept_cell g pl
            have b5 := hb.trans (g.mono hb.size)
            clear HGet g hb pl ps
            go_wp2_with fail
            go_roundw
            case rel => exact ⟨j + 1, a + 4, by omega, by go_num, by go_num, hz', HZ', b5⟩
            case measure => simp [intOf]; omega
        · obtain rfl : j = i := by omega
          obtain rfl : a = z := by rw [HAt.out, ← HZ.out]
          have HN1 : Hid (getR (rowsL l s j) a 1 = none) := Lib.hid (getR_no (by have := HAt.out; omega))
          have HN2 : Hid (getR (rowsL l s j) (-1) 1 = none) := Lib.hid (getR_no (by omega))
          have hzz : ((a : Int) == (a : Int)) = true := by simp
          have b5 := b2.trans (hb.mono b2.size)
          clear HAt HZ
          go_wp2_with fail
          refine (get_not (rowsL l s j) a A1 c1 a 1 HN1.out _ HR3.out hc1 (by omega)).mono ?_
          rintro e w6 ⟨rfl, g⟩
          have HR6 := Lib.hid (HR3.out.on g)
          have b6 := b5.trans (g.mono b5.size)
          clear HR3 g b5
          go_wp2_with fail
          refine (get_not (rowsL l s j) a A1 c1 (-1) 1 HN2.out _ HR6.out hc1 (by omega)).mono ?_
          rintro e w7 ⟨rfl, g⟩
          have b7 := b6.trans (g.mono b6.size)
          clear HR6 g b6
          go_wp2_with fail
          refine (wakes_any _).mono ?_
          rintro e w8 ⟨rfl, g⟩
          have b8 := b7.trans (g.mono b7.size)
          go_wp2_with fail
          go_ret
          exact ⟨rfl, b8⟩
theorem walk (l : List Nat) (n : Nat) (A : Option Addr) (c : Nat) (s : List Nat) (m : Nat) (B : Option Addr) (d : Nat) (w : World) (hA : RU w w.heap.size A n l) (hB : RB w w.heap.size B m s) :
    Calls Try.prog 7 #[.slice A n c, .slice B m d] w fun e w' => e = .returned (.bool true) ∧ Below w.heap.size w w' := by
  by_cases h : 60 < n ∨ (¬ 60 < n ∧ m < n)
  · exact walk_out l n A c s m B d w h
  · exact walk_in l n A c s m B d w hA hB (by omega) (by omega)

/-! From the walk to the row. -/
set_option maxRecDepth 100000 in
theorem contract (H : Type) (enc : TypeId × Value → H) (W : World) (base : Nat) (args : Array Value) (ds gs : List (DataW H)) (before : List MemPlace)
    (hval0 : ∀ (j : Nat) t v, Try.f7.params[j]? = some t → args[j]? = some v → Value.okWide Try.prog W .any base t v)
    (hW : DataW.Whole enc Try.prog Try.f7.params.toList Rows.packRowsSpec.vars false W args.toList ds gs before) :
    Calls Try.prog 7 args W fun e W' => ∃ v, e = .returned v ∧ Rows.packRowsSpec.post enc Try.prog Try.f7 false true false false W args v W' := by
  have hval : ∀ (j : Nat) t v, Try.f7.params[j]? = some t → args[j]? = some v → Value.okWide Try.prog W .any base t v := hval0
  have hW' := hW
  obtain ⟨p, q, hA0, hV, rfl, hfz, hnd⟩ := hW
  have hA : DataW.TrodAll enc Try.prog W 0 (fun _ => true) true Try.f7.params.toList args.toList ds p := hA0
  rw [Try.params7] at hA hval
  obtain ⟨v0, vs0, d0, ds0, p0, q0, hargs, rfl, rfl, h0, r0⟩ := trodAll_cons hA
  obtain ⟨v1, vs1, d1, ds1, p1, q1, rfl, rfl, rfl, h1, r1⟩ := trodAll_cons r0
  obtain ⟨rfl, rfl, rfl⟩ := trodAll_nil r1
  obtain rfl : args = #[v0, v1] := by cases args; simp_all
  obtain ⟨rfl, rfl⟩ := trodVars_none hV
  obtain ⟨a0, len0, cap0, rfl⟩ := okWide_slice Try.underlying46 (hval 0 46 v0 rfl rfl)
  have k0 := h0
  have lt0 : ∀ x ∈ p0, x.block < W.heap.size := by obtain ⟨m, hm⟩ := k0; exact DataW.trod_lt m _ _ _ hm
  obtain ⟨l0, hl0, hs0, hr0⟩ : ∃ l, l.length = len0 ∧ Shp a0 len0 cap0 ∧ RU W W.heap.size a0 len0 l := by
    obtain ⟨fuel, hf⟩ := h0
    exact open_words (by simpa [Value.cells] using hf)
  obtain ⟨a1, len1, cap1, rfl⟩ := okWide_slice Try.underlying22 (hval 1 22 v1 rfl rfl)
  have k1 := h1
  have lt1 : ∀ x ∈ p1, x.block < W.heap.size := by obtain ⟨m, hm⟩ := k1; exact DataW.trod_lt m _ _ _ hm
  obtain ⟨l1, hl1, hs1, hr1⟩ : ∃ l, l.length = len1 ∧ Shp a1 len1 cap1 ∧ RB W W.heap.size a1 len1 l := by
    obtain ⟨fuel, hf⟩ := h1
    exact open_bytes (by simpa [Value.cells] using hf)
  clear hA0 hval0
  refine (walk l0 len0 a0 cap0 l1 len1 a1 cap1 W hr0 hr1).mono fun e W' ⟨he, bel⟩ => ?_
  subst he
  exact ⟨_, rfl, _, _, _, [], _, [], hW', trodAll_mk1 (shut_bool Try.underlying4 _), (trodAll_cons_mk (Below.trod laidOut (by kernel_rfl) (of_decide_eq_true (by kernel_rfl)) k0 bel lt0) (trodAll_cons_mk (Below.trod laidOut (by kernel_rfl) (of_decide_eq_true (by kernel_rfl)) k1 bel lt1) trodAll_mk0)), rfl, bel.frame _, fun h => by cases h⟩

set_option maxRecDepth 100000 in
theorem lifted (os : Os) (started : os.Started) (H : Type) (enc : TypeId × Value → H) :
    ReturnsInHanded {} Try.checked os 7 .any (Rows.packRowsSpec.pre6 enc Try.prog Try.f7 Rows.packRowsRow.domain false) (Rows.packRowsSpec.post enc Try.prog Try.f7 false true false false) := by
  refine returnsInHanded_of_change (C := Try.checked) own started (by kernel_rfl) Try.func7
    (ChangeSpec.witness6 (enc := enc) (C := Try.checked) false ⟨#[], #[.slice none 0 0, .slice none 0 0], []⟩ 8 (by kernel_rfl) (by kernel_rfl) (by kernel_rfl) (by kernel_rfl)) ?_
  intro W base args ds gs before hval hW _ _
  exact contract H enc W base args ds gs before hval hW

set_option maxRecDepth 100000 in
theorem over : Rows.packRowsRow.holds Try.pinned (OpenSpec.ofChange Rows.packRowsSpec) :=
  OpenClaim.holds_of_wide 7 Try.f7 rfl rfl rfl rfl rfl rfl rfl ⟨rfl, rfl, rfl, rfl, rfl⟩ rfl rfl rfl rfl rfl (by kernel_rfl) Try.func7 (by kernel_rfl)
    (of_decide_eq_true (by kernel_rfl)) (by unfold Func.isWrapper; first | (rw [if_pos (by decide +kernel)]; kernel_rfl) | (rw [if_neg (by decide +kernel)]; exact ⟨rfl, rfl⟩))
    (fun os started H enc _ => lifted os started H enc)
end Go.Proofs.Ytjhcjdgmhggimaa.packRows

namespace Go.Proofs.Ytjhcjdgmhggimaa
/-- The given statement, under a short name. -/
theorem packRows_holds : Rows.PackRowsSaid := packRows.over
#print axioms packRows_holds
end Go.Proofs.Ytjhcjdgmhggimaa
