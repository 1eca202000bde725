/- The law UtfTells returns true at every text, every row of integers and every integer: Pieces, Valid, Text and Bytes answer what the document's own functions answer. Conditions: the table of lead bytes holds what the program's text lays (the card ties it); nothing that was there before the call is changed. -/
import Derived.Test.YtmpehgdmdejmlaaDoorLaid
import Derived.Test.YtmpehgdmdejmlaaDoorRefValid
import Derived.Test.YtmpehgdmdejmlaaDoorRefText
import Derived.Laws.AppendOwnNone
namespace Go.Proofs.YtmpehgdmdejmlaaDoor.utfTells
open Go.ChangeShapes Go.WideShapes Go.ChangeAt Go.RowKit
open Go.ChangeMaps (open_string shut_string)
set_option linter.unusedVariables false
set_option linter.unusedSimpArgs false

theorem block_of_cell {w : World} {b o : Nat} {u : Value} (h : w.cell? ⟨b, o, none⟩ = some u) : b < w.heap.size := by
  rcases Nat.lt_or_ge b w.heap.size with hlt | hge
  · exact hlt
  · unfold World.cell? at h
    rw [Array.getElem?_eq_none hge] at h
    simp at h

/-- A slice that came in, as a row that reads. -/
theorem reads_row {w : World} {a : Option Addr} {len cap : Nat} {zs : List Int} (h : IsRow .i64 w a len cap zs) : Reads w w.heap.size 1 a len (icells (zs.take len)) ∧ (zs.take len).length = len := by
  rcases h with ⟨rfl, rfl, rfl, rfl⟩ | ⟨x, rfl, hl, hm, hz, hcell, hw⟩
  · exact ⟨⟨rfl, fun h => absurd h (by omega)⟩, rfl⟩
  · have hlen : (zs.take len).length = len := by rw [List.length_take]; omega
    refine ⟨⟨by rw [icells_len, hlen]; omega, fun hn => ?_⟩, hlen⟩
    obtain ⟨b, off, rfl, hc⟩ := ints_at hcell (by omega)
    refine ⟨b, off, rfl, block_of_cell (hc 0 (by omega)), fun j u hj => ?_⟩
    have hj' : j < len := by
      have := (List.getElem?_eq_some_iff.1 hj).1
      rwa [icells_len, hlen] at this
    rw [hc j (by omega)]
    unfold icells at hj
    rw [List.getElem?_map, List.getElem?_take, if_pos hj', List.getElem?_eq_getElem (by omega)] at hj
    rw [← Option.some.inj hj]
    simp [List.getD, List.getElem?_eq_getElem (show j < zs.length by omega)]

theorem own_slice {w : World} {base : Nat} {e : TypeId} {size n : Nat} {v : Value} {xs : List Value} (h : w.ownsRow base e size v n xs) : ∃ A c, v = .slice A n c := by
  rcases h.2 with ⟨rfl, rfl⟩ | ⟨g, cap, cur, rfl, _⟩
  · exact ⟨none, 0, rfl⟩
  · exact ⟨some ⟨g, 0, none⟩, cap, rfl⟩
theorem ints_oneCell' (l : List Int) : ∀ u ∈ icells l, u.oneCell' = true := by
  intro u hu
  unfold icells at hu
  obtain ⟨x, _, rfl⟩ := List.mem_map.1 hu
  rfl

set_option maxRecDepth 100000 in
set_option maxHeartbeats 1000000 in
theorem walk_great (s : ByteArray) (A : Option Addr) (n c : Nat) (v : Int) (w : World) (hT : Tab w) (h : 2000 < s.size) :
    Calls Tryd.prog 3 #[.string s, .slice A n c, .int .i64 v] w fun e w' => e = .returned (.bool true) ∧ Below w.heap.size w w' := by
  have HT := Lib.hid hT
  clear hT
  go_enter Tryd.func3, Tryd.ntmps3
  go_wp2_with fail
  refine (wakes_any _ HT.out).mono ?_
  rintro e w1 ⟨rfl, b1⟩
  go_wp2_with fail
  go_ret
  exact ⟨rfl, b1⟩
set_option maxRecDepth 100000 in
set_option maxHeartbeats 1000000 in
theorem walk_great2 (s : ByteArray) (A : Option Addr) (n c : Nat) (v : Int) (w : World) (hT : Tab w) (h : s.size ≤ 2000) (h2 : 500 < n) :
    Calls Tryd.prog 3 #[.string s, .slice A n c, .int .i64 v] w fun e w' => e = .returned (.bool true) ∧ Below w.heap.size w w' := by
  have HT := Lib.hid hT
  clear hT
  go_enter Tryd.func3, Tryd.ntmps3
  go_wp2_with fail
  refine (wakes_any _ HT.out).mono ?_
  rintro e w1 ⟨rfl, b1⟩
  go_wp2_with fail
  go_ret
  exact ⟨rfl, b1⟩

/-- What the two ways of each thing return: the same. -/
structure Same (s : ByteArray) (n : Nat) (v : Int) (l : List Int) (tx sb : ByteArray) (ok x vd : Bool) (P : List Tr) : Prop where
  text : ∀ (A : Option Addr) (c : Nat) (W : World), Reads W W.heap.size 1 A n (icells l) → Tab W → Calls Tryd.prog 9 #[.slice A n c] W fun e w' => e = .returned (.tuple #[.string tx, .bool ok]) ∧ Below W.heap.size W w'
  reft : ∀ (A : Option Addr) (c : Nat) (W : World), Reads W W.heap.size 1 A n (icells l) → Calls Tryd.prog 10 #[.slice A n c] W fun e w' => e = .returned (.tuple #[.string tx, .bool ok]) ∧ Below W.heap.size W w'
  bytes : ∀ W : World, Tab W → Calls Tryd.prog 11 #[.int .i64 v] W fun e w' => e = .returned (.tuple #[.string sb, .bool x]) ∧ Below W.heap.size W w'
  refb : ∀ W : World, Calls Tryd.prog 17 #[.int .i64 v] W fun e w' => e = .returned (.string sb) ∧ Below W.heap.size W w'
  pieces : ∀ W : World, Tab W → Calls Tryd.prog 13 #[.string s] W (OutTs P W)
  refp : ∀ W : World, Calls Tryd.prog 14 #[.string s] W (OutTs P W)
  valid : ∀ W : World, Tab W → Calls Tryd.prog 15 #[.string s] W fun e w' => e = .returned (.bool vd) ∧ Below W.heap.size W w'
  refv : ∀ W : World, Calls Tryd.prog 16 #[.string s] W fun e w' => e = .returned (.bool vd) ∧ Below W.heap.size W w'
  some_ : (x = true ∧ sb.toList.isEmpty = false) ∨ (x = false ∧ sb = ⟨#[]⟩)
  len : P.length ≤ 2000

theorem same_of (s : ByteArray) (n : Nat) (v : Int) (l : List Int) (hl : l.length = n) (h : s.size ≤ 2000) (h2 : n ≤ 500) : ∃ tx sb ok x vd P, Same s n v l tx sb ok x vd P := by
  refine ⟨strOf (if allB l = true then textL l else []), strOf (bytesOf v), allB l, isB v, validL s.data.toList, tris s.data.toList, ?_⟩
  constructor
  · intro A c W hR hW; subst hl; exact text_any l A c W hR (by omega) hW
  · intro A c W hR; exact refText_any l n hl A c W hR (by omega)
  · intro W hW; exact bytes_any v W hW
  · intro W; exact refBytes_any v W
  · intro W hW; exact pieces_tr s W (by omega) hW
  · intro W; exact refPieces_tr s W (by omega)
  · intro W hW; exact valid_any s W (by unfold maxLen; omega) hW
  · intro W; exact refValid_any s W (by omega)
  · cases hB : isB v
    · right; exact ⟨rfl, by rw [bytesOf_no hB]; rfl⟩
    · left; exact ⟨rfl, bytes_some hB⟩
  · unfold tris; rw [List.length_map]; exact Nat.le_trans (piecesAt_len _ 0 _ (Nat.le_refl _)) (by rw [← size_list]; exact h)

set_option maxRecDepth 100000 in
set_option maxHeartbeats 4000000 in
theorem walk_nil (s : ByteArray) (v : Int) (w : World) (hT : Tab w) (h : s.size ≤ 2000) :
    Calls Tryd.prog 3 #[.string s, .slice none 0 0, .int .i64 v] w fun e w' => e = .returned (.bool true) ∧ Below w.heap.size w w' := by
  obtain ⟨tx, sb, ok, x, vd, P, hS⟩ := same_of s 0 v [] rfl h (by omega)
  obtain ⟨i0, hi0, hz0, hz1, hz2⟩ := info_parts info3
  have HS := Lib.hid hS
  have HT := Lib.hid hT
  obtain ⟨n, hn0⟩ : ∃ n : Nat, n = 0 := ⟨0, rfl⟩
  obtain ⟨l, hl0⟩ : ∃ l : List Int, l = [] := ⟨[], rfl⟩
  clear hS hT
  rcases HS.out.some_ with ⟨rfl, hsb⟩ | ⟨rfl, rfl⟩
  all_goals
    go_enter Tryd.func3, Tryd.ntmps3
    have HO : Hid (∀ W : World, (W.alloc (.cells #[] 3)).ownsRow W.heap.size 3 1 (.slice (some ⟨W.heap.size, 0, none⟩) 0 0) 0 []) := Lib.hid (fun W => World.ownsRow_lit W #[] 0 (Nat.le_refl _) (by unfold maxLen; omega) rfl)
    go_wp2_with (at_builtin; refine wpList_append_own_none rfl (.tmp 23) (.tmp 24) 22 rfl w.heap.size 3 i0 1 Tryd.underlying22 hi0 _ _ _ rfl (HO.out _) rfl ?_)
    have hi := HO.out w
    have b1 : Below w.heap.size w (w.alloc (.cells #[] 3)) := (Below.refl _ _).alloc (Nat.le_refl _) _
    have HLN : Hid (([] : List Int).length = 0) := Lib.hid rfl
    have HRl : Hid (Reads w w.heap.size 1 none 0 (icells [])) := Lib.hid ⟨rfl, fun h => absurd h (by omega)⟩
    generalize w.alloc (.cells #[] 3) = w1 at *
    skip
    skip
    have HI1 := Lib.hid (Reads.of_own hi)
    have HT1 := Lib.hid (HT.out.below b1)
    have HL1 := Lib.hid ((HRl.out.below b1).more b1.size)
    clear hi HT HRl
    go_wp2_with fail
    refine (HS.out.text _ _ _ HI1.out HT1.out).mono ?_
    rintro e w2 ⟨rfl, g⟩
    have HT2 := Lib.hid (HT1.out.below g)
    have HL2 := Lib.hid ((HL1.out.below g).more g.size)
    have HI2 := Lib.hid ((HI1.out.below g).more g.size)
    have b2 := b1.trans (g.mono b1.size)
    clear g HT1 HL1 HI1 b1
    go_wp2_with fail
    refine (HS.out.reft _ _ _ HL2.out).mono ?_
    rintro e w3 ⟨rfl, g⟩
    have HT3 := Lib.hid (HT2.out.below g)
    have HL3 := Lib.hid ((HL2.out.below g).more g.size)
    have HI3 := Lib.hid ((HI2.out.below g).more g.size)
    have b3 := b2.trans (g.mono b2.size)
    clear g HT2 HL2 HI2 b2
    go_wp2_with fail
    refine (HS.out.bytes _ HT3.out).mono ?_
    rintro e w4 ⟨rfl, g⟩
    have HT4 := Lib.hid (HT3.out.below g)
    have HL4 := Lib.hid ((HL3.out.below g).more g.size)
    have HI4 := Lib.hid ((HI3.out.below g).more g.size)
    have b4 := b3.trans (g.mono b3.size)
    clear g HT3 HL3 HI3 b3
    go_wp2_with fail
    refine (HS.out.pieces _ HT4.out).mono ?_
    rintro e w5 ⟨A5, c5, rfl, hR5, g⟩
    have HT5 := Lib.hid (HT4.out.below g)
    have HL5 := Lib.hid ((HL4.out.below g).more g.size)
    have HI5 := Lib.hid ((HI4.out.below g).more g.size)
    have HP5 := Lib.hid hR5
    have b5 := b4.trans (g.mono b4.size)
    clear g HT4 HL4 HI4 b4 hR5
    go_wp2_with fail
    refine (HS.out.refp _).mono ?_
    rintro e w6 ⟨A6, c6, rfl, hR6, g⟩
    have HT6 := Lib.hid (HT5.out.below g)
    have HL6 := Lib.hid ((HL5.out.below g).more g.size)
    have HI6 := Lib.hid ((HI5.out.below g).more g.size)
    have HP6 := Lib.hid ((HP5.out.below g).more g.size)
    have HQ6 := Lib.hid hR6
    have b6 := b5.trans (g.mono b5.size)
    clear g HT5 HL5 HI5 b5 hR6 HP5
    go_wp2_with fail
    refine (keep_any P P A5 A6 _ _ c5 c6 _ rfl rfl HP6.out HQ6.out (by have := HS.out.len; omega)).mono ?_
    rintro e w7 ⟨rfl, g⟩
    rw [eqTs_same]
    have HT7 := Lib.hid (HT6.out.below g)
    have HL7 := Lib.hid ((HL6.out.below g).more g.size)
    have HI7 := Lib.hid ((HI6.out.below g).more g.size)
    have b7 := b6.trans (g.mono b6.size)
    clear g HT6 HL6 HI6 b6 HP6 HQ6
    go_wp2_with fail
    refine (HS.out.valid _ HT7.out).mono ?_
    rintro e w8 ⟨rfl, g⟩
    have HT8 := Lib.hid (HT7.out.below g)
    have HL8 := Lib.hid ((HL7.out.below g).more g.size)
    have HI8 := Lib.hid ((HI7.out.below g).more g.size)
    have b8 := b7.trans (g.mono b7.size)
    clear g HT7 HL7 HI7 b7
    go_wp2_with fail
    refine (HS.out.refv _).mono ?_
    rintro e w9 ⟨rfl, g⟩
    have HT9 := Lib.hid (HT8.out.below g)
    have HL9 := Lib.hid ((HL8.out.below g).more g.size)
    have HI9 := Lib.hid ((HI8.out.below g).more g.size)
    have b9 := b8.trans (g.mono b8.size)
    clear g HT8 HL8 HI8 b8
    go_wp2_with fail
    refine (HS.out.refb _).mono ?_
    rintro e w10 ⟨rfl, g⟩
    have HT10 := Lib.hid (HT9.out.below g)
    have HL10 := Lib.hid ((HL9.out.below g).more g.size)
    have HI10 := Lib.hid ((HI9.out.below g).more g.size)
    have b10 := b9.trans (g.mono b9.size)
    clear g HT9 HL9 HI9 b9
    go_wp2_with fail
    refine (HS.out.refb _).mono ?_
    rintro e w11 ⟨rfl, g⟩
    have HT11 := Lib.hid (HT10.out.below g)
    have HL11 := Lib.hid ((HL10.out.below g).more g.size)
    have HI11 := Lib.hid ((HI10.out.below g).more g.size)
    have b11 := b10.trans (g.mono b10.size)
    clear g HT10 HL10 HI10 b10
    go_wp2_with fail
    refine (ints_same [] 0 rfl _ _ _ _ _ HI11.out HL11.out (by omega)).mono ?_
    rintro e w12 ⟨rfl, g⟩
    have HT12 := Lib.hid (HT11.out.below g)
    have b12 := b11.trans (g.mono b11.size)
    clear g HT11 HL11 HI11 b11
    go_wp2_with fail
    refine (wakes_any _ HT12.out).mono ?_
    rintro e w13 ⟨rfl, g⟩
    have b13 := b12.trans (g.mono b12.size)
    clear g HT12 b12
    go_wp2_with fail
    go_ret
    exact ⟨rfl, b13⟩


set_option maxRecDepth 100000 in
set_option maxHeartbeats 4000000 in
theorem walk_some (s : ByteArray) (ad : Addr) (n c : Nat) (l : List Int) (v : Int) (w : World) (hT : Tab w) (h : s.size ≤ 2000) (h2 : n ≤ 500) (hln : l.length = n) (hRl : Reads w w.heap.size 1 (some ad) n (icells l)) (hcell : ∀ (j : Nat) (u : Value), (icells l)[j]? = some u → w.cell? (ad.add j) = some u) (hb : ∀ (j : Nat) (u : Value), (icells l)[j]? = some u → ad.block < w.heap.size) :
    Calls Tryd.prog 3 #[.string s, .slice (some ad) n c, .int .i64 v] w fun e w' => e = .returned (.bool true) ∧ Below w.heap.size w w' := by
  obtain ⟨tx, sb, ok, x, vd, P, hS⟩ := same_of s n v l hln h h2
  obtain ⟨i0, hi0, hz0, hz1, hz2⟩ := info_parts info3
  have HS := Lib.hid hS
  have HT := Lib.hid hT
  have HLN := Lib.hid hln
  have HRl := Lib.hid hRl
  have HCE : Hid (∀ (j : Nat) (u : Value), (icells l)[j]? = some u → (w.alloc (.cells #[] 3)).cell? (ad.add j) = some u) := Lib.hid (fun j u hj => by
    rw [World.cell?_alloc_lt w _ _ (by rw [block_of_add]; exact hb j u hj)]
    exact hcell j u hj)
  have HLL : Hid ((icells l).length = n * 1) := Lib.hid (by rw [icells_len, hln, Nat.mul_one])
  have HON := Lib.hid (ints_oneCell' l)
  clear hS hT hln hRl hcell hb
  rcases HS.out.some_ with ⟨rfl, hsb⟩ | ⟨rfl, rfl⟩
  all_goals
    have HO : Hid ((w.alloc (.cells #[] 3)).ownsRow w.heap.size 3 1 (.slice (some ⟨w.heap.size, 0, none⟩) 0 0) 0 []) := Lib.hid (World.ownsRow_lit w #[] 0 (Nat.le_refl _) (by unfold maxLen; omega) rfl)
    go_enter Tryd.func3, Tryd.ntmps3
    go_wp2_with (at_builtin; refine wpList_append_own _ rfl (.tmp 23) (.tmp 24) 22 rfl w.heap.size 3 i0 _ 1 8 Tryd.underlying22 hi0 hz0 hz1 hz2 rfl (by decide) _ _ _ rfl HO.out ad n c (icells l) rfl HLL.out HCE.out HON.out (by unfold maxLen; omega) (by omega) (by simp) ?_; intro vi w1 hi0' hgrow _)
    have b1 : Below w.heap.size w w1 := below_grown ((Below.refl _ _).alloc (Nat.le_refl _) _) (by simp) HO.out hgrow
    have hi : w1.ownsRow w.heap.size 3 1 vi n (icells l) := by simpa using hi0'
    clear hi0' hgrow HO HCE HLL HON
    have hi' : w1.ownsRow w.heap.size 3 1 vi n (icells l) := hi
    obtain ⟨Ai, ci, rfl⟩ := own_slice hi'
    have HI1 := Lib.hid (Reads.of_own hi')
    have HT1 := Lib.hid (HT.out.below b1)
    have HL1 := Lib.hid ((HRl.out.below b1).more b1.size)
    clear hi hi' HT HRl
    go_wp2_with fail
    refine (HS.out.text _ _ _ HI1.out HT1.out).mono ?_
    rintro e w2 ⟨rfl, g⟩
    have HT2 := Lib.hid (HT1.out.below g)
    have HL2 := Lib.hid ((HL1.out.below g).more g.size)
    have HI2 := Lib.hid ((HI1.out.below g).more g.size)
    have b2 := b1.trans (g.mono b1.size)
    clear g HT1 HL1 HI1 b1
    go_wp2_with fail
    refine (HS.out.reft _ _ _ HL2.out).mono ?_
    rintro e w3 ⟨rfl, g⟩
    have HT3 := Lib.hid (HT2.out.below g)
    have HL3 := Lib.hid ((HL2.out.below g).more g.size)
    have HI3 := Lib.hid ((HI2.out.below g).more g.size)
    have b3 := b2.trans (g.mono b2.size)
    clear g HT2 HL2 HI2 b2
    go_wp2_with fail
    refine (HS.out.bytes _ HT3.out).mono ?_
    rintro e w4 ⟨rfl, g⟩
    have HT4 := Lib.hid (HT3.out.below g)
    have HL4 := Lib.hid ((HL3.out.below g).more g.size)
    have HI4 := Lib.hid ((HI3.out.below g).more g.size)
    have b4 := b3.trans (g.mono b3.size)
    clear g HT3 HL3 HI3 b3
    go_wp2_with fail
    refine (HS.out.pieces _ HT4.out).mono ?_
    rintro e w5 ⟨A5, c5, rfl, hR5, g⟩
    have HT5 := Lib.hid (HT4.out.below g)
    have HL5 := Lib.hid ((HL4.out.below g).more g.size)
    have HI5 := Lib.hid ((HI4.out.below g).more g.size)
    have HP5 := Lib.hid hR5
    have b5 := b4.trans (g.mono b4.size)
    clear g HT4 HL4 HI4 b4 hR5
    go_wp2_with fail
    refine (HS.out.refp _).mono ?_
    rintro e w6 ⟨A6, c6, rfl, hR6, g⟩
    have HT6 := Lib.hid (HT5.out.below g)
    have HL6 := Lib.hid ((HL5.out.below g).more g.size)
    have HI6 := Lib.hid ((HI5.out.below g).more g.size)
    have HP6 := Lib.hid ((HP5.out.below g).more g.size)
    have HQ6 := Lib.hid hR6
    have b6 := b5.trans (g.mono b5.size)
    clear g HT5 HL5 HI5 b5 hR6 HP5
    go_wp2_with fail
    refine (keep_any P P A5 A6 _ _ c5 c6 _ rfl rfl HP6.out HQ6.out (by have := HS.out.len; omega)).mono ?_
    rintro e w7 ⟨rfl, g⟩
    rw [eqTs_same]
    have HT7 := Lib.hid (HT6.out.below g)
    have HL7 := Lib.hid ((HL6.out.below g).more g.size)
    have HI7 := Lib.hid ((HI6.out.below g).more g.size)
    have b7 := b6.trans (g.mono b6.size)
    clear g HT6 HL6 HI6 b6 HP6 HQ6
    go_wp2_with fail
    refine (HS.out.valid _ HT7.out).mono ?_
    rintro e w8 ⟨rfl, g⟩
    have HT8 := Lib.hid (HT7.out.below g)
    have HL8 := Lib.hid ((HL7.out.below g).more g.size)
    have HI8 := Lib.hid ((HI7.out.below g).more g.size)
    have b8 := b7.trans (g.mono b7.size)
    clear g HT7 HL7 HI7 b7
    go_wp2_with fail
    refine (HS.out.refv _).mono ?_
    rintro e w9 ⟨rfl, g⟩
    have HT9 := Lib.hid (HT8.out.below g)
    have HL9 := Lib.hid ((HL8.out.below g).more g.size)
    have HI9 := Lib.hid ((HI8.out.below g).more g.size)
    have b9 := b8.trans (g.mono b8.size)
    clear g HT8 HL8 HI8 b8
    go_wp2_with fail
    refine (HS.out.refb _).mono ?_
    rintro e w10 ⟨rfl, g⟩
    have HT10 := Lib.hid (HT9.out.below g)
    have HL10 := Lib.hid ((HL9.out.below g).more g.size)
    have HI10 := Lib.hid ((HI9.out.below g).more g.size)
    have b10 := b9.trans (g.mono b9.size)
    clear g HT9 HL9 HI9 b9
    go_wp2_with fail
    refine (HS.out.refb _).mono ?_
    rintro e w11 ⟨rfl, g⟩
    have HT11 := Lib.hid (HT10.out.below g)
    have HL11 := Lib.hid ((HL10.out.below g).more g.size)
    have HI11 := Lib.hid ((HI10.out.below g).more g.size)
    have b11 := b10.trans (g.mono b10.size)
    clear g HT10 HL10 HI10 b10
    go_wp2_with fail
    refine (ints_same l n HLN.out _ _ _ _ _ HI11.out HL11.out (by omega)).mono ?_
    rintro e w12 ⟨rfl, g⟩
    have HT12 := Lib.hid (HT11.out.below g)
    have b12 := b11.trans (g.mono b11.size)
    clear g HT11 HL11 HI11 b11
    go_wp2_with fail
    refine (wakes_any _ HT12.out).mono ?_
    rintro e w13 ⟨rfl, g⟩
    have b13 := b12.trans (g.mono b12.size)
    clear g HT12 b12
    go_wp2_with fail
    go_ret
    exact ⟨rfl, b13⟩

theorem walk (s : ByteArray) (A : Option Addr) (len cap : Nat) (zs : List Int) (v : Int) (w : World) (hT : Tab w) (_ : s.size ≤ maxLen) (hz : IsRow .i64 w A len cap zs) (_ : (Lit.int .i64 v).wf = true) :
    Calls Tryd.prog 3 #[.string s, .slice A len cap, .int .i64 v] w fun e w' => e = .returned (.bool true) ∧ Below w.heap.size w w' := by
  by_cases h1 : s.size ≤ 2000
  · by_cases h2 : len ≤ 500
    · obtain ⟨hR, hl⟩ := reads_row hz
      rcases hz with ⟨rfl, rfl, rfl, rfl⟩ | ⟨ad, rfl, hlc, hm, hzl, hcell, hw⟩
      · exact walk_nil s v w hT h1
      · have hat : ∀ (j : Nat) (u : Value), (icells (zs.take len))[j]? = some u → j < len ∧ w.cell? (ad.add j) = some u := fun j u hj => by
          have hj' : j < len := by
            have := (List.getElem?_eq_some_iff.1 hj).1
            rwa [icells_len, hl] at this
          refine ⟨hj', ?_⟩
          rw [hcell j (by omega)]
          unfold icells at hj
          rw [List.getElem?_map, List.getElem?_take, if_pos hj', List.getElem?_eq_getElem (by omega)] at hj
          rw [← Option.some.inj hj]
          simp [List.getD, List.getElem?_eq_getElem (show j < zs.length by omega)]
        refine walk_some s ad len cap (zs.take len) v w hT h1 h2 hl hR (fun j u hj => (hat j u hj).2) (fun j u hj => ?_)
        obtain ⟨b, o, e, hb, _⟩ := hR.2 (by have := (hat j u hj).1; omega)
        injection e with e
        rw [e]; exact hb
    · exact walk_great2 s A len cap v w hT h1 (by omega)
  · exact walk_great s A len cap v w hT (by omega)

/-! From the walk to the row and its card. -/
theorem contract (H : Type) (enc : TypeId × Value → H) (W : World) (base : Nat) (args : Array Value) (ds gs : List (DataW H)) (before : List MemPlace)
    (hval0 : ∀ (j : Nat) t v, Tryd.f3.params[j]? = some t → args[j]? = some v → Value.okWide Tryd.prog W .any base t v)
    (hW : DataW.Whole enc Tryd.prog Tryd.f3.params.toList Rows.utfTellsSpec.vars false W args.toList ds gs before) (hL : laidMetH Tryd.prog Rows.utfTellsRow.laid W) :
    Calls Tryd.prog 3 args W fun e W' => ∃ v, e = .returned v ∧ Rows.utfTellsSpec.post enc Tryd.prog Tryd.f3 false true false false W args v W' := by
  have hval : ∀ (j : Nat) t v, Tryd.f3.params[j]? = some t → args[j]? = some v → Value.okWide Tryd.prog W .any base t v := hval0
  have hW' := hW
  obtain ⟨p, q, hA0, hV, rfl, hfz, hnd⟩ := hW
  have hA : DataW.TrodAll enc Tryd.prog W 0 (fun _ => true) true Tryd.f3.params.toList args.toList ds p := hA0
  rw [Tryd.params3] at hA hval
  obtain ⟨v0, vs0, d0, ds0, p0, q0, hargs, rfl, rfl, h0, r0⟩ := trodAll_cons hA
  obtain ⟨v1, vs1, d1, ds1, p1, q1, rfl, rfl, rfl, h1, r1⟩ := trodAll_cons r0
  obtain ⟨v2, vs2, d2, ds2, p2, q2, rfl, rfl, rfl, h2, r2⟩ := trodAll_cons r1
  obtain ⟨rfl, rfl, rfl⟩ := trodAll_nil r2
  obtain rfl : args = #[v0, v1, v2] := by cases args; simp_all
  obtain ⟨rfl, rfl⟩ := trodVars_none hV
  obtain ⟨a0, rfl, rfl, rfl, w0⟩ := open_string Tryd.underlying9 (hval 0 9 v0 rfl rfl) h0
  obtain ⟨a1, len1, cap1, rfl⟩ := okWide_slice Tryd.underlying22 (hval 1 22 v1 rfl rfl)
  have k1 := h1
  have lt1 : ∀ x ∈ p1, x.block < W.heap.size := by obtain ⟨m, hm⟩ := k1; exact DataW.trod_lt m _ _ _ hm
  obtain ⟨z1, w1⟩ : ∃ zs, IsRow .i64 W a1 len1 cap1 zs := by
    obtain ⟨fuel, hf⟩ := h1
    rcases open_ints Tryd.underlying22 Tryd.underlying3 (by kernel_rfl) hf with ⟨hcs, _⟩ | ⟨x, l, c, zs, hcs, _, hl, hm, hz, _, hcell, hwz⟩
    · simp [Value.cells] at hcs
      obtain ⟨rfl, rfl, rfl⟩ := hcs
      exact ⟨[], .inl ⟨rfl, rfl, rfl, rfl⟩⟩
    · simp [Value.cells] at hcs
      obtain ⟨rfl, rfl, rfl⟩ := hcs
      exact ⟨zs, .inr ⟨_, rfl, hl, hm, by simpa using hz, hcell, hwz⟩⟩
  obtain ⟨a2, rfl, rfl, rfl, w2⟩ := open_int Tryd.underlying3 (hval 2 3 v2 rfl rfl) h2
  clear hA0 hval0
  refine (walk a0 a1 len1 cap1 z1 a2 W (tab_of_laid hL) w0 w1 w2).mono fun e W' ⟨he, bel⟩ => ?_
  subst he
  exact ⟨_, rfl, _, _, _, [], _, [], hW', trodAll_mk1 (shut_bool Tryd.underlying4 _), (trodAll_cons_mk (shut_string Tryd.underlying9 w0) (trodAll_cons_mk (Below.trod laidOut (by kernel_rfl) (of_decide_eq_true (by kernel_rfl)) k1 bel lt1) (trodAll_cons_mk (shut_int Tryd.underlying3 w2) trodAll_mk0))), rfl, bel.frame _, fun h => by cases h⟩

theorem laid_met (os : Os) : laidMet Tryd.prog Rows.utfTellsRow.laid ((laidWorld os).forCall (fun _ _ => 0) ⟨#[], #[.string ByteArray.empty, .slice none 0 0, .int .i64 0], []⟩).memory :=
  laidMet_of_run' 8 (by kernel_rfl) (by kernel_rfl)
theorem reads (os : Os) {H : Type} (enc : TypeId × Value → H) : ∃ places, DataW.whole enc Tryd.prog ((laidWorld os).forCall (fun _ _ => 0) ⟨#[], #[.string ByteArray.empty, .slice none 0 0, .int .i64 0], []⟩).memory Tryd.f3.params.toList Rows.utfTellsSpec.vars false (#[.string ByteArray.empty, .slice none 0 0, .int .i64 0] : Array Value).toList 8 = some ([.lit (.string []), .nil, .lit (.int .i64 0)], [], places) :=
  ⟨[], by kernel_rfl⟩

set_option maxRecDepth 100000 in
theorem lifted (os : Os) (started : os.Started) (H : Type) (enc : TypeId × Value → H) (F : Stop.Interp) :
    ReturnsInHanded {} Tryd.checked os 3 .any ((OpenSpec.ofChange Rows.utfTellsSpec).preRow enc Tryd.prog Tryd.f3 Rows.utfTellsRow.domain false Rows.utfTellsRow.laid) (((OpenSpec.ofChange Rows.utfTellsSpec).at F).post enc Tryd.prog Tryd.f3 false true false false) := by
  obtain ⟨places, hx⟩ := reads os enc
  refine returnsInHanded_of_row (C := Tryd.checked) (s := OpenSpec.ofChange Rows.utfTellsSpec) own started (by kernel_rfl) Tryd.func3
    (witness_row_at (enc := enc) (C := Tryd.checked) false (laidWorld os) #[.string ByteArray.empty, .slice none 0 0, .int .i64 0] rfl (by kernel_rfl) (by kernel_rfl) (by kernel_rfl)
      (OpenSpec.preRow_of_cond 8 hx (by kernel_rfl) (fun k hk => by cases hk) (by kernel_rfl) (laid_met os))) ?_
  intro W base args ds gs before hval hW _ _ _ hL _ _
  exact contract H enc W base args ds gs before hval hW hL

theorem said : Rows.UtfTellsSaid :=
  OpenClaim.holds_of_cond 3 Tryd.f3 rfl rfl rfl rfl rfl rfl rfl ⟨rfl, rfl, rfl, rfl, rfl⟩ rfl rfl rfl rfl rfl (by kernel_rfl) Tryd.func3 (by kernel_rfl)
    (of_decide_eq_true (by kernel_rfl)) (by unfold Func.isWrapper; first | (rw [if_pos (by decide +kernel)]; kernel_rfl) | (rw [if_neg (by decide +kernel)]; exact ⟨rfl, rfl⟩))
    (fun os started H enc _ F => by rw [OpenClaim.pre_eq_preRow]; exact lifted os started H enc F)

theorem plain (f : FuncId) (fn : Func) (hf : Tryd.pinned.checked.prog.funcNamed Rows.utfTellsRow.func = some f) (hfn : Tryd.pinned.checked.prog.funcs[f]? = some fn) :
    false = Tryd.pinned.checked.prog.looks [] ∧ ∀ (j : Nat) t, fn.params[j]? = some t → Tryd.pinned.checked.prog.wantsStandIn t = false := by
  obtain rfl : f = 3 := Option.some.inj ((show Tryd.prog.funcNamed Rows.utfTellsRow.func = some 3 by kernel_rfl).symm.trans hf) |>.symm
  obtain rfl : fn = Tryd.f3 := (Option.some.inj (Tryd.func3.symm.trans hfn)).symm
  refine ⟨by kernel_rfl, fun j t ht => ?_⟩
  rw [Tryd.params3] at ht
  have hm : t ∈ [9, 22, 3] := by simpa using Array.mem_of_getElem? ht
  have hall : ([9, 22, 3].all fun u => !Tryd.prog.wantsStandIn u) = true := by kernel_rfl
  exact (show Tryd.prog.wantsStandIn t = false by simpa using List.all_eq_true.1 hall t hm)

theorem card : Rows.UtfTellsCardSaid :=
  Claim7.holds_tied_plain_at .later [] _ _ _ _ said (fun _ h => by cases h) (by kernel_rfl) (fun _ h => by cases h) utfTells_row_tie rfl ⟨rfl, rfl⟩ (by kernel_rfl) rfl plain (by kernel_rfl)
end Go.Proofs.YtmpehgdmdejmlaaDoor.utfTells

namespace Go.Proofs.YtmpehgdmdejmlaaDoor
/-- The given statement, under a short name. -/
theorem utfTells_holds : Rows.UtfTellsCardSaid := utfTells.card
#print axioms utfTells_holds
end Go.Proofs.YtmpehgdmdejmlaaDoor

