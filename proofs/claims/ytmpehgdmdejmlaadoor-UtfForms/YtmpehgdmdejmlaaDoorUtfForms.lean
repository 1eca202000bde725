/- The law UtfForms returns true at every 64-bit integer: a scalar's bytes are one to four, as its number says; all behind the first go on; cut anywhere they are one piece that is ill-formed. Conditions: the table of lead bytes holds what the program's text lays (the card ties it); nothing that was there before the call is changed. -/
import Derived.Test.YtmpehgdmdejmlaaDoorLaid
namespace Go.Proofs.YtmpehgdmdejmlaaDoor.utfForms
open Go.ChangeShapes Go.WideShapes Go.ChangeAt Go.RowKit
open Go.ChangeMaps (open_string shut_string)
set_option linter.unusedVariables false
set_option linter.unusedSimpArgs false

theorem size_list (s : ByteArray) : s.size = s.data.toList.length := (Array.length_toList).symm
theorem extract_data (s : ByteArray) (k : Nat) : (s.extract 0 k).data.toList = s.data.toList.take k := by
  simp [ByteArray.data_extract]

theorem tris_one (l : List UInt8) (p : Pc) (h : pieceOf l = p) (hn : p.n = l.length) (h0 : l ≠ []) : tris l = [⟨p.v, 0, p.n⟩] := by
  unfold tris
  rw [piecesAt_step 0 l h0, h, hn, List.drop_length, piecesAt_nil]
  simp [tri, hn]

/-- The pieces of a scalar's bytes, whole and cut. -/
theorem tris_whole (v : Int) (h : isB v = true) : tris (bytesOf v) = [⟨v, 0, (bytesOf v).length⟩] := by
  have hp := piece_bytes v [] h
  rw [List.append_nil] at hp
  exact tris_one _ _ hp rfl (bytesOf_ne v h)
theorem tris_cut (v : Int) (k : Nat) (h : isB v = true) (h0 : 0 < k) (h1 : k < (bytesOf v).length) : tris ((bytesOf v).take k) = [⟨65533, 0, k⟩] := by
  have hl : ((bytesOf v).take k).length = k := by rw [List.length_take]; omega
  exact tris_one _ _ (piece_cut v k h h0 h1) hl.symm (fun e => by rw [e] at hl; simp at hl; omega)

theorem cut_call (v : Int) (s : ByteArray) (k : Nat) (h : isB v = true) (hs : s.data.toList = bytesOf v) (h0 : 0 < k) (h1 : k < (bytesOf v).length) (W : World) (hT : Tab W) :
    Calls Tryd.prog 13 #[.string (s.extract 0 k)] W (OutTs [⟨65533, 0, k⟩] W) := by
  have hl := bytesOf_len v
  have := pieces_tr (s.extract 0 k) W (by
    rw [size_list, extract_data, List.length_take]; omega) hT
  rwa [extract_data, hs, tris_cut v k h h0 h1] at this
theorem whole_call (v : Int) (s : ByteArray) (h : isB v = true) (hs : s.data.toList = bytesOf v) (W : World) (hT : Tab W) :
    Calls Tryd.prog 13 #[.string s] W (OutTs [⟨v, 0, (bytesOf v).length⟩] W) := by
  have hl := bytesOf_len v
  have := pieces_tr s W (by
    rw [size_list, hs]; omega) hT
  rwa [hs, tris_whole v h] at this

/-- One row of one piece against another that is the same. -/
theorem keep_one (p : Tr) (A : Option Addr) (c b : Nat) (w : World) (hP : Reads w w.heap.size 3 A 1 (tcells [p])) (h0 : w.cell? ⟨b, 0, none⟩ = some (.int .i64 p.v)) (h1 : w.cell? ⟨b, 1, none⟩ = some (.int .i64 p.a)) (h2 : w.cell? ⟨b, 2, none⟩ = some (.int .i64 p.n)) (hb : b < w.heap.size) :
    Calls Tryd.prog 12 #[.slice A 1 c, .slice (some ⟨b, 0, none⟩) 1 1] w fun e w' => e = .returned (.bool true) ∧ Below w.heap.size w w' := by
  have h := keep_any [p] [p] A (some ⟨b, 0, none⟩) 1 1 c 1 w rfl rfl hP ⟨rfl, fun _ => ⟨b, 0, rfl, hb, by
    intro j u hj
    match j, hj with
    | 0, hj => simp [tcells, tcell] at hj; subst hj; simpa using h0
    | 1, hj => simp [tcells, tcell] at hj; subst hj; simpa using h1
    | 2, hj => simp [tcells, tcell] at hj; subst hj; simpa using h2⟩⟩ (by omega)
  rwa [eqTs_same] at h

theorem at_list (s : ByteArray) (l : List UInt8) (h : s.data.toList = l) (k : Nat) (hk : k < s.size) : ∃ b, l[k]? = some b ∧ s[k].toNat = b.toNat := by
  refine ⟨s[k], ?_, rfl⟩
  rw [← h]
  have : k < s.data.toList.length := by simpa using hk
  rw [List.getElem?_eq_getElem this]
  rfl

set_option maxRecDepth 100000 in
set_option maxHeartbeats 2000000 in
theorem form1 (v : Int) (s : ByteArray) (w : World) (hT : Tab w) (h0 : 0 ≤ v) (h1 : v ≤ 127) (hsz : s.size = 1) (hi : isB v = true) (hs : s.data.toList = bytesOf v) (hlen : (bytesOf v).length = 1)
   (hB : ∀ W : World, Tab W → Calls Tryd.prog 11 #[.int .i64 v] W fun e w' => e = .returned (.tuple #[.string s, .bool true]) ∧ Below W.heap.size W w')
   (hf : s[0].toNat < 128) :
    Calls Tryd.prog 6 #[.int .i64 v] w fun e w' => e = .returned (.bool true) ∧ Below w.heap.size w w' := by
  have HT := Lib.hid hT
  have HB := Lib.hid hB
  have hw := whole_call v s hi hs
  rw [hlen] at hw
  have HW := Lib.hid hw
  clear hT hB hw hi hs hlen
  go_enter Tryd.func6, Tryd.ntmps6
  go_wp2_with fail
  refine (HB.out _ HT.out).mono ?_
  rintro e w1 ⟨rfl, b1⟩
  have HT1 := Lib.hid (HT.out.below b1)
  clear HT HB
  go_wp2_with fail
  refine wp_loop_rounds 1 ?_
  rw [rounds_succ]
  go_wp2_with fail
  refine (HW.out _ HT1.out).mono ?_
  rintro e w2 ⟨A, c, rfl, hR, g⟩
  have HT2 := Lib.hid (HT1.out.below g)
  have b2 := b1.trans (g.mono b1.size)
  have HR := Lib.hid hR
  clear g hR HT1 b1
  go_wp2_with fail
  refine (keep_one ⟨v, 0, 1⟩ A c w2.heap.size _ (by exact (HR.out.alloc (Nat.le_refl _) _).more (by simp)) (by simp) (by simp) (by simp) (by simp)).mono ?_
  rintro e w3 ⟨rfl, g⟩
  have g' := below_call g
  have HT3 := Lib.hid (HT2.out.below g')
  have b3 := b2.trans (g'.mono b2.size)
  clear g g' HT2 b2 HR
  go_wp2_with fail
  refine (wakes_any _ HT3.out).mono ?_
  rintro e w4 ⟨rfl, g⟩
  have b4 := b3.trans (g.mono b3.size)
  clear g HT3 b3
  go_wp2_with fail
  go_ret
  exact ⟨rfl, b4⟩

set_option maxRecDepth 100000 in
set_option maxHeartbeats 2000000 in
theorem form2 (v : Int) (s : ByteArray) (w : World) (hT : Tab w) (h0 : 128 ≤ v) (h1 : v ≤ 2047) (hsz : s.size = 2) (hi : isB v = true) (hs : s.data.toList = bytesOf v) (hlen : (bytesOf v).length = 2)
   (hB : ∀ W : World, Tab W → Calls Tryd.prog 11 #[.int .i64 v] W fun e w' => e = .returned (.tuple #[.string s, .bool true]) ∧ Below W.heap.size W w')
   (hf : 128 ≤ s[0].toNat) (t1 : 128 ≤ s[1].toNat) (u1 : s[1].toNat < 192) :
    Calls Tryd.prog 6 #[.int .i64 v] w fun e w' => e = .returned (.bool true) ∧ Below w.heap.size w w' := by
  have HT := Lib.hid hT
  have HB := Lib.hid hB
  have HC1 := Lib.hid (cut_call v s 1 hi hs (by omega) (by omega))
  have hw := whole_call v s hi hs
  rw [hlen] at hw
  have HW := Lib.hid hw
  clear hT hB hw hi hs hlen
  go_enter Tryd.func6, Tryd.ntmps6
  go_wp2_with fail
  refine (HB.out _ HT.out).mono ?_
  rintro e w1 ⟨rfl, b1⟩
  have HT1 := Lib.hid (HT.out.below b1)
  clear HT HB
  go_wp2_with fail
  refine wp_loop_rounds 2 ?_
  rw [rounds_succ]
  go_wp2_with fail
  refine (HC1.out _ HT1.out).mono ?_
  rintro e w2 ⟨A1, c1, rfl, hR1, g1⟩
  have HT2 := Lib.hid (HT1.out.below g1)
  have b2 := b1.trans (g1.mono b1.size)
  have HR1 := Lib.hid hR1
  clear g1 hR1 HT1 b1
  go_wp2_with fail
  refine (keep_one ⟨65533, 0, 1⟩ A1 c1 w2.heap.size _ (by exact (HR1.out.alloc (Nat.le_refl _) _).more (by simp)) (by simp) (by simp) (by simp) (by simp)).mono ?_
  rintro e w3 ⟨rfl, g1⟩
  have g1' := below_call g1
  have HT3 := Lib.hid (HT2.out.below g1')
  have b3 := b2.trans (g1'.mono b2.size)
  clear g1 g1' HT2 b2 HR1
  go_wp2_with fail
  rw [rounds_succ]
  go_wp2_with fail
  refine (HW.out _ HT3.out).mono ?_
  rintro e w4 ⟨A, c, rfl, hR, g⟩
  have HT4 := Lib.hid (HT3.out.below g)
  have b4 := b3.trans (g.mono b3.size)
  have HR := Lib.hid hR
  clear g hR HT3 b3
  go_wp2_with fail
  refine (keep_one ⟨v, 0, 2⟩ A c w4.heap.size _ (by exact (HR.out.alloc (Nat.le_refl _) _).more (by simp)) (by simp) (by simp) (by simp) (by simp)).mono ?_
  rintro e w5 ⟨rfl, g⟩
  have g' := below_call g
  have HT5 := Lib.hid (HT4.out.below g')
  have b5 := b4.trans (g'.mono b4.size)
  clear g g' HT4 b4 HR
  go_wp2_with fail
  refine (wakes_any _ HT5.out).mono ?_
  rintro e w6 ⟨rfl, g⟩
  have b6 := b5.trans (g.mono b5.size)
  clear g HT5 b5
  go_wp2_with fail
  go_ret
  exact ⟨ret_bool (by rw [decide_eq_false (by omega)]; rfl), b6⟩

set_option maxRecDepth 100000 in
set_option maxHeartbeats 2000000 in
theorem form3 (v : Int) (s : ByteArray) (w : World) (hT : Tab w) (h0 : 2048 ≤ v) (h1 : v ≤ 65535) (hsz : s.size = 3) (hi : isB v = true) (hs : s.data.toList = bytesOf v) (hlen : (bytesOf v).length = 3)
   (hB : ∀ W : World, Tab W → Calls Tryd.prog 11 #[.int .i64 v] W fun e w' => e = .returned (.tuple #[.string s, .bool true]) ∧ Below W.heap.size W w')
   (hf : 128 ≤ s[0].toNat) (t1 : 128 ≤ s[1].toNat) (u1 : s[1].toNat < 192) (t2 : 128 ≤ s[2].toNat) (u2 : s[2].toNat < 192) :
    Calls Tryd.prog 6 #[.int .i64 v] w fun e w' => e = .returned (.bool true) ∧ Below w.heap.size w w' := by
  have HT := Lib.hid hT
  have HB := Lib.hid hB
  have HC1 := Lib.hid (cut_call v s 1 hi hs (by omega) (by omega))
  have HC2 := Lib.hid (cut_call v s 2 hi hs (by omega) (by omega))
  have hw := whole_call v s hi hs
  rw [hlen] at hw
  have HW := Lib.hid hw
  clear hT hB hw hi hs hlen
  go_enter Tryd.func6, Tryd.ntmps6
  go_wp2_with fail
  refine (HB.out _ HT.out).mono ?_
  rintro e w1 ⟨rfl, b1⟩
  have HT1 := Lib.hid (HT.out.below b1)
  clear HT HB
  go_wp2_with fail
  refine wp_loop_rounds 3 ?_
  rw [rounds_succ]
  go_wp2_with fail
  refine (HC1.out _ HT1.out).mono ?_
  rintro e w2 ⟨A1, c1, rfl, hR1, g1⟩
  have HT2 := Lib.hid (HT1.out.below g1)
  have b2 := b1.trans (g1.mono b1.size)
  have HR1 := Lib.hid hR1
  clear g1 hR1 HT1 b1
  go_wp2_with fail
  refine (keep_one ⟨65533, 0, 1⟩ A1 c1 w2.heap.size _ (by exact (HR1.out.alloc (Nat.le_refl _) _).more (by simp)) (by simp) (by simp) (by simp) (by simp)).mono ?_
  rintro e w3 ⟨rfl, g1⟩
  have g1' := below_call g1
  have HT3 := Lib.hid (HT2.out.below g1')
  have b3 := b2.trans (g1'.mono b2.size)
  clear g1 g1' HT2 b2 HR1
  go_wp2_with fail
  rw [rounds_succ]
  go_wp2_with fail
  refine (HC2.out _ HT3.out).mono ?_
  rintro e w4 ⟨A2, c2, rfl, hR2, g2⟩
  have HT4 := Lib.hid (HT3.out.below g2)
  have b4 := b3.trans (g2.mono b3.size)
  have HR2 := Lib.hid hR2
  clear g2 hR2 HT3 b3
  go_wp2_with fail
  refine (keep_one ⟨65533, 0, 2⟩ A2 c2 w4.heap.size _ (by exact (HR2.out.alloc (Nat.le_refl _) _).more (by simp)) (by simp) (by simp) (by simp) (by simp)).mono ?_
  rintro e w5 ⟨rfl, g2⟩
  have g2' := below_call g2
  have HT5 := Lib.hid (HT4.out.below g2')
  have b5 := b4.trans (g2'.mono b4.size)
  clear g2 g2' HT4 b4 HR2
  go_wp2_with fail
  rw [rounds_succ]
  go_wp2_with fail
  refine (HW.out _ HT5.out).mono ?_
  rintro e w6 ⟨A, c, rfl, hR, g⟩
  have HT6 := Lib.hid (HT5.out.below g)
  have b6 := b5.trans (g.mono b5.size)
  have HR := Lib.hid hR
  clear g hR HT5 b5
  go_wp2_with fail
  refine (keep_one ⟨v, 0, 3⟩ A c w6.heap.size _ (by exact (HR.out.alloc (Nat.le_refl _) _).more (by simp)) (by simp) (by simp) (by simp) (by simp)).mono ?_
  rintro e w7 ⟨rfl, g⟩
  have g' := below_call g
  have HT7 := Lib.hid (HT6.out.below g')
  have b7 := b6.trans (g'.mono b6.size)
  clear g g' HT6 b6 HR
  go_wp2_with fail
  refine (wakes_any _ HT7.out).mono ?_
  rintro e w8 ⟨rfl, g⟩
  have b8 := b7.trans (g.mono b7.size)
  clear g HT7 b7
  go_wp2_with fail
  go_ret
  exact ⟨ret_bool (by rw [decide_eq_false (by omega)]; rfl), b8⟩

set_option maxRecDepth 100000 in
set_option maxHeartbeats 2000000 in
theorem form4 (v : Int) (s : ByteArray) (w : World) (hT : Tab w) (h0 : 65536 ≤ v) (h1 : v ≤ 1114111) (hsz : s.size = 4) (hi : isB v = true) (hs : s.data.toList = bytesOf v) (hlen : (bytesOf v).length = 4)
   (hB : ∀ W : World, Tab W → Calls Tryd.prog 11 #[.int .i64 v] W fun e w' => e = .returned (.tuple #[.string s, .bool true]) ∧ Below W.heap.size W w')
   (hf : 128 ≤ s[0].toNat) (t1 : 128 ≤ s[1].toNat) (u1 : s[1].toNat < 192) (t2 : 128 ≤ s[2].toNat) (u2 : s[2].toNat < 192) (t3 : 128 ≤ s[3].toNat) (u3 : s[3].toNat < 192) :
    Calls Tryd.prog 6 #[.int .i64 v] w fun e w' => e = .returned (.bool true) ∧ Below w.heap.size w w' := by
  have HT := Lib.hid hT
  have HB := Lib.hid hB
  have HC1 := Lib.hid (cut_call v s 1 hi hs (by omega) (by omega))
  have HC2 := Lib.hid (cut_call v s 2 hi hs (by omega) (by omega))
  have HC3 := Lib.hid (cut_call v s 3 hi hs (by omega) (by omega))
  have hw := whole_call v s hi hs
  rw [hlen] at hw
  have HW := Lib.hid hw
  clear hT hB hw hi hs hlen
  go_enter Tryd.func6, Tryd.ntmps6
  go_wp2_with fail
  refine (HB.out _ HT.out).mono ?_
  rintro e w1 ⟨rfl, b1⟩
  have HT1 := Lib.hid (HT.out.below b1)
  clear HT HB
  go_wp2_with fail
  refine wp_loop_rounds 4 ?_
  rw [rounds_succ]
  go_wp2_with fail
  refine (HC1.out _ HT1.out).mono ?_
  rintro e w2 ⟨A1, c1, rfl, hR1, g1⟩
  have HT2 := Lib.hid (HT1.out.below g1)
  have b2 := b1.trans (g1.mono b1.size)
  have HR1 := Lib.hid hR1
  clear g1 hR1 HT1 b1
  go_wp2_with fail
  refine (keep_one ⟨65533, 0, 1⟩ A1 c1 w2.heap.size _ (by exact (HR1.out.alloc (Nat.le_refl _) _).more (by simp)) (by simp) (by simp) (by simp) (by simp)).mono ?_
  rintro e w3 ⟨rfl, g1⟩
  have g1' := below_call g1
  have HT3 := Lib.hid (HT2.out.below g1')
  have b3 := b2.trans (g1'.mono b2.size)
  clear g1 g1' HT2 b2 HR1
  go_wp2_with fail
  rw [rounds_succ]
  go_wp2_with fail
  refine (HC2.out _ HT3.out).mono ?_
  rintro e w4 ⟨A2, c2, rfl, hR2, g2⟩
  have HT4 := Lib.hid (HT3.out.below g2)
  have b4 := b3.trans (g2.mono b3.size)
  have HR2 := Lib.hid hR2
  clear g2 hR2 HT3 b3
  go_wp2_with fail
  refine (keep_one ⟨65533, 0, 2⟩ A2 c2 w4.heap.size _ (by exact (HR2.out.alloc (Nat.le_refl _) _).more (by simp)) (by simp) (by simp) (by simp) (by simp)).mono ?_
  rintro e w5 ⟨rfl, g2⟩
  have g2' := below_call g2
  have HT5 := Lib.hid (HT4.out.below g2')
  have b5 := b4.trans (g2'.mono b4.size)
  clear g2 g2' HT4 b4 HR2
  go_wp2_with fail
  rw [rounds_succ]
  go_wp2_with fail
  refine (HC3.out _ HT5.out).mono ?_
  rintro e w6 ⟨A3, c3, rfl, hR3, g3⟩
  have HT6 := Lib.hid (HT5.out.below g3)
  have b6 := b5.trans (g3.mono b5.size)
  have HR3 := Lib.hid hR3
  clear g3 hR3 HT5 b5
  go_wp2_with fail
  refine (keep_one ⟨65533, 0, 3⟩ A3 c3 w6.heap.size _ (by exact (HR3.out.alloc (Nat.le_refl _) _).more (by simp)) (by simp) (by simp) (by simp) (by simp)).mono ?_
  rintro e w7 ⟨rfl, g3⟩
  have g3' := below_call g3
  have HT7 := Lib.hid (HT6.out.below g3')
  have b7 := b6.trans (g3'.mono b6.size)
  clear g3 g3' HT6 b6 HR3
  go_wp2_with fail
  rw [rounds_succ]
  go_wp2_with fail
  refine (HW.out _ HT7.out).mono ?_
  rintro e w8 ⟨A, c, rfl, hR, g⟩
  have HT8 := Lib.hid (HT7.out.below g)
  have b8 := b7.trans (g.mono b7.size)
  have HR := Lib.hid hR
  clear g hR HT7 b7
  go_wp2_with fail
  refine (keep_one ⟨v, 0, 4⟩ A c w8.heap.size _ (by exact (HR.out.alloc (Nat.le_refl _) _).more (by simp)) (by simp) (by simp) (by simp) (by simp)).mono ?_
  rintro e w9 ⟨rfl, g⟩
  have g' := below_call g
  have HT9 := Lib.hid (HT8.out.below g')
  have b9 := b8.trans (g'.mono b8.size)
  clear g g' HT8 b8 HR
  go_wp2_with fail
  refine (wakes_any _ HT9.out).mono ?_
  rintro e w10 ⟨rfl, g⟩
  have b10 := b9.trans (g.mono b9.size)
  clear g HT9 b9
  go_wp2_with fail
  go_ret
  exact ⟨ret_bool (by rw [decide_eq_false (by omega)]; rfl), b10⟩

set_option maxHeartbeats 1000000 in
theorem none1 (v : Int) (w : World) (hT : Tab w) (h0 : v < 0)
   (hB : ∀ W : World, Tab W → Calls Tryd.prog 11 #[.int .i64 v] W fun e w' => e = .returned (.tuple #[.string ⟨#[]⟩, .bool false]) ∧ Below W.heap.size W w') :
    Calls Tryd.prog 6 #[.int .i64 v] w fun e w' => e = .returned (.bool true) ∧ Below w.heap.size w w' := by
  have HT := Lib.hid hT
  have HB := Lib.hid hB
  clear hT hB
  go_enter Tryd.func6, Tryd.ntmps6
  go_wp2_with fail
  refine (HB.out _ HT.out).mono ?_
  rintro e w1 ⟨rfl, b1⟩
  have HT1 := Lib.hid (HT.out.below b1)
  clear HT HB
  go_wp2_with fail
  refine (wakes_any _ HT1.out).mono ?_
  rintro e w2 ⟨rfl, g⟩
  have b2 := b1.trans (g.mono b1.size)
  clear g HT1 b1
  go_wp2_with fail
  go_ret
  exact ⟨rfl, b2⟩

set_option maxHeartbeats 1000000 in
theorem none2 (v : Int) (w : World) (hT : Tab w) (h0 : 1114111 < v)
   (hB : ∀ W : World, Tab W → Calls Tryd.prog 11 #[.int .i64 v] W fun e w' => e = .returned (.tuple #[.string ⟨#[]⟩, .bool false]) ∧ Below W.heap.size W w') :
    Calls Tryd.prog 6 #[.int .i64 v] w fun e w' => e = .returned (.bool true) ∧ Below w.heap.size w w' := by
  have HT := Lib.hid hT
  have HB := Lib.hid hB
  clear hT hB
  go_enter Tryd.func6, Tryd.ntmps6
  go_wp2_with fail
  refine (HB.out _ HT.out).mono ?_
  rintro e w1 ⟨rfl, b1⟩
  have HT1 := Lib.hid (HT.out.below b1)
  clear HT HB
  go_wp2_with fail
  refine (wakes_any _ HT1.out).mono ?_
  rintro e w2 ⟨rfl, g⟩
  have b2 := b1.trans (g.mono b1.size)
  clear g HT1 b1
  go_wp2_with fail
  go_ret
  exact ⟨rfl, b2⟩

set_option maxHeartbeats 1000000 in
theorem none3 (v : Int) (w : World) (hT : Tab w) (h0 : 55296 ≤ v) (h1 : v ≤ 57343)
   (hB : ∀ W : World, Tab W → Calls Tryd.prog 11 #[.int .i64 v] W fun e w' => e = .returned (.tuple #[.string ⟨#[]⟩, .bool false]) ∧ Below W.heap.size W w') :
    Calls Tryd.prog 6 #[.int .i64 v] w fun e w' => e = .returned (.bool true) ∧ Below w.heap.size w w' := by
  have HT := Lib.hid hT
  have HB := Lib.hid hB
  clear hT hB
  go_enter Tryd.func6, Tryd.ntmps6
  go_wp2_with fail
  refine (HB.out _ HT.out).mono ?_
  rintro e w1 ⟨rfl, b1⟩
  have HT1 := Lib.hid (HT.out.below b1)
  clear HT HB
  go_wp2_with fail
  refine (wakes_any _ HT1.out).mono ?_
  rintro e w2 ⟨rfl, g⟩
  have b2 := b1.trans (g.mono b1.size)
  clear g HT1 b1
  go_wp2_with fail
  go_ret
  exact ⟨rfl, b2⟩

theorem bytes_len1 {v : Int} (h : isB v = true) (h0 : v ≤ 127) : bytesOf v = [ub v] := by unfold bytesOf; rw [if_neg (isB_no h), if_pos (by omega)]
theorem bytes_len2 {v : Int} (h : isB v = true) (h0 : 128 ≤ v) (h1 : v ≤ 2047) : bytesOf v = [ub (192 + v / 64), ub (128 + v % 64)] := by unfold bytesOf; rw [if_neg (isB_no h), if_neg (by omega), if_pos (by omega)]
theorem bytes_len3 {v : Int} (h : isB v = true) (h0 : 2048 ≤ v) (h1 : v ≤ 65535) : bytesOf v = [ub (224 + v / 4096), ub (128 + v / 64 % 64), ub (128 + v % 64)] := by unfold bytesOf; rw [if_neg (isB_no h), if_neg (by omega), if_neg (by omega), if_pos (by omega)]
theorem bytes_len4 {v : Int} (h : isB v = true) (h0 : 65536 ≤ v) : bytesOf v = [ub (240 + v / 262144), ub (128 + v / 4096 % 64), ub (128 + v / 64 % 64), ub (128 + v % 64)] := by unfold bytesOf; rw [if_neg (isB_no h), if_neg (by omega), if_neg (by omega), if_neg (by omega)]
theorem nat_ub (n : Int) (h0 : 0 ≤ n) (h1 : n < 256) : ((ub n).toNat : Int) = n := nb_ub n h0 h1
theorem str_at (l : List UInt8) (k : Nat) (hk : k < (strOf l).size) (b : UInt8) (h : l[k]? = some b) : (strOf l)[k].toNat = b.toNat := by
  obtain ⟨c, hc, e⟩ := at_list (strOf l) l (strOf_data l) k hk
  rw [h] at hc
  rw [e, Option.some.inj hc]

/-! The walk: the law returns true. -/
theorem walk (v : Int) (w : World) (hT : Tab w) (_ : (Lit.int .i64 v).wf = true) : Calls Tryd.prog 6 #[.int .i64 v] w fun e w' => e = .returned (.bool true) ∧ Below w.heap.size w w' := by
  cases hi : isB v
  · have hB : ∀ W : World, Tab W → Calls Tryd.prog 11 #[.int .i64 v] W fun e w' => e = .returned (.tuple #[.string ⟨#[]⟩, .bool false]) ∧ Below W.heap.size W w' := fun W hW => by
      have h := bytes_any v W hW
      rwa [bytesOf_no hi, hi] at h
    have hn : ¬ (0 ≤ v ∧ v < 55296 ∨ 57344 ≤ v ∧ v ≤ 1114111) := fun h => by rw [(isB_iff v).2 h] at hi; cases hi
    by_cases c1 : v < 0
    · exact none1 v w hT c1 hB
    by_cases c2 : 1114111 < v
    · exact none2 v w hT c2 hB
    · exact none3 v w hT (by omega) (by omega) hB
  · have hB : ∀ W : World, Tab W → Calls Tryd.prog 11 #[.int .i64 v] W fun e w' => e = .returned (.tuple #[.string (strOf (bytesOf v)), .bool true]) ∧ Below W.heap.size W w' := fun W hW => by
      have h := bytes_any v W hW
      rwa [hi] at h
    have hb := (isB_iff v).1 hi
    by_cases c1 : v ≤ 127
    · have e := bytes_len1 hi c1
      have hsz : (strOf (bytesOf v)).size = 1 := by rw [strOf_size, e]; rfl
      refine form1 v (strOf (bytesOf v)) w hT (by omega) c1 hsz hi (strOf_data _) (by rw [e]; rfl) hB ?_
      have := str_at (bytesOf v) 0 (by omega) (ub v) (by rw [e]; rfl)
      have := nat_ub v (by omega) (by omega)
      omega
    by_cases c2 : v ≤ 2047
    · have e := bytes_len2 hi (by omega) c2
      have hsz : (strOf (bytesOf v)).size = 2 := by rw [strOf_size, e]; rfl
      have a0 := str_at (bytesOf v) 0 (by omega) (ub (192 + v / 64)) (by rw [e]; rfl)
      have a1 := str_at (bytesOf v) 1 (by omega) (ub (128 + v % 64)) (by rw [e]; rfl)
      have d0 := nat_ub (192 + v / 64) (by omega) (by omega)
      have d1 := nat_ub (128 + v % 64) (by omega) (by omega)
      exact form2 v (strOf (bytesOf v)) w hT (by omega) c2 hsz hi (strOf_data _) (by rw [e]; rfl) hB (by omega) (by omega) (by omega)
    by_cases c3 : v ≤ 65535
    · have e := bytes_len3 hi (by omega) c3
      have hsz : (strOf (bytesOf v)).size = 3 := by rw [strOf_size, e]; rfl
      have a0 := str_at (bytesOf v) 0 (by omega) (ub (224 + v / 4096)) (by rw [e]; rfl)
      have a1 := str_at (bytesOf v) 1 (by omega) (ub (128 + v / 64 % 64)) (by rw [e]; rfl)
      have a2 := str_at (bytesOf v) 2 (by omega) (ub (128 + v % 64)) (by rw [e]; rfl)
      have d0 := nat_ub (224 + v / 4096) (by omega) (by omega)
      have d1 := nat_ub (128 + v / 64 % 64) (by omega) (by omega)
      have d2 := nat_ub (128 + v % 64) (by omega) (by omega)
      exact form3 v (strOf (bytesOf v)) w hT (by omega) c3 hsz hi (strOf_data _) (by rw [e]; rfl) hB (by omega) (by omega) (by omega) (by omega) (by omega)
    · have e := bytes_len4 hi (by omega)
      have hsz : (strOf (bytesOf v)).size = 4 := by rw [strOf_size, e]; rfl
      have a0 := str_at (bytesOf v) 0 (by omega) (ub (240 + v / 262144)) (by rw [e]; rfl)
      have a1 := str_at (bytesOf v) 1 (by omega) (ub (128 + v / 4096 % 64)) (by rw [e]; rfl)
      have a2 := str_at (bytesOf v) 2 (by omega) (ub (128 + v / 64 % 64)) (by rw [e]; rfl)
      have a3 := str_at (bytesOf v) 3 (by omega) (ub (128 + v % 64)) (by rw [e]; rfl)
      have d0 := nat_ub (240 + v / 262144) (by omega) (by omega)
      have d1 := nat_ub (128 + v / 4096 % 64) (by omega) (by omega)
      have d2 := nat_ub (128 + v / 64 % 64) (by omega) (by omega)
      have d3 := nat_ub (128 + v % 64) (by omega) (by omega)
      exact form4 v (strOf (bytesOf v)) w hT (by omega) (by omega) hsz hi (strOf_data _) (by rw [e]; rfl) hB (by omega) (by omega) (by omega) (by omega) (by omega) (by omega) (by omega)

/-! From the walk to the row and its card. -/
theorem contract (H : Type) (enc : TypeId × Value → H) (W : World) (base : Nat) (args : Array Value) (ds gs : List (DataW H)) (before : List MemPlace)
    (hval0 : ∀ (j : Nat) t v, Tryd.f6.params[j]? = some t → args[j]? = some v → Value.okWide Tryd.prog W .any base t v)
    (hW : DataW.Whole enc Tryd.prog Tryd.f6.params.toList Rows.utfFormsSpec.vars false W args.toList ds gs before) (hL : laidMetH Tryd.prog Rows.utfFormsRow.laid W) :
    Calls Tryd.prog 6 args W fun e W' => ∃ v, e = .returned v ∧ Rows.utfFormsSpec.post enc Tryd.prog Tryd.f6 false true false false W args v W' := by
  have hval : ∀ (j : Nat) t v, Tryd.f6.params[j]? = some t → args[j]? = some v → Value.okWide Tryd.prog W .any base t v := hval0
  have hW' := hW
  obtain ⟨p, q, hA0, hV, rfl, hfz, hnd⟩ := hW
  have hA : DataW.TrodAll enc Tryd.prog W 0 (fun _ => true) true Tryd.f6.params.toList args.toList ds p := hA0
  rw [Tryd.params6] at hA hval
  obtain ⟨v0, vs0, d0, ds0, p0, q0, hargs, rfl, rfl, h0, r0⟩ := trodAll_cons hA
  obtain ⟨rfl, rfl, rfl⟩ := trodAll_nil r0
  obtain rfl : args = #[v0] := by cases args; simp_all
  obtain ⟨rfl, rfl⟩ := trodVars_none hV
  obtain ⟨a0, rfl, rfl, rfl, w0⟩ := open_int Tryd.underlying3 (hval 0 3 v0 rfl rfl) h0
  clear hA0 hval0
  refine (walk a0 W (tab_of_laid hL) w0).mono fun e W' ⟨he, bel⟩ => ?_
  subst he
  exact ⟨_, rfl, _, _, _, [], _, [], hW', trodAll_mk1 (shut_bool Tryd.underlying4 _), (trodAll_cons_mk (shut_int Tryd.underlying3 w0) trodAll_mk0), rfl, bel.frame _, fun h => by cases h⟩

theorem laid_met (os : Os) : laidMet Tryd.prog Rows.utfFormsRow.laid ((laidWorld os).forCall (fun _ _ => 0) ⟨#[], #[.int .i64 0], []⟩).memory :=
  laidMet_of_run' 8 (by kernel_rfl) (by kernel_rfl)
theorem reads (os : Os) {H : Type} (enc : TypeId × Value → H) : ∃ places, DataW.whole enc Tryd.prog ((laidWorld os).forCall (fun _ _ => 0) ⟨#[], #[.int .i64 0], []⟩).memory Tryd.f6.params.toList Rows.utfFormsSpec.vars false (#[.int .i64 0] : Array Value).toList 8 = some ([.lit (.int .i64 0)], [], places) :=
  ⟨[], by kernel_rfl⟩

set_option maxRecDepth 100000 in
theorem lifted (os : Os) (started : os.Started) (H : Type) (enc : TypeId × Value → H) (F : Stop.Interp) :
    ReturnsInHanded {} Tryd.checked os 6 .any ((OpenSpec.ofChange Rows.utfFormsSpec).preRow enc Tryd.prog Tryd.f6 Rows.utfFormsRow.domain false Rows.utfFormsRow.laid) (((OpenSpec.ofChange Rows.utfFormsSpec).at F).post enc Tryd.prog Tryd.f6 false true false false) := by
  obtain ⟨places, hx⟩ := reads os enc
  refine returnsInHanded_of_row (C := Tryd.checked) (s := OpenSpec.ofChange Rows.utfFormsSpec) own started (by kernel_rfl) Tryd.func6
    (witness_row_at (enc := enc) (C := Tryd.checked) false (laidWorld os) #[.int .i64 0] rfl (by kernel_rfl) (by kernel_rfl) (by kernel_rfl)
      (OpenSpec.preRow_of_cond 8 hx (by kernel_rfl) (fun k hk => by cases hk) (by kernel_rfl) (laid_met os))) ?_
  intro W base args ds gs before hval hW _ _ _ hL _ _
  exact contract H enc W base args ds gs before hval hW hL

theorem said : Rows.UtfFormsSaid :=
  OpenClaim.holds_of_cond 6 Tryd.f6 rfl rfl rfl rfl rfl rfl rfl ⟨rfl, rfl, rfl, rfl, rfl⟩ rfl rfl rfl rfl rfl (by kernel_rfl) Tryd.func6 (by kernel_rfl)
    (of_decide_eq_true (by kernel_rfl)) (by unfold Func.isWrapper; first | (rw [if_pos (by decide +kernel)]; kernel_rfl) | (rw [if_neg (by decide +kernel)]; exact ⟨rfl, rfl⟩))
    (fun os started H enc _ F => by rw [OpenClaim.pre_eq_preRow]; exact lifted os started H enc F)

theorem plain (f : FuncId) (fn : Func) (hf : Tryd.pinned.checked.prog.funcNamed Rows.utfFormsRow.func = some f) (hfn : Tryd.pinned.checked.prog.funcs[f]? = some fn) :
    false = Tryd.pinned.checked.prog.looks [] ∧ ∀ (j : Nat) t, fn.params[j]? = some t → Tryd.pinned.checked.prog.wantsStandIn t = false := by
  obtain rfl : f = 6 := Option.some.inj ((show Tryd.prog.funcNamed Rows.utfFormsRow.func = some 6 by kernel_rfl).symm.trans hf) |>.symm
  obtain rfl : fn = Tryd.f6 := (Option.some.inj (Tryd.func6.symm.trans hfn)).symm
  refine ⟨by kernel_rfl, fun j t ht => ?_⟩
  rw [Tryd.params6] at ht
  have hm : t ∈ [3] := by simpa using Array.mem_of_getElem? ht
  have hall : ([3].all fun u => !Tryd.prog.wantsStandIn u) = true := by kernel_rfl
  exact (show Tryd.prog.wantsStandIn t = false by simpa using List.all_eq_true.1 hall t hm)

theorem card : Rows.UtfFormsCardSaid :=
  Claim7.holds_tied_plain_at .later [] _ _ _ _ said (fun _ h => by cases h) (by kernel_rfl) (fun _ h => by cases h) utfForms_row_tie rfl ⟨rfl, rfl⟩ (by kernel_rfl) rfl plain (by kernel_rfl)
end Go.Proofs.YtmpehgdmdejmlaaDoor.utfForms

namespace Go.Proofs.YtmpehgdmdejmlaaDoor
/-- The given statement, under a short name. -/
theorem utfForms_holds : Rows.UtfFormsCardSaid := utfForms.card
#print axioms utfForms_holds
end Go.Proofs.YtmpehgdmdejmlaaDoor

