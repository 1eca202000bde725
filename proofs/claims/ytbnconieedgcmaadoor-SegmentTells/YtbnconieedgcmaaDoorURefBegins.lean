/- What the document's own begins returns: whether some bytes are, from their first to their last, the beginning of some scalar's bytes. -/
import Derived.Test.YtbnconieedgcmaaDoorURefs
namespace Go.Proofs.YtbnconieedgcmaaDoor.U
open Go.RowKit
set_option linter.unusedVariables false
set_option linter.unusedSimpArgs false

/-- Do these bytes begin some scalar's? -/
def begL : List UInt8 → Bool
  | [] => false
  | b :: r => decide (needN (nb b) ≠ 0 ∧ (pieceOf (b :: r)).n = r.length + 1)

def OutB (x : Bool) (w : World) (e : Ending) (w' : World) : Prop := e = .returned (.bool x) ∧ Below w.heap.size w w'
theorem outB {x y : Bool} {w w' : World} {e : Ending} (h : y = x) (he : e = .returned (.bool x)) (hb : Below w.heap.size w w') : OutB y w e w' := by subst h; exact ⟨he, hb⟩

theorem needN1 {b : Int} (h : b < 128) : needN b = 1 := by unfold needN; rw [if_pos h]
theorem needN2 {b : Int} (h : 194 ≤ b) (h1 : b < 224) : needN b = 2 := by unfold needN; rw [if_neg (by omega), if_neg (by omega), if_pos h1]
theorem needN3 {b : Int} (h : 224 ≤ b) (h1 : b < 240) : needN b = 3 := by unfold needN; rw [if_neg (by omega), if_neg (by omega), if_neg (by omega), if_pos h1]
theorem needN4 {b : Int} (h : 240 ≤ b) (h1 : b < 245) : needN b = 4 := by unfold needN; rw [if_neg (by omega), if_neg (by omega), if_neg (by omega), if_neg (by omega), if_pos h1]
theorem needN0 {b : Int} (h : 128 ≤ b ∧ b < 194 ∨ 245 ≤ b) : needN b = 0 := by
  unfold needN
  rw [if_neg (by omega)]
  split
  · rfl
  · rw [if_neg (by omega), if_neg (by omega), if_neg (by omega)]

theorem begL_cons (b : UInt8) (r : List UInt8) : begL (b :: r) = decide (needN (nb b) ≠ 0 ∧ (pieceOf (b :: r)).n = r.length + 1) := rfl
theorem begL_yes {b : UInt8} {r : List UInt8} {k : Int} {n : Nat} (h : needN (nb b) = k) (hk : k ≠ 0) (hn : (pieceOf (b :: r)).n = n) (hr : n = r.length + 1) : begL (b :: r) = true := by
  rw [begL_cons]; exact decide_eq_true ⟨by rw [h]; exact hk, hn.trans hr⟩
theorem begL_no {b : UInt8} {r : List UInt8} {n : Nat} (hn : (pieceOf (b :: r)).n = n) (hr : n ≠ r.length + 1) : begL (b :: r) = false := by
  rw [begL_cons]; exact decide_eq_false (fun h => hr (hn.symm.trans h.2))
theorem begL_zero {b : UInt8} {r : List UInt8} (h : needN (nb b) = 0) : begL (b :: r) = false := by
  rw [begL_cons]; exact decide_eq_false (fun x => x.1 h)

theorem po1 {b : UInt8} {r : List UInt8} (h : nb b < 128) : pieceOf (b :: r) = ⟨nb b, 1, true⟩ := by rw [pieceOf_cons, if_pos h]
theorem po2 {b : UInt8} {r : List UInt8} (h : 192 ≤ nb b) (h1 : nb b < 224) : pieceOf (b :: r) = piece2 (nb b) r := by rw [pieceOf_cons, if_neg (by omega), if_neg (by omega), if_pos h1]
theorem po3 {b : UInt8} {r : List UInt8} (h : 224 ≤ nb b) (h1 : nb b < 240) : pieceOf (b :: r) = piece3 (nb b) r := by rw [pieceOf_cons, if_neg (by omega), if_neg (by omega), if_neg (by omega), if_pos h1]
theorem po4 {b : UInt8} {r : List UInt8} (h : 240 ≤ nb b) (h1 : nb b < 248) : pieceOf (b :: r) = piece4 (nb b) r := by rw [pieceOf_cons, if_neg (by omega), if_neg (by omega), if_neg (by omega), if_neg (by omega), if_pos h1]
theorem p2_n {x : Int} {y : UInt8} {r : List UInt8} (h : tl y) (h1 : 194 ≤ x) : (piece2 x (y :: r)).n = 2 := by
  have := nb_bd y
  have : piece2 x (y :: r) = ⟨(x - 192) * 64 + nb y % 64, 2, true⟩ := if_pos ⟨h, by omega⟩
  rw [this]
theorem p2_no {x : Int} {y : UInt8} {r : List UInt8} (h : ¬ tl y) : (piece2 x (y :: r)).n = 1 := by
  have : piece2 x (y :: r) = bad 1 := if_neg (fun c => h c.1)
  rw [this]; rfl
theorem p3_no {x : Int} {y : UInt8} {r : List UInt8} (h : ¬ (tl y ∧ go3 ((x - 224) * 64 + nb y % 64))) : (piece3 x (y :: r)).n = 1 := by
  have : piece3 x (y :: r) = bad 1 := if_neg h
  rw [this]; rfl
theorem p3_yes {x : Int} {y : UInt8} {r : List UInt8} (h : tl y ∧ go3 ((x - 224) * 64 + nb y % 64)) : piece3 x (y :: r) = piece3b ((x - 224) * 64 + nb y % 64) r := if_pos h
theorem p3b_n {v : Int} {z : UInt8} {r : List UInt8} (h : tl z) : (piece3b v (z :: r)).n = 3 := by
  have : piece3b v (z :: r) = ⟨v * 64 + nb z % 64, 3, true⟩ := if_pos h
  rw [this]
theorem p3b_no {v : Int} {z : UInt8} {r : List UInt8} (h : ¬ tl z) : (piece3b v (z :: r)).n = 2 := by
  have : piece3b v (z :: r) = bad 2 := if_neg h
  rw [this]; rfl
theorem p4_no {x : Int} {y : UInt8} {r : List UInt8} (h : ¬ (tl y ∧ go4 ((x - 240) * 64 + nb y % 64))) : (piece4 x (y :: r)).n = 1 := by
  have : piece4 x (y :: r) = bad 1 := if_neg h
  rw [this]; rfl
theorem p4_yes {x : Int} {y : UInt8} {r : List UInt8} (h : tl y ∧ go4 ((x - 240) * 64 + nb y % 64)) : piece4 x (y :: r) = piece4b ((x - 240) * 64 + nb y % 64) r := if_pos h
theorem p4b_yes {v : Int} {z : UInt8} {r : List UInt8} (h : tl z) : piece4b v (z :: r) = piece4c (v * 64 + nb z % 64) r := if_pos h
theorem p4b_no {v : Int} {z : UInt8} {r : List UInt8} (h : ¬ tl z) : (piece4b v (z :: r)).n = 2 := by
  have : piece4b v (z :: r) = bad 2 := if_neg h
  rw [this]; rfl
theorem p4c_n {v : Int} {z : UInt8} {r : List UInt8} (h : tl z) : (piece4c v (z :: r)).n = 4 := by
  have : piece4c v (z :: r) = ⟨v * 64 + nb z % 64, 4, true⟩ := if_pos h
  rw [this]
theorem p4c_no {v : Int} {z : UInt8} {r : List UInt8} (h : ¬ tl z) : (piece4c v (z :: r)).n = 3 := by
  have : piece4c v (z :: r) = bad 3 := if_neg h
  rw [this]; rfl

theorem list1 (q : ByteArray) (h : q.size = 1) : q.data.toList = [q[0]] := by
  have := drop_cons q 0 (by omega); rw [drop_none q 1 (by omega)] at this; simpa using this
theorem list2 (q : ByteArray) (h : q.size = 2) : q.data.toList = [q[0], q[1]] := by
  have h0 := drop_cons q 0 (by omega); have h1 := drop_cons q 1 (by omega); rw [drop_none q 2 (by omega)] at h1; rw [h1] at h0; simpa using h0
theorem list3 (q : ByteArray) (h : q.size = 3) : q.data.toList = [q[0], q[1], q[2]] := by
  have h0 := drop_cons q 0 (by omega); have h1 := drop_cons q 1 (by omega); have h2 := drop_cons q 2 (by omega); rw [drop_none q 3 (by omega)] at h2; rw [h2] at h1; rw [h1] at h0; simpa using h0
theorem list4 (q : ByteArray) (h : q.size = 4) : q.data.toList = [q[0], q[1], q[2], q[3]] := by
  have h0 := drop_cons q 0 (by omega); have h1 := drop_cons q 1 (by omega); have h2 := drop_cons q 2 (by omega); have h3 := drop_cons q 3 (by omega); rw [drop_none q 4 (by omega)] at h3; rw [h3] at h2; rw [h2] at h1; rw [h1] at h0; simpa using h0

theorem piece_len1 (b : UInt8) (r : List UInt8) (h : nb b < 128) : (pieceOf (b :: r)).n ≤ 1 := by rw [po1 h]; simp
theorem piece_len2 (b : UInt8) (r : List UInt8) (h : 192 ≤ nb b) (h1 : nb b < 224) : (pieceOf (b :: r)).n ≤ 2 := by
  rw [po2 h h1]
  match r with
  | [] => exact (by decide : 1 ≤ 2)
  | y :: r =>
    simp only [piece2]
    split
    · exact Nat.le_refl _
    · exact (by decide : 1 ≤ 2)
theorem piece_len3 (b : UInt8) (r : List UInt8) (h : 224 ≤ nb b) (h1 : nb b < 240) : (pieceOf (b :: r)).n ≤ 3 := by
  rw [po3 h h1]
  match r with
  | [] => exact (by decide : 1 ≤ 3)
  | [y] =>
    simp only [piece3, piece3b]
    split
    · exact (by decide : 2 ≤ 3)
    · exact (by decide : 1 ≤ 3)
  | y :: z :: r =>
    simp only [piece3, piece3b]
    split
    · split
      · exact Nat.le_refl _
      · exact (by decide : 2 ≤ 3)
    · exact (by decide : 1 ≤ 3)

set_option maxRecDepth 100000 in
set_option maxHeartbeats 1000000 in
theorem rb0 (q : ByteArray) (w : World) (hsz : 1 ≤ q.size) (hm : q.size ≤ 4) (h : 128 ≤ q[0].toNat ∧ q[0].toNat < 194 ∨ 245 ≤ q[0].toNat) :
    Calls Tryd.prog 106 #[.string q] w (OutB (begL q.data.toList) w) := by
  have hb : q[0].toNat < 256 := UInt8.toNat_lt _
  have HN : Hid (needN (q[0].toNat : Int) = 0) := Lib.hid (needN0 (by omega))
  have HB : Hid (begL q.data.toList = false) := Lib.hid (by
    have := drop_cons q 0 (by omega)
    rw [List.drop_zero] at this
    rw [this]
    exact begL_zero HN.out)
  clear h
  go_enter Tryd.func106, Tryd.ntmps106
  go_wp2_with fail
  refine (need_any _ _ (by omega) (by omega)).mono ?_
  rintro e w' ⟨rfl, rfl⟩
  rw [HN.out]
  go_wp2_with fail
  go_ret
  exact outB HB.out rfl (Below.refl _ _)

set_option maxRecDepth 100000 in
set_option maxHeartbeats 1000000 in
theorem rb1_1 (q : ByteArray) (w : World) (hsz : q.size = 1) (h1 : q[0].toNat < 128) :
    Calls Tryd.prog 106 #[.string q] w (OutB (begL q.data.toList) w) := by
  have HN : Hid (needN (q[0].toNat : Int) = 1) := Lib.hid (needN1 (by omega))
  have HB : Hid (begL q.data.toList = true) := Lib.hid (by
    rw [list1 q hsz]
    exact begL_yes HN.out (by decide) (n := 1) (by rw [po1 (by unfold nb; omega)]) rfl)
  go_enter Tryd.func106, Tryd.ntmps106
  go_wp2_with fail
  refine (need_any _ _ (by omega) (by omega)).mono ?_
  rintro e w' ⟨rfl, rfl⟩
  rw [HN.out]
  go_wp2_with fail
  go_ret
  exact outB HB.out rfl (Below.refl _ _)

set_option maxRecDepth 100000 in
set_option maxHeartbeats 1000000 in
theorem rb1_2 (q : ByteArray) (w : World) (hsz : q.size = 2) (h0 : 0 ≤ q[0].toNat) (h1 : q[0].toNat < 128) :
    Calls Tryd.prog 106 #[.string q] w (OutB (begL q.data.toList) w) := by
  have HN : Hid (needN (q[0].toNat : Int) = 1) := Lib.hid (needN1 (by omega))
  have HB : Hid (begL q.data.toList = false) := Lib.hid (by
    rw [list2 q hsz]
    have hf := piece_len1 q[0] [q[1]] (by unfold nb; omega)
    exact begL_no rfl (by simp only [List.length_cons, List.length_nil]; omega))
  go_enter Tryd.func106, Tryd.ntmps106
  go_wp2_with fail
  refine (need_any _ _ (by omega) (by omega)).mono ?_
  rintro e w' ⟨rfl, rfl⟩
  rw [HN.out]
  go_wp2_with fail
  go_ret
  exact outB HB.out rfl (Below.refl _ _)

set_option maxRecDepth 100000 in
set_option maxHeartbeats 1000000 in
theorem rb1_3 (q : ByteArray) (w : World) (hsz : q.size = 3) (h0 : 0 ≤ q[0].toNat) (h1 : q[0].toNat < 128) :
    Calls Tryd.prog 106 #[.string q] w (OutB (begL q.data.toList) w) := by
  have HN : Hid (needN (q[0].toNat : Int) = 1) := Lib.hid (needN1 (by omega))
  have HB : Hid (begL q.data.toList = false) := Lib.hid (by
    rw [list3 q hsz]
    have hf := piece_len1 q[0] [q[1], q[2]] (by unfold nb; omega)
    exact begL_no rfl (by simp only [List.length_cons, List.length_nil]; omega))
  go_enter Tryd.func106, Tryd.ntmps106
  go_wp2_with fail
  refine (need_any _ _ (by omega) (by omega)).mono ?_
  rintro e w' ⟨rfl, rfl⟩
  rw [HN.out]
  go_wp2_with fail
  go_ret
  exact outB HB.out rfl (Below.refl _ _)

set_option maxRecDepth 100000 in
set_option maxHeartbeats 1000000 in
theorem rb1_4 (q : ByteArray) (w : World) (hsz : q.size = 4) (h0 : 0 ≤ q[0].toNat) (h1 : q[0].toNat < 128) :
    Calls Tryd.prog 106 #[.string q] w (OutB (begL q.data.toList) w) := by
  have HN : Hid (needN (q[0].toNat : Int) = 1) := Lib.hid (needN1 (by omega))
  have HB : Hid (begL q.data.toList = false) := Lib.hid (by
    rw [list4 q hsz]
    have hf := piece_len1 q[0] [q[1], q[2], q[3]] (by unfold nb; omega)
    exact begL_no rfl (by simp only [List.length_cons, List.length_nil]; omega))
  go_enter Tryd.func106, Tryd.ntmps106
  go_wp2_with fail
  refine (need_any _ _ (by omega) (by omega)).mono ?_
  rintro e w' ⟨rfl, rfl⟩
  rw [HN.out]
  go_wp2_with fail
  go_ret
  exact outB HB.out rfl (Below.refl _ _)

set_option maxRecDepth 100000 in
set_option maxHeartbeats 1000000 in
theorem rb2_3 (q : ByteArray) (w : World) (hsz : q.size = 3) (h0 : 194 ≤ q[0].toNat) (h1 : q[0].toNat < 224) :
    Calls Tryd.prog 106 #[.string q] w (OutB (begL q.data.toList) w) := by
  have HN : Hid (needN (q[0].toNat : Int) = 2) := Lib.hid (needN2 (by omega) (by omega))
  have HB : Hid (begL q.data.toList = false) := Lib.hid (by
    rw [list3 q hsz]
    have hf := piece_len2 q[0] [q[1], q[2]] (by unfold nb; omega) (by unfold nb; omega)
    exact begL_no rfl (by simp only [List.length_cons, List.length_nil]; omega))
  go_enter Tryd.func106, Tryd.ntmps106
  go_wp2_with fail
  refine (need_any _ _ (by omega) (by omega)).mono ?_
  rintro e w' ⟨rfl, rfl⟩
  rw [HN.out]
  go_wp2_with fail
  go_ret
  exact outB HB.out rfl (Below.refl _ _)

set_option maxRecDepth 100000 in
set_option maxHeartbeats 1000000 in
theorem rb2_4 (q : ByteArray) (w : World) (hsz : q.size = 4) (h0 : 194 ≤ q[0].toNat) (h1 : q[0].toNat < 224) :
    Calls Tryd.prog 106 #[.string q] w (OutB (begL q.data.toList) w) := by
  have HN : Hid (needN (q[0].toNat : Int) = 2) := Lib.hid (needN2 (by omega) (by omega))
  have HB : Hid (begL q.data.toList = false) := Lib.hid (by
    rw [list4 q hsz]
    have hf := piece_len2 q[0] [q[1], q[2], q[3]] (by unfold nb; omega) (by unfold nb; omega)
    exact begL_no rfl (by simp only [List.length_cons, List.length_nil]; omega))
  go_enter Tryd.func106, Tryd.ntmps106
  go_wp2_with fail
  refine (need_any _ _ (by omega) (by omega)).mono ?_
  rintro e w' ⟨rfl, rfl⟩
  rw [HN.out]
  go_wp2_with fail
  go_ret
  exact outB HB.out rfl (Below.refl _ _)

set_option maxRecDepth 100000 in
set_option maxHeartbeats 1000000 in
theorem rb3_4 (q : ByteArray) (w : World) (hsz : q.size = 4) (h0 : 224 ≤ q[0].toNat) (h1 : q[0].toNat < 240) :
    Calls Tryd.prog 106 #[.string q] w (OutB (begL q.data.toList) w) := by
  have HN : Hid (needN (q[0].toNat : Int) = 3) := Lib.hid (needN3 (by omega) (by omega))
  have HB : Hid (begL q.data.toList = false) := Lib.hid (by
    rw [list4 q hsz]
    have hf := piece_len3 q[0] [q[1], q[2], q[3]] (by unfold nb; omega) (by unfold nb; omega)
    exact begL_no rfl (by simp only [List.length_cons, List.length_nil]; omega))
  go_enter Tryd.func106, Tryd.ntmps106
  go_wp2_with fail
  refine (need_any _ _ (by omega) (by omega)).mono ?_
  rintro e w' ⟨rfl, rfl⟩
  rw [HN.out]
  go_wp2_with fail
  go_ret
  exact outB HB.out rfl (Below.refl _ _)

set_option maxRecDepth 100000 in
set_option maxHeartbeats 1000000 in
theorem rb2_1 (q : ByteArray) (w : World) (hsz : q.size = 1) (h0 : 194 ≤ q[0].toNat) (h1 : q[0].toNat < 224) :
    Calls Tryd.prog 106 #[.string q] w (OutB (begL q.data.toList) w) := by
  have HN : Hid (needN (q[0].toNat : Int) = 2) := Lib.hid (needN2 (by omega) (by omega))
  have HB : Hid (begL q.data.toList = true) := Lib.hid (by
    rw [list1 q hsz]
    exact begL_yes HN.out (by decide) (n := 1) (by rw [po2 (by unfold nb; omega) (by unfold nb; omega)]; rfl) rfl)
  go_enter Tryd.func106, Tryd.ntmps106
  go_wp2_with fail
  refine (need_any _ _ (by omega) (by omega)).mono ?_
  rintro e w' ⟨rfl, rfl⟩
  rw [HN.out]
  go_wp2_with fail
  refine wp_loop_rounds 1 ?_
  rw [rounds_succ]
  go_wp2_with fail
  refine wp_loop_rounds 2 ?_
  rw [rounds_succ]
  go_wp2_with fail
  rw [rounds_succ]
  go_wp2_with fail
  refine (refCount_any _ _ _).mono ?_
  rintro e w' ⟨rfl, rfl⟩
  go_wp2_with fail
  go_ret
  exact outB HB.out (ret_bool (decide_eq_true (by rw [count_pos]; omega))) (by go_grown)

set_option maxRecDepth 100000 in
set_option maxHeartbeats 1000000 in
theorem rb3_1 (q : ByteArray) (w : World) (hsz : q.size = 1) (h0 : 224 ≤ q[0].toNat) (h1 : q[0].toNat < 240) :
    Calls Tryd.prog 106 #[.string q] w (OutB (begL q.data.toList) w) := by
  have HN : Hid (needN (q[0].toNat : Int) = 3) := Lib.hid (needN3 (by omega) (by omega))
  have HB : Hid (begL q.data.toList = true) := Lib.hid (by
    rw [list1 q hsz]
    exact begL_yes HN.out (by decide) (n := 1) (by rw [po3 (by unfold nb; omega) (by unfold nb; omega)]; rfl) rfl)
  go_enter Tryd.func106, Tryd.ntmps106
  go_wp2_with fail
  refine (need_any _ _ (by omega) (by omega)).mono ?_
  rintro e w' ⟨rfl, rfl⟩
  rw [HN.out]
  go_wp2_with fail
  refine wp_loop_rounds 1 ?_
  rw [rounds_succ]
  go_wp2_with fail
  refine wp_loop_rounds 3 ?_
  rw [rounds_succ]
  go_wp2_with fail
  rw [rounds_succ]
  go_wp2_with fail
  rw [rounds_succ]
  by_cases c : ((q[0].toNat : Int) - 224) * 64 * 64 < 2048
  · have c' : ((q[0].toNat : Int)) = 224 := by omega
    have C' := Lib.hid c'
    clear c'
    go_wp2_with fail
    refine (refCount_any _ _ _).mono ?_
    rintro e w' ⟨rfl, rfl⟩
    go_wp2_with fail
    go_ret
    exact outB HB.out (ret_bool (decide_eq_true (by have := C'.out; rw [count_pos]; omega))) (by go_grown)
  · go_wp2_with fail
    refine (refCount_any _ _ _).mono ?_
    rintro e w' ⟨rfl, rfl⟩
    go_wp2_with fail
    go_ret
    exact outB HB.out (ret_bool (decide_eq_true (by rw [count_pos]; omega))) (by go_grown)

set_option maxRecDepth 100000 in
set_option maxHeartbeats 1000000 in
theorem rb4_1 (q : ByteArray) (w : World) (hsz : q.size = 1) (h0 : 240 ≤ q[0].toNat) (h1 : q[0].toNat < 245) :
    Calls Tryd.prog 106 #[.string q] w (OutB (begL q.data.toList) w) := by
  have HN : Hid (needN (q[0].toNat : Int) = 4) := Lib.hid (needN4 (by omega) (by omega))
  have HB : Hid (begL q.data.toList = true) := Lib.hid (by
    rw [list1 q hsz]
    exact begL_yes HN.out (by decide) (n := 1) (by rw [po4 (by unfold nb; omega) (by unfold nb; omega)]; rfl) rfl)
  go_enter Tryd.func106, Tryd.ntmps106
  go_wp2_with fail
  refine (need_any _ _ (by omega) (by omega)).mono ?_
  rintro e w' ⟨rfl, rfl⟩
  rw [HN.out]
  go_wp2_with fail
  refine wp_loop_rounds 1 ?_
  rw [rounds_succ]
  go_wp2_with fail
  refine wp_loop_rounds 4 ?_
  rw [rounds_succ]
  go_wp2_with fail
  rw [rounds_succ]
  go_wp2_with fail
  rw [rounds_succ]
  go_wp2_with fail
  rw [rounds_succ]
  by_cases c : ((q[0].toNat : Int) - 240) * 64 * 64 * 64 < 65536
  · have c' : ((q[0].toNat : Int)) = 240 := by omega
    have C' := Lib.hid c'
    clear c'
    go_wp2_with fail
    refine (refCount_any _ _ _).mono ?_
    rintro e w' ⟨rfl, rfl⟩
    go_wp2_with fail
    go_ret
    exact outB HB.out (ret_bool (decide_eq_true (by have := C'.out; rw [count_pos]; omega))) (by go_grown)
  · go_wp2_with fail
    refine (refCount_any _ _ _).mono ?_
    rintro e w' ⟨rfl, rfl⟩
    go_wp2_with fail
    go_ret
    exact outB HB.out (ret_bool (decide_eq_true (by rw [count_pos]; omega))) (by go_grown)

set_option maxRecDepth 100000 in
set_option maxHeartbeats 1000000 in
theorem rb2_2 (q : ByteArray) (w : World) (hsz : q.size = 2) (h0 : 194 ≤ q[0].toNat) (h1 : q[0].toNat < 224) :
    Calls Tryd.prog 106 #[.string q] w (OutB (begL q.data.toList) w) := by
  have HN : Hid (needN (q[0].toNat : Int) = 2) := Lib.hid (needN2 (by omega) (by omega))
  have HL := Lib.hid (list2 q hsz)
  have HP := Lib.hid (po2 (b := q[0]) (r := [q[1]]) (by unfold nb; omega) (by unfold nb; omega))
  go_enter Tryd.func106, Tryd.ntmps106
  go_wp2_with fail
  refine (need_any _ _ (by omega) (by omega)).mono ?_
  rintro e w' ⟨rfl, rfl⟩
  rw [HN.out]
  go_wp2_with fail
  refine wp_loop_rounds 2 ?_
  have y1 : q[1].toNat < 256 := UInt8.toNat_lt _
  by_cases t1 : 128 ≤ q[1].toNat ∧ q[1].toNat < 192
  rotate_left
  ·
    have HB : Hid (begL q.data.toList = false) := Lib.hid (by
      rw [HL.out]
      exact begL_no (n := 1) (by rw [HP.out]; exact p2_no (by unfold tl nb; omega)) (by simp))
    have t4 : q[1].toNat < 128 ∨ 192 ≤ q[1].toNat := by omega
    clear t1
    rcases t4 with t4 | t4
    · rw [rounds_succ]
      go_wp2_with fail
      go_ret
      exact outB HB.out rfl (Below.refl _ _)
    · rw [rounds_succ]
      go_wp2_with fail
      go_ret
      exact outB HB.out rfl (Below.refl _ _)
  obtain ⟨z1, zz1⟩ := t1
  rw [rounds_succ]
  go_wp2_with fail
  rw [rounds_succ]
  go_wp2_with fail
  refine wp_loop_rounds 1 ?_
  rw [rounds_succ]
  have HB : Hid (begL q.data.toList = true) := Lib.hid (by
    rw [HL.out]
    exact begL_yes HN.out (by decide) (n := 2) (by rw [HP.out]; exact p2_n ⟨by unfold nb; omega, by unfold nb; omega⟩ (by unfold nb; omega)) rfl)
  go_wp2_with fail
  refine (refCount_any _ _ _).mono ?_
  rintro e w' ⟨rfl, rfl⟩
  go_wp2_with fail
  go_ret
  exact outB HB.out (ret_bool (decide_eq_true (by rw [count_pos]; omega))) (by go_grown)

set_option maxRecDepth 100000 in
set_option maxHeartbeats 1000000 in
theorem rb3_2 (q : ByteArray) (w : World) (hsz : q.size = 2) (h0 : 224 ≤ q[0].toNat) (h1 : q[0].toNat < 240) :
    Calls Tryd.prog 106 #[.string q] w (OutB (begL q.data.toList) w) := by
  have HN : Hid (needN (q[0].toNat : Int) = 3) := Lib.hid (needN3 (by omega) (by omega))
  have HL := Lib.hid (list2 q hsz)
  have HP := Lib.hid (po3 (b := q[0]) (r := [q[1]]) (by unfold nb; omega) (by unfold nb; omega))
  go_enter Tryd.func106, Tryd.ntmps106
  go_wp2_with fail
  refine (need_any _ _ (by omega) (by omega)).mono ?_
  rintro e w' ⟨rfl, rfl⟩
  rw [HN.out]
  go_wp2_with fail
  refine wp_loop_rounds 2 ?_
  have y1 : q[1].toNat < 256 := UInt8.toNat_lt _
  by_cases t1 : 128 ≤ q[1].toNat ∧ q[1].toNat < 192
  rotate_left
  ·
    have HB : Hid (begL q.data.toList = false) := Lib.hid (by
      rw [HL.out]
      exact begL_no (n := 1) (by rw [HP.out]; exact p3_no (fun c => by have := c.1; unfold tl nb at this; omega)) (by simp))
    have t4 : q[1].toNat < 128 ∨ 192 ≤ q[1].toNat := by omega
    clear t1
    rcases t4 with t4 | t4
    · rw [rounds_succ]
      go_wp2_with fail
      go_ret
      exact outB HB.out rfl (Below.refl _ _)
    · rw [rounds_succ]
      go_wp2_with fail
      go_ret
      exact outB HB.out rfl (Below.refl _ _)
  obtain ⟨z1, zz1⟩ := t1
  rw [rounds_succ]
  go_wp2_with fail
  rw [rounds_succ]
  go_wp2_with fail
  refine wp_loop_rounds 2 ?_
  rw [rounds_succ]
  go_wp2_with fail
  rw [rounds_succ]
  by_cases g : go3 ((nb q[0] - 224) * 64 + nb q[1] % 64)
  · have HB : Hid (begL q.data.toList = true) := Lib.hid (by
      rw [HL.out]
      exact begL_yes HN.out (by decide) (n := 2) (by rw [HP.out, p3_yes ⟨⟨by unfold nb; omega, by unfold nb; omega⟩, g⟩]; rfl) rfl)
    have HG : Hid (32 ≤ ((q[0].toNat : Int) - 224) * 64 + (q[1].toNat : Int) - 128 ∧ (((q[0].toNat : Int) - 224) * 64 + (q[1].toNat : Int) - 128 < 864 ∨ 896 ≤ ((q[0].toNat : Int) - 224) * 64 + (q[1].toNat : Int) - 128)) := Lib.hid (by unfold go3 nb at g; omega)
    have g1 : 32 ≤ ((q[0].toNat : Int) - 224) * 64 + (q[1].toNat : Int) - 128 := HG.out.1
    clear g
    go_wp2_with fail
    refine (refCount_any _ _ _).mono ?_
    rintro e w' ⟨rfl, rfl⟩
    go_wp2_with fail
    go_ret
    exact outB HB.out (ret_bool (decide_eq_true (by have := HG.out.2; rw [count_pos]; omega))) (by go_grown)
  · have HB : Hid (begL q.data.toList = false) := Lib.hid (by
      rw [HL.out]
      exact begL_no (n := 1) (by rw [HP.out]; exact p3_no (fun c => g c.2)) (by simp))
    by_cases g1 : ((q[0].toNat : Int) - 224) * 64 + (q[1].toNat : Int) - 128 < 32
    · clear g
      go_wp2_with fail
      go_ret
      exact outB HB.out rfl (by go_grown)
    · have HG : Hid (864 ≤ ((q[0].toNat : Int) - 224) * 64 + (q[1].toNat : Int) - 128 ∧ ((q[0].toNat : Int) - 224) * 64 + (q[1].toNat : Int) - 128 < 896) := Lib.hid (by unfold go3 nb at g; omega)
      clear g
      go_wp2_with fail
      refine (refCount_any _ _ _).mono ?_
      rintro e w' ⟨rfl, rfl⟩
      go_wp2_with fail
      go_ret
      exact outB HB.out (ret_bool (decide_eq_false (by have := HG.out; rw [count_pos]; omega))) (by go_grown)

set_option maxRecDepth 100000 in
set_option maxHeartbeats 1000000 in
theorem rb3_3 (q : ByteArray) (w : World) (hsz : q.size = 3) (h0 : 224 ≤ q[0].toNat) (h1 : q[0].toNat < 240) :
    Calls Tryd.prog 106 #[.string q] w (OutB (begL q.data.toList) w) := by
  have HN : Hid (needN (q[0].toNat : Int) = 3) := Lib.hid (needN3 (by omega) (by omega))
  have HL := Lib.hid (list3 q hsz)
  have HP := Lib.hid (po3 (b := q[0]) (r := [q[1], q[2]]) (by unfold nb; omega) (by unfold nb; omega))
  go_enter Tryd.func106, Tryd.ntmps106
  go_wp2_with fail
  refine (need_any _ _ (by omega) (by omega)).mono ?_
  rintro e w' ⟨rfl, rfl⟩
  rw [HN.out]
  go_wp2_with fail
  refine wp_loop_rounds 3 ?_
  have y1 : q[1].toNat < 256 := UInt8.toNat_lt _
  by_cases t1 : 128 ≤ q[1].toNat ∧ q[1].toNat < 192
  rotate_left
  ·
    have HB : Hid (begL q.data.toList = false) := Lib.hid (by
      rw [HL.out]
      exact begL_no (n := 1) (by rw [HP.out]; exact p3_no (fun c => by have := c.1; unfold tl nb at this; omega)) (by simp))
    have t4 : q[1].toNat < 128 ∨ 192 ≤ q[1].toNat := by omega
    clear t1
    rcases t4 with t4 | t4
    · rw [rounds_succ]
      go_wp2_with fail
      go_ret
      exact outB HB.out rfl (Below.refl _ _)
    · rw [rounds_succ]
      go_wp2_with fail
      go_ret
      exact outB HB.out rfl (Below.refl _ _)
  obtain ⟨z1, zz1⟩ := t1
  rw [rounds_succ]
  go_wp2_with fail
  have y2 : q[2].toNat < 256 := UInt8.toNat_lt _
  by_cases t2 : 128 ≤ q[2].toNat ∧ q[2].toNat < 192
  rotate_left
  ·
    have HB : Hid (begL q.data.toList = false) := Lib.hid (by
      rw [HL.out]
      by_cases g : go3 ((nb q[0] - 224) * 64 + nb q[1] % 64)
      · exact begL_no (n := 2) (by rw [HP.out, p3_yes ⟨⟨by unfold nb; omega, by unfold nb; omega⟩, g⟩]; exact p3b_no (by unfold tl nb; omega)) (by simp)
      · exact begL_no (n := 1) (by rw [HP.out]; exact p3_no (fun c => g c.2)) (by simp))
    have t4 : q[2].toNat < 128 ∨ 192 ≤ q[2].toNat := by omega
    clear t2
    rcases t4 with t4 | t4
    · rw [rounds_succ]
      go_wp2_with fail
      go_ret
      exact outB HB.out rfl (Below.refl _ _)
    · rw [rounds_succ]
      go_wp2_with fail
      go_ret
      exact outB HB.out rfl (Below.refl _ _)
  obtain ⟨z2, zz2⟩ := t2
  rw [rounds_succ]
  go_wp2_with fail
  rw [rounds_succ]
  go_wp2_with fail
  refine wp_loop_rounds 1 ?_
  rw [rounds_succ]
  by_cases g : go3 ((nb q[0] - 224) * 64 + nb q[1] % 64)
  · have HB : Hid (begL q.data.toList = true) := Lib.hid (by
      rw [HL.out]
      exact begL_yes HN.out (by decide) (n := 3) (by rw [HP.out, p3_yes ⟨⟨by unfold nb; omega, by unfold nb; omega⟩, g⟩]; exact p3b_n ⟨by unfold nb; omega, by unfold nb; omega⟩) rfl)
    have HG : Hid (32 ≤ ((q[0].toNat : Int) - 224) * 64 + (q[1].toNat : Int) - 128 ∧ (((q[0].toNat : Int) - 224) * 64 + (q[1].toNat : Int) - 128 < 864 ∨ 896 ≤ ((q[0].toNat : Int) - 224) * 64 + (q[1].toNat : Int) - 128)) := Lib.hid (by unfold go3 nb at g; omega)
    have g1 : 32 ≤ ((q[0].toNat : Int) - 224) * 64 + (q[1].toNat : Int) - 128 := HG.out.1
    clear g
    go_wp2_with fail
    refine (refCount_any _ _ _).mono ?_
    rintro e w' ⟨rfl, rfl⟩
    go_wp2_with fail
    go_ret
    exact outB HB.out (ret_bool (decide_eq_true (by have := HG.out.2; rw [count_pos]; omega))) (by go_grown)
  · have HB : Hid (begL q.data.toList = false) := Lib.hid (by
      rw [HL.out]
      exact begL_no (n := 1) (by rw [HP.out]; exact p3_no (fun c => g c.2)) (by simp))
    by_cases g1 : ((q[0].toNat : Int) - 224) * 64 + (q[1].toNat : Int) - 128 < 32
    · clear g
      go_wp2_with fail
      go_ret
      exact outB HB.out rfl (by go_grown)
    · have HG : Hid (864 ≤ ((q[0].toNat : Int) - 224) * 64 + (q[1].toNat : Int) - 128 ∧ ((q[0].toNat : Int) - 224) * 64 + (q[1].toNat : Int) - 128 < 896) := Lib.hid (by unfold go3 nb at g; omega)
      clear g
      go_wp2_with fail
      refine (refCount_any _ _ _).mono ?_
      rintro e w' ⟨rfl, rfl⟩
      go_wp2_with fail
      go_ret
      exact outB HB.out (ret_bool (decide_eq_false (by have := HG.out; rw [count_pos]; omega))) (by go_grown)

set_option maxRecDepth 100000 in
set_option maxHeartbeats 1000000 in
theorem rb4_2 (q : ByteArray) (w : World) (hsz : q.size = 2) (h0 : 240 ≤ q[0].toNat) (h1 : q[0].toNat < 245) :
    Calls Tryd.prog 106 #[.string q] w (OutB (begL q.data.toList) w) := by
  have HN : Hid (needN (q[0].toNat : Int) = 4) := Lib.hid (needN4 (by omega) (by omega))
  have HL := Lib.hid (list2 q hsz)
  have HP := Lib.hid (po4 (b := q[0]) (r := [q[1]]) (by unfold nb; omega) (by unfold nb; omega))
  go_enter Tryd.func106, Tryd.ntmps106
  go_wp2_with fail
  refine (need_any _ _ (by omega) (by omega)).mono ?_
  rintro e w' ⟨rfl, rfl⟩
  rw [HN.out]
  go_wp2_with fail
  refine wp_loop_rounds 2 ?_
  have y1 : q[1].toNat < 256 := UInt8.toNat_lt _
  by_cases t1 : 128 ≤ q[1].toNat ∧ q[1].toNat < 192
  rotate_left
  ·
    have HB : Hid (begL q.data.toList = false) := Lib.hid (by
      rw [HL.out]
      exact begL_no (n := 1) (by rw [HP.out]; exact p4_no (fun c => by have := c.1; unfold tl nb at this; omega)) (by simp))
    have t4 : q[1].toNat < 128 ∨ 192 ≤ q[1].toNat := by omega
    clear t1
    rcases t4 with t4 | t4
    · rw [rounds_succ]
      go_wp2_with fail
      go_ret
      exact outB HB.out rfl (Below.refl _ _)
    · rw [rounds_succ]
      go_wp2_with fail
      go_ret
      exact outB HB.out rfl (Below.refl _ _)
  obtain ⟨z1, zz1⟩ := t1
  rw [rounds_succ]
  go_wp2_with fail
  rw [rounds_succ]
  go_wp2_with fail
  refine wp_loop_rounds 3 ?_
  rw [rounds_succ]
  go_wp2_with fail
  rw [rounds_succ]
  go_wp2_with fail
  rw [rounds_succ]
  by_cases g : go4 ((nb q[0] - 240) * 64 + nb q[1] % 64)
  · have HB : Hid (begL q.data.toList = true) := Lib.hid (by
      rw [HL.out]
      exact begL_yes HN.out (by decide) (n := 2) (by rw [HP.out, p4_yes ⟨⟨by unfold nb; omega, by unfold nb; omega⟩, g⟩]; rfl) rfl)
    have HG : Hid (16 ≤ ((q[0].toNat : Int) - 240) * 64 + (q[1].toNat : Int) - 128 ∧ ((q[0].toNat : Int) - 240) * 64 + (q[1].toNat : Int) - 128 < 272) := Lib.hid (by unfold go4 nb at g; omega)
    have g1 : 16 ≤ ((q[0].toNat : Int) - 240) * 64 + (q[1].toNat : Int) - 128 := HG.out.1
    clear g
    go_wp2_with fail
    refine (refCount_any _ _ _).mono ?_
    rintro e w' ⟨rfl, rfl⟩
    go_wp2_with fail
    go_ret
    exact outB HB.out (ret_bool (decide_eq_true (by have := HG.out.2; rw [count_pos]; omega))) (by go_grown)
  · have HB : Hid (begL q.data.toList = false) := Lib.hid (by
      rw [HL.out]
      exact begL_no (n := 1) (by rw [HP.out]; exact p4_no (fun c => g c.2)) (by simp))
    by_cases g1 : ((q[0].toNat : Int) - 240) * 64 + (q[1].toNat : Int) - 128 < 16
    · clear g
      go_wp2_with fail
      go_ret
      exact outB HB.out rfl (by go_grown)
    · have HG : Hid (272 ≤ ((q[0].toNat : Int) - 240) * 64 + (q[1].toNat : Int) - 128) := Lib.hid (by unfold go4 nb at g; omega)
      clear g
      go_wp2_with fail
      refine (refCount_any _ _ _).mono ?_
      rintro e w' ⟨rfl, rfl⟩
      go_wp2_with fail
      go_ret
      exact outB HB.out (ret_bool (decide_eq_false (by have := HG.out; rw [count_pos]; omega))) (by go_grown)

set_option maxRecDepth 100000 in
set_option maxHeartbeats 1000000 in
theorem rb4_3 (q : ByteArray) (w : World) (hsz : q.size = 3) (h0 : 240 ≤ q[0].toNat) (h1 : q[0].toNat < 245) :
    Calls Tryd.prog 106 #[.string q] w (OutB (begL q.data.toList) w) := by
  have HN : Hid (needN (q[0].toNat : Int) = 4) := Lib.hid (needN4 (by omega) (by omega))
  have HL := Lib.hid (list3 q hsz)
  have HP := Lib.hid (po4 (b := q[0]) (r := [q[1], q[2]]) (by unfold nb; omega) (by unfold nb; omega))
  go_enter Tryd.func106, Tryd.ntmps106
  go_wp2_with fail
  refine (need_any _ _ (by omega) (by omega)).mono ?_
  rintro e w' ⟨rfl, rfl⟩
  rw [HN.out]
  go_wp2_with fail
  refine wp_loop_rounds 3 ?_
  have y1 : q[1].toNat < 256 := UInt8.toNat_lt _
  by_cases t1 : 128 ≤ q[1].toNat ∧ q[1].toNat < 192
  rotate_left
  ·
    have HB : Hid (begL q.data.toList = false) := Lib.hid (by
      rw [HL.out]
      exact begL_no (n := 1) (by rw [HP.out]; exact p4_no (fun c => by have := c.1; unfold tl nb at this; omega)) (by simp))
    have t4 : q[1].toNat < 128 ∨ 192 ≤ q[1].toNat := by omega
    clear t1
    rcases t4 with t4 | t4
    · rw [rounds_succ]
      go_wp2_with fail
      go_ret
      exact outB HB.out rfl (Below.refl _ _)
    · rw [rounds_succ]
      go_wp2_with fail
      go_ret
      exact outB HB.out rfl (Below.refl _ _)
  obtain ⟨z1, zz1⟩ := t1
  rw [rounds_succ]
  go_wp2_with fail
  have y2 : q[2].toNat < 256 := UInt8.toNat_lt _
  by_cases t2 : 128 ≤ q[2].toNat ∧ q[2].toNat < 192
  rotate_left
  ·
    have HB : Hid (begL q.data.toList = false) := Lib.hid (by
      rw [HL.out]
      by_cases g : go4 ((nb q[0] - 240) * 64 + nb q[1] % 64)
      · exact begL_no (n := 2) (by rw [HP.out, p4_yes ⟨⟨by unfold nb; omega, by unfold nb; omega⟩, g⟩]; exact p4b_no (by unfold tl nb; omega)) (by simp)
      · exact begL_no (n := 1) (by rw [HP.out]; exact p4_no (fun c => g c.2)) (by simp))
    have t4 : q[2].toNat < 128 ∨ 192 ≤ q[2].toNat := by omega
    clear t2
    rcases t4 with t4 | t4
    · rw [rounds_succ]
      go_wp2_with fail
      go_ret
      exact outB HB.out rfl (Below.refl _ _)
    · rw [rounds_succ]
      go_wp2_with fail
      go_ret
      exact outB HB.out rfl (Below.refl _ _)
  obtain ⟨z2, zz2⟩ := t2
  rw [rounds_succ]
  go_wp2_with fail
  rw [rounds_succ]
  go_wp2_with fail
  refine wp_loop_rounds 2 ?_
  rw [rounds_succ]
  go_wp2_with fail
  rw [rounds_succ]
  by_cases g : go4 ((nb q[0] - 240) * 64 + nb q[1] % 64)
  · have HB : Hid (begL q.data.toList = true) := Lib.hid (by
      rw [HL.out]
      exact begL_yes HN.out (by decide) (n := 3) (by rw [HP.out, p4_yes ⟨⟨by unfold nb; omega, by unfold nb; omega⟩, g⟩, p4b_yes ⟨by unfold nb; omega, by unfold nb; omega⟩]; rfl) rfl)
    have HG : Hid (16 ≤ ((q[0].toNat : Int) - 240) * 64 + (q[1].toNat : Int) - 128 ∧ ((q[0].toNat : Int) - 240) * 64 + (q[1].toNat : Int) - 128 < 272) := Lib.hid (by unfold go4 nb at g; omega)
    have g1 : 16 ≤ ((q[0].toNat : Int) - 240) * 64 + (q[1].toNat : Int) - 128 := HG.out.1
    clear g
    go_wp2_with fail
    refine (refCount_any _ _ _).mono ?_
    rintro e w' ⟨rfl, rfl⟩
    go_wp2_with fail
    go_ret
    exact outB HB.out (ret_bool (decide_eq_true (by have := HG.out.2; rw [count_pos]; omega))) (by go_grown)
  · have HB : Hid (begL q.data.toList = false) := Lib.hid (by
      rw [HL.out]
      exact begL_no (n := 1) (by rw [HP.out]; exact p4_no (fun c => g c.2)) (by simp))
    by_cases g1 : ((q[0].toNat : Int) - 240) * 64 + (q[1].toNat : Int) - 128 < 16
    · clear g
      go_wp2_with fail
      go_ret
      exact outB HB.out rfl (by go_grown)
    · have HG : Hid (272 ≤ ((q[0].toNat : Int) - 240) * 64 + (q[1].toNat : Int) - 128) := Lib.hid (by unfold go4 nb at g; omega)
      clear g
      go_wp2_with fail
      refine (refCount_any _ _ _).mono ?_
      rintro e w' ⟨rfl, rfl⟩
      go_wp2_with fail
      go_ret
      exact outB HB.out (ret_bool (decide_eq_false (by have := HG.out; rw [count_pos]; omega))) (by go_grown)

set_option maxRecDepth 100000 in
set_option maxHeartbeats 1000000 in
theorem rb4_4 (q : ByteArray) (w : World) (hsz : q.size = 4) (h0 : 240 ≤ q[0].toNat) (h1 : q[0].toNat < 245) :
    Calls Tryd.prog 106 #[.string q] w (OutB (begL q.data.toList) w) := by
  have HN : Hid (needN (q[0].toNat : Int) = 4) := Lib.hid (needN4 (by omega) (by omega))
  have HL := Lib.hid (list4 q hsz)
  have HP := Lib.hid (po4 (b := q[0]) (r := [q[1], q[2], q[3]]) (by unfold nb; omega) (by unfold nb; omega))
  go_enter Tryd.func106, Tryd.ntmps106
  go_wp2_with fail
  refine (need_any _ _ (by omega) (by omega)).mono ?_
  rintro e w' ⟨rfl, rfl⟩
  rw [HN.out]
  go_wp2_with fail
  refine wp_loop_rounds 4 ?_
  have y1 : q[1].toNat < 256 := UInt8.toNat_lt _
  by_cases t1 : 128 ≤ q[1].toNat ∧ q[1].toNat < 192
  rotate_left
  ·
    have HB : Hid (begL q.data.toList = false) := Lib.hid (by
      rw [HL.out]
      exact begL_no (n := 1) (by rw [HP.out]; exact p4_no (fun c => by have := c.1; unfold tl nb at this; omega)) (by simp))
    have t4 : q[1].toNat < 128 ∨ 192 ≤ q[1].toNat := by omega
    clear t1
    rcases t4 with t4 | t4
    · rw [rounds_succ]
      go_wp2_with fail
      go_ret
      exact outB HB.out rfl (Below.refl _ _)
    · rw [rounds_succ]
      go_wp2_with fail
      go_ret
      exact outB HB.out rfl (Below.refl _ _)
  obtain ⟨z1, zz1⟩ := t1
  rw [rounds_succ]
  go_wp2_with fail
  have y2 : q[2].toNat < 256 := UInt8.toNat_lt _
  by_cases t2 : 128 ≤ q[2].toNat ∧ q[2].toNat < 192
  rotate_left
  ·
    have HB : Hid (begL q.data.toList = false) := Lib.hid (by
      rw [HL.out]
      by_cases g : go4 ((nb q[0] - 240) * 64 + nb q[1] % 64)
      · exact begL_no (n := 2) (by rw [HP.out, p4_yes ⟨⟨by unfold nb; omega, by unfold nb; omega⟩, g⟩]; exact p4b_no (by unfold tl nb; omega)) (by simp)
      · exact begL_no (n := 1) (by rw [HP.out]; exact p4_no (fun c => g c.2)) (by simp))
    have t4 : q[2].toNat < 128 ∨ 192 ≤ q[2].toNat := by omega
    clear t2
    rcases t4 with t4 | t4
    · rw [rounds_succ]
      go_wp2_with fail
      go_ret
      exact outB HB.out rfl (Below.refl _ _)
    · rw [rounds_succ]
      go_wp2_with fail
      go_ret
      exact outB HB.out rfl (Below.refl _ _)
  obtain ⟨z2, zz2⟩ := t2
  rw [rounds_succ]
  go_wp2_with fail
  have y3 : q[3].toNat < 256 := UInt8.toNat_lt _
  by_cases t3 : 128 ≤ q[3].toNat ∧ q[3].toNat < 192
  rotate_left
  ·
    have HB : Hid (begL q.data.toList = false) := Lib.hid (by
      rw [HL.out]
      by_cases g : go4 ((nb q[0] - 240) * 64 + nb q[1] % 64)
      · exact begL_no (n := 3) (by rw [HP.out, p4_yes ⟨⟨by unfold nb; omega, by unfold nb; omega⟩, g⟩, p4b_yes ⟨by unfold nb; omega, by unfold nb; omega⟩]; exact p4c_no (by unfold tl nb; omega)) (by simp)
      · exact begL_no (n := 1) (by rw [HP.out]; exact p4_no (fun c => g c.2)) (by simp))
    have t4 : q[3].toNat < 128 ∨ 192 ≤ q[3].toNat := by omega
    clear t3
    rcases t4 with t4 | t4
    · rw [rounds_succ]
      go_wp2_with fail
      go_ret
      exact outB HB.out rfl (Below.refl _ _)
    · rw [rounds_succ]
      go_wp2_with fail
      go_ret
      exact outB HB.out rfl (Below.refl _ _)
  obtain ⟨z3, zz3⟩ := t3
  rw [rounds_succ]
  go_wp2_with fail
  rw [rounds_succ]
  go_wp2_with fail
  refine wp_loop_rounds 1 ?_
  rw [rounds_succ]
  by_cases g : go4 ((nb q[0] - 240) * 64 + nb q[1] % 64)
  · have HB : Hid (begL q.data.toList = true) := Lib.hid (by
      rw [HL.out]
      exact begL_yes HN.out (by decide) (n := 4) (by rw [HP.out, p4_yes ⟨⟨by unfold nb; omega, by unfold nb; omega⟩, g⟩, p4b_yes ⟨by unfold nb; omega, by unfold nb; omega⟩]; exact p4c_n ⟨by unfold nb; omega, by unfold nb; omega⟩) rfl)
    have HG : Hid (16 ≤ ((q[0].toNat : Int) - 240) * 64 + (q[1].toNat : Int) - 128 ∧ ((q[0].toNat : Int) - 240) * 64 + (q[1].toNat : Int) - 128 < 272) := Lib.hid (by unfold go4 nb at g; omega)
    have g1 : 16 ≤ ((q[0].toNat : Int) - 240) * 64 + (q[1].toNat : Int) - 128 := HG.out.1
    clear g
    go_wp2_with fail
    refine (refCount_any _ _ _).mono ?_
    rintro e w' ⟨rfl, rfl⟩
    go_wp2_with fail
    go_ret
    exact outB HB.out (ret_bool (decide_eq_true (by have := HG.out.2; rw [count_pos]; omega))) (by go_grown)
  · have HB : Hid (begL q.data.toList = false) := Lib.hid (by
      rw [HL.out]
      exact begL_no (n := 1) (by rw [HP.out]; exact p4_no (fun c => g c.2)) (by simp))
    by_cases g1 : ((q[0].toNat : Int) - 240) * 64 + (q[1].toNat : Int) - 128 < 16
    · clear g
      go_wp2_with fail
      go_ret
      exact outB HB.out rfl (by go_grown)
    · have HG : Hid (272 ≤ ((q[0].toNat : Int) - 240) * 64 + (q[1].toNat : Int) - 128) := Lib.hid (by unfold go4 nb at g; omega)
      clear g
      go_wp2_with fail
      refine (refCount_any _ _ _).mono ?_
      rintro e w' ⟨rfl, rfl⟩
      go_wp2_with fail
      go_ret
      exact outB HB.out (ret_bool (decide_eq_false (by have := HG.out; rw [count_pos]; omega))) (by go_grown)

/-- begins, at every string of one to four bytes. -/
theorem refBegins_any (q : ByteArray) (w : World) (hsz : 1 ≤ q.size) (hm : q.size ≤ 4) : Calls Tryd.prog 106 #[.string q] w (OutB (begL q.data.toList) w) := by
  by_cases c0 : 128 ≤ q[0].toNat ∧ q[0].toNat < 194 ∨ 245 ≤ q[0].toNat
  · exact rb0 q w hsz hm c0
  have hm' : q.size = 1 ∨ q.size = 2 ∨ q.size = 3 ∨ q.size = 4 := by omega
  by_cases c1 : q[0].toNat < 128
  · rcases hm' with h | h | h | h
    · exact rb1_1 q w h c1
    · exact rb1_2 q w h (by omega) c1
    · exact rb1_3 q w h (by omega) c1
    · exact rb1_4 q w h (by omega) c1
  by_cases c2 : q[0].toNat < 224
  · rcases hm' with h | h | h | h
    · exact rb2_1 q w h (by omega) c2
    · exact rb2_2 q w h (by omega) c2
    · exact rb2_3 q w h (by omega) c2
    · exact rb2_4 q w h (by omega) c2
  by_cases c3 : q[0].toNat < 240
  · rcases hm' with h | h | h | h
    · exact rb3_1 q w h (by omega) c3
    · exact rb3_2 q w h (by omega) c3
    · exact rb3_3 q w h (by omega) c3
    · exact rb3_4 q w h (by omega) c3
  · rcases hm' with h | h | h | h
    · exact rb4_1 q w h (by omega) (by omega)
    · exact rb4_2 q w h (by omega) (by omega)
    · exact rb4_3 q w h (by omega) (by omega)
    · exact rb4_4 q w h (by omega) (by omega)
end Go.Proofs.YtbnconieedgcmaaDoor.U
