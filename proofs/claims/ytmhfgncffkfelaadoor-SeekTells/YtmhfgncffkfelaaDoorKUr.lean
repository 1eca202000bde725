/- Joined: URefs URefBegins UMath3. -/
import Derived.Test.YtmhfgncffkfelaaDoorKU2
/- What the document's own answers Is, Count, need, Bytes and begins of layers 1 and 2 return: the same functions as the program's. -/
namespace Go.Proofs.YtmhfgncffkfelaaDoor.U
open Go.RowKit
set_option linter.unusedVariables false
set_option linter.unusedSimpArgs false

theorem refIs_any (v : Int) (w : World) :
    Calls Tryd.prog 74 #[.int .i64 v] w fun e w' => e = .returned (.bool (isB v)) ∧ w = w' := by
  by_cases c1 : 0 ≤ v
  · by_cases c2 : v < 55296
    · rw [show isB v = true from decide_eq_true (by omega)]
      go_enter Tryd.func74, Tryd.ntmps74
      go_wp2
      go_ret
      exact ⟨rfl, rfl⟩
    · by_cases c3 : 57344 ≤ v
      · by_cases c4 : v ≤ 1114111
        · rw [show isB v = true from decide_eq_true (by omega)]
          go_enter Tryd.func74, Tryd.ntmps74
          go_wp2
          go_ret
          exact ⟨rfl, rfl⟩
        · rw [show isB v = false from decide_eq_false (by omega)]
          go_enter Tryd.func74, Tryd.ntmps74
          go_wp2
          go_ret
          exact ⟨rfl, rfl⟩
      · rw [show isB v = false from decide_eq_false (by omega)]
        go_enter Tryd.func74, Tryd.ntmps74
        go_wp2
        go_ret
        exact ⟨rfl, rfl⟩
  · rw [show isB v = false from decide_eq_false (by omega)]
    go_enter Tryd.func74, Tryd.ntmps74
    go_wp2
    go_ret
    exact ⟨rfl, rfl⟩

/-- The document's Below, at any number. -/
def refBelowN (v : Int) : Int := belowN (max 0 (min v 1114112))

theorem refBelow_any (v : Int) (w : World) :
    Calls Tryd.prog 121 #[.int .i64 v] w fun e w' => e = .returned (.int .i64 (refBelowN v)) ∧ w = w' := by
  have hd : refBelowN v = belowN (max 0 (min v 1114112)) := rfl
  by_cases c1 : v ≤ 0
  · rw [show max 0 (min v 1114112) = 0 by omega] at hd
    rw [hd]
    clear hd
    go_enter Tryd.func121, Tryd.ntmps121
    go_wp2
    go_ret
    exact ⟨rfl, rfl⟩
  · by_cases c2 : 1114112 < v
    · rw [show max 0 (min v 1114112) = 1114112 by omega] at hd
      rw [hd]
      clear hd
      go_enter Tryd.func121, Tryd.ntmps121
      go_wp2
      go_ret
      exact ⟨rfl, rfl⟩
    · rw [show max 0 (min v 1114112) = v by omega] at hd
      rw [hd]
      clear hd
      by_cases c3 : v ≤ 55296
      · go_enter Tryd.func121, Tryd.ntmps121
        go_wp2
        go_ret
        exact ⟨ret_int (by unfold belowN; rw [if_pos c3]), rfl⟩
      · by_cases c4 : v < 57344
        · go_enter Tryd.func121, Tryd.ntmps121
          go_wp2
          go_ret
          exact ⟨ret_int (by unfold belowN; rw [if_neg (by omega), if_pos (by omega)]), rfl⟩
        · go_enter Tryd.func121, Tryd.ntmps121
          go_wp2
          go_ret
          exact ⟨ret_int (by unfold belowN; rw [if_neg (by omega)]; split <;> omega), rfl⟩

theorem refBelowN_bd (v : Int) : 0 ≤ refBelowN v ∧ refBelowN v ≤ 1112064 := belowN_bd _ (by omega) (by omega)

theorem refCount_any (lo hi : Int) (w : World) :
    Calls Tryd.prog 117 #[.int .i64 lo, .int .i64 hi] w fun e w' => e = .returned (.int .i64 (countN lo hi)) ∧ w = w' := by
  by_cases c1 : hi < lo
  · go_enter Tryd.func117, Tryd.ntmps117
    go_wp2
    go_ret
    exact ⟨ret_int (by unfold countN; rw [if_pos (by omega)]), rfl⟩
  · by_cases c2 : hi < 0
    · go_enter Tryd.func117, Tryd.ntmps117
      go_wp2
      go_ret
      exact ⟨ret_int (by unfold countN; rw [if_pos (by omega)]), rfl⟩
    · by_cases c3 : 1114111 < lo
      · go_enter Tryd.func117, Tryd.ntmps117
        go_wp2
        go_ret
        exact ⟨ret_int (by unfold countN; rw [if_pos (by omega)]), rfl⟩
      · have bl := refBelowN_bd lo
        by_cases c4 : 1114111 < hi
        · have bh := refBelowN_bd 1114112
          go_enter Tryd.func117, Tryd.ntmps117
          go_wp2_with (first | (go_at_call 121; go_must (refine (refBelow_any _ _).mono ?_; rintro e w' ⟨rfl, rfl⟩)))
          go_ret
          exact ⟨ret_int (by unfold countN; rw [if_neg (by omega), show min hi 1114111 + 1 = 1114112 by omega]; show belowN 1114112 - belowN (max 0 (min lo 1114112)) = _; rw [show max 0 (min lo 1114112) = max lo 0 by omega]), rfl⟩
        · have bh := refBelowN_bd (hi + 1)
          go_enter Tryd.func117, Tryd.ntmps117
          go_wp2_with (first | (go_at_call 121; go_must (refine (refBelow_any _ _).mono ?_; rintro e w' ⟨rfl, rfl⟩)))
          go_ret
          exact ⟨ret_int (by unfold countN; rw [if_neg (by omega), show min hi 1114111 = hi by omega]; unfold refBelowN; rw [show max 0 (min lo 1114112) = max lo 0 by omega, show max 0 (min (hi + 1) 1114112) = hi + 1 by omega]), rfl⟩


/-- How many bytes a first byte says. -/
def needN (b : Int) : Int := if b < 128 then 1 else if b < 194 then 0 else if b < 224 then 2 else if b < 240 then 3 else if b < 245 then 4 else 0
theorem need_any (b : Int) (w : World) (h0 : 0 ≤ b) (h1 : b ≤ 255) :
    Calls Tryd.prog 110 #[.int .u8 b] w fun e w' => e = .returned (.int .i64 (needN b)) ∧ w = w' := by
  have hd : needN b = if b < 128 then 1 else if b < 194 then 0 else if b < 224 then 2 else if b < 240 then 3 else if b < 245 then 4 else 0 := rfl
  by_cases c1 : b < 128
  · rw [if_pos c1] at hd; rw [hd]; clear hd
    go_enter Tryd.func110, Tryd.ntmps110
    go_wp2
    go_ret
    exact ⟨rfl, rfl⟩
  by_cases c2 : b < 194
  · rw [if_neg c1, if_pos c2] at hd; rw [hd]; clear hd
    go_enter Tryd.func110, Tryd.ntmps110
    go_wp2
    go_ret
    exact ⟨rfl, rfl⟩
  by_cases c3 : b < 224
  · rw [if_neg c1, if_neg c2, if_pos c3] at hd; rw [hd]; clear hd
    go_enter Tryd.func110, Tryd.ntmps110
    go_wp2
    go_ret
    exact ⟨rfl, rfl⟩
  by_cases c4 : b < 240
  · rw [if_neg c1, if_neg c2, if_neg c3, if_pos c4] at hd; rw [hd]; clear hd
    go_enter Tryd.func110, Tryd.ntmps110
    go_wp2
    go_ret
    exact ⟨rfl, rfl⟩
  by_cases c5 : b < 245
  · rw [if_neg c1, if_neg c2, if_neg c3, if_neg c4, if_pos c5] at hd; rw [hd]; clear hd
    go_enter Tryd.func110, Tryd.ntmps110
    go_wp2
    go_ret
    exact ⟨rfl, rfl⟩
  · rw [if_neg c1, if_neg c2, if_neg c3, if_neg c4, if_neg c5] at hd; rw [hd]; clear hd
    go_enter Tryd.func110, Tryd.ntmps110
    go_wp2
    go_ret
    exact ⟨rfl, rfl⟩

/-- 'string(b)' of a new row of bytes. -/
theorem conv_new (w : World) (bs : List UInt8) (t : TypeId) : (convert 27 9 (.slice (some ⟨w.heap.size, 0, none⟩) bs.length bs.length)).run Tryd.prog (w.alloc (.cells (bcells bs).toArray t)) = .ok (.string (strOf bs)) (w.alloc (.cells (bcells bs).toArray t)) := by
  refine run_convert_bytes_back _ 27 9 5 ⟨w.heap.size, 0, none⟩ bs.length bs Tryd.underlying27 Tryd.underlying5 Tryd.underlying9 (fun j hj => ?_)
  rw [add_plain, World.cell?_alloc_mark, Nat.zero_add]
  simp only [bcells, List.getElem?_toArray]
  rw [List.getElem?_map, List.getElem?_eq_getElem hj]
  rfl

end Go.Proofs.YtmhfgncffkfelaaDoor.U

/- What the document's own begins returns: whether some bytes are, from their first to their last, the beginning of some scalar's bytes. -/
namespace Go.Proofs.YtmhfgncffkfelaaDoor.U
open Go.RowKit
set_option linter.unusedVariables false
set_option linter.unusedSimpArgs false

/-- Do these bytes begin some scalar's? -/
def begL : List UInt8 → Bool
  | [] => false
  | b :: r => decide (needN (nb b) ≠ 0 ∧ (pieceOf (b :: r)).n = r.length + 1)

def OutB (x : Bool) (w : World) (e : Ending) (w' : World) : Prop := e = .returned (.bool x) ∧ Below w.heap.size w w'
theorem outB {x y : Bool} {w w' : World} {e : Ending} (h : y = x) (he : e = .returned (.bool x)) (hb : Below w.heap.size w w') : OutB y w e w' := by subst h; exact ⟨he, hb⟩

theorem needN1 {b : Int} (h : b < 128) : needN b = 1 := by unfold needN; rw [if_pos h]
theorem needN2 {b : Int} (h : 194 ≤ b) (h1 : b < 224) : needN b = 2 := by unfold needN; rw [if_neg (by omega), if_neg (by omega), if_pos h1]
theorem needN3 {b : Int} (h : 224 ≤ b) (h1 : b < 240) : needN b = 3 := by unfold needN; rw [if_neg (by omega), if_neg (by omega), if_neg (by omega), if_pos h1]
theorem needN4 {b : Int} (h : 240 ≤ b) (h1 : b < 245) : needN b = 4 := by unfold needN; rw [if_neg (by omega), if_neg (by omega), if_neg (by omega), if_neg (by omega), if_pos h1]
theorem needN0 {b : Int} (h : 128 ≤ b ∧ b < 194 ∨ 245 ≤ b) : needN b = 0 := by
  unfold needN
  rw [if_neg (by omega)]
  split
  · rfl
  · rw [if_neg (by omega), if_neg (by omega), if_neg (by omega)]

theorem begL_cons (b : UInt8) (r : List UInt8) : begL (b :: r) = decide (needN (nb b) ≠ 0 ∧ (pieceOf (b :: r)).n = r.length + 1) := rfl
theorem begL_yes {b : UInt8} {r : List UInt8} {k : Int} {n : Nat} (h : needN (nb b) = k) (hk : k ≠ 0) (hn : (pieceOf (b :: r)).n = n) (hr : n = r.length + 1) : begL (b :: r) = true := by
  rw [begL_cons]; exact decide_eq_true ⟨by rw [h]; exact hk, hn.trans hr⟩
theorem begL_no {b : UInt8} {r : List UInt8} {n : Nat} (hn : (pieceOf (b :: r)).n = n) (hr : n ≠ r.length + 1) : begL (b :: r) = false := by
  rw [begL_cons]; exact decide_eq_false (fun h => hr (hn.symm.trans h.2))
theorem begL_zero {b : UInt8} {r : List UInt8} (h : needN (nb b) = 0) : begL (b :: r) = false := by
  rw [begL_cons]; exact decide_eq_false (fun x => x.1 h)

theorem po1 {b : UInt8} {r : List UInt8} (h : nb b < 128) : pieceOf (b :: r) = ⟨nb b, 1, true⟩ := by rw [pieceOf_cons, if_pos h]
theorem po2 {b : UInt8} {r : List UInt8} (h : 192 ≤ nb b) (h1 : nb b < 224) : pieceOf (b :: r) = piece2 (nb b) r := by rw [pieceOf_cons, if_neg (by omega), if_neg (by omega), if_pos h1]
theorem po3 {b : UInt8} {r : List UInt8} (h : 224 ≤ nb b) (h1 : nb b < 240) : pieceOf (b :: r) = piece3 (nb b) r := by rw [pieceOf_cons, if_neg (by omega), if_neg (by omega), if_neg (by omega), if_pos h1]
theorem po4 {b : UInt8} {r : List UInt8} (h : 240 ≤ nb b) (h1 : nb b < 248) : pieceOf (b :: r) = piece4 (nb b) r := by rw [pieceOf_cons, if_neg (by omega), if_neg (by omega), if_neg (by omega), if_neg (by omega), if_pos h1]
theorem p2_n {x : Int} {y : UInt8} {r : List UInt8} (h : tl y) (h1 : 194 ≤ x) : (piece2 x (y :: r)).n = 2 := by
  have := nb_bd y
  have : piece2 x (y :: r) = ⟨(x - 192) * 64 + nb y % 64, 2, true⟩ := if_pos ⟨h, by omega⟩
  rw [this]
theorem p2_no {x : Int} {y : UInt8} {r : List UInt8} (h : ¬ tl y) : (piece2 x (y :: r)).n = 1 := by
  have : piece2 x (y :: r) = bad 1 := if_neg (fun c => h c.1)
  rw [this]; rfl
theorem p3_no {x : Int} {y : UInt8} {r : List UInt8} (h : ¬ (tl y ∧ go3 ((x - 224) * 64 + nb y % 64))) : (piece3 x (y :: r)).n = 1 := by
  have : piece3 x (y :: r) = bad 1 := if_neg h
  rw [this]; rfl
theorem p3_yes {x : Int} {y : UInt8} {r : List UInt8} (h : tl y ∧ go3 ((x - 224) * 64 + nb y % 64)) : piece3 x (y :: r) = piece3b ((x - 224) * 64 + nb y % 64) r := if_pos h
theorem p3b_n {v : Int} {z : UInt8} {r : List UInt8} (h : tl z) : (piece3b v (z :: r)).n = 3 := by
  have : piece3b v (z :: r) = ⟨v * 64 + nb z % 64, 3, true⟩ := if_pos h
  rw [this]
theorem p3b_no {v : Int} {z : UInt8} {r : List UInt8} (h : ¬ tl z) : (piece3b v (z :: r)).n = 2 := by
  have : piece3b v (z :: r) = bad 2 := if_neg h
  rw [this]; rfl
theorem p4_no {x : Int} {y : UInt8} {r : List UInt8} (h : ¬ (tl y ∧ go4 ((x - 240) * 64 + nb y % 64))) : (piece4 x (y :: r)).n = 1 := by
  have : piece4 x (y :: r) = bad 1 := if_neg h
  rw [this]; rfl
theorem p4_yes {x : Int} {y : UInt8} {r : List UInt8} (h : tl y ∧ go4 ((x - 240) * 64 + nb y % 64)) : piece4 x (y :: r) = piece4b ((x - 240) * 64 + nb y % 64) r := if_pos h
theorem p4b_yes {v : Int} {z : UInt8} {r : List UInt8} (h : tl z) : piece4b v (z :: r) = piece4c (v * 64 + nb z % 64) r := if_pos h
theorem p4b_no {v : Int} {z : UInt8} {r : List UInt8} (h : ¬ tl z) : (piece4b v (z :: r)).n = 2 := by
  have : piece4b v (z :: r) = bad 2 := if_neg h
  rw [this]; rfl
theorem p4c_n {v : Int} {z : UInt8} {r : List UInt8} (h : tl z) : (piece4c v (z :: r)).n = 4 := by
  have : piece4c v (z :: r) = ⟨v * 64 + nb z % 64, 4, true⟩ := if_pos h
  rw [this]
theorem p4c_no {v : Int} {z : UInt8} {r : List UInt8} (h : ¬ tl z) : (piece4c v (z :: r)).n = 3 := by
  have : piece4c v (z :: r) = bad 3 := if_neg h
  rw [this]; rfl

theorem list1 (q : ByteArray) (h : q.size = 1) : q.data.toList = [q[0]] := by
  have := drop_cons q 0 (by omega); rw [drop_none q 1 (by omega)] at this; simpa using this
theorem list2 (q : ByteArray) (h : q.size = 2) : q.data.toList = [q[0], q[1]] := by
  have h0 := drop_cons q 0 (by omega); have h1 := drop_cons q 1 (by omega); rw [drop_none q 2 (by omega)] at h1; rw [h1] at h0; simpa using h0
theorem list3 (q : ByteArray) (h : q.size = 3) : q.data.toList = [q[0], q[1], q[2]] := by
  have h0 := drop_cons q 0 (by omega); have h1 := drop_cons q 1 (by omega); have h2 := drop_cons q 2 (by omega); rw [drop_none q 3 (by omega)] at h2; rw [h2] at h1; rw [h1] at h0; simpa using h0
theorem list4 (q : ByteArray) (h : q.size = 4) : q.data.toList = [q[0], q[1], q[2], q[3]] := by
  have h0 := drop_cons q 0 (by omega); have h1 := drop_cons q 1 (by omega); have h2 := drop_cons q 2 (by omega); have h3 := drop_cons q 3 (by omega); rw [drop_none q 4 (by omega)] at h3; rw [h3] at h2; rw [h2] at h1; rw [h1] at h0; simpa using h0

theorem piece_len1 (b : UInt8) (r : List UInt8) (h : nb b < 128) : (pieceOf (b :: r)).n ≤ 1 := by rw [po1 h]; simp
theorem piece_len2 (b : UInt8) (r : List UInt8) (h : 192 ≤ nb b) (h1 : nb b < 224) : (pieceOf (b :: r)).n ≤ 2 := by
  rw [po2 h h1]
  match r with
  | [] => exact (by decide : 1 ≤ 2)
  | y :: r =>
    simp only [piece2]
    split
    · exact Nat.le_refl _
    · exact (by decide : 1 ≤ 2)
theorem piece_len3 (b : UInt8) (r : List UInt8) (h : 224 ≤ nb b) (h1 : nb b < 240) : (pieceOf (b :: r)).n ≤ 3 := by
  rw [po3 h h1]
  match r with
  | [] => exact (by decide : 1 ≤ 3)
  | [y] =>
    simp only [piece3, piece3b]
    split
    · exact (by decide : 2 ≤ 3)
    · exact (by decide : 1 ≤ 3)
  | y :: z :: r =>
    simp only [piece3, piece3b]
    split
    · split
      · exact Nat.le_refl _
      · exact (by decide : 2 ≤ 3)
    · exact (by decide : 1 ≤ 3)

set_option maxRecDepth 100000 in
set_option maxHeartbeats 1000000 in
theorem rb0 (q : ByteArray) (w : World) (hsz : 1 ≤ q.size) (hm : q.size ≤ 4) (h : 128 ≤ q[0].toNat ∧ q[0].toNat < 194 ∨ 245 ≤ q[0].toNat) :
    Calls Tryd.prog 109 #[.string q] w (OutB (begL q.data.toList) w) := by
  have hb : q[0].toNat < 256 := UInt8.toNat_lt _
  have HN : Hid (needN (q[0].toNat : Int) = 0) := Lib.hid (needN0 (by omega))
  have HB : Hid (begL q.data.toList = false) := Lib.hid (by
    have := drop_cons q 0 (by omega)
    rw [List.drop_zero] at this
    rw [this]
    exact begL_zero HN.out)
  clear h
  go_enter Tryd.func109, Tryd.ntmps109
  go_wp2_with fail
  refine (need_any _ _ (by omega) (by omega)).mono ?_
  rintro e w' ⟨rfl, rfl⟩
  rw [HN.out]
  go_wp2_with fail
  go_ret
  exact outB HB.out rfl (Below.refl _ _)

set_option maxRecDepth 100000 in
set_option maxHeartbeats 1000000 in
theorem rb1_1 (q : ByteArray) (w : World) (hsz : q.size = 1) (h1 : q[0].toNat < 128) :
    Calls Tryd.prog 109 #[.string q] w (OutB (begL q.data.toList) w) := by
  have HN : Hid (needN (q[0].toNat : Int) = 1) := Lib.hid (needN1 (by omega))
  have HB : Hid (begL q.data.toList = true) := Lib.hid (by
    rw [list1 q hsz]
    exact begL_yes HN.out (by decide) (n := 1) (by rw [po1 (by unfold nb; omega)]) rfl)
  go_enter Tryd.func109, Tryd.ntmps109
  go_wp2_with fail
  refine (need_any _ _ (by omega) (by omega)).mono ?_
  rintro e w' ⟨rfl, rfl⟩
  rw [HN.out]
  go_wp2_with fail
  go_ret
  exact outB HB.out rfl (Below.refl _ _)

set_option maxRecDepth 100000 in
set_option maxHeartbeats 1000000 in
theorem rb1_2 (q : ByteArray) (w : World) (hsz : q.size = 2) (h0 : 0 ≤ q[0].toNat) (h1 : q[0].toNat < 128) :
    Calls Tryd.prog 109 #[.string q] w (OutB (begL q.data.toList) w) := by
  have HN : Hid (needN (q[0].toNat : Int) = 1) := Lib.hid (needN1 (by omega))
  have HB : Hid (begL q.data.toList = false) := Lib.hid (by
    rw [list2 q hsz]
    have hf := piece_len1 q[0] [q[1]] (by unfold nb; omega)
    exact begL_no rfl (by simp only [List.length_cons, List.length_nil]; omega))
  go_enter Tryd.func109, Tryd.ntmps109
  go_wp2_with fail
  refine (need_any _ _ (by omega) (by omega)).mono ?_
  rintro e w' ⟨rfl, rfl⟩
  rw [HN.out]
  go_wp2_with fail
  go_ret
  exact outB HB.out rfl (Below.refl _ _)

set_option maxRecDepth 100000 in
set_option maxHeartbeats 1000000 in
theorem rb1_3 (q : ByteArray) (w : World) (hsz : q.size = 3) (h0 : 0 ≤ q[0].toNat) (h1 : q[0].toNat < 128) :
    Calls Tryd.prog 109 #[.string q] w (OutB (begL q.data.toList) w) := by
  have HN : Hid (needN (q[0].toNat : Int) = 1) := Lib.hid (needN1 (by omega))
  have HB : Hid (begL q.data.toList = false) := Lib.hid (by
    rw [list3 q hsz]
    have hf := piece_len1 q[0] [q[1], q[2]] (by unfold nb; omega)
    exact begL_no rfl (by simp only [List.length_cons, List.length_nil]; omega))
  go_enter Tryd.func109, Tryd.ntmps109
  go_wp2_with fail
  refine (need_any _ _ (by omega) (by omega)).mono ?_
  rintro e w' ⟨rfl, rfl⟩
  rw [HN.out]
  go_wp2_with fail
  go_ret
  exact outB HB.out rfl (Below.refl _ _)

set_option maxRecDepth 100000 in
set_option maxHeartbeats 1000000 in
theorem rb1_4 (q : ByteArray) (w : World) (hsz : q.size = 4) (h0 : 0 ≤ q[0].toNat) (h1 : q[0].toNat < 128) :
    Calls Tryd.prog 109 #[.string q] w (OutB (begL q.data.toList) w) := by
  have HN : Hid (needN (q[0].toNat : Int) = 1) := Lib.hid (needN1 (by omega))
  have HB : Hid (begL q.data.toList = false) := Lib.hid (by
    rw [list4 q hsz]
    have hf := piece_len1 q[0] [q[1], q[2], q[3]] (by unfold nb; omega)
    exact begL_no rfl (by simp only [List.length_cons, List.length_nil]; omega))
  go_enter Tryd.func109, Tryd.ntmps109
  go_wp2_with fail
  refine (need_any _ _ (by omega) (by omega)).mono ?_
  rintro e w' ⟨rfl, rfl⟩
  rw [HN.out]
  go_wp2_with fail
  go_ret
  exact outB HB.out rfl (Below.refl _ _)

set_option maxRecDepth 100000 in
set_option maxHeartbeats 1000000 in
theorem rb2_3 (q : ByteArray) (w : World) (hsz : q.size = 3) (h0 : 194 ≤ q[0].toNat) (h1 : q[0].toNat < 224) :
    Calls Tryd.prog 109 #[.string q] w (OutB (begL q.data.toList) w) := by
  have HN : Hid (needN (q[0].toNat : Int) = 2) := Lib.hid (needN2 (by omega) (by omega))
  have HB : Hid (begL q.data.toList = false) := Lib.hid (by
    rw [list3 q hsz]
    have hf := piece_len2 q[0] [q[1], q[2]] (by unfold nb; omega) (by unfold nb; omega)
    exact begL_no rfl (by simp only [List.length_cons, List.length_nil]; omega))
  go_enter Tryd.func109, Tryd.ntmps109
  go_wp2_with fail
  refine (need_any _ _ (by omega) (by omega)).mono ?_
  rintro e w' ⟨rfl, rfl⟩
  rw [HN.out]
  go_wp2_with fail
  go_ret
  exact outB HB.out rfl (Below.refl _ _)

set_option maxRecDepth 100000 in
set_option maxHeartbeats 1000000 in
theorem rb2_4 (q : ByteArray) (w : World) (hsz : q.size = 4) (h0 : 194 ≤ q[0].toNat) (h1 : q[0].toNat < 224) :
    Calls Tryd.prog 109 #[.string q] w (OutB (begL q.data.toList) w) := by
  have HN : Hid (needN (q[0].toNat : Int) = 2) := Lib.hid (needN2 (by omega) (by omega))
  have HB : Hid (begL q.data.toList = false) := Lib.hid (by
    rw [list4 q hsz]
    have hf := piece_len2 q[0] [q[1], q[2], q[3]] (by unfold nb; omega) (by unfold nb; omega)
    exact begL_no rfl (by simp only [List.length_cons, List.length_nil]; omega))
  go_enter Tryd.func109, Tryd.ntmps109
  go_wp2_with fail
  refine (need_any _ _ (by omega) (by omega)).mono ?_
  rintro e w' ⟨rfl, rfl⟩
  rw [HN.out]
  go_wp2_with fail
  go_ret
  exact outB HB.out rfl (Below.refl _ _)

set_option maxRecDepth 100000 in
set_option maxHeartbeats 1000000 in
theorem rb3_4 (q : ByteArray) (w : World) (hsz : q.size = 4) (h0 : 224 ≤ q[0].toNat) (h1 : q[0].toNat < 240) :
    Calls Tryd.prog 109 #[.string q] w (OutB (begL q.data.toList) w) := by
  have HN : Hid (needN (q[0].toNat : Int) = 3) := Lib.hid (needN3 (by omega) (by omega))
  have HB : Hid (begL q.data.toList = false) := Lib.hid (by
    rw [list4 q hsz]
    have hf := piece_len3 q[0] [q[1], q[2], q[3]] (by unfold nb; omega) (by unfold nb; omega)
    exact begL_no rfl (by simp only [List.length_cons, List.length_nil]; omega))
  go_enter Tryd.func109, Tryd.ntmps109
  go_wp2_with fail
  refine (need_any _ _ (by omega) (by omega)).mono ?_
  rintro e w' ⟨rfl, rfl⟩
  rw [HN.out]
  go_wp2_with fail
  go_ret
  exact outB HB.out rfl (Below.refl _ _)

set_option maxRecDepth 100000 in
set_option maxHeartbeats 1000000 in
theorem rb2_1 (q : ByteArray) (w : World) (hsz : q.size = 1) (h0 : 194 ≤ q[0].toNat) (h1 : q[0].toNat < 224) :
    Calls Tryd.prog 109 #[.string q] w (OutB (begL q.data.toList) w) := by
  have HN : Hid (needN (q[0].toNat : Int) = 2) := Lib.hid (needN2 (by omega) (by omega))
  have HB : Hid (begL q.data.toList = true) := Lib.hid (by
    rw [list1 q hsz]
    exact begL_yes HN.out (by decide) (n := 1) (by rw [po2 (by unfold nb; omega) (by unfold nb; omega)]; rfl) rfl)
  go_enter Tryd.func109, Tryd.ntmps109
  go_wp2_with fail
  refine (need_any _ _ (by omega) (by omega)).mono ?_
  rintro e w' ⟨rfl, rfl⟩
  rw [HN.out]
  go_wp2_with fail
  refine wp_loop_rounds 1 ?_
  rw [rounds_succ]
  go_wp2_with fail
  refine wp_loop_rounds 2 ?_
  rw [rounds_succ]
  go_wp2_with fail
  rw [rounds_succ]
  go_wp2_with fail
  refine (refCount_any _ _ _).mono ?_
  rintro e w' ⟨rfl, rfl⟩
  go_wp2_with fail
  go_ret
  exact outB HB.out (ret_bool (decide_eq_true (by rw [count_pos]; omega))) (by go_grown)

set_option maxRecDepth 100000 in
set_option maxHeartbeats 1000000 in
theorem rb3_1 (q : ByteArray) (w : World) (hsz : q.size = 1) (h0 : 224 ≤ q[0].toNat) (h1 : q[0].toNat < 240) :
    Calls Tryd.prog 109 #[.string q] w (OutB (begL q.data.toList) w) := by
  have HN : Hid (needN (q[0].toNat : Int) = 3) := Lib.hid (needN3 (by omega) (by omega))
  have HB : Hid (begL q.data.toList = true) := Lib.hid (by
    rw [list1 q hsz]
    exact begL_yes HN.out (by decide) (n := 1) (by rw [po3 (by unfold nb; omega) (by unfold nb; omega)]; rfl) rfl)
  go_enter Tryd.func109, Tryd.ntmps109
  go_wp2_with fail
  refine (need_any _ _ (by omega) (by omega)).mono ?_
  rintro e w' ⟨rfl, rfl⟩
  rw [HN.out]
  go_wp2_with fail
  refine wp_loop_rounds 1 ?_
  rw [rounds_succ]
  go_wp2_with fail
  refine wp_loop_rounds 3 ?_
  rw [rounds_succ]
  go_wp2_with fail
  rw [rounds_succ]
  go_wp2_with fail
  rw [rounds_succ]
  by_cases c : ((q[0].toNat : Int) - 224) * 64 * 64 < 2048
  · have c' : ((q[0].toNat : Int)) = 224 := by omega
    have C' := Lib.hid c'
    clear c'
    go_wp2_with fail
    refine (refCount_any _ _ _).mono ?_
    rintro e w' ⟨rfl, rfl⟩
    go_wp2_with fail
    go_ret
    exact outB HB.out (ret_bool (decide_eq_true (by have := C'.out; rw [count_pos]; omega))) (by go_grown)
  · go_wp2_with fail
    refine (refCount_any _ _ _).mono ?_
    rintro e w' ⟨rfl, rfl⟩
    go_wp2_with fail
    go_ret
    exact outB HB.out (ret_bool (decide_eq_true (by rw [count_pos]; omega))) (by go_grown)

set_option maxRecDepth 100000 in
set_option maxHeartbeats 1000000 in
theorem rb4_1 (q : ByteArray) (w : World) (hsz : q.size = 1) (h0 : 240 ≤ q[0].toNat) (h1 : q[0].toNat < 245) :
    Calls Tryd.prog 109 #[.string q] w (OutB (begL q.data.toList) w) := by
  have HN : Hid (needN (q[0].toNat : Int) = 4) := Lib.hid (needN4 (by omega) (by omega))
  have HB : Hid (begL q.data.toList = true) := Lib.hid (by
    rw [list1 q hsz]
    exact begL_yes HN.out (by decide) (n := 1) (by rw [po4 (by unfold nb; omega) (by unfold nb; omega)]; rfl) rfl)
  go_enter Tryd.func109, Tryd.ntmps109
  go_wp2_with fail
  refine (need_any _ _ (by omega) (by omega)).mono ?_
  rintro e w' ⟨rfl, rfl⟩
  rw [HN.out]
  go_wp2_with fail
  refine wp_loop_rounds 1 ?_
  rw [rounds_succ]
  go_wp2_with fail
  refine wp_loop_rounds 4 ?_
  rw [rounds_succ]
  go_wp2_with fail
  rw [rounds_succ]
  go_wp2_with fail
  rw [rounds_succ]
  go_wp2_with fail
  rw [rounds_succ]
  by_cases c : ((q[0].toNat : Int) - 240) * 64 * 64 * 64 < 65536
  · have c' : ((q[0].toNat : Int)) = 240 := by omega
    have C' := Lib.hid c'
    clear c'
    go_wp2_with fail
    refine (refCount_any _ _ _).mono ?_
    rintro e w' ⟨rfl, rfl⟩
    go_wp2_with fail
    go_ret
    exact outB HB.out (ret_bool (decide_eq_true (by have := C'.out; rw [count_pos]; omega))) (by go_grown)
  · go_wp2_with fail
    refine (refCount_any _ _ _).mono ?_
    rintro e w' ⟨rfl, rfl⟩
    go_wp2_with fail
    go_ret
    exact outB HB.out (ret_bool (decide_eq_true (by rw [count_pos]; omega))) (by go_grown)

set_option maxRecDepth 100000 in
set_option maxHeartbeats 1000000 in
theorem rb2_2 (q : ByteArray) (w : World) (hsz : q.size = 2) (h0 : 194 ≤ q[0].toNat) (h1 : q[0].toNat < 224) :
    Calls Tryd.prog 109 #[.string q] w (OutB (begL q.data.toList) w) := by
  have HN : Hid (needN (q[0].toNat : Int) = 2) := Lib.hid (needN2 (by omega) (by omega))
  have HL := Lib.hid (list2 q hsz)
  have HP := Lib.hid (po2 (b := q[0]) (r := [q[1]]) (by unfold nb; omega) (by unfold nb; omega))
  go_enter Tryd.func109, Tryd.ntmps109
  go_wp2_with fail
  refine (need_any _ _ (by omega) (by omega)).mono ?_
  rintro e w' ⟨rfl, rfl⟩
  rw [HN.out]
  go_wp2_with fail
  refine wp_loop_rounds 2 ?_
  have y1 : q[1].toNat < 256 := UInt8.toNat_lt _
  by_cases t1 : 128 ≤ q[1].toNat ∧ q[1].toNat < 192
  rotate_left
  ·
    have HB : Hid (begL q.data.toList = false) := Lib.hid (by
      rw [HL.out]
      exact begL_no (n := 1) (by rw [HP.out]; exact p2_no (by unfold tl nb; omega)) (by simp))
    have t4 : q[1].toNat < 128 ∨ 192 ≤ q[1].toNat := by omega
    clear t1
    rcases t4 with t4 | t4
    · rw [rounds_succ]
      go_wp2_with fail
      go_ret
      exact outB HB.out rfl (Below.refl _ _)
    · rw [rounds_succ]
      go_wp2_with fail
      go_ret
      exact outB HB.out rfl (Below.refl _ _)
  obtain ⟨z1, zz1⟩ := t1
  rw [rounds_succ]
  go_wp2_with fail
  rw [rounds_succ]
  go_wp2_with fail
  refine wp_loop_rounds 1 ?_
  rw [rounds_succ]
  have HB : Hid (begL q.data.toList = true) := Lib.hid (by
    rw [HL.out]
    exact begL_yes HN.out (by decide) (n := 2) (by rw [HP.out]; exact p2_n ⟨by unfold nb; omega, by unfold nb; omega⟩ (by unfold nb; omega)) rfl)
  go_wp2_with fail
  refine (refCount_any _ _ _).mono ?_
  rintro e w' ⟨rfl, rfl⟩
  go_wp2_with fail
  go_ret
  exact outB HB.out (ret_bool (decide_eq_true (by rw [count_pos]; omega))) (by go_grown)

set_option maxRecDepth 100000 in
set_option maxHeartbeats 1000000 in
theorem rb3_2 (q : ByteArray) (w : World) (hsz : q.size = 2) (h0 : 224 ≤ q[0].toNat) (h1 : q[0].toNat < 240) :
    Calls Tryd.prog 109 #[.string q] w (OutB (begL q.data.toList) w) := by
  have HN : Hid (needN (q[0].toNat : Int) = 3) := Lib.hid (needN3 (by omega) (by omega))
  have HL := Lib.hid (list2 q hsz)
  have HP := Lib.hid (po3 (b := q[0]) (r := [q[1]]) (by unfold nb; omega) (by unfold nb; omega))
  go_enter Tryd.func109, Tryd.ntmps109
  go_wp2_with fail
  refine (need_any _ _ (by omega) (by omega)).mono ?_
  rintro e w' ⟨rfl, rfl⟩
  rw [HN.out]
  go_wp2_with fail
  refine wp_loop_rounds 2 ?_
  have y1 : q[1].toNat < 256 := UInt8.toNat_lt _
  by_cases t1 : 128 ≤ q[1].toNat ∧ q[1].toNat < 192
  rotate_left
  ·
    have HB : Hid (begL q.data.toList = false) := Lib.hid (by
      rw [HL.out]
      exact begL_no (n := 1) (by rw [HP.out]; exact p3_no (fun c => by have := c.1; unfold tl nb at this; omega)) (by simp))
    have t4 : q[1].toNat < 128 ∨ 192 ≤ q[1].toNat := by omega
    clear t1
    rcases t4 with t4 | t4
    · rw [rounds_succ]
      go_wp2_with fail
      go_ret
      exact outB HB.out rfl (Below.refl _ _)
    · rw [rounds_succ]
      go_wp2_with fail
      go_ret
      exact outB HB.out rfl (Below.refl _ _)
  obtain ⟨z1, zz1⟩ := t1
  rw [rounds_succ]
  go_wp2_with fail
  rw [rounds_succ]
  go_wp2_with fail
  refine wp_loop_rounds 2 ?_
  rw [rounds_succ]
  go_wp2_with fail
  rw [rounds_succ]
  by_cases g : go3 ((nb q[0] - 224) * 64 + nb q[1] % 64)
  · have HB : Hid (begL q.data.toList = true) := Lib.hid (by
      rw [HL.out]
      exact begL_yes HN.out (by decide) (n := 2) (by rw [HP.out, p3_yes ⟨⟨by unfold nb; omega, by unfold nb; omega⟩, g⟩]; rfl) rfl)
    have HG : Hid (32 ≤ ((q[0].toNat : Int) - 224) * 64 + (q[1].toNat : Int) - 128 ∧ (((q[0].toNat : Int) - 224) * 64 + (q[1].toNat : Int) - 128 < 864 ∨ 896 ≤ ((q[0].toNat : Int) - 224) * 64 + (q[1].toNat : Int) - 128)) := Lib.hid (by unfold go3 nb at g; omega)
    have g1 : 32 ≤ ((q[0].toNat : Int) - 224) * 64 + (q[1].toNat : Int) - 128 := HG.out.1
    clear g
    go_wp2_with fail
    refine (refCount_any _ _ _).mono ?_
    rintro e w' ⟨rfl, rfl⟩
    go_wp2_with fail
    go_ret
    exact outB HB.out (ret_bool (decide_eq_true (by have := HG.out.2; rw [count_pos]; omega))) (by go_grown)
  · have HB : Hid (begL q.data.toList = false) := Lib.hid (by
      rw [HL.out]
      exact begL_no (n := 1) (by rw [HP.out]; exact p3_no (fun c => g c.2)) (by simp))
    by_cases g1 : ((q[0].toNat : Int) - 224) * 64 + (q[1].toNat : Int) - 128 < 32
    · clear g
      go_wp2_with fail
      go_ret
      exact outB HB.out rfl (by go_grown)
    · have HG : Hid (864 ≤ ((q[0].toNat : Int) - 224) * 64 + (q[1].toNat : Int) - 128 ∧ ((q[0].toNat : Int) - 224) * 64 + (q[1].toNat : Int) - 128 < 896) := Lib.hid (by unfold go3 nb at g; omega)
      clear g
      go_wp2_with fail
      refine (refCount_any _ _ _).mono ?_
      rintro e w' ⟨rfl, rfl⟩
      go_wp2_with fail
      go_ret
      exact outB HB.out (ret_bool (decide_eq_false (by have := HG.out; rw [count_pos]; omega))) (by go_grown)

set_option maxRecDepth 100000 in
set_option maxHeartbeats 1000000 in
theorem rb3_3 (q : ByteArray) (w : World) (hsz : q.size = 3) (h0 : 224 ≤ q[0].toNat) (h1 : q[0].toNat < 240) :
    Calls Tryd.prog 109 #[.string q] w (OutB (begL q.data.toList) w) := by
  have HN : Hid (needN (q[0].toNat : Int) = 3) := Lib.hid (needN3 (by omega) (by omega))
  have HL := Lib.hid (list3 q hsz)
  have HP := Lib.hid (po3 (b := q[0]) (r := [q[1], q[2]]) (by unfold nb; omega) (by unfold nb; omega))
  go_enter Tryd.func109, Tryd.ntmps109
  go_wp2_with fail
  refine (need_any _ _ (by omega) (by omega)).mono ?_
  rintro e w' ⟨rfl, rfl⟩
  rw [HN.out]
  go_wp2_with fail
  refine wp_loop_rounds 3 ?_
  have y1 : q[1].toNat < 256 := UInt8.toNat_lt _
  by_cases t1 : 128 ≤ q[1].toNat ∧ q[1].toNat < 192
  rotate_left
  ·
    have HB : Hid (begL q.data.toList = false) := Lib.hid (by
      rw [HL.out]
      exact begL_no (n := 1) (by rw [HP.out]; exact p3_no (fun c => by have := c.1; unfold tl nb at this; omega)) (by simp))
    have t4 : q[1].toNat < 128 ∨ 192 ≤ q[1].toNat := by omega
    clear t1
    rcases t4 with t4 | t4
    · rw [rounds_succ]
      go_wp2_with fail
      go_ret
      exact outB HB.out rfl (Below.refl _ _)
    · rw [rounds_succ]
      go_wp2_with fail
      go_ret
      exact outB HB.out rfl (Below.refl _ _)
  obtain ⟨z1, zz1⟩ := t1
  rw [rounds_succ]
  go_wp2_with fail
  have y2 : q[2].toNat < 256 := UInt8.toNat_lt _
  by_cases t2 : 128 ≤ q[2].toNat ∧ q[2].toNat < 192
  rotate_left
  ·
    have HB : Hid (begL q.data.toList = false) := Lib.hid (by
      rw [HL.out]
      by_cases g : go3 ((nb q[0] - 224) * 64 + nb q[1] % 64)
      · exact begL_no (n := 2) (by rw [HP.out, p3_yes ⟨⟨by unfold nb; omega, by unfold nb; omega⟩, g⟩]; exact p3b_no (by unfold tl nb; omega)) (by simp)
      · exact begL_no (n := 1) (by rw [HP.out]; exact p3_no (fun c => g c.2)) (by simp))
    have t4 : q[2].toNat < 128 ∨ 192 ≤ q[2].toNat := by omega
    clear t2
    rcases t4 with t4 | t4
    · rw [rounds_succ]
      go_wp2_with fail
      go_ret
      exact outB HB.out rfl (Below.refl _ _)
    · rw [rounds_succ]
      go_wp2_with fail
      go_ret
      exact outB HB.out rfl (Below.refl _ _)
  obtain ⟨z2, zz2⟩ := t2
  rw [rounds_succ]
  go_wp2_with fail
  rw [rounds_succ]
  go_wp2_with fail
  refine wp_loop_rounds 1 ?_
  rw [rounds_succ]
  by_cases g : go3 ((nb q[0] - 224) * 64 + nb q[1] % 64)
  · have HB : Hid (begL q.data.toList = true) := Lib.hid (by
      rw [HL.out]
      exact begL_yes HN.out (by decide) (n := 3) (by rw [HP.out, p3_yes ⟨⟨by unfold nb; omega, by unfold nb; omega⟩, g⟩]; exact p3b_n ⟨by unfold nb; omega, by unfold nb; omega⟩) rfl)
    have HG : Hid (32 ≤ ((q[0].toNat : Int) - 224) * 64 + (q[1].toNat : Int) - 128 ∧ (((q[0].toNat : Int) - 224) * 64 + (q[1].toNat : Int) - 128 < 864 ∨ 896 ≤ ((q[0].toNat : Int) - 224) * 64 + (q[1].toNat : Int) - 128)) := Lib.hid (by unfold go3 nb at g; omega)
    have g1 : 32 ≤ ((q[0].toNat : Int) - 224) * 64 + (q[1].toNat : Int) - 128 := HG.out.1
    clear g
    go_wp2_with fail
    refine (refCount_any _ _ _).mono ?_
    rintro e w' ⟨rfl, rfl⟩
    go_wp2_with fail
    go_ret
    exact outB HB.out (ret_bool (decide_eq_true (by have := HG.out.2; rw [count_pos]; omega))) (by go_grown)
  · have HB : Hid (begL q.data.toList = false) := Lib.hid (by
      rw [HL.out]
      exact begL_no (n := 1) (by rw [HP.out]; exact p3_no (fun c => g c.2)) (by simp))
    by_cases g1 : ((q[0].toNat : Int) - 224) * 64 + (q[1].toNat : Int) - 128 < 32
    · clear g
      go_wp2_with fail
      go_ret
      exact outB HB.out rfl (by go_grown)
    · have HG : Hid (864 ≤ ((q[0].toNat : Int) - 224) * 64 + (q[1].toNat : Int) - 128 ∧ ((q[0].toNat : Int) - 224) * 64 + (q[1].toNat : Int) - 128 < 896) := Lib.hid (by unfold go3 nb at g; omega)
      clear g
      go_wp2_with fail
      refine (refCount_any _ _ _).mono ?_
      rintro e w' ⟨rfl, rfl⟩
      go_wp2_with fail
      go_ret
      exact outB HB.out (ret_bool (decide_eq_false (by have := HG.out; rw [count_pos]; omega))) (by go_grown)

set_option maxRecDepth 100000 in
set_option maxHeartbeats 1000000 in
theorem rb4_2 (q : ByteArray) (w : World) (hsz : q.size = 2) (h0 : 240 ≤ q[0].toNat) (h1 : q[0].toNat < 245) :
    Calls Tryd.prog 109 #[.string q] w (OutB (begL q.data.toList) w) := by
  have HN : Hid (needN (q[0].toNat : Int) = 4) := Lib.hid (needN4 (by omega) (by omega))
  have HL := Lib.hid (list2 q hsz)
  have HP := Lib.hid (po4 (b := q[0]) (r := [q[1]]) (by unfold nb; omega) (by unfold nb; omega))
  go_enter Tryd.func109, Tryd.ntmps109
  go_wp2_with fail
  refine (need_any _ _ (by omega) (by omega)).mono ?_
  rintro e w' ⟨rfl, rfl⟩
  rw [HN.out]
  go_wp2_with fail
  refine wp_loop_rounds 2 ?_
  have y1 : q[1].toNat < 256 := UInt8.toNat_lt _
  by_cases t1 : 128 ≤ q[1].toNat ∧ q[1].toNat < 192
  rotate_left
  ·
    have HB : Hid (begL q.data.toList = false) := Lib.hid (by
      rw [HL.out]
      exact begL_no (n := 1) (by rw [HP.out]; exact p4_no (fun c => by have := c.1; unfold tl nb at this; omega)) (by simp))
    have t4 : q[1].toNat < 128 ∨ 192 ≤ q[1].toNat := by omega
    clear t1
    rcases t4 with t4 | t4
    · rw [rounds_succ]
      go_wp2_with fail
      go_ret
      exact outB HB.out rfl (Below.refl _ _)
    · rw [rounds_succ]
      go_wp2_with fail
      go_ret
      exact outB HB.out rfl (Below.refl _ _)
  obtain ⟨z1, zz1⟩ := t1
  rw [rounds_succ]
  go_wp2_with fail
  rw [rounds_succ]
  go_wp2_with fail
  refine wp_loop_rounds 3 ?_
  rw [rounds_succ]
  go_wp2_with fail
  rw [rounds_succ]
  go_wp2_with fail
  rw [rounds_succ]
  by_cases g : go4 ((nb q[0] - 240) * 64 + nb q[1] % 64)
  · have HB : Hid (begL q.data.toList = true) := Lib.hid (by
      rw [HL.out]
      exact begL_yes HN.out (by decide) (n := 2) (by rw [HP.out, p4_yes ⟨⟨by unfold nb; omega, by unfold nb; omega⟩, g⟩]; rfl) rfl)
    have HG : Hid (16 ≤ ((q[0].toNat : Int) - 240) * 64 + (q[1].toNat : Int) - 128 ∧ ((q[0].toNat : Int) - 240) * 64 + (q[1].toNat : Int) - 128 < 272) := Lib.hid (by unfold go4 nb at g; omega)
    have g1 : 16 ≤ ((q[0].toNat : Int) - 240) * 64 + (q[1].toNat : Int) - 128 := HG.out.1
    clear g
    go_wp2_with fail
    refine (refCount_any _ _ _).mono ?_
    rintro e w' ⟨rfl, rfl⟩
    go_wp2_with fail
    go_ret
    exact outB HB.out (ret_bool (decide_eq_true (by have := HG.out.2; rw [count_pos]; omega))) (by go_grown)
  · have HB : Hid (begL q.data.toList = false) := Lib.hid (by
      rw [HL.out]
      exact begL_no (n := 1) (by rw [HP.out]; exact p4_no (fun c => g c.2)) (by simp))
    by_cases g1 : ((q[0].toNat : Int) - 240) * 64 + (q[1].toNat : Int) - 128 < 16
    · clear g
      go_wp2_with fail
      go_ret
      exact outB HB.out rfl (by go_grown)
    · have HG : Hid (272 ≤ ((q[0].toNat : Int) - 240) * 64 + (q[1].toNat : Int) - 128) := Lib.hid (by unfold go4 nb at g; omega)
      clear g
      go_wp2_with fail
      refine (refCount_any _ _ _).mono ?_
      rintro e w' ⟨rfl, rfl⟩
      go_wp2_with fail
      go_ret
      exact outB HB.out (ret_bool (decide_eq_false (by have := HG.out; rw [count_pos]; omega))) (by go_grown)

set_option maxRecDepth 100000 in
set_option maxHeartbeats 1000000 in
theorem rb4_3 (q : ByteArray) (w : World) (hsz : q.size = 3) (h0 : 240 ≤ q[0].toNat) (h1 : q[0].toNat < 245) :
    Calls Tryd.prog 109 #[.string q] w (OutB (begL q.data.toList) w) := by
  have HN : Hid (needN (q[0].toNat : Int) = 4) := Lib.hid (needN4 (by omega) (by omega))
  have HL := Lib.hid (list3 q hsz)
  have HP := Lib.hid (po4 (b := q[0]) (r := [q[1], q[2]]) (by unfold nb; omega) (by unfold nb; omega))
  go_enter Tryd.func109, Tryd.ntmps109
  go_wp2_with fail
  refine (need_any _ _ (by omega) (by omega)).mono ?_
  rintro e w' ⟨rfl, rfl⟩
  rw [HN.out]
  go_wp2_with fail
  refine wp_loop_rounds 3 ?_
  have y1 : q[1].toNat < 256 := UInt8.toNat_lt _
  by_cases t1 : 128 ≤ q[1].toNat ∧ q[1].toNat < 192
  rotate_left
  ·
    have HB : Hid (begL q.data.toList = false) := Lib.hid (by
      rw [HL.out]
      exact begL_no (n := 1) (by rw [HP.out]; exact p4_no (fun c => by have := c.1; unfold tl nb at this; omega)) (by simp))
    have t4 : q[1].toNat < 128 ∨ 192 ≤ q[1].toNat := by omega
    clear t1
    rcases t4 with t4 | t4
    · rw [rounds_succ]
      go_wp2_with fail
      go_ret
      exact outB HB.out rfl (Below.refl _ _)
    · rw [rounds_succ]
      go_wp2_with fail
      go_ret
      exact outB HB.out rfl (Below.refl _ _)
  obtain ⟨z1, zz1⟩ := t1
  rw [rounds_succ]
  go_wp2_with fail
  have y2 : q[2].toNat < 256 := UInt8.toNat_lt _
  by_cases t2 : 128 ≤ q[2].toNat ∧ q[2].toNat < 192
  rotate_left
  ·
    have HB : Hid (begL q.data.toList = false) := Lib.hid (by
      rw [HL.out]
      by_cases g : go4 ((nb q[0] - 240) * 64 + nb q[1] % 64)
      · exact begL_no (n := 2) (by rw [HP.out, p4_yes ⟨⟨by unfold nb; omega, by unfold nb; omega⟩, g⟩]; exact p4b_no (by unfold tl nb; omega)) (by simp)
      · exact begL_no (n := 1) (by rw [HP.out]; exact p4_no (fun c => g c.2)) (by simp))
    have t4 : q[2].toNat < 128 ∨ 192 ≤ q[2].toNat := by omega
    clear t2
    rcases t4 with t4 | t4
    · rw [rounds_succ]
      go_wp2_with fail
      go_ret
      exact outB HB.out rfl (Below.refl _ _)
    · rw [rounds_succ]
      go_wp2_with fail
      go_ret
      exact outB HB.out rfl (Below.refl _ _)
  obtain ⟨z2, zz2⟩ := t2
  rw [rounds_succ]
  go_wp2_with fail
  rw [rounds_succ]
  go_wp2_with fail
  refine wp_loop_rounds 2 ?_
  rw [rounds_succ]
  go_wp2_with fail
  rw [rounds_succ]
  by_cases g : go4 ((nb q[0] - 240) * 64 + nb q[1] % 64)
  · have HB : Hid (begL q.data.toList = true) := Lib.hid (by
      rw [HL.out]
      exact begL_yes HN.out (by decide) (n := 3) (by rw [HP.out, p4_yes ⟨⟨by unfold nb; omega, by unfold nb; omega⟩, g⟩, p4b_yes ⟨by unfold nb; omega, by unfold nb; omega⟩]; rfl) rfl)
    have HG : Hid (16 ≤ ((q[0].toNat : Int) - 240) * 64 + (q[1].toNat : Int) - 128 ∧ ((q[0].toNat : Int) - 240) * 64 + (q[1].toNat : Int) - 128 < 272) := Lib.hid (by unfold go4 nb at g; omega)
    have g1 : 16 ≤ ((q[0].toNat : Int) - 240) * 64 + (q[1].toNat : Int) - 128 := HG.out.1
    clear g
    go_wp2_with fail
    refine (refCount_any _ _ _).mono ?_
    rintro e w' ⟨rfl, rfl⟩
    go_wp2_with fail
    go_ret
    exact outB HB.out (ret_bool (decide_eq_true (by have := HG.out.2; rw [count_pos]; omega))) (by go_grown)
  · have HB : Hid (begL q.data.toList = false) := Lib.hid (by
      rw [HL.out]
      exact begL_no (n := 1) (by rw [HP.out]; exact p4_no (fun c => g c.2)) (by simp))
    by_cases g1 : ((q[0].toNat : Int) - 240) * 64 + (q[1].toNat : Int) - 128 < 16
    · clear g
      go_wp2_with fail
      go_ret
      exact outB HB.out rfl (by go_grown)
    · have HG : Hid (272 ≤ ((q[0].toNat : Int) - 240) * 64 + (q[1].toNat : Int) - 128) := Lib.hid (by unfold go4 nb at g; omega)
      clear g
      go_wp2_with fail
      refine (refCount_any _ _ _).mono ?_
      rintro e w' ⟨rfl, rfl⟩
      go_wp2_with fail
      go_ret
      exact outB HB.out (ret_bool (decide_eq_false (by have := HG.out; rw [count_pos]; omega))) (by go_grown)

set_option maxRecDepth 100000 in
set_option maxHeartbeats 1000000 in
theorem rb4_4 (q : ByteArray) (w : World) (hsz : q.size = 4) (h0 : 240 ≤ q[0].toNat) (h1 : q[0].toNat < 245) :
    Calls Tryd.prog 109 #[.string q] w (OutB (begL q.data.toList) w) := by
  have HN : Hid (needN (q[0].toNat : Int) = 4) := Lib.hid (needN4 (by omega) (by omega))
  have HL := Lib.hid (list4 q hsz)
  have HP := Lib.hid (po4 (b := q[0]) (r := [q[1], q[2], q[3]]) (by unfold nb; omega) (by unfold nb; omega))
  go_enter Tryd.func109, Tryd.ntmps109
  go_wp2_with fail
  refine (need_any _ _ (by omega) (by omega)).mono ?_
  rintro e w' ⟨rfl, rfl⟩
  rw [HN.out]
  go_wp2_with fail
  refine wp_loop_rounds 4 ?_
  have y1 : q[1].toNat < 256 := UInt8.toNat_lt _
  by_cases t1 : 128 ≤ q[1].toNat ∧ q[1].toNat < 192
  rotate_left
  ·
    have HB : Hid (begL q.data.toList = false) := Lib.hid (by
      rw [HL.out]
      exact begL_no (n := 1) (by rw [HP.out]; exact p4_no (fun c => by have := c.1; unfold tl nb at this; omega)) (by simp))
    have t4 : q[1].toNat < 128 ∨ 192 ≤ q[1].toNat := by omega
    clear t1
    rcases t4 with t4 | t4
    · rw [rounds_succ]
      go_wp2_with fail
      go_ret
      exact outB HB.out rfl (Below.refl _ _)
    · rw [rounds_succ]
      go_wp2_with fail
      go_ret
      exact outB HB.out rfl (Below.refl _ _)
  obtain ⟨z1, zz1⟩ := t1
  rw [rounds_succ]
  go_wp2_with fail
  have y2 : q[2].toNat < 256 := UInt8.toNat_lt _
  by_cases t2 : 128 ≤ q[2].toNat ∧ q[2].toNat < 192
  rotate_left
  ·
    have HB : Hid (begL q.data.toList = false) := Lib.hid (by
      rw [HL.out]
      by_cases g : go4 ((nb q[0] - 240) * 64 + nb q[1] % 64)
      · exact begL_no (n := 2) (by rw [HP.out, p4_yes ⟨⟨by unfold nb; omega, by unfold nb; omega⟩, g⟩]; exact p4b_no (by unfold tl nb; omega)) (by simp)
      · exact begL_no (n := 1) (by rw [HP.out]; exact p4_no (fun c => g c.2)) (by simp))
    have t4 : q[2].toNat < 128 ∨ 192 ≤ q[2].toNat := by omega
    clear t2
    rcases t4 with t4 | t4
    · rw [rounds_succ]
      go_wp2_with fail
      go_ret
      exact outB HB.out rfl (Below.refl _ _)
    · rw [rounds_succ]
      go_wp2_with fail
      go_ret
      exact outB HB.out rfl (Below.refl _ _)
  obtain ⟨z2, zz2⟩ := t2
  rw [rounds_succ]
  go_wp2_with fail
  have y3 : q[3].toNat < 256 := UInt8.toNat_lt _
  by_cases t3 : 128 ≤ q[3].toNat ∧ q[3].toNat < 192
  rotate_left
  ·
    have HB : Hid (begL q.data.toList = false) := Lib.hid (by
      rw [HL.out]
      by_cases g : go4 ((nb q[0] - 240) * 64 + nb q[1] % 64)
      · exact begL_no (n := 3) (by rw [HP.out, p4_yes ⟨⟨by unfold nb; omega, by unfold nb; omega⟩, g⟩, p4b_yes ⟨by unfold nb; omega, by unfold nb; omega⟩]; exact p4c_no (by unfold tl nb; omega)) (by simp)
      · exact begL_no (n := 1) (by rw [HP.out]; exact p4_no (fun c => g c.2)) (by simp))
    have t4 : q[3].toNat < 128 ∨ 192 ≤ q[3].toNat := by omega
    clear t3
    rcases t4 with t4 | t4
    · rw [rounds_succ]
      go_wp2_with fail
      go_ret
      exact outB HB.out rfl (Below.refl _ _)
    · rw [rounds_succ]
      go_wp2_with fail
      go_ret
      exact outB HB.out rfl (Below.refl _ _)
  obtain ⟨z3, zz3⟩ := t3
  rw [rounds_succ]
  go_wp2_with fail
  rw [rounds_succ]
  go_wp2_with fail
  refine wp_loop_rounds 1 ?_
  rw [rounds_succ]
  by_cases g : go4 ((nb q[0] - 240) * 64 + nb q[1] % 64)
  · have HB : Hid (begL q.data.toList = true) := Lib.hid (by
      rw [HL.out]
      exact begL_yes HN.out (by decide) (n := 4) (by rw [HP.out, p4_yes ⟨⟨by unfold nb; omega, by unfold nb; omega⟩, g⟩, p4b_yes ⟨by unfold nb; omega, by unfold nb; omega⟩]; exact p4c_n ⟨by unfold nb; omega, by unfold nb; omega⟩) rfl)
    have HG : Hid (16 ≤ ((q[0].toNat : Int) - 240) * 64 + (q[1].toNat : Int) - 128 ∧ ((q[0].toNat : Int) - 240) * 64 + (q[1].toNat : Int) - 128 < 272) := Lib.hid (by unfold go4 nb at g; omega)
    have g1 : 16 ≤ ((q[0].toNat : Int) - 240) * 64 + (q[1].toNat : Int) - 128 := HG.out.1
    clear g
    go_wp2_with fail
    refine (refCount_any _ _ _).mono ?_
    rintro e w' ⟨rfl, rfl⟩
    go_wp2_with fail
    go_ret
    exact outB HB.out (ret_bool (decide_eq_true (by have := HG.out.2; rw [count_pos]; omega))) (by go_grown)
  · have HB : Hid (begL q.data.toList = false) := Lib.hid (by
      rw [HL.out]
      exact begL_no (n := 1) (by rw [HP.out]; exact p4_no (fun c => g c.2)) (by simp))
    by_cases g1 : ((q[0].toNat : Int) - 240) * 64 + (q[1].toNat : Int) - 128 < 16
    · clear g
      go_wp2_with fail
      go_ret
      exact outB HB.out rfl (by go_grown)
    · have HG : Hid (272 ≤ ((q[0].toNat : Int) - 240) * 64 + (q[1].toNat : Int) - 128) := Lib.hid (by unfold go4 nb at g; omega)
      clear g
      go_wp2_with fail
      refine (refCount_any _ _ _).mono ?_
      rintro e w' ⟨rfl, rfl⟩
      go_wp2_with fail
      go_ret
      exact outB HB.out (ret_bool (decide_eq_false (by have := HG.out; rw [count_pos]; omega))) (by go_grown)

/-- begins, at every string of one to four bytes. -/
theorem refBegins_any (q : ByteArray) (w : World) (hsz : 1 ≤ q.size) (hm : q.size ≤ 4) : Calls Tryd.prog 109 #[.string q] w (OutB (begL q.data.toList) w) := by
  by_cases c0 : 128 ≤ q[0].toNat ∧ q[0].toNat < 194 ∨ 245 ≤ q[0].toNat
  · exact rb0 q w hsz hm c0
  have hm' : q.size = 1 ∨ q.size = 2 ∨ q.size = 3 ∨ q.size = 4 := by omega
  by_cases c1 : q[0].toNat < 128
  · rcases hm' with h | h | h | h
    · exact rb1_1 q w h c1
    · exact rb1_2 q w h (by omega) c1
    · exact rb1_3 q w h (by omega) c1
    · exact rb1_4 q w h (by omega) c1
  by_cases c2 : q[0].toNat < 224
  · rcases hm' with h | h | h | h
    · exact rb2_1 q w h (by omega) c2
    · exact rb2_2 q w h (by omega) c2
    · exact rb2_3 q w h (by omega) c2
    · exact rb2_4 q w h (by omega) c2
  by_cases c3 : q[0].toNat < 240
  · rcases hm' with h | h | h | h
    · exact rb3_1 q w h (by omega) c3
    · exact rb3_2 q w h (by omega) c3
    · exact rb3_3 q w h (by omega) c3
    · exact rb3_4 q w h (by omega) c3
  · rcases hm' with h | h | h | h
    · exact rb4_1 q w h (by omega) (by omega)
    · exact rb4_2 q w h (by omega) (by omega)
    · exact rb4_3 q w h (by omega) (by omega)
    · exact rb4_4 q w h (by omega) (by omega)
end Go.Proofs.YtmhfgncffkfelaaDoor.U

/- The plain mathematics of layer 2, third part: pieces by the document's own way, which asks of each beginning whether it begins some scalar's bytes. No program stands in it. -/
namespace Go.Proofs.YtmhfgncffkfelaaDoor.U
set_option linter.unusedVariables false

theorem p3b_ge (v : Int) (r : List UInt8) : 2 ≤ (piece3b v r).n := by
  cases r with
  | nil => exact Nat.le_refl _
  | cons z r =>
    by_cases h : tl z
    · rw [p3b_n h]; omega
    · rw [p3b_no h]; omega
theorem p4c_ge (v : Int) (r : List UInt8) : 3 ≤ (piece4c v r).n := by
  cases r with
  | nil => exact Nat.le_refl _
  | cons z r =>
    by_cases h : tl z
    · rw [p4c_n h]; omega
    · rw [p4c_no h]; omega
theorem p4b_ge (v : Int) (r : List UInt8) : 2 ≤ (piece4b v r).n := by
  cases r with
  | nil => exact Nat.le_refl _
  | cons z r =>
    by_cases h : tl z
    · rw [p4b_yes h]; have := p4c_ge (v * 64 + nb z % 64) r; omega
    · rw [p4b_no h]; omega

/-- A kind's piece of what is cut behind m bytes. -/
theorem cut2 (x : Int) (r : List UInt8) (m : Nat) (hm : m ≤ r.length) : (piece2 x (r.take m)).n = min (m + 1) (piece2 x r).n := by
  match m, r with
  | 0, r => 
    have h1 : 1 ≤ (piece2 x r).n := by
      cases r with
      | nil => exact Nat.le_refl _
      | cons y r =>
        by_cases h : tl y ∧ 128 ≤ (x - 192) * 64 + nb y % 64
        · have : piece2 x (y :: r) = ⟨(x - 192) * 64 + nb y % 64, 2, true⟩ := if_pos h
          rw [this]; exact (by decide : 1 ≤ 2)
        · have : piece2 x (y :: r) = bad 1 := if_neg h
          rw [this]; exact Nat.le_refl _
    show 1 = min (0 + 1) _
    omega
  | m + 1, [] => simp at hm
  | m + 1, y :: r =>
    have e : (y :: r).take (m + 1) = y :: r.take m := rfl
    rw [e]
    by_cases h : tl y ∧ 128 ≤ (x - 192) * 64 + nb y % 64
    · have e1 : ∀ q, piece2 x (y :: q) = ⟨(x - 192) * 64 + nb y % 64, 2, true⟩ := fun q => if_pos h
      rw [e1, e1]; show 2 = min (m + 1 + 1) 2; omega
    · have e1 : ∀ q, piece2 x (y :: q) = bad 1 := fun q => if_neg h
      rw [e1, e1]; show 1 = min (m + 1 + 1) 1; omega
theorem cut3b (v : Int) (r : List UInt8) (m : Nat) (hm : m ≤ r.length) : (piece3b v (r.take m)).n = min (m + 2) (piece3b v r).n := by
  match m, r with
  | 0, r => have := p3b_ge v r; show 2 = min (0 + 2) _; omega
  | m + 1, [] => simp at hm
  | m + 1, z :: r =>
    have e : (z :: r).take (m + 1) = z :: r.take m := rfl
    rw [e]
    by_cases h : tl z
    · rw [p3b_n h, p3b_n h]; omega
    · rw [p3b_no h, p3b_no h]; omega
theorem cut3 (x : Int) (r : List UInt8) (m : Nat) (hm : m ≤ r.length) : (piece3 x (r.take m)).n = min (m + 1) (piece3 x r).n := by
  match m, r with
  | 0, r =>
    have h1 : 1 ≤ (piece3 x r).n := by
      cases r with
      | nil => exact Nat.le_refl _
      | cons y r =>
        by_cases h : tl y ∧ go3 ((x - 224) * 64 + nb y % 64)
        · rw [p3_yes h]; have := p3b_ge ((x - 224) * 64 + nb y % 64) r; omega
        · rw [p3_no h]; omega
    show 1 = min (0 + 1) _
    omega
  | m + 1, [] => simp at hm
  | m + 1, y :: r =>
    have e : (y :: r).take (m + 1) = y :: r.take m := rfl
    rw [e]
    by_cases h : tl y ∧ go3 ((x - 224) * 64 + nb y % 64)
    · rw [p3_yes h, p3_yes h, cut3b _ _ _ (by simpa using hm)]
    · rw [p3_no h, p3_no h]; omega
theorem cut4c (v : Int) (r : List UInt8) (m : Nat) (hm : m ≤ r.length) : (piece4c v (r.take m)).n = min (m + 3) (piece4c v r).n := by
  match m, r with
  | 0, r => have := p4c_ge v r; show 3 = min (0 + 3) _; omega
  | m + 1, [] => simp at hm
  | m + 1, z :: r =>
    have e : (z :: r).take (m + 1) = z :: r.take m := rfl
    rw [e]
    by_cases h : tl z
    · rw [p4c_n h, p4c_n h]; omega
    · rw [p4c_no h, p4c_no h]; omega
theorem cut4b (v : Int) (r : List UInt8) (m : Nat) (hm : m ≤ r.length) : (piece4b v (r.take m)).n = min (m + 2) (piece4b v r).n := by
  match m, r with
  | 0, r => have := p4b_ge v r; show 2 = min (0 + 2) _; omega
  | m + 1, [] => simp at hm
  | m + 1, z :: r =>
    have e : (z :: r).take (m + 1) = z :: r.take m := rfl
    rw [e]
    by_cases h : tl z
    · rw [p4b_yes h, p4b_yes h, cut4c _ _ _ (by simpa using hm)]
    · rw [p4b_no h, p4b_no h]; omega
theorem cut4 (x : Int) (r : List UInt8) (m : Nat) (hm : m ≤ r.length) : (piece4 x (r.take m)).n = min (m + 1) (piece4 x r).n := by
  match m, r with
  | 0, r =>
    have h1 : 1 ≤ (piece4 x r).n := by
      cases r with
      | nil => exact Nat.le_refl _
      | cons y r =>
        by_cases h : tl y ∧ go4 ((x - 240) * 64 + nb y % 64)
        · rw [p4_yes h]; have := p4b_ge ((x - 240) * 64 + nb y % 64) r; omega
        · rw [p4_no h]; omega
    show 1 = min (0 + 1) _
    omega
  | m + 1, [] => simp at hm
  | m + 1, y :: r =>
    have e : (y :: r).take (m + 1) = y :: r.take m := rfl
    rw [e]
    by_cases h : tl y ∧ go4 ((x - 240) * 64 + nb y % 64)
    · rw [p4_yes h, p4_yes h, cut4b _ _ _ (by simpa using hm)]
    · rw [p4_no h, p4_no h]; omega

/-- The piece of what is cut is as long as it may be. -/
theorem piece_take (b : UInt8) (r : List UInt8) (m : Nat) (hm : m ≤ r.length) : (pieceOf (b :: r.take m)).n = min (m + 1) (pieceOf (b :: r)).n := by
  have bb := nb_bd b
  by_cases h1 : nb b < 128
  · rw [po1 h1, po1 h1]; show 1 = min (m + 1) 1; omega
  by_cases h2 : nb b < 192
  · rw [piece_odd b _ (by omega), piece_odd b _ (by omega)]; show 1 = min (m + 1) 1; omega
  by_cases h3 : nb b < 224
  · rw [po2 (by omega) h3, po2 (by omega) h3, cut2 _ _ _ hm]
  by_cases h4 : nb b < 240
  · rw [po3 (by omega) h4, po3 (by omega) h4, cut3 _ _ _ hm]
  by_cases h5 : nb b < 248
  · rw [po4 (by omega) h5, po4 (by omega) h5, cut4 _ _ _ hm]
  · rw [piece_odd b _ (by omega), piece_odd b _ (by omega)]; show 1 = min (m + 1) 1; omega

/-- How many bytes the document's own way finds. -/
def findN (b : UInt8) (r : List UInt8) : Nat := if needN (nb b) = 0 then 0 else (pieceOf (b :: r)).n
theorem need_zero {b : UInt8} {r : List UInt8} (h : needN (nb b) = 0) : pieceOf (b :: r) = bad 1 := by
  have bb := nb_bd b
  apply piece_odd
  by_cases c1 : nb b < 128
  · rw [needN1 c1] at h; omega
  by_cases c2 : nb b < 194
  · omega
  by_cases c3 : nb b < 224
  · rw [needN2 (by omega) c3] at h; omega
  by_cases c4 : nb b < 240
  · rw [needN3 (by omega) c4] at h; omega
  by_cases c5 : nb b < 245
  · rw [needN4 (by omega) c5] at h; omega
  · omega

theorem begL_take (b : UInt8) (r : List UInt8) (m : Nat) (hm : m ≤ r.length) : begL (b :: r.take m) = decide (m < findN b r) := by
  have hl : (r.take m).length = m := by rw [List.length_take]; omega
  rw [begL_cons, hl, piece_take b r m hm]
  unfold findN
  by_cases h : needN (nb b) = 0
  · rw [if_pos h, decide_eq_false (fun c => c.1 h), decide_eq_false (by omega)]
  · rw [if_neg h]
    by_cases c : m < (pieceOf (b :: r)).n
    · rw [decide_eq_true ⟨h, by omega⟩, decide_eq_true c]
    · rw [decide_eq_false (fun x => by have := x.2; omega), decide_eq_false c]

/-- The ways that a piece may be, by the document's own way. -/
def Way (b : UInt8) (r : List UInt8) (p : Pc) : Prop :=
  (needN (nb b) = 0 ∧ p = bad 1) ∨
  (∃ (N : Nat) (K : Int), needN (nb b) = K ∧ K ≠ 0 ∧ 1 ≤ N ∧ N ≤ 3 ∧ (N : Int) ≠ K ∧ p = bad N) ∨
  (nb b < 128 ∧ p = ⟨nb b, 1, true⟩) ∨
  (∃ (y : UInt8) (q : List UInt8), r = y :: q ∧ 194 ≤ nb b ∧ nb b < 224 ∧ tl y ∧ p = ⟨(nb b - 192) * 64 + nb y - 128, 2, true⟩) ∨
  (∃ (y z : UInt8) (q : List UInt8), r = y :: z :: q ∧ 224 ≤ nb b ∧ nb b < 240 ∧ tl y ∧ tl z ∧ p = ⟨((nb b - 224) * 64 + nb y - 128) * 64 + nb z - 128, 3, true⟩) ∨
  (∃ (y z u : UInt8) (q : List UInt8), r = y :: z :: u :: q ∧ 240 ≤ nb b ∧ nb b < 245 ∧ tl y ∧ tl z ∧ tl u ∧ p = ⟨(((nb b - 240) * 64 + nb y - 128) * 64 + nb z - 128) * 64 + nb u - 128, 4, true⟩)
theorem Way.none {b : UInt8} {r : List UInt8} (h : needN (nb b) = 0) : Way b r (bad 1) := .inl ⟨h, rfl⟩
theorem Way.short {b : UInt8} {r : List UInt8} (N : Nat) (K : Int) (hK : needN (nb b) = K) (h : K ≠ 0) (h1 : 1 ≤ N) (h2 : N ≤ 3) (hne : (N : Int) ≠ K) : Way b r (bad N) := .inr (.inl ⟨N, K, hK, h, h1, h2, hne, rfl⟩)
theorem Way.one {b : UInt8} {r : List UInt8} (h : nb b < 128) : Way b r ⟨nb b, 1, true⟩ := .inr (.inr (.inl ⟨h, rfl⟩))
theorem Way.two {b : UInt8} {r : List UInt8} (y : UInt8) (q : List UInt8) (hr : r = y :: q) (h0 : 194 ≤ nb b) (h1 : nb b < 224) (hy : tl y) : Way b r ⟨(nb b - 192) * 64 + nb y - 128, 2, true⟩ := .inr (.inr (.inr (.inl ⟨y, q, hr, h0, h1, hy, rfl⟩)))
theorem Way.three {b : UInt8} {r : List UInt8} (y z : UInt8) (q : List UInt8) (hr : r = y :: z :: q) (h0 : 224 ≤ nb b) (h1 : nb b < 240) (hy : tl y) (hz : tl z) : Way b r ⟨((nb b - 224) * 64 + nb y - 128) * 64 + nb z - 128, 3, true⟩ := .inr (.inr (.inr (.inr (.inl ⟨y, z, q, hr, h0, h1, hy, hz, rfl⟩))))
theorem Way.four {b : UInt8} {r : List UInt8} (y z u : UInt8) (q : List UInt8) (hr : r = y :: z :: u :: q) (h0 : 240 ≤ nb b) (h1 : nb b < 245) (hy : tl y) (hz : tl z) (hu : tl u) : Way b r ⟨(((nb b - 240) * 64 + nb y - 128) * 64 + nb z - 128) * 64 + nb u - 128, 4, true⟩ := .inr (.inr (.inr (.inr (.inr ⟨y, z, u, q, hr, h0, h1, hy, hz, hu, rfl⟩))))

theorem way_of (b : UInt8) (r : List UInt8) : Way b r (pieceOf (b :: r)) := by
  have bb := nb_bd b
  by_cases c1 : nb b < 128
  · rw [po1 c1]; exact .one c1
  by_cases c2 : nb b < 194
  · have h : needN (nb b) = 0 := needN0 (by omega)
    rw [need_zero h]; exact .none h
  by_cases c3 : nb b < 224
  · have hK := needN2 (by omega) c3
    rw [po2 (by omega) c3]
    cases r with
    | nil => exact .short 1 2 hK (by omega) (by omega) (by omega) (by omega)
    | cons y q =>
      by_cases h : tl y ∧ 128 ≤ (nb b - 192) * 64 + nb y % 64
      · have e : piece2 (nb b) (y :: q) = ⟨(nb b - 192) * 64 + nb y % 64, 2, true⟩ := if_pos h
        have ht := h.1
        unfold tl at ht
        rw [e, show (nb b - 192) * 64 + nb y % 64 = (nb b - 192) * 64 + nb y - 128 by omega]
        exact .two y q rfl (by omega) c3 h.1
      · have e : piece2 (nb b) (y :: q) = bad 1 := if_neg h
        rw [e]; exact .short 1 2 hK (by omega) (by omega) (by omega) (by omega)
  by_cases c4 : nb b < 240
  · have hK := needN3 (by omega) c4
    rw [po3 (by omega) c4]
    cases r with
    | nil => exact .short 1 3 hK (by omega) (by omega) (by omega) (by omega)
    | cons y r =>
      by_cases h : tl y ∧ go3 ((nb b - 224) * 64 + nb y % 64)
      · rw [p3_yes h]
        have ht := h.1
        unfold tl at ht
        cases r with
        | nil => exact .short 2 3 hK (by omega) (by omega) (by omega) (by omega)
        | cons z q =>
          by_cases g : tl z
          · have e : piece3b ((nb b - 224) * 64 + nb y % 64) (z :: q) = ⟨((nb b - 224) * 64 + nb y % 64) * 64 + nb z % 64, 3, true⟩ := if_pos g
            have gt := g
            unfold tl at gt
            rw [e, show ((nb b - 224) * 64 + nb y % 64) * 64 + nb z % 64 = ((nb b - 224) * 64 + nb y - 128) * 64 + nb z - 128 by omega]
            exact .three y z q rfl (by omega) c4 h.1 g
          · have e : piece3b ((nb b - 224) * 64 + nb y % 64) (z :: q) = bad 2 := if_neg g
            rw [e]; exact .short 2 3 hK (by omega) (by omega) (by omega) (by omega)
      · have e : piece3 (nb b) (y :: r) = bad 1 := if_neg h
        rw [e]; exact .short 1 3 hK (by omega) (by omega) (by omega) (by omega)
  by_cases c5 : nb b < 245
  · have hK := needN4 (by omega) c5
    rw [po4 (by omega) (by omega)]
    cases r with
    | nil => exact .short 1 4 hK (by omega) (by omega) (by omega) (by omega)
    | cons y r =>
      by_cases h : tl y ∧ go4 ((nb b - 240) * 64 + nb y % 64)
      · rw [p4_yes h]
        have ht := h.1
        unfold tl at ht
        cases r with
        | nil => exact .short 2 4 hK (by omega) (by omega) (by omega) (by omega)
        | cons z r =>
          by_cases g : tl z
          · rw [p4b_yes g]
            have gt := g
            unfold tl at gt
            cases r with
            | nil => exact .short 3 4 hK (by omega) (by omega) (by omega) (by omega)
            | cons u q =>
              by_cases f : tl u
              · have e : piece4c (((nb b - 240) * 64 + nb y % 64) * 64 + nb z % 64) (u :: q) = ⟨(((nb b - 240) * 64 + nb y % 64) * 64 + nb z % 64) * 64 + nb u % 64, 4, true⟩ := if_pos f
                have ft := f
                unfold tl at ft
                rw [e, show (((nb b - 240) * 64 + nb y % 64) * 64 + nb z % 64) * 64 + nb u % 64 = (((nb b - 240) * 64 + nb y - 128) * 64 + nb z - 128) * 64 + nb u - 128 by omega]
                exact .four y z u q rfl (by omega) c5 h.1 g f
              · have e : piece4c (((nb b - 240) * 64 + nb y % 64) * 64 + nb z % 64) (u :: q) = bad 3 := if_neg f
                rw [e]; exact .short 3 4 hK (by omega) (by omega) (by omega) (by omega)
          · have e : piece4b ((nb b - 240) * 64 + nb y % 64) (z :: r) = bad 2 := if_neg g
            rw [e]; exact .short 2 4 hK (by omega) (by omega) (by omega) (by omega)
      · have e : piece4 (nb b) (y :: r) = bad 1 := if_neg h
        rw [e]; exact .short 1 4 hK (by omega) (by omega) (by omega) (by omega)
  · have h : needN (nb b) = 0 := needN0 (by omega)
    rw [need_zero h]; exact .none h
end Go.Proofs.YtmhfgncffkfelaaDoor.U

