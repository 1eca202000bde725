/- What pieceAt returns: the piece at the head of the bytes from a place on. -/
import Derived.Test.YtmhfgncffkfelaaDoorKU1
namespace Go.Proofs.YtmhfgncffkfelaaDoor.U
open Go.RowKit
set_option linter.unusedSimpArgs false
set_option linter.unusedVariables false

theorem bcell {W w1 : World} (hb : Below W.heap.size W w1) : (∀ b o, b < W.heap.size → w1.cell? ⟨b, o, none⟩ = W.cell? ⟨b, o, none⟩) ∧ (∀ b o, b < W.heap.size → w1.frozen? ⟨b, o, none⟩ = W.frozen? ⟨b, o, none⟩) :=
  ⟨fun b o h => hb.cell (p := ⟨b, o, none⟩) h, fun b o h => hb.frozen (p := ⟨b, o, none⟩) h⟩
theorem below_call {w w1 : World} {o : Obj} (h : Below (w.alloc o).heap.size (w.alloc o) w1) : Below w.heap.size w w1 :=
  ((Below.refl _ _).alloc (Nat.le_refl _) _).trans (h.mono (by simp))

/-- What a piece's call leaves. -/
def Out (k : Nat) (p : Pc) (w : World) (e : Ending) (w' : World) : Prop :=
  e = .returned (.tuple #[.agg #[.int .i64 p.v, .int .i64 k, .int .i64 p.n], .bool p.ok]) ∧ Below w.heap.size w w'
theorem out_bad {k : Nat} {p : Pc} {w w' : World} {e : Ending} {n : Nat} (h : p = bad n) (he : e = .returned (.tuple #[.agg #[.int .i64 65533, .int .i64 k, .int .i64 n], .bool false])) (hb : Below w.heap.size w w') : Out k p w e w' := by
  subst h; exact ⟨he, hb⟩
theorem out_ok {k : Nat} {p : Pc} {w w' : World} {e : Ending} {v : Int} {n : Nat} (h : p = ⟨v, n, true⟩) (he : e = .returned (.tuple #[.agg #[.int .i64 v, .int .i64 k, .int .i64 n], .bool true])) (hb : Below w.heap.size w w') : Out k p w e w' := by
  subst h; exact ⟨he, hb⟩

theorem drop_cons (s : ByteArray) (k : Nat) (h : k < s.size) : s.data.toList.drop k = s[k] :: s.data.toList.drop (k + 1) := by
  have h' : k < s.data.toList.length := by simpa using h
  rw [List.drop_eq_getElem_cons h']; rfl
theorem drop_none (s : ByteArray) (k : Nat) (h : ¬ k < s.size) : s.data.toList.drop k = [] := by
  apply List.drop_eq_nil_of_le
  simp; omega

theorem begins22y (v : Int) (w : World) (h0 : 0 ≤ v) (h1 : v < 2048) (h : 128 ≤ v) :
    Calls Tryd.prog 103 #[.agg #[.int .u8 6, .int .u8 5, .int .i64 2, .int .i64 128], .int .i64 v, .int .i64 2] w fun e w' => e = .returned (.bool true) ∧ Below w.heap.size w w' := by
  have := begins22 v w h0 h1; rwa [decide_eq_true h] at this
theorem begins22n (v : Int) (w : World) (h0 : 0 ≤ v) (h1 : v < 2048) (h : ¬ 128 ≤ v) :
    Calls Tryd.prog 103 #[.agg #[.int .u8 6, .int .u8 5, .int .i64 2, .int .i64 128], .int .i64 v, .int .i64 2] w fun e w' => e = .returned (.bool false) ∧ Below w.heap.size w w' := by
  have := begins22 v w h0 h1; rwa [decide_eq_false h] at this
theorem begins32y (v : Int) (w : World) (h0 : 0 ≤ v) (h1 : v < 1024) (h : go3 v) :
    Calls Tryd.prog 103 #[.agg #[.int .u8 14, .int .u8 4, .int .i64 3, .int .i64 2048], .int .i64 v, .int .i64 2] w fun e w' => e = .returned (.bool true) ∧ Below w.heap.size w w' := by
  have := begins32 v w h0 h1; rwa [show decide (32 ≤ v ∧ (v < 864 ∨ 896 ≤ v)) = true from decide_eq_true h] at this
theorem begins32n (v : Int) (w : World) (h0 : 0 ≤ v) (h1 : v < 1024) (h : ¬ go3 v) :
    Calls Tryd.prog 103 #[.agg #[.int .u8 14, .int .u8 4, .int .i64 3, .int .i64 2048], .int .i64 v, .int .i64 2] w fun e w' => e = .returned (.bool false) ∧ Below w.heap.size w w' := by
  have := begins32 v w h0 h1; rwa [show decide (32 ≤ v ∧ (v < 864 ∨ 896 ≤ v)) = false from decide_eq_false h] at this
theorem begins42y (v : Int) (w : World) (h0 : 0 ≤ v) (h1 : v < 512) (h : go4 v) :
    Calls Tryd.prog 103 #[.agg #[.int .u8 30, .int .u8 3, .int .i64 4, .int .i64 65536], .int .i64 v, .int .i64 2] w fun e w' => e = .returned (.bool true) ∧ Below w.heap.size w w' := by
  have := begins42 v w h0 h1; rwa [show decide (16 ≤ v ∧ v < 272) = true from decide_eq_true h] at this
theorem begins42n (v : Int) (w : World) (h0 : 0 ≤ v) (h1 : v < 512) (h : ¬ go4 v) :
    Calls Tryd.prog 103 #[.agg #[.int .u8 30, .int .u8 3, .int .i64 4, .int .i64 65536], .int .i64 v, .int .i64 2] w fun e w' => e = .returned (.bool false) ∧ Below w.heap.size w w' := by
  have := begins42 v w h0 h1; rwa [show decide (16 ≤ v ∧ v < 272) = false from decide_eq_false h] at this

set_option maxHeartbeats 2000000 in
theorem at2 (s : ByteArray) (k : Nat) (w : World) (hs : s.size ≤ maxLen) (hk : k < s.size) (hT : Tab w) (h0 : 192 ≤ s[k].toNat) (h1 : s[k].toNat < 224) :
    Calls Tryd.prog 86 #[.string s, .int .i64 k] w (Out k (piece2 (nb s[k]) (s.data.toList.drop (k + 1))) w) := by
  unfold maxLen at hs
  have hl := leadOf_any s[k].toNat
  have e1 : leadOfV (s[k].toNat : Int) = .tuple #[.agg #[.int .u8 6, .int .u8 5, .int .i64 2, .int .i64 128], .bool true] := by
    unfold leadOfV; rw [if_neg (by omega), if_neg (by omega), if_pos (by omega)]
  rw [e1] at hl
  clear e1
  have HL := Lib.hid hl
  have HT := Lib.hid hT
  clear hl hT
  have x0 := xor192 s[k].toNat h0 h1
  go_enter Tryd.func86, Tryd.ntmps86
  go_wp2_with fail
  refine (HL.out _ (HT.out.alloc _) (by omega) (by omega)).mono ?_
  rintro e w1 ⟨rfl, hw1⟩
  obtain ⟨hc, hf⟩ := bcell hw1
  have hz : w.heap.size < w1.heap.size := by have := hw1.size; simp at this; omega
  have b1 : Below w.heap.size w w1 := below_call hw1
  go_wp2_with fail
  clear HL HT hw1
  refine wp_loop_rounds 4 ?_
  by_cases c1 : k + 1 < s.size
  · have yb : s[k+1].toNat < 256 := UInt8.toNat_lt _
    have xy := and63 s[k+1].toNat yb
    have xo := or64 ((s[k].toNat : Int) - 192) ((s[k+1].toNat : Int) % 64) (by omega) (by omega) (by omega) (by omega)
    have HD := Lib.hid (drop_cons s (k+1) c1)
    by_cases c2 : 128 ≤ s[k+1].toNat ∧ s[k+1].toNat < 192
    · by_cases c3 : 128 ≤ ((s[k].toNat : Int) - 192) * 64 + (s[k+1].toNat : Int) % 64
      · have HP : Hid (piece2 (nb s[k]) (s.data.toList.drop (k + 1)) = ⟨((s[k].toNat : Int) - 192) * 64 + (s[k+1].toNat : Int) % 64, 2, true⟩) := Lib.hid (by
          rw [HD.out]; exact if_pos ⟨⟨by unfold nb; omega, by unfold nb; omega⟩, c3⟩)
        obtain ⟨y0, y1⟩ := c2
        rw [rounds_succ]; go_wp2_with fail
        refine (begins22y _ _ (by omega) (by omega) (by omega)).mono ?_
        rintro e w2 ⟨rfl, hw2⟩
        obtain ⟨hc2, hf2⟩ := bcell hw2
        have hz2 : w1.heap.size < w2.heap.size := by have := hw2.size; simp at this; omega
        have hy2 : w.heap.size < w2.heap.size := by omega
        have hx2 : w.heap.size < w1.heap.size + 1 := by omega
        have b2 : Below w.heap.size w w2 := b1.trans ((below_call hw2).mono (by omega))
        clear hw2
        go_wp2_with fail
        rw [rounds_succ]; go_wp2_with fail
        exact bodyPost_ret (v := .tuple #[.agg #[.int .i64 (((s[k].toNat : Int) - 192) * 64 + (s[k+1].toNat : Int) % 64), .int .i64 k, .int .i64 2], .bool true]) (by simp [results, Tryd.results86, go_sem, hz, hc, hf, hz2, hy2, hx2, hc2, hf2]) rfl (out_ok HP.out rfl (by go_grown))
      · have HP : Hid (piece2 (nb s[k]) (s.data.toList.drop (k + 1)) = bad 1) := Lib.hid (by
          rw [HD.out]; exact if_neg (fun h => c3 h.2))
        obtain ⟨y0, y1⟩ := c2
        rw [rounds_succ]; go_wp2_with fail
        refine (begins22n _ _ (by omega) (by omega) (by omega)).mono ?_
        rintro e w2 ⟨rfl, hw2⟩
        obtain ⟨hc2, hf2⟩ := bcell hw2
        have hz2 : w1.heap.size < w2.heap.size := by have := hw2.size; simp at this; omega
        have hy2 : w.heap.size < w2.heap.size := by omega
        have hx2 : w.heap.size < w1.heap.size + 1 := by omega
        have b2 : Below w.heap.size w w2 := b1.trans ((below_call hw2).mono (by omega))
        clear hw2
        go_wp2_with fail
        exact bodyPost_ret (v := .tuple #[.agg #[.int .i64 65533, .int .i64 k, .int .i64 1], .bool false]) (by simp [results, Tryd.results86, go_sem, hz, hc, hf, hz2, hy2, hx2, hc2, hf2]) rfl (out_bad HP.out rfl (by go_grown))
    · have HP : Hid (piece2 (nb s[k]) (s.data.toList.drop (k + 1)) = bad 1) := Lib.hid (by
        rw [HD.out]; exact if_neg (fun h => c2 (by have := h.1; unfold tl nb at this; omega)))
      have c4 : s[k+1].toNat < 128 ∨ 192 ≤ s[k+1].toNat := by omega
      clear c2
      rcases c4 with c4 | c4
      · rw [rounds_succ]; go_wp2_with fail
        exact bodyPost_ret (v := .tuple #[.agg #[.int .i64 65533, .int .i64 k, .int .i64 1], .bool false]) (by simp [results, Tryd.results86, go_sem, hz, hc, hf]) rfl (out_bad HP.out rfl (by go_grown))
      · rw [rounds_succ]; go_wp2_with fail
        exact bodyPost_ret (v := .tuple #[.agg #[.int .i64 65533, .int .i64 k, .int .i64 1], .bool false]) (by simp [results, Tryd.results86, go_sem, hz, hc, hf]) rfl (out_bad HP.out rfl (by go_grown))
  · have HP : Hid (piece2 (nb s[k]) (s.data.toList.drop (k + 1)) = bad 1) := Lib.hid (by
      rw [drop_none s (k+1) c1]; rfl)
    rw [rounds_succ]; go_wp2_with fail
    exact bodyPost_ret (v := .tuple #[.agg #[.int .i64 65533, .int .i64 k, .int .i64 1], .bool false]) (by simp [results, Tryd.results86, go_sem, hz, hc, hf]) rfl (out_bad HP.out rfl (by go_grown))

set_option maxHeartbeats 2000000 in
theorem at3 (s : ByteArray) (k : Nat) (w : World) (hs : s.size ≤ maxLen) (hk : k < s.size) (hT : Tab w) (h0 : 224 ≤ s[k].toNat) (h1 : s[k].toNat < 240) :
    Calls Tryd.prog 86 #[.string s, .int .i64 k] w (Out k (piece3 (nb s[k]) (s.data.toList.drop (k + 1))) w) := by
  unfold maxLen at hs
  have hl := leadOf_any s[k].toNat
  have e1 : leadOfV (s[k].toNat : Int) = .tuple #[.agg #[.int .u8 14, .int .u8 4, .int .i64 3, .int .i64 2048], .bool true] := by
    unfold leadOfV; rw [if_neg (by omega), if_neg (by omega), if_neg (by omega), if_pos (by omega)]
  rw [e1] at hl
  clear e1
  have HL := Lib.hid hl
  have HT := Lib.hid hT
  clear hl hT
  have x0 := xor224 s[k].toNat h0 h1
  go_enter Tryd.func86, Tryd.ntmps86
  go_wp2_with fail
  refine (HL.out _ (HT.out.alloc _) (by omega) (by omega)).mono ?_
  rintro e w1 ⟨rfl, hw1⟩
  obtain ⟨hc, hf⟩ := bcell hw1
  have hz : w.heap.size < w1.heap.size := by have := hw1.size; simp at this; omega
  have b1 : Below w.heap.size w w1 := below_call hw1
  go_wp2_with fail
  clear HL HT hw1
  refine wp_loop_rounds 4 ?_
  by_cases c1 : k + 1 < s.size
  · have yb : s[k+1].toNat < 256 := UInt8.toNat_lt _
    have xy := and63 s[k+1].toNat yb
    have xo := or64 ((s[k].toNat : Int) - 224) ((s[k+1].toNat : Int) % 64) (by omega) (by omega) (by omega) (by omega)
    have HD := Lib.hid (drop_cons s (k+1) c1)
    by_cases c2 : 128 ≤ s[k+1].toNat ∧ s[k+1].toNat < 192
    · by_cases c3 : go3 (((s[k].toNat : Int) - 224) * 64 + (s[k+1].toNat : Int) % 64)
      · have HQ : Hid (piece3 (nb s[k]) (s.data.toList.drop (k + 1)) = piece3b (((s[k].toNat : Int) - 224) * 64 + (s[k+1].toNat : Int) % 64) (s.data.toList.drop (k + 2))) := Lib.hid (by
          rw [HD.out]; exact if_pos ⟨⟨by unfold nb; omega, by unfold nb; omega⟩, c3⟩)
        obtain ⟨y0, y1⟩ := c2
        have C3 := Lib.hid c3
        clear c3
        rw [rounds_succ]; go_wp2_with fail
        refine (begins32y _ _ (by omega) (by omega) C3.out).mono ?_
        rintro e w2 ⟨rfl, hw2⟩
        obtain ⟨hc2, hf2⟩ := bcell hw2
        have hz2 : w1.heap.size < w2.heap.size := by have := hw2.size; simp at this; omega
        have hy2 : w.heap.size < w2.heap.size := by omega
        have hx2 : w.heap.size < w1.heap.size + 1 := by omega
        have b2 : Below w.heap.size w w2 := b1.trans ((below_call hw2).mono (by omega))
        clear hw2
        go_wp2_with fail
        by_cases d1 : k + 2 < s.size
        · have zb : s[k+2].toNat < 256 := UInt8.toNat_lt _
          have xz := and63 s[k+2].toNat zb
          have xp := or64 (((s[k].toNat : Int) - 224) * 64 + (s[k+1].toNat : Int) % 64) ((s[k+2].toNat : Int) % 64) (by omega) (by omega) (by omega) (by omega)
          have HE := Lib.hid (drop_cons s (k+2) d1)
          by_cases d2 : 128 ≤ s[k+2].toNat ∧ s[k+2].toNat < 192
          · have HP : Hid (piece3 (nb s[k]) (s.data.toList.drop (k + 1)) = ⟨(((s[k].toNat : Int) - 224) * 64 + (s[k+1].toNat : Int) % 64) * 64 + (s[k+2].toNat : Int) % 64, 3, true⟩) := Lib.hid (by
              rw [HQ.out, HE.out]; exact if_pos ⟨by unfold nb; omega, by unfold nb; omega⟩)
            obtain ⟨z0, z1⟩ := d2
            rw [rounds_succ]; go_wp2_with fail
            refine (begins33 _ _ (by have := C3.out.1; omega) (by omega) (by have := C3.out.2; omega)).mono ?_
            rintro e w3 ⟨rfl, hw3⟩
            obtain ⟨hc3, hf3⟩ := bcell hw3
            have hz3 : w1.heap.size < w3.heap.size := by have := hw3.size; omega
            have hy3 : w.heap.size < w3.heap.size := by omega
            have hx3 : w2.heap.size ≤ w3.heap.size := hw3.size
            have b3 : Below w.heap.size w w3 := b2.trans (hw3.mono (by omega))
            clear hw3
            go_wp2_with fail
            rw [rounds_succ]; go_wp2_with fail
            exact bodyPost_ret (v := .tuple #[.agg #[.int .i64 ((((s[k].toNat : Int) - 224) * 64 + (s[k+1].toNat : Int) % 64) * 64 + (s[k+2].toNat : Int) % 64), .int .i64 k, .int .i64 3], .bool true]) (by simp [results, Tryd.results86, go_sem, hz, hc, hf, hz2, hy2, hx2, hc2, hf2, hz3, hy3, hx3, hc3, hf3]) rfl (out_ok HP.out rfl (by go_grown))
          · have HP : Hid (piece3 (nb s[k]) (s.data.toList.drop (k + 1)) = bad 2) := Lib.hid (by
              rw [HQ.out, HE.out]; exact if_neg (fun h => d2 (by unfold tl nb at h; omega)))
            have d4 : s[k+2].toNat < 128 ∨ 192 ≤ s[k+2].toNat := by omega
            clear d2
            rcases d4 with d4 | d4
            · rw [rounds_succ]; go_wp2_with fail
              exact bodyPost_ret (v := .tuple #[.agg #[.int .i64 65533, .int .i64 k, .int .i64 2], .bool false]) (by simp [results, Tryd.results86, go_sem, hz, hc, hf, hz2, hy2, hx2, hc2, hf2]) rfl (out_bad HP.out rfl (by go_grown))
            · rw [rounds_succ]; go_wp2_with fail
              exact bodyPost_ret (v := .tuple #[.agg #[.int .i64 65533, .int .i64 k, .int .i64 2], .bool false]) (by simp [results, Tryd.results86, go_sem, hz, hc, hf, hz2, hy2, hx2, hc2, hf2]) rfl (out_bad HP.out rfl (by go_grown))
        · have HP : Hid (piece3 (nb s[k]) (s.data.toList.drop (k + 1)) = bad 2) := Lib.hid (by
            rw [HQ.out, drop_none s (k+2) d1]; rfl)
          rw [rounds_succ]; go_wp2_with fail
          exact bodyPost_ret (v := .tuple #[.agg #[.int .i64 65533, .int .i64 k, .int .i64 2], .bool false]) (by simp [results, Tryd.results86, go_sem, hz, hc, hf, hz2, hy2, hx2, hc2, hf2]) rfl (out_bad HP.out rfl (by go_grown))
      · have HP : Hid (piece3 (nb s[k]) (s.data.toList.drop (k + 1)) = bad 1) := Lib.hid (by
          rw [HD.out]; exact if_neg (fun h => c3 h.2))
        obtain ⟨y0, y1⟩ := c2
        have C3 := Lib.hid c3
        clear c3
        rw [rounds_succ]; go_wp2_with fail
        refine (begins32n _ _ (by omega) (by omega) C3.out).mono ?_
        rintro e w2 ⟨rfl, hw2⟩
        obtain ⟨hc2, hf2⟩ := bcell hw2
        have hz2 : w1.heap.size < w2.heap.size := by have := hw2.size; simp at this; omega
        have hy2 : w.heap.size < w2.heap.size := by omega
        have hx2 : w.heap.size < w1.heap.size + 1 := by omega
        have b2 : Below w.heap.size w w2 := b1.trans ((below_call hw2).mono (by omega))
        clear hw2
        go_wp2_with fail
        exact bodyPost_ret (v := .tuple #[.agg #[.int .i64 65533, .int .i64 k, .int .i64 1], .bool false]) (by simp [results, Tryd.results86, go_sem, hz, hc, hf, hz2, hy2, hx2, hc2, hf2]) rfl (out_bad HP.out rfl (by go_grown))
    · have HP : Hid (piece3 (nb s[k]) (s.data.toList.drop (k + 1)) = bad 1) := Lib.hid (by
        rw [HD.out]; exact if_neg (fun h => c2 (by have := h.1; unfold tl nb at this; omega)))
      have c4 : s[k+1].toNat < 128 ∨ 192 ≤ s[k+1].toNat := by omega
      clear c2
      rcases c4 with c4 | c4
      · rw [rounds_succ]; go_wp2_with fail
        exact bodyPost_ret (v := .tuple #[.agg #[.int .i64 65533, .int .i64 k, .int .i64 1], .bool false]) (by simp [results, Tryd.results86, go_sem, hz, hc, hf]) rfl (out_bad HP.out rfl (by go_grown))
      · rw [rounds_succ]; go_wp2_with fail
        exact bodyPost_ret (v := .tuple #[.agg #[.int .i64 65533, .int .i64 k, .int .i64 1], .bool false]) (by simp [results, Tryd.results86, go_sem, hz, hc, hf]) rfl (out_bad HP.out rfl (by go_grown))
  · have HP : Hid (piece3 (nb s[k]) (s.data.toList.drop (k + 1)) = bad 1) := Lib.hid (by
      rw [drop_none s (k+1) c1]; rfl)
    rw [rounds_succ]; go_wp2_with fail
    exact bodyPost_ret (v := .tuple #[.agg #[.int .i64 65533, .int .i64 k, .int .i64 1], .bool false]) (by simp [results, Tryd.results86, go_sem, hz, hc, hf]) rfl (out_bad HP.out rfl (by go_grown))

set_option maxHeartbeats 2000000 in
theorem at4 (s : ByteArray) (k : Nat) (w : World) (hs : s.size ≤ maxLen) (hk : k < s.size) (hT : Tab w) (h0 : 240 ≤ s[k].toNat) (h1 : s[k].toNat < 248) :
    Calls Tryd.prog 86 #[.string s, .int .i64 k] w (Out k (piece4 (nb s[k]) (s.data.toList.drop (k + 1))) w) := by
  unfold maxLen at hs
  have hl := leadOf_any s[k].toNat
  have e1 : leadOfV (s[k].toNat : Int) = .tuple #[.agg #[.int .u8 30, .int .u8 3, .int .i64 4, .int .i64 65536], .bool true] := by
    unfold leadOfV; rw [if_neg (by omega), if_neg (by omega), if_neg (by omega), if_neg (by omega), if_pos (by omega)]
  rw [e1] at hl
  clear e1
  have HL := Lib.hid hl
  have HT := Lib.hid hT
  clear hl hT
  have x0 := xor240 s[k].toNat h0 h1
  go_enter Tryd.func86, Tryd.ntmps86
  go_wp2_with fail
  refine (HL.out _ (HT.out.alloc _) (by omega) (by omega)).mono ?_
  rintro e w1 ⟨rfl, hw1⟩
  obtain ⟨hc, hf⟩ := bcell hw1
  have hz : w.heap.size < w1.heap.size := by have := hw1.size; simp at this; omega
  have b1 : Below w.heap.size w w1 := below_call hw1
  go_wp2_with fail
  clear HL HT hw1
  refine wp_loop_rounds 4 ?_
  by_cases c1 : k + 1 < s.size
  · have yb : s[k+1].toNat < 256 := UInt8.toNat_lt _
    have xy := and63 s[k+1].toNat yb
    have xo := or64 ((s[k].toNat : Int) - 240) ((s[k+1].toNat : Int) % 64) (by omega) (by omega) (by omega) (by omega)
    have HD := Lib.hid (drop_cons s (k+1) c1)
    by_cases c2 : 128 ≤ s[k+1].toNat ∧ s[k+1].toNat < 192
    · by_cases c3 : go4 (((s[k].toNat : Int) - 240) * 64 + (s[k+1].toNat : Int) % 64)
      · have HQ : Hid (piece4 (nb s[k]) (s.data.toList.drop (k + 1)) = piece4b (((s[k].toNat : Int) - 240) * 64 + (s[k+1].toNat : Int) % 64) (s.data.toList.drop (k + 2))) := Lib.hid (by
          rw [HD.out]; exact if_pos ⟨⟨by unfold nb; omega, by unfold nb; omega⟩, c3⟩)
        obtain ⟨y0, y1⟩ := c2
        have C3 := Lib.hid c3
        clear c3
        rw [rounds_succ]; go_wp2_with fail
        refine (begins42y _ _ (by omega) (by omega) C3.out).mono ?_
        rintro e w2 ⟨rfl, hw2⟩
        obtain ⟨hc2, hf2⟩ := bcell hw2
        have hz2 : w1.heap.size < w2.heap.size := by have := hw2.size; simp at this; omega
        have hy2 : w.heap.size < w2.heap.size := by omega
        have hx2 : w.heap.size < w1.heap.size + 1 := by omega
        have b2 : Below w.heap.size w w2 := b1.trans ((below_call hw2).mono (by omega))
        clear hw2
        go_wp2_with fail
        by_cases d1 : k + 2 < s.size
        · have zb : s[k+2].toNat < 256 := UInt8.toNat_lt _
          have xz := and63 s[k+2].toNat zb
          have xp := or64 (((s[k].toNat : Int) - 240) * 64 + (s[k+1].toNat : Int) % 64) ((s[k+2].toNat : Int) % 64) (by omega) (by omega) (by omega) (by omega)
          have HE := Lib.hid (drop_cons s (k+2) d1)
          by_cases d2 : 128 ≤ s[k+2].toNat ∧ s[k+2].toNat < 192
          · have HQ2 : Hid (piece4 (nb s[k]) (s.data.toList.drop (k + 1)) = piece4c ((((s[k].toNat : Int) - 240) * 64 + (s[k+1].toNat : Int) % 64) * 64 + (s[k+2].toNat : Int) % 64) (s.data.toList.drop (k + 3))) := Lib.hid (by
              rw [HQ.out, HE.out]; exact if_pos ⟨by unfold nb; omega, by unfold nb; omega⟩)
            obtain ⟨z0, z1⟩ := d2
            rw [rounds_succ]; go_wp2_with fail
            refine (begins43 _ _ (by have := C3.out.1; omega) (by have := C3.out.2; omega)).mono ?_
            rintro e w3 ⟨rfl, hw3⟩
            obtain ⟨hc3, hf3⟩ := bcell hw3
            have hz3 : w1.heap.size < w3.heap.size := by have := hw3.size; omega
            have hy3 : w.heap.size < w3.heap.size := by omega
            have hx3 : w2.heap.size ≤ w3.heap.size := hw3.size
            have b3 : Below w.heap.size w w3 := b2.trans (hw3.mono (by omega))
            clear hw3
            go_wp2_with fail
            by_cases f1 : k + 3 < s.size
            · have qb : s[k+3].toNat < 256 := UInt8.toNat_lt _
              have xq := and63 s[k+3].toNat qb
              have xr := or64 ((((s[k].toNat : Int) - 240) * 64 + (s[k+1].toNat : Int) % 64) * 64 + (s[k+2].toNat : Int) % 64) ((s[k+3].toNat : Int) % 64) (by omega) (by omega) (by omega) (by omega)
              have HF := Lib.hid (drop_cons s (k+3) f1)
              by_cases f2 : 128 ≤ s[k+3].toNat ∧ s[k+3].toNat < 192
              · have HP : Hid (piece4 (nb s[k]) (s.data.toList.drop (k + 1)) = ⟨((((s[k].toNat : Int) - 240) * 64 + (s[k+1].toNat : Int) % 64) * 64 + (s[k+2].toNat : Int) % 64) * 64 + (s[k+3].toNat : Int) % 64, 4, true⟩) := Lib.hid (by
                  rw [HQ2.out, HF.out]; exact if_pos ⟨by unfold nb; omega, by unfold nb; omega⟩)
                obtain ⟨q0, q1⟩ := f2
                rw [rounds_succ]; go_wp2_with fail
                refine (begins44 _ _ (by have := C3.out.1; omega) (by have := C3.out.2; omega)).mono ?_
                rintro e w4 ⟨rfl, hw4⟩
                obtain ⟨hc4, hf4⟩ := bcell hw4
                have hz4 : w1.heap.size < w4.heap.size := by have := hw4.size; omega
                have hy4 : w.heap.size < w4.heap.size := by omega
                have hx4 : w3.heap.size ≤ w4.heap.size := hw4.size
                have b4 : Below w.heap.size w w4 := b3.trans (hw4.mono (by omega))
                clear hw4
                go_wp2_with fail
                rw [rounds_succ]; go_wp2_with fail
                exact bodyPost_ret (v := .tuple #[.agg #[.int .i64 (((((s[k].toNat : Int) - 240) * 64 + (s[k+1].toNat : Int) % 64) * 64 + (s[k+2].toNat : Int) % 64) * 64 + (s[k+3].toNat : Int) % 64), .int .i64 k, .int .i64 4], .bool true]) (by simp [results, Tryd.results86, go_sem, hz, hc, hf, hz2, hy2, hx2, hc2, hf2, hz3, hy3, hx3, hc3, hf3, hz4, hy4, hx4, hc4, hf4]) rfl (out_ok HP.out rfl (by go_grown))
              · have HP : Hid (piece4 (nb s[k]) (s.data.toList.drop (k + 1)) = bad 3) := Lib.hid (by
                  rw [HQ2.out, HF.out]; exact if_neg (fun h => f2 (by unfold tl nb at h; omega)))
                have f4 : s[k+3].toNat < 128 ∨ 192 ≤ s[k+3].toNat := by omega
                clear f2
                rcases f4 with f4 | f4
                · rw [rounds_succ]; go_wp2_with fail
                  exact bodyPost_ret (v := .tuple #[.agg #[.int .i64 65533, .int .i64 k, .int .i64 3], .bool false]) (by simp [results, Tryd.results86, go_sem, hz, hc, hf, hz2, hy2, hx2, hc2, hf2, hz3, hy3, hx3, hc3, hf3]) rfl (out_bad HP.out rfl (by go_grown))
                · rw [rounds_succ]; go_wp2_with fail
                  exact bodyPost_ret (v := .tuple #[.agg #[.int .i64 65533, .int .i64 k, .int .i64 3], .bool false]) (by simp [results, Tryd.results86, go_sem, hz, hc, hf, hz2, hy2, hx2, hc2, hf2, hz3, hy3, hx3, hc3, hf3]) rfl (out_bad HP.out rfl (by go_grown))
            · have HP : Hid (piece4 (nb s[k]) (s.data.toList.drop (k + 1)) = bad 3) := Lib.hid (by
                rw [HQ2.out, drop_none s (k+3) f1]; rfl)
              rw [rounds_succ]; go_wp2_with fail
              exact bodyPost_ret (v := .tuple #[.agg #[.int .i64 65533, .int .i64 k, .int .i64 3], .bool false]) (by simp [results, Tryd.results86, go_sem, hz, hc, hf, hz2, hy2, hx2, hc2, hf2, hz3, hy3, hx3, hc3, hf3]) rfl (out_bad HP.out rfl (by go_grown))
          · have HP : Hid (piece4 (nb s[k]) (s.data.toList.drop (k + 1)) = bad 2) := Lib.hid (by
              rw [HQ.out, HE.out]; exact if_neg (fun h => d2 (by unfold tl nb at h; omega)))
            have d4 : s[k+2].toNat < 128 ∨ 192 ≤ s[k+2].toNat := by omega
            clear d2
            rcases d4 with d4 | d4
            · rw [rounds_succ]; go_wp2_with fail
              exact bodyPost_ret (v := .tuple #[.agg #[.int .i64 65533, .int .i64 k, .int .i64 2], .bool false]) (by simp [results, Tryd.results86, go_sem, hz, hc, hf, hz2, hy2, hx2, hc2, hf2]) rfl (out_bad HP.out rfl (by go_grown))
            · rw [rounds_succ]; go_wp2_with fail
              exact bodyPost_ret (v := .tuple #[.agg #[.int .i64 65533, .int .i64 k, .int .i64 2], .bool false]) (by simp [results, Tryd.results86, go_sem, hz, hc, hf, hz2, hy2, hx2, hc2, hf2]) rfl (out_bad HP.out rfl (by go_grown))
        · have HP : Hid (piece4 (nb s[k]) (s.data.toList.drop (k + 1)) = bad 2) := Lib.hid (by
            rw [HQ.out, drop_none s (k+2) d1]; rfl)
          rw [rounds_succ]; go_wp2_with fail
          exact bodyPost_ret (v := .tuple #[.agg #[.int .i64 65533, .int .i64 k, .int .i64 2], .bool false]) (by simp [results, Tryd.results86, go_sem, hz, hc, hf, hz2, hy2, hx2, hc2, hf2]) rfl (out_bad HP.out rfl (by go_grown))
      · have HP : Hid (piece4 (nb s[k]) (s.data.toList.drop (k + 1)) = bad 1) := Lib.hid (by
          rw [HD.out]; exact if_neg (fun h => c3 h.2))
        obtain ⟨y0, y1⟩ := c2
        have C3 := Lib.hid c3
        clear c3
        rw [rounds_succ]; go_wp2_with fail
        refine (begins42n _ _ (by omega) (by omega) C3.out).mono ?_
        rintro e w2 ⟨rfl, hw2⟩
        obtain ⟨hc2, hf2⟩ := bcell hw2
        have hz2 : w1.heap.size < w2.heap.size := by have := hw2.size; simp at this; omega
        have hy2 : w.heap.size < w2.heap.size := by omega
        have hx2 : w.heap.size < w1.heap.size + 1 := by omega
        have b2 : Below w.heap.size w w2 := b1.trans ((below_call hw2).mono (by omega))
        clear hw2
        go_wp2_with fail
        exact bodyPost_ret (v := .tuple #[.agg #[.int .i64 65533, .int .i64 k, .int .i64 1], .bool false]) (by simp [results, Tryd.results86, go_sem, hz, hc, hf, hz2, hy2, hx2, hc2, hf2]) rfl (out_bad HP.out rfl (by go_grown))
    · have HP : Hid (piece4 (nb s[k]) (s.data.toList.drop (k + 1)) = bad 1) := Lib.hid (by
        rw [HD.out]; exact if_neg (fun h => c2 (by have := h.1; unfold tl nb at this; omega)))
      have c4 : s[k+1].toNat < 128 ∨ 192 ≤ s[k+1].toNat := by omega
      clear c2
      rcases c4 with c4 | c4
      · rw [rounds_succ]; go_wp2_with fail
        exact bodyPost_ret (v := .tuple #[.agg #[.int .i64 65533, .int .i64 k, .int .i64 1], .bool false]) (by simp [results, Tryd.results86, go_sem, hz, hc, hf]) rfl (out_bad HP.out rfl (by go_grown))
      · rw [rounds_succ]; go_wp2_with fail
        exact bodyPost_ret (v := .tuple #[.agg #[.int .i64 65533, .int .i64 k, .int .i64 1], .bool false]) (by simp [results, Tryd.results86, go_sem, hz, hc, hf]) rfl (out_bad HP.out rfl (by go_grown))
  · have HP : Hid (piece4 (nb s[k]) (s.data.toList.drop (k + 1)) = bad 1) := Lib.hid (by
      rw [drop_none s (k+1) c1]; rfl)
    rw [rounds_succ]; go_wp2_with fail
    exact bodyPost_ret (v := .tuple #[.agg #[.int .i64 65533, .int .i64 k, .int .i64 1], .bool false]) (by simp [results, Tryd.results86, go_sem, hz, hc, hf]) rfl (out_bad HP.out rfl (by go_grown))

set_option maxHeartbeats 1000000 in
theorem at1 (s : ByteArray) (k : Nat) (w : World) (hs : s.size ≤ maxLen) (hk : k < s.size) (hT : Tab w) (h1 : s[k].toNat < 128) :
    Calls Tryd.prog 86 #[.string s, .int .i64 k] w (Out k ⟨nb s[k], 1, true⟩ w) := by
  unfold maxLen at hs
  have hl := leadOf_any s[k].toNat
  have e1 : leadOfV (s[k].toNat : Int) = .tuple #[.agg #[.int .u8 0, .int .u8 7, .int .i64 1, .int .i64 0], .bool true] := by
    unfold leadOfV; rw [if_pos (by omega)]
  rw [e1] at hl
  clear e1
  have HL := Lib.hid hl
  have HT := Lib.hid hT
  clear hl hT
  have x0 := xor0 s[k].toNat (by omega)
  go_enter Tryd.func86, Tryd.ntmps86
  go_wp2_with fail
  refine (HL.out _ (HT.out.alloc _) (by omega) (by omega)).mono ?_
  rintro e w1 ⟨rfl, hw1⟩
  obtain ⟨hc, hf⟩ := bcell hw1
  have hz : w.heap.size < w1.heap.size := by have := hw1.size; simp at this; omega
  have b1 : Below w.heap.size w w1 := below_call hw1
  go_wp2_with fail
  clear HL HT hw1
  refine wp_loop_rounds 2 ?_
  rw [rounds_succ]; go_wp2_with fail
  exact bodyPost_ret (v := .tuple #[.agg #[.int .i64 (s[k].toNat : Int), .int .i64 k, .int .i64 1], .bool true]) (by simp [results, Tryd.results86, go_sem, hz, hc, hf]) rfl (out_ok rfl rfl (by go_grown))

set_option maxHeartbeats 1000000 in
theorem at0 (s : ByteArray) (k : Nat) (w : World) (hs : s.size ≤ maxLen) (hk : k < s.size) (hT : Tab w) (h1 : 128 ≤ s[k].toNat ∧ s[k].toNat < 192 ∨ 248 ≤ s[k].toNat) :
    Calls Tryd.prog 86 #[.string s, .int .i64 k] w (Out k (bad 1) w) := by
  unfold maxLen at hs
  have hb : s[k].toNat < 256 := UInt8.toNat_lt _
  have hl := leadOf_any s[k].toNat
  have e1 : leadOfV (s[k].toNat : Int) = .tuple #[.agg #[.int .u8 0, .int .u8 0, .int .i64 0, .int .i64 0], .bool false] := by
    unfold leadOfV
    rw [if_neg (by omega)]
    rcases h1 with h1 | h1
    · rw [if_pos (by omega)]
    · rw [if_neg (by omega), if_neg (by omega), if_neg (by omega), if_neg (by omega)]
  rw [e1] at hl
  clear e1 h1
  have HL := Lib.hid hl
  have HT := Lib.hid hT
  clear hl hT
  go_enter Tryd.func86, Tryd.ntmps86
  go_wp2_with fail
  refine (HL.out _ (HT.out.alloc _) (by omega) (by omega)).mono ?_
  rintro e w1 ⟨rfl, hw1⟩
  obtain ⟨hc, hf⟩ := bcell hw1
  have hz : w.heap.size < w1.heap.size := by have := hw1.size; simp at this; omega
  have b1 : Below w.heap.size w w1 := below_call hw1
  go_wp2_with fail
  clear HL HT hw1
  exact bodyPost_ret (v := .tuple #[.agg #[.int .i64 65533, .int .i64 k, .int .i64 1], .bool false]) (by simp [results, Tryd.results86, go_sem, hz, hc, hf]) rfl (out_bad rfl rfl (by go_grown))

/-- pieceAt, at every text and every place within it. -/
theorem pieceAt_any (s : ByteArray) (k : Nat) (w : World) (hs : s.size ≤ maxLen) (hk : k < s.size) (hT : Tab w) :
    Calls Tryd.prog 86 #[.string s, .int .i64 k] w (Out k (pieceOf (s.data.toList.drop k)) w) := by
  rw [drop_cons s k hk, pieceOf_cons]
  have hb : s[k].toNat < 256 := UInt8.toNat_lt _
  by_cases g1 : nb s[k] < 128
  · rw [if_pos g1]; exact at1 s k w hs hk hT (by unfold nb at g1; omega)
  rw [if_neg g1]
  by_cases g2 : nb s[k] < 192
  · rw [if_pos g2]; exact at0 s k w hs hk hT (by unfold nb at g1 g2; omega)
  rw [if_neg g2]
  by_cases g3 : nb s[k] < 224
  · rw [if_pos g3]; exact at2 s k w hs hk hT (by unfold nb at g2; omega) (by unfold nb at g3; omega)
  rw [if_neg g3]
  by_cases g4 : nb s[k] < 240
  · rw [if_pos g4]; exact at3 s k w hs hk hT (by unfold nb at g3; omega) (by unfold nb at g4; omega)
  rw [if_neg g4]
  by_cases g5 : nb s[k] < 248
  · rw [if_pos g5]; exact at4 s k w hs hk hT (by unfold nb at g4; omega) (by unfold nb at g5; omega)
  rw [if_neg g5]
  exact at0 s k w hs hk hT (by unfold nb at g5; omega)
end Go.Proofs.YtmhfgncffkfelaaDoor.U

