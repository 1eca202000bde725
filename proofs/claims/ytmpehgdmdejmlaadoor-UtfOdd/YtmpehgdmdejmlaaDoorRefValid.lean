/- What the document's own Valid returns: whether each piece is its scalar's bytes, which is whether nothing is ill-formed. -/
import Derived.Test.YtmpehgdmdejmlaaDoorRefPieces
import Derived.Deep.RegionHeld3
import Derived.IntWalk
namespace Go.Proofs.YtmpehgdmdejmlaaDoor
open Go.RowKit
set_option linter.unusedVariables false
set_option linter.unusedSimpArgs false

/-- A piece is whole just if it is its scalar's bytes. -/
theorem piece_is (b : UInt8) (r : List UInt8) : (pieceOf (b :: r)).ok = true ↔ bytesOf (pieceOf (b :: r)).v = (b :: r).take (pieceOf (b :: r)).n := by
  have hw := piece_ok (b :: r)
  have hf := piece_fits b r
  have hb : ∀ (x : Int) (r' : List UInt8), isB x = true → b :: r = bytesOf x ++ r' → pieceOf (b :: r) = ⟨x, (bytesOf x).length, true⟩ := fun x r' hx e => by rw [e]; exact piece_bytes x r' hx
  have hB := piece_isB b r
  generalize pieceOf (b :: r) = p at *
  constructor
  · intro h
    obtain ⟨h1, r', hr⟩ := hw h
    have hn : p.n = (bytesOf p.v).length := congrArg Pc.n (hb p.v r' h1 hr)
    rw [hr, hn]; simp
  · intro h
    have e : b :: r = bytesOf p.v ++ (b :: r).drop p.n := by rw [h, List.take_append_drop]
    have := hb p.v _ hB e
    rw [this]

theorem step_text (L : List UInt8) (PS : List Pp) (k a : Nat) (h : PS.drop k = piecesAt a (L.drop a)) (hk : k < PS.length) :
    ∃ (v : Int) (n : Nat) (ok : Bool), PS[k] = ⟨v, a, n, ok⟩ ∧ 1 ≤ n ∧ n ≤ 4 ∧ a + n ≤ L.length ∧ (ok = true ↔ bytesOf v = (L.drop a).take n) ∧ PS.drop (k + 1) = piecesAt (a + n) (L.drop (a + n)) := by
  rw [List.drop_eq_getElem_cons hk] at h
  cases hl : L.drop a with
  | nil => rw [hl, piecesAt_nil] at h; cases h
  | cons b r =>
    have hf := piece_fits b r
    have hi := piece_is b r
    rw [hl, piecesAt_cons] at h
    injection h with h1 h2
    have hlen : (b :: r).length = L.length - a := by rw [← hl, List.length_drop]
    refine ⟨_, _, _, h1, hf.1, hf.2.1, ?_, hi, ?_⟩
    · have := hf.2.2.1
      have := hf.1
      omega
    · rw [h2, ← hl, List.drop_drop]

/-- The document's Pieces, as its readers want it. -/
theorem refPieces_tr (s : ByteArray) (w : World) (hs : s.size ≤ 1048576) : Calls Tryd.prog 14 #[.string s] w (OutTs (tris s.data.toList) w) :=
  (refPieces_any s w hs).mono fun e w' ⟨A, c, he, ho, hb⟩ => by
    have hl : (tris s.data.toList).length = (piecesAt 0 s.data.toList).length := by simp [tris]
    refine ⟨A, c, by rw [hl]; exact he, ?_, hb⟩
    rw [hl]
    unfold tris
    rw [tcells_tri]
    exact Reads.of_own ho

theorem str_ne {x y : ByteArray} (h : ¬ x.data.toList = y.data.toList) : (x == y) = false ∧ (x.toList == y.toList) = false ∧ (x.data.toList == y.data.toList) = false := by
  have h2 : (x.data.toList == y.data.toList) = false := by rw [beq_eq_false_iff_ne]; exact h
  exact ⟨by rw [beq_toListBytes, ByteArray.toList_eq, ByteArray.toList_eq]; exact h2, by rw [ByteArray.toList_eq, ByteArray.toList_eq]; exact h2, h2⟩

set_option maxRecDepth 100000 in
set_option maxHeartbeats 4000000 in
theorem refValid_any (s : ByteArray) (w : World) (hs : s.size ≤ 1048576) : Calls Tryd.prog 16 #[.string s] w fun e w' => e = .returned (.bool (validL s.data.toList)) ∧ Below w.heap.size w w' := by
  go_enter Tryd.func16, Tryd.ntmps16
  go_wp2_with fail
  refine (refPieces_tr s _ hs).mono ?_
  rintro e w1 ⟨A1, c1, rfl, hR1, b1⟩
  have HR1 := Lib.hid hR1
  have hlen : (tris s.data.toList).length = (piecesAt 0 s.data.toList).length := by simp [tris]
  have hlen2 : (piecesAt 0 s.data.toList).length ≤ 1048576 := Nat.le_trans (piecesAt_len _ 0 _ (Nat.le_refl _)) (by rw [← size_list]; exact hs)
  have HTri : Hid (tris s.data.toList = (piecesAt 0 s.data.toList).map tri) := Lib.hid rfl
  have HS0 : Hid ((piecesAt 0 s.data.toList).drop 0 = piecesAt 0 (s.data.toList.drop 0)) := Lib.hid rfl
  have HVL : Hid (validL s.data.toList = okAll (piecesAt 0 s.data.toList)) := Lib.hid rfl
  rw [hlen] at HR1
  rw [hlen]
  clear hlen hR1
  generalize hP : tris s.data.toList = P at *
  generalize hPS : piecesAt 0 s.data.toList = PS at *
  clear hP hPS
  go_wp2_with fail
  go_loopw [4] (fun i wr => ∃ (k a : Nat), k ≤ PS.length ∧ a ≤ s.size ∧ i = .int .i64 k ∧ Hid (okAll (PS.take k) = true) ∧ Hid (PS.drop k = piecesAt a (s.data.toList.drop a)) ∧ Below w1.heap.size w1 wr) (fun i _ => PS.length - (intOf i).toNat)
  case atStart => exact ⟨0, 0, Nat.zero_le _, Nat.zero_le _, rfl, Lib.hid rfl, HS0, Below.refl _ _⟩
  case round =>
    obtain ⟨k, a, hk, ha, rfl, HO, HD, hb⟩ := hrel
    have hsz := hb.size
    have bw := b1.trans (hb.mono b1.size)
    by_cases hlt : k < PS.length
    · obtain ⟨v, n, ok, hp, n1, n2, n3, hok, hd⟩ := step_text _ _ _ _ HD.out hlt
      rw [← size_list] at n3
      have hR : Reads wr w1.heap.size 3 A1 P.length (tcells P) := by
        have := HR1.out
        have e : P.length = PS.length := by rw [HTri.out]; simp
        rw [e]
        exact this.below hb
      have hkP : k < P.length := by rw [HTri.out]; simpa using hlt
      obtain ⟨b, o, rfl, hbb, q0, q1, q2⟩ := hR.tr hkP
      have hbr : b < wr.heap.size := by omega
      have hx : P[k] = ⟨v, a, n⟩ := by
        have e := HTri.out
        subst e
        rw [List.getElem_map, hp]; rfl
      rw [hx] at q0 q1 q2
      simp only [] at q0 q1 q2
      have HE : Hid (PS.take (k + 1) = PS.take k ++ [⟨v, a, n, ok⟩]) := Lib.hid (by rw [List.take_succ_eq_append_getElem hlt, hp])
      have HD' := Lib.hid hd
      have hext : (s.extract a (a + n)).data.toList = (s.data.toList.drop a).take n := extract_mid s a n
      cases ok
      · have hne := str_ne (x := strOf (bytesOf v)) (y := s.extract a (a + n)) (by rw [strOf_data, hext]; intro h; have := hok.2 h; cases this)
        obtain ⟨e1, e2, e3⟩ := hne
        have HF : Hid (validL s.data.toList = false) := Lib.hid (by
          rw [HVL.out, ← List.take_append_drop (k + 1) PS, HE.out]
          simp [okAll])
        have hby := refBytes_any v
        generalize strOf (bytesOf v) = sb at *
        have HBY := Lib.hid hby
        clear hby hok hext hp hd hx hR hkP HD HE HO
        have f2 : IntKind.i64.wrap ((a : Int) + n) = (a : Int) + n := IntWalk.i64_in _ (by omega)
        have f3 : (a : Int) + n ≤ s.size := by omega
        have f4 : (a : Int) ≤ a + n := by omega
        have f5 : ((a : Int) + n).toNat = a + n := by omega
        go_wp2_with fail
        go_region_held3 (fun w' => w'.cell? ⟨b, o + k * 3, none⟩ = some (.int .i64 v) ∧ w'.cell? ⟨b, o + k * 3 + 1, none⟩ = some (.int .i64 a) ∧ w'.cell? ⟨b, o + k * 3 + 2, none⟩ = some (.int .i64 n) ∧ Below w1.heap.size w1 w') (first | exact ⟨q0, q1, q2, Below.drew hb⟩ | exact ⟨q0, q1, q2, hb⟩ | (refine ⟨?_, ?_, ?_, ?_⟩ <;> assumption)) (first | (go_at_call 17; refine (HBY.out _).mono ?_; rintro e w9 ⟨rfl, g9⟩; have q0' : w9.cell? ⟨b, o + k * 3, none⟩ = some (.int .i64 v) := (g9.cell (p := ⟨b, o + k * 3, none⟩) hbr).trans q0; have q1' : w9.cell? ⟨b, o + k * 3 + 1, none⟩ = some (.int .i64 a) := (g9.cell (p := ⟨b, o + k * 3 + 1, none⟩) hbr).trans q1; have q2' : w9.cell? ⟨b, o + k * 3 + 2, none⟩ = some (.int .i64 n) := (g9.cell (p := ⟨b, o + k * 3 + 2, none⟩) hbr).trans q2; have hb9 : Below w1.heap.size w1 w9 := Below.trans (Below.drew hb) (g9.mono hsz)))
        all_goals
          go_wp2_with fail
          go_ret
          exact ⟨ret_bool HF.out.symm, b1.trans (hb9.mono b1.size)⟩
      · have hby : ∀ W : World, Calls Tryd.prog 17 #[.int .i64 v] W fun e w' => e = .returned (.string (s.extract a (a + n))) ∧ Below W.heap.size W w' := fun W => by
          have h := refBytes_any v W
          have e : strOf (bytesOf v) = s.extract a (a + n) := by rw [hok.1 rfl, ← hext]; exact strOf_of _
          rwa [e] at h
        have HO' : Hid (okAll (PS.take (k + 1)) = true) := Lib.hid (by
          have h := HO.out
          rw [HE.out]
          unfold okAll at h ⊢
          rw [List.all_append, h]
          rfl)
        have HBY := Lib.hid hby
        clear hby hok hext hp hd hx hR hkP HD HE HO
        have f2 : IntKind.i64.wrap ((a : Int) + n) = (a : Int) + n := IntWalk.i64_in _ (by omega)
        have f3 : (a : Int) + n ≤ s.size := by omega
        have f4 : (a : Int) ≤ a + n := by omega
        have f5 : ((a : Int) + n).toNat = a + n := by omega
        go_wp2_with fail
        go_region_held3 (fun w' => w'.cell? ⟨b, o + k * 3, none⟩ = some (.int .i64 v) ∧ w'.cell? ⟨b, o + k * 3 + 1, none⟩ = some (.int .i64 a) ∧ w'.cell? ⟨b, o + k * 3 + 2, none⟩ = some (.int .i64 n) ∧ Below w1.heap.size w1 w') (first | exact ⟨q0, q1, q2, Below.drew hb⟩ | exact ⟨q0, q1, q2, hb⟩ | (refine ⟨?_, ?_, ?_, ?_⟩ <;> assumption)) (first | (go_at_call 17; refine (HBY.out _).mono ?_; rintro e w9 ⟨rfl, g9⟩; have q0' : w9.cell? ⟨b, o + k * 3, none⟩ = some (.int .i64 v) := (g9.cell (p := ⟨b, o + k * 3, none⟩) hbr).trans q0; have q1' : w9.cell? ⟨b, o + k * 3 + 1, none⟩ = some (.int .i64 a) := (g9.cell (p := ⟨b, o + k * 3 + 1, none⟩) hbr).trans q1; have q2' : w9.cell? ⟨b, o + k * 3 + 2, none⟩ = some (.int .i64 n) := (g9.cell (p := ⟨b, o + k * 3 + 2, none⟩) hbr).trans q2; have hb9 : Below w1.heap.size w1 w9 := Below.trans (Below.drew hb) (g9.mono hsz)))
        all_goals
          go_wp2_with fail
          go_roundw
          case rel => exact ⟨k + 1, a + n, by omega, n3, by go_num, HO', HD', hb9⟩
          case measure => simp [intOf]; omega
    · have HF : Hid (validL s.data.toList = true) := Lib.hid (by
        have h := HO.out
        rw [List.take_of_length_le (by omega)] at h
        rw [HVL.out, h])
      go_wp2_with fail
      go_ret
      exact ⟨ret_bool HF.out.symm, bw⟩
end Go.Proofs.YtmpehgdmdejmlaaDoor
