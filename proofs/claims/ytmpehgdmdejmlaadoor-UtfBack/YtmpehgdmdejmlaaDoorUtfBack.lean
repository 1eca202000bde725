/- The law UtfBack returns true at every text and every row of integers: the pieces of scalars' text are these, each of its own bytes; a text that is well formed is its pieces' text; pieces follow one another, none longer than four, all as long as the text. Conditions: the table of lead bytes holds what the program's text lays (the card ties it); nothing that was there before the call is changed. -/
import Derived.Test.YtmpehgdmdejmlaaDoorLaid
namespace Go.Proofs.YtmpehgdmdejmlaaDoor.utfBack
open Go.ChangeShapes Go.WideShapes Go.ChangeAt Go.RowKit
open Go.ChangeMaps (open_string shut_string)
set_option linter.unusedVariables false
set_option linter.unusedSimpArgs false

theorem size_list (s : ByteArray) : s.size = s.data.toList.length := (Array.length_toList).symm

/-- The pieces' scalars. -/
def vals (l : List Pp) : List Int := l.map (·.v)

theorem vals_cons (v : Int) (a n : Nat) (ok : Bool) (l : List Pp) : vals (⟨v, a, n, ok⟩ :: l) = v :: vals l := rfl

theorem step_drop (L : List UInt8) (PS : List Pp) (k a : Nat) (h : PS.drop k = piecesAt a (L.drop a)) (hk : k < PS.length) :
    ∃ (v : Int) (n : Nat) (ok : Bool), PS[k] = ⟨v, a, n, ok⟩ ∧ 1 ≤ n ∧ n ≤ 4 ∧ a + n ≤ L.length ∧ isB v = true ∧ PS.drop (k + 1) = piecesAt (a + n) (L.drop (a + n)) := by
  rw [List.drop_eq_getElem_cons hk] at h
  cases hl : L.drop a with
  | nil => rw [hl, piecesAt_nil] at h; cases h
  | cons b r =>
    have hf := piece_fits b r
    have hB := piece_isB b r
    rw [hl, piecesAt_cons] at h
    injection h with h1 h2
    have hlen : (b :: r).length = L.length - a := by rw [← hl, List.length_drop]
    refine ⟨_, _, _, h1, hf.1, hf.2.1, ?_, hB, ?_⟩
    · have := hf.2.2.1
      have := hf.1
      omega
    · rw [h2, ← hl, List.drop_drop]

theorem end_drop (L : List UInt8) (PS : List Pp) (k a : Nat) (h : PS.drop k = piecesAt a (L.drop a)) (hk : ¬ k < PS.length) (ha : a ≤ L.length) : a = L.length := by
  rw [List.drop_eq_nil_of_le (by omega)] at h
  cases hl : L.drop a with
  | nil =>
    have := congrArg List.length hl
    rw [List.length_drop] at this
    simp at this
    omega
  | cons b r => rw [hl, piecesAt_cons] at h; cases h

theorem vals_isB (n : Nat) : ∀ (k : Nat) (L : List UInt8), L.length ≤ n → allB (vals (piecesAt k L)) = true := by
  induction n with
  | zero =>
    intro k L h
    obtain rfl : L = [] := List.eq_nil_of_length_eq_zero (by omega)
    rfl
  | succ n ih =>
    intro k L h
    cases L with
    | nil => rfl
    | cons b r =>
      have hf := piece_fits b r
      have hB := piece_isB b r
      have hi := ih (k + (pieceOf (b :: r)).n) ((b :: r).drop (pieceOf (b :: r)).n) (by rw [List.length_drop]; have := hf.1; rw [List.length_cons] at h ⊢; omega)
      rw [piecesAt_cons, vals_cons, allB_cons, hi, hB]; rfl

theorem vals_scalars (vs : List Int) : ∀ k, vals (scalarsAt k vs) = vs := by
  induction vs with
  | nil => intro k; rfl
  | cons v vs ih => intro k; show v :: vals _ = _; rw [ih]

theorem piecesAt_textL (vs : List Int) (h : allB vs = true) : piecesAt 0 (textL vs) = scalarsAt 0 vs := by
  have := piecesAt_text vs 0 [] h
  rwa [List.append_nil, piecesAt_nil, List.append_nil] at this

/-- A text is its pieces' text just if it is well formed. -/
theorem text_back (L : List UInt8) : validL L = true ↔ textL (vals (piecesAt 0 L)) = L := by
  constructor
  · intro h
    obtain ⟨vs, hv, rfl⟩ := (valid_iff L).1 h
    rw [piecesAt_textL vs hv, vals_scalars]
  · intro h
    exact (valid_iff L).2 ⟨_, vals_isB _ 0 L (Nat.le_refl _), h.symm⟩

theorem scalars_len (vs : List Int) : ∀ k, (scalarsAt k vs).length = vs.length := by
  induction vs with
  | nil => intro k; rfl
  | cons v vs ih => intro k; show (scalarsAt _ vs).length + 1 = _; rw [ih]; rfl
theorem scalars_at (vs : List Int) : ∀ (k0 k : Nat) (h : k < vs.length), ∃ a, (scalarsAt k0 vs)[k]? = some ⟨vs[k], a, (bytesOf vs[k]).length, true⟩ := by
  induction vs with
  | nil => intro k0 k h; simp at h
  | cons v vs ih =>
    intro k0 k h
    match k, h with
    | 0, _ => exact ⟨k0, rfl⟩
    | k + 1, h => exact ih _ k (by simpa using h)
theorem tris_text (vs : List Int) (h : allB vs = true) : (tris (textL vs)).length = vs.length ∧ ∀ (k : Nat) (hk : k < vs.length) (hk' : k < (tris (textL vs)).length), ∃ a, (tris (textL vs))[k] = ⟨vs[k], a, (bytesOf vs[k]).length⟩ := by
  have e : tris (textL vs) = (scalarsAt 0 vs).map tri := by unfold tris; rw [piecesAt_textL vs h]
  refine ⟨by rw [e, List.length_map, scalars_len], fun k hk hk' => ?_⟩
  obtain ⟨a, ha⟩ := scalars_at vs 0 k hk
  refine ⟨a, ?_⟩
  have h2 : (tris (textL vs))[k]? = some (tri ⟨vs[k], a, (bytesOf vs[k]).length, true⟩) := by rw [e, List.getElem?_map, ha]; rfl
  rw [List.getElem?_eq_getElem hk'] at h2
  exact Option.some.inj h2
theorem valid_textL (vs : List Int) (h : allB vs = true) : validL (textL vs) = true := (valid_iff _).2 ⟨vs, h, rfl⟩

/-- Text, at a slice whose length is named. -/
theorem text_n (l : List Int) (n : Nat) (hl : l.length = n) (A : Option Addr) (c : Nat) (w : World) (hR : Reads w w.heap.size 1 A n (icells l)) (hn : n ≤ 100000) (hT : Tab w) (hall : allB l = true) :
    Calls Tryd.prog 9 #[.slice A n c] w fun e w' => e = .returned (.tuple #[.string (strOf (textL l)), .bool true]) ∧ Below w.heap.size w w' := by
  subst hl
  exact (text_any l A c w hR hn hT).mono fun e w' h => by
    unfold OutT at h
    rwa [hall, if_pos rfl] at h
theorem text_no (l : List Int) (n : Nat) (hl : l.length = n) (A : Option Addr) (c : Nat) (w : World) (hR : Reads w w.heap.size 1 A n (icells l)) (hn : n ≤ 100000) (hT : Tab w) (hall : allB l = false) :
    Calls Tryd.prog 9 #[.slice A n c] w fun e w' => e = .returned (.tuple #[.string ⟨#[]⟩, .bool false]) ∧ Below w.heap.size w w' := by
  subst hl
  exact (text_any l A c w hR hn hT).mono fun e w' h => by
    unfold OutT at h
    rwa [hall, if_neg (by decide)] at h

theorem reads_int {w : World} {B n : Nat} {A : Option Addr} {l : List Int} (h : Reads w B 1 A n (icells l)) {k : Nat} (hk : k < l.length) : ∃ b o, A = some ⟨b, o, none⟩ ∧ b < B ∧ w.cell? ⟨b, o + k, none⟩ = some (.int .i64 l[k]) := by
  have h1 := h.1
  rw [icells_len] at h1
  obtain ⟨b, o, rfl, hb, hc⟩ := h.2 (by omega)
  exact ⟨b, o, rfl, hb, hc k _ (by unfold icells; rw [List.getElem?_map, List.getElem?_eq_getElem hk]; rfl)⟩

theorem block_of_cell {w : World} {b o : Nat} {u : Value} (h : w.cell? ⟨b, o, none⟩ = some u) : b < w.heap.size := by
  rcases Nat.lt_or_ge b w.heap.size with hlt | hge
  · exact hlt
  · unfold World.cell? at h
    rw [Array.getElem?_eq_none hge] at h
    simp at h

/-- A slice that came in, as a row that reads. -/
theorem reads_row {w : World} {a : Option Addr} {len cap : Nat} {zs : List Int} (h : IsRow .i64 w a len cap zs) : Reads w w.heap.size 1 a len (icells (zs.take len)) ∧ (zs.take len).length = len := by
  rcases h with ⟨rfl, rfl, rfl, rfl⟩ | ⟨x, rfl, hl, hm, hz, hcell, hw⟩
  · exact ⟨⟨rfl, fun h => absurd h (by omega)⟩, rfl⟩
  · have hlen : (zs.take len).length = len := by rw [List.length_take]; omega
    refine ⟨⟨by rw [icells_len, hlen]; omega, fun hn => ?_⟩, hlen⟩
    obtain ⟨b, off, rfl, hc⟩ := ints_at hcell (by omega)
    refine ⟨b, off, rfl, block_of_cell (hc 0 (by omega)), fun j u hj => ?_⟩
    have hj' : j < len := by
      have := (List.getElem?_eq_some_iff.1 hj).1
      rwa [icells_len, hlen] at this
    rw [hc j (by omega)]
    unfold icells at hj
    rw [List.getElem?_map, List.getElem?_take, if_pos hj', List.getElem?_eq_getElem (by omega)] at hj
    rw [← Option.some.inj hj]
    simp [List.getD, List.getElem?_eq_getElem (show j < zs.length by omega)]

set_option maxRecDepth 100000 in
set_option maxHeartbeats 1000000 in
theorem walk_great (s : ByteArray) (A : Option Addr) (n c : Nat) (w : World) (hT : Tab w) (h : 2000 < s.size) :
    Calls Tryd.prog 4 #[.string s, .slice A n c] w fun e w' => e = .returned (.bool true) ∧ Below w.heap.size w w' := by
  have HT := Lib.hid hT
  clear hT
  go_enter Tryd.func4, Tryd.ntmps4
  go_wp2_with fail
  refine (wakes_any _ HT.out).mono ?_
  rintro e w1 ⟨rfl, b1⟩
  go_wp2_with fail
  go_ret
  exact ⟨rfl, b1⟩
set_option maxRecDepth 100000 in
set_option maxHeartbeats 1000000 in
theorem walk_great2 (s : ByteArray) (A : Option Addr) (n c : Nat) (w : World) (hT : Tab w) (h : s.size ≤ 2000) (h2 : 300 < n) :
    Calls Tryd.prog 4 #[.string s, .slice A n c] w fun e w' => e = .returned (.bool true) ∧ Below w.heap.size w w' := by
  have HT := Lib.hid hT
  clear hT
  go_enter Tryd.func4, Tryd.ntmps4
  go_wp2_with fail
  refine (wakes_any _ HT.out).mono ?_
  rintro e w1 ⟨rfl, b1⟩
  go_wp2_with fail
  go_ret
  exact ⟨rfl, b1⟩

/-- What the law's first half asks of the text's own text: it is the text just if it is well formed. -/
def Half (s s' : ByteArray) (ok : Bool) : Prop := (ok = true ∧ s' = s) ∨ (ok = false ∧ (s' == s) = false ∧ (s'.toList == s.toList) = false ∧ (s'.data.toList == s.data.toList) = false)
theorem half_of (s : ByteArray) : Half s (strOf (textL (vals (piecesAt 0 s.data.toList)))) (validL s.data.toList) := by
  cases hv : validL s.data.toList
  · right
    have h1 : ¬ (strOf (textL (vals (piecesAt 0 s.data.toList)))).data.toList = s.data.toList := by
      rw [strOf_data]
      intro h1
      rw [(text_back _).2 h1] at hv
      cases hv
    generalize strOf (textL (vals (piecesAt 0 s.data.toList))) = s' at *
    have h2 : (s'.data.toList == s.data.toList) = false := by rw [beq_eq_false_iff_ne]; exact h1
    exact ⟨rfl, by rw [beq_toListBytes, ByteArray.toList_eq, ByteArray.toList_eq]; exact h2, by rw [ByteArray.toList_eq, ByteArray.toList_eq]; exact h2, h2⟩
  · left
    refine ⟨rfl, ?_⟩
    rw [(text_back _).1 hv]
    exact strOf_of s

set_option maxRecDepth 100000 in
set_option maxHeartbeats 4000000 in
theorem walk_small (s : ByteArray) (A : Option Addr) (n c : Nat) (l : List Int) (hln : l.length = n) (w : World) (hT : Tab w) (h : s.size ≤ 2000) (h2 : n ≤ 300) (hRl : Reads w w.heap.size 1 A n (icells l)) :
    Calls Tryd.prog 4 #[.string s, .slice A n c] w fun e w' => e = .returned (.bool true) ∧ Below w.heap.size w w' := by
  obtain ⟨i0, hi0, hz0, hz1, hz2⟩ := info_parts info3
  have HT := Lib.hid hT
  have HRl := Lib.hid hRl
  have HLN := Lib.hid hln
  clear hT hRl hln
  go_enter Tryd.func4, Tryd.ntmps4
  go_wp2_with fail
  refine (pieces_tr s _ (by omega) HT.out).mono ?_
  rintro e w1 ⟨A1, c1, rfl, hR1, b1⟩
  have HT1 := Lib.hid (HT.out.below b1)
  have HR1 := Lib.hid hR1
  have HRl1 := Lib.hid ((HRl.out.below b1).more b1.size)
  have hlen : (tris s.data.toList).length = (piecesAt 0 s.data.toList).length := by simp [tris]
  have hlen2 : (piecesAt 0 s.data.toList).length ≤ 2000 := Nat.le_trans (piecesAt_len _ 0 _ (Nat.le_refl _)) (by rw [← size_list]; exact h)
  have HTri : Hid (tris s.data.toList = (piecesAt 0 s.data.toList).map tri) := Lib.hid rfl
  have HS0 : Hid ((piecesAt 0 s.data.toList).drop 0 = piecesAt 0 (s.data.toList.drop 0)) := Lib.hid rfl
  have HHalf := Lib.hid (half_of s)
  have HVI := Lib.hid (vals_isB _ 0 s.data.toList (Nat.le_refl _))
  rw [hlen] at HR1
  rw [hlen]
  clear hlen hR1 HT HRl
  generalize hP : tris s.data.toList = P at *
  generalize hPS : piecesAt 0 s.data.toList = PS at *
  clear hP hPS
  go_wp2_with fail
  go_loopw [5, 6, 8] (fun x5 x6 x8 wr => ∃ (k a : Nat) (A2 : Option Addr) (c2 : Nat), k ≤ PS.length ∧ a ≤ s.size ∧ x5 = .int .i64 a ∧ x6 = .slice A2 k c2 ∧ x8 = .int .i64 k ∧ wr.ownsRow w1.heap.size 3 1 (.slice A2 k c2) k (icells (vals (PS.take k))) ∧ Hid (PS.drop k = piecesAt a (s.data.toList.drop a)) ∧ Below w1.heap.size w1 wr) (fun _ _ x8 _ => PS.length - (intOf x8).toNat)
  case atStart => exact ⟨0, 0, none, 0, Nat.zero_le _, Nat.zero_le _, rfl, rfl, rfl, World.ownsRow_nil _ _ _ _, HS0, Below.refl _ _⟩
  case round =>
    obtain ⟨k, a, A2, c2, hk, ha, rfl, rfl, rfl, hown, HD, hb⟩ := hrel
    have hsz := hb.size
    by_cases hlt : k < PS.length
    · obtain ⟨v, m, ok, hp, m1, m2, m3, hB, hd⟩ := step_drop _ _ _ _ HD.out hlt
      rw [← size_list] at m3
      have hR : Reads wr w1.heap.size 3 A1 P.length (tcells P) := by
        have := HR1.out
        have e : P.length = PS.length := by rw [HTri.out]; simp
        rw [e]
        exact this.below hb
      have hkP : k < P.length := by rw [HTri.out]; simpa using hlt
      obtain ⟨b, o, rfl, hbb, q0, q1, q2⟩ := hR.tr hkP
      have hbr : b < wr.heap.size := by omega
      have hx : P[k] = ⟨v, a, m⟩ := by
        have e := HTri.out
        subst e
        rw [List.getElem_map, hp]; rfl
      rw [hx] at q0 q1 q2
      have HE : Hid (vals (PS.take (k + 1)) = vals (PS.take k) ++ [v]) := Lib.hid (by rw [List.take_succ_eq_append_getElem hlt, hp]; simp [vals])
      have HD' := Lib.hid hd
      have a1 : ((a : Int) != (a : Int)) = false := by simp
      clear hx hp hd hR hkP HD hB
      go_wp2_with (at_builtin; refine wpList_append_lies _ rfl _ _ 22 rfl w1.heap.size 3 i0 _ 1 8 Tryd.underlying22 hi0 hz0 hz1 hz2 rfl (by decide) _ _ _ rfl (hown.alloc _) ⟨wr.heap.size, 0, none⟩ 1 1 [.int .i64 v] rfl rfl ?c1 ?c2 (by omega) ?c3 ?c4 ?c5 _ rfl ?_)
      case c2 => rfl
      case c3 => unfold maxLen; omega
      case c4 => omega
      case c5 => omega
      · intro g cap w2 hown2 hgrow hat hlt2
        have b2 : Below w1.heap.size w1 w2 := below_grown (hb.alloc (by omega) _) (by simp; omega) (hown.alloc _) hgrow
        have HO : Hid (w2.ownsRow w1.heap.size 3 1 (.slice (some ⟨g, 0, none⟩) (k + 1) cap) (k + 1) (icells (vals (PS.take (k + 1))))) := Lib.hid (by
          rw [HE.out]
          have e : icells (vals (PS.take k) ++ [v]) = icells (vals (PS.take k)) ++ [.int .i64 v] := by simp [icells]
          rw [e]; exact hown2)
        clear hown2 hgrow hat hown HE hb
        go_wp2_with fail
        go_roundw
        case rel => exact ⟨k + 1, a + m, some ⟨g, 0, none⟩, cap, by omega, m3, by go_num, rfl, by go_num, HO.out, HD', b2⟩
        case measure => simp [intOf]; omega
    · have hke : k = PS.length := by omega
      have hae : a = s.size := by
        rw [size_list]; exact end_drop _ _ _ _ HD.out hlt (by rw [← size_list]; exact ha)
      subst hke
      subst hae
      have HVL : Hid ((vals PS).length = PS.length) := Lib.hid (by simp [vals])
      have hown' : wr.ownsRow w1.heap.size 3 1 (.slice A2 PS.length c2) PS.length (icells (vals PS)) := by
        rw [List.take_length] at hown; exact hown
      have HRt := Lib.hid (Reads.of_own hown')
      have HTr := Lib.hid (HT1.out.below hb)
      have bw := b1.trans (hb.mono b1.size)
      have HRl2 := Lib.hid ((HRl1.out.below hb).more hsz)
      have ha1 : ((s.size : Int) != (s.size : Int)) = false := by simp
      clear hown hown' HD hb HR1 HRl1 HT1 HS0
      go_wp2_with fail
      refine (text_n (vals PS) PS.length HVL.out A2 c2 _ HRt.out (by omega) HTr.out HVI.out).mono ?_
      rintro e w3 ⟨rfl, g3⟩
      have HT3 := Lib.hid (HTr.out.below g3)
      have b3 := bw.trans (g3.mono bw.size)
      have HRl3 := Lib.hid ((HRl2.out.below g3).more g3.size)
      have HVA := Lib.hid (fun W hW => valid_any s W (by unfold maxLen; omega) hW)
      clear g3 HTr HRt HRl2 bw HVL HVI HTri
      generalize strOf (textL (vals PS)) = s' at *
      generalize validL s.data.toList = vd at *
      rcases HHalf.out with ⟨rfl, rfl⟩ | ⟨rfl, hne, hne2, hne3⟩
      all_goals
        go_wp2_with fail
        refine (HVA.out _ HT3.out).mono ?_
        rintro e w4 ⟨rfl, g4⟩
        have HT4 := Lib.hid (HT3.out.below g4)
        have b4 := b3.trans (g4.mono b3.size)
        have HRl4 := Lib.hid ((HRl3.out.below g4).more g4.size)
        clear g4 HT3 b3 HRl3 HVA HHalf
        cases hall : allB l
        · have HALL := Lib.hid hall
          clear hall
          go_wp2_with fail
          refine (text_no l n HLN.out A c _ HRl4.out (by omega) HT4.out HALL.out).mono ?_
          rintro e w5 ⟨rfl, g5⟩
          have HT5 := Lib.hid (HT4.out.below g5)
          have b5 := b4.trans (g5.mono b4.size)
          clear g5 b4 HT4
          go_wp2_with fail
          refine (wakes_any _ HT5.out).mono ?_
          rintro e w6 ⟨rfl, g6⟩
          have b6 := b5.trans (g6.mono b5.size)
          go_wp2_with fail
          go_ret
          exact ⟨rfl, b6⟩
        · have HALL := Lib.hid hall
          clear hall
          go_wp2_with fail
          refine (text_n l n HLN.out A c _ HRl4.out (by omega) HT4.out HALL.out).mono ?_
          rintro e w5 ⟨rfl, g5⟩
          have HT5 := Lib.hid (HT4.out.below g5)
          have b5 := b4.trans (g5.mono b4.size)
          have HRl5 := Lib.hid ((HRl4.out.below g5).more g5.size)
          have hul : (strOf (textL l)).size ≤ 1200 := by rw [strOf_size]; have := textL_len l; have := HLN.out; omega
          have HTL := Lib.hid (tris_text l HALL.out)
          have HVL := Lib.hid (valid_textL l HALL.out)
          have HUD := Lib.hid (strOf_data (textL l))
          have HPc : Hid (∀ W : World, Tab W → Calls Tryd.prog 13 #[.string (strOf (textL l))] W (OutTs (tris (textL l)) W)) := Lib.hid (fun W hW => by
            have h := pieces_tr (strOf (textL l)) W (by omega) hW
            rwa [strOf_data] at h)
          have HVd : Hid (∀ W : World, Tab W → Calls Tryd.prog 15 #[.string (strOf (textL l))] W fun e w' => e = .returned (.bool true) ∧ Below W.heap.size W w') := Lib.hid (fun W hW => by
            have h := valid_any (strOf (textL l)) W (by unfold maxLen; omega) hW
            rwa [strOf_data, valid_textL l HALL.out] at h)
          clear g5 b4 HT4 HRl4 HVL HUD
          generalize strOf (textL l) = u at *
          generalize tris (textL l) = Q at *
          have hQn : Q.length = n := by rw [HTL.out.1]; exact HLN.out
          go_wp2_with fail
          refine (HPc.out _ HT5.out).mono ?_
          rintro e w6 ⟨A6, c6, rfl, hR6, g6⟩
          rw [hQn] at hR6 ⊢
          have HT6 := Lib.hid (HT5.out.below g6)
          have b6 := b5.trans (g6.mono b5.size)
          have HRl6 := Lib.hid ((HRl5.out.below g6).more g6.size)
          have HR6 := Lib.hid hR6
          have HQn := Lib.hid hQn
          have hnn : ((n : Int) != (n : Int)) = false := by simp
          clear g6 b5 HT5 HRl5 hR6 hQn HPc
          go_wp2_with fail
          refine (HVd.out _ HT6.out).mono ?_
          rintro e w7 ⟨rfl, g7⟩
          have HT7 := Lib.hid (HT6.out.below g7)
          have b7 := b6.trans (g7.mono b6.size)
          have HRl7 := Lib.hid ((HRl6.out.below g7).more g7.size)
          have HR7 := Lib.hid ((HR6.out.below g7).more g7.size)
          clear g7 b6 HT6 HRl6 HR6 HVd
          go_wp2_with fail
          go_loopw [14] (fun i wr => ∃ k : Nat, k ≤ n ∧ i = .int .i64 k ∧ Below w7.heap.size w7 wr) (fun i _ => n - (intOf i).toNat)
          case atStart => exact ⟨0, Nat.zero_le _, rfl, Below.refl _ _⟩
          case round =>
            obtain ⟨k, hk, rfl, hb⟩ := hrel
            have hsz := hb.size
            have HTr := Lib.hid (HT7.out.below hb)
            by_cases hlt : k < n
            · have kl : k < l.length := by rw [HLN.out]; exact hlt
              have kQ : k < Q.length := by rw [HQn.out]; exact hlt
              obtain ⟨bl, ol, rfl, hbl, ql⟩ := reads_int (HRl7.out.below hb) kl
              obtain ⟨bq, oq, rfl, hbq, q0, q1, q2⟩ := ((show Reads w7 w7.heap.size 3 A6 Q.length (tcells Q) by rw [HQn.out]; exact HR7.out).below hb).tr kQ
              obtain ⟨a0, hq⟩ := HTL.out.2 k kl kQ
              have hBx : isB l[k] = true := by
                have := HALL.out
                unfold allB at this
                exact List.all_eq_true.1 this _ (List.getElem_mem kl)
              have hby : ∀ W : World, Tab W → Calls Tryd.prog 11 #[.int .i64 l[k]] W fun e w' => e = .returned (.tuple #[.string (strOf (bytesOf l[k])), .bool true]) ∧ Below W.heap.size W w' := fun W hW => by
                have h := bytes_any l[k] W hW
                rwa [hBx] at h
              have HBY := Lib.hid hby
              have hsb : ((bytesOf l[k]).length : Int) = ((strOf (bytesOf l[k])).size : Int) := by rw [strOf_size]
              rw [hq] at q0 q1 q2
              simp only [] at q0 q1 q2
              rw [hsb] at q2
              clear hby hsb hq hBx
              generalize strOf (bytesOf l[k]) = sb at *
              generalize l[k] = x at *
              clear q1
              go_wp2_with fail
              refine (HBY.out _ HTr.out).mono ?_
              rintro e w8 ⟨rfl, g8⟩
              obtain ⟨hc8, hf8⟩ := bcell g8
              have q0' : w8.cell? ⟨bq, oq + k * 3, none⟩ = some (.int .i64 x) := (hc8 _ _ (by omega)).trans q0
              have q2' : w8.cell? ⟨bq, oq + k * 3 + 2, none⟩ = some (.int .i64 sb.size) := (hc8 _ _ (by omega)).trans q2
              have ql' : w8.cell? ⟨bl, ol + k, none⟩ = some (.int .i64 x) := (hc8 _ _ (by omega)).trans ql
              have b8 := hb.trans (g8.mono hsz)
              have e1 : (x != x) = false := by simp
              have e2 : ((sb.size : Int) != (sb.size : Int)) = false := by simp
              clear hc8 hf8 g8 q0 q2 ql HBY
              go_wp2_with fail
              go_quiet (fail)
              go_wp2_with fail
              go_roundw
              case rel => exact ⟨k + 1, by omega, by go_num, below_drewN b8 _⟩
              case measure => simp [intOf]; omega
            · go_wp2_with fail
              refine (wakes_any _ HTr.out).mono ?_
              rintro e w9 ⟨rfl, g9⟩
              have b9 := b7.trans ((hb.trans (g9.mono hsz)).mono b7.size)
              go_wp2_with fail
              go_ret
              exact ⟨rfl, b9⟩

theorem walk (s : ByteArray) (A : Option Addr) (len cap : Nat) (zs : List Int) (w : World) (hT : Tab w) (_ : s.size ≤ maxLen) (hz : IsRow .i64 w A len cap zs) :
    Calls Tryd.prog 4 #[.string s, .slice A len cap] w fun e w' => e = .returned (.bool true) ∧ Below w.heap.size w w' := by
  by_cases h1 : s.size ≤ 2000
  · by_cases h2 : len ≤ 300
    · obtain ⟨hR, hl⟩ := reads_row hz
      exact walk_small s A len cap (zs.take len) hl w hT h1 h2 hR
    · exact walk_great2 s A len cap w hT h1 (by omega)
  · exact walk_great s A len cap w hT (by omega)

/-! From the walk to the row and its card. -/
theorem contract (H : Type) (enc : TypeId × Value → H) (W : World) (base : Nat) (args : Array Value) (ds gs : List (DataW H)) (before : List MemPlace)
    (hval0 : ∀ (j : Nat) t v, Tryd.f4.params[j]? = some t → args[j]? = some v → Value.okWide Tryd.prog W .any base t v)
    (hW : DataW.Whole enc Tryd.prog Tryd.f4.params.toList Rows.utfBackSpec.vars false W args.toList ds gs before) (hL : laidMetH Tryd.prog Rows.utfBackRow.laid W) :
    Calls Tryd.prog 4 args W fun e W' => ∃ v, e = .returned v ∧ Rows.utfBackSpec.post enc Tryd.prog Tryd.f4 false true false false W args v W' := by
  have hval : ∀ (j : Nat) t v, Tryd.f4.params[j]? = some t → args[j]? = some v → Value.okWide Tryd.prog W .any base t v := hval0
  have hW' := hW
  obtain ⟨p, q, hA0, hV, rfl, hfz, hnd⟩ := hW
  have hA : DataW.TrodAll enc Tryd.prog W 0 (fun _ => true) true Tryd.f4.params.toList args.toList ds p := hA0
  rw [Tryd.params4] at hA hval
  obtain ⟨v0, vs0, d0, ds0, p0, q0, hargs, rfl, rfl, h0, r0⟩ := trodAll_cons hA
  obtain ⟨v1, vs1, d1, ds1, p1, q1, rfl, rfl, rfl, h1, r1⟩ := trodAll_cons r0
  obtain ⟨rfl, rfl, rfl⟩ := trodAll_nil r1
  obtain rfl : args = #[v0, v1] := by cases args; simp_all
  obtain ⟨rfl, rfl⟩ := trodVars_none hV
  obtain ⟨a0, rfl, rfl, rfl, w0⟩ := open_string Tryd.underlying9 (hval 0 9 v0 rfl rfl) h0
  obtain ⟨a1, len1, cap1, rfl⟩ := okWide_slice Tryd.underlying22 (hval 1 22 v1 rfl rfl)
  have k1 := h1
  have lt1 : ∀ x ∈ p1, x.block < W.heap.size := by obtain ⟨m, hm⟩ := k1; exact DataW.trod_lt m _ _ _ hm
  obtain ⟨z1, w1⟩ : ∃ zs, IsRow .i64 W a1 len1 cap1 zs := by
    obtain ⟨fuel, hf⟩ := h1
    rcases open_ints Tryd.underlying22 Tryd.underlying3 (by kernel_rfl) hf with ⟨hcs, _⟩ | ⟨x, l, c, zs, hcs, _, hl, hm, hz, _, hcell, hwz⟩
    · simp [Value.cells] at hcs
      obtain ⟨rfl, rfl, rfl⟩ := hcs
      exact ⟨[], .inl ⟨rfl, rfl, rfl, rfl⟩⟩
    · simp [Value.cells] at hcs
      obtain ⟨rfl, rfl, rfl⟩ := hcs
      exact ⟨zs, .inr ⟨_, rfl, hl, hm, by simpa using hz, hcell, hwz⟩⟩
  clear hA0 hval0
  refine (walk a0 a1 len1 cap1 z1 W (tab_of_laid hL) w0 w1).mono fun e W' ⟨he, bel⟩ => ?_
  subst he
  exact ⟨_, rfl, _, _, _, [], _, [], hW', trodAll_mk1 (shut_bool Tryd.underlying4 _), (trodAll_cons_mk (shut_string Tryd.underlying9 w0) (trodAll_cons_mk (Below.trod laidOut (by kernel_rfl) (of_decide_eq_true (by kernel_rfl)) k1 bel lt1) trodAll_mk0)), rfl, bel.frame _, fun h => by cases h⟩

theorem laid_met (os : Os) : laidMet Tryd.prog Rows.utfBackRow.laid ((laidWorld os).forCall (fun _ _ => 0) ⟨#[], #[.string ByteArray.empty, .slice none 0 0], []⟩).memory :=
  laidMet_of_run' 8 (by kernel_rfl) (by kernel_rfl)
theorem reads (os : Os) {H : Type} (enc : TypeId × Value → H) : ∃ places, DataW.whole enc Tryd.prog ((laidWorld os).forCall (fun _ _ => 0) ⟨#[], #[.string ByteArray.empty, .slice none 0 0], []⟩).memory Tryd.f4.params.toList Rows.utfBackSpec.vars false (#[.string ByteArray.empty, .slice none 0 0] : Array Value).toList 8 = some ([.lit (.string []), .nil], [], places) :=
  ⟨[], by kernel_rfl⟩

set_option maxRecDepth 100000 in
theorem lifted (os : Os) (started : os.Started) (H : Type) (enc : TypeId × Value → H) (F : Stop.Interp) :
    ReturnsInHanded {} Tryd.checked os 4 .any ((OpenSpec.ofChange Rows.utfBackSpec).preRow enc Tryd.prog Tryd.f4 Rows.utfBackRow.domain false Rows.utfBackRow.laid) (((OpenSpec.ofChange Rows.utfBackSpec).at F).post enc Tryd.prog Tryd.f4 false true false false) := by
  obtain ⟨places, hx⟩ := reads os enc
  refine returnsInHanded_of_row (C := Tryd.checked) (s := OpenSpec.ofChange Rows.utfBackSpec) own started (by kernel_rfl) Tryd.func4
    (witness_row_at (enc := enc) (C := Tryd.checked) false (laidWorld os) #[.string ByteArray.empty, .slice none 0 0] rfl (by kernel_rfl) (by kernel_rfl) (by kernel_rfl)
      (OpenSpec.preRow_of_cond 8 hx (by kernel_rfl) (fun k hk => by cases hk) (by kernel_rfl) (laid_met os))) ?_
  intro W base args ds gs before hval hW _ _ _ hL _ _
  exact contract H enc W base args ds gs before hval hW hL

theorem said : Rows.UtfBackSaid :=
  OpenClaim.holds_of_cond 4 Tryd.f4 rfl rfl rfl rfl rfl rfl rfl ⟨rfl, rfl, rfl, rfl, rfl⟩ rfl rfl rfl rfl rfl (by kernel_rfl) Tryd.func4 (by kernel_rfl)
    (of_decide_eq_true (by kernel_rfl)) (by unfold Func.isWrapper; first | (rw [if_pos (by decide +kernel)]; kernel_rfl) | (rw [if_neg (by decide +kernel)]; exact ⟨rfl, rfl⟩))
    (fun os started H enc _ F => by rw [OpenClaim.pre_eq_preRow]; exact lifted os started H enc F)

theorem plain (f : FuncId) (fn : Func) (hf : Tryd.pinned.checked.prog.funcNamed Rows.utfBackRow.func = some f) (hfn : Tryd.pinned.checked.prog.funcs[f]? = some fn) :
    false = Tryd.pinned.checked.prog.looks [] ∧ ∀ (j : Nat) t, fn.params[j]? = some t → Tryd.pinned.checked.prog.wantsStandIn t = false := by
  obtain rfl : f = 4 := Option.some.inj ((show Tryd.prog.funcNamed Rows.utfBackRow.func = some 4 by kernel_rfl).symm.trans hf) |>.symm
  obtain rfl : fn = Tryd.f4 := (Option.some.inj (Tryd.func4.symm.trans hfn)).symm
  refine ⟨by kernel_rfl, fun j t ht => ?_⟩
  rw [Tryd.params4] at ht
  have hm : t ∈ [9, 22] := by simpa using Array.mem_of_getElem? ht
  have hall : ([9, 22].all fun u => !Tryd.prog.wantsStandIn u) = true := by kernel_rfl
  exact (show Tryd.prog.wantsStandIn t = false by simpa using List.all_eq_true.1 hall t hm)

theorem card : Rows.UtfBackCardSaid :=
  Claim7.holds_tied_plain_at .later [] _ _ _ _ said (fun _ h => by cases h) (by kernel_rfl) (fun _ h => by cases h) utfBack_row_tie rfl ⟨rfl, rfl⟩ (by kernel_rfl) rfl plain (by kernel_rfl)
end Go.Proofs.YtmpehgdmdejmlaaDoor.utfBack

namespace Go.Proofs.YtmpehgdmdejmlaaDoor
/-- The given statement, under a short name. -/
theorem utfBack_holds : Rows.UtfBackCardSaid := utfBack.card
#print axioms utfBack_holds
end Go.Proofs.YtmpehgdmdejmlaaDoor

