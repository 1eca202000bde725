/- The law UtfRows returns true at every pair of texts: a text that is well formed, and another one behind it, have both ones' pieces, the second one's moved on. Conditions: the table of lead bytes holds what the program's text lays (the card ties it); nothing that was there before the call is changed. -/
import Derived.Test.YtmpehgdmdejmlaaDoorLaid
namespace Go.Proofs.YtmpehgdmdejmlaaDoor.utfRows
open Go.ChangeShapes Go.WideShapes Go.ChangeAt Go.RowKit
open Go.ChangeMaps (open_string shut_string)
set_option linter.unusedVariables false
set_option linter.unusedSimpArgs false

def move (d : Nat) (p : Tr) : Tr := ⟨p.v, p.a + d, p.n⟩
theorem tri_move (d : Nat) (p : Pp) : tri (Pp.move d p) = move d (tri p) := by
  simp [tri, Pp.move, move]
theorem tris_append (s t : List UInt8) (h : validL s = true) : tris (s ++ t) = tris s ++ (tris t).map (move s.length) := by
  unfold tris
  rw [piecesAt_row s t 0 h, piecesAt_move _ 0 s.length t (Nat.le_refl _), List.map_append, List.map_map, List.map_map]
  congr 1

theorem piecesAt_at (n : Nat) : ∀ (k : Nat) (l : List UInt8), l.length ≤ n → ∀ p ∈ piecesAt k l, p.at_ ≤ k + l.length := by
  induction n with
  | zero =>
    intro k l h p hp
    obtain rfl : l = [] := List.eq_nil_of_length_eq_zero (by omega)
    simp [piecesAt_nil] at hp
  | succ n ih =>
    intro k l h p hp
    cases l with
    | nil => simp [piecesAt_nil] at hp
    | cons b r =>
      have hf := piece_fits b r
      rw [piecesAt_cons] at hp
      rcases List.mem_cons.1 hp with rfl | hp
      · show k ≤ _; omega
      · have := ih _ _ (by rw [List.length_drop]; have := hf.1; rw [List.length_cons] at h ⊢; omega) p hp
        rw [List.length_drop] at this
        have := hf.2.2.1
        omega
theorem tris_bd (l : List UInt8) (k : Nat) (h : k < (tris l).length) : 0 ≤ (tris l)[k].a ∧ (tris l)[k].a ≤ l.length := by
  unfold tris at h ⊢
  rw [List.getElem_map]
  have h' : k < (piecesAt 0 l).length := by simpa using h
  have := piecesAt_at _ 0 l (Nat.le_refl _) _ (List.getElem_mem h')
  refine ⟨Int.natCast_nonneg _, ?_⟩
  show ((piecesAt 0 l)[k].at_ : Int) ≤ (l.length : Int)
  omega
theorem append_data (s t : ByteArray) : (s ++ t).data.toList = s.data.toList ++ t.data.toList := by simp
theorem size_list (s : ByteArray) : s.size = s.data.toList.length := (Array.length_toList).symm
theorem tris_len (l : List UInt8) : (tris l).length ≤ l.length := by
  unfold tris; rw [List.length_map]; exact piecesAt_len _ 0 l (Nat.le_refl _)

set_option maxHeartbeats 1000000 in
theorem walk_great (s t : ByteArray) (w : World) (hT : Tab w) (h : 500 < s.size) :
    Calls Tryd.prog 5 #[.string s, .string t] w fun e w' => e = .returned (.bool true) ∧ Below w.heap.size w w' := by
  have HT := Lib.hid hT
  clear hT
  go_enter Tryd.func5, Tryd.ntmps5
  go_wp2_with fail
  refine (wakes_any _ HT.out).mono ?_
  rintro e w1 ⟨rfl, b1⟩
  go_wp2_with fail
  go_ret
  exact ⟨rfl, b1⟩
set_option maxHeartbeats 1000000 in
theorem walk_great2 (s t : ByteArray) (w : World) (hT : Tab w) (h : s.size ≤ 500) (h2 : 500 < t.size) :
    Calls Tryd.prog 5 #[.string s, .string t] w fun e w' => e = .returned (.bool true) ∧ Below w.heap.size w w' := by
  have HT := Lib.hid hT
  clear hT
  go_enter Tryd.func5, Tryd.ntmps5
  go_wp2_with fail
  refine (wakes_any _ HT.out).mono ?_
  rintro e w1 ⟨rfl, b1⟩
  go_wp2_with fail
  go_ret
  exact ⟨rfl, b1⟩

set_option maxRecDepth 100000 in
set_option maxHeartbeats 2000000 in
theorem walk_small (s t : ByteArray) (w : World) (hT : Tab w) (h : s.size ≤ 500) (h2 : t.size ≤ 500) :
    Calls Tryd.prog 5 #[.string s, .string t] w fun e w' => e = .returned (.bool true) ∧ Below w.heap.size w w' := by
  have HT := Lib.hid hT
  clear hT
  have hst : (s ++ t).size ≤ 1000 := by rw [size_list, append_data, List.length_append, ← size_list, ← size_list]; omega
  have HST := Lib.hid hst
  clear hst
  go_enter Tryd.func5, Tryd.ntmps5
  go_wp2_with fail
  refine (pieces_tr s _ (by omega) HT.out).mono ?_
  rintro e w1 ⟨A1, c1, rfl, hR1, b1⟩
  have HT1 := Lib.hid (HT.out.below b1)
  have HR1 := Lib.hid hR1
  clear HT hR1
  go_wp2_with fail
  refine (pieces_tr t _ (by omega) HT1.out).mono ?_
  rintro e w2 ⟨A2, c2, rfl, hR2, g2⟩
  have HT2 := Lib.hid (HT1.out.below g2)
  have HR2 := Lib.hid hR2
  have HS1 := Lib.hid ((HR1.out.below g2).more g2.size)
  have b2 := b1.trans (g2.mono b1.size)
  clear HT1 hR2 g2 b1 HR1
  go_wp2_with fail
  refine (pieces_tr (s ++ t) _ (by have := HST.out; omega) HT2.out).mono ?_
  rintro e w3 ⟨A3, c3, rfl, hR3, g3⟩
  have HT3 := Lib.hid (HT2.out.below g3)
  have HR3 := Lib.hid hR3
  have HU1 := Lib.hid ((HS1.out.below g3).more g3.size)
  have HU2 := Lib.hid ((HR2.out.below g3).more g3.size)
  have b3 := b2.trans (g3.mono b2.size)
  clear HT2 hR3 g3 b2 HS1 HR2
  cases hv : validL s.data.toList
  · have hV : ∀ W : World, Tab W → Calls Tryd.prog 15 #[.string s] W fun e w' => e = .returned (.bool false) ∧ Below W.heap.size W w' := fun W hW => by
      have h := valid_any s W (by unfold maxLen; omega) hW
      rwa [hv] at h
    have HV := Lib.hid hV
    clear hV hv HR3 HU1 HU2
    go_wp2_with fail
    refine (HV.out _ HT3.out).mono ?_
    rintro e w4 ⟨rfl, g4⟩
    have HT4 := Lib.hid (HT3.out.below g4)
    have b4 := b3.trans (g4.mono b3.size)
    clear g4 b3 HT3
    go_wp2_with fail
    refine (wakes_any _ HT4.out).mono ?_
    rintro e w5 ⟨rfl, g5⟩
    have b5 := b4.trans (g5.mono b4.size)
    go_wp2_with fail
    go_ret
    exact ⟨rfl, b5⟩
  · have hV : ∀ W : World, Tab W → Calls Tryd.prog 15 #[.string s] W fun e w' => e = .returned (.bool true) ∧ Below W.heap.size W w' := fun W hW => by
      have h := valid_any s W (by unfold maxLen; omega) hW
      rwa [hv] at h
    have HV := Lib.hid hV
    have hE := tris_append s.data.toList t.data.toList hv
    rw [← append_data, ← size_list] at hE
    have l1 := tris_len s.data.toList
    have l2 := tris_len t.data.toList
    have bd := tris_bd t.data.toList
    rw [← size_list] at l1 l2 bd
    generalize tris s.data.toList = P1 at *
    generalize tris t.data.toList = P2 at *
    generalize tris (s ++ t).data.toList = P3 at *
    have hl3 : P3.length = P1.length + P2.length := by rw [hE]; simp
    have HE := Lib.hid hE
    have HL := Lib.hid hl3
    have HBD := Lib.hid bd
    have l3 : P3.length ≤ 1000 := by omega
    have ht : ((P3.length : Int) != (P1.length : Int) + (P2.length : Int)) = false := by rw [bne_eq_false_iff_eq, hl3]; omega
    clear hV hv hE hl3 bd
    go_wp2_with fail
    refine (HV.out _ HT3.out).mono ?_
    rintro e w4 ⟨rfl, g4⟩
    have HT4 := Lib.hid (HT3.out.below g4)
    have b4 := b3.trans (g4.mono b3.size)
    have HX1 := Lib.hid ((HU1.out.below g4).more g4.size)
    have HX2 := Lib.hid ((HU2.out.below g4).more g4.size)
    have HX3 := Lib.hid ((HR3.out.below g4).more g4.size)
    clear g4 b3 HT3 HU1 HU2 HR3 HV
    go_wp2_with fail
    go_loopw [8] (fun i wr => ∃ k : Nat, k ≤ P3.length ∧ i = .int .i64 k ∧ Below w4.heap.size w4 wr) (fun i _ => P3.length - (intOf i).toNat)
    case atStart => exact ⟨0, Nat.zero_le _, rfl, Below.refl _ _⟩
    case round =>
      obtain ⟨k, hk, rfl, hb⟩ := hrel
      have hsz := hb.size
      have HTr := Lib.hid (HT4.out.below hb)
      by_cases hlt : k < P3.length
      · obtain ⟨b3', o3, rfl, hb3, p0, p1, p2⟩ := (HX3.out.below hb).tr hlt
        have hb3r : b3' < wr.heap.size := by omega
        have g35 := guard35
        by_cases h1 : k < P1.length
        · obtain ⟨b1', o1, rfl, hb1, q0, q1, q2⟩ := (HX1.out.below hb).tr h1
          have hb1r : b1' < wr.heap.size := by omega
          have hx : P3[k] = P1[k] := by
            have := HE.out
            subst this
            exact List.getElem_append_left h1
          rw [hx] at p0 p1 p2
          clear hx
          generalize P1[k] = x at *
          obtain ⟨x0, x1, x2⟩ := x
          have hne := neq35_same x0 x1 x2
          go_wp2_with fail
          go_quiet (fail)
          go_wp2_with fail
          go_roundw
          case rel => exact ⟨k + 1, by omega, by go_num, below_drewN (hb.alloc (by omega) _) _⟩
          case measure => simp [intOf]; omega
        · obtain ⟨j, rfl⟩ : ∃ j, k = P1.length + j := ⟨k - P1.length, by omega⟩
          have h2' : j < P2.length := by have := HL.out; omega
          obtain ⟨b2', o2, rfl, hb2, q0, q1, q2⟩ := (HX2.out.below hb).tr h2'
          have hb2r : b2' < wr.heap.size := by omega
          have hx : P3[P1.length + j] = move s.size P2[j] := by
            have := HE.out
            subst this
            rw [List.getElem_append_right (by omega)]
            simp
          obtain ⟨d0, d1⟩ := HBD.out j h2'
          rw [hx] at p0 p1 p2
          clear hx
          generalize P2[j] = x at *
          obtain ⟨x0, x1, x2⟩ := x
          simp only [move] at p0 p1 p2 d0 d1
          have hne := neq35_same x0 (x1 + s.size) x2
          go_wp2_with fail
          go_quiet (fail)
          go_wp2_with fail
          go_roundw
          case rel => exact ⟨P1.length + j + 1, by omega, by go_num, below_drewN (hb.alloc (by omega) _) _⟩
          case measure => simp [intOf]; omega
      · go_wp2_with fail
        refine (wakes_any _ HTr.out).mono ?_
        rintro e w5 ⟨rfl, g5⟩
        have b5 := b4.trans ((hb.trans (g5.mono hsz)).mono b4.size)
        go_wp2_with fail
        go_ret
        exact ⟨rfl, b5⟩

theorem walk (s t : ByteArray) (w : World) (hT : Tab w) (_ : s.size ≤ maxLen) (_ : t.size ≤ maxLen) :
    Calls Tryd.prog 5 #[.string s, .string t] w fun e w' => e = .returned (.bool true) ∧ Below w.heap.size w w' := by
  by_cases h1 : s.size ≤ 500
  · by_cases h2 : t.size ≤ 500
    · exact walk_small s t w hT h1 h2
    · exact walk_great2 s t w hT h1 (by omega)
  · exact walk_great s t w hT (by omega)

/-! From the walk to the row and its card. -/
theorem contract (H : Type) (enc : TypeId × Value → H) (W : World) (base : Nat) (args : Array Value) (ds gs : List (DataW H)) (before : List MemPlace)
    (hval0 : ∀ (j : Nat) t v, Tryd.f5.params[j]? = some t → args[j]? = some v → Value.okWide Tryd.prog W .any base t v)
    (hW : DataW.Whole enc Tryd.prog Tryd.f5.params.toList Rows.utfRowsSpec.vars false W args.toList ds gs before) (hL : laidMetH Tryd.prog Rows.utfRowsRow.laid W) :
    Calls Tryd.prog 5 args W fun e W' => ∃ v, e = .returned v ∧ Rows.utfRowsSpec.post enc Tryd.prog Tryd.f5 false true false false W args v W' := by
  have hval : ∀ (j : Nat) t v, Tryd.f5.params[j]? = some t → args[j]? = some v → Value.okWide Tryd.prog W .any base t v := hval0
  have hW' := hW
  obtain ⟨p, q, hA0, hV, rfl, hfz, hnd⟩ := hW
  have hA : DataW.TrodAll enc Tryd.prog W 0 (fun _ => true) true Tryd.f5.params.toList args.toList ds p := hA0
  rw [Tryd.params5] at hA hval
  obtain ⟨v0, vs0, d0, ds0, p0, q0, hargs, rfl, rfl, h0, r0⟩ := trodAll_cons hA
  obtain ⟨v1, vs1, d1, ds1, p1, q1, rfl, rfl, rfl, h1, r1⟩ := trodAll_cons r0
  obtain ⟨rfl, rfl, rfl⟩ := trodAll_nil r1
  obtain rfl : args = #[v0, v1] := by cases args; simp_all
  obtain ⟨rfl, rfl⟩ := trodVars_none hV
  obtain ⟨a0, rfl, rfl, rfl, w0⟩ := open_string Tryd.underlying9 (hval 0 9 v0 rfl rfl) h0
  obtain ⟨a1, rfl, rfl, rfl, w1⟩ := open_string Tryd.underlying9 (hval 1 9 v1 rfl rfl) h1
  clear hA0 hval0
  refine (walk a0 a1 W (tab_of_laid hL) w0 w1).mono fun e W' ⟨he, bel⟩ => ?_
  subst he
  exact ⟨_, rfl, _, _, _, [], _, [], hW', trodAll_mk1 (shut_bool Tryd.underlying4 _), (trodAll_cons_mk (shut_string Tryd.underlying9 w0) (trodAll_cons_mk (shut_string Tryd.underlying9 w1) trodAll_mk0)), rfl, bel.frame _, fun h => by cases h⟩

theorem laid_met (os : Os) : laidMet Tryd.prog Rows.utfRowsRow.laid ((laidWorld os).forCall (fun _ _ => 0) ⟨#[], #[.string ByteArray.empty, .string ByteArray.empty], []⟩).memory :=
  laidMet_of_run' 8 (by kernel_rfl) (by kernel_rfl)
theorem reads (os : Os) {H : Type} (enc : TypeId × Value → H) : ∃ places, DataW.whole enc Tryd.prog ((laidWorld os).forCall (fun _ _ => 0) ⟨#[], #[.string ByteArray.empty, .string ByteArray.empty], []⟩).memory Tryd.f5.params.toList Rows.utfRowsSpec.vars false (#[.string ByteArray.empty, .string ByteArray.empty] : Array Value).toList 8 = some ([.lit (.string []), .lit (.string [])], [], places) :=
  ⟨[], by kernel_rfl⟩

set_option maxRecDepth 100000 in
theorem lifted (os : Os) (started : os.Started) (H : Type) (enc : TypeId × Value → H) (F : Stop.Interp) :
    ReturnsInHanded {} Tryd.checked os 5 .any ((OpenSpec.ofChange Rows.utfRowsSpec).preRow enc Tryd.prog Tryd.f5 Rows.utfRowsRow.domain false Rows.utfRowsRow.laid) (((OpenSpec.ofChange Rows.utfRowsSpec).at F).post enc Tryd.prog Tryd.f5 false true false false) := by
  obtain ⟨places, hx⟩ := reads os enc
  refine returnsInHanded_of_row (C := Tryd.checked) (s := OpenSpec.ofChange Rows.utfRowsSpec) own started (by kernel_rfl) Tryd.func5
    (witness_row_at (enc := enc) (C := Tryd.checked) false (laidWorld os) #[.string ByteArray.empty, .string ByteArray.empty] rfl (by kernel_rfl) (by kernel_rfl) (by kernel_rfl)
      (OpenSpec.preRow_of_cond 8 hx (by kernel_rfl) (fun k hk => by cases hk) (by kernel_rfl) (laid_met os))) ?_
  intro W base args ds gs before hval hW _ _ _ hL _ _
  exact contract H enc W base args ds gs before hval hW hL

theorem said : Rows.UtfRowsSaid :=
  OpenClaim.holds_of_cond 5 Tryd.f5 rfl rfl rfl rfl rfl rfl rfl ⟨rfl, rfl, rfl, rfl, rfl⟩ rfl rfl rfl rfl rfl (by kernel_rfl) Tryd.func5 (by kernel_rfl)
    (of_decide_eq_true (by kernel_rfl)) (by unfold Func.isWrapper; first | (rw [if_pos (by decide +kernel)]; kernel_rfl) | (rw [if_neg (by decide +kernel)]; exact ⟨rfl, rfl⟩))
    (fun os started H enc _ F => by rw [OpenClaim.pre_eq_preRow]; exact lifted os started H enc F)

theorem plain (f : FuncId) (fn : Func) (hf : Tryd.pinned.checked.prog.funcNamed Rows.utfRowsRow.func = some f) (hfn : Tryd.pinned.checked.prog.funcs[f]? = some fn) :
    false = Tryd.pinned.checked.prog.looks [] ∧ ∀ (j : Nat) t, fn.params[j]? = some t → Tryd.pinned.checked.prog.wantsStandIn t = false := by
  obtain rfl : f = 5 := Option.some.inj ((show Tryd.prog.funcNamed Rows.utfRowsRow.func = some 5 by kernel_rfl).symm.trans hf) |>.symm
  obtain rfl : fn = Tryd.f5 := (Option.some.inj (Tryd.func5.symm.trans hfn)).symm
  refine ⟨by kernel_rfl, fun j t ht => ?_⟩
  rw [Tryd.params5] at ht
  have hm : t ∈ [9, 9] := by simpa using Array.mem_of_getElem? ht
  have hall : ([9, 9].all fun u => !Tryd.prog.wantsStandIn u) = true := by kernel_rfl
  exact (show Tryd.prog.wantsStandIn t = false by simpa using List.all_eq_true.1 hall t hm)

theorem card : Rows.UtfRowsCardSaid :=
  Claim7.holds_tied_plain_at .later [] _ _ _ _ said (fun _ h => by cases h) (by kernel_rfl) (fun _ h => by cases h) utfRows_row_tie rfl ⟨rfl, rfl⟩ (by kernel_rfl) rfl plain (by kernel_rfl)
end Go.Proofs.YtmpehgdmdejmlaaDoor.utfRows

namespace Go.Proofs.YtmpehgdmdejmlaaDoor
/-- The given statement, under a short name. -/
theorem utfRows_holds : Rows.UtfRowsCardSaid := utfRows.card
#print axioms utfRows_holds
end Go.Proofs.YtmpehgdmdejmlaaDoor

