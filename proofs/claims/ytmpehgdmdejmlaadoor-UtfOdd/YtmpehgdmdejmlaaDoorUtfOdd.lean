/- The law UtfOdd returns true at every text and every byte: a byte that goes on, or that begins no scalar's bytes, is a piece by itself, wherever one begins. Conditions: the table of lead bytes holds what the program's text lays (the card ties it); nothing that was there before the call is changed. -/
import Derived.Test.YtmpehgdmdejmlaaDoorLaid
import Derived.Test.YtmpehgdmdejmlaaDoorRefValid
namespace Go.Proofs.YtmpehgdmdejmlaaDoor.utfOdd
open Go.ChangeShapes Go.WideShapes Go.ChangeAt Go.RowKit
open Go.ChangeMaps (open_string shut_string)
set_option linter.unusedVariables false
set_option linter.unusedSimpArgs false

theorem append_data (s t : ByteArray) : (s ++ t).data.toList = s.data.toList ++ t.data.toList := by simp

theorem pieces_odd (s : List UInt8) (u : UInt8) (h : validL s = true) (ho : 128 ≤ nb u ∧ nb u < 194 ∨ 245 ≤ nb u) (r : List UInt8) :
    piecesAt 0 (s ++ [u] ++ r) = piecesAt 0 s ++ ⟨repl, s.length, 1, false⟩ :: piecesAt (s.length + 1) r := by
  have h0 : s ++ [u] ++ r = s ++ ([u] ++ r) := List.append_assoc s [u] r
  have h1 := piecesAt_row s ([u] ++ r) 0 h
  have h2 : piecesAt s.length ([u] ++ r) = ⟨repl, s.length, 1, false⟩ :: piecesAt (s.length + 1) r := by
    have e := piecesAt_cons s.length u r
    have hb := piece_odd u r ho
    generalize pieceOf (u :: r) = p at *
    subst hb
    exact e
  exact (congrArg (piecesAt 0) h0).trans (h1.trans (by rw [Nat.zero_add, h2]))
theorem tris_odd (s : List UInt8) (u : UInt8) (h : validL s = true) (ho : 128 ≤ nb u ∧ nb u < 194 ∨ 245 ≤ nb u) :
    ∃ P, tris (s ++ [u] ++ s) = tris s ++ ⟨65533, s.length, 1⟩ :: P ∧ P.length = (tris s).length := by
  refine ⟨(piecesAt (s.length + 1) s).map tri, ?_, ?_⟩
  · unfold tris
    rw [pieces_odd s u h ho s, List.map_append]
    rfl
  · unfold tris
    rw [List.length_map, List.length_map]
    exact (okAll_shift _ _ _ s (Nat.le_refl _)).2
theorem valid_odd (s : List UInt8) (u : UInt8) (h : validL s = true) (ho : 128 ≤ nb u ∧ nb u < 194 ∨ 245 ≤ nb u) : validL (s ++ [u]) = false := by
  unfold validL
  have := pieces_odd s u h ho []
  rw [List.append_nil] at this
  rw [this]
  simp

set_option maxRecDepth 100000 in
set_option maxHeartbeats 1000000 in
theorem walk_great (s : ByteArray) (b : Int) (w : World) (hT : Tab w) (h : 500 < s.size) :
    Calls Tryd.prog 7 #[.string s, .int .u8 b] w fun e w' => e = .returned (.bool true) ∧ Below w.heap.size w w' := by
  have HT := Lib.hid hT
  clear hT
  go_enter Tryd.func7, Tryd.ntmps7
  go_wp2_with fail
  refine (wakes_any _ HT.out).mono ?_
  rintro e w1 ⟨rfl, b1⟩
  go_wp2_with fail
  go_ret
  exact ⟨rfl, b1⟩
set_option maxRecDepth 100000 in
set_option maxHeartbeats 1000000 in
theorem walk_ill (s : ByteArray) (b : Int) (w : World) (hT : Tab w) (h : s.size ≤ 500) (hv : validL s.data.toList = false) :
    Calls Tryd.prog 7 #[.string s, .int .u8 b] w fun e w' => e = .returned (.bool true) ∧ Below w.heap.size w w' := by
  have HT := Lib.hid hT
  have hV := refValid_any s w (by omega)
  rw [hv] at hV
  have HV := Lib.hid hV
  clear hT hV hv
  go_enter Tryd.func7, Tryd.ntmps7
  go_wp2_with fail
  refine HV.out.mono ?_
  rintro e w1 ⟨rfl, b1⟩
  have HT1 := Lib.hid (HT.out.below b1)
  clear HV HT
  go_wp2_with fail
  refine (wakes_any _ HT1.out).mono ?_
  rintro e w2 ⟨rfl, g2⟩
  have b2 := b1.trans (g2.mono b1.size)
  go_wp2_with fail
  go_ret
  exact ⟨rfl, b2⟩

/-- 'string([]byte{b})'. -/
theorem conv_one (b : Int) (h0 : 0 ≤ b) (h1 : b ≤ 255) (w : World) : (convert 40 9 (.slice (some ⟨w.heap.size, 0, none⟩) 1 1)).run Tryd.prog (w.alloc (.cells #[.int .u8 b] 5)) = .ok (.string (strOf [ub b])) (w.alloc (.cells #[.int .u8 b] 5)) := by
  have h := conv_new w [ub b] 5
  have e : bcells [ub b] = [.int .u8 b] := by
    simp only [bcells, List.map_cons, List.map_nil]
    rw [nb_ub _ (by omega) (by omega)]
  rw [e] at h
  exact h

set_option maxRecDepth 100000 in
set_option maxHeartbeats 1000000 in
theorem walk_even (s : ByteArray) (b : Int) (w : World) (hT : Tab w) (h : s.size ≤ 500) (hv : validL s.data.toList = true) (b0 : 0 ≤ b) (b255 : b ≤ 255) (he : b < 128 ∨ 194 ≤ b ∧ b < 245) :
    Calls Tryd.prog 7 #[.string s, .int .u8 b] w fun e w' => e = .returned (.bool true) ∧ Below w.heap.size w w' := by
  have HT := Lib.hid hT
  have hV := refValid_any s w (by omega)
  rw [hv] at hV
  have HV := Lib.hid hV
  have hcv := conv_one b b0 b255
  have hsz : (s ++ strOf [ub b] ++ s).size ≤ 1001 := by
    rw [size_list, append_data, append_data, List.length_append, List.length_append, ← size_list, strOf_data]; simp; omega
  have hP : ∀ W : World, Tab W → Calls Tryd.prog 13 #[.string (s ++ strOf [ub b] ++ s)] W (OutTs (tris (s ++ strOf [ub b] ++ s).data.toList) W) := fun W hW => pieces_tr _ W (by omega) hW
  have HP := Lib.hid hP
  have hs1 : (strOf [ub b]).size ≤ 1 := by rw [strOf_size]; exact Nat.le_refl _
  have hsz2 : (s ++ strOf [ub b]).size ≤ 1001 := by
    rw [size_list, append_data, List.length_append, ← size_list, strOf_data]; simp; omega
  clear hT hV hv hsz hP
  have hd2 : decide (245 ≤ b) = false := decide_eq_false (by omega)
  rcases he with he | ⟨he1, he2⟩
  · have hd1 : decide (128 ≤ b) = false := decide_eq_false (by omega)
    go_enter Tryd.func7, Tryd.ntmps7
    go_wp2_with fail
    refine HV.out.mono ?_
    rintro e w1 ⟨rfl, b1⟩
    have HT1 := Lib.hid (HT.out.below b1)
    clear HV HT
    go_wp2_with fail
    refine (HP.out _ (HT1.out.alloc _)).mono ?_
    rintro e w2 ⟨A2, c2, rfl, _, g2⟩
    have g2' := below_call g2
    have HT2 := Lib.hid (HT1.out.below g2')
    have b2 := b1.trans (g2'.mono b1.size)
    clear g2 g2' HT1 b1 HP
    go_wp2_with fail
    refine (pieces_tr s _ (by omega) HT2.out).mono ?_
    rintro e w3 ⟨A3, c3, rfl, _, g3⟩
    have HT3 := Lib.hid (HT2.out.below g3)
    have b3 := b2.trans (g3.mono b2.size)
    clear g3 HT2 b2
    go_wp2_with fail
    refine (wakes_any _ HT3.out).mono ?_
    rintro e w4 ⟨rfl, g4⟩
    have b4 := b3.trans (g4.mono b3.size)
    go_wp2_with fail
    go_ret
    exact ⟨rfl, b4⟩
  · have hd1 : decide (b < 194) = false := decide_eq_false (by omega)
    go_enter Tryd.func7, Tryd.ntmps7
    go_wp2_with fail
    refine HV.out.mono ?_
    rintro e w1 ⟨rfl, b1⟩
    have HT1 := Lib.hid (HT.out.below b1)
    clear HV HT
    go_wp2_with fail
    refine (HP.out _ (HT1.out.alloc _)).mono ?_
    rintro e w2 ⟨A2, c2, rfl, _, g2⟩
    have g2' := below_call g2
    have HT2 := Lib.hid (HT1.out.below g2')
    have b2 := b1.trans (g2'.mono b1.size)
    clear g2 g2' HT1 b1 HP
    go_wp2_with fail
    refine (pieces_tr s _ (by omega) HT2.out).mono ?_
    rintro e w3 ⟨A3, c3, rfl, _, g3⟩
    have HT3 := Lib.hid (HT2.out.below g3)
    have b3 := b2.trans (g3.mono b2.size)
    clear g3 HT2 b2
    go_wp2_with fail
    refine (wakes_any _ HT3.out).mono ?_
    rintro e w4 ⟨rfl, g4⟩
    have b4 := b3.trans (g4.mono b3.size)
    go_wp2_with fail
    go_ret
    exact ⟨rfl, b4⟩

set_option maxRecDepth 100000 in
set_option maxHeartbeats 2000000 in
theorem walk_odd (s : ByteArray) (b : Int) (w : World) (hT : Tab w) (h : s.size ≤ 500) (hv : validL s.data.toList = true) (b0 : 0 ≤ b) (b255 : b ≤ 255) (ho : 128 ≤ b ∧ b < 194 ∨ 245 ≤ b) :
    Calls Tryd.prog 7 #[.string s, .int .u8 b] w fun e w' => e = .returned (.bool true) ∧ Below w.heap.size w w' := by
  have HT := Lib.hid hT
  have hV := refValid_any s w (by omega)
  rw [hv] at hV
  have HV := Lib.hid hV
  have hcv := conv_one b b0 b255
  have hub : nb (ub b) = b := nb_ub b b0 (by omega)
  have ho' : 128 ≤ nb (ub b) ∧ nb (ub b) < 194 ∨ 245 ≤ nb (ub b) := by rw [hub]; exact ho
  have hsz : (s ++ strOf [ub b] ++ s).size ≤ 1001 := by
    rw [size_list, append_data, append_data, List.length_append, List.length_append, ← size_list, strOf_data]; simp; omega
  have hsz2 : (s ++ strOf [ub b]).size ≤ 1001 := by
    rw [size_list, append_data, List.length_append, ← size_list, strOf_data]; simp; omega
  have hP : ∀ W : World, Tab W → Calls Tryd.prog 13 #[.string (s ++ strOf [ub b] ++ s)] W (OutTs (tris (s ++ strOf [ub b] ++ s).data.toList) W) := fun W hW => pieces_tr _ W (by omega) hW
  obtain ⟨P, hE, hPl⟩ := tris_odd s.data.toList (ub b) hv ho'
  rw [append_data, append_data, strOf_data, hE] at hP
  have hVo : ∀ W : World, Tab W → Calls Tryd.prog 15 #[.string (s ++ strOf [ub b])] W fun e w' => e = .returned (.bool false) ∧ Below W.heap.size W w' := fun W hW => by
    have h := valid_any (s ++ strOf [ub b]) W (by unfold maxLen; omega) hW
    rwa [append_data, strOf_data, valid_odd _ _ hv ho'] at h
  have hQl : (tris s.data.toList).length ≤ 500 := by
    unfold tris; rw [List.length_map]; exact Nat.le_trans (piecesAt_len _ 0 _ (Nat.le_refl _)) (by rw [← size_list]; exact h)
  have hq := pieces_tr s
  rw [← size_list] at hP
  generalize tris s.data.toList = Q at *
  have HP := Lib.hid hP
  have HVO := Lib.hid hVo
  have HQ := Lib.hid hq
  have HPL := Lib.hid hPl
  have ht1 : (((Q ++ (⟨65533, s.size, 1⟩ : Tr) :: P).length : Int) != 2 * (Q.length : Int) + 1) = false := by
    rw [bne_eq_false_iff_eq, List.length_append, List.length_cons, hPl]; omega
  have hlen : Q.length < (Q ++ (⟨65533, s.size, 1⟩ : Tr) :: P).length := by rw [List.length_append, List.length_cons]; omega
  have hat : (Q ++ (⟨65533, s.size, 1⟩ : Tr) :: P)[Q.length]'hlen = ⟨65533, s.size, 1⟩ := by simp
  have hR2 : (Q ++ (⟨65533, s.size, 1⟩ : Tr) :: P).length ≤ 1001 := by rw [List.length_append, List.length_cons, hPl]; omega
  have HAT : Hid (∀ (W : World) (B : Nat) (A : Option Addr), Reads W B 3 A (Q ++ (⟨65533, s.size, 1⟩ : Tr) :: P).length (tcells (Q ++ (⟨65533, s.size, 1⟩ : Tr) :: P)) → ∃ b o, A = some ⟨b, o, none⟩ ∧ b < B ∧ W.cell? ⟨b, o + Q.length * 3, none⟩ = some (.int .i64 65533) ∧ W.cell? ⟨b, o + Q.length * 3 + 1, none⟩ = some (.int .i64 s.size) ∧ W.cell? ⟨b, o + Q.length * 3 + 2, none⟩ = some (.int .i64 1)) := Lib.hid (fun W B A hR => by
    obtain ⟨b, o, e, hb, h0, h1, h2⟩ := hR.tr hlen
    rw [hat] at h0 h1 h2
    exact ⟨b, o, e, hb, h0, h1, h2⟩)
  generalize Q ++ (⟨65533, s.size, 1⟩ : Tr) :: P = R at *
  have ht2 : ¬ (R.length ≤ Q.length) := by omega
  have ht3 : decide ((R.length : Int) ≤ (Q.length : Int)) = false := decide_eq_false (by omega)
  have g35 := guard35
  have heq := eql35_same 65533 s.size 1
  have hs1 : (strOf [ub b]).size ≤ 1 := by rw [strOf_size]; exact Nat.le_refl _
  clear hT hV hv hsz hP hVo hq hE hPl hub ho' hat
  rcases ho with ⟨ho1, ho2⟩ | ho1
  all_goals
    go_enter Tryd.func7, Tryd.ntmps7
    go_wp2_with fail
    refine HV.out.mono ?_
    rintro e w1 ⟨rfl, b1⟩
    have HT1 := Lib.hid (HT.out.below b1)
    clear HV HT
    go_wp2_with fail
    refine (HP.out _ (HT1.out.alloc _)).mono ?_
    rintro e w2 ⟨A2, c2, rfl, hR, g2⟩
    have g2' := below_call g2
    have HT2 := Lib.hid (HT1.out.below g2')
    have b2 := b1.trans (g2'.mono b1.size)
    have HR2 := Lib.hid hR
    clear g2 g2' HT1 b1 HP hR
    go_wp2_with fail
    refine (HQ.out _ (by omega) HT2.out).mono ?_
    rintro e w3 ⟨A3, c3, rfl, _, g3⟩
    have HT3 := Lib.hid (HT2.out.below g3)
    have b3 := b2.trans (g3.mono b2.size)
    obtain ⟨rb, ro, rfl, hrb, r0, r1, r2⟩ := HAT.out _ _ _ ((HR2.out.below g3).more g3.size)
    clear g3 HT2 b2 HR2 HQ
    go_wp2_with fail
    refine (HVO.out _ (HT3.out.alloc _)).mono ?_
    rintro e w4 ⟨rfl, g4⟩
    have g4' := below_call g4
    have HT4 := Lib.hid (HT3.out.below g4')
    have b4 := b3.trans (g4'.mono b3.size)
    clear g4 g4' HT3 b3 HVO
    go_wp2_with fail
    refine (wakes_any _ HT4.out).mono ?_
    rintro e w5 ⟨rfl, g5⟩
    have b5 := b4.trans (g5.mono b4.size)
    go_wp2_with fail
    go_ret
    exact ⟨rfl, b5⟩

/-! The walk: the law returns true. -/
theorem walk (s : ByteArray) (b : Int) (w : World) (hT : Tab w) (_ : s.size ≤ maxLen) (hb : (Lit.int .u8 b).wf = true) :
    Calls Tryd.prog 7 #[.string s, .int .u8 b] w fun e w' => e = .returned (.bool true) ∧ Below w.heap.size w w' := by
  obtain ⟨b0, b1⟩ := bounds_u8 hb
  by_cases h1 : s.size ≤ 500
  · cases hv : validL s.data.toList
    · exact walk_ill s b w hT h1 hv
    · by_cases ho : 128 ≤ b ∧ b < 194 ∨ 245 ≤ b
      · exact walk_odd s b w hT h1 hv b0 b1 ho
      · exact walk_even s b w hT h1 hv b0 b1 (by omega)
  · exact walk_great s b w hT (by omega)

/-! From the walk to the row and its card. -/
theorem contract (H : Type) (enc : TypeId × Value → H) (W : World) (base : Nat) (args : Array Value) (ds gs : List (DataW H)) (before : List MemPlace)
    (hval0 : ∀ (j : Nat) t v, Tryd.f7.params[j]? = some t → args[j]? = some v → Value.okWide Tryd.prog W .any base t v)
    (hW : DataW.Whole enc Tryd.prog Tryd.f7.params.toList Rows.utfOddSpec.vars false W args.toList ds gs before) (hL : laidMetH Tryd.prog Rows.utfOddRow.laid W) :
    Calls Tryd.prog 7 args W fun e W' => ∃ v, e = .returned v ∧ Rows.utfOddSpec.post enc Tryd.prog Tryd.f7 false true false false W args v W' := by
  have hval : ∀ (j : Nat) t v, Tryd.f7.params[j]? = some t → args[j]? = some v → Value.okWide Tryd.prog W .any base t v := hval0
  have hW' := hW
  obtain ⟨p, q, hA0, hV, rfl, hfz, hnd⟩ := hW
  have hA : DataW.TrodAll enc Tryd.prog W 0 (fun _ => true) true Tryd.f7.params.toList args.toList ds p := hA0
  rw [Tryd.params7] at hA hval
  obtain ⟨v0, vs0, d0, ds0, p0, q0, hargs, rfl, rfl, h0, r0⟩ := trodAll_cons hA
  obtain ⟨v1, vs1, d1, ds1, p1, q1, rfl, rfl, rfl, h1, r1⟩ := trodAll_cons r0
  obtain ⟨rfl, rfl, rfl⟩ := trodAll_nil r1
  obtain rfl : args = #[v0, v1] := by cases args; simp_all
  obtain ⟨rfl, rfl⟩ := trodVars_none hV
  obtain ⟨a0, rfl, rfl, rfl, w0⟩ := open_string Tryd.underlying9 (hval 0 9 v0 rfl rfl) h0
  obtain ⟨a1, rfl, rfl, rfl, w1⟩ := open_int Tryd.underlying5 (hval 1 5 v1 rfl rfl) h1
  clear hA0 hval0
  refine (walk a0 a1 W (tab_of_laid hL) w0 w1).mono fun e W' ⟨he, bel⟩ => ?_
  subst he
  exact ⟨_, rfl, _, _, _, [], _, [], hW', trodAll_mk1 (shut_bool Tryd.underlying4 _), (trodAll_cons_mk (shut_string Tryd.underlying9 w0) (trodAll_cons_mk (shut_int Tryd.underlying5 w1) trodAll_mk0)), rfl, bel.frame _, fun h => by cases h⟩

theorem laid_met (os : Os) : laidMet Tryd.prog Rows.utfOddRow.laid ((laidWorld os).forCall (fun _ _ => 0) ⟨#[], #[.string ByteArray.empty, .int .u8 0], []⟩).memory :=
  laidMet_of_run' 8 (by kernel_rfl) (by kernel_rfl)
theorem reads (os : Os) {H : Type} (enc : TypeId × Value → H) : ∃ places, DataW.whole enc Tryd.prog ((laidWorld os).forCall (fun _ _ => 0) ⟨#[], #[.string ByteArray.empty, .int .u8 0], []⟩).memory Tryd.f7.params.toList Rows.utfOddSpec.vars false (#[.string ByteArray.empty, .int .u8 0] : Array Value).toList 8 = some ([.lit (.string []), .lit (.int .u8 0)], [], places) :=
  ⟨[], by kernel_rfl⟩

set_option maxRecDepth 100000 in
theorem lifted (os : Os) (started : os.Started) (H : Type) (enc : TypeId × Value → H) (F : Stop.Interp) :
    ReturnsInHanded {} Tryd.checked os 7 .any ((OpenSpec.ofChange Rows.utfOddSpec).preRow enc Tryd.prog Tryd.f7 Rows.utfOddRow.domain false Rows.utfOddRow.laid) (((OpenSpec.ofChange Rows.utfOddSpec).at F).post enc Tryd.prog Tryd.f7 false true false false) := by
  obtain ⟨places, hx⟩ := reads os enc
  refine returnsInHanded_of_row (C := Tryd.checked) (s := OpenSpec.ofChange Rows.utfOddSpec) own started (by kernel_rfl) Tryd.func7
    (witness_row_at (enc := enc) (C := Tryd.checked) false (laidWorld os) #[.string ByteArray.empty, .int .u8 0] rfl (by kernel_rfl) (by kernel_rfl) (by kernel_rfl)
      (OpenSpec.preRow_of_cond 8 hx (by kernel_rfl) (fun k hk => by cases hk) (by kernel_rfl) (laid_met os))) ?_
  intro W base args ds gs before hval hW _ _ _ hL _ _
  exact contract H enc W base args ds gs before hval hW hL

theorem said : Rows.UtfOddSaid :=
  OpenClaim.holds_of_cond 7 Tryd.f7 rfl rfl rfl rfl rfl rfl rfl ⟨rfl, rfl, rfl, rfl, rfl⟩ rfl rfl rfl rfl rfl (by kernel_rfl) Tryd.func7 (by kernel_rfl)
    (of_decide_eq_true (by kernel_rfl)) (by unfold Func.isWrapper; first | (rw [if_pos (by decide +kernel)]; kernel_rfl) | (rw [if_neg (by decide +kernel)]; exact ⟨rfl, rfl⟩))
    (fun os started H enc _ F => by rw [OpenClaim.pre_eq_preRow]; exact lifted os started H enc F)

theorem plain (f : FuncId) (fn : Func) (hf : Tryd.pinned.checked.prog.funcNamed Rows.utfOddRow.func = some f) (hfn : Tryd.pinned.checked.prog.funcs[f]? = some fn) :
    false = Tryd.pinned.checked.prog.looks [] ∧ ∀ (j : Nat) t, fn.params[j]? = some t → Tryd.pinned.checked.prog.wantsStandIn t = false := by
  obtain rfl : f = 7 := Option.some.inj ((show Tryd.prog.funcNamed Rows.utfOddRow.func = some 7 by kernel_rfl).symm.trans hf) |>.symm
  obtain rfl : fn = Tryd.f7 := (Option.some.inj (Tryd.func7.symm.trans hfn)).symm
  refine ⟨by kernel_rfl, fun j t ht => ?_⟩
  rw [Tryd.params7] at ht
  have hm : t ∈ [9, 5] := by simpa using Array.mem_of_getElem? ht
  have hall : ([9, 5].all fun u => !Tryd.prog.wantsStandIn u) = true := by kernel_rfl
  exact (show Tryd.prog.wantsStandIn t = false by simpa using List.all_eq_true.1 hall t hm)

theorem card : Rows.UtfOddCardSaid :=
  Claim7.holds_tied_plain_at .later [] _ _ _ _ said (fun _ h => by cases h) (by kernel_rfl) (fun _ h => by cases h) utfOdd_row_tie rfl ⟨rfl, rfl⟩ (by kernel_rfl) rfl plain (by kernel_rfl)
end Go.Proofs.YtmpehgdmdejmlaaDoor.utfOdd

namespace Go.Proofs.YtmpehgdmdejmlaaDoor
/-- The given statement, under a short name. -/
theorem utfOdd_holds : Rows.UtfOddCardSaid := utfOdd.card
#print axioms utfOdd_holds
end Go.Proofs.YtmpehgdmdejmlaaDoor

