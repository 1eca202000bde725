/- The example of stage 9's statements; texts row by row compared. -/
import Derived.Test.YtbnconieedgcmaaDoorGCut
import Derived.Test.YtbnconieedgcmaaDoorWWake
namespace Go.Proofs.YtbnconieedgcmaaDoor
open Go.RowKit Go.BigFrame
open U (Tr tcells tcell tris Tab strOf)
set_option linter.unusedVariables false
set_option maxRecDepth 4000
set_option linter.unusedSimpArgs false

theorem str_ne9 {x y : ByteArray} (h : ¬ x.data.toList = y.data.toList) : (x == y) = false ∧ (x.toList == y.toList) = false ∧ (x.data.toList == y.data.toList) = false := by
  have h2 : (x.data.toList == y.data.toList) = false := by rw [beq_eq_false_iff_ne]; exact h
  exact ⟨by rw [beq_toListBytes, ByteArray.toList_eq, ByteArray.toList_eq]; exact h2, by rw [ByteArray.toList_eq, ByteArray.toList_eq]; exact h2, h2⟩
set_option maxHeartbeats 1000000 in
theorem keepTexts_same (n : Nat) (P Q : List (List UInt8)) (A B : Option Addr) (c d : Nat) (w : World) (hP : RS w w.heap.size A n P) (hQ : RS w w.heap.size B n Q) (hn : n ≤ 1048576) :
    Calls Tryd.prog 37 #[.slice A n c, .slice B n d] w fun e w' => e = .returned (.bool (eqX P Q)) ∧ Below w.heap.size w w' := by
  have HP := Lib.hid hP
  have HQ := Lib.hid hQ
  have LP := Lib.hid hP.1
  have LQ := Lib.hid hQ.1
  have hnn : ((n : Int) != (n : Int)) = false := by simp
  clear hP hQ
  go_enter Tryd.func37, Tryd.ntmps37
  go_wp2_with fail
  go_loopw [5] (fun i wr => ∃ (k q : Nat), k ≤ n ∧ i = .int .i64 k ∧ wr = w.drewN q ∧ Hid (P.take k = Q.take k)) (fun i _ => n - (intOf i).toNat)
  case atStart => exact ⟨0, 0, Nat.zero_le _, rfl, rfl, Lib.hid rfl⟩
  case round =>
    obtain ⟨k, q, hk, rfl, rfl, HE⟩ := hrel
    by_cases hlt : k < n
    · have kP : k < P.length := by rw [LP.out]; exact hlt
      have kQ : k < Q.length := by rw [LQ.out]; exact hlt
      obtain ⟨b, o, rfl, _, p0⟩ := HP.out.at kP
      obtain ⟨b', o', rfl, _, q0⟩ := HQ.out.at kQ
      have HtP : Hid (P.take (k + 1) = P.take k ++ [P[k]]) := Lib.hid (List.take_succ_eq_append_getElem kP)
      have HtQ : Hid (Q.take (k + 1) = Q.take k ++ [Q[k]]) := Lib.hid (List.take_succ_eq_append_getElem kQ)
      have HK : Hid (P = Q → P[k] = Q[k]) := Lib.hid (fun h => by subst h; rfl)
      have HN : Hid (P[k] = Q[k] → P.take (k + 1) = Q.take (k + 1)) := Lib.hid (fun h => by rw [HtP.out, HtQ.out, HE.out, h])
      generalize P[k] = x at *
      generalize Q[k] = y at *
      clear HtP HtQ kP kQ
      by_cases hxy : x = y
      · subst hxy
        have HE' := Lib.hid (HN.out rfl)
        clear HN HK HE
        generalize strOf x = sx at *
        have e1 : (sx == sx) = true := by rw [beq_toListBytes]; exact beq_self_eq_true _
        have e2 : (sx.toList == sx.toList) = true := beq_self_eq_true _
        have e3 : (sx.data.toList == sx.data.toList) = true := beq_self_eq_true _
        go_wp2_with fail
        go_quiet (fail)
        go_wp2_with fail
        go_roundw
        case rel => exact ⟨k + 1, _, by omega, by go_num, rfl, HE'⟩
        case measure => simp [intOf]; omega
      · have HD : Hid (eqX P Q = false) := Lib.hid (eqX_no (fun h => hxy (HK.out h)))
        obtain ⟨e1, e2, e3⟩ := str_ne9 (x := strOf x) (y := strOf y) (by rw [U.strOf_data, U.strOf_data]; exact hxy)
        clear HN HK HE hxy
        generalize strOf x = sx at *
        generalize strOf y = sy at *
        go_wp2_with fail
        go_quiet (fail)
        go_wp2_with fail
        go_ret
        exact ⟨ret_bool HD.out.symm, below_drewN (below_drewN (Below.refl _ _) _) _⟩
    · have HD : Hid (eqX P Q = true) := Lib.hid (eqX_yes (by
        have h := HE.out
        rw [List.take_of_length_le (by rw [LP.out]; omega), List.take_of_length_le (by rw [LQ.out]; omega)] at h
        exact h))
      go_wp2_with fail
      go_ret
      exact ⟨ret_bool HD.out.symm, below_drewN (Below.refl _ _) _⟩
theorem keepTexts_other (n m : Nat) (A B : Option Addr) (c d : Nat) (w : World) (h : n ≠ m) :
    Calls Tryd.prog 37 #[.slice A n c, .slice B m d] w fun e w' => e = .returned (.bool false) ∧ Below w.heap.size w w' := by
  have h' : ((n : Int) != (m : Int)) = true := by rw [bne_iff_ne]; omega
  clear h
  go_enter Tryd.func37, Tryd.ntmps37
  go_wp2_with fail
  go_ret
  exact ⟨rfl, Below.refl _ _⟩
theorem keepTexts_n (P Q : List (List UInt8)) (n m : Nat) (A B : Option Addr) (c d : Nat) (w : World) (hP : RS w w.heap.size A n P) (hQ : RS w w.heap.size B m Q) (hn : n ≤ 1048576) :
    Calls Tryd.prog 37 #[.slice A n c, .slice B m d] w fun e w' => e = .returned (.bool (eqX P Q)) ∧ Below w.heap.size w w' := by
  by_cases h : n = m
  · subst h; exact keepTexts_same n P Q A B c d w hP hQ hn
  · rw [eqX_no (fun e => h (by rw [← hP.1, ← hQ.1, e]))]; exact keepTexts_other n m A B c d w h

def exL : List UInt8 := [97, 98, 195, 169, 97]
theorem ex_of : ofS tTo exL = some [1, 5] := by decide +kernel
theorem ex_cut : cutS tTo exL = some [[97], [98, 195, 169, 97]] := by decide +kernel
theorem rs_lit (W : World) (a : Nat) (ha : a = W.heap.size) (l : List (List UInt8)) (k : Nat) (cells : Array Value) (hc : cells.toList = scells l) (hk : l.length = k) (hk4 : k ≤ 1000) : RS (W.alloc (.cells cells 9)) (W.alloc (.cells cells 9)).heap.size (some ⟨a, 0, none⟩) k l := by
  subst ha
  have h := World.ownsRow_lit (e := 9) (size := 1) W cells k (Nat.le_refl _) (by unfold maxLen; omega) (by rw [← Array.length_toList, hc, scells_len, hk, Nat.mul_one])
  rw [hc] at h
  exact own_RS h
set_option maxHeartbeats 4000000 in
theorem wakes9_any (w : World) (hT : Tab w) : Calls Tryd.prog 31 #[] w fun e w' => e = .returned (.bool true) ∧ Below w.heap.size w w' := by
  have HTw := Lib.hid two_any
  have HOf : Hid (∀ (T : TV) V, T.ok V → Below w.heap.size w V → Calls Tryd.prog 32 #[T.v, .string ⟨#[97, 98, 195, 169, 97]⟩] V (OutPl (ofS T.tb exL) V)) := Lib.hid (fun T V h g => of_any T ⟨#[97, 98, 195, 169, 97]⟩ V h (by decide) (hT.below g))
  have HCu : Hid (∀ (T : TV) V, T.ok V → Below w.heap.size w V → Calls Tryd.prog 34 #[T.v, .string ⟨#[97, 98, 195, 169, 97]⟩] V (OutSs (cutS T.tb exL) V)) := Lib.hid (fun T V h g => cut_any T ⟨#[97, 98, 195, 169, 97]⟩ V h (by decide) (hT.below g))
  have HNo : Hid (∀ V, Below w.heap.size w V → Calls Tryd.prog 32 #[.agg #[.int .i64 0, .slice none 0 0, .slice none 0 0, .slice none 0 0], .string ⟨#[97]⟩] V fun e w' => ∃ A c, e = .returned (.tuple #[.slice A 0 c, .bool false]) ∧ Below V.heap.size V w') := Lib.hid (fun V g => by
    have h := of_any ⟨0, none, 0, 0, [], none, 0, 0, [], none, 0, 0, []⟩ ⟨#[97]⟩ V ⟨RD.nil _ _ _, ⟨fun _ => rfl, Nat.le_refl _, Nat.zero_le _⟩, RN.nil _ _ _, ⟨fun _ => rfl, Nat.le_refl _, Nat.zero_le _⟩, RL.nil _ _ _, ⟨fun _ => rfl, Nat.le_refl _, Nat.zero_le _⟩⟩ (by decide) (hT.below g)
    have e1 : ofS (⟨0, none, 0, 0, [], none, 0, 0, [], none, 0, 0, []⟩ : TV).tb (⟨#[97]⟩ : ByteArray).data.toList = none := by decide +kernel
    rw [e1] at h
    exact h.mono fun e w' ⟨A, c, he, ho, hb⟩ => ⟨A, c, he, hb⟩)
  clear hT
  go_enter Tryd.func31, Tryd.ntmps31
  go_wp2_with fail
  refine (HTw.out _).mono ?_
  rintro e w1 ⟨T, rfl, ht, hok, g⟩
  have b1 : Below w.heap.size w w1 := g
  have hc := HOf.out T w1 hok b1
  rw [ht, ex_of] at hc
  have HC := Lib.hid hc
  clear g hc ht hok
  go_wp2_with fail
  refine HC.out.mono ?_
  rintro e w2 ⟨A2, c2, rfl, hown, g⟩
  simp only [Option.getD_some, List.length_cons, List.length_nil, Option.isSome_some, Nat.zero_add, Nat.reduceAdd] at hown ⊢
  have b1 := below_call b1 b1.size g
  have HR2 := Lib.hid (own_RI hown)
  clear g HC hown
  go_wp2_with fail
  refine (HTw.out _).mono ?_
  rintro e w3 ⟨T3, rfl, ht, hok, g⟩
  have b1 := below_call b1 b1.size g
  have HR2 := Lib.hid (HR2.out.on g)
  have hc := HCu.out T3 w3 hok b1
  rw [ht, ex_cut] at hc
  have HC := Lib.hid hc
  clear g hc ht hok
  go_wp2_with fail
  refine HC.out.mono ?_
  rintro e w4 ⟨A4, c4, rfl, hown, g⟩
  simp only [Option.getD_some, List.length_cons, List.length_nil, Option.isSome_some, Nat.zero_add, Nat.reduceAdd] at hown ⊢
  have b1 := below_call b1 b1.size g
  have HR2 := Lib.hid (HR2.out.on g)
  have HR4 := Lib.hid (own_RS hown)
  clear g HC hown
  go_wp2_with fail
  refine (HNo.out _ b1).mono ?_
  rintro e w5 ⟨A5, c5, rfl, g⟩
  have b1 := below_call b1 b1.size g
  have HR2 := Lib.hid (HR2.out.on g)
  have HR4 := Lib.hid (HR4.out.on g)
  clear g
  have ga := below_new w5 (.cells #[.int .i64 1, .int .i64 5] 3)
  have hk := keepInts_n [1, 5] [1, 5] 2 2 A2 (some ⟨w5.heap.size, 0, none⟩) c2 2 (w5.alloc (.cells #[.int .i64 1, .int .i64 5] 3)) (HR2.out.on ga) (ri_lit w5 _ rfl [1, 5] 2 #[.int .i64 1, .int .i64 5] rfl rfl (by decide)) (by decide)
  rw [eqX_yes rfl] at hk
  have HK := Lib.hid hk
  have b1 := below_call b1 b1.size ga
  have HR4 := Lib.hid (HR4.out.on ga)
  clear hk ga HR2
  go_wp2_with fail
  refine HK.out.mono ?_
  rintro e w6 ⟨rfl, g⟩
  have b1 := below_call b1 b1.size g
  have HR4 := Lib.hid (HR4.out.on g)
  clear g HK
  have ga := below_new w6 (.cells #[.string (strOf [97]), .string (strOf [98, 195, 169, 97])] 9)
  have hk := keepTexts_n [[97], [98, 195, 169, 97]] [[97], [98, 195, 169, 97]] 2 2 A4 (some ⟨w6.heap.size, 0, none⟩) c4 2 (w6.alloc (.cells #[.string (strOf [97]), .string (strOf [98, 195, 169, 97])] 9)) (HR4.out.on ga) (rs_lit w6 _ rfl [[97], [98, 195, 169, 97]] 2 #[.string (strOf [97]), .string (strOf [98, 195, 169, 97])] rfl rfl (by decide)) (by decide)
  rw [eqX_yes rfl] at hk
  have b1 := below_call b1 b1.size ga
  have s1 : strOf [97] = ⟨#[97]⟩ := rfl
  have s2 : strOf [98, 195, 169, 97] = ⟨#[98, 195, 169, 97]⟩ := rfl
  rw [s1, s2] at hk b1
  have HK := Lib.hid hk
  clear hk ga HR4 s1 s2
  go_wp2_with fail
  refine HK.out.mono ?_
  rintro e w7 ⟨rfl, g⟩
  have b1 := below_call b1 b1.size g
  clear g HK
  go_wp2_with fail
  go_ret
  exact ⟨rfl, b1⟩
end Go.Proofs.YtbnconieedgcmaaDoor
