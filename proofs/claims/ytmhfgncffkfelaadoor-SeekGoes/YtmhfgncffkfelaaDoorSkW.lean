/- What wakes of stage 10's laws returns. -/
import Derived.Test.YtmhfgncffkfelaaDoorSkK
namespace Go.Proofs.YtmhfgncffkfelaaDoor
open Go.RowKit Go.BigFrame
open U (Tr tcells tcell tris Tab)
set_option linter.unusedVariables false
set_option maxRecDepth 4000
set_option linter.unusedSimpArgs false

theorem ev_is1 : isA tTo exL 1 = true := by decide +kernel
theorem ev_nx1 : nextA tTo exL 1 = 5 := by decide +kernel
theorem ev_pv5 : prevA tTo exL 5 = 1 := by decide +kernel
theorem ev_nx5 : nextA tTo exL 5 = 6 := by decide +kernel
theorem ev_pv6 : prevA tTo exL 6 = 0 := by decide +kernel
theorem ev_pv1 : prevA tTo exL 1 = -1 := by decide +kernel
theorem ev_e1 : seekE tTo 5 1 = 0 := by decide +kernel
theorem ev_e5 : seekE tTo 5 5 = 0 := by decide +kernel
theorem ev_e6 : seekE tTo 5 6 = 2 := by decide +kernel
abbrev tvN : TV := ⟨0, none, 0, 0, [], none, 0, 0, [], none, 0, 0, []⟩
theorem tvN_ok (V : World) : tvN.ok V := ⟨RD.nil _ _ _, ⟨fun _ => rfl, Nat.le_refl _, Nat.zero_le _⟩, RN.nil _ _ _, ⟨fun _ => rfl, Nat.le_refl _, Nat.zero_le _⟩, RL.nil _ _ _, ⟨fun _ => rfl, Nat.le_refl _, Nat.zero_le _⟩⟩
theorem ev_no : isA tvN.tb exL 1 = false := by decide +kernel
theorem ev_eN : seekE tvN.tb 5 1 = 1 := by decide +kernel
theorem wk_is1 (T : TV) (V : World) (ht : T.tb = tTo) (hT : T.ok V) (hTab : Tab V) : Calls Tryd.prog 32 #[T.v, .string ⟨#[97, 98, 195, 169, 97]⟩, .int .i64 1] V fun e w' => e = .returned (.tuple #[.bool true, .int .i64 0]) ∧ Below V.heap.size V w' := by
  have h := is_any T ⟨#[97, 98, 195, 169, 97]⟩ 1 V hT (by decide) hTab (by omega)
  rw [ht] at h
  have e1 : (⟨#[97, 98, 195, 169, 97]⟩ : ByteArray).data.toList = exL := rfl
  have e2 : (⟨#[97, 98, 195, 169, 97]⟩ : ByteArray).size = 5 := rfl
  rw [e1, e2, ev_is1, ev_e1] at h
  exact h
theorem wk_next1 (T : TV) (V : World) (ht : T.tb = tTo) (hT : T.ok V) (hTab : Tab V) : Calls Tryd.prog 33 #[T.v, .string ⟨#[97, 98, 195, 169, 97]⟩, .int .i64 1] V fun e w' => e = .returned (.tuple #[.int .i64 5, .int .i64 0]) ∧ Below V.heap.size V w' := by
  have h := next_any T ⟨#[97, 98, 195, 169, 97]⟩ 1 V hT (by decide) hTab (by omega)
  rw [ht] at h
  have e1 : (⟨#[97, 98, 195, 169, 97]⟩ : ByteArray).data.toList = exL := rfl
  have e2 : (⟨#[97, 98, 195, 169, 97]⟩ : ByteArray).size = 5 := rfl
  rw [e1, e2, ev_nx1, ev_e1] at h
  exact h
theorem wk_prev5 (T : TV) (V : World) (ht : T.tb = tTo) (hT : T.ok V) (hTab : Tab V) : Calls Tryd.prog 34 #[T.v, .string ⟨#[97, 98, 195, 169, 97]⟩, .int .i64 5] V fun e w' => e = .returned (.tuple #[.int .i64 1, .int .i64 0]) ∧ Below V.heap.size V w' := by
  have h := prev_any T ⟨#[97, 98, 195, 169, 97]⟩ 5 V hT (by decide) hTab (by omega)
  rw [ht] at h
  have e1 : (⟨#[97, 98, 195, 169, 97]⟩ : ByteArray).data.toList = exL := rfl
  have e2 : (⟨#[97, 98, 195, 169, 97]⟩ : ByteArray).size = 5 := rfl
  rw [e1, e2, ev_pv5, ev_e5] at h
  exact h
theorem wk_next5 (T : TV) (V : World) (ht : T.tb = tTo) (hT : T.ok V) (hTab : Tab V) : Calls Tryd.prog 33 #[T.v, .string ⟨#[97, 98, 195, 169, 97]⟩, .int .i64 5] V fun e w' => e = .returned (.tuple #[.int .i64 6, .int .i64 0]) ∧ Below V.heap.size V w' := by
  have h := next_any T ⟨#[97, 98, 195, 169, 97]⟩ 5 V hT (by decide) hTab (by omega)
  rw [ht] at h
  have e1 : (⟨#[97, 98, 195, 169, 97]⟩ : ByteArray).data.toList = exL := rfl
  have e2 : (⟨#[97, 98, 195, 169, 97]⟩ : ByteArray).size = 5 := rfl
  rw [e1, e2, ev_nx5, ev_e5] at h
  exact h
theorem wk_prev6 (T : TV) (V : World) (ht : T.tb = tTo) (hT : T.ok V) (hTab : Tab V) : Calls Tryd.prog 34 #[T.v, .string ⟨#[97, 98, 195, 169, 97]⟩, .int .i64 6] V fun e w' => e = .returned (.tuple #[.int .i64 0, .int .i64 2]) ∧ Below V.heap.size V w' := by
  have h := prev_any T ⟨#[97, 98, 195, 169, 97]⟩ 6 V hT (by decide) hTab (by omega)
  rw [ht] at h
  have e1 : (⟨#[97, 98, 195, 169, 97]⟩ : ByteArray).data.toList = exL := rfl
  have e2 : (⟨#[97, 98, 195, 169, 97]⟩ : ByteArray).size = 5 := rfl
  rw [e1, e2, ev_pv6, ev_e6] at h
  exact h
theorem wk_prev1 (T : TV) (V : World) (ht : T.tb = tTo) (hT : T.ok V) (hTab : Tab V) : Calls Tryd.prog 34 #[T.v, .string ⟨#[97, 98, 195, 169, 97]⟩, .int .i64 1] V fun e w' => e = .returned (.tuple #[.int .i64 (-1), .int .i64 0]) ∧ Below V.heap.size V w' := by
  have h := prev_any T ⟨#[97, 98, 195, 169, 97]⟩ 1 V hT (by decide) hTab (by omega)
  rw [ht] at h
  have e1 : (⟨#[97, 98, 195, 169, 97]⟩ : ByteArray).data.toList = exL := rfl
  have e2 : (⟨#[97, 98, 195, 169, 97]⟩ : ByteArray).size = 5 := rfl
  rw [e1, e2, ev_pv1, ev_e1] at h
  exact h
theorem wk_none (V : World) (hTab : Tab V) : Calls Tryd.prog 32 #[.agg #[.int .i64 0, .slice none 0 0, .slice none 0 0, .slice none 0 0], .string ⟨#[97, 98, 195, 169, 97]⟩, .int .i64 1] V fun e w' => e = .returned (.tuple #[.bool false, .int .i64 1]) ∧ Below V.heap.size V w' := by
  have h := is_any tvN ⟨#[97, 98, 195, 169, 97]⟩ 1 V (tvN_ok V) (by decide) hTab (by omega)
  have e1 : (⟨#[97, 98, 195, 169, 97]⟩ : ByteArray).data.toList = exL := rfl
  have e2 : (⟨#[97, 98, 195, 169, 97]⟩ : ByteArray).size = 5 := rfl
  rw [e1, e2, ev_no, ev_eN] at h
  exact h
set_option maxHeartbeats 8000000 in
theorem wakes10_any (w : World) (hT : Tab w) : Calls Tryd.prog 31 #[] w fun e w' => e = .returned (.bool true) ∧ Below w.heap.size w w' := by
  have HTw := Lib.hid two_any
  have HTb := Lib.hid (fun V (g : Below w.heap.size w V) => hT.below g)
  clear hT
  go_enter Tryd.func31, Tryd.ntmps31
  go_wp2_with fail
  refine (HTw.out _).mono ?_
  rintro e w1 ⟨T, rfl, ht, hok, g⟩
  have HX := Lib.hid (box_new w1 T)
  have hoN := hok.on (below_new w1 (.cells #[.int .i64 T.cl, .slice T.a1 T.n1 T.c1, .slice T.a2 T.n2 T.c2, .slice T.a3 T.n3 T.c3] 26))
  have bb : Below w.heap.size w (w1.alloc (.cells #[.int .i64 T.cl, .slice T.a1 T.n1 T.c1, .slice T.a2 T.n2 T.c2, .slice T.a3 T.n3 T.c3] 26)) := below_call g g.size (below_new _ _)
  have HT := Lib.hid (fun V (gg : Below (w1.alloc (.cells #[.int .i64 T.cl, .slice T.a1 T.n1 T.c1, .slice T.a2 T.n2 T.c2, .slice T.a3 T.n3 T.c3] 26)).heap.size (w1.alloc (.cells #[.int .i64 T.cl, .slice T.a1 T.n1 T.c1, .slice T.a2 T.n2 T.c2, .slice T.a3 T.n3 T.c3] 26)) V) => hoN.on gg)
  have Ht := Lib.hid ht
  clear ht hok hoN g HTw
  simp only [TV.v] at *
  obtain ⟨_, p0, p1, p2, p3⟩ := HX.out
  go_wp2_with fail
  generalize hw2 : (w1.alloc (.cells #[.int .i64 T.cl, .slice T.a1 T.n1 T.c1, .slice T.a2 T.n2 T.c2, .slice T.a3 T.n3 T.c3] 26)) = w2 at *
  clear hw2
  have b2 : Below w2.heap.size w2 w2 := Below.refl _ _
  refine (wk_is1 T _ Ht.out (HT.out _ b2) (HTb.out _ bb)).mono ?_
  rintro e w3 ⟨rfl, g⟩
  have HX := Lib.hid (HX.out.on g)
  have b2 := below_call b2 b2.size g
  have bb := below_call bb bb.size g
  clear g p0 p1 p2 p3
  obtain ⟨_, p0, p1, p2, p3⟩ := HX.out
  go_wp2_with fail
  refine (wk_next1 T _ Ht.out (HT.out _ b2) (HTb.out _ bb)).mono ?_
  rintro e w4 ⟨rfl, g⟩
  have HX := Lib.hid (HX.out.on g)
  have b2 := below_call b2 b2.size g
  have bb := below_call bb bb.size g
  clear g p0 p1 p2 p3
  obtain ⟨_, p0, p1, p2, p3⟩ := HX.out
  go_wp2_with fail
  refine (wk_prev5 T _ Ht.out (HT.out _ b2) (HTb.out _ bb)).mono ?_
  rintro e w5 ⟨rfl, g⟩
  have HX := Lib.hid (HX.out.on g)
  have b2 := below_call b2 b2.size g
  have bb := below_call bb bb.size g
  clear g p0 p1 p2 p3
  obtain ⟨_, p0, p1, p2, p3⟩ := HX.out
  go_wp2_with fail
  refine (wk_next5 T _ Ht.out (HT.out _ b2) (HTb.out _ bb)).mono ?_
  rintro e w6 ⟨rfl, g⟩
  have HX := Lib.hid (HX.out.on g)
  have b2 := below_call b2 b2.size g
  have bb := below_call bb bb.size g
  clear g p0 p1 p2 p3
  obtain ⟨_, p0, p1, p2, p3⟩ := HX.out
  go_wp2_with fail
  refine (wk_prev6 T _ Ht.out (HT.out _ b2) (HTb.out _ bb)).mono ?_
  rintro e w7 ⟨rfl, g⟩
  have HX := Lib.hid (HX.out.on g)
  have b2 := below_call b2 b2.size g
  have bb := below_call bb bb.size g
  clear g p0 p1 p2 p3
  obtain ⟨_, p0, p1, p2, p3⟩ := HX.out
  go_wp2_with fail
  refine (wk_none _ (HTb.out _ bb)).mono ?_
  rintro e w8 ⟨rfl, g⟩
  have HX := Lib.hid (HX.out.on g)
  have b2 := below_call b2 b2.size g
  have bb := below_call bb bb.size g
  clear g p0 p1 p2 p3
  obtain ⟨_, p0, p1, p2, p3⟩ := HX.out
  go_wp2_with fail
  refine (wk_prev1 T _ Ht.out (HT.out _ b2) (HTb.out _ bb)).mono ?_
  rintro e w9 ⟨rfl, g⟩
  have HX := Lib.hid (HX.out.on g)
  have b2 := below_call b2 b2.size g
  have bb := below_call bb bb.size g
  clear g p0 p1 p2 p3
  obtain ⟨_, p0, p1, p2, p3⟩ := HX.out
  go_wp2_with fail
  go_ret
  exact ⟨rfl, bb⟩
end Go.Proofs.YtmhfgncffkfelaaDoor
