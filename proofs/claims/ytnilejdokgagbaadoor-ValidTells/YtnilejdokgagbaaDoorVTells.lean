/- ValidTells: whether any table may be, or what is broken first; so of any bytes; which states are alike: as the document says. -/
import Derived.Test.YtnilejdokgagbaaDoorVByt
import Derived.Deep.CutRange
namespace Go.Proofs.YtnilejdokgagbaaDoor.validTells
open Go.RowKit Go.Deep Go.BigFrame
set_option linter.unusedVariables false
set_option maxRecDepth 4000
set_option linter.unusedSimpArgs false

set_option maxHeartbeats 16000000 in
theorem walk (T : TV) (l : List Nat) (n : Nat) (A : Option Addr) (c : Nat) (x y : Int) (W : World) (hT : T.ok W) (hR : RB W W.heap.size A n l) (hs : Shp A n c) (hM : Mark W) :
    Calls Tryd.prog 4 #[T.v, .slice A n c, .agg #[.int .i64 x, .int .i64 y]] W fun e W' => e = .returned (.bool true) ∧ Below W.heap.size W W' := by
  have HLT := Lib.hid (fun V (g : Below W.heap.size W V) => large_any T V (hT.on g))
  have HWk := Lib.hid (fun V (g : Below W.heap.size W V) => wakesV_any V (hM.on g))
  have HOT := Lib.hid (fun (h : Small T.tb) V (g : Below W.heap.size W V) => ownTable_any T V (hT.on g) h)
  have HDc := Lib.hid (fun (h : n ≤ 10000) V (g : Below W.heap.size W V) => refBytes_any l n A c V (hR.on g) hs.2.1 h)
  have HRT := Lib.hid (fun V (g : Below W.heap.size W V) => hT.on g)
  have HRB := Lib.hid (fun V (g : Below W.heap.size W V) => hR.on g)
  have HMk := Lib.hid (fun V (g : Below W.heap.size W V) => hM.on g)
  have hn63 : n ≤ 9223372036854775807 := by have := hs.2; unfold maxLen at this; omega
  have HS := Lib.hid hs
  have b1 := below_new W (.cells #[.int .i64 T.cl, .slice T.a1 T.n1 T.c1, .slice T.a2 T.n2 T.c2, .slice T.a3 T.n3 T.c3] 26)
  have X1 := box_new W T
  have b2 := below_new (W.alloc (.cells #[.int .i64 T.cl, .slice T.a1 T.n1 T.c1, .slice T.a2 T.n2 T.c2, .slice T.a3 T.n3 T.c3] 26)) (.cells #[.int .i64 x, .int .i64 y] 43)
  have HX := Lib.hid (X1.on b2)
  have bb := b1.trans (b2.mono b1.size)
  have hz1 : (W.alloc (.cells #[.int .i64 T.cl, .slice T.a1 T.n1 T.c1, .slice T.a2 T.n2 T.c2, .slice T.a3 T.n3 T.c3] 26)).heap.size = W.heap.size + 1 := by simp
  have n0 : ((W.alloc (.cells #[.int .i64 T.cl, .slice T.a1 T.n1 T.c1, .slice T.a2 T.n2 T.c2, .slice T.a3 T.n3 T.c3] 26)).alloc (.cells #[.int .i64 x, .int .i64 y] 43)).cell? ⟨(W.alloc (.cells #[.int .i64 T.cl, .slice T.a1 T.n1 T.c1, .slice T.a2 T.n2 T.c2, .slice T.a3 T.n3 T.c3] 26)).heap.size, 0, none⟩ = some (.int .i64 x) := by simp
  have n1 : ((W.alloc (.cells #[.int .i64 T.cl, .slice T.a1 T.n1 T.c1, .slice T.a2 T.n2 T.c2, .slice T.a3 T.n3 T.c3] 26)).alloc (.cells #[.int .i64 x, .int .i64 y] 43)).cell? ⟨(W.alloc (.cells #[.int .i64 T.cl, .slice T.a1 T.n1 T.c1, .slice T.a2 T.n2 T.c2, .slice T.a3 T.n3 T.c3] 26)).heap.size, 1, none⟩ = some (.int .i64 y) := by simp
  rw [hz1] at n0 n1
  clear hT hR hs hM b1 X1 b2
  simp only [TV.v] at *
  obtain ⟨_, p0, p1, p2, p3⟩ := HX.out
  go_enter Tryd.func4, Tryd.ntmps4
  go_wp2_with fail
  generalize (W.alloc (.cells #[.int .i64 T.cl, .slice T.a1 T.n1 T.c1, .slice T.a2 T.n2 T.c2, .slice T.a3 T.n3 T.c3] 26)).alloc (.cells #[.int .i64 x, .int .i64 y] 43) = V0 at *
  refine (HLT.out _ bb).mono ?_
  rintro e w1 ⟨q, rfl, g, hq⟩
  have HQ := Lib.hid hq
  clear hq HLT
  clear p0 p1 p2 p3
  replace bb := bb.trans (g.mono bb.size)
  replace HX := Lib.hid (HX.out.on g)
  replace n0 := kept_cell g n0
  replace n1 := kept_cell g n1
  clear g
  obtain ⟨_, p0, p1, p2, p3⟩ := HX.out
  cases q
  case true =>
    go_wp2_with fail
    refine (HWk.out _ bb).mono ?_
    rintro e w9 ⟨rfl, g9⟩
    have bf := bb.trans (g9.mono bb.size)
    clear g9
    go_wp2_with fail
    go_ret
    exact ⟨rfl, bf⟩
  have hST := HQ.out rfl
  clear HQ
  by_cases hn2 : 2000 < n
  · have hnI : (2000 : Int) < (n : Int) := by omega
    go_wp2_with fail
    refine (HWk.out _ bb).mono ?_
    rintro e w9 ⟨rfl, g9⟩
    have bf := bb.trans (g9.mono bb.size)
    clear g9
    go_wp2_with fail
    go_ret
    exact ⟨rfl, bf⟩
  have hnI : ¬ (2000 : Int) < (n : Int) := by omega
  go_wp2_with fail
  refine (HOT.out hST _ bb).mono ?_
  rintro e w3 ⟨T5, rfl, tb5, ok5, g⟩
  clear HOT
  clear p0 p1 p2 p3
  replace bb := bb.trans (g.mono bb.size)
  replace HX := Lib.hid (HX.out.on g)
  replace n0 := kept_cell g n0
  replace n1 := kept_cell g n1
  clear g
  obtain ⟨_, p0, p1, p2, p3⟩ := HX.out
  have g := below_new w3 (.cells #[.int .i64 T5.cl, .slice T5.a1 T5.n1 T5.c1, .slice T5.a2 T5.n2 T5.c2, .slice T5.a3 T5.n3 T5.c3] 26)
  have HO := Lib.hid (ok5.on g)
  clear ok5
  clear p0 p1 p2 p3
  replace bb := bb.trans (g.mono bb.size)
  replace HX := Lib.hid (HX.out.on g)
  replace n0 := kept_cell g n0
  replace n1 := kept_cell g n1
  clear g
  have HZ := Lib.hid (box_new w3 T5)
  simp only [TV.v]
  obtain ⟨_, p0, p1, p2, p3⟩ := HX.out
  obtain ⟨_, z0, z1, z2, z3⟩ := HZ.out
  go_upto_region 4 with (fail)
  generalize w3.alloc (.cells #[.int .i64 T5.cl, .slice T5.a1 T5.n1 T5.c1, .slice T5.a2 T5.n2 T5.c2, .slice T5.a3 T5.n3 T5.c3] 26) = w6 at *
  have HRb := Lib.hid (HRB.out _ bb)
  have HOm := Lib.hid (World.ownsRow_made (e := 5) (size := 1) w6 #[] 0 (Nat.le_refl _) (Nat.zero_le _) (by simp))
  have HRd := Lib.hid (HRb.out.2.1.alloc (Nat.le_refl _) (.cells #[] 5))
  have HOne := Lib.hid (ycells_one l)
  have HNil : Hid (A = none → c = 0) := Lib.hid HS.out.1
  have HLt := Lib.hid HRb.out.2.2
  obtain ⟨i0, hi0, hz0, hz1, hz2⟩ := info_parts info5
  go_wp2_with (at_builtin; refine wpList_append_src rfl _ _ 27 rfl w6.heap.size 5 i0 _ 1 1 Tryd.underlying27 hi0 hz0 hz1 hz2 rfl (by decide) _ _ _ rfl HOm.out A n c w6.heap.size (ycells l) rfl HNil.out HRd.out HOne.out ?c3 ?c4 ?c5 ?_)
  case c3 => unfold maxLen; omega
  case c4 => omega
  try (case c5 => simp)
  intro A8 d8 w7 hown hnil hgrow
  have g : Below w6.heap.size w6 w7 := below_grown (below_new _ _) (by simp) HOm.out hgrow
  have HO8 : Hid (w7.ownsRow w6.heap.size 5 1 (.slice A8 n d8) n (ycells l)) := Lib.hid (by simpa using hown)
  try simp only [Nat.zero_add]
  clear hown hgrow hnil HOm HRd HOne HNil HRb
  clear p0 p1 p2 p3 z0 z1 z2 z3
  replace bb := bb.trans (g.mono bb.size)
  replace HX := Lib.hid (HX.out.on g)
  replace HZ := Lib.hid (HZ.out.on g)
  replace HO := Lib.hid (HO.out.on g)
  replace n0 := kept_cell g n0
  replace n1 := kept_cell g n1
  clear g
  obtain ⟨_, p0, p1, p2, p3⟩ := HX.out
  obtain ⟨_, z0, z1, z2, z3⟩ := HZ.out
  have HR8 := Lib.hid (own_RB HO8.out HLt.out)
  have HS8 := Lib.hid (own_shp HO8.out)
  have HDe := Lib.hid (validBytes_any l n A8 d8 w7 HR8.out HS8.out (by omega) (HMk.out _ bb))
  have hsd : Small (vTab l) := vTab_small HLt.out
  clear HR8 HS8 HO8 HLt
  have HDf := Lib.hid (HDc.out (by omega))
  clear HDc
  unfold OutVb at HDe HDf
  generalize vErr l = er at *
  generalize vTab l = dt at *
  go_wp2_with fail
  refine HDe.out.mono ?_
  rintro e w8 ⟨V1, rfl, ok1, tb1, g⟩
  clear HDe
  clear p0 p1 p2 p3 z0 z1 z2 z3
  replace bb := bb.trans (g.mono bb.size)
  replace HX := Lib.hid (HX.out.on g)
  replace HZ := Lib.hid (HZ.out.on g)
  replace HO := Lib.hid (HO.out.on g)
  replace n0 := kept_cell g n0
  replace n1 := kept_cell g n1
  clear g
  obtain ⟨_, p0, p1, p2, p3⟩ := HX.out
  obtain ⟨_, z0, z1, z2, z3⟩ := HZ.out
  have g := below_new w8 (.cells #[.int .i64 V1.cl, .slice V1.a1 V1.n1 V1.c1, .slice V1.a2 V1.n2 V1.c2, .slice V1.a3 V1.n3 V1.c3] 26)
  have HV1 := Lib.hid (ok1.on g)
  clear ok1
  clear p0 p1 p2 p3 z0 z1 z2 z3
  replace bb := bb.trans (g.mono bb.size)
  replace HX := Lib.hid (HX.out.on g)
  replace HZ := Lib.hid (HZ.out.on g)
  replace HO := Lib.hid (HO.out.on g)
  replace n0 := kept_cell g n0
  replace n1 := kept_cell g n1
  clear g
  have HV := Lib.hid (box_new w8 V1)
  simp only [TV.v]
  obtain ⟨_, p0, p1, p2, p3⟩ := HX.out
  obtain ⟨_, z0, z1, z2, z3⟩ := HZ.out
  obtain ⟨_, v0, v1, v2, v3⟩ := HV.out
  go_wp2_with fail
  generalize w8.alloc (.cells #[.int .i64 V1.cl, .slice V1.a1 V1.n1 V1.c1, .slice V1.a2 V1.n2 V1.c2, .slice V1.a3 V1.n3 V1.c3] 26) = w9 at *
  refine (HDf.out _ bb).mono ?_
  rintro e w10 ⟨V2, rfl, ok2, tb2, g⟩
  clear HDf
  clear p0 p1 p2 p3 z0 z1 z2 z3 v0 v1 v2 v3
  replace bb := bb.trans (g.mono bb.size)
  replace HX := Lib.hid (HX.out.on g)
  replace HZ := Lib.hid (HZ.out.on g)
  replace HV := Lib.hid (HV.out.on g)
  replace HO := Lib.hid (HO.out.on g)
  replace HV1 := Lib.hid (HV1.out.on g)
  replace n0 := kept_cell g n0
  replace n1 := kept_cell g n1
  clear g
  obtain ⟨_, p0, p1, p2, p3⟩ := HX.out
  obtain ⟨_, z0, z1, z2, z3⟩ := HZ.out
  obtain ⟨_, v0, v1, v2, v3⟩ := HV.out
  have g := below_new w10 (.cells #[.int .i64 V2.cl, .slice V2.a1 V2.n1 V2.c1, .slice V2.a2 V2.n2 V2.c2, .slice V2.a3 V2.n3 V2.c3] 26)
  have HV2 := Lib.hid (ok2.on g)
  clear ok2
  clear p0 p1 p2 p3 z0 z1 z2 z3 v0 v1 v2 v3
  replace bb := bb.trans (g.mono bb.size)
  replace HX := Lib.hid (HX.out.on g)
  replace HZ := Lib.hid (HZ.out.on g)
  replace HV := Lib.hid (HV.out.on g)
  replace HO := Lib.hid (HO.out.on g)
  replace HV1 := Lib.hid (HV1.out.on g)
  replace n0 := kept_cell g n0
  replace n1 := kept_cell g n1
  clear g
  have HU2 := Lib.hid (box_new w10 V2)
  simp only [TV.v]
  obtain ⟨_, p0, p1, p2, p3⟩ := HX.out
  obtain ⟨_, z0, z1, z2, z3⟩ := HZ.out
  obtain ⟨_, v0, v1, v2, v3⟩ := HV.out
  obtain ⟨_, u0, u1, u2, u3⟩ := HU2.out
  go_upto_region 6 with (fail)
  generalize w10.alloc (.cells #[.int .i64 V2.cl, .slice V2.a1 V2.n1 V2.c1, .slice V2.a2 V2.n2 V2.c2, .slice V2.a3 V2.n3 V2.c3] 26) = w12 at *
  obtain ⟨ev, hev⟩ : ∃ q, errV T.tb = q := ⟨_, rfl⟩
  obtain ⟨al, hal⟩ : ∃ q, alikeV T.tb x y = q := ⟨_, rfl⟩
  have e0 : (ev == ev) = true := by simp
  have e1 : (er == er) = true := by simp
  have e2 : (al == al) = true := by cases al <;> rfl
  have hC1 : Hid (∀ V, Below w12.heap.size w12 V → Calls Tryd.prog 20 #[T5.v] V fun e w' => e = .returned (.int .i64 ev) ∧ Below w12.heap.size w12 w') := Lib.hid (fun V h => (validTable_any T5 V (HO.out.on h)).mono (fun e w' k => ⟨by rw [k.1, tb5, hev], h.trans (k.2.mono h.size)⟩))
  have hC2 : Hid (∀ V, Below w12.heap.size w12 V → Calls Tryd.prog 21 #[T.v] V fun e w' => e = .returned (.int .i64 ev) ∧ Below w12.heap.size w12 w') := Lib.hid (fun V h => (refTable_any T V ((HRT.out _ bb).on h)).mono (fun e w' k => ⟨by rw [k.1, hev], h.trans (k.2.mono h.size)⟩))
  have hT1 : Hid (∀ V, Below w12.heap.size w12 V → Calls Tryd.prog 13 #[V1.v, V2.v] V fun e w' => e = .returned (.bool true) ∧ Below w12.heap.size w12 w') := Lib.hid (fun V h => (keepTable_s V1 V2 V (HV1.out.on h) (HV2.out.on h) (by rw [tb1]; exact hsd)).mono (fun e w' k => ⟨by rw [k.1, eqT_yes (by rw [tb1, tb2])], h.trans (k.2.mono h.size)⟩))
  have hA1 : Hid (∀ V, Below w12.heap.size w12 V → Calls Tryd.prog 22 #[T5.v, .int .i64 x, .int .i64 y] V fun e w' => e = .returned (.bool al) ∧ Below w12.heap.size w12 w') := Lib.hid (fun V h => (alike_any T5 x y V (HO.out.on h)).mono (fun e w' k => ⟨by rw [k.1, tb5, hal], h.trans (k.2.mono h.size)⟩))
  have hA2 : Hid (∀ V, Below w12.heap.size w12 V → Calls Tryd.prog 23 #[T.v, .int .i64 x, .int .i64 y] V fun e w' => e = .returned (.bool al) ∧ Below w12.heap.size w12 w') := Lib.hid (fun V h => (refAlike_any T x y V ((HRT.out _ bb).on h)).mono (fun e w' k => ⟨by rw [k.1, hal], h.trans (k.2.mono h.size)⟩))
  have hT3 : Hid (∀ V, Below w12.heap.size w12 V → Calls Tryd.prog 13 #[T5.v, T.v] V fun e w' => e = .returned (.bool true) ∧ Below w12.heap.size w12 w') := Lib.hid (fun V h => (keepTable_s T5 T V (HO.out.on h) ((HRT.out _ bb).on h) (by rw [tb5]; exact hST)).mono (fun e w' k => ⟨by rw [k.1, eqT_yes tb5], h.trans (k.2.mono h.size)⟩))
  have hW : Hid (∀ V, Below w12.heap.size w12 V → Calls Tryd.prog 17 #[] V fun e w' => e = .returned (.bool true) ∧ Below w12.heap.size w12 w') := Lib.hid (fun V h => (HWk.out V (bb.trans (h.mono bb.size))).mono (fun e w' k => ⟨k.1, h.trans (k.2.mono h.size)⟩))
  simp only [TV.v] at hC1 hC2 hT1 hA1 hA2 hT3
  have bR := Below.refl w12.heap.size w12
  clear HWk HRT HO HV1 HV2 tb1 tb2 tb5 hST hsd hev hal HRB HMk HS HX HZ HV HU2
  (try simp only [List.append_eq, List.cons_append, List.nil_append])
  refine wp_region_held_drew (S := fun V => Below w12.heap.size w12 V) (by kernel_rfl) ?_ (fun hHeld => ?_)
  · exact Below.drew bR
  refine wpAnyH_take (i := 0) (oi := _) (v := ?_) rfl (by kernel_rfl) (by kernel_rfl) (by kernel_rfl) (fun _ _ _ h => h) (Or.inl ⟨by kernel_rfl, ?hy0x0⟩) (by assumption) ?hr0x0
  case hy0x0 =>
    intro w hSw
    have kz0 := kept_cell hSw z0
    have kz1 := kept_cell hSw z1
    have kz2 := kept_cell hSw z2
    have kz3 := kept_cell hSw z3
    go_simp
    (try with_reducible rfl)
  (try simp only [List.getElem_toArray, List.getElem_cons_succ, List.getElem_cons_zero])
  (try simp only [Act.put, List.setIfInBounds_toArray, List.set_cons_zero, List.set_cons_succ])
  refine wpAnyH_take (i := 2) (oi := _) (v := ?_) rfl (by kernel_rfl) (by kernel_rfl) (by kernel_rfl) (fun _ _ _ h => h) (Or.inl ⟨by kernel_rfl, ?hy2x1⟩) (by assumption) ?hr2x1
  case hy2x1 =>
    intro w hSw
    have kp0 := kept_cell hSw p0
    have kp1 := kept_cell hSw p1
    have kp2 := kept_cell hSw p2
    have kp3 := kept_cell hSw p3
    go_simp
    (try with_reducible rfl)
  (try simp only [List.getElem_toArray, List.getElem_cons_succ, List.getElem_cons_zero])
  (try simp only [Act.put, List.setIfInBounds_toArray, List.set_cons_zero, List.set_cons_succ])
  refine wpAnyH_ready (rs := [1]) (by kernel_rfl) (by simp) ?_
  refine AllReadyH.cons (o := _) rfl (fun Kx hKx => ?_) ?_
  · go_simp
    go_at_call 20
    with_reducible refine Calls.mono (hC1.out _ ?_) ?_
    · assumption
    rintro e V1 ⟨rfl, b1⟩
    (try go_wp2_with fail)
    refine hKx.out _ _ ?_ (fun hHeld => ?_)
    · exact b1
    clear hKx Kx
    (try simp only [Act.put, List.setIfInBounds_toArray, List.set_cons_zero, List.set_cons_succ])
    refine wpAnyH_ready (rs := [3]) (by kernel_rfl) (by simp) ?_
    refine AllReadyH.cons (o := _) rfl (fun Kx hKx => ?_) ?_
    · go_simp
      go_at_call 21
      with_reducible refine Calls.mono (hC2.out _ ?_) ?_
      · assumption
      rintro e V3 ⟨rfl, b3⟩
      (try go_wp2_with fail)
      refine hKx.out _ _ ?_ (fun hHeld => ?_)
      · exact b3
      clear hKx Kx
      (try simp only [Act.put, List.setIfInBounds_toArray, List.set_cons_zero, List.set_cons_succ])
      refine wpAnyH_take (i := 4) (oi := _) (v := ?_) rfl (by kernel_rfl) (by kernel_rfl) (by kernel_rfl) (fun _ _ _ h => h) (Or.inl ⟨by kernel_rfl, ?hy4x2⟩) (by assumption) ?hr4x2
      case hy4x2 =>
        intro w hSw
        go_simp
        (try with_reducible rfl)
      (try simp only [List.getElem_toArray, List.getElem_cons_succ, List.getElem_cons_zero])
      (try simp only [Act.put, List.setIfInBounds_toArray, List.set_cons_zero, List.set_cons_succ])
      refine wpAnyH_take (i := 5) (oi := _) (v := ?_) rfl (by kernel_rfl) (by kernel_rfl) (by kernel_rfl) (fun _ _ _ h => h) (Or.inl ⟨by kernel_rfl, ?hy5x3⟩) (by assumption) ?hr5x3
      case hy5x3 =>
        intro w hSw
        go_simp
        (try with_reducible rfl)
      (try simp only [List.getElem_toArray, List.getElem_cons_succ, List.getElem_cons_zero])
      (try simp only [Act.put, List.setIfInBounds_toArray, List.set_cons_zero, List.set_cons_succ])
      refine wpAnyH_take (i := 6) (oi := _) (v := ?_) rfl (by kernel_rfl) (by kernel_rfl) (by kernel_rfl) (fun _ _ _ h => h) (Or.inl ⟨by kernel_rfl, ?hy6x4⟩) (by assumption) ?hr6x4
      case hy6x4 =>
        intro w hSw
        have kv0 := kept_cell hSw v0
        have kv1 := kept_cell hSw v1
        have kv2 := kept_cell hSw v2
        have kv3 := kept_cell hSw v3
        go_simp
        (try with_reducible rfl)
      (try simp only [List.getElem_toArray, List.getElem_cons_succ, List.getElem_cons_zero])
      (try simp only [Act.put, List.setIfInBounds_toArray, List.set_cons_zero, List.set_cons_succ])
      refine wpAnyH_take (i := 7) (oi := _) (v := ?_) rfl (by kernel_rfl) (by kernel_rfl) (by kernel_rfl) (fun _ _ _ h => h) (Or.inl ⟨by kernel_rfl, ?hy7x5⟩) (by assumption) ?hr7x5
      case hy7x5 =>
        intro w hSw
        have ku0 := kept_cell hSw u0
        have ku1 := kept_cell hSw u1
        have ku2 := kept_cell hSw u2
        have ku3 := kept_cell hSw u3
        go_simp
        (try with_reducible rfl)
      (try simp only [List.getElem_toArray, List.getElem_cons_succ, List.getElem_cons_zero])
      (try simp only [Act.put, List.setIfInBounds_toArray, List.set_cons_zero, List.set_cons_succ])
      refine wpAnyH_ready (rs := [8]) (by kernel_rfl) (by simp) ?_
      refine AllReadyH.cons (o := _) rfl (fun Kx hKx => ?_) ?_
      · go_simp
        go_at_call 13
        with_reducible refine Calls.mono (hT1.out _ ?_) ?_
        · assumption
        rintro e V8 ⟨rfl, b8⟩
        (try go_wp2_with fail)
        refine hKx.out _ _ ?_ (fun hHeld => ?_)
        · exact b8
        clear hKx Kx
        (try simp only [Act.put, List.setIfInBounds_toArray, List.set_cons_zero, List.set_cons_succ])
        refine wpAnyH_take (i := 9) (oi := _) (v := ?_) rfl (by kernel_rfl) (by kernel_rfl) (by kernel_rfl) (fun _ _ _ h => h) (Or.inl ⟨by kernel_rfl, ?hy9x6⟩) (by assumption) ?hr9x6
        case hy9x6 =>
          intro w hSw
          go_simp
          (try with_reducible rfl)
        (try simp only [List.getElem_toArray, List.getElem_cons_succ, List.getElem_cons_zero])
        (try simp only [Act.put, List.setIfInBounds_toArray, List.set_cons_zero, List.set_cons_succ])
        refine wpAnyH_take (i := 10) (oi := _) (v := ?_) rfl (by kernel_rfl) (by kernel_rfl) (by kernel_rfl) (fun _ _ _ h => h) (Or.inl ⟨by kernel_rfl, ?hy10x7⟩) (by assumption) ?hr10x7
        case hy10x7 =>
          intro w hSw
          go_simp
          (try with_reducible rfl)
        (try simp only [List.getElem_toArray, List.getElem_cons_succ, List.getElem_cons_zero])
        (try simp only [Act.put, List.setIfInBounds_toArray, List.set_cons_zero, List.set_cons_succ])
        refine wpAnyH_take (i := 11) (oi := _) (v := ?_) rfl (by kernel_rfl) (by kernel_rfl) (by kernel_rfl) (fun _ _ _ h => h) (Or.inl ⟨by kernel_rfl, ?hy11x8⟩) (by assumption) ?hr11x8
        case hy11x8 =>
          intro w hSw
          go_simp
          (try with_reducible rfl)
        (try simp only [List.getElem_toArray, List.getElem_cons_succ, List.getElem_cons_zero])
        (try simp only [Act.put, List.setIfInBounds_toArray, List.set_cons_zero, List.set_cons_succ])
        refine wpAnyH_take (i := 12) (oi := _) (v := ?_) rfl (by kernel_rfl) (by kernel_rfl) (by kernel_rfl) (fun _ _ _ h => h) (Or.inl ⟨by kernel_rfl, ?hy12x9⟩) (by assumption) ?hr12x9
        case hy12x9 =>
          intro w hSw
          go_simp
          (try with_reducible rfl)
        (try simp only [List.getElem_toArray, List.getElem_cons_succ, List.getElem_cons_zero])
        (try simp only [Act.put, List.setIfInBounds_toArray, List.set_cons_zero, List.set_cons_succ])
        refine wpAnyH_take (i := 13) (oi := _) (v := ?_) rfl (by kernel_rfl) (by kernel_rfl) (by kernel_rfl) (fun _ _ _ h => h) (Or.inl ⟨by kernel_rfl, ?hy13x10⟩) (by assumption) ?hr13x10
        case hy13x10 =>
          intro w hSw
          go_simp
          (try with_reducible rfl)
        (try simp only [List.getElem_toArray, List.getElem_cons_succ, List.getElem_cons_zero])
        (try simp only [Act.put, List.setIfInBounds_toArray, List.set_cons_zero, List.set_cons_succ])
        refine wpAnyH_take (i := 14) (oi := _) (v := ?_) rfl (by kernel_rfl) (by kernel_rfl) (by kernel_rfl) (fun _ _ _ h => h) (Or.inl ⟨by kernel_rfl, ?hy14x11⟩) (by assumption) ?hr14x11
        case hy14x11 =>
          intro w hSw
          go_simp
          (try with_reducible rfl)
        (try simp only [List.getElem_toArray, List.getElem_cons_succ, List.getElem_cons_zero])
        (try simp only [Act.put, List.setIfInBounds_toArray, List.set_cons_zero, List.set_cons_succ])
        refine wpAnyH_take (i := 15) (oi := _) (v := ?_) rfl (by kernel_rfl) (by kernel_rfl) (by kernel_rfl) (fun _ _ _ h => h) (Or.inl ⟨by kernel_rfl, ?hy15x12⟩) (by assumption) ?hr15x12
        case hy15x12 =>
          intro w hSw
          go_simp
          (try with_reducible rfl)
        (try simp only [List.getElem_toArray, List.getElem_cons_succ, List.getElem_cons_zero])
        (try simp only [Act.put, List.setIfInBounds_toArray, List.set_cons_zero, List.set_cons_succ])
        refine wpAnyH_take (i := 16) (oi := _) (v := ?_) rfl (by kernel_rfl) (by kernel_rfl) (by kernel_rfl) (fun _ _ _ h => h) (Or.inl ⟨by kernel_rfl, ?hy16x13⟩) (by assumption) ?hr16x13
        case hy16x13 =>
          intro w hSw
          have kz0 := kept_cell hSw z0
          have kz1 := kept_cell hSw z1
          have kz2 := kept_cell hSw z2
          have kz3 := kept_cell hSw z3
          go_simp
          (try with_reducible rfl)
        (try simp only [List.getElem_toArray, List.getElem_cons_succ, List.getElem_cons_zero])
        (try simp only [Act.put, List.setIfInBounds_toArray, List.set_cons_zero, List.set_cons_succ])
        refine wpAnyH_take (i := 17) (oi := _) (v := ?_) rfl (by kernel_rfl) (by kernel_rfl) (by kernel_rfl) (fun _ _ _ h => h) (Or.inl ⟨by kernel_rfl, ?hy17x14⟩) (by assumption) ?hr17x14
        case hy17x14 =>
          intro w hSw
          go_simp
          (try with_reducible rfl)
        (try simp only [List.getElem_toArray, List.getElem_cons_succ, List.getElem_cons_zero])
        (try simp only [Act.put, List.setIfInBounds_toArray, List.set_cons_zero, List.set_cons_succ])
        refine wpAnyH_take (i := 18) (oi := _) (v := ?_) rfl (by kernel_rfl) (by kernel_rfl) (by kernel_rfl) (fun _ _ _ h => h) (Or.inl ⟨by kernel_rfl, ?hy18x15⟩) (by assumption) ?hr18x15
        case hy18x15 =>
          intro w hSw
          have kn0 := kept_cell hSw n0
          go_simp
          (try with_reducible rfl)
        (try simp only [List.getElem_toArray, List.getElem_cons_succ, List.getElem_cons_zero])
        (try simp only [Act.put, List.setIfInBounds_toArray, List.set_cons_zero, List.set_cons_succ])
        refine wpAnyH_take (i := 19) (oi := _) (v := ?_) rfl (by kernel_rfl) (by kernel_rfl) (by kernel_rfl) (fun _ _ _ h => h) (Or.inl ⟨by kernel_rfl, ?hy19x16⟩) (by assumption) ?hr19x16
        case hy19x16 =>
          intro w hSw
          go_simp
          (try with_reducible rfl)
        (try simp only [List.getElem_toArray, List.getElem_cons_succ, List.getElem_cons_zero])
        (try simp only [Act.put, List.setIfInBounds_toArray, List.set_cons_zero, List.set_cons_succ])
        refine wpAnyH_take (i := 20) (oi := _) (v := ?_) rfl (by kernel_rfl) (by kernel_rfl) (by kernel_rfl) (fun _ _ _ h => h) (Or.inl ⟨by kernel_rfl, ?hy20x17⟩) (by assumption) ?hr20x17
        case hy20x17 =>
          intro w hSw
          have kn1 := kept_cell hSw n1
          go_simp
          (try with_reducible rfl)
        (try simp only [List.getElem_toArray, List.getElem_cons_succ, List.getElem_cons_zero])
        (try simp only [Act.put, List.setIfInBounds_toArray, List.set_cons_zero, List.set_cons_succ])
        refine wpAnyH_take (i := 22) (oi := _) (v := ?_) rfl (by kernel_rfl) (by kernel_rfl) (by kernel_rfl) (fun _ _ _ h => h) (Or.inl ⟨by kernel_rfl, ?hy22x18⟩) (by assumption) ?hr22x18
        case hy22x18 =>
          intro w hSw
          have kp0 := kept_cell hSw p0
          have kp1 := kept_cell hSw p1
          have kp2 := kept_cell hSw p2
          have kp3 := kept_cell hSw p3
          go_simp
          (try with_reducible rfl)
        (try simp only [List.getElem_toArray, List.getElem_cons_succ, List.getElem_cons_zero])
        (try simp only [Act.put, List.setIfInBounds_toArray, List.set_cons_zero, List.set_cons_succ])
        refine wpAnyH_take (i := 23) (oi := _) (v := ?_) rfl (by kernel_rfl) (by kernel_rfl) (by kernel_rfl) (fun _ _ _ h => h) (Or.inl ⟨by kernel_rfl, ?hy23x19⟩) (by assumption) ?hr23x19
        case hy23x19 =>
          intro w hSw
          go_simp
          (try with_reducible rfl)
        (try simp only [List.getElem_toArray, List.getElem_cons_succ, List.getElem_cons_zero])
        (try simp only [Act.put, List.setIfInBounds_toArray, List.set_cons_zero, List.set_cons_succ])
        refine wpAnyH_take (i := 24) (oi := _) (v := ?_) rfl (by kernel_rfl) (by kernel_rfl) (by kernel_rfl) (fun _ _ _ h => h) (Or.inl ⟨by kernel_rfl, ?hy24x20⟩) (by assumption) ?hr24x20
        case hy24x20 =>
          intro w hSw
          have kn0 := kept_cell hSw n0
          go_simp
          (try with_reducible rfl)
        (try simp only [List.getElem_toArray, List.getElem_cons_succ, List.getElem_cons_zero])
        (try simp only [Act.put, List.setIfInBounds_toArray, List.set_cons_zero, List.set_cons_succ])
        refine wpAnyH_take (i := 25) (oi := _) (v := ?_) rfl (by kernel_rfl) (by kernel_rfl) (by kernel_rfl) (fun _ _ _ h => h) (Or.inl ⟨by kernel_rfl, ?hy25x21⟩) (by assumption) ?hr25x21
        case hy25x21 =>
          intro w hSw
          go_simp
          (try with_reducible rfl)
        (try simp only [List.getElem_toArray, List.getElem_cons_succ, List.getElem_cons_zero])
        (try simp only [Act.put, List.setIfInBounds_toArray, List.set_cons_zero, List.set_cons_succ])
        refine wpAnyH_take (i := 26) (oi := _) (v := ?_) rfl (by kernel_rfl) (by kernel_rfl) (by kernel_rfl) (fun _ _ _ h => h) (Or.inl ⟨by kernel_rfl, ?hy26x22⟩) (by assumption) ?hr26x22
        case hy26x22 =>
          intro w hSw
          have kn1 := kept_cell hSw n1
          go_simp
          (try with_reducible rfl)
        (try simp only [List.getElem_toArray, List.getElem_cons_succ, List.getElem_cons_zero])
        (try simp only [Act.put, List.setIfInBounds_toArray, List.set_cons_zero, List.set_cons_succ])
        refine wpAnyH_ready (rs := [21]) (by kernel_rfl) (by simp) ?_
        refine AllReadyH.cons (o := _) rfl (fun Kx hKx => ?_) ?_
        · go_simp
          go_at_call 22
          with_reducible refine Calls.mono (hA1.out _ ?_) ?_
          · assumption
          rintro e V21 ⟨rfl, b21⟩
          (try go_wp2_with fail)
          refine hKx.out _ _ ?_ (fun hHeld => ?_)
          · exact b21
          clear hKx Kx
          (try simp only [Act.put, List.setIfInBounds_toArray, List.set_cons_zero, List.set_cons_succ])
          refine wpAnyH_ready (rs := [27]) (by kernel_rfl) (by simp) ?_
          refine AllReadyH.cons (o := _) rfl (fun Kx hKx => ?_) ?_
          · go_simp
            go_at_call 23
            with_reducible refine Calls.mono (hA2.out _ ?_) ?_
            · assumption
            rintro e V27 ⟨rfl, b27⟩
            (try go_wp2_with fail)
            refine hKx.out _ _ ?_ (fun hHeld => ?_)
            · exact b27
            clear hKx Kx
            (try simp only [Act.put, List.setIfInBounds_toArray, List.set_cons_zero, List.set_cons_succ])
            refine wpAnyH_take (i := 28) (oi := _) (v := ?_) rfl (by kernel_rfl) (by kernel_rfl) (by kernel_rfl) (fun _ _ _ h => h) (Or.inl ⟨by kernel_rfl, ?hy28x23⟩) (by assumption) ?hr28x23
            case hy28x23 =>
              intro w hSw
              go_simp
              (try with_reducible rfl)
            (try simp only [List.getElem_toArray, List.getElem_cons_succ, List.getElem_cons_zero])
            (try simp only [Act.put, List.setIfInBounds_toArray, List.set_cons_zero, List.set_cons_succ])
            refine wpAnyH_take (i := 29) (oi := _) (v := ?_) rfl (by kernel_rfl) (by kernel_rfl) (by kernel_rfl) (fun _ _ _ h => h) (Or.inl ⟨by kernel_rfl, ?hy29x24⟩) (by assumption) ?hr29x24
            case hy29x24 =>
              intro w hSw
              go_simp
              (try with_reducible rfl)
            (try simp only [List.getElem_toArray, List.getElem_cons_succ, List.getElem_cons_zero])
            (try simp only [Act.put, List.setIfInBounds_toArray, List.set_cons_zero, List.set_cons_succ])
            refine wpAnyH_take (i := 30) (oi := _) (v := ?_) rfl (by kernel_rfl) (by kernel_rfl) (by kernel_rfl) (fun _ _ _ h => h) (Or.inl ⟨by kernel_rfl, ?hy30x25⟩) (by assumption) ?hr30x25
            case hy30x25 =>
              intro w hSw
              go_simp
              (try with_reducible rfl)
            (try simp only [List.getElem_toArray, List.getElem_cons_succ, List.getElem_cons_zero])
            (try simp only [Act.put, List.setIfInBounds_toArray, List.set_cons_zero, List.set_cons_succ])
            refine wpAnyH_take (i := 31) (oi := _) (v := ?_) rfl (by kernel_rfl) (by kernel_rfl) (by kernel_rfl) (fun _ _ _ h => h) (Or.inl ⟨by kernel_rfl, ?hy31x26⟩) (by assumption) ?hr31x26
            case hy31x26 =>
              intro w hSw
              have kz0 := kept_cell hSw z0
              have kz1 := kept_cell hSw z1
              have kz2 := kept_cell hSw z2
              have kz3 := kept_cell hSw z3
              go_simp
              (try with_reducible rfl)
            (try simp only [List.getElem_toArray, List.getElem_cons_succ, List.getElem_cons_zero])
            (try simp only [Act.put, List.setIfInBounds_toArray, List.set_cons_zero, List.set_cons_succ])
            refine wpAnyH_take (i := 32) (oi := _) (v := ?_) rfl (by kernel_rfl) (by kernel_rfl) (by kernel_rfl) (fun _ _ _ h => h) (Or.inl ⟨by kernel_rfl, ?hy32x27⟩) (by assumption) ?hr32x27
            case hy32x27 =>
              intro w hSw
              have kp0 := kept_cell hSw p0
              have kp1 := kept_cell hSw p1
              have kp2 := kept_cell hSw p2
              have kp3 := kept_cell hSw p3
              go_simp
              (try with_reducible rfl)
            (try simp only [List.getElem_toArray, List.getElem_cons_succ, List.getElem_cons_zero])
            (try simp only [Act.put, List.setIfInBounds_toArray, List.set_cons_zero, List.set_cons_succ])
            refine wpAnyH_ready (rs := [33]) (by kernel_rfl) (by simp) ?_
            refine AllReadyH.cons (o := _) rfl (fun Kx hKx => ?_) ?_
            · go_simp
              go_at_call 13
              with_reducible refine Calls.mono (hT3.out _ ?_) ?_
              · assumption
              rintro e V33 ⟨rfl, b33⟩
              (try go_wp2_with fail)
              refine hKx.out _ _ ?_ (fun hHeld => ?_)
              · exact b33
              clear hKx Kx
              (try simp only [Act.put, List.setIfInBounds_toArray, List.set_cons_zero, List.set_cons_succ])
              refine wpAnyH_take (i := 34) (oi := _) (v := ?_) rfl (by kernel_rfl) (by kernel_rfl) (by kernel_rfl) (fun _ _ _ h => h) (Or.inl ⟨by kernel_rfl, ?hy34x28⟩) (by assumption) ?hr34x28
              case hy34x28 =>
                intro w hSw
                go_simp
                (try with_reducible rfl)
              (try simp only [List.getElem_toArray, List.getElem_cons_succ, List.getElem_cons_zero])
              (try simp only [Act.put, List.setIfInBounds_toArray, List.set_cons_zero, List.set_cons_succ])
              refine wpAnyH_take (i := 35) (oi := _) (v := ?_) rfl (by kernel_rfl) (by kernel_rfl) (by kernel_rfl) (fun _ _ _ h => h) (Or.inl ⟨by kernel_rfl, ?hy35x29⟩) (by assumption) ?hr35x29
              case hy35x29 =>
                intro w hSw
                go_simp
                (try with_reducible rfl)
              (try simp only [List.getElem_toArray, List.getElem_cons_succ, List.getElem_cons_zero])
              (try simp only [Act.put, List.setIfInBounds_toArray, List.set_cons_zero, List.set_cons_succ])
              refine wpAnyH_ready (rs := [36]) (by kernel_rfl) (by simp) ?_
              refine AllReadyH.cons (o := _) rfl (fun Kx hKx => ?_) ?_
              · go_simp
                go_at_call 17
                with_reducible refine Calls.mono (hW.out _ ?_) ?_
                · assumption
                rintro e V36 ⟨rfl, b36⟩
                (try go_wp2_with fail)
                refine hKx.out _ _ ?_ (fun hHeld => ?_)
                · exact b36
                clear hKx Kx
                (try simp only [Act.put, List.setIfInBounds_toArray, List.set_cons_zero, List.set_cons_succ])
                refine wpAnyH_take (i := 37) (oi := _) (v := ?_) rfl (by kernel_rfl) (by kernel_rfl) (by kernel_rfl) (fun _ _ _ h => h) (Or.inl ⟨by kernel_rfl, ?hy37x30⟩) (by assumption) ?hr37x30
                case hy37x30 =>
                  intro w hSw
                  go_simp
                  (try with_reducible rfl)
                (try simp only [List.getElem_toArray, List.getElem_cons_succ, List.getElem_cons_zero])
                (try simp only [Act.put, List.setIfInBounds_toArray, List.set_cons_zero, List.set_cons_succ])
                refine wpAnyH_take (i := 38) (oi := _) (v := ?_) rfl (by kernel_rfl) (by kernel_rfl) (by kernel_rfl) (fun _ _ _ h => h) (Or.inl ⟨by kernel_rfl, ?hy38x31⟩) (by assumption) ?hr38x31
                case hy38x31 =>
                  intro w hSw
                  go_simp
                  (try with_reducible rfl)
                (try simp only [List.getElem_toArray, List.getElem_cons_succ, List.getElem_cons_zero])
                (try simp only [Act.put, List.setIfInBounds_toArray, List.set_cons_zero, List.set_cons_succ])
                refine wpAnyH_done (by kernel_rfl) ?_ _
                go_wp2_with fail
                go_ret
                exact ⟨by first | rfl | kernel_rfl | (simp; done), bb.trans (b36.mono bb.size)⟩
              exact AllReadyH.nil
            exact AllReadyH.nil
          exact AllReadyH.nil
        exact AllReadyH.nil
      exact AllReadyH.nil
    exact AllReadyH.nil
  exact AllReadyH.nil
end Go.Proofs.YtnilejdokgagbaaDoor.validTells
