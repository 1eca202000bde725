/- Joined: RefEnc RDec RDec2. -/
import Derived.Test.YtnilejdokgagbaaDoorKT
import Derived.Test.YtnilejdokgagbaaDoorKA1
import Derived.Deep.RegionHeld3
import Derived.Laws.BytesArg
import Derived.Laws.Strings
import Derived.Deep.CutRange
import Derived.BigQuiet
/- What the document's Encode returns. -/
namespace Go.Proofs.YtnilejdokgagbaaDoor
open Go.RowKit Go.BigFrame
set_option linter.unusedVariables false
set_option maxRecDepth 4000
set_option linter.unusedSimpArgs false

theorem refByte_any (v : Int) (w : World) : Calls Tryd.prog 30 #[.int .i64 v] w fun e w' => e = .returned (.bool (byB v)) ∧ w' = w := by
  by_cases h1 : 0 ≤ v
  · by_cases h2 : v ≤ 255
    · have H := Lib.hid (byB_yes ⟨h1, h2⟩)
      go_enter Tryd.func30, Tryd.ntmps30
      go_wp2_with fail
      go_ret
      exact ⟨ret_bool H.out.symm, rfl⟩
    · have H := Lib.hid (byB_no (v := v) (fun h => h2 h.2))
      go_enter Tryd.func30, Tryd.ntmps30
      go_wp2_with fail
      go_ret
      exact ⟨ret_bool H.out.symm, rfl⟩
  · have H := Lib.hid (byB_no (v := v) (fun h => h1 h.1))
    go_enter Tryd.func30, Tryd.ntmps30
    go_wp2_with fail
    go_ret
    exact ⟨ret_bool H.out.symm, rfl⟩
theorem own_seven (w : World) (base : Nat) (hb : base ≤ w.heap.size) (x y z : Nat) : (w.alloc (.cells #[.int .u8 66, .int .u8 82, .int .u8 75, .int .u8 49, .int .u8 (x : Int), .int .u8 (y : Int), .int .u8 (z : Int)] 5)).ownsRow base 5 1 (.slice (some ⟨w.heap.size, 0, none⟩) 7 7) 7 (ycells (markB ++ [x, y, z])) :=
  ⟨rfl, .inr ⟨w.heap.size, 7, _, rfl, hb, heap_alloc_new w _, Nat.le_refl _, by unfold maxLen; omega, rfl, rfl⟩⟩
theorem reads_one_on {w w' : World} {x : Nat} (g : Below (w.alloc (.cells #[.int .u8 (x : Int)] 5)).heap.size (w.alloc (.cells #[.int .u8 (x : Int)] 5)) w') : Reads w' w'.heap.size 1 (some ⟨w.heap.size, 0, none⟩) 1 (ycells [x]) :=
  reads_on ((reads_one w x).more (by simp)) g
theorem head_lt {x y z : Nat} (hx : x ≤ 255) (hy : y ≤ 255) (hz : z ≤ 255) : ∀ u ∈ markB ++ [x, y, z], u < 256 := by
  intro u hu
  simp [markB] at hu
  omega
theorem held_alloc {V w5 : World} {p q : Addr} {u v : Value} {o : Obj} (h : V.cell? p = some u ∧ V.cell? q = some v ∧ Below w5.heap.size w5 V) : (V.alloc o).cell? p = some u ∧ (V.alloc o).cell? q = some v ∧ Below w5.heap.size w5 (V.alloc o) :=
  ⟨kept_cell (below_new _ _) h.1, kept_cell (below_new _ _) h.2.1, h.2.2.alloc h.2.2.size o⟩
theorem below_undrewE {w w' : World} (h : Below w.drew.heap.size w.drew w') : Below w.heap.size w w' := ⟨h.os, h.tape, h.output, h.size, h.block⟩
def okBd (x : Rg) : Prop := (0 ≤ x.1 ∧ x.1 ≤ 16777215) ∧ byteI x.2

theorem refEncode_h0 (T : TV) (w : World) (hno : encR T.tb = none)  (g0 : T.cl < 1) : Calls Tryd.prog 9 #[T.v] w (OutEn (encR T.tb) w) := by
  rw [hno]
  clear hno
  obtain ⟨cl, a1, n1, c1, bd, a2, n2, c2, hs, a3, n3, c3, br⟩ := T
  simp only [TV.v] at *

  go_enter Tryd.func9, Tryd.ntmps9
  go_wp2_with fail
  go_ret2
  exact outEn_no _ _ (below_new _ _)

theorem refEncode_h1 (T : TV) (w : World) (hno : encR T.tb = none) (g0 : ¬ T.cl < 1) (g1 : 255 < T.cl) : Calls Tryd.prog 9 #[T.v] w (OutEn (encR T.tb) w) := by
  rw [hno]
  clear hno
  obtain ⟨cl, a1, n1, c1, bd, a2, n2, c2, hs, a3, n3, c3, br⟩ := T
  simp only [TV.v] at *

  go_enter Tryd.func9, Tryd.ntmps9
  go_wp2_with fail
  go_ret2
  exact outEn_no _ _ (below_new _ _)

theorem refEncode_h2 (T : TV) (w : World) (hno : encR T.tb = none) (g0 : ¬ T.cl < 1) (g1 : ¬ 255 < T.cl) (g2 : T.n2 < 1) : Calls Tryd.prog 9 #[T.v] w (OutEn (encR T.tb) w) := by
  rw [hno]
  clear hno
  obtain ⟨cl, a1, n1, c1, bd, a2, n2, c2, hs, a3, n3, c3, br⟩ := T
  simp only [TV.v] at *

  go_enter Tryd.func9, Tryd.ntmps9
  go_wp2_with fail
  go_ret2
  exact outEn_no _ _ (below_new _ _)

theorem refEncode_h3 (T : TV) (w : World) (hno : encR T.tb = none) (g0 : ¬ T.cl < 1) (g1 : ¬ 255 < T.cl) (g2 : ¬ T.n2 < 1) (g3 : 255 < T.n2) : Calls Tryd.prog 9 #[T.v] w (OutEn (encR T.tb) w) := by
  rw [hno]
  clear hno
  obtain ⟨cl, a1, n1, c1, bd, a2, n2, c2, hs, a3, n3, c3, br⟩ := T
  simp only [TV.v] at *

  go_enter Tryd.func9, Tryd.ntmps9
  go_wp2_with fail
  go_ret2
  exact outEn_no _ _ (below_new _ _)

theorem refEncode_h4 (T : TV) (w : World) (hno : encR T.tb = none) (g0 : ¬ T.cl < 1) (g1 : ¬ 255 < T.cl) (g2 : ¬ T.n2 < 1) (g3 : ¬ 255 < T.n2) (g4 : ¬ T.n3 = T.n2) : Calls Tryd.prog 9 #[T.v] w (OutEn (encR T.tb) w) := by
  rw [hno]
  clear hno
  obtain ⟨cl, a1, n1, c1, bd, a2, n2, c2, hs, a3, n3, c3, br⟩ := T
  simp only [TV.v] at *
  have g4i : ¬ ((n3 : Int) = (n2 : Int)) := by omega
  have g4b : ((n3 : Int) != (n2 : Int)) = true := by simpa using g4i
  go_enter Tryd.func9, Tryd.ntmps9
  go_wp2_with fail
  go_ret2
  exact outEn_no _ _ (below_new _ _)

theorem refEncode_h5 (T : TV) (w : World) (hno : encR T.tb = none) (g0 : ¬ T.cl < 1) (g1 : ¬ 255 < T.cl) (g2 : ¬ T.n2 < 1) (g3 : ¬ 255 < T.n2) (g4 : T.n3 = T.n2) (g5 : 255 < T.n1) : Calls Tryd.prog 9 #[T.v] w (OutEn (encR T.tb) w) := by
  rw [hno]
  clear hno
  obtain ⟨cl, a1, n1, c1, bd, a2, n2, c2, hs, a3, n3, c3, br⟩ := T
  simp only [TV.v] at *
  subst g4
  go_enter Tryd.func9, Tryd.ntmps9
  go_wp2_with fail
  go_ret2
  exact outEn_no _ _ (below_new _ _)

set_option maxRecDepth 4000 in
set_option maxHeartbeats 4000000 in
theorem refEncode_main (T : TV) (w : World) (hT : T.ok w) (hS : Small T.tb) (g0 : 1 ≤ T.cl) (g1 : T.cl ≤ 255) (g2 : 1 ≤ T.n2) (g3 : T.n2 ≤ 255) (g4 : T.n3 = T.n2) (g5 : T.n1 ≤ 255) : Calls Tryd.prog 9 #[T.v] w (OutEn (encR T.tb) w) := by
  obtain ⟨i0, hi0, hz0, hz1, hz2⟩ := info_parts info5
  obtain ⟨cl, a1, n1, c1, bd, a2, n2, c2, hs, a3, n3, c3, br⟩ := T
  simp only [TV.v] at *
  obtain rfl : n2 = n3 := g4.symm
  have L1 : bd.length = n1 := hT.r1.1
  have L2 : hs.length = n2 := hT.r2.1
  have L3 : br.length = n2 := hT.r3.1
  have L2' : (listsOf hs).length = n2 := by rw [listsOf_len, L2]
  obtain ⟨cn, rfl⟩ := Int.eq_ofNat_of_zero_le (show 0 ≤ cl by omega)
  have g0 : 1 ≤ cn := by omega
  have g1 : cn ≤ 255 := by omega
  have HBulk : Hid (∀ k, bulk (listsOf (hs.take k)) ≤ 3000) := Lib.hid (fun k => by
    have h1 := hS.n
    have h2 : listsOf hs = listsOf (hs.take k) ++ listsOf (hs.drop k) := by unfold listsOf; rw [← List.map_append, List.take_append_drop]
    simp only [TV.tb] at h1
    rw [h2, bulk_app] at h1
    omega)
  have HNo1 : Hid (∀ x ∈ bd, ¬ okBd x → encR (TV.tb ⟨(cn : Int), a1, n1, c1, bd, a2, n2, c2, hs, a3, n2, c3, br⟩) = none) := Lib.hid (fun x hx h => encR_no (fun hM => h (hM.bd x hx)))
  have HNo2 : Hid (∀ h ∈ hs, ¬ h.n = cn → encR (TV.tb ⟨(cn : Int), a1, n1, c1, bd, a2, n2, c2, hs, a3, n2, c3, br⟩) = none) := Lib.hid (fun h hh hn => encR_no (fun hM => hn (by
    have h1 := (hM.nx h.l (List.mem_map.2 ⟨h, hh, rfl⟩)).1
    have h2 := (hT.r2.2.2 h hh).1.1
    simp only [TV.tb] at h1
    omega)))
  have HNo3 : Hid (∀ h ∈ hs, ∀ x ∈ h.l, ¬ byteI x → encR (TV.tb ⟨(cn : Int), a1, n1, c1, bd, a2, n2, c2, hs, a3, n2, c3, br⟩) = none) := Lib.hid (fun h hh x hx hn => encR_no (fun hM => hn ((hM.nx h.l (List.mem_map.2 ⟨h, hh, rfl⟩)).2 x hx)))
  have HMay : Hid ((∀ x ∈ bd, okBd x) → (∀ h ∈ hs, h.n = cn ∧ ∀ x ∈ h.l, byteI x) → MayT (TV.tb ⟨(cn : Int), a1, n1, c1, bd, a2, n2, c2, hs, a3, n2, c3, br⟩)) := Lib.hid (fun h1 h2 => ⟨by simp only [TV.tb]; omega, by simp only [TV.tb]; omega, by simp only [TV.tb]; omega, by simp only [TV.tb]; omega, by simp only [TV.tb]; omega, by simp only [TV.tb]; omega, h1, fun r hr => by
    obtain ⟨h, hh, rfl⟩ := List.mem_map.1 hr
    have h3 := (hT.r2.2.2 h hh).1.1
    refine ⟨?_, (h2 h hh).2⟩
    have := (h2 h hh).1
    simp only [TV.tb]
    omega⟩)
  have HHead : Hid (headB (TV.tb ⟨(cn : Int), a1, n1, c1, bd, a2, n2, c2, hs, a3, n2, c3, br⟩) = markB ++ [cn, n2, n1]) := Lib.hid (by
    unfold headB
    simp only [TV.tb]
    rw [L2', L1, Int.toNat_natCast])
  have HEnc : Hid (MayT (TV.tb ⟨(cn : Int), a1, n1, c1, bd, a2, n2, c2, hs, a3, n2, c3, br⟩) → ∀ y, IsBits y br → encR (TV.tb ⟨(cn : Int), a1, n1, c1, bd, a2, n2, c2, hs, a3, n2, c3, br⟩) = some (sealB (markB ++ [cn, n2, n1] ++ (bd.flatMap bandB ++ ((listsOf hs).flatMap rowB ++ y)))) ∧ ∀ z ∈ markB ++ [cn, n2, n1] ++ (bd.flatMap bandB ++ ((listsOf hs).flatMap rowB ++ y)), z < 256) := Lib.hid (fun hM y hy => by
    rw [← HHead.out]
    exact ⟨encR_yes ⟨hM, y, hy, rfl⟩, body_lt hM hy⟩)
  have HT := Lib.hid hT
  have HL1 := Lib.hid L1
  have HL2 := Lib.hid L2
  have HDr : Hid (MayT (TV.tb ⟨(cn : Int), a1, n1, c1, bd, a2, n2, c2, hs, a3, n2, c3, br⟩) → True) := Lib.hid (fun _ => trivial)
  clear HDr
  generalize hR : encR (TV.tb ⟨(cn : Int), a1, n1, c1, bd, a2, n2, c2, hs, a3, n2, c3, br⟩) = R at *
  clear hR hT hS L1 L2 L2' L3 HHead
  have e0 : (cn : Int) % 256 = (cn : Int) := by omega
  have e1 : (n1 : Int) % 256 = (n1 : Int) := by omega
  have e2 : (n2 : Int) % 256 = (n2 : Int) := by omega
  go_enter Tryd.func9, Tryd.ntmps9
  have q0 : (w.alloc (.cells #[.int .i64 cn, .slice a1 n1 c1, .slice a2 n2 c2, .slice a3 n2 c3] 26)).cell? ⟨w.heap.size, 0, none⟩ = some (.int .i64 cn) := by simp
  have q1 : (w.alloc (.cells #[.int .i64 cn, .slice a1 n1 c1, .slice a2 n2 c2, .slice a3 n2 c3] 26)).cell? ⟨w.heap.size, 1, none⟩ = some (.slice a1 n1 c1) := by simp
  have q2 : (w.alloc (.cells #[.int .i64 cn, .slice a1 n1 c1, .slice a2 n2 c2, .slice a3 n2 c3] 26)).cell? ⟨w.heap.size, 2, none⟩ = some (.slice a2 n2 c2) := by simp
  have q3 : (w.alloc (.cells #[.int .i64 cn, .slice a1 n1 c1, .slice a2 n2 c2, .slice a3 n2 c3] 26)).cell? ⟨w.heap.size, 3, none⟩ = some (.slice a3 n2 c3) := by simp
  have b0 := below_new w (.cells #[.int .i64 cn, .slice a1 n1 c1, .slice a2 n2 c2, .slice a3 n2 c3] 26)
  have HWs : Hid ((w.alloc (.cells #[.int .i64 cn, .slice a1 n1 c1, .slice a2 n2 c2, .slice a3 n2 c3] 26)).heap.size = w.heap.size + 1) := Lib.hid (by simp)
  have HO7 := Lib.hid (own_seven (w.alloc (.cells #[.int .i64 cn, .slice a1 n1 c1, .slice a2 n2 c2, .slice a3 n2 c3] 26)) _ (Nat.le_refl _) cn n2 n1)
  go_wp2_with fail
  generalize w.alloc (.cells #[.int .i64 cn, .slice a1 n1 c1, .slice a2 n2 c2, .slice a3 n2 c3] 26) = W at *
  have hwz := b0.size
  have HT1 := Lib.hid (HT.out.on b0)
  clear HT
  go_loopw [5, 6] (fun vo vi wr => ∃ (k z : Nat) (A : Option Addr) (c : Nat), k ≤ n1 ∧ z ≤ 7 + 4 * k ∧ vi = .int .i64 k ∧ vo = .slice A z c ∧ Hid (wr.ownsRow W.heap.size 5 1 (.slice A z c) z (ycells ((markB ++ [cn, n2, n1]) ++ (bd.take k).flatMap bandB))) ∧ Hid (∀ x ∈ markB ++ [cn, n2, n1] ++ (bd.take k).flatMap bandB, x < 256) ∧ Hid (∀ x ∈ bd.take k, okBd x) ∧ Below W.heap.size W wr) (fun _ i _ => n1 - (intOf i).toNat)
  case atStart => exact ⟨0, 7, _, _, Nat.zero_le _, by omega, rfl, rfl, Lib.hid (by rw [List.take_zero, List.flatMap_nil, List.append_nil, ← HWs.out]; exact HO7.out), Lib.hid (by rw [List.take_zero, List.flatMap_nil, List.append_nil]; exact head_lt (by omega) (by omega) (by omega)), Lib.hid (by rw [List.take_zero]; exact fun x hx => by simp at hx), below_new _ _⟩
  case round =>
    obtain ⟨k, z, A, c, hk, hz, rfl, rfl, HO, HLt, HOk, hb⟩ := hrel
    clear HO7
    have hsz := hb.size
    have q1' := kept_cell hb q1
    by_cases hlt : k < n1
    · have kl : k < bd.length := by rw [HL1.out]; exact hlt
      obtain ⟨b, o, rfl, _, p0, p1⟩ := (HT1.out.r1.on hb).at kl
      have HNk := Lib.hid (HNo1.out bd[k] (List.getElem_mem kl))
      have HTo : Hid (okBd bd[k] → ∀ x ∈ bd.take (k + 1), okBd x) := Lib.hid (fun h x hx => by
        rw [List.take_succ_eq_append_getElem kl] at hx
        rcases List.mem_append.1 hx with hx | hx
        · exact HOk.out x hx
        · rw [List.mem_singleton] at hx; subst hx; exact h)
      have HTk : Hid ((bd.take (k + 1)).flatMap bandB = (bd.take k).flatMap bandB ++ (lowB bd[k].1 3 ++ [bd[k].2.toNat])) := Lib.hid (by rw [List.take_succ_eq_append_getElem kl, List.flatMap_append]; simp [bandB])
      generalize bd[k] = x at *
      obtain ⟨x0, x1⟩ := x
      simp only [] at p0 p1 HTk
      have bal := hb.alloc hsz (.cells #[.int .i64 x0, .int .i64 x1] 50)
      have hii : (k : Int) < (n1 : Int) := by omega
      by_cases hx0 : x0 < 0
      · have HN := Lib.hid (HNk.out (fun h => by have h1 : 0 ≤ x0 := h.1.1; omega))
        clear HNk HTo HTk
        go_wp2_with fail
        go_ret2
        rw [HN.out]
        exact outEn_no _ _ (b0.trans (bal.mono hwz))
      by_cases hx1 : 16777215 < x0
      · have HN := Lib.hid (HNk.out (fun h => by have h1 : x0 ≤ 16777215 := h.1.2; omega))
        clear HNk HTo HTk
        go_wp2_with fail
        go_ret2
        rw [HN.out]
        exact outEn_no _ _ (b0.trans (bal.mono hwz))
      have HB := Lib.hid (refByte_any x1)
      cases hby : byB x1 with
      | false =>
        have HN := Lib.hid (HNk.out (fun h => by have h1 := (byB_iff x1).2 h.2; rw [hby] at h1; cases h1))
        rw [hby] at HB
        clear HNk HTo HTk hby
        go_wp2_with fail
        refine (HB.out _).mono ?_
        rintro e w1 ⟨rfl, rfl⟩
        go_wp2_with fail
        go_ret2
        rw [HN.out]
        exact outEn_no _ _ (b0.trans (bal.mono hwz))
      | true =>
        have hbx : 0 ≤ x1 ∧ x1 ≤ 255 := (byB_iff x1).1 hby
        have HTo' := Lib.hid (HTo.out ⟨⟨by simp only []; omega, by simp only []; omega⟩, hbx⟩)
        rw [hby] at HB
        obtain ⟨y1, rfl⟩ := Int.eq_ofNat_of_zero_le hbx.1
        have hy1 : y1 ≤ 255 := by have := hbx.2; omega
        have ey : (y1 : Int) % 256 = (y1 : Int) := by omega
        have HTk' : Hid ((markB ++ [cn, n2, n1]) ++ (bd.take (k + 1)).flatMap bandB = ((markB ++ [cn, n2, n1]) ++ (bd.take k).flatMap bandB ++ lowB x0 3) ++ [y1]) := Lib.hid (by rw [HTk.out, Int.toNat_natCast]; simp only [List.append_assoc])
        generalize (markB ++ [cn, n2, n1]) ++ (bd.take k).flatMap bandB = bs at *
        clear HTk hbx HNk HTo hby HOk
        have HRB0 := Lib.hid (own_RB HO.out HLt.out)
        have HSh0 := Lib.hid (own_shp HO.out)
        have ba5 := below_new wr (.cells #[.int .i64 x0, .int .i64 (y1 : Int)] 50)
        have HRB := Lib.hid (HRB0.out.on ba5)
        have s0 : (wr.alloc (.cells #[.int .i64 x0, .int .i64 (y1 : Int)] 50)).cell? ⟨wr.heap.size, 0, none⟩ = some (.int .i64 x0) := by simp
        have s1 : (wr.alloc (.cells #[.int .i64 x0, .int .i64 (y1 : Int)] 50)).cell? ⟨wr.heap.size, 1, none⟩ = some (.int .i64 (y1 : Int)) := by simp
        clear HO HLt HRB0 ba5
        go_wp2_with fail
        refine (HB.out _).mono ?_
        rintro e w1 ⟨rfl, rfl⟩
        clear HB p0 p1 q1'
        go_wp2_with fail
        generalize wr.alloc (.cells #[.int .i64 x0, .int .i64 (y1 : Int)] 50) = w5 at *
        have hs5 := bal.size
        have hP : Hid (∀ V, (V.cell? ⟨wr.heap.size, 0, none⟩ = some (.int .i64 x0) ∧ V.cell? ⟨wr.heap.size, 1, none⟩ = some (.int .i64 (y1 : Int)) ∧ Below w5.heap.size w5 V) → Calls Tryd.prog 31 #[.slice A z c, .int .i64 x0, .int .i64 3] V fun e w' => (∃ A6 c6, e = .returned (.slice A6 (z + 3) c6) ∧ w'.ownsRow w5.heap.size 5 1 (.slice A6 (z + 3) c6) (z + 3) (ycells (bs ++ lowB x0 3)) ∧ (∀ x ∈ bs ++ lowB x0 3, x < 256)) ∧ Below V.heap.size V w' ∧ (w'.cell? ⟨wr.heap.size, 0, none⟩ = some (.int .i64 x0) ∧ w'.cell? ⟨wr.heap.size, 1, none⟩ = some (.int .i64 (y1 : Int)) ∧ Below w5.heap.size w5 w')) := Lib.hid (fun V hV => (refPut_3 bs z A c x0 V HSh0.out.1 (HRB.out.on hV.2.2) (by omega)).mono (fun e w' h => by
          obtain ⟨A6, c6, he, hl, hy, ho, g⟩ := h
          exact ⟨⟨A6, c6, he, own_base ho hV.2.2.size, hy⟩, g, kept_cell g hV.1, kept_cell g hV.2.1, hV.2.2.trans (g.mono hV.2.2.size)⟩))
        clear HRB HSh0
        have bR := Below.refl w5.heap.size w5
        have HOne := Lib.hid (ycells_one [y1])
        have s0d : w5.drew.cell? ⟨wr.heap.size, 0, none⟩ = some (.int .i64 x0) := s0
        have s1d : w5.drew.cell? ⟨wr.heap.size, 1, none⟩ = some (.int .i64 (y1 : Int)) := s1
        have bRd := Below.drew bR
        have hzz : z ≤ 2000 := by omega
        have ba := below_new w5 (.cells #[.int .u8 (y1 : Int)] 5)
        have s0e : (w5.alloc (.cells #[.int .u8 (y1 : Int)] 5)).drew.cell? ⟨wr.heap.size, 0, none⟩ = some (.int .i64 x0) := kept_cell (Below.drew ba) s0
        have s1e : (w5.alloc (.cells #[.int .u8 (y1 : Int)] 5)).drew.cell? ⟨wr.heap.size, 1, none⟩ = some (.int .i64 (y1 : Int)) := kept_cell (Below.drew ba) s1
        have bRe := Below.drew ba
        have hwr : IntKind.u8.wrap (y1 : Int) = (y1 : Int) := by simp [IntKind.wrap, IntKind.bits, IntKind.signed]; omega
        go_region_held3 (fun V => V.cell? ⟨wr.heap.size, 0, none⟩ = some (.int .i64 x0) ∧ V.cell? ⟨wr.heap.size, 1, none⟩ = some (.int .i64 (y1 : Int)) ∧ Below w5.heap.size w5 V) (with_reducible (first | assumption | exact ⟨s0d, s1d, bRd⟩ | exact ⟨s0e, s1e, bRe⟩ | exact ⟨by assumption, by assumption, by assumption⟩ | exact held_alloc (by assumption))) (first | (go_at_call 31; with_reducible refine Calls.mono (hP.out _ ?_) ?_; (with_reducible (first | assumption | exact ⟨s0d, s1d, bRd⟩ | exact ⟨s0e, s1e, bRe⟩ | exact ⟨by assumption, by assumption, by assumption⟩ | exact held_alloc (by assumption))); rintro e w6 ⟨⟨A6, c6, rfl, o6, y6⟩, g6, t0, t1, b6⟩) | (refine step_append_src rfl _ _ 27 rfl w5.heap.size 5 i0 _ 1 1 Tryd.underlying27 hi0 hz0 hz1 hz2 rfl (by decide) _ _ _ rfl (o6.alloc (.cells #[.int .u8 (y1 : Int)] 5)) (some ⟨w6.heap.size, 0, none⟩) 1 1 (w6.heap.size + 1) (ycells [y1]) rfl (fun h => by cases h) (reads_one w6 y1) HOne.out ?n3 ?n4 ?n5 ?_; (case n3 => unfold maxLen; omega); (case n4 => omega); (case n5 => have := b6.size; simp; omega); intro A8 c8 w8 hown8 hn8 hgrow8; have b8 := below_grown (b6.alloc b6.size _) (by have := b6.size; simp; omega) (o6.alloc _) hgrow8; have t8 := kept_cell b8 s0; have t9 := kept_cell b8 s1) | (refine step_append_src rfl _ _ 27 rfl w5.heap.size 5 i0 _ 1 1 Tryd.underlying27 hi0 hz0 hz1 hz2 rfl (by decide) _ _ _ rfl o6 (some ⟨w5.heap.size, 0, none⟩) 1 1 w6.heap.size (ycells [y1]) rfl (fun h => by cases h) (reads_one_on (below_undrewE g6)) HOne.out ?n3 ?n4 ?n5 ?_; (case n3 => unfold maxLen; omega); (case n4 => omega); (case n5 => have := b6.size; omega); intro A8 c8 w8 hown8 hn8 hgrow8; have b8 := below_grown b6 b6.size o6 hgrow8; have t8 := kept_cell b8 s0; have t9 := kept_cell b8 s1))
        all_goals (
          have HLt6 := Lib.hid (app_lt y6 (one_lt (show y1 < 256 by omega)))
          have HO8 : Hid (w8.ownsRow W.heap.size 5 1 (.slice A8 (z + 3 + 1) c8) (z + 3 + 1) (ycells ((markB ++ [cn, n2, n1]) ++ (bd.take (k + 1)).flatMap bandB))) := Lib.hid (by
            rw [HTk'.out, ycells_app]; exact own_base hown8 hs5)
          rw [← HTk'.out] at HLt6
          have b9 := bal.trans (b8.mono hs5)
          clear hown8 hgrow8 t8 t9 b8 o6 y6 g6 t0 t1 b6 hP bR bRd s0 s1 s0d s1d s0e s1e bRe ba hwr HTk' bal
          go_wp2_with fail
          go_roundw
          (case rel => exact ⟨k + 1, z + 3 + 1, A8, c8, by omega, by omega, by go_num, rfl, HO8, HLt6, HTo', b9⟩)
          (case measure => simp [intOf]; omega))
    · obtain rfl : k = n1 := by omega
      have HO' : Hid (wr.ownsRow W.heap.size 5 1 (.slice A z c) z (ycells ((markB ++ [cn, n2, k]) ++ bd.flatMap bandB))) := Lib.hid (by
        have h := HO.out
        rwa [List.take_of_length_le (by rw [HL1.out]; exact Nat.le_refl _)] at h)
      have HOkA : Hid (∀ x ∈ bd, okBd x) := Lib.hid (by
        have h := HOk.out
        rwa [List.take_of_length_le (by rw [HL1.out]; exact Nat.le_refl _)] at h)
      have hz7 : z ≤ 1027 := by omega
      have hb0 := hb
      clear HO hz hsz hb HLt HOk hk
      rename World => wr1
      go_wp2_with fail
      go_loopw [5, 8] (fun vo vi wr => ∃ (j z : Nat) (A : Option Addr) (c : Nat), j ≤ n2 ∧ Hid (z ≤ 1027 + bulk (listsOf (hs.take j))) ∧ vi = .int .i64 j ∧ vo = .slice A z c ∧ Hid (wr.ownsRow W.heap.size 5 1 (.slice A z c) z (ycells (((markB ++ [cn, n2, k]) ++ bd.flatMap bandB) ++ (listsOf (hs.take j)).flatMap rowB))) ∧ Hid (∀ h ∈ hs.take j, h.n = cn ∧ ∀ x ∈ h.l, byteI x) ∧ Below W.heap.size W wr) (fun _ i _ => n2 - (intOf i).toNat)
      case atStart => exact ⟨0, z, A, c, Nat.zero_le _, Lib.hid (by omega), rfl, rfl, Lib.hid (by rw [List.take_zero]; unfold listsOf; rw [List.map_nil, List.flatMap_nil, List.append_nil]; exact HO'.out), Lib.hid (by rw [List.take_zero]; exact fun x hx => by simp at hx), hb0⟩
      case round =>
        obtain ⟨j, z, A, c, hj, HZ, rfl, rfl, HO, HOk, hb⟩ := hrel
        clear HO' hb0 q1'
        have hsz := hb.size
        have hz4 : z ≤ 4100 := by have := HZ.out; have := HBulk.out j; omega
        have q2' := kept_cell hb q2
        have q0' := kept_cell hb q0
        by_cases hlt2 : j < n2
        · have kl : j < hs.length := by rw [HL2.out]; exact hlt2
          obtain ⟨b, o, rfl, _, p0, pr, _⟩ := HT1.out.r2.at kl
          have hxl := pr.1
          have HTk : Hid ((((markB ++ [cn, n2, k]) ++ bd.flatMap bandB) ++ (listsOf (hs.take (j + 1))).flatMap rowB) = (((markB ++ [cn, n2, k]) ++ bd.flatMap bandB) ++ (listsOf (hs.take j)).flatMap rowB) ++ rowB hs[j].l) := Lib.hid (by
            rw [List.take_succ_eq_append_getElem kl]
            unfold listsOf
            rw [List.map_append, List.flatMap_append]
            simp)
          have HTb : Hid (bulk (listsOf (hs.take (j + 1))) = bulk (listsOf (hs.take j)) + (1 + hs[j].l.length)) := Lib.hid (by
            rw [List.take_succ_eq_append_getElem kl]
            unfold listsOf
            rw [List.map_append, bulk_app]
            simp [bulk])
          have HN2 := Lib.hid (HNo2.out hs[j] (List.getElem_mem kl))
          have HN3 := Lib.hid (HNo3.out hs[j] (List.getElem_mem kl))
          have HTo : Hid ((hs[j].n = cn ∧ ∀ x ∈ hs[j].l, byteI x) → ∀ h ∈ hs.take (j + 1), h.n = cn ∧ ∀ x ∈ h.l, byteI x) := Lib.hid (fun h x hx => by
            rw [List.take_succ_eq_append_getElem kl] at hx
            rcases List.mem_append.1 hx with hx | hx
            · exact HOk.out x hx
            · rw [List.mem_singleton] at hx; subst hx; exact h)
          generalize hs[j] = x at *
          obtain ⟨xa, xn, xc, xs⟩ := x
          simp only [] at p0 pr hxl HTk HTb HN2 HN3 HTo
          have HXL := Lib.hid hxl
          have HPr := Lib.hid pr
          have HZ' := Lib.hid HZ.out
          have p0' := kept_cell hb p0
          have hjj : (j : Int) < (n2 : Int) := by omega
          clear hxl pr HOk HZ
          generalize (((markB ++ [cn, n2, k]) ++ bd.flatMap bandB) ++ (listsOf (hs.take j)).flatMap rowB) = bs at *
          rename World => wr2
          by_cases hxn : xn = cn
          · obtain rfl : cn = xn := hxn.symm
            have hb0 := hb
            have HO0 := HO
            clear hb HO
            go_wp2_with fail
            go_quiet (fail)
            go_wp2_with fail
            go_loopw [5, 9] (fun vo vi wr => ∃ (i y : Nat) (A : Option Addr) (c : Nat), i ≤ cn ∧ Hid (y = z + i) ∧ vi = .int .i64 i ∧ vo = .slice A y c ∧ Hid (wr.ownsRow W.heap.size 5 1 (.slice A y c) y (ycells (bs ++ rowB (xs.take i)))) ∧ Hid (∀ x ∈ xs.take i, byteI x) ∧ Below W.heap.size W wr) (fun _ i _ => cn - (intOf i).toNat)
            case atStart => exact ⟨0, z, A, c, Nat.zero_le _, Lib.hid rfl, rfl, rfl, Lib.hid (by rw [List.take_zero]; unfold rowB; rw [List.map_nil, List.append_nil]; exact own_below HO0.out (below_drewN (Below.refl _ _) _)), Lib.hid (by rw [List.take_zero]; exact fun x hx => by simp at hx), below_drewN hb0 _⟩
            case round =>
              obtain ⟨i, y, A, c, hi, HY, rfl, rfl, HO, HBy, hb⟩ := hrel
              clear HO0 hb0 p0' q2' q0'
              have hsz := hb.size
              have hy : y ≤ 4400 := by have := HY.out; omega
              have q0' := kept_cell hb q0
              by_cases hil : i < cn
              · have il : i < xs.length := by rw [HXL.out]; exact hil
                obtain ⟨b2, o2, rfl, _, r0⟩ := (HPr.out.on hb).at il
                have p0' := kept_cell hb p0
                have q2' := kept_cell hb q2
                have HN := Lib.hid (HN3.out xs[i] (List.getElem_mem il))
                have HTj : Hid (bs ++ rowB (xs.take (i + 1)) = (bs ++ rowB (xs.take i)) ++ [xs[i].toNat]) := Lib.hid (by
                  rw [List.take_succ_eq_append_getElem il]; unfold rowB; rw [List.map_append]; simp)
                have HTy : Hid (byteI xs[i] → ∀ x ∈ xs.take (i + 1), byteI x) := Lib.hid (fun h x hx => by
                  rw [List.take_succ_eq_append_getElem il] at hx
                  rcases List.mem_append.1 hx with hx | hx
                  · exact HBy.out x hx
                  · rw [List.mem_singleton] at hx; subst hx; exact h)
                generalize xs[i] = v at *
                have hii : (i : Int) < (cn : Int) := by omega
                have HB := Lib.hid (refByte_any v)
                cases hby : byB v with
                | false =>
                  have HN' := Lib.hid (HN.out (fun h => by have h1 := (byB_iff v).2 h; rw [hby] at h1; cases h1))
                  rw [hby] at HB
                  clear HN HTj HTy hby
                  go_wp2_with fail
                  refine (HB.out _).mono ?_
                  rintro e w1 ⟨rfl, rfl⟩
                  go_wp2_with fail
                  go_ret2
                  rw [HN'.out]
                  exact outEn_no _ _ (b0.trans (hb.mono hwz))
                | true =>
                  have hxx : 0 ≤ v ∧ v ≤ 255 := (byB_iff v).1 hby
                  have HTy' := Lib.hid (HTy.out hxx)
                  rw [hby] at HB
                  obtain ⟨v, rfl⟩ := Int.eq_ofNat_of_zero_le hxx.1
                  rw [Int.toNat_natCast] at HTj
                  have hv : v ≤ 255 := by have := hxx.2; omega
                  have ev : (v : Int) % 256 = (v : Int) := by omega
                  generalize bs ++ rowB (xs.take i) = bj at *
                  have HOa := Lib.hid (HO.out.alloc (.cells #[.int .u8 (v : Int)] 5))
                  have hba := hb.alloc hsz (.cells #[.int .u8 (v : Int)] 5)
                  have HRd := Lib.hid (reads_one wr v)
                  have HOne := Lib.hid (ycells_one [v])
                  clear HO hxx hby HN HTy
                  go_wp2_with fail
                  refine (HB.out _).mono ?_
                  rintro e w1 ⟨rfl, hw1⟩
                  obtain rfl : wr = w1 := hw1.symm
                  go_wp2_with (at_builtin; refine wpList_append_src rfl _ _ 27 rfl W.heap.size 5 i0 _ 1 1 Tryd.underlying27 hi0 hz0 hz1 hz2 rfl (by decide) _ _ _ rfl HOa.out (some ⟨wr.heap.size, 0, none⟩) 1 1 (wr.heap.size + 1) (ycells [v]) rfl (fun h => by cases h) HRd.out HOne.out ?n3 ?n4 ?n5 ?_)
                  case n3 => unfold maxLen; omega
                  case n4 => omega
                  case n5 => simp; omega
                  intro A8 c8 w8 hown8 hn8 hgrow8
                  have b8 : Below W.heap.size W w8 := below_grown hba (by simp; omega) HOa.out hgrow8
                  have HO8 : Hid (w8.ownsRow W.heap.size 5 1 (.slice A8 (y + 1) c8) (y + 1) (ycells (bs ++ rowB (xs.take (i + 1))))) := Lib.hid (by
                    rw [HTj.out, ycells_app]; exact hown8)
                  clear hown8 hgrow8 HOa hba HRd HOne r0 hb HB p0' q2' q0'
                  go_wp2_with fail
                  go_roundw
                  case rel => exact ⟨i + 1, y + 1, A8, c8, by omega, Lib.hid (by have := HY.out; omega), by go_num, rfl, HO8, HTy', b8⟩
                  case measure => simp [intOf]; omega
              · have HO9 : Hid (wr.ownsRow W.heap.size 5 1 (.slice A y c) y (ycells (((markB ++ [cn, n2, k]) ++ bd.flatMap bandB) ++ (listsOf (hs.take (j + 1))).flatMap rowB))) := Lib.hid (by
                  have h := HO.out
                  rw [List.take_of_length_le (by rw [HXL.out]; omega)] at h
                  rw [HTk.out]
                  exact h)
                have HBy' := Lib.hid (HTo.out ⟨by first | exact trivial | rfl, by
                  have h := HBy.out
                  rwa [List.take_of_length_le (by rw [HXL.out]; omega)] at h⟩)
                have HZ9 : Hid (y ≤ 1027 + bulk (listsOf (hs.take (j + 1)))) := Lib.hid (by
                  have h1 := HTb.out
                  have h2 := HXL.out
                  have h3 := HZ'.out
                  have h4 := HY.out
                  omega)
                clear HO HTk HTb HPr HTo HBy HN2 HN3
                go_wp2_with fail
                go_roundw
                case rel => exact ⟨j + 1, y, A, c, by omega, HZ9, by go_num, rfl, HO9, HBy', hb⟩
                case measure => simp [intOf]; omega
          · have HN := Lib.hid (HN2.out hxn)
            have hne : ¬ ((xn : Int) = (cn : Int)) := by omega
            have hnb : ((xn : Int) != (cn : Int)) = true := by simpa using hne
            clear HN2 HN3 HTo HTk HTb
            go_wp2_with fail
            go_quiet (fail)
            go_wp2_with fail
            go_ret2
            rw [HN.out]
            exact outEn_no _ _ (below_drewN (b0.trans (hb.mono hwz)) _)
        · have HO' : Hid (wr.ownsRow W.heap.size 5 1 (.slice A z c) z (ycells (((markB ++ [cn, n2, k]) ++ bd.flatMap bandB) ++ (listsOf hs).flatMap rowB))) := Lib.hid (by
            have h := HO.out
            rwa [List.take_of_length_le (by rw [HL2.out]; omega)] at h)
          have HAll : Hid (∀ h ∈ hs, h.n = cn ∧ ∀ x ∈ h.l, byteI x) := Lib.hid (by
            have h := HOk.out
            rwa [List.take_of_length_le (by rw [HL2.out]; omega)] at h)
          have HEnc' := Lib.hid (HEnc.out (HMay.out HOkA.out HAll.out))
          have q3' := kept_cell hb q3
          have HBt := Lib.hid (refBits_any br n2 a3 c3 wr (HT1.out.r3.on hb) (by omega))
          clear HO HZ HOk HAll HOkA HMay HEnc HNo1 HNo2 HNo3 q0' q2'
          rename World => wr3
          go_wp2_with fail
          refine HBt.out.mono ?_
          rintro e w4 ⟨yb, hyb, A4, c4, rfl, l4, y4, o4, g4⟩
          obtain ⟨m, hm⟩ : ∃ m, (n2 + 7) / 8 = m := ⟨_, rfl⟩
          rw [hm] at l4 o4 ⊢
          have hm2 : m ≤ 100 := by omega
          have HE4 := Lib.hid (HEnc'.out yb hyb).1
          have HBl := Lib.hid (HEnc'.out yb hyb).2
          have b4 := hb.trans (g4.mono hsz)
          have hs4 := b4.size
          have HO4 := Lib.hid (own_below HO'.out g4)
          have HN4 := Lib.hid (own_nil o4)
          have HR4 : Hid (Reads w4 w4.heap.size 1 A4 m (ycells yb)) := Lib.hid (Reads.of_own o4)
          have HY4 := Lib.hid (ycells_one yb)
          clear hm hyb l4 y4 o4 g4 HBt HO' q3' hb HEnc'
          go_wp2_with (at_builtin; refine wpList_append_src rfl _ _ 27 rfl W.heap.size 5 i0 _ 1 1 Tryd.underlying27 hi0 hz0 hz1 hz2 rfl (by decide) _ _ _ rfl HO4.out A4 m c4 w4.heap.size (ycells yb) rfl HN4.out HR4.out HY4.out ?n3 ?n4 ?n5 ?_)
          case n3 => unfold maxLen; omega
          case n4 => omega
          case n5 => omega
          intro A5 c5 w5 hown5 hn5 hgrow5
          have b5 : Below W.heap.size W w5 := below_grown b4 hs4 HO4.out hgrow5
          have HAss : Hid ((((markB ++ [cn, n2, k]) ++ bd.flatMap bandB) ++ (listsOf hs).flatMap rowB) ++ yb = (markB ++ [cn, n2, k]) ++ (bd.flatMap bandB ++ ((listsOf hs).flatMap rowB ++ yb))) := Lib.hid (by simp only [List.append_assoc])
          have hown5' : w5.ownsRow W.heap.size 5 1 (.slice A5 (z + m) c5) (z + m) (ycells ((markB ++ [cn, n2, k]) ++ (bd.flatMap bandB ++ ((listsOf hs).flatMap rowB ++ yb)))) := by
            rw [← HAss.out, ycells_app]; exact hown5
          generalize (markB ++ [cn, n2, k]) ++ (bd.flatMap bandB ++ ((listsOf hs).flatMap rowB ++ yb)) = body at *
          have HRB := Lib.hid (own_RB hown5' HBl.out)
          have HSh := Lib.hid (own_shp hown5')
          have b5w := b0.trans (b5.mono hwz)
          clear hown5 hown5' hgrow5 HO4 HN4 HR4 HY4 HAss b4 b5
          have HSum := Lib.hid (refSum_any body (z + m) A5 c5 w5 HRB.out (by omega))
          have HPut := Lib.hid (refPut_4 body (z + m) A5 c5 ((sumL body : Nat) : Int) w5 HSh.out.1 HRB.out (by omega))
          have hsl := sumL_lt body
          have HSeal : Hid (body ++ lowB ((sumL body : Nat) : Int) 4 = sealB body) := Lib.hid rfl
          generalize sumL body = su at *
          go_wp2_with fail
          refine HSum.out.mono ?_
          rintro e w6 ⟨rfl, rfl⟩
          go_wp2_with fail
          refine HPut.out.mono ?_
          rintro e w7 ⟨A7, c7, rfl, l7, y7, o7, g7⟩
          have b7 := b5w.trans (g7.mono b5w.size)
          have HR7 := Lib.hid (own_RB o7 y7)
          have HS7 := Lib.hid (own_shp o7)
          clear l7 y7 o7 g7 HPut HSum
          go_wp2_with fail
          go_ret2
          rw [HE4.out, ← HSeal.out]
          exact outEn_yes HR7.out HS7.out b7
theorem refEncode_any (T : TV) (w : World) (hT : T.ok w) (hS : Small T.tb) : Calls Tryd.prog 9 #[T.v] w (OutEn (encR T.tb) w) := by
  have L1 : T.bd.length = T.n1 := hT.r1.1
  have L2 : (listsOf T.hs).length = T.n2 := by rw [listsOf_len]; exact hT.r2.1
  have L3 : T.br.length = T.n3 := hT.r3.1
  by_cases g0 : T.cl < 1
  · exact refEncode_h0 T w (encR_no (fun h => by have := h.c1; simp only [TV.tb] at this; omega)) g0
  by_cases g1 : 255 < T.cl
  · exact refEncode_h1 T w (encR_no (fun h => by have := h.c2; simp only [TV.tb] at this; omega)) g0 g1
  by_cases g2 : T.n2 < 1
  · exact refEncode_h2 T w (encR_no (fun h => by have := h.n1; simp only [TV.tb] at this; omega)) g0 g1 g2
  by_cases g3 : 255 < T.n2
  · exact refEncode_h3 T w (encR_no (fun h => by have := h.n2; simp only [TV.tb] at this; omega)) g0 g1 g2 g3
  by_cases g4 : T.n3 = T.n2
  · by_cases g5 : 255 < T.n1
    · exact refEncode_h5 T w (encR_no (fun h => by have := h.k1; simp only [TV.tb] at this; omega)) g0 g1 g2 g3 g4 g5
    · exact refEncode_main T w hT hS (by omega) (by omega) (by omega) (by omega) g4 (by omega)
  · exact refEncode_h4 T w (encR_no (fun h => by have := h.b1; simp only [TV.tb] at this; omega)) g0 g1 g2 g3 g4
end Go.Proofs.YtnilejdokgagbaaDoor

/- What the document's Decode returns: bytes too few, another mark. -/
namespace Go.Proofs.YtnilejdokgagbaaDoor
open Go.RowKit Go.BigFrame
set_option linter.unusedVariables false
set_option maxRecDepth 4000
set_option linter.unusedSimpArgs false

set_option maxRecDepth 4000 in
set_option maxHeartbeats 2000000 in
theorem refDecode_short (l : List Nat) (n : Nat) (A : Option Addr) (c : Nat) (w : World) (hl : l.length = n) (h11 : n < 11) :
    Calls Tryd.prog 11 #[.slice A n c] w (OutDc l w) := by
  have HE : Hid (errT l = 21) := Lib.hid (by rw [errT_seal (by rw [sealE_short (by omega)]; decide), sealE_short (by omega)])
  clear hl
  go_enter Tryd.func11, Tryd.ntmps11
  have p0 : (w.alloc (.cells #[.int .i64 0, .slice none 0 0, .slice none 0 0, .slice none 0 0] 26)).cell? ⟨w.heap.size, 0, none⟩ = some (.int .i64 0) := by simp
  have p1 : (w.alloc (.cells #[.int .i64 0, .slice none 0 0, .slice none 0 0, .slice none 0 0] 26)).cell? ⟨w.heap.size, 1, none⟩ = some (.slice none 0 0) := by simp
  have p2 : (w.alloc (.cells #[.int .i64 0, .slice none 0 0, .slice none 0 0, .slice none 0 0] 26)).cell? ⟨w.heap.size, 2, none⟩ = some (.slice none 0 0) := by simp
  have p3 : (w.alloc (.cells #[.int .i64 0, .slice none 0 0, .slice none 0 0, .slice none 0 0] 26)).cell? ⟨w.heap.size, 3, none⟩ = some (.slice none 0 0) := by simp
  have b0 := below_new w (.cells #[.int .i64 0, .slice none 0 0, .slice none 0 0, .slice none 0 0] 26)
  go_wp2_with fail
  exact bodyPost_ret (v := .tuple #[.agg #[.int .i64 0, .slice none 0 0, .slice none 0 0, .slice none 0 0], .int .i64 21]) (by simp [results, Tryd.results11, go_sem, p0, p1, p2, p3]) rfl (outDc_no HE.out (by decide) b0)
theorem str4_ne {x0 x1 x2 x3 : Nat} (h0 : x0 < 256) (h1 : x1 < 256) (h2 : x2 < 256) (h3 : x3 < 256) (h : ¬ [x0, x1, x2, x3] = markB) : (strOfNums [(x0 : Int), x1, x2, x3] == (⟨#[66, 82, 75, 49]⟩ : ByteArray)) = false := by
  have hd : (strOfNums [(x0 : Int), x1, x2, x3]).data.toList = [UInt8.ofNat x0, UInt8.ofNat x1, UInt8.ofNat x2, UInt8.ofNat x3] := by simp [strOfNums]
  rw [Bool.eq_false_iff]
  intro e
  have e2' : ((strOfNums [(x0 : Int), x1, x2, x3]).data == #[66, 82, 75, 49]) = true := e
  have e' := congrArg Array.toList (eq_of_beq e2')
  simp only [hd] at e'
  simp at e'
  apply h
  obtain ⟨e0, e1, e2, e3⟩ := e'
  have k0 := congrArg UInt8.toNat e0
  have k1 := congrArg UInt8.toNat e1
  have k2 := congrArg UInt8.toNat e2
  have k3 := congrArg UInt8.toNat e3
  simp at k0 k1 k2 k3
  unfold markB
  simp
  omega
theorem und5 : Tryd.prog.underlying 5 = some (.int .u8) := by kernel_rfl
theorem und9 : Tryd.prog.underlying 9 = some .string := by kernel_rfl
set_option maxRecDepth 4000 in
set_option maxHeartbeats 2000000 in
theorem refDecode_mark (l : List Nat) (n : Nat) (A : Option Addr) (c : Nat) (w : World) (hR : RB w w.heap.size A n l) (hc : n ≤ c) (hn : n ≤ 10000) (h11 : ¬ n < 11) (h4 : l.take 4 ≠ markB) :
    Calls Tryd.prog 11 #[.slice A n c] w (OutDc l w) := by
  have hl := hR.1
  have HE : Hid (errT l = 22) := Lib.hid (by rw [errT_seal (by rw [sealE_mark (by omega) h4]; decide), sealE_mark (by omega) h4])
  have hlt : ∀ x ∈ l.take 4, x < 256 := fun x hx => hR.2.2 x (List.mem_of_mem_take hx)
  obtain ⟨b0, o0, rfl, hb0, hsrc⟩ := hR.src (a := 0) (k := 4) (by omega) (by decide)
  rw [Nat.add_zero, List.drop_zero] at hsrc
  have hL : (l.take 4).length = 4 := by rw [List.length_take]; omega
  generalize l.take 4 = L at *
  clear hR hl
  match L, hL with
  | [x0, x1, x2, x3], _ =>
  have HNe := str4_ne (hlt x0 (by simp)) (hlt x1 (by simp)) (hlt x2 (by simp)) (hlt x3 (by simp)) h4
  have hcv := run_convert_bytes_arg (P := Tryd.prog) (w.alloc (.cells #[.int .i64 0, .slice none 0 0, .slice none 0 0, .slice none 0 0] 26)) 27 5 Tryd.underlying27 und5 b0 o0 4 c [(x0 : Int), x1, x2, x3] rfl (fun i hi => by
    have h := hsrc (w.alloc (.cells #[.int .i64 0, .slice none 0 0, .slice none 0 0, .slice none 0 0] 26)) (below_new _ _)
    match i, hi with
    | 0, _ => exact h 0 _ rfl
    | 1, _ => exact h 1 _ rfl
    | 2, _ => exact h 2 _ rfl
    | 3, _ => exact h 3 _ rfl) 9 und9
  have HNl : ((strOfNums [(x0 : Int), x1, x2, x3]).data == #[66, 82, 75, 49]) = false := HNe
  generalize strOfNums [(x0 : Int), x1, x2, x3] = st at *
  have HNt : (st.data.toList == [66, 82, 75, 49]) = false := by
    rw [Bool.eq_false_iff] at HNl ⊢
    intro e
    apply HNl
    have e' := eq_of_beq e
    rw [beq_iff_eq]
    exact Array.ext' e'
  have HNs : (st.toList == [66, 82, 75, 49]) = false := by rw [ByteArray.toList_eq]; exact HNt
  have HNq : ¬ st = ⟨#[66, 82, 75, 49]⟩ := fun e => by subst e; simp at HNt
  have hi4 : (4 : Int) ≤ (c : Int) := by omega
  clear hsrc h4 hlt
  go_enter Tryd.func11, Tryd.ntmps11
  have p0 : (w.alloc (.cells #[.int .i64 0, .slice none 0 0, .slice none 0 0, .slice none 0 0] 26)).cell? ⟨w.heap.size, 0, none⟩ = some (.int .i64 0) := by simp
  have p1 : (w.alloc (.cells #[.int .i64 0, .slice none 0 0, .slice none 0 0, .slice none 0 0] 26)).cell? ⟨w.heap.size, 1, none⟩ = some (.slice none 0 0) := by simp
  have p2 : (w.alloc (.cells #[.int .i64 0, .slice none 0 0, .slice none 0 0, .slice none 0 0] 26)).cell? ⟨w.heap.size, 2, none⟩ = some (.slice none 0 0) := by simp
  have p3 : (w.alloc (.cells #[.int .i64 0, .slice none 0 0, .slice none 0 0, .slice none 0 0] 26)).cell? ⟨w.heap.size, 3, none⟩ = some (.slice none 0 0) := by simp
  have b0' := below_new w (.cells #[.int .i64 0, .slice none 0 0, .slice none 0 0, .slice none 0 0] 26)
  go_wp2_with fail
  exact bodyPost_ret (v := .tuple #[.agg #[.int .i64 0, .slice none 0 0, .slice none 0 0, .slice none 0 0], .int .i64 22]) (by simp [results, Tryd.results11, go_sem, p0, p1, p2, p3]) rfl (outDc_no HE.out (by decide) b0')
theorem run_field74 (v : Nat) (b : Bool) (V : World) : (Instr.field 70 (.agg #[.int .i64 (v : Int), .bool b]) 0).run Tryd.prog V = .ok (.int .i64 (v : Int)) V := by kernel_rfl
/-- Up to the sum: the mark is there. -/
theorem str4_eq {x0 x1 x2 x3 : Nat} (h : [x0, x1, x2, x3] = markB) : strOfNums [(x0 : Int), x1, x2, x3] = (⟨#[66, 82, 75, 49]⟩ : ByteArray) := by
  unfold markB at h
  injection h with h0 h
  injection h with h1 h
  injection h with h2 h
  injection h with h3 h
  subst h0 h1 h2 h3
  rfl
set_option maxRecDepth 4000 in
set_option maxHeartbeats 2000000 in
theorem refDecode_sum (l : List Nat) (n : Nat) (A : Option Addr) (c : Nat) (w : World) (hR : RB w w.heap.size A n l) (hc : n ≤ c) (hn : n ≤ 10000) (h11 : ¬ n < 11) (h4 : l.take 4 = markB) (h5 : numL (l.drop (l.length - 4)) ≠ sumL (l.take (l.length - 4))) :
    Calls Tryd.prog 11 #[.slice A n c] w (OutDc l w) := by
  have hl := hR.1
  have HE : Hid (errT l = 23) := Lib.hid (by rw [errT_seal (by rw [sealE_sum (by omega) h4 h5]; decide), sealE_sum (by omega) h4 h5])
  obtain ⟨m, hm⟩ : ∃ m, n - 4 = m := ⟨_, rfl⟩
  have HG := Lib.hid (fun W (g : Below w.heap.size w W) => refGet_yes l n m 4 A c W (hR.on g) (by omega) (by omega) (by omega) (by omega))
  have HTk : Hid ((l.drop m).take 4 = l.drop (l.length - 4)) := Lib.hid (by rw [hl, hm, List.take_of_length_le (by rw [List.length_drop]; omega)])
  rw [HTk.out] at HG
  have HSm := Lib.hid (fun W (g : Below w.heap.size w W) => refSum_any (l.take m) m A c W ((hR.on g).take (by omega)) (by omega))
  rw [show l.take m = l.take (l.length - 4) by rw [hl, hm]] at HSm
  have hsl := sumL_lt (l.take (l.length - 4))
  generalize numL (l.drop (l.length - 4)) = v at *
  generalize sumL (l.take (l.length - 4)) = su at *
  obtain ⟨b0, o0, rfl, hb0, hsrc⟩ := hR.src (a := 0) (k := 4) (by omega) (by decide)
  rw [Nat.add_zero, List.drop_zero] at hsrc
  have hL : (l.take 4).length = 4 := by rw [List.length_take]; omega
  generalize l.take 4 = L at *
  clear hR hl HTk
  match L, hL with
  | [x0, x1, x2, x3], _ =>
  have hcv := run_convert_bytes_arg (P := Tryd.prog) (w.alloc (.cells #[.int .i64 0, .slice none 0 0, .slice none 0 0, .slice none 0 0] 26)) 27 5 Tryd.underlying27 und5 b0 o0 4 c [(x0 : Int), x1, x2, x3] rfl (fun i hi => by
    have h := hsrc (w.alloc (.cells #[.int .i64 0, .slice none 0 0, .slice none 0 0, .slice none 0 0] 26)) (below_new _ _)
    match i, hi with
    | 0, _ => exact h 0 _ rfl
    | 1, _ => exact h 1 _ rfl
    | 2, _ => exact h 2 _ rfl
    | 3, _ => exact h 3 _ rfl) 9 und9
  rw [str4_eq h4] at hcv
  have hi4 : (4 : Int) ≤ (c : Int) := by omega
  have hmI : (n : Int) - 4 = (m : Int) := by omega
  have hmw : IntKind.i64.wrap ((n : Int) - 4) = (m : Int) := by rw [IntKind.wrap_i64]; omega
  have hmw2 : IntKind.i64.wrap (m : Int) = (m : Int) := by rw [IntKind.wrap_i64]; omega
  have hmc : (m : Int) ≤ (c : Int) := by omega
  have hm0 : (0 : Int) ≤ (m : Int) := by omega
  have hmcn : m ≤ c := by omega
  have hsw : IntKind.i64.wrap (su : Int) = (su : Int) := by rw [IntKind.wrap_i64]; omega
  have hvs : ¬ ((v : Int) = (su : Int)) := by omega
  have hvb : ((v : Int) != (su : Int)) = true := by simpa using hvs
  clear hsrc h4 h5 hm
  go_enter Tryd.func11, Tryd.ntmps11
  have p0 : (w.alloc (.cells #[.int .i64 0, .slice none 0 0, .slice none 0 0, .slice none 0 0] 26)).cell? ⟨w.heap.size, 0, none⟩ = some (.int .i64 0) := by simp
  have p1 : (w.alloc (.cells #[.int .i64 0, .slice none 0 0, .slice none 0 0, .slice none 0 0] 26)).cell? ⟨w.heap.size, 1, none⟩ = some (.slice none 0 0) := by simp
  have p2 : (w.alloc (.cells #[.int .i64 0, .slice none 0 0, .slice none 0 0, .slice none 0 0] 26)).cell? ⟨w.heap.size, 2, none⟩ = some (.slice none 0 0) := by simp
  have p3 : (w.alloc (.cells #[.int .i64 0, .slice none 0 0, .slice none 0 0, .slice none 0 0] 26)).cell? ⟨w.heap.size, 3, none⟩ = some (.slice none 0 0) := by simp
  have hres : Res w.heap.size (w.alloc (.cells #[.int .i64 0, .slice none 0 0, .slice none 0 0, .slice none 0 0] 26)) := ⟨by simp, ⟨p0, p1, p2, p3⟩, World.frozen?_alloc_at _ _ _ _ rfl, World.frozen?_alloc_at _ _ _ _ rfl, World.frozen?_alloc_at _ _ _ _ rfl, World.frozen?_alloc_at _ _ _ _ rfl⟩
  have b1 := below_new w (.cells #[.int .i64 0, .slice none 0 0, .slice none 0 0, .slice none 0 0] 26)
  go_wp2_with fail
  clear p0 p1 p2 p3 hcv
  generalize (w.alloc (.cells #[.int .i64 0, .slice none 0 0, .slice none 0 0, .slice none 0 0] 26)) = W at *
  have bR := Below.refl W.heap.size W
  have hfd := run_field74 v true
  have hG : Hid (∀ V, Below W.heap.size W V → Calls Tryd.prog 41 #[.slice (some ⟨b0, o0, none⟩) n c, .int .i64 m, .int .i64 4] V fun e w' => e = .returned (.agg #[.int .i64 (v : Int), .bool true]) ∧ Below W.heap.size W w') := Lib.hid (fun V hV => (HG.out V (b1.trans (hV.mono b1.size))).mono (fun e w' h => ⟨h.1, hV.trans (h.2.mono hV.size)⟩))
  have hs : Hid (∀ V, Below W.heap.size W V → Calls Tryd.prog 33 #[.slice (some ⟨b0, o0, none⟩) m c] V fun e w' => e = .returned (.int .u32 (su : Int)) ∧ Below W.heap.size W w') := Lib.hid (fun V hV => (HSm.out V (b1.trans (hV.mono b1.size))).mono (fun e w' h => ⟨h.1, by rw [h.2]; exact hV⟩))
  clear HG HSm
  go_region_held3 (fun V => Below W.heap.size W V) (with_reducible (first | assumption | exact bR | exact Below.drew bR)) (first | (go_at_call 33; with_reducible refine Calls.mono (hs.out _ ?_) ?_; (first | assumption | exact bR | exact Below.drew bR); rintro e V1 ⟨rfl, b5⟩) | (go_at_call 41; with_reducible refine Calls.mono (hG.out _ ?_) ?_; (first | assumption | exact bR | exact Below.drew bR); rintro e V2 ⟨rfl, b6⟩))
  all_goals (
    obtain ⟨_, ⟨p0, p1, p2, p3⟩, f0, f1, f2, f3⟩ := (hres.on b5).parts
    obtain ⟨_, ⟨r0, r1, r2, r3⟩, t0, t1, t2, t3⟩ := (hres.on b6).parts
    have b5' := b1.trans (b5.mono b1.size)
    have b6' := b1.trans (b6.mono b1.size)
    clear hG hs
    go_wp2_with fail
    first
      | (obtain ⟨W9, hW9, b9, s9, c0, c1, c2, c3, _⟩ := store4 (.int .i64 0) (.slice none 0 0) (.slice none 0 0) (.slice none 0 0) b5' (Nat.le_refl _) p0 p1 p2 p3
         rw [← hW9]
         exact bodyPost_ret (v := .tuple #[.agg #[.int .i64 0, .slice none 0 0, .slice none 0 0, .slice none 0 0], .int .i64 23]) (by simp [results, Tryd.results11, go_sem, c0, c1, c2, c3]) rfl (outDc_no HE.out (by decide) b9))
      | (obtain ⟨W9, hW9, b9, s9, c0, c1, c2, c3, _⟩ := store4 (.int .i64 0) (.slice none 0 0) (.slice none 0 0) (.slice none 0 0) b6' (Nat.le_refl _) r0 r1 r2 r3
         rw [← hW9]
         exact bodyPost_ret (v := .tuple #[.agg #[.int .i64 0, .slice none 0 0, .slice none 0 0, .slice none 0 0], .int .i64 23]) (by simp [results, Tryd.results11, go_sem, c0, c1, c2, c3]) rfl (outDc_no HE.out (by decide) b9)))
end Go.Proofs.YtnilejdokgagbaaDoor

/- The document's Decode: counts that may not be. -/
namespace Go.Proofs.YtnilejdokgagbaaDoor
open Go.RowKit Go.BigFrame
set_option linter.unusedVariables false
set_option maxRecDepth 4000
set_option linter.unusedSimpArgs false

set_option maxRecDepth 4000 in
set_option maxHeartbeats 2000000 in
theorem refDecode_count (l : List Nat) (n : Nat) (A : Option Addr) (c : Nat) (w : World) (hR : RB w w.heap.size A n l) (hc : n ≤ c) (hn : n ≤ 10000) (h11 : ¬ n < 11) (h4 : l.take 4 = markB) (h5 : numL (l.drop (l.length - 4)) = sumL (l.take (l.length - 4))) (h6 : ¬ (cntB (l[4]?.getD 0) (l[5]?.getD 0) (l[6]?.getD 0) = true ∧ lenT (l[4]?.getD 0) (l[5]?.getD 0) (l[6]?.getD 0) = l.length)) :
    Calls Tryd.prog 11 #[.slice A n c] w (OutDc l w) := by
  have hl := hR.1
  have h0 : sealE l = 0 := sealE_ok (by omega) h4 h5
  have HE : Hid (errT l = 24) := Lib.hid (errT_count h0 h6)
  have HRW := Lib.hid (fun W (g : Below w.heap.size w W) => hR.on g)
  have x4l : l[4]?.getD 0 < 256 := by rw [getD_at l 4 (by omega)]; exact hR.2.2 _ (List.getElem_mem _)
  have x5l : l[5]?.getD 0 < 256 := by rw [getD_at l 5 (by omega)]; exact hR.2.2 _ (List.getElem_mem _)
  have x6l : l[6]?.getD 0 < 256 := by rw [getD_at l 6 (by omega)]; exact hR.2.2 _ (List.getElem_mem _)
  have HCell : Hid (∀ W, Below w.heap.size w W → ∀ b o, A = some ⟨b, o, none⟩ → W.cell? ⟨b, o + 4, none⟩ = some (.int .u8 ((l[4]?.getD 0 : Nat) : Int)) ∧ W.cell? ⟨b, o + 5, none⟩ = some (.int .u8 ((l[5]?.getD 0 : Nat) : Int)) ∧ W.cell? ⟨b, o + 6, none⟩ = some (.int .u8 ((l[6]?.getD 0 : Nat) : Int))) := Lib.hid (fun W g b o e => by
    obtain ⟨b', o', e', _, hc⟩ := (hR.on g).all (by omega)
    rw [e] at e'
    injection e' with e'
    injection e' with e1 e2
    subst e1; subst e2
    rw [getD_at l 4 (by omega), getD_at l 5 (by omega), getD_at l 6 (by omega)]
    exact ⟨hc 4 (by omega), hc 5 (by omega), hc 6 (by omega)⟩)
  have HN6 : Hid (¬ (((1 ≤ l[4]?.getD 0 ∧ l[4]?.getD 0 ≤ 8) ∧ (1 ≤ l[5]?.getD 0 ∧ l[5]?.getD 0 ≤ 5) ∧ (1 ≤ l[6]?.getD 0 ∧ l[6]?.getD 0 ≤ 60)) ∧ lenT (l[4]?.getD 0) (l[5]?.getD 0) (l[6]?.getD 0) = n)) := Lib.hid (fun ⟨a, b⟩ => h6 ⟨decide_eq_true a, by rw [b]; exact hl.symm⟩)
  clear h6 h0
  obtain ⟨m, hm⟩ : ∃ m, n - 4 = m := ⟨_, rfl⟩
  have HG := Lib.hid (fun W (g : Below w.heap.size w W) => refGet_yes l n m 4 A c W (hR.on g) (by omega) (by omega) (by omega) (by omega))
  have HTk : Hid ((l.drop m).take 4 = l.drop (l.length - 4)) := Lib.hid (by rw [hl, hm, List.take_of_length_le (by rw [List.length_drop]; omega)])
  rw [HTk.out] at HG
  have HSm := Lib.hid (fun W (g : Below w.heap.size w W) => refSum_any (l.take m) m A c W ((hR.on g).take (by omega)) (by omega))
  rw [show l.take m = l.take (l.length - 4) by rw [hl, hm]] at HSm
  have hsl := sumL_lt (l.take (l.length - 4))
  generalize numL (l.drop (l.length - 4)) = v at *
  generalize sumL (l.take (l.length - 4)) = su at *
  obtain ⟨b0, o0, rfl, hb0, hsrc⟩ := hR.src (a := 0) (k := 4) (by omega) (by decide)
  rw [Nat.add_zero, List.drop_zero] at hsrc
  have hL : (l.take 4).length = 4 := by rw [List.length_take]; omega
  generalize l[4]?.getD 0 = x4 at *
  generalize l[5]?.getD 0 = x5 at *
  generalize l[6]?.getD 0 = x6 at *
  generalize l.take 4 = L at *
  clear hR hl HTk
  match L, hL with
  | [x0, x1, x2, x3], _ =>
  have hcv := run_convert_bytes_arg (P := Tryd.prog) (w.alloc (.cells #[.int .i64 0, .slice none 0 0, .slice none 0 0, .slice none 0 0] 26)) 27 5 Tryd.underlying27 und5 b0 o0 4 c [(x0 : Int), x1, x2, x3] rfl (fun i hi => by
    have h := hsrc (w.alloc (.cells #[.int .i64 0, .slice none 0 0, .slice none 0 0, .slice none 0 0] 26)) (below_new _ _)
    match i, hi with
    | 0, _ => exact h 0 _ rfl
    | 1, _ => exact h 1 _ rfl
    | 2, _ => exact h 2 _ rfl
    | 3, _ => exact h 3 _ rfl) 9 und9
  rw [str4_eq h4] at hcv
  have hi4 : (4 : Int) ≤ (c : Int) := by omega
  have hmI : (n : Int) - 4 = (m : Int) := by omega
  have hmw : IntKind.i64.wrap ((n : Int) - 4) = (m : Int) := by rw [IntKind.wrap_i64]; omega
  have hmw2 : IntKind.i64.wrap (m : Int) = (m : Int) := by rw [IntKind.wrap_i64]; omega
  have hmc : (m : Int) ≤ (c : Int) := by omega
  have hm0 : (0 : Int) ≤ (m : Int) := by omega
  have hmcn : m ≤ c := by omega
  have hsw : IntKind.i64.wrap (su : Int) = (su : Int) := by rw [IntKind.wrap_i64]; omega
  have hvb : ((v : Int) != (su : Int)) = false := by rw [h5]; simp
  clear hsrc h4 h5 hm
  go_enter Tryd.func11, Tryd.ntmps11
  have p0 : (w.alloc (.cells #[.int .i64 0, .slice none 0 0, .slice none 0 0, .slice none 0 0] 26)).cell? ⟨w.heap.size, 0, none⟩ = some (.int .i64 0) := by simp
  have p1 : (w.alloc (.cells #[.int .i64 0, .slice none 0 0, .slice none 0 0, .slice none 0 0] 26)).cell? ⟨w.heap.size, 1, none⟩ = some (.slice none 0 0) := by simp
  have p2 : (w.alloc (.cells #[.int .i64 0, .slice none 0 0, .slice none 0 0, .slice none 0 0] 26)).cell? ⟨w.heap.size, 2, none⟩ = some (.slice none 0 0) := by simp
  have p3 : (w.alloc (.cells #[.int .i64 0, .slice none 0 0, .slice none 0 0, .slice none 0 0] 26)).cell? ⟨w.heap.size, 3, none⟩ = some (.slice none 0 0) := by simp
  have hres : Res w.heap.size (w.alloc (.cells #[.int .i64 0, .slice none 0 0, .slice none 0 0, .slice none 0 0] 26)) := ⟨by simp, ⟨p0, p1, p2, p3⟩, World.frozen?_alloc_at _ _ _ _ rfl, World.frozen?_alloc_at _ _ _ _ rfl, World.frozen?_alloc_at _ _ _ _ rfl, World.frozen?_alloc_at _ _ _ _ rfl⟩
  have b1 := below_new w (.cells #[.int .i64 0, .slice none 0 0, .slice none 0 0, .slice none 0 0] 26)
  go_wp2_with fail
  clear p0 p1 p2 p3 hcv
  generalize (w.alloc (.cells #[.int .i64 0, .slice none 0 0, .slice none 0 0, .slice none 0 0] 26)) = W at *
  have bR := Below.refl W.heap.size W
  have hfd := run_field74 v true
  have hG : Hid (∀ V, Below W.heap.size W V → Calls Tryd.prog 41 #[.slice (some ⟨b0, o0, none⟩) n c, .int .i64 m, .int .i64 4] V fun e w' => e = .returned (.agg #[.int .i64 (v : Int), .bool true]) ∧ Below W.heap.size W w') := Lib.hid (fun V hV => (HG.out V (b1.trans (hV.mono b1.size))).mono (fun e w' h => ⟨h.1, hV.trans (h.2.mono hV.size)⟩))
  have hs : Hid (∀ V, Below W.heap.size W V → Calls Tryd.prog 33 #[.slice (some ⟨b0, o0, none⟩) m c] V fun e w' => e = .returned (.int .u32 (su : Int)) ∧ Below W.heap.size W w') := Lib.hid (fun V hV => (HSm.out V (b1.trans (hV.mono b1.size))).mono (fun e w' h => ⟨h.1, by rw [h.2]; exact hV⟩))
  clear HG HSm
  go_upto_region 5 with (fail)
  go_cut [37] from 24 to 37 (fun v wx => v = .bool false ∧ Below W.heap.size W wx)
  case first =>
    as_aux_lemma =>
      go_region_held3 (fun V => Below W.heap.size W V) (with_reducible (first | assumption | exact bR | exact Below.drew bR)) (first | (go_at_call 33; with_reducible refine Calls.mono (hs.out _ ?_) ?_; (first | assumption | exact bR | exact Below.drew bR); rintro e V1 ⟨rfl, b5⟩) | (go_at_call 41; with_reducible refine Calls.mono (hG.out _ ?_) ?_; (first | assumption | exact bR | exact Below.drew bR); rintro e V2 ⟨rfl, b6⟩))
      all_goals (
        go_wp2_with fail
        go_meet
        first | exact ⟨rfl, b5⟩ | exact ⟨rfl, b6⟩)
  obtain ⟨rfl, bx⟩ := hcut
  clear hG hs hfd
  have bz := b1.trans (bx.mono b1.size)
  obtain ⟨y4, y5, y6⟩ := HCell.out wc bz b0 o0 rfl
  replace hres := hres.on bx
  have i4 : (4 : Int) < (n : Int) := by omega
  have i5 : (5 : Int) < (n : Int) := by omega
  have i6 : (6 : Int) < (n : Int) := by omega
  have w4 : IntKind.i64.wrap (x4 : Int) = (x4 : Int) := by rw [IntKind.wrap_i64]; omega
  have w5 : IntKind.i64.wrap (x5 : Int) = (x5 : Int) := by rw [IntKind.wrap_i64]; omega
  have w6 : IntKind.i64.wrap (x6 : Int) = (x6 : Int) := by rw [IntKind.wrap_i64]; omega
  go_wp2_with fail
  go_quiet (fail)
  replace hres := hres.on (below_drewN (Below.refl wc.heap.size wc) nq)
  replace bz := below_drewN bz nq
  clear y4 y5 y6 i4 i5 i6 w4 w5 w6 bx b1
  generalize wc.drewN nq = wd at *
  have hLn : Hid (∀ V, Calls Tryd.prog 16 #[.int .i64 (x4 : Int), .int .i64 (x5 : Int), .int .i64 (x6 : Int)] V fun e w' => e = .returned (.int .i64 (lenT x4 x5 x6 : Nat)) ∧ Below V.heap.size V w') := Lib.hid (fun V => by
    have h := refLength_any (x4 : Int) (x5 : Int) (x6 : Int) V
    rw [lenI_nat (by omega) (by omega) (by omega)] at h
    exact h)
  have hlb : lenT x4 x5 x6 ≤ 100000 := by have := Nat.mul_le_mul (show x5 ≤ 255 by omega) (show x4 ≤ 255 by omega); unfold lenT; omega
  have hLE : Hid (lenT x4 x5 x6 = n → ¬ ((1 ≤ x4 ∧ x4 ≤ 8) ∧ (1 ≤ x5 ∧ x5 ≤ 5) ∧ (1 ≤ x6 ∧ x6 ≤ 60))) := Lib.hid (fun h1 h2 => HN6.out ⟨h2, h1⟩)
  generalize lenT x4 x5 x6 = ln at *
  obtain ⟨_, ⟨p0, p1, p2, p3⟩, f0, f1, f2, f3⟩ := hres.parts
  by_cases t0 : (x4 : Int) < 1
  case pos =>
    as_aux_lemma =>
      go_wp2_with fail
      obtain ⟨W9, hW9, b9, s9, q0, q1, q2, q3, _⟩ := store4 (.int .i64 0) (.slice none 0 0) (.slice none 0 0) (.slice none 0 0) bz (Nat.le_refl _) p0 p1 p2 p3
      rw [← hW9]
      exact bodyPost_ret (v := .tuple #[.agg #[.int .i64 0, .slice none 0 0, .slice none 0 0, .slice none 0 0], .int .i64 24]) (by simp [results, Tryd.results11, go_sem, q0, q1, q2, q3]) rfl (outDc_no HE.out (by decide) b9)
  by_cases t1 : 8 < (x4 : Int)
  case pos =>
    as_aux_lemma =>
      go_wp2_with fail
      obtain ⟨W9, hW9, b9, s9, q0, q1, q2, q3, _⟩ := store4 (.int .i64 0) (.slice none 0 0) (.slice none 0 0) (.slice none 0 0) bz (Nat.le_refl _) p0 p1 p2 p3
      rw [← hW9]
      exact bodyPost_ret (v := .tuple #[.agg #[.int .i64 0, .slice none 0 0, .slice none 0 0, .slice none 0 0], .int .i64 24]) (by simp [results, Tryd.results11, go_sem, q0, q1, q2, q3]) rfl (outDc_no HE.out (by decide) b9)
  by_cases t2 : (x5 : Int) < 1
  case pos =>
    as_aux_lemma =>
      go_wp2_with fail
      obtain ⟨W9, hW9, b9, s9, q0, q1, q2, q3, _⟩ := store4 (.int .i64 0) (.slice none 0 0) (.slice none 0 0) (.slice none 0 0) bz (Nat.le_refl _) p0 p1 p2 p3
      rw [← hW9]
      exact bodyPost_ret (v := .tuple #[.agg #[.int .i64 0, .slice none 0 0, .slice none 0 0, .slice none 0 0], .int .i64 24]) (by simp [results, Tryd.results11, go_sem, q0, q1, q2, q3]) rfl (outDc_no HE.out (by decide) b9)
  by_cases t3 : 5 < (x5 : Int)
  case pos =>
    as_aux_lemma =>
      go_wp2_with fail
      obtain ⟨W9, hW9, b9, s9, q0, q1, q2, q3, _⟩ := store4 (.int .i64 0) (.slice none 0 0) (.slice none 0 0) (.slice none 0 0) bz (Nat.le_refl _) p0 p1 p2 p3
      rw [← hW9]
      exact bodyPost_ret (v := .tuple #[.agg #[.int .i64 0, .slice none 0 0, .slice none 0 0, .slice none 0 0], .int .i64 24]) (by simp [results, Tryd.results11, go_sem, q0, q1, q2, q3]) rfl (outDc_no HE.out (by decide) b9)
  by_cases t4 : (x6 : Int) < 1
  case pos =>
    as_aux_lemma =>
      go_wp2_with fail
      obtain ⟨W9, hW9, b9, s9, q0, q1, q2, q3, _⟩ := store4 (.int .i64 0) (.slice none 0 0) (.slice none 0 0) (.slice none 0 0) bz (Nat.le_refl _) p0 p1 p2 p3
      rw [← hW9]
      exact bodyPost_ret (v := .tuple #[.agg #[.int .i64 0, .slice none 0 0, .slice none 0 0, .slice none 0 0], .int .i64 24]) (by simp [results, Tryd.results11, go_sem, q0, q1, q2, q3]) rfl (outDc_no HE.out (by decide) b9)
  by_cases t5 : 60 < (x6 : Int)
  case pos =>
    as_aux_lemma =>
      go_wp2_with fail
      obtain ⟨W9, hW9, b9, s9, q0, q1, q2, q3, _⟩ := store4 (.int .i64 0) (.slice none 0 0) (.slice none 0 0) (.slice none 0 0) bz (Nat.le_refl _) p0 p1 p2 p3
      rw [← hW9]
      exact bodyPost_ret (v := .tuple #[.agg #[.int .i64 0, .slice none 0 0, .slice none 0 0, .slice none 0 0], .int .i64 24]) (by simp [results, Tryd.results11, go_sem, q0, q1, q2, q3]) rfl (outDc_no HE.out (by decide) b9)
  have hne : (((ln : Nat) : Int) != (n : Int)) = true := by rw [bne_iff_ne]; intro e; exact hLE.out (by omega) (by omega)
  go_wp2_with fail
  refine (hLn.out _).mono ?_
  rintro e we ⟨rfl, g⟩
  replace hres := hres.on g
  replace bz := bz.trans (g.mono bz.size)
  clear g p0 p1 p2 p3 f0 f1 f2 f3
  obtain ⟨_, ⟨p0, p1, p2, p3⟩, f0, f1, f2, f3⟩ := hres.parts
  go_wp2_with fail
  obtain ⟨W9, hW9, b9, s9, q0, q1, q2, q3, _⟩ := store4 (.int .i64 0) (.slice none 0 0) (.slice none 0 0) (.slice none 0 0) bz (Nat.le_refl _) p0 p1 p2 p3
  rw [← hW9]
  exact bodyPost_ret (v := .tuple #[.agg #[.int .i64 0, .slice none 0 0, .slice none 0 0, .slice none 0 0], .int .i64 24]) (by simp [results, Tryd.results11, go_sem, q0, q1, q2, q3]) rfl (outDc_no HE.out (by decide) b9)
end Go.Proofs.YtnilejdokgagbaaDoor

