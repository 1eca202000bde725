/- TableCodes: the bytes of a table, the table of bytes, whether two are alike, how many bytes there are: as the document says. -/
import Derived.Test.YtnilejdokgagbaaDoorRDec3
import Derived.Test.YtnilejdokgagbaaDoorWak6
namespace Go.Proofs.YtnilejdokgagbaaDoor.tableCodes
open Go.RowKit Go.Deep Go.BigFrame
set_option linter.unusedVariables false
set_option maxRecDepth 4000
set_option linter.unusedSimpArgs false

theorem decR_small {l : List Nat} (hl : ∀ x ∈ l, x < 256) : Small (decR l) := by
  by_cases h : errT l = 0
  · rw [decR_yes h]
    have hI := enc_dec hl h
    have h2 := (err_enc hI).1
    rw [h] at h2
    have hm := hI.1
    by_cases hc : (decT l).cl ≤ 8 ∧ (decT l).nx.length ≤ 5 ∧ 1 ≤ (decT l).bd.length ∧ (decT l).bd.length ≤ 60
    · refine ⟨by omega, ?_, by rw [hm.b1]; omega⟩
      have c1 := hm.c1
      rw [bulk_rect (c := (decT l).cl.toNat) (fun r hr => by have := (hm.nx r hr).1; omega)]
      have := Nat.mul_le_mul hc.2.1 (show (decT l).cl.toNat ≤ 8 by omega)
      omega
    · rw [if_neg hc] at h2
      cases h2
  · rw [decR_no h]
    exact ⟨by simp [zeroT], by simp [zeroT, bulk], by simp [zeroT]⟩

set_option maxHeartbeats 8000000 in
theorem walk (T U : TV) (l : List Nat) (n : Nat) (A : Option Addr) (c : Nat) (W : World) (hT : T.ok W) (hU : U.ok W) (hR : RB W W.heap.size A n l) (hs : Shp A n c) (hM : Mark W) :
    Calls Tryd.prog 3 #[T.v, U.v, .slice A n c] W fun e W' => e = .returned (.bool true) ∧ Below W.heap.size W W' := by
  have HLT := Lib.hid (fun V (g : Below W.heap.size W V) => large_any T V (hT.on g))
  have HLU := Lib.hid (fun V (g : Below W.heap.size W V) => large_any U V (hU.on g))
  have HWk := Lib.hid (fun V (g : Below W.heap.size W V) => wakes6_any V (hM.on g))
  have HOT := Lib.hid (fun (h : Small T.tb) V (g : Below W.heap.size W V) => ownTable_any T V (hT.on g) h)
  have HRE := Lib.hid (fun (h : Small T.tb) V (g : Below W.heap.size W V) => refEncode_any T V (hT.on g) h)
  have HDc := Lib.hid (fun (h : n ≤ 10000) V (g : Below W.heap.size W V) => refDecode_any l n A c V (hR.on g) hs.2.1 h)
  have HKT := Lib.hid (fun (h : Small T.tb) V (g : Below W.heap.size W V) => keepTable_s T U V (hT.on g) (hU.on g) h)
  have HRT := Lib.hid (fun V (g : Below W.heap.size W V) => hT.on g)
  have HRU := Lib.hid (fun V (g : Below W.heap.size W V) => hU.on g)
  have HRB := Lib.hid (fun V (g : Below W.heap.size W V) => hR.on g)
  have HMk := Lib.hid (fun V (g : Below W.heap.size W V) => hM.on g)
  have hn63 : n ≤ 9223372036854775807 := by have := hs.2; unfold maxLen at this; omega
  have HS := Lib.hid hs
  have b1 := below_new W (.cells #[.int .i64 T.cl, .slice T.a1 T.n1 T.c1, .slice T.a2 T.n2 T.c2, .slice T.a3 T.n3 T.c3] 26)
  have X1 := box_new W T
  have b2 := below_new (W.alloc (.cells #[.int .i64 T.cl, .slice T.a1 T.n1 T.c1, .slice T.a2 T.n2 T.c2, .slice T.a3 T.n3 T.c3] 26)) (.cells #[.int .i64 U.cl, .slice U.a1 U.n1 U.c1, .slice U.a2 U.n2 U.c2, .slice U.a3 U.n3 U.c3] 26)
  have HX := Lib.hid (X1.on b2)
  have HY := Lib.hid (box_new (W.alloc (.cells #[.int .i64 T.cl, .slice T.a1 T.n1 T.c1, .slice T.a2 T.n2 T.c2, .slice T.a3 T.n3 T.c3] 26)) U)
  have bb := b1.trans (b2.mono b1.size)
  have hz1 : (W.alloc (.cells #[.int .i64 T.cl, .slice T.a1 T.n1 T.c1, .slice T.a2 T.n2 T.c2, .slice T.a3 T.n3 T.c3] 26)).heap.size = W.heap.size + 1 := by simp
  clear hT hU hR hs hM b1 X1 b2
  simp only [TV.v] at *
  rw [hz1] at HY
  obtain ⟨_, p0, p1, p2, p3⟩ := HX.out
  obtain ⟨_, q0, q1, q2, q3⟩ := HY.out
  go_enter Tryd.func3, Tryd.ntmps3
  go_wp2_with fail
  generalize (W.alloc (.cells #[.int .i64 T.cl, .slice T.a1 T.n1 T.c1, .slice T.a2 T.n2 T.c2, .slice T.a3 T.n3 T.c3] 26)).alloc (.cells #[.int .i64 U.cl, .slice U.a1 U.n1 U.c1, .slice U.a2 U.n2 U.c2, .slice U.a3 U.n3 U.c3] 26) = V0 at *
  refine (HLT.out _ bb).mono ?_
  rintro e w1 ⟨q, rfl, g, hq⟩
  have HQ := Lib.hid hq
  replace bb := bb.trans (g.mono bb.size)
  replace HX := Lib.hid (HX.out.on g)
  replace HY := Lib.hid (HY.out.on g)
  clear g hq HLT p0 p1 p2 p3 q0 q1 q2 q3
  obtain ⟨_, p0, p1, p2, p3⟩ := HX.out
  obtain ⟨_, q0, q1, q2, q3⟩ := HY.out
  cases q
  case true =>
    go_wp2_with fail
    refine (HWk.out _ bb).mono ?_
    rintro e w9 ⟨rfl, g9⟩
    have bf := bb.trans (g9.mono bb.size)
    clear g9
    go_wp2_with fail
    go_ret
    exact ⟨rfl, bf⟩
  have hST := HQ.out rfl
  clear HQ
  go_wp2_with fail
  refine (HLU.out _ bb).mono ?_
  rintro e w2 ⟨q, rfl, g, hq⟩
  have HQ := Lib.hid hq
  replace bb := bb.trans (g.mono bb.size)
  replace HX := Lib.hid (HX.out.on g)
  replace HY := Lib.hid (HY.out.on g)
  clear g hq HLU p0 p1 p2 p3 q0 q1 q2 q3
  obtain ⟨_, p0, p1, p2, p3⟩ := HX.out
  obtain ⟨_, q0, q1, q2, q3⟩ := HY.out
  cases q
  case true =>
    go_wp2_with fail
    refine (HWk.out _ bb).mono ?_
    rintro e w9 ⟨rfl, g9⟩
    have bf := bb.trans (g9.mono bb.size)
    clear g9
    go_wp2_with fail
    go_ret
    exact ⟨rfl, bf⟩
  have hSU := HQ.out rfl
  clear HQ
  by_cases hn2 : 2000 < n
  · have hnI : (2000 : Int) < (n : Int) := by omega
    go_wp2_with fail
    refine (HWk.out _ bb).mono ?_
    rintro e w9 ⟨rfl, g9⟩
    have bf := bb.trans (g9.mono bb.size)
    clear g9
    go_wp2_with fail
    go_ret
    exact ⟨rfl, bf⟩
  have hnI : ¬ (2000 : Int) < (n : Int) := by omega
  go_wp2_with fail
  refine (HOT.out hST _ bb).mono ?_
  rintro e w3 ⟨T5, rfl, tb5, ok5, g⟩
  clear p0 p1 p2 p3 q0 q1 q2 q3
  replace bb := bb.trans (g.mono bb.size)
  replace HX := Lib.hid (HX.out.on g)
  replace HY := Lib.hid (HY.out.on g)
  clear g
  clear HOT
  obtain ⟨r, hr⟩ : ∃ r, encR T.tb = r := ⟨_, rfl⟩
  rw [hr] at HRE
  have g := below_new w3 (.cells #[.int .i64 T5.cl, .slice T5.a1 T5.n1 T5.c1, .slice T5.a2 T5.n2 T5.c2, .slice T5.a3 T5.n3 T5.c3] 26)
  have HO := Lib.hid (ok5.on g)
  replace bb := bb.trans (g.mono bb.size)
  replace HX := Lib.hid (HX.out.on g)
  replace HY := Lib.hid (HY.out.on g)
  clear g
  have HZ := Lib.hid (box_new w3 T5)
  clear ok5
  simp only [TV.v]
  obtain ⟨_, p0, p1, p2, p3⟩ := HX.out
  obtain ⟨_, q0, q1, q2, q3⟩ := HY.out
  obtain ⟨_, z0, z1, z2, z3⟩ := HZ.out
  go_wp2_with fail
  generalize w3.alloc (.cells #[.int .i64 T5.cl, .slice T5.a1 T5.n1 T5.c1, .slice T5.a2 T5.n2 T5.c2, .slice T5.a3 T5.n3 T5.c3] 26) = w4 at *
  have HEn := Lib.hid (encode_any T5 w4 HO.out (by rw [tb5]; exact hST) (HMk.out _ bb))
  rw [tb5, hr] at HEn
  obtain ⟨rl, hrl⟩ : ∃ x, r.getD [] = x := ⟨_, rfl⟩
  obtain ⟨rb, hrb⟩ : ∃ x, r.isSome = x := ⟨_, rfl⟩
  unfold OutEn at HEn HRE
  rw [hrl, hrb] at HEn HRE
  simp only [TV.v] at HEn
  refine HEn.out.mono ?_
  rintro e w5 ⟨A6, c6, rfl, r6, s6, g⟩
  clear HEn
  clear p0 p1 p2 p3 q0 q1 q2 q3 z0 z1 z2 z3
  replace bb := bb.trans (g.mono bb.size)
  replace HX := Lib.hid (HX.out.on g)
  replace HY := Lib.hid (HY.out.on g)
  replace HZ := Lib.hid (HZ.out.on g)
  replace HO := Lib.hid (HO.out.on g)
  clear g
  have HB6 := Lib.hid r6
  clear r6 s6 hr hrl hrb
  obtain ⟨_, p0, p1, p2, p3⟩ := HX.out
  obtain ⟨_, q0, q1, q2, q3⟩ := HY.out
  obtain ⟨_, z0, z1, z2, z3⟩ := HZ.out
  go_wp2_with fail
  refine (HRE.out hST _ bb).mono ?_
  rintro e w6 ⟨A7, c7, rfl, r7, s7, g⟩
  clear HRE
  clear p0 p1 p2 p3 q0 q1 q2 q3 z0 z1 z2 z3
  replace bb := bb.trans (g.mono bb.size)
  replace HX := Lib.hid (HX.out.on g)
  replace HY := Lib.hid (HY.out.on g)
  replace HZ := Lib.hid (HZ.out.on g)
  replace HO := Lib.hid (HO.out.on g)
  replace HB6 := Lib.hid (HB6.out.on g)
  clear g
  have HB7 := Lib.hid r7
  clear r7 s7
  obtain ⟨_, p0, p1, p2, p3⟩ := HX.out
  obtain ⟨_, q0, q1, q2, q3⟩ := HY.out
  obtain ⟨_, z0, z1, z2, z3⟩ := HZ.out
  have HRb := Lib.hid (HRB.out _ bb)
  have HOm := Lib.hid (World.ownsRow_made (e := 5) (size := 1) w6 #[] 0 (Nat.le_refl _) (Nat.zero_le _) (by simp))
  have HRd := Lib.hid (HRb.out.2.1.alloc (Nat.le_refl _) (.cells #[] 5))
  have HOne := Lib.hid (ycells_one l)
  have HNil : Hid (A = none → c = 0) := Lib.hid HS.out.1
  have HLt := Lib.hid HRb.out.2.2
  obtain ⟨i0, hi0, hz0, hz1, hz2⟩ := info_parts info5
  go_wp2_with (at_builtin; refine wpList_append_src rfl _ _ 27 rfl w6.heap.size 5 i0 _ 1 1 Tryd.underlying27 hi0 hz0 hz1 hz2 rfl (by decide) _ _ _ rfl HOm.out A n c w6.heap.size (ycells l) rfl HNil.out HRd.out HOne.out ?c3 ?c4 ?c5 ?_)
  case c3 => unfold maxLen; omega
  case c4 => omega
  try (case c5 => simp)
  intro A8 d8 w7 hown hnil hgrow
  have g : Below w6.heap.size w6 w7 := below_grown (below_new _ _) (by simp) HOm.out hgrow
  have HO8 : Hid (w7.ownsRow w6.heap.size 5 1 (.slice A8 n d8) n (ycells l)) := Lib.hid (by simpa using hown)
  try simp only [Nat.zero_add]
  clear hown hgrow hnil HOm HRd HOne HNil HRb
  clear p0 p1 p2 p3 q0 q1 q2 q3 z0 z1 z2 z3
  replace bb := bb.trans (g.mono bb.size)
  replace HX := Lib.hid (HX.out.on g)
  replace HY := Lib.hid (HY.out.on g)
  replace HZ := Lib.hid (HZ.out.on g)
  replace HO := Lib.hid (HO.out.on g)
  replace HB6 := Lib.hid (HB6.out.on g)
  replace HB7 := Lib.hid (HB7.out.on g)
  clear g
  obtain ⟨_, p0, p1, p2, p3⟩ := HX.out
  obtain ⟨_, q0, q1, q2, q3⟩ := HY.out
  obtain ⟨_, z0, z1, z2, z3⟩ := HZ.out
  have HR8 := Lib.hid (own_RB HO8.out HLt.out)
  have HS8 := Lib.hid (own_shp HO8.out)
  have HDe := Lib.hid (decode_any l n A8 d8 w7 HR8.out HS8.out (by omega) (HMk.out _ bb))
  have hsd : Small (decR l) := decR_small HLt.out
  clear HR8 HS8 HO8 HLt
  have HDf := Lib.hid (HDc.out (by omega))
  clear HDc
  unfold OutDc at HDe HDf
  generalize errT l = er at *
  generalize decR l = dt at *
  go_wp2_with fail
  refine HDe.out.mono ?_
  rintro e w8 ⟨V1, rfl, ok1, tb1, g⟩
  clear HDe
  clear p0 p1 p2 p3 q0 q1 q2 q3 z0 z1 z2 z3
  replace bb := bb.trans (g.mono bb.size)
  replace HX := Lib.hid (HX.out.on g)
  replace HY := Lib.hid (HY.out.on g)
  replace HZ := Lib.hid (HZ.out.on g)
  replace HO := Lib.hid (HO.out.on g)
  replace HB6 := Lib.hid (HB6.out.on g)
  replace HB7 := Lib.hid (HB7.out.on g)
  clear g
  have g := below_new w8 (.cells #[.int .i64 V1.cl, .slice V1.a1 V1.n1 V1.c1, .slice V1.a2 V1.n2 V1.c2, .slice V1.a3 V1.n3 V1.c3] 26)
  have HV1 := Lib.hid (ok1.on g)
  replace bb := bb.trans (g.mono bb.size)
  replace HX := Lib.hid (HX.out.on g)
  replace HY := Lib.hid (HY.out.on g)
  replace HZ := Lib.hid (HZ.out.on g)
  replace HO := Lib.hid (HO.out.on g)
  replace HB6 := Lib.hid (HB6.out.on g)
  replace HB7 := Lib.hid (HB7.out.on g)
  clear g
  have HV := Lib.hid (box_new w8 V1)
  clear ok1
  simp only [TV.v]
  obtain ⟨_, p0, p1, p2, p3⟩ := HX.out
  obtain ⟨_, q0, q1, q2, q3⟩ := HY.out
  obtain ⟨_, z0, z1, z2, z3⟩ := HZ.out
  obtain ⟨_, v0, v1, v2, v3⟩ := HV.out
  go_wp2_with fail
  generalize w8.alloc (.cells #[.int .i64 V1.cl, .slice V1.a1 V1.n1 V1.c1, .slice V1.a2 V1.n2 V1.c2, .slice V1.a3 V1.n3 V1.c3] 26) = w9 at *
  refine (HDf.out _ bb).mono ?_
  rintro e w10 ⟨V2, rfl, ok2, tb2, g⟩
  clear HDf
  clear p0 p1 p2 p3 q0 q1 q2 q3 z0 z1 z2 z3 v0 v1 v2 v3
  replace bb := bb.trans (g.mono bb.size)
  replace HX := Lib.hid (HX.out.on g)
  replace HY := Lib.hid (HY.out.on g)
  replace HZ := Lib.hid (HZ.out.on g)
  replace HV := Lib.hid (HV.out.on g)
  replace HO := Lib.hid (HO.out.on g)
  replace HB6 := Lib.hid (HB6.out.on g)
  replace HB7 := Lib.hid (HB7.out.on g)
  replace HV1 := Lib.hid (HV1.out.on g)
  clear g
  have g := below_new w10 (.cells #[.int .i64 V2.cl, .slice V2.a1 V2.n1 V2.c1, .slice V2.a2 V2.n2 V2.c2, .slice V2.a3 V2.n3 V2.c3] 26)
  have HV2 := Lib.hid (ok2.on g)
  replace bb := bb.trans (g.mono bb.size)
  replace HX := Lib.hid (HX.out.on g)
  replace HY := Lib.hid (HY.out.on g)
  replace HZ := Lib.hid (HZ.out.on g)
  replace HV := Lib.hid (HV.out.on g)
  replace HO := Lib.hid (HO.out.on g)
  replace HB6 := Lib.hid (HB6.out.on g)
  replace HB7 := Lib.hid (HB7.out.on g)
  replace HV1 := Lib.hid (HV1.out.on g)
  clear g
  have HU2 := Lib.hid (box_new w10 V2)
  clear ok2
  simp only [TV.v]
  obtain ⟨_, p0, p1, p2, p3⟩ := HX.out
  obtain ⟨_, q0, q1, q2, q3⟩ := HY.out
  obtain ⟨_, z0, z1, z2, z3⟩ := HZ.out
  obtain ⟨_, v0, v1, v2, v3⟩ := HV.out
  obtain ⟨_, u0, u1, u2, u3⟩ := HU2.out
  go_upto_region 8 with (fail)
  generalize hw11 : w10.alloc (.cells #[.int .i64 V2.cl, .slice V2.a1 V2.n1 V2.c1, .slice V2.a2 V2.n2 V2.c2, .slice V2.a3 V2.n3 V2.c3] 26) = w11 at *
  clear hw11
  go_wp2_with fail
  have g := below_new w11 (.cells #[.int .i64 T.cl, .int .i64 T.n2, .int .i64 T.n1] 38)
  have n0 : (w11.alloc (.cells #[.int .i64 T.cl, .int .i64 T.n2, .int .i64 T.n1] 38)).cell? ⟨w11.heap.size, 0, none⟩ = some (.int .i64 T.cl) := by simp
  have n1 : (w11.alloc (.cells #[.int .i64 T.cl, .int .i64 T.n2, .int .i64 T.n1] 38)).cell? ⟨w11.heap.size, 1, none⟩ = some (.int .i64 T.n2) := by simp
  have n2 : (w11.alloc (.cells #[.int .i64 T.cl, .int .i64 T.n2, .int .i64 T.n1] 38)).cell? ⟨w11.heap.size, 2, none⟩ = some (.int .i64 T.n1) := by simp
  clear p0 p1 p2 p3 q0 q1 q2 q3 z0 z1 z2 z3 v0 v1 v2 v3 u0 u1 u2 u3
  replace bb := bb.trans (g.mono bb.size)
  replace HX := Lib.hid (HX.out.on g)
  replace HY := Lib.hid (HY.out.on g)
  replace HZ := Lib.hid (HZ.out.on g)
  replace HV := Lib.hid (HV.out.on g)
  replace HU2 := Lib.hid (HU2.out.on g)
  replace HO := Lib.hid (HO.out.on g)
  replace HB6 := Lib.hid (HB6.out.on g)
  replace HB7 := Lib.hid (HB7.out.on g)
  replace HV1 := Lib.hid (HV1.out.on g)
  replace HV2 := Lib.hid (HV2.out.on g)
  clear g
  obtain ⟨_, p0, p1, p2, p3⟩ := HX.out
  obtain ⟨_, q0, q1, q2, q3⟩ := HY.out
  obtain ⟨_, z0, z1, z2, z3⟩ := HZ.out
  obtain ⟨_, v0, v1, v2, v3⟩ := HV.out
  obtain ⟨_, u0, u1, u2, u3⟩ := HU2.out
  generalize w11.alloc (.cells #[.int .i64 T.cl, .int .i64 T.n2, .int .i64 T.n1] 38) = w12 at *
  have e0 : (rb == rb) = true := by cases rb <;> rfl
  have e1 : ((er : Int) == (er : Int)) = true := by simp
  obtain ⟨qq, hqq⟩ : ∃ q, eqT T.tb U.tb = q := ⟨_, rfl⟩
  have e2 : (qq == qq) = true := by cases qq <;> rfl
  have e3 : ∀ x : Nat, ((x : Int) == (x : Int)) = true := fun x => by simp
  have hB : Hid (∀ V, Below w12.heap.size w12 V → Calls Tryd.prog 12 #[.slice A6 rl.length c6, .slice A7 rl.length c7] V fun e w' => e = .returned (.bool true) ∧ Below w12.heap.size w12 w') := Lib.hid (fun V h => (keepBytes_yes rl rl rfl _ _ A6 A7 c6 c7 V (HB6.out.on h) (HB7.out.on h)).mono (fun e w' k => ⟨k.1, h.trans (k.2.mono h.size)⟩))
  have hT1 : Hid (∀ V, Below w12.heap.size w12 V → Calls Tryd.prog 13 #[V1.v, V2.v] V fun e w' => e = .returned (.bool true) ∧ Below w12.heap.size w12 w') := Lib.hid (fun V h => (keepTable_s V1 V2 V (HV1.out.on h) (HV2.out.on h) (by rw [tb1]; exact hsd)).mono (fun e w' k => ⟨by rw [k.1, eqT_yes (by rw [tb1, tb2])], h.trans (k.2.mono h.size)⟩))
  have hT2 : Hid (∀ V, Below w12.heap.size w12 V → Calls Tryd.prog 13 #[T.v, U.v] V fun e w' => e = .returned (.bool qq) ∧ Below w12.heap.size w12 w') := Lib.hid (fun V h => (keepTable_s T U V ((HRT.out _ bb).on h) ((HRU.out _ bb).on h) hST).mono (fun e w' k => ⟨by rw [k.1, hqq], h.trans (k.2.mono h.size)⟩))
  have hT3 : Hid (∀ V, Below w12.heap.size w12 V → Calls Tryd.prog 13 #[T5.v, T.v] V fun e w' => e = .returned (.bool true) ∧ Below w12.heap.size w12 w') := Lib.hid (fun V h => (keepTable_s T5 T V (HO.out.on h) ((HRT.out _ bb).on h) (by rw [tb5]; exact hST)).mono (fun e w' k => ⟨by rw [k.1, eqT_yes tb5], h.trans (k.2.mono h.size)⟩))
  have hSm : Hid (∀ V, Below w12.heap.size w12 V → Calls Tryd.prog 14 #[T5.v, U.v] V fun e w' => e = .returned (.bool qq) ∧ Below w12.heap.size w12 w') := Lib.hid (fun V h => (same_s T5 U V (HO.out.on h) ((HRU.out _ bb).on h) (by rw [tb5]; exact hST)).mono (fun e w' k => ⟨by rw [k.1, tb5, hqq], h.trans (k.2.mono h.size)⟩))
  have hL1 : Hid (∀ a b d : Int, ∀ V, Below w12.heap.size w12 V → Calls Tryd.prog 15 #[.int .i64 a, .int .i64 b, .int .i64 d] V fun e w' => e = .returned (.int .i64 (lenI a b d : Nat)) ∧ Below w12.heap.size w12 w') := Lib.hid (fun a b d V h => (lengthOf_any a b d V).mono (fun e w' k => ⟨k.1, h.trans (k.2.mono h.size)⟩))
  have hL2 : Hid (∀ a b d : Int, ∀ V, Below w12.heap.size w12 V → Calls Tryd.prog 16 #[.int .i64 a, .int .i64 b, .int .i64 d] V fun e w' => e = .returned (.int .i64 (lenI a b d : Nat)) ∧ Below w12.heap.size w12 w') := Lib.hid (fun a b d V h => (refLength_any a b d V).mono (fun e w' k => ⟨k.1, h.trans (k.2.mono h.size)⟩))
  have hW : Hid (∀ V, Below w12.heap.size w12 V → Calls Tryd.prog 6 #[] V fun e w' => e = .returned (.bool true) ∧ Below w12.heap.size w12 w') := Lib.hid (fun V h => (HWk.out V (bb.trans (h.mono bb.size))).mono (fun e w' k => ⟨k.1, h.trans (k.2.mono h.size)⟩))
  simp only [TV.v] at hT1 hT2 hT3 hSm
  have bR := Below.refl w12.heap.size w12
  generalize lenI T.cl T.n2 T.n1 = l1 at *
  clear HKT HWk HRT HRU HB6 HB7 HO HV1 HV2 tb1 tb2 tb5 hST hSU hsd hqq HRB HMk HS HX HY HZ HV HU2
  go_wp2_with fail
  -- LAST REGION
  simp only [List.append_eq, List.cons_append, List.nil_append]
  refine wp_region_held_drew (S := fun V => Below w12.heap.size w12 V) (by kernel_rfl) ?_ (fun hHeld => ?_)
  · exact Below.drew bR
  refine wpAnyH_take (i := 0) (oi := _) (v := ?_) rfl (by kernel_rfl) (by kernel_rfl) (by kernel_rfl) (fun _ _ _ h => h) (Or.inl ⟨by kernel_rfl, ?hy0x0⟩) (by assumption) ?hr0x0
  case hy0x0 =>
    intro w hSw
    go_simp
    (try with_reducible rfl)
  (try simp only [Act.put, List.setIfInBounds_toArray, List.set_cons_zero, List.set_cons_succ])
  refine wpAnyH_take (i := 1) (oi := _) (v := ?_) rfl (by kernel_rfl) (by kernel_rfl) (by kernel_rfl) (fun _ _ _ h => h) (Or.inl ⟨by kernel_rfl, ?hy1x1⟩) (by assumption) ?hr1x1
  case hy1x1 =>
    intro w hSw
    go_simp
    (try with_reducible rfl)
  (try simp only [Act.put, List.setIfInBounds_toArray, List.set_cons_zero, List.set_cons_succ])
  refine wpAnyH_ready (rs := [2]) (by kernel_rfl) (by simp) ?_
  refine AllReadyH.cons (o := _) rfl (fun Kx hKx => ?_) ?_
  · go_simp
    go_at_call 12
    with_reducible refine Calls.mono (hB.out _ ?_) ?_
    · assumption
    rintro e V2 ⟨rfl, b2⟩
    (try go_wp2_with fail)
    refine hKx.out _ _ ?_ (fun hHeld => ?_)
    · exact b2
    clear hKx Kx
    (try simp only [Act.put, List.setIfInBounds_toArray, List.set_cons_zero, List.set_cons_succ])
    refine wpAnyH_take (i := 3) (oi := _) (v := ?_) rfl (by kernel_rfl) (by kernel_rfl) (by kernel_rfl) (fun _ _ _ h => h) (Or.inl ⟨by kernel_rfl, ?hy3x2⟩) (by assumption) ?hr3x2
    case hy3x2 =>
      intro w hSw
      go_simp
      (try with_reducible rfl)
    (try simp only [Act.put, List.setIfInBounds_toArray, List.set_cons_zero, List.set_cons_succ])
    refine wpAnyH_take (i := 4) (oi := _) (v := ?_) rfl (by kernel_rfl) (by kernel_rfl) (by kernel_rfl) (fun _ _ _ h => h) (Or.inl ⟨by kernel_rfl, ?hy4x3⟩) (by assumption) ?hr4x3
    case hy4x3 =>
      intro w hSw
      go_simp
      (try with_reducible rfl)
    (try simp only [Act.put, List.setIfInBounds_toArray, List.set_cons_zero, List.set_cons_succ])
    refine wpAnyH_take (i := 5) (oi := _) (v := ?_) rfl (by kernel_rfl) (by kernel_rfl) (by kernel_rfl) (fun _ _ _ h => h) (Or.inl ⟨by kernel_rfl, ?hy5x4⟩) (by assumption) ?hr5x4
    case hy5x4 =>
      intro w hSw
      go_simp
      (try with_reducible rfl)
    (try simp only [Act.put, List.setIfInBounds_toArray, List.set_cons_zero, List.set_cons_succ])
    refine wpAnyH_take (i := 6) (oi := _) (v := ?_) rfl (by kernel_rfl) (by kernel_rfl) (by kernel_rfl) (fun _ _ _ h => h) (Or.inl ⟨by kernel_rfl, ?hy6x5⟩) (by assumption) ?hr6x5
    case hy6x5 =>
      intro w hSw
      go_simp
      (try with_reducible rfl)
    (try simp only [Act.put, List.setIfInBounds_toArray, List.set_cons_zero, List.set_cons_succ])
    refine wpAnyH_take (i := 7) (oi := _) (v := ?_) rfl (by kernel_rfl) (by kernel_rfl) (by kernel_rfl) (fun _ _ _ h => h) (Or.inl ⟨by kernel_rfl, ?hy7x6⟩) (by assumption) ?hr7x6
    case hy7x6 =>
      intro w hSw
      go_simp
      (try with_reducible rfl)
    (try simp only [Act.put, List.setIfInBounds_toArray, List.set_cons_zero, List.set_cons_succ])
    refine wpAnyH_take (i := 8) (oi := _) (v := ?_) rfl (by kernel_rfl) (by kernel_rfl) (by kernel_rfl) (fun _ _ _ h => h) (Or.inl ⟨by kernel_rfl, ?hy8x7⟩) (by assumption) ?hr8x7
    case hy8x7 =>
      intro w hSw
      go_simp
      (try with_reducible rfl)
    (try simp only [Act.put, List.setIfInBounds_toArray, List.set_cons_zero, List.set_cons_succ])
    refine wpAnyH_take (i := 9) (oi := _) (v := ?_) rfl (by kernel_rfl) (by kernel_rfl) (by kernel_rfl) (fun _ _ _ h => h) (Or.inl ⟨by kernel_rfl, ?hy9x8⟩) (by assumption) ?hr9x8
    case hy9x8 =>
      intro w hSw
      have kv0 := kept_cell hSw v0
      have kv1 := kept_cell hSw v1
      have kv2 := kept_cell hSw v2
      have kv3 := kept_cell hSw v3
      go_simp
      (try with_reducible rfl)
    (try simp only [Act.put, List.setIfInBounds_toArray, List.set_cons_zero, List.set_cons_succ])
    refine wpAnyH_take (i := 10) (oi := _) (v := ?_) rfl (by kernel_rfl) (by kernel_rfl) (by kernel_rfl) (fun _ _ _ h => h) (Or.inl ⟨by kernel_rfl, ?hy10x9⟩) (by assumption) ?hr10x9
    case hy10x9 =>
      intro w hSw
      have ku0 := kept_cell hSw u0
      have ku1 := kept_cell hSw u1
      have ku2 := kept_cell hSw u2
      have ku3 := kept_cell hSw u3
      go_simp
      (try with_reducible rfl)
    (try simp only [Act.put, List.setIfInBounds_toArray, List.set_cons_zero, List.set_cons_succ])
    refine wpAnyH_ready (rs := [11]) (by kernel_rfl) (by simp) ?_
    refine AllReadyH.cons (o := _) rfl (fun Kx hKx => ?_) ?_
    · go_simp
      go_at_call 13
      with_reducible refine Calls.mono (hT1.out _ ?_) ?_
      · assumption
      rintro e V11 ⟨rfl, b11⟩
      (try go_wp2_with fail)
      refine hKx.out _ _ ?_ (fun hHeld => ?_)
      · exact b11
      clear hKx Kx
      (try simp only [Act.put, List.setIfInBounds_toArray, List.set_cons_zero, List.set_cons_succ])
      refine wpAnyH_take (i := 12) (oi := _) (v := ?_) rfl (by kernel_rfl) (by kernel_rfl) (by kernel_rfl) (fun _ _ _ h => h) (Or.inl ⟨by kernel_rfl, ?hy12x10⟩) (by assumption) ?hr12x10
      case hy12x10 =>
        intro w hSw
        go_simp
        (try with_reducible rfl)
      (try simp only [Act.put, List.setIfInBounds_toArray, List.set_cons_zero, List.set_cons_succ])
      refine wpAnyH_take (i := 13) (oi := _) (v := ?_) rfl (by kernel_rfl) (by kernel_rfl) (by kernel_rfl) (fun _ _ _ h => h) (Or.inl ⟨by kernel_rfl, ?hy13x11⟩) (by assumption) ?hr13x11
      case hy13x11 =>
        intro w hSw
        go_simp
        (try with_reducible rfl)
      (try simp only [Act.put, List.setIfInBounds_toArray, List.set_cons_zero, List.set_cons_succ])
      refine wpAnyH_take (i := 14) (oi := _) (v := ?_) rfl (by kernel_rfl) (by kernel_rfl) (by kernel_rfl) (fun _ _ _ h => h) (Or.inl ⟨by kernel_rfl, ?hy14x12⟩) (by assumption) ?hr14x12
      case hy14x12 =>
        intro w hSw
        go_simp
        (try with_reducible rfl)
      (try simp only [Act.put, List.setIfInBounds_toArray, List.set_cons_zero, List.set_cons_succ])
      refine wpAnyH_take (i := 15) (oi := _) (v := ?_) rfl (by kernel_rfl) (by kernel_rfl) (by kernel_rfl) (fun _ _ _ h => h) (Or.inl ⟨by kernel_rfl, ?hy15x13⟩) (by assumption) ?hr15x13
      case hy15x13 =>
        intro w hSw
        go_simp
        (try with_reducible rfl)
      (try simp only [Act.put, List.setIfInBounds_toArray, List.set_cons_zero, List.set_cons_succ])
      refine wpAnyH_take (i := 16) (oi := _) (v := ?_) rfl (by kernel_rfl) (by kernel_rfl) (by kernel_rfl) (fun _ _ _ h => h) (Or.inl ⟨by kernel_rfl, ?hy16x14⟩) (by assumption) ?hr16x14
      case hy16x14 =>
        intro w hSw
        go_simp
        (try with_reducible rfl)
      (try simp only [Act.put, List.setIfInBounds_toArray, List.set_cons_zero, List.set_cons_succ])
      refine wpAnyH_take (i := 17) (oi := _) (v := ?_) rfl (by kernel_rfl) (by kernel_rfl) (by kernel_rfl) (fun _ _ _ h => h) (Or.inl ⟨by kernel_rfl, ?hy17x15⟩) (by assumption) ?hr17x15
      case hy17x15 =>
        intro w hSw
        go_simp
        (try with_reducible rfl)
      (try simp only [Act.put, List.setIfInBounds_toArray, List.set_cons_zero, List.set_cons_succ])
      refine wpAnyH_take (i := 18) (oi := _) (v := ?_) rfl (by kernel_rfl) (by kernel_rfl) (by kernel_rfl) (fun _ _ _ h => h) (Or.inl ⟨by kernel_rfl, ?hy18x16⟩) (by assumption) ?hr18x16
      case hy18x16 =>
        intro w hSw
        go_simp
        (try with_reducible rfl)
      (try simp only [Act.put, List.setIfInBounds_toArray, List.set_cons_zero, List.set_cons_succ])
      refine wpAnyH_take (i := 19) (oi := _) (v := ?_) rfl (by kernel_rfl) (by kernel_rfl) (by kernel_rfl) (fun _ _ _ h => h) (Or.inl ⟨by kernel_rfl, ?hy19x17⟩) (by assumption) ?hr19x17
      case hy19x17 =>
        intro w hSw
        have kz0 := kept_cell hSw z0
        have kz1 := kept_cell hSw z1
        have kz2 := kept_cell hSw z2
        have kz3 := kept_cell hSw z3
        go_simp
        (try with_reducible rfl)
      (try simp only [Act.put, List.setIfInBounds_toArray, List.set_cons_zero, List.set_cons_succ])
      refine wpAnyH_take (i := 20) (oi := _) (v := ?_) rfl (by kernel_rfl) (by kernel_rfl) (by kernel_rfl) (fun _ _ _ h => h) (Or.inl ⟨by kernel_rfl, ?hy20x18⟩) (by assumption) ?hr20x18
      case hy20x18 =>
        intro w hSw
        have kq0 := kept_cell hSw q0
        have kq1 := kept_cell hSw q1
        have kq2 := kept_cell hSw q2
        have kq3 := kept_cell hSw q3
        go_simp
        (try with_reducible rfl)
      (try simp only [Act.put, List.setIfInBounds_toArray, List.set_cons_zero, List.set_cons_succ])
      refine wpAnyH_take (i := 22) (oi := _) (v := ?_) rfl (by kernel_rfl) (by kernel_rfl) (by kernel_rfl) (fun _ _ _ h => h) (Or.inl ⟨by kernel_rfl, ?hy22x19⟩) (by assumption) ?hr22x19
      case hy22x19 =>
        intro w hSw
        have kp0 := kept_cell hSw p0
        have kp1 := kept_cell hSw p1
        have kp2 := kept_cell hSw p2
        have kp3 := kept_cell hSw p3
        go_simp
        (try with_reducible rfl)
      (try simp only [Act.put, List.setIfInBounds_toArray, List.set_cons_zero, List.set_cons_succ])
      refine wpAnyH_take (i := 23) (oi := _) (v := ?_) rfl (by kernel_rfl) (by kernel_rfl) (by kernel_rfl) (fun _ _ _ h => h) (Or.inl ⟨by kernel_rfl, ?hy23x20⟩) (by assumption) ?hr23x20
      case hy23x20 =>
        intro w hSw
        have kq0 := kept_cell hSw q0
        have kq1 := kept_cell hSw q1
        have kq2 := kept_cell hSw q2
        have kq3 := kept_cell hSw q3
        go_simp
        (try with_reducible rfl)
      (try simp only [Act.put, List.setIfInBounds_toArray, List.set_cons_zero, List.set_cons_succ])
      refine wpAnyH_ready (rs := [21]) (by kernel_rfl) (by simp) ?_
      refine AllReadyH.cons (o := _) rfl (fun Kx hKx => ?_) ?_
      · go_simp
        go_at_call 14
        with_reducible refine Calls.mono (hSm.out _ ?_) ?_
        · assumption
        rintro e V21 ⟨rfl, b21⟩
        (try go_wp2_with fail)
        refine hKx.out _ _ ?_ (fun hHeld => ?_)
        · exact b21
        clear hKx Kx
        (try simp only [Act.put, List.setIfInBounds_toArray, List.set_cons_zero, List.set_cons_succ])
        refine wpAnyH_ready (rs := [24]) (by kernel_rfl) (by simp) ?_
        refine AllReadyH.cons (o := _) rfl (fun Kx hKx => ?_) ?_
        · go_simp
          go_at_call 13
          with_reducible refine Calls.mono (hT2.out _ ?_) ?_
          · assumption
          rintro e V24 ⟨rfl, b24⟩
          (try go_wp2_with fail)
          refine hKx.out _ _ ?_ (fun hHeld => ?_)
          · exact b24
          clear hKx Kx
          (try simp only [Act.put, List.setIfInBounds_toArray, List.set_cons_zero, List.set_cons_succ])
          refine wpAnyH_take (i := 25) (oi := _) (v := ?_) rfl (by kernel_rfl) (by kernel_rfl) (by kernel_rfl) (fun _ _ _ h => h) (Or.inl ⟨by kernel_rfl, ?hy25x21⟩) (by assumption) ?hr25x21
          case hy25x21 =>
            intro w hSw
            go_simp
            (try with_reducible rfl)
          (try simp only [Act.put, List.setIfInBounds_toArray, List.set_cons_zero, List.set_cons_succ])
          refine wpAnyH_take (i := 26) (oi := _) (v := ?_) rfl (by kernel_rfl) (by kernel_rfl) (by kernel_rfl) (fun _ _ _ h => h) (Or.inl ⟨by kernel_rfl, ?hy26x22⟩) (by assumption) ?hr26x22
          case hy26x22 =>
            intro w hSw
            go_simp
            (try with_reducible rfl)
          (try simp only [Act.put, List.setIfInBounds_toArray, List.set_cons_zero, List.set_cons_succ])
          refine wpAnyH_take (i := 27) (oi := _) (v := ?_) rfl (by kernel_rfl) (by kernel_rfl) (by kernel_rfl) (fun _ _ _ h => h) (Or.inl ⟨by kernel_rfl, ?hy27x23⟩) (by assumption) ?hr27x23
          case hy27x23 =>
            intro w hSw
            go_simp
            (try with_reducible rfl)
          (try simp only [Act.put, List.setIfInBounds_toArray, List.set_cons_zero, List.set_cons_succ])
          refine wpAnyH_take (i := 28) (oi := _) (v := ?_) rfl (by kernel_rfl) (by kernel_rfl) (by kernel_rfl) (fun _ _ _ h => h) (Or.inl ⟨by kernel_rfl, ?hy28x24⟩) (by assumption) ?hr28x24
          case hy28x24 =>
            intro w hSw
            go_simp
            (try with_reducible rfl)
          (try simp only [Act.put, List.setIfInBounds_toArray, List.set_cons_zero, List.set_cons_succ])
          refine wpAnyH_take (i := 29) (oi := _) (v := ?_) rfl (by kernel_rfl) (by kernel_rfl) (by kernel_rfl) (fun _ _ _ h => h) (Or.inl ⟨by kernel_rfl, ?hy29x25⟩) (by assumption) ?hr29x25
          case hy29x25 =>
            intro w hSw
            have kn0 := kept_cell hSw n0
            go_simp
            (try with_reducible rfl)
          (try simp only [Act.put, List.setIfInBounds_toArray, List.set_cons_zero, List.set_cons_succ])
          refine wpAnyH_take (i := 30) (oi := _) (v := ?_) rfl (by kernel_rfl) (by kernel_rfl) (by kernel_rfl) (fun _ _ _ h => h) (Or.inl ⟨by kernel_rfl, ?hy30x26⟩) (by assumption) ?hr30x26
          case hy30x26 =>
            intro w hSw
            go_simp
            (try with_reducible rfl)
          (try simp only [Act.put, List.setIfInBounds_toArray, List.set_cons_zero, List.set_cons_succ])
          refine wpAnyH_take (i := 31) (oi := _) (v := ?_) rfl (by kernel_rfl) (by kernel_rfl) (by kernel_rfl) (fun _ _ _ h => h) (Or.inl ⟨by kernel_rfl, ?hy31x27⟩) (by assumption) ?hr31x27
          case hy31x27 =>
            intro w hSw
            have kn1 := kept_cell hSw n1
            go_simp
            (try with_reducible rfl)
          (try simp only [Act.put, List.setIfInBounds_toArray, List.set_cons_zero, List.set_cons_succ])
          refine wpAnyH_take (i := 32) (oi := _) (v := ?_) rfl (by kernel_rfl) (by kernel_rfl) (by kernel_rfl) (fun _ _ _ h => h) (Or.inl ⟨by kernel_rfl, ?hy32x28⟩) (by assumption) ?hr32x28
          case hy32x28 =>
            intro w hSw
            go_simp
            (try with_reducible rfl)
          (try simp only [Act.put, List.setIfInBounds_toArray, List.set_cons_zero, List.set_cons_succ])
          refine wpAnyH_take (i := 33) (oi := _) (v := ?_) rfl (by kernel_rfl) (by kernel_rfl) (by kernel_rfl) (fun _ _ _ h => h) (Or.inl ⟨by kernel_rfl, ?hy33x29⟩) (by assumption) ?hr33x29
          case hy33x29 =>
            intro w hSw
            have kn2 := kept_cell hSw n2
            go_simp
            (try with_reducible rfl)
          (try simp only [Act.put, List.setIfInBounds_toArray, List.set_cons_zero, List.set_cons_succ])
          refine wpAnyH_take (i := 35) (oi := _) (v := ?_) rfl (by kernel_rfl) (by kernel_rfl) (by kernel_rfl) (fun _ _ _ h => h) (Or.inl ⟨by kernel_rfl, ?hy35x30⟩) (by assumption) ?hr35x30
          case hy35x30 =>
            intro w hSw
            go_simp
            (try with_reducible rfl)
          (try simp only [Act.put, List.setIfInBounds_toArray, List.set_cons_zero, List.set_cons_succ])
          refine wpAnyH_take (i := 36) (oi := _) (v := ?_) rfl (by kernel_rfl) (by kernel_rfl) (by kernel_rfl) (fun _ _ _ h => h) (Or.inl ⟨by kernel_rfl, ?hy36x31⟩) (by assumption) ?hr36x31
          case hy36x31 =>
            intro w hSw
            have kn0 := kept_cell hSw n0
            go_simp
            (try with_reducible rfl)
          (try simp only [Act.put, List.setIfInBounds_toArray, List.set_cons_zero, List.set_cons_succ])
          refine wpAnyH_take (i := 37) (oi := _) (v := ?_) rfl (by kernel_rfl) (by kernel_rfl) (by kernel_rfl) (fun _ _ _ h => h) (Or.inl ⟨by kernel_rfl, ?hy37x32⟩) (by assumption) ?hr37x32
          case hy37x32 =>
            intro w hSw
            go_simp
            (try with_reducible rfl)
          (try simp only [Act.put, List.setIfInBounds_toArray, List.set_cons_zero, List.set_cons_succ])
          refine wpAnyH_take (i := 38) (oi := _) (v := ?_) rfl (by kernel_rfl) (by kernel_rfl) (by kernel_rfl) (fun _ _ _ h => h) (Or.inl ⟨by kernel_rfl, ?hy38x33⟩) (by assumption) ?hr38x33
          case hy38x33 =>
            intro w hSw
            have kn1 := kept_cell hSw n1
            go_simp
            (try with_reducible rfl)
          (try simp only [Act.put, List.setIfInBounds_toArray, List.set_cons_zero, List.set_cons_succ])
          refine wpAnyH_take (i := 39) (oi := _) (v := ?_) rfl (by kernel_rfl) (by kernel_rfl) (by kernel_rfl) (fun _ _ _ h => h) (Or.inl ⟨by kernel_rfl, ?hy39x34⟩) (by assumption) ?hr39x34
          case hy39x34 =>
            intro w hSw
            go_simp
            (try with_reducible rfl)
          (try simp only [Act.put, List.setIfInBounds_toArray, List.set_cons_zero, List.set_cons_succ])
          refine wpAnyH_take (i := 40) (oi := _) (v := ?_) rfl (by kernel_rfl) (by kernel_rfl) (by kernel_rfl) (fun _ _ _ h => h) (Or.inl ⟨by kernel_rfl, ?hy40x35⟩) (by assumption) ?hr40x35
          case hy40x35 =>
            intro w hSw
            have kn2 := kept_cell hSw n2
            go_simp
            (try with_reducible rfl)
          (try simp only [Act.put, List.setIfInBounds_toArray, List.set_cons_zero, List.set_cons_succ])
          refine wpAnyH_ready (rs := [34]) (by kernel_rfl) (by simp) ?_
          refine AllReadyH.cons (o := _) rfl (fun Kx hKx => ?_) ?_
          · go_simp
            go_at_call 15
            with_reducible refine Calls.mono (hL1.out _ _ _ _ ?_) ?_
            · assumption
            rintro e V34 ⟨rfl, b34⟩
            (try go_wp2_with fail)
            refine hKx.out _ _ ?_ (fun hHeld => ?_)
            · exact b34
            clear hKx Kx
            (try simp only [Act.put, List.setIfInBounds_toArray, List.set_cons_zero, List.set_cons_succ])
            refine wpAnyH_ready (rs := [41]) (by kernel_rfl) (by simp) ?_
            refine AllReadyH.cons (o := _) rfl (fun Kx hKx => ?_) ?_
            · go_simp
              go_at_call 16
              with_reducible refine Calls.mono (hL2.out _ _ _ _ ?_) ?_
              · assumption
              rintro e V41 ⟨rfl, b41⟩
              (try go_wp2_with fail)
              refine hKx.out _ _ ?_ (fun hHeld => ?_)
              · exact b41
              clear hKx Kx
              (try simp only [Act.put, List.setIfInBounds_toArray, List.set_cons_zero, List.set_cons_succ])
              refine wpAnyH_take (i := 42) (oi := _) (v := ?_) rfl (by kernel_rfl) (by kernel_rfl) (by kernel_rfl) (fun _ _ _ h => h) (Or.inl ⟨by kernel_rfl, ?hy42x36⟩) (by assumption) ?hr42x36
              case hy42x36 =>
                intro w hSw
                go_simp
                (try with_reducible rfl)
              (try simp only [Act.put, List.setIfInBounds_toArray, List.set_cons_zero, List.set_cons_succ])
              refine wpAnyH_take (i := 43) (oi := _) (v := ?_) rfl (by kernel_rfl) (by kernel_rfl) (by kernel_rfl) (fun _ _ _ h => h) (Or.inl ⟨by kernel_rfl, ?hy43x37⟩) (by assumption) ?hr43x37
              case hy43x37 =>
                intro w hSw
                go_simp
                (try with_reducible rfl)
              (try simp only [Act.put, List.setIfInBounds_toArray, List.set_cons_zero, List.set_cons_succ])
              refine wpAnyH_take (i := 44) (oi := _) (v := ?_) rfl (by kernel_rfl) (by kernel_rfl) (by kernel_rfl) (fun _ _ _ h => h) (Or.inl ⟨by kernel_rfl, ?hy44x38⟩) (by assumption) ?hr44x38
              case hy44x38 =>
                intro w hSw
                go_simp
                (try with_reducible rfl)
              (try simp only [Act.put, List.setIfInBounds_toArray, List.set_cons_zero, List.set_cons_succ])
              refine wpAnyH_take (i := 45) (oi := _) (v := ?_) rfl (by kernel_rfl) (by kernel_rfl) (by kernel_rfl) (fun _ _ _ h => h) (Or.inl ⟨by kernel_rfl, ?hy45x39⟩) (by assumption) ?hr45x39
              case hy45x39 =>
                intro w hSw
                go_simp
                (try with_reducible rfl)
              (try simp only [Act.put, List.setIfInBounds_toArray, List.set_cons_zero, List.set_cons_succ])
              refine wpAnyH_take (i := 46) (oi := _) (v := ?_) rfl (by kernel_rfl) (by kernel_rfl) (by kernel_rfl) (fun _ _ _ h => h) (Or.inl ⟨by kernel_rfl, ?hy46x40⟩) (by assumption) ?hr46x40
              case hy46x40 =>
                intro w hSw
                have kn1 := kept_cell hSw n1
                go_simp
                (try with_reducible rfl)
              (try simp only [Act.put, List.setIfInBounds_toArray, List.set_cons_zero, List.set_cons_succ])
              refine wpAnyH_take (i := 47) (oi := _) (v := ?_) rfl (by kernel_rfl) (by kernel_rfl) (by kernel_rfl) (fun _ _ _ h => h) (Or.inl ⟨by kernel_rfl, ?hy47x41⟩) (by assumption) ?hr47x41
              case hy47x41 =>
                intro w hSw
                go_simp
                (try with_reducible rfl)
              (try simp only [Act.put, List.setIfInBounds_toArray, List.set_cons_zero, List.set_cons_succ])
              refine wpAnyH_take (i := 48) (oi := _) (v := ?_) rfl (by kernel_rfl) (by kernel_rfl) (by kernel_rfl) (fun _ _ _ h => h) (Or.inl ⟨by kernel_rfl, ?hy48x42⟩) (by assumption) ?hr48x42
              case hy48x42 =>
                intro w hSw
                have kn0 := kept_cell hSw n0
                go_simp
                (try with_reducible rfl)
              (try simp only [Act.put, List.setIfInBounds_toArray, List.set_cons_zero, List.set_cons_succ])
              refine wpAnyH_take (i := 49) (oi := _) (v := ?_) rfl (by kernel_rfl) (by kernel_rfl) (by kernel_rfl) (fun _ _ _ h => h) (Or.inl ⟨by kernel_rfl, ?hy49x43⟩) (by assumption) ?hr49x43
              case hy49x43 =>
                intro w hSw
                go_simp
                (try with_reducible rfl)
              (try simp only [Act.put, List.setIfInBounds_toArray, List.set_cons_zero, List.set_cons_succ])
              refine wpAnyH_take (i := 50) (oi := _) (v := ?_) rfl (by kernel_rfl) (by kernel_rfl) (by kernel_rfl) (fun _ _ _ h => h) (Or.inl ⟨by kernel_rfl, ?hy50x44⟩) (by assumption) ?hr50x44
              case hy50x44 =>
                intro w hSw
                go_simp
                (try with_reducible rfl)
              (try simp only [Act.put, List.setIfInBounds_toArray, List.set_cons_zero, List.set_cons_succ])
              refine wpAnyH_take (i := 52) (oi := _) (v := ?_) rfl (by kernel_rfl) (by kernel_rfl) (by kernel_rfl) (fun _ _ _ h => h) (Or.inl ⟨by kernel_rfl, ?hy52x45⟩) (by assumption) ?hr52x45
              case hy52x45 =>
                intro w hSw
                go_simp
                (try with_reducible rfl)
              (try simp only [Act.put, List.setIfInBounds_toArray, List.set_cons_zero, List.set_cons_succ])
              refine wpAnyH_take (i := 53) (oi := _) (v := ?_) rfl (by kernel_rfl) (by kernel_rfl) (by kernel_rfl) (fun _ _ _ h => h) (Or.inl ⟨by kernel_rfl, ?hy53x46⟩) (by assumption) ?hr53x46
              case hy53x46 =>
                intro w hSw
                have kn1 := kept_cell hSw n1
                go_simp
                (try with_reducible rfl)
              (try simp only [Act.put, List.setIfInBounds_toArray, List.set_cons_zero, List.set_cons_succ])
              refine wpAnyH_take (i := 54) (oi := _) (v := ?_) rfl (by kernel_rfl) (by kernel_rfl) (by kernel_rfl) (fun _ _ _ h => h) (Or.inl ⟨by kernel_rfl, ?hy54x47⟩) (by assumption) ?hr54x47
              case hy54x47 =>
                intro w hSw
                go_simp
                (try with_reducible rfl)
              (try simp only [Act.put, List.setIfInBounds_toArray, List.set_cons_zero, List.set_cons_succ])
              refine wpAnyH_take (i := 55) (oi := _) (v := ?_) rfl (by kernel_rfl) (by kernel_rfl) (by kernel_rfl) (fun _ _ _ h => h) (Or.inl ⟨by kernel_rfl, ?hy55x48⟩) (by assumption) ?hr55x48
              case hy55x48 =>
                intro w hSw
                have kn0 := kept_cell hSw n0
                go_simp
                (try with_reducible rfl)
              (try simp only [Act.put, List.setIfInBounds_toArray, List.set_cons_zero, List.set_cons_succ])
              refine wpAnyH_take (i := 56) (oi := _) (v := ?_) rfl (by kernel_rfl) (by kernel_rfl) (by kernel_rfl) (fun _ _ _ h => h) (Or.inl ⟨by kernel_rfl, ?hy56x49⟩) (by assumption) ?hr56x49
              case hy56x49 =>
                intro w hSw
                go_simp
                (try with_reducible rfl)
              (try simp only [Act.put, List.setIfInBounds_toArray, List.set_cons_zero, List.set_cons_succ])
              refine wpAnyH_take (i := 57) (oi := _) (v := ?_) rfl (by kernel_rfl) (by kernel_rfl) (by kernel_rfl) (fun _ _ _ h => h) (Or.inl ⟨by kernel_rfl, ?hy57x50⟩) (by assumption) ?hr57x50
              case hy57x50 =>
                intro w hSw
                go_simp
                (try with_reducible rfl)
              (try simp only [Act.put, List.setIfInBounds_toArray, List.set_cons_zero, List.set_cons_succ])
              refine wpAnyH_ready (rs := [51]) (by kernel_rfl) (by simp) ?_
              refine AllReadyH.cons (o := _) rfl (fun Kx hKx => ?_) ?_
              · go_simp
                go_at_call 15
                with_reducible refine Calls.mono (hL1.out _ _ _ _ ?_) ?_
                · assumption
                rintro e V51 ⟨rfl, b51⟩
                (try go_wp2_with fail)
                refine hKx.out _ _ ?_ (fun hHeld => ?_)
                · exact b51
                clear hKx Kx
                (try simp only [Act.put, List.setIfInBounds_toArray, List.set_cons_zero, List.set_cons_succ])
                refine wpAnyH_ready (rs := [58]) (by kernel_rfl) (by simp) ?_
                refine AllReadyH.cons (o := _) rfl (fun Kx hKx => ?_) ?_
                · go_simp
                  go_at_call 16
                  with_reducible refine Calls.mono (hL2.out _ _ _ _ ?_) ?_
                  · assumption
                  rintro e V58 ⟨rfl, b58⟩
                  (try go_wp2_with fail)
                  refine hKx.out _ _ ?_ (fun hHeld => ?_)
                  · exact b58
                  clear hKx Kx
                  (try simp only [Act.put, List.setIfInBounds_toArray, List.set_cons_zero, List.set_cons_succ])
                  refine wpAnyH_take (i := 59) (oi := _) (v := ?_) rfl (by kernel_rfl) (by kernel_rfl) (by kernel_rfl) (fun _ _ _ h => h) (Or.inl ⟨by kernel_rfl, ?hy59x51⟩) (by assumption) ?hr59x51
                  case hy59x51 =>
                    intro w hSw
                    go_simp
                    (try with_reducible rfl)
                  (try simp only [Act.put, List.setIfInBounds_toArray, List.set_cons_zero, List.set_cons_succ])
                  refine wpAnyH_take (i := 60) (oi := _) (v := ?_) rfl (by kernel_rfl) (by kernel_rfl) (by kernel_rfl) (fun _ _ _ h => h) (Or.inl ⟨by kernel_rfl, ?hy60x52⟩) (by assumption) ?hr60x52
                  case hy60x52 =>
                    intro w hSw
                    go_simp
                    (try with_reducible rfl)
                  (try simp only [Act.put, List.setIfInBounds_toArray, List.set_cons_zero, List.set_cons_succ])
                  refine wpAnyH_take (i := 61) (oi := _) (v := ?_) rfl (by kernel_rfl) (by kernel_rfl) (by kernel_rfl) (fun _ _ _ h => h) (Or.inl ⟨by kernel_rfl, ?hy61x53⟩) (by assumption) ?hr61x53
                  case hy61x53 =>
                    intro w hSw
                    go_simp
                    (try with_reducible rfl)
                  (try simp only [Act.put, List.setIfInBounds_toArray, List.set_cons_zero, List.set_cons_succ])
                  refine wpAnyH_take (i := 62) (oi := _) (v := ?_) rfl (by kernel_rfl) (by kernel_rfl) (by kernel_rfl) (fun _ _ _ h => h) (Or.inl ⟨by kernel_rfl, ?hy62x54⟩) (by assumption) ?hr62x54
                  case hy62x54 =>
                    intro w hSw
                    have kz0 := kept_cell hSw z0
                    have kz1 := kept_cell hSw z1
                    have kz2 := kept_cell hSw z2
                    have kz3 := kept_cell hSw z3
                    go_simp
                    (try with_reducible rfl)
                  (try simp only [Act.put, List.setIfInBounds_toArray, List.set_cons_zero, List.set_cons_succ])
                  refine wpAnyH_take (i := 63) (oi := _) (v := ?_) rfl (by kernel_rfl) (by kernel_rfl) (by kernel_rfl) (fun _ _ _ h => h) (Or.inl ⟨by kernel_rfl, ?hy63x55⟩) (by assumption) ?hr63x55
                  case hy63x55 =>
                    intro w hSw
                    have kp0 := kept_cell hSw p0
                    have kp1 := kept_cell hSw p1
                    have kp2 := kept_cell hSw p2
                    have kp3 := kept_cell hSw p3
                    go_simp
                    (try with_reducible rfl)
                  (try simp only [Act.put, List.setIfInBounds_toArray, List.set_cons_zero, List.set_cons_succ])
                  refine wpAnyH_ready (rs := [64]) (by kernel_rfl) (by simp) ?_
                  refine AllReadyH.cons (o := _) rfl (fun Kx hKx => ?_) ?_
                  · go_simp
                    go_at_call 13
                    with_reducible refine Calls.mono (hT3.out _ ?_) ?_
                    · assumption
                    rintro e V64 ⟨rfl, b64⟩
                    (try go_wp2_with fail)
                    refine hKx.out _ _ ?_ (fun hHeld => ?_)
                    · exact b64
                    clear hKx Kx
                    (try simp only [Act.put, List.setIfInBounds_toArray, List.set_cons_zero, List.set_cons_succ])
                    refine wpAnyH_take (i := 65) (oi := _) (v := ?_) rfl (by kernel_rfl) (by kernel_rfl) (by kernel_rfl) (fun _ _ _ h => h) (Or.inl ⟨by kernel_rfl, ?hy65x56⟩) (by assumption) ?hr65x56
                    case hy65x56 =>
                      intro w hSw
                      go_simp
                      (try with_reducible rfl)
                    (try simp only [List.getElem_toArray, List.getElem_cons_succ, List.getElem_cons_zero])
                    (try simp only [Act.put, List.setIfInBounds_toArray, List.set_cons_zero, List.set_cons_succ])
                    refine wpAnyH_take (i := 66) (oi := _) (v := ?_) rfl (by kernel_rfl) (by kernel_rfl) (by kernel_rfl) (fun _ _ _ h => h) (Or.inl ⟨by kernel_rfl, ?hy66x57⟩) (by assumption) ?hr66x57
                    case hy66x57 =>
                      intro w hSw
                      go_simp
                      (try with_reducible rfl)
                    (try simp only [List.getElem_toArray, List.getElem_cons_succ, List.getElem_cons_zero])
                    (try simp only [Act.put, List.setIfInBounds_toArray, List.set_cons_zero, List.set_cons_succ])
                    refine wpAnyH_ready (rs := [67]) (by kernel_rfl) (by simp) ?_
                    refine AllReadyH.cons (o := _) rfl (fun Kx hKx => ?_) ?_
                    · go_simp
                      go_at_call 6
                      with_reducible refine Calls.mono (hW.out _ ?_) ?_
                      · assumption
                      rintro e V67 ⟨rfl, b67⟩
                      (try go_wp2_with fail)
                      refine hKx.out _ _ ?_ (fun hHeld => ?_)
                      · exact b67
                      clear hKx Kx
                      (try simp only [Act.put, List.setIfInBounds_toArray, List.set_cons_zero, List.set_cons_succ])
                      refine wpAnyH_take (i := 68) (oi := _) (v := ?_) rfl (by kernel_rfl) (by kernel_rfl) (by kernel_rfl) (fun _ _ _ h => h) (Or.inl ⟨by kernel_rfl, ?hy68x58⟩) (by assumption) ?hr68x58
                      case hy68x58 =>
                        intro w hSw
                        go_simp
                        (try with_reducible rfl)
                      (try simp only [List.getElem_toArray, List.getElem_cons_succ, List.getElem_cons_zero])
                      (try simp only [Act.put, List.setIfInBounds_toArray, List.set_cons_zero, List.set_cons_succ])
                      refine wpAnyH_take (i := 69) (oi := _) (v := ?_) rfl (by kernel_rfl) (by kernel_rfl) (by kernel_rfl) (fun _ _ _ h => h) (Or.inl ⟨by kernel_rfl, ?hy69x59⟩) (by assumption) ?hr69x59
                      case hy69x59 =>
                        intro w hSw
                        go_simp
                        (try with_reducible rfl)
                      (try simp only [List.getElem_toArray, List.getElem_cons_succ, List.getElem_cons_zero])
                      (try simp only [Act.put, List.setIfInBounds_toArray, List.set_cons_zero, List.set_cons_succ])
                      refine wpAnyH_done (by kernel_rfl) ?_ _
                      go_wp2_with fail
                      go_ret
                      exact ⟨by first | rfl | kernel_rfl | (simp; done), bb.trans (b67.mono bb.size)⟩
                    exact AllReadyH.nil
                  exact AllReadyH.nil
                exact AllReadyH.nil
              exact AllReadyH.nil
            exact AllReadyH.nil
          exact AllReadyH.nil
        exact AllReadyH.nil
      exact AllReadyH.nil
    exact AllReadyH.nil
  exact AllReadyH.nil
end Go.Proofs.YtnilejdokgagbaaDoor.tableCodes
