/- What the example of the statements returns. -/
import Derived.Test.YtnilejdokgagbaaDoorKFr
namespace Go.Proofs.YtnilejdokgagbaaDoor
open Go.RowKit Go.BigFrame
set_option linter.unusedVariables false
set_option maxRecDepth 4000
set_option linter.unusedSimpArgs false

set_option maxRecDepth 8000 in
set_option maxHeartbeats 4000000 in
theorem wakes6_any (w : World) (hM : Mark w) : Calls Tryd.prog 6 #[] w fun e w' => e = .returned (.bool true) ∧ Below w.heap.size w w' := by
  obtain ⟨i0, hi0, hz0, hz1, hz2⟩ := info_parts info5
  obtain ⟨hT, hb, t0, t1, t2, t3⟩ := wT_ok w
  have HT := Lib.hid hT
  have HM := Lib.hid (hM.on hb)
  replace t0 : ((((((w.alloc (.cells #[.int .i64 0, .int .i64 0, .int .i64 65827, .int .i64 1] 50)).alloc (.cells #[.int .i64 0, .int .i64 1] 3)).alloc (.cells #[.int .i64 1, .int .i64 0] 3)).alloc (.cells #[.slice (some ⟨w.heap.size + 1, 0, none⟩) 2 2, .slice (some ⟨w.heap.size + 2, 0, none⟩) 2 2] 51)).alloc (.cells #[.bool false, .bool true] 4)).alloc (.cells #[.int .i64 2, .slice (some ⟨w.heap.size, 0, none⟩) 2 2, .slice (some ⟨w.heap.size + 3, 0, none⟩) 2 2, .slice (some ⟨w.heap.size + 4, 0, none⟩) 2 2] 26)).cell? ⟨w.heap.size + 1 + 1 + 1 + 1 + 1, 0, none⟩ = some (.int .i64 2) := t0
  replace t1 : ((((((w.alloc (.cells #[.int .i64 0, .int .i64 0, .int .i64 65827, .int .i64 1] 50)).alloc (.cells #[.int .i64 0, .int .i64 1] 3)).alloc (.cells #[.int .i64 1, .int .i64 0] 3)).alloc (.cells #[.slice (some ⟨w.heap.size + 1, 0, none⟩) 2 2, .slice (some ⟨w.heap.size + 2, 0, none⟩) 2 2] 51)).alloc (.cells #[.bool false, .bool true] 4)).alloc (.cells #[.int .i64 2, .slice (some ⟨w.heap.size, 0, none⟩) 2 2, .slice (some ⟨w.heap.size + 3, 0, none⟩) 2 2, .slice (some ⟨w.heap.size + 4, 0, none⟩) 2 2] 26)).cell? ⟨w.heap.size + 1 + 1 + 1 + 1 + 1, 1, none⟩ = some (.slice (some ⟨w.heap.size, 0, none⟩) 2 2) := t1
  replace t2 : ((((((w.alloc (.cells #[.int .i64 0, .int .i64 0, .int .i64 65827, .int .i64 1] 50)).alloc (.cells #[.int .i64 0, .int .i64 1] 3)).alloc (.cells #[.int .i64 1, .int .i64 0] 3)).alloc (.cells #[.slice (some ⟨w.heap.size + 1, 0, none⟩) 2 2, .slice (some ⟨w.heap.size + 2, 0, none⟩) 2 2] 51)).alloc (.cells #[.bool false, .bool true] 4)).alloc (.cells #[.int .i64 2, .slice (some ⟨w.heap.size, 0, none⟩) 2 2, .slice (some ⟨w.heap.size + 3, 0, none⟩) 2 2, .slice (some ⟨w.heap.size + 4, 0, none⟩) 2 2] 26)).cell? ⟨w.heap.size + 1 + 1 + 1 + 1 + 1, 2, none⟩ = some (.slice (some ⟨w.heap.size + 3, 0, none⟩) 2 2) := t2
  replace t3 : ((((((w.alloc (.cells #[.int .i64 0, .int .i64 0, .int .i64 65827, .int .i64 1] 50)).alloc (.cells #[.int .i64 0, .int .i64 1] 3)).alloc (.cells #[.int .i64 1, .int .i64 0] 3)).alloc (.cells #[.slice (some ⟨w.heap.size + 1, 0, none⟩) 2 2, .slice (some ⟨w.heap.size + 2, 0, none⟩) 2 2] 51)).alloc (.cells #[.bool false, .bool true] 4)).alloc (.cells #[.int .i64 2, .slice (some ⟨w.heap.size, 0, none⟩) 2 2, .slice (some ⟨w.heap.size + 3, 0, none⟩) 2 2, .slice (some ⟨w.heap.size + 4, 0, none⟩) 2 2] 26)).cell? ⟨w.heap.size + 1 + 1 + 1 + 1 + 1, 3, none⟩ = some (.slice (some ⟨w.heap.size + 4, 0, none⟩) 2 2) := t3
  clear hT hM
  go_enter Tryd.func6, Tryd.ntmps6
  go_wp2_with fail
  generalize ((((((w.alloc (.cells #[.int .i64 0, .int .i64 0, .int .i64 65827, .int .i64 1] 50)).alloc (.cells #[.int .i64 0, .int .i64 1] 3)).alloc (.cells #[.int .i64 1, .int .i64 0] 3)).alloc (.cells #[.slice (some ⟨w.heap.size + 1, 0, none⟩) 2 2, .slice (some ⟨w.heap.size + 2, 0, none⟩) 2 2] 51)).alloc (.cells #[.bool false, .bool true] 4)).alloc (.cells #[.int .i64 2, .slice (some ⟨w.heap.size, 0, none⟩) 2 2, .slice (some ⟨w.heap.size + 3, 0, none⟩) 2 2, .slice (some ⟨w.heap.size + 4, 0, none⟩) 2 2] 26)) = W at *
  refine (encode_is ⟨2, some ⟨w.heap.size, 0, none⟩, 2, 2, [(0, 0), (65827, 1)], some ⟨w.heap.size + 3, 0, none⟩, 2, 2, [⟨some ⟨w.heap.size + 1, 0, none⟩, 2, 2, [0, 1]⟩, ⟨some ⟨w.heap.size + 2, 0, none⟩, 2, 2, [1, 0]⟩], some ⟨w.heap.size + 4, 0, none⟩, 2, 2, [false, true]⟩ bW 24 bW_enc bW_len _ HT.out tW_small HM.out).mono ?_
  rintro e w1 ⟨A1, c1, rfl, r1, s1, g⟩
  replace t0 := kept_cell g t0
  replace t1 := kept_cell g t1
  replace t2 := kept_cell g t2
  replace t3 := kept_cell g t3
  replace HT := Lib.hid (HT.out.on g)
  replace HM := Lib.hid (HM.out.on g)
  have HR := Lib.hid r1
  have HS := Lib.hid s1
  have bb := hb.trans (g.mono hb.size)
  clear g r1 s1 hb
  go_wp2_with fail
  refine (decode_is bW 0 tW (by rw [bW_err.1]; rfl) bW_err.2 24 A1 c1 _ HR.out HS.out (by omega) HM.out).mono ?_
  rintro e w2 ⟨⟨k2, va2, vn2, vc2, vb2, na2, nn2, nc2, nh2, ba2, bn2, bc2, bb2⟩, rfl, ok2, tb2, g⟩
  replace t0 := kept_cell g t0
  replace t1 := kept_cell g t1
  replace t2 := kept_cell g t2
  replace t3 := kept_cell g t3
  replace HT := Lib.hid (HT.out.on g)
  replace HM := Lib.hid (HM.out.on g)
  replace HR := Lib.hid (HR.out.on g)
  replace bb := bb.trans (g.mono bb.size)
  have HV2 := Lib.hid ok2
  have HB2 := Lib.hid tb2
  clear g ok2 tb2
  simp only [TV.v]
  go_wp2_with fail
  have g := below_new w2 (.cells #[.int .i64 k2, .slice va2 vn2 vc2, .slice na2 nn2 nc2, .slice ba2 bn2 bc2] 26)
  have u20 : (w2.alloc (.cells #[.int .i64 k2, .slice va2 vn2 vc2, .slice na2 nn2 nc2, .slice ba2 bn2 bc2] 26)).cell? ⟨w2.heap.size, 0, none⟩ = some (.int .i64 k2) := by simp
  have u21 : (w2.alloc (.cells #[.int .i64 k2, .slice va2 vn2 vc2, .slice na2 nn2 nc2, .slice ba2 bn2 bc2] 26)).cell? ⟨w2.heap.size, 1, none⟩ = some (.slice va2 vn2 vc2) := by simp
  have u22 : (w2.alloc (.cells #[.int .i64 k2, .slice va2 vn2 vc2, .slice na2 nn2 nc2, .slice ba2 bn2 bc2] 26)).cell? ⟨w2.heap.size, 2, none⟩ = some (.slice na2 nn2 nc2) := by simp
  have u23 : (w2.alloc (.cells #[.int .i64 k2, .slice va2 vn2 vc2, .slice na2 nn2 nc2, .slice ba2 bn2 bc2] 26)).cell? ⟨w2.heap.size, 3, none⟩ = some (.slice ba2 bn2 bc2) := by simp
  replace t0 := kept_cell g t0
  replace t1 := kept_cell g t1
  replace t2 := kept_cell g t2
  replace t3 := kept_cell g t3
  replace HT := Lib.hid (HT.out.on g)
  replace HM := Lib.hid (HM.out.on g)
  replace HR := Lib.hid (HR.out.on g)
  replace HV2 := Lib.hid (HV2.out.on g)
  replace bb := bb.trans (g.mono bb.size)
  clear g
  generalize (w2.alloc (.cells #[.int .i64 k2, .slice va2 vn2 vc2, .slice na2 nn2 nc2, .slice ba2 bn2 bc2] 26)) = W2 at *
  refine (decode_is [] 21 zeroT (by rw [nil_err.1]; rfl) nil_err.2 0 none 0 _ (RB.nil _ _ _) ⟨fun _ => rfl, Nat.le_refl _, Nat.zero_le _⟩ (by omega) HM.out).mono ?_
  rintro e w3 ⟨⟨k3, va3, vn3, vc3, vb3, na3, nn3, nc3, nh3, ba3, bn3, bc3, bb3⟩, rfl, ok3, tb3, g⟩
  replace t0 := kept_cell g t0
  replace t1 := kept_cell g t1
  replace t2 := kept_cell g t2
  replace t3 := kept_cell g t3
  replace u20 := kept_cell g u20
  replace u21 := kept_cell g u21
  replace u22 := kept_cell g u22
  replace u23 := kept_cell g u23
  replace HT := Lib.hid (HT.out.on g)
  replace HM := Lib.hid (HM.out.on g)
  replace HR := Lib.hid (HR.out.on g)
  replace HV2 := Lib.hid (HV2.out.on g)
  replace bb := bb.trans (g.mono bb.size)
  have HV3 := Lib.hid ok3
  have HB3 := Lib.hid tb3
  clear g ok3 tb3
  simp only [TV.v]
  clear HV3 HB3
  have g := below_new w3 (.cells #[.int .i64 k3, .slice va3 vn3 vc3, .slice na3 nn3 nc3, .slice ba3 bn3 bc3] 26)
  replace t0 := kept_cell g t0
  replace t1 := kept_cell g t1
  replace t2 := kept_cell g t2
  replace t3 := kept_cell g t3
  replace u20 := kept_cell g u20
  replace u21 := kept_cell g u21
  replace u22 := kept_cell g u22
  replace u23 := kept_cell g u23
  replace HT := Lib.hid (HT.out.on g)
  replace HM := Lib.hid (HM.out.on g)
  replace HR := Lib.hid (HR.out.on g)
  replace HV2 := Lib.hid (HV2.out.on g)
  replace bb := bb.trans (g.mono bb.size)
  clear g
  go_wp2_with (at_make; refine wpList_make_full _ rfl _ _ 27 rfl (w3.alloc (.cells #[.int .i64 k3, .slice va3 vn3 vc3, .slice na3 nn3 nc3, .slice ba3 bn3 bc3] 26)).heap.size 5 i0 _ 1 Tryd.underlying27 hi0 hz0 hz1 .i64 .i64 20 20 20 rfl rfl rfl rfl ?k1 ?k2 (Nat.le_refl _) ?_)
  case k1 => rw [hz2]; omega
  case k2 => unfold maxLen; omega
  first | (intro w4 hown4 hgrow4) | (rename_i w4 hown4 hgrow4)
  have HZ : Hid (w4.ownsRow (w3.heap.size + 1) 5 1 (.slice (some ⟨w3.heap.size + 1, 0, none⟩) 20 20) 20 (ycells (List.replicate 20 0))) := Lib.hid (by
    rw [← ycells_rep]; exact hown4)
  have g : Below (w3.alloc (.cells #[.int .i64 k3, .slice va3 vn3 vc3, .slice na3 nn3 nc3, .slice ba3 bn3 bc3] 26)).heap.size (w3.alloc (.cells #[.int .i64 k3, .slice va3 vn3 vc3, .slice na3 nn3 nc3, .slice ba3 bn3 bc3] 26)) w4 := (Below.refl _ _).grown hgrow4 (Nat.le_refl _) (fun k hk => by cases hk)
  replace t0 := kept_cell g t0
  replace t1 := kept_cell g t1
  replace t2 := kept_cell g t2
  replace t3 := kept_cell g t3
  replace u20 := kept_cell g u20
  replace u21 := kept_cell g u21
  replace u22 := kept_cell g u22
  replace u23 := kept_cell g u23
  replace HT := Lib.hid (HT.out.on g)
  replace HM := Lib.hid (HM.out.on g)
  replace HR := Lib.hid (HR.out.on g)
  replace HV2 := Lib.hid (HV2.out.on g)
  replace bb := bb.trans (g.mono bb.size)
  clear g hown4 hgrow4
  have HZR := Lib.hid (own_RB HZ.out (fun x hx => by rw [List.eq_of_mem_replicate hx]; decide))
  have HZS := Lib.hid (own_shp HZ.out)
  clear HZ
  generalize (w3.alloc (.cells #[.int .i64 k3, .slice va3 vn3 vc3, .slice na3 nn3 nc3, .slice ba3 bn3 bc3] 26)) = W3 at *
  go_wp2_with fail
  refine (decode_is (List.replicate 20 0) 22 zeroT (by rw [zero_err.1]; rfl) zero_err.2 20 _ _ _ HZR.out HZS.out (by omega) HM.out).mono ?_
  rintro e w5 ⟨⟨k5, va5, vn5, vc5, vb5, na5, nn5, nc5, nh5, ba5, bn5, bc5, bb5⟩, rfl, ok5, tb5, g⟩
  replace t0 := kept_cell g t0
  replace t1 := kept_cell g t1
  replace t2 := kept_cell g t2
  replace t3 := kept_cell g t3
  replace u20 := kept_cell g u20
  replace u21 := kept_cell g u21
  replace u22 := kept_cell g u22
  replace u23 := kept_cell g u23
  replace HT := Lib.hid (HT.out.on g)
  replace HM := Lib.hid (HM.out.on g)
  replace HR := Lib.hid (HR.out.on g)
  replace HV2 := Lib.hid (HV2.out.on g)
  replace bb := bb.trans (g.mono bb.size)
  have HV5 := Lib.hid ok5
  have HB5 := Lib.hid tb5
  clear g ok5 tb5
  simp only [TV.v]
  clear HV5 HB5 HZR HZS
  have g := below_new w5 (.cells #[.int .i64 k5, .slice va5 vn5 vc5, .slice na5 nn5 nc5, .slice ba5 bn5 bc5] 26)
  replace t0 := kept_cell g t0
  replace t1 := kept_cell g t1
  replace t2 := kept_cell g t2
  replace t3 := kept_cell g t3
  replace u20 := kept_cell g u20
  replace u21 := kept_cell g u21
  replace u22 := kept_cell g u22
  replace u23 := kept_cell g u23
  replace HT := Lib.hid (HT.out.on g)
  replace HM := Lib.hid (HM.out.on g)
  replace HR := Lib.hid (HR.out.on g)
  replace HV2 := Lib.hid (HV2.out.on g)
  replace bb := bb.trans (g.mono bb.size)
  clear g
  have HLn := Lib.hid (lengthOf_any 2 2 2)
  rw [show lenI 2 2 2 = 24 by decide] at HLn
  go_wp2_with fail
  generalize (w5.alloc (.cells #[.int .i64 k5, .slice va5 vn5 vc5, .slice na5 nn5 nc5, .slice ba5 bn5 bc5] 26)) = W5 at *
  refine (HLn.out _).mono ?_
  rintro e w6 ⟨rfl, g⟩
  replace t0 := kept_cell g t0
  replace t1 := kept_cell g t1
  replace t2 := kept_cell g t2
  replace t3 := kept_cell g t3
  replace u20 := kept_cell g u20
  replace u21 := kept_cell g u21
  replace u22 := kept_cell g u22
  replace u23 := kept_cell g u23
  replace HT := Lib.hid (HT.out.on g)
  replace HM := Lib.hid (HM.out.on g)
  replace HR := Lib.hid (HR.out.on g)
  replace HV2 := Lib.hid (HV2.out.on g)
  replace bb := bb.trans (g.mono bb.size)
  clear g HLn
  obtain ⟨bA, oA, rfl, _, hcA⟩ := HR.out.all (by omega)
  have y0 : w6.cell? ⟨bA, oA, none⟩ = some (.int .u8 66) := by
    have h := hcA 0 (by rw [bW_len]; decide)
    rwa [show bW[0]'(by rw [bW_len]; decide) = 66 from by have h9 := bW_at 0 66 (by decide) rfl; rw [List.getElem?_eq_getElem (by rw [bW_len]; decide)] at h9; exact Option.some.inj h9] at h
  have y4 : w6.cell? ⟨bA, oA + 4, none⟩ = some (.int .u8 2) := by
    have h := hcA 4 (by rw [bW_len]; decide)
    rwa [show bW[4]'(by rw [bW_len]; decide) = 2 from by have h9 := bW_at 4 2 (by decide) rfl; rw [List.getElem?_eq_getElem (by rw [bW_len]; decide)] at h9; exact Option.some.inj h9] at h
  have y11 : w6.cell? ⟨bA, oA + 11, none⟩ = some (.int .u8 1) := by
    have h := hcA 11 (by rw [bW_len]; decide)
    rwa [show bW[11]'(by rw [bW_len]; decide) = 1 from by have h9 := bW_at 11 1 (by decide) rfl; rw [List.getElem?_eq_getElem (by rw [bW_len]; decide)] at h9; exact Option.some.inj h9] at h
  have y12 : w6.cell? ⟨bA, oA + 12, none⟩ = some (.int .u8 1) := by
    have h := hcA 12 (by rw [bW_len]; decide)
    rwa [show bW[12]'(by rw [bW_len]; decide) = 1 from by have h9 := bW_at 12 1 (by decide) rfl; rw [List.getElem?_eq_getElem (by rw [bW_len]; decide)] at h9; exact Option.some.inj h9] at h
  have y13 : w6.cell? ⟨bA, oA + 13, none⟩ = some (.int .u8 35) := by
    have h := hcA 13 (by rw [bW_len]; decide)
    rwa [show bW[13]'(by rw [bW_len]; decide) = 35 from by have h9 := bW_at 13 35 (by decide) rfl; rw [List.getElem?_eq_getElem (by rw [bW_len]; decide)] at h9; exact Option.some.inj h9] at h
  have y14 : w6.cell? ⟨bA, oA + 14, none⟩ = some (.int .u8 1) := by
    have h := hcA 14 (by rw [bW_len]; decide)
    rwa [show bW[14]'(by rw [bW_len]; decide) = 1 from by have h9 := bW_at 14 1 (by decide) rfl; rw [List.getElem?_eq_getElem (by rw [bW_len]; decide)] at h9; exact Option.some.inj h9] at h
  have y19 : w6.cell? ⟨bA, oA + 19, none⟩ = some (.int .u8 2) := by
    have h := hcA 19 (by rw [bW_len]; decide)
    rwa [show bW[19]'(by rw [bW_len]; decide) = 2 from by have h9 := bW_at 19 2 (by decide) rfl; rw [List.getElem?_eq_getElem (by rw [bW_len]; decide)] at h9; exact Option.some.inj h9] at h
  clear hcA
  have HSm := Lib.hid (same_s ⟨2, some ⟨w.heap.size, 0, none⟩, 2, 2, [(0, 0), (65827, 1)], some ⟨w.heap.size + 3, 0, none⟩, 2, 2, [⟨some ⟨w.heap.size + 1, 0, none⟩, 2, 2, [0, 1]⟩, ⟨some ⟨w.heap.size + 2, 0, none⟩, 2, 2, [1, 0]⟩], some ⟨w.heap.size + 4, 0, none⟩, 2, 2, [false, true]⟩ ⟨k2, va2, vn2, vc2, vb2, na2, nn2, nc2, nh2, ba2, bn2, bc2, bb2⟩ w6 HT.out HV2.out tW_small)
  rw [eqT_yes (by rw [HB2.out]; rfl)] at HSm
  simp only [TV.v] at HSm
  go_wp2_with fail
  refine HSm.out.mono ?_
  rintro e w7 ⟨rfl, g⟩
  replace t0 := kept_cell g t0
  replace t1 := kept_cell g t1
  replace t2 := kept_cell g t2
  replace t3 := kept_cell g t3
  replace u20 := kept_cell g u20
  replace u21 := kept_cell g u21
  replace u22 := kept_cell g u22
  replace u23 := kept_cell g u23
  replace HT := Lib.hid (HT.out.on g)
  replace HV2 := Lib.hid (HV2.out.on g)
  replace bb := bb.trans (g.mono bb.size)
  clear g HSm HM HR HS y0 y4 y11 y12 y13 y14 y19
  have HKt := Lib.hid (keepTable_s ⟨2, some ⟨w.heap.size, 0, none⟩, 2, 2, [(0, 0), (65827, 1)], some ⟨w.heap.size + 3, 0, none⟩, 2, 2, [⟨some ⟨w.heap.size + 1, 0, none⟩, 2, 2, [0, 1]⟩, ⟨some ⟨w.heap.size + 2, 0, none⟩, 2, 2, [1, 0]⟩], some ⟨w.heap.size + 4, 0, none⟩, 2, 2, [false, true]⟩ ⟨k2, va2, vn2, vc2, vb2, na2, nn2, nc2, nh2, ba2, bn2, bc2, bb2⟩ w7 HT.out HV2.out tW_small)
  rw [eqT_yes (by rw [HB2.out]; rfl)] at HKt
  simp only [TV.v] at HKt
  go_wp2_with fail
  refine HKt.out.mono ?_
  rintro e w8 ⟨rfl, g⟩
  have bb := bb.trans (g.mono bb.size)
  clear g HKt t0 t1 t2 t3 u20 u21 u22 u23
  go_wp2_with fail
  go_ret
  exact ⟨rfl, bb⟩
end Go.Proofs.YtnilejdokgagbaaDoor
