/- What Encode returns. -/
import Derived.Test.YtbnconieedgcmaaDoorCnts
namespace Go.Proofs.YtbnconieedgcmaaDoor
open Go.RowKit Go.BigFrame
set_option linter.unusedVariables false
set_option maxRecDepth 4000
set_option linter.unusedSimpArgs false

noncomputable def encR (t : Tb) : Option (List Nat) := @dite _ (∃ b, IsEnc b t) (Classical.propDecidable _) (fun h => some (Classical.choose h)) (fun _ => none)
theorem encR_yes {t : Tb} {b : List Nat} (h : IsEnc b t) : encR t = some b := by
  unfold encR
  have hex : ∃ b, IsEnc b t := ⟨b, h⟩
  rw [dif_pos hex]
  exact congrArg some ((Classical.choose_spec hex).uniq h)
theorem encR_no {t : Tb} (h : ¬ MayT t) : encR t = none := by
  unfold encR
  rw [dif_neg]
  rintro ⟨b, hb⟩
  exact h hb.1
theorem encR_may {t : Tb} (h : MayT t) : ∃ b, IsEnc b t ∧ encR t = some b := by
  obtain ⟨y, hy⟩ := isBits_some t.br
  exact ⟨_, ⟨h, y, hy, rfl⟩, encR_yes ⟨h, y, hy, rfl⟩⟩
/-- Bytes, or that there are none. -/
def OutEn (r : Option (List Nat)) (w : World) (e : Ending) (w' : World) : Prop :=
  ∃ (A : Option Addr) (c : Nat), e = .returned (.tuple #[.slice A (r.getD []).length c, .bool r.isSome]) ∧ RB w' w'.heap.size A (r.getD []).length (r.getD []) ∧ Shp A (r.getD []).length c ∧ Below w.heap.size w w'
theorem outEn_no (w w' : World) (g : Below w.heap.size w w') : OutEn none w (.returned (.tuple #[.slice none 0 0, .bool false])) w' :=
  ⟨none, 0, rfl, RB.nil _ _ _, ⟨fun _ => rfl, Nat.le_refl _, Nat.zero_le _⟩, g⟩
theorem outEn_yes {w w' : World} {b : List Nat} {n : Nat} {A : Option Addr} {c : Nat} (h : RB w' w'.heap.size A n b) (s : Shp A n c) (g : Below w.heap.size w w') : OutEn (some b) w (.returned (.tuple #[.slice A n c, .bool true])) w' := by
  have := h.1
  subst this
  exact ⟨A, c, rfl, h, s, g⟩
theorem ix_mark0 (W : World) : (Instr.index 74 (.agg #[.int .u8 66, .int .u8 82, .int .u8 75, .int .u8 49]) (.int .i64 0)).run Tryd.prog W = .ok (.int .u8 66) W := by kernel_rfl
theorem ix_mark1 (W : World) : (Instr.index 74 (.agg #[.int .u8 66, .int .u8 82, .int .u8 75, .int .u8 49]) (.int .i64 1)).run Tryd.prog W = .ok (.int .u8 82) W := by kernel_rfl
theorem ix_mark2 (W : World) : (Instr.index 74 (.agg #[.int .u8 66, .int .u8 82, .int .u8 75, .int .u8 49]) (.int .i64 2)).run Tryd.prog W = .ok (.int .u8 75) W := by kernel_rfl
theorem ix_mark3 (W : World) : (Instr.index 74 (.agg #[.int .u8 66, .int .u8 82, .int .u8 75, .int .u8 49]) (.int .i64 3)).run Tryd.prog W = .ok (.int .u8 49) W := by kernel_rfl
theorem ix_mark (k : Nat) (hk : k < 4) (W : World) : (Instr.index 74 (.agg #[.int .u8 66, .int .u8 82, .int .u8 75, .int .u8 49]) (.int .i64 (k : Int))).run Tryd.prog W = .ok (.int .u8 ((markB.getD k 0 : Nat) : Int)) W := by
  have : k = 0 ∨ k = 1 ∨ k = 2 ∨ k = 3 := by omega
  rcases this with rfl | rfl | rfl | rfl
  · exact ix_mark0 W
  · exact ix_mark1 W
  · exact ix_mark2 W
  · exact ix_mark3 W
theorem mark_take (k : Nat) (hk : k < 4) : markB.take (k + 1) = markB.take k ++ [markB.getD k 0] ∧ markB.getD k 0 < 256 := by
  match k, hk with
  | 0, _ => decide
  | 1, _ => decide
  | 2, _ => decide
  | 3, _ => decide
theorem reads_one (w : World) (x : Nat) : Reads (w.alloc (.cells #[.int .u8 (x : Int)] 5)) (w.heap.size + 1) 1 (some ⟨w.heap.size, 0, none⟩) 1 (ycells [x]) := ⟨rfl, fun _ => ⟨_, _, rfl, by omega, fun i u hu => by
  match i, hu with
  | 0, hu => injection hu with hu; subst hu; simp⟩⟩
theorem reads_three (w : World) (x y z : Nat) : Reads (w.alloc (.cells #[.int .u8 (x : Int), .int .u8 (y : Int), .int .u8 (z : Int)] 5)) (w.heap.size + 1) 1 (some ⟨w.heap.size, 0, none⟩) 3 (ycells [x, y, z]) := ⟨rfl, fun _ => ⟨_, _, rfl, by omega, fun i u hu => by
  match i, hu with
  | 0, hu => injection hu with hu; subst hu; simp
  | 1, hu => injection hu with hu; subst hu; simp
  | 2, hu => injection hu with hu; subst hu; simp⟩⟩
theorem app_lt {a b : List Nat} (ha : ∀ x ∈ a, x < 256) (hb : ∀ x ∈ b, x < 256) : ∀ x ∈ a ++ b, x < 256 := fun x hx => (List.mem_append.1 hx).elim (ha x) (hb x)
theorem one_lt {x : Nat} (h : x < 256) : ∀ y ∈ [x], y < 256 := fun y hy => by rw [List.mem_singleton] at hy; subst hy; exact h
theorem own_lt {w : World} {base n c : Nat} {A : Option Addr} {l : List Nat} (h : w.ownsRow base 5 1 (.slice A n c) n (ycells l)) : l.length = n := by have := h.1; rw [ycells_len] at this; omega
set_option maxRecDepth 4000 in
set_option maxHeartbeats 4000000 in
theorem encode_yes (T : TV) (w : World) (hT : T.ok w) (hS : Small T.tb) (hM : Mark w) (hMay : MayT T.tb) : Calls Tryd.prog 15 #[T.v] w (OutEn (encR T.tb) w) := by
  obtain ⟨i0, hi0, hz0, hz1, hz2⟩ := info_parts info5
  have HFit := Lib.hid (fun W (g : Below w.heap.size w W) => fits_any T W (hT.on g) hS)
  rw [mayB_yes hMay] at HFit
  have hcells := hS.cells hMay
  obtain ⟨cl, a1, n1, c1, bd, a2, n2, c2, hs, a3, n3, c3, br⟩ := T
  simp only [TV.v] at *
  have L1 : bd.length = n1 := hT.r1.1
  have L2 : hs.length = n2 := hT.r2.1
  have L3 : br.length = n3 := hT.r3.1
  have L2' : (listsOf hs).length = n2 := by rw [listsOf_len, L2]
  obtain ⟨cn, rfl⟩ := Int.eq_ofNat_of_zero_le (show 0 ≤ cl by have := hMay.c1; simp only [TV.tb] at this; omega)
  have B0 : cn ≤ 255 := by have := hMay.c2; simp only [TV.tb] at this; omega
  have B1 : n1 ≤ 255 := by have := hMay.k1; simp only [TV.tb] at this; omega
  have B2 : n2 ≤ 255 := by have := hMay.n2; simp only [TV.tb] at this; omega
  have B3 : n3 ≤ 255 := by have := hMay.b1; simp only [TV.tb] at this; omega
  have HBulk : Hid (∀ k, bulk (listsOf (hs.take k)) ≤ 3000) := Lib.hid (fun k => by
    have h1 := hS.n
    have h2 : listsOf hs = listsOf (hs.take k) ++ listsOf (hs.drop k) := by unfold listsOf; rw [← List.map_append, List.take_append_drop]
    simp only [TV.tb] at h1
    rw [h2, bulk_app] at h1
    omega)
  have HBd : Hid (∀ x ∈ bd, (0 ≤ x.1 ∧ x.1 ≤ 16777215) ∧ byteI x.2) := Lib.hid hMay.bd
  have HNx : Hid (∀ h ∈ hs, ∀ x ∈ h.l, byteI x) := Lib.hid (fun h hh => (hMay.nx h.l (List.mem_map.2 ⟨h, hh, rfl⟩)).2)
  have HEnc : Hid (∀ y, IsBits y br → encR (TV.tb ⟨(cn : Int), a1, n1, c1, bd, a2, n2, c2, hs, a3, n3, c3, br⟩) = some (sealB (headB (TV.tb ⟨(cn : Int), a1, n1, c1, bd, a2, n2, c2, hs, a3, n3, c3, br⟩) ++ (bd.flatMap bandB ++ ((listsOf hs).flatMap rowB ++ y))))) := Lib.hid (fun y hy => encR_yes ⟨hMay, y, hy, rfl⟩)
  have HLt : Hid (∀ y, IsBits y br → ∀ z ∈ headB (TV.tb ⟨(cn : Int), a1, n1, c1, bd, a2, n2, c2, hs, a3, n3, c3, br⟩) ++ (bd.flatMap bandB ++ ((listsOf hs).flatMap rowB ++ y)), z < 256) := Lib.hid (fun y hy => body_lt hMay hy)
  have HHead : Hid (headB (TV.tb ⟨(cn : Int), a1, n1, c1, bd, a2, n2, c2, hs, a3, n3, c3, br⟩) = markB ++ [cn, n2, n1]) := Lib.hid (by
    unfold headB
    simp only [TV.tb]
    rw [L2', L1, Int.toNat_natCast])
  rw [HHead.out] at HEnc HLt
  have HT := Lib.hid hT
  have HM := Lib.hid hM
  have HL1 := Lib.hid L1
  have HL2 := Lib.hid L2
  generalize hR : encR (TV.tb ⟨(cn : Int), a1, n1, c1, bd, a2, n2, c2, hs, a3, n3, c3, br⟩) = R at *
  clear hR hT hS hM hMay L1 L2 L2' L3 HHead hcells
  have e0 : (cn : Int) % 256 = (cn : Int) := by omega
  have e1 : (n1 : Int) % 256 = (n1 : Int) := by omega
  have e2 : (n2 : Int) % 256 = (n2 : Int) := by omega
  go_enter Tryd.func15, Tryd.ntmps15
  go_wp2_with fail
  have q0 : (w.alloc (.cells #[.int .i64 cn, .slice a1 n1 c1, .slice a2 n2 c2, .slice a3 n3 c3] 26)).cell? ⟨w.heap.size, 0, none⟩ = some (.int .i64 cn) := by simp
  have q1 : (w.alloc (.cells #[.int .i64 cn, .slice a1 n1 c1, .slice a2 n2 c2, .slice a3 n3 c3] 26)).cell? ⟨w.heap.size, 1, none⟩ = some (.slice a1 n1 c1) := by simp
  have q2 : (w.alloc (.cells #[.int .i64 cn, .slice a1 n1 c1, .slice a2 n2 c2, .slice a3 n3 c3] 26)).cell? ⟨w.heap.size, 2, none⟩ = some (.slice a2 n2 c2) := by simp
  have q3 : (w.alloc (.cells #[.int .i64 cn, .slice a1 n1 c1, .slice a2 n2 c2, .slice a3 n3 c3] 26)).cell? ⟨w.heap.size, 3, none⟩ = some (.slice a3 n3 c3) := by simp
  have b0 := below_new w (.cells #[.int .i64 cn, .slice a1 n1 c1, .slice a2 n2 c2, .slice a3 n3 c3] 26)
  generalize w.alloc (.cells #[.int .i64 cn, .slice a1 n1 c1, .slice a2 n2 c2, .slice a3 n3 c3] 26) = W at *
  refine (HFit.out _ b0).mono ?_
  rintro e w1 ⟨rfl, g⟩
  have q0 := kept_cell g q0
  have q1 := kept_cell g q1
  have q2 := kept_cell g q2
  have q3 := kept_cell g q3
  have b1 := b0.trans (g.mono b0.size)
  have HT1 := Lib.hid (HT.out.on b1)
  obtain ⟨hm0, m0, m1, m2, m3⟩ := HM.out.on b1
  have hwz := b1.size
  clear g b0 HFit HT HM
  go_wp2_with fail
  clear m0 m1 m2 m3 hm0
  go_loopw [4, 17] (fun vo vi wr => ∃ (k : Nat) (A : Option Addr) (c : Nat), k ≤ 4 ∧ vi = .int .i64 k ∧ vo = .slice A k c ∧ Hid (wr.ownsRow w1.heap.size 5 1 (.slice A k c) k (ycells (markB.take k))) ∧ Below w1.heap.size w1 wr) (fun _ i _ => 4 - (intOf i).toNat)
  case atStart => exact ⟨0, none, 0, Nat.zero_le _, rfl, rfl, Lib.hid (World.ownsRow_nil _ _ _ _), Below.refl _ _⟩
  case round =>
    obtain ⟨k, A, c, hk, rfl, rfl, HO, hb⟩ := hrel
    have hsz := hb.size
    by_cases hlt : k < 4
    · have hix := ix_mark k hlt
      obtain ⟨hmt, hml⟩ := mark_take k hlt
      have HMT := Lib.hid hmt
      clear hmt
      generalize markB.getD k 0 = x at *
      have HOa := Lib.hid (HO.out.alloc (.cells #[.int .u8 (x : Int)] 5))
      have hba := hb.alloc hsz (.cells #[.int .u8 (x : Int)] 5)
      have HRd := Lib.hid (reads_one wr x)
      have HOne := Lib.hid (ycells_one [x])
      go_wp2_with (at_builtin; refine wpList_append_src rfl _ _ 27 rfl w1.heap.size 5 i0 _ 1 1 Tryd.underlying27 hi0 hz0 hz1 hz2 rfl (by decide) _ _ _ rfl HOa.out (some ⟨wr.heap.size, 0, none⟩) 1 1 (wr.heap.size + 1) (ycells [x]) rfl (fun h => by cases h) HRd.out HOne.out ?n3 ?n4 ?n5 ?_)
      case n3 => unfold maxLen; omega
      case n4 => omega
      case n5 => simp; omega
      intro A3 c3 w3 hown3 hn3 hgrow3
      have b3 : Below w1.heap.size w1 w3 := below_grown hba (by simp; omega) HOa.out hgrow3
      have HO3 : Hid (w3.ownsRow w1.heap.size 5 1 (.slice A3 (k + 1) c3) (k + 1) (ycells (markB.take (k + 1)))) := Lib.hid (by
        rw [HMT.out, ycells_app]; exact hown3)
      clear hown3 hgrow3 HOa HO hba hb hix
      go_wp2_with fail
      go_roundw
      case rel => exact ⟨k + 1, A3, c3, by omega, by go_num, rfl, HO3, b3⟩
      case measure => simp [intOf]; omega
    · obtain rfl : k = 4 := by omega
      have HOm : Hid (wr.ownsRow w1.heap.size 5 1 (.slice A 4 c) 4 (ycells markB)) := Lib.hid (by have h := HO.out; rwa [show markB.take 4 = markB from rfl] at h)
      clear HO
      have q0 := kept_cell hb q0
      have q1' := kept_cell hb q1
      have q2' := kept_cell hb q2
      have HOa := Lib.hid (HOm.out.alloc (.cells #[.int .u8 (cn : Int), .int .u8 (n2 : Int), .int .u8 (n1 : Int)] 5))
      have hba := hb.alloc hsz (.cells #[.int .u8 (cn : Int), .int .u8 (n2 : Int), .int .u8 (n1 : Int)] 5)
      have HRd := Lib.hid (reads_three wr cn n2 n1)
      have HOne := Lib.hid (ycells_one [cn, n2, n1])
      clear HOm
      rename World => wr0
      go_wp2_with (at_builtin; refine wpList_append_src rfl _ _ 27 rfl w1.heap.size 5 i0 _ 1 1 Tryd.underlying27 hi0 hz0 hz1 hz2 rfl (by decide) _ _ _ rfl HOa.out (some ⟨wr0.heap.size, 0, none⟩) 3 3 (wr0.heap.size + 1) (ycells [cn, n2, n1]) rfl (fun h => by cases h) HRd.out HOne.out ?n3 ?n4 ?n5 ?_)
      case n3 => unfold maxLen; omega
      case n4 => omega
      case n5 => simp; omega
      intro A3 c3' w3 hown3 hn3 hgrow3
      have b3 : Below w1.heap.size w1 w3 := below_grown hba (by simp; omega) HOa.out hgrow3
      have HO3 : Hid (w3.ownsRow w1.heap.size 5 1 (.slice A3 7 c3') 7 (ycells (markB ++ [cn, n2, n1]))) := Lib.hid (by
        rw [ycells_app]; exact hown3)
      have q1' := kept_cell b3 q1
      clear hown3 hgrow3 HOa hba hb q0 q2'
      go_wp2_with fail
      go_loopw [4, 42] (fun vo vi wr => ∃ (k z : Nat) (A : Option Addr) (c : Nat), k ≤ n1 ∧ z ≤ 7 + 4 * k ∧ vi = .int .i64 k ∧ vo = .slice A z c ∧ Hid (wr.ownsRow w1.heap.size 5 1 (.slice A z c) z (ycells ((markB ++ [cn, n2, n1]) ++ (bd.take k).flatMap bandB))) ∧ Below w1.heap.size w1 wr) (fun _ i _ => n1 - (intOf i).toNat)
      case atStart => exact ⟨0, 7, A3, c3', Nat.zero_le _, by omega, rfl, rfl, Lib.hid (by rw [List.take_zero, List.flatMap_nil, List.append_nil]; exact HO3.out), b3⟩
      case round =>
        obtain ⟨k, z, A, c, hk, hz, rfl, rfl, HO, hb⟩ := hrel
        clear HO3 b3 q1'
        have hsz := hb.size
        by_cases hlt : k < n1
        · have kl : k < bd.length := by rw [HL1.out]; exact hlt
          obtain ⟨b, o, rfl, _, p0, p1⟩ := (HT1.out.r1.on hb).at kl
          obtain ⟨hx0, hx1⟩ := HBd.out bd[k] (List.getElem_mem kl)
          have HTk : Hid ((bd.take (k + 1)).flatMap bandB = (bd.take k).flatMap bandB ++ (lowB bd[k].1 3 ++ [bd[k].2.toNat])) := Lib.hid (by rw [List.take_succ_eq_append_getElem kl, List.flatMap_append]; simp [bandB])
          generalize bd[k] = x at *
          obtain ⟨x0, x1⟩ := x
          simp only [] at p0 p1 HTk hx0 hx1
          obtain ⟨y1, rfl⟩ := Int.eq_ofNat_of_zero_le hx1.1
          have hy1 : y1 ≤ 255 := by have := hx1.2; omega
          have ey : (y1 : Int) % 256 = (y1 : Int) := by omega
          have HTk' : Hid ((markB ++ [cn, n2, n1]) ++ (bd.take (k + 1)).flatMap bandB = ((markB ++ [cn, n2, n1]) ++ (bd.take k).flatMap bandB ++ lowB x0 3) ++ [y1]) := Lib.hid (by rw [HTk.out, Int.toNat_natCast]; simp only [List.append_assoc])
          generalize (markB ++ [cn, n2, n1]) ++ (bd.take k).flatMap bandB = bs at *
          clear HTk hx1
          have bal := hb.alloc hsz (.cells #[.int .i64 x0, .int .i64 y1] 52)
          have HOb := Lib.hid (HO.out.alloc (.cells #[.int .i64 x0, .int .i64 y1] 52))
          have HNe : Hid (some wr.heap.size ≠ (Value.slice A z c).ownBlock) := Lib.hid (fun e => by have := (HO.out.lt _ e.symm).2; omega)
          clear HO
          go_wp2_with fail
          have s1 : (wr.alloc (.cells #[.int .i64 x0, .int .i64 y1] 52)).cell? ⟨wr.heap.size, 1, none⟩ = some (.int .i64 y1) := by simp
          have hzz : wr.heap.size ≤ (wr.alloc (.cells #[.int .i64 x0, .int .i64 y1] 52)).heap.size := by simp
          generalize wr.alloc (.cells #[.int .i64 x0, .int .i64 y1] 52) = w5 at *
          refine (put_3 [] 0 none 0 x0 w5 (fun _ => rfl) (RB.nil _ _ _) (by omega)).mono ?_
          rintro e w6 ⟨A6, c6, rfl, l6, y6, o6, g6⟩
          have s1 := kept_cell g6 s1
          have b6 := bal.trans (g6.mono bal.size)
          have hs6 := b6.size
          have HO6 := Lib.hid (own_below HOb.out g6)
          have HN6 := Lib.hid (own_nil o6)
          have HR6 : Hid (Reads w6 w6.heap.size 1 A6 (0 + 3) (ycells (lowB x0 3))) := Lib.hid (Reads.of_own o6)
          have HY6 := Lib.hid (ycells_one (lowB x0 3))
          clear o6 l6 y6 g6 HOb bal hzz
          go_wp2_with (at_builtin; refine wpList_append_src rfl _ _ 27 rfl w1.heap.size 5 i0 _ 1 1 Tryd.underlying27 hi0 hz0 hz1 hz2 rfl (by decide) _ _ _ rfl HO6.out A6 3 c6 w6.heap.size (ycells (lowB x0 3)) rfl HN6.out HR6.out HY6.out ?n3 ?n4 ?n5 ?_)
          case n3 => unfold maxLen; omega
          case n4 => omega
          case n5 => omega
          intro A7 c7 w7 hown7 hn7 hgrow7
          have b7 : Below w1.heap.size w1 w7 := below_grown b6 hs6 HO6.out hgrow7
          have hs7 := b7.size
          have HO7 : Hid (w7.ownsRow w1.heap.size 5 1 (.slice A7 (z + 3) c7) (z + 3) (ycells (bs ++ lowB x0 3))) := Lib.hid (by
            rw [ycells_app]; exact hown7)
          have s1 : w7.cell? ⟨wr.heap.size, 1, none⟩ = some (.int .i64 y1) := hgrow7.cell s1 HNe.out
          clear hown7 hgrow7 HO6 HN6 HR6 HY6 b6 HNe
          have HOa := Lib.hid (HO7.out.alloc (.cells #[.int .u8 (y1 : Int)] 5))
          have hba := b7.alloc hs7 (.cells #[.int .u8 (y1 : Int)] 5)
          have HRd := Lib.hid (reads_one w7 y1)
          have HOne := Lib.hid (ycells_one [y1])
          clear HO7
          go_wp2_with (at_builtin; refine wpList_append_src rfl _ _ 27 rfl w1.heap.size 5 i0 _ 1 1 Tryd.underlying27 hi0 hz0 hz1 hz2 rfl (by decide) _ _ _ rfl HOa.out (some ⟨w7.heap.size, 0, none⟩) 1 1 (w7.heap.size + 1) (ycells [y1]) rfl (fun h => by cases h) HRd.out HOne.out ?n3 ?n4 ?n5 ?_)
          case n3 => unfold maxLen; omega
          case n4 => omega
          case n5 => simp; omega
          intro A8 c8 w8 hown8 hn8 hgrow8
          have b8 : Below w1.heap.size w1 w8 := below_grown hba (by simp; omega) HOa.out hgrow8
          have HO8 : Hid (w8.ownsRow w1.heap.size 5 1 (.slice A8 (z + 3 + 1) c8) (z + 3 + 1) (ycells ((markB ++ [cn, n2, n1]) ++ (bd.take (k + 1)).flatMap bandB))) := Lib.hid (by
            rw [HTk'.out, ycells_app]; exact hown8)
          clear hown8 hgrow8 HOa hba HRd HOne s1 b7
          go_wp2_with fail
          go_roundw
          case rel => exact ⟨k + 1, z + 3 + 1, A8, c8, by omega, by omega, by go_num, rfl, HO8, b8⟩
          case measure => simp [intOf]; omega
        · have HO' : Hid (wr.ownsRow w1.heap.size 5 1 (.slice A z c) z (ycells ((markB ++ [cn, n2, n1]) ++ bd.flatMap bandB))) := Lib.hid (by
            have h := HO.out
            rwa [List.take_of_length_le (by rw [HL1.out]; omega)] at h)
          have hz7 : z ≤ 1027 := by omega
          have q2' := kept_cell hb q2
          have hb0 := hb
          clear HO hz hsz hb
          rename World => wr1
          go_wp2_with fail
          go_loopw [4, 61] (fun vo vi wr => ∃ (k z : Nat) (A : Option Addr) (c : Nat), k ≤ n2 ∧ Hid (z ≤ 1027 + bulk (listsOf (hs.take k))) ∧ vi = .int .i64 k ∧ vo = .slice A z c ∧ Hid (wr.ownsRow w1.heap.size 5 1 (.slice A z c) z (ycells (((markB ++ [cn, n2, n1]) ++ bd.flatMap bandB) ++ (listsOf (hs.take k)).flatMap rowB))) ∧ Below w1.heap.size w1 wr) (fun _ i _ => n2 - (intOf i).toNat)
          case atStart => exact ⟨0, z, A, c, Nat.zero_le _, Lib.hid (by omega), rfl, rfl, Lib.hid (by rw [List.take_zero]; unfold listsOf; rw [List.map_nil, List.flatMap_nil, List.append_nil]; exact HO'.out), hb0⟩
          case round =>
            obtain ⟨k, z, A, c, hk, HZ, rfl, rfl, HO, hb⟩ := hrel
            clear HO' hb0 q2'
            have hsz := hb.size
            have hz4 : z ≤ 4100 := by have := HZ.out; have := HBulk.out k; omega
            by_cases hlt : k < n2
            · have kl : k < hs.length := by rw [HL2.out]; exact hlt
              obtain ⟨b, o, rfl, _, p0, pr, _⟩ := (HT1.out.r2.on hb).at kl
              have HX := Lib.hid (HNx.out hs[k] (List.getElem_mem kl))
              have hxl := pr.1
              have pr0 := (HT1.out.r2.2.2 hs[k] (List.getElem_mem kl)).1
              have HTk : Hid ((((markB ++ [cn, n2, n1]) ++ bd.flatMap bandB) ++ (listsOf (hs.take (k + 1))).flatMap rowB) = (((markB ++ [cn, n2, n1]) ++ bd.flatMap bandB) ++ (listsOf (hs.take k)).flatMap rowB) ++ rowB hs[k].l) := Lib.hid (by
                rw [List.take_succ_eq_append_getElem kl]
                unfold listsOf
                rw [List.map_append, List.flatMap_append]
                simp)
              have HTb : Hid (bulk (listsOf (hs.take (k + 1))) = bulk (listsOf (hs.take k)) + (1 + hs[k].l.length)) := Lib.hid (by
                rw [List.take_succ_eq_append_getElem kl]
                unfold listsOf
                rw [List.map_append, bulk_app]
                simp [bulk])
              have hbk := HBulk.out (k + 1)
              rw [HTb.out] at hbk
              have HZ' := Lib.hid HZ.out
              generalize hs[k] = x at *
              obtain ⟨xa, xn, xc, xs⟩ := x
              simp only [] at p0 pr pr0 HX hxl HTk HTb hbk
              have hxn : xn ≤ 3000 := by omega
              have HXL := Lib.hid hxl
              have HPr := Lib.hid pr0
              clear hxl pr pr0 hbk
              generalize (((markB ++ [cn, n2, n1]) ++ bd.flatMap bandB) ++ (listsOf (hs.take k)).flatMap rowB) = bs at *
              have hb0 := hb
              have HO0 := HO
              clear hb HO
              rename World => wr2
              go_wp2_with fail
              go_loopw [4, 67] (fun vo vi wr => ∃ (j y : Nat) (A : Option Addr) (c : Nat), j ≤ xn ∧ Hid (y = z + j) ∧ vi = .int .i64 j ∧ vo = .slice A y c ∧ Hid (wr.ownsRow w1.heap.size 5 1 (.slice A y c) y (ycells (bs ++ rowB (xs.take j)))) ∧ Below w1.heap.size w1 wr) (fun _ i _ => xn - (intOf i).toNat)
              case atStart => exact ⟨0, z, A, c, Nat.zero_le _, Lib.hid rfl, rfl, rfl, Lib.hid (by rw [List.take_zero]; unfold rowB; rw [List.map_nil, List.append_nil]; exact HO0.out), hb0⟩
              case round =>
                obtain ⟨j, y, A, c, hj, HY, rfl, rfl, HO, hb⟩ := hrel
                clear HO0 hb0 p0
                have hsz := hb.size
                have hy : y ≤ 7200 := by have := HY.out; omega
                by_cases hjl : j < xn
                · have jl : j < xs.length := by rw [HXL.out]; exact hjl
                  obtain ⟨b2, o2, rfl, _, r0⟩ := (HPr.out.on hb).at jl
                  have hxx := HX.out xs[j] (List.getElem_mem jl)
                  have HTj : Hid (bs ++ rowB (xs.take (j + 1)) = (bs ++ rowB (xs.take j)) ++ [xs[j].toNat]) := Lib.hid (by
                    rw [List.take_succ_eq_append_getElem jl]; unfold rowB; rw [List.map_append]; simp)
                  generalize xs[j] = v at *
                  obtain ⟨v, rfl⟩ := Int.eq_ofNat_of_zero_le hxx.1
                  rw [Int.toNat_natCast] at HTj
                  have hv : v ≤ 255 := by have := hxx.2; omega
                  have ev : (v : Int) % 256 = (v : Int) := by omega
                  generalize bs ++ rowB (xs.take j) = bj at *
                  have HOa := Lib.hid (HO.out.alloc (.cells #[.int .u8 (v : Int)] 5))
                  have hba := hb.alloc hsz (.cells #[.int .u8 (v : Int)] 5)
                  have HRd := Lib.hid (reads_one wr v)
                  have HOne := Lib.hid (ycells_one [v])
                  clear HO hxx
                  go_wp2_with (at_builtin; refine wpList_append_src rfl _ _ 27 rfl w1.heap.size 5 i0 _ 1 1 Tryd.underlying27 hi0 hz0 hz1 hz2 rfl (by decide) _ _ _ rfl HOa.out (some ⟨wr.heap.size, 0, none⟩) 1 1 (wr.heap.size + 1) (ycells [v]) rfl (fun h => by cases h) HRd.out HOne.out ?n3 ?n4 ?n5 ?_)
                  case n3 => unfold maxLen; omega
                  case n4 => omega
                  case n5 => simp; omega
                  intro A8 c8 w8 hown8 hn8 hgrow8
                  have b8 : Below w1.heap.size w1 w8 := below_grown hba (by simp; omega) HOa.out hgrow8
                  have HO8 : Hid (w8.ownsRow w1.heap.size 5 1 (.slice A8 (y + 1) c8) (y + 1) (ycells (bs ++ rowB (xs.take (j + 1))))) := Lib.hid (by
                    rw [HTj.out, ycells_app]; exact hown8)
                  clear hown8 hgrow8 HOa hba HRd HOne r0 hb
                  go_wp2_with fail
                  go_roundw
                  case rel => exact ⟨j + 1, y + 1, A8, c8, by omega, Lib.hid (by have := HY.out; omega), by go_num, rfl, HO8, b8⟩
                  case measure => simp [intOf]; omega
                · have HO9 : Hid (wr.ownsRow w1.heap.size 5 1 (.slice A y c) y (ycells (((markB ++ [cn, n2, n1]) ++ bd.flatMap bandB) ++ (listsOf (hs.take (k + 1))).flatMap rowB))) := Lib.hid (by
                    have h := HO.out
                    rw [List.take_of_length_le (by rw [HXL.out]; omega)] at h
                    rw [HTk.out]
                    exact h)
                  have HZ9 : Hid (y ≤ 1027 + bulk (listsOf (hs.take (k + 1)))) := Lib.hid (by
                    have h1 := HTb.out
                    have h2 := HXL.out
                    have h3 := HZ'.out
                    have h4 := HY.out
                    omega)
                  clear HO HTk HTb HX HPr
                  go_wp2_with fail
                  go_roundw
                  case rel => exact ⟨k + 1, y, A, c, by omega, HZ9, by go_num, rfl, HO9, hb⟩
                  case measure => simp [intOf]; omega
            · have HO' : Hid (wr.ownsRow w1.heap.size 5 1 (.slice A z c) z (ycells (((markB ++ [cn, n2, n1]) ++ bd.flatMap bandB) ++ (listsOf hs).flatMap rowB))) := Lib.hid (by
                have h := HO.out
                rwa [List.take_of_length_le (by rw [HL2.out]; omega)] at h)
              have q3' := kept_cell hb q3
              have HBt := Lib.hid (bits_any br n3 a3 c3 wr (HT1.out.r3.on hb) (by omega))
              clear HO HZ
              rename World => wr3
              go_wp2_with fail
              refine HBt.out.mono ?_
              rintro e w4 ⟨yb, hyb, A4, c4, rfl, l4, y4, o4, g4⟩
              obtain ⟨m, hm⟩ : ∃ m, (n3 + 7) / 8 = m := ⟨_, rfl⟩
              rw [hm] at l4 o4 ⊢
              have hm2 : m ≤ 100 := by omega
              have HE4 := Lib.hid (HEnc.out yb hyb)
              have b4 := hb.trans (g4.mono hsz)
              have hs4 := b4.size
              have HO4 := Lib.hid (own_below HO'.out g4)
              have HN4 := Lib.hid (own_nil o4)
              have HR4 : Hid (Reads w4 w4.heap.size 1 A4 m (ycells yb)) := Lib.hid (Reads.of_own o4)
              have HY4 := Lib.hid (ycells_one yb)
              have HYl := Lib.hid y4
              have hyb := Lib.hid hyb
              clear hm l4 y4 o4 g4 HBt HO' q3' hb
              go_wp2_with (at_builtin; refine wpList_append_src rfl _ _ 27 rfl w1.heap.size 5 i0 _ 1 1 Tryd.underlying27 hi0 hz0 hz1 hz2 rfl (by decide) _ _ _ rfl HO4.out A4 m c4 w4.heap.size (ycells yb) rfl HN4.out HR4.out HY4.out ?n3 ?n4 ?n5 ?_)
              case n3 => unfold maxLen; omega
              case n4 => omega
              case n5 => omega
              intro A5 c5 w5 hown5 hn5 hgrow5
              have b5 : Below w1.heap.size w1 w5 := below_grown b4 hs4 HO4.out hgrow5
              have HAss : Hid ((((markB ++ [cn, n2, n1]) ++ bd.flatMap bandB) ++ (listsOf hs).flatMap rowB) ++ yb = (markB ++ [cn, n2, n1]) ++ (bd.flatMap bandB ++ ((listsOf hs).flatMap rowB ++ yb))) := Lib.hid (by simp only [List.append_assoc])
              have hown5' : w5.ownsRow w1.heap.size 5 1 (.slice A5 (z + m) c5) (z + m) (ycells ((markB ++ [cn, n2, n1]) ++ (bd.flatMap bandB ++ ((listsOf hs).flatMap rowB ++ yb)))) := by
                rw [← HAss.out, ycells_app]; exact hown5
              have HBl := Lib.hid (HLt.out yb hyb.out)
              generalize (markB ++ [cn, n2, n1]) ++ (bd.flatMap bandB ++ ((listsOf hs).flatMap rowB ++ yb)) = body at *
              have HBody : Hid (∀ x ∈ body, x < 256) := HBl
              have HRB := Lib.hid (own_RB hown5' HBody.out)
              have HSh := Lib.hid (own_shp hown5')
              have b5w := b1.trans (b5.mono hwz)
              clear hown5 hown5' hgrow5 HO4 HN4 HR4 HY4 HAss b4 b5
              have HSum := Lib.hid (sum_any body (z + m) A5 c5 w5 HRB.out (by omega))
              have HPut := Lib.hid (put_4 body (z + m) A5 c5 ((sumL body : Nat) : Int) w5 HSh.out.1 HRB.out (by omega))
              have hsl := sumL_lt body
              have HSeal : Hid (body ++ lowB ((sumL body : Nat) : Int) 4 = sealB body) := Lib.hid rfl
              generalize sumL body = su at *
              go_wp2_with fail
              refine HSum.out.mono ?_
              rintro e w6 ⟨rfl, rfl⟩
              go_wp2_with fail
              refine HPut.out.mono ?_
              rintro e w7 ⟨A7, c7, rfl, l7, y7, o7, g7⟩
              have b7 := b5w.trans (g7.mono b5w.size)
              have HR7 := Lib.hid (own_RB o7 y7)
              have HS7 := Lib.hid (own_shp o7)
              clear l7 y7 o7 g7 HPut HSum
              go_wp2_with fail
              go_ret2
              rw [HE4.out, ← HSeal.out]
              exact outEn_yes HR7.out HS7.out b7
theorem encode_any (T : TV) (w : World) (hT : T.ok w) (hS : Small T.tb) (hM : Mark w) : Calls Tryd.prog 15 #[T.v] w (OutEn (encR T.tb) w) := by
  by_cases hMay : MayT T.tb
  · exact encode_yes T w hT hS hM hMay
  · have HFit := Lib.hid (fun W (g : Below w.heap.size w W) => fits_any T W (hT.on g) hS)
    rw [mayB_no hMay] at HFit
    rw [encR_no hMay]
    obtain ⟨cl, a1, n1, c1, bd, a2, n2, c2, hs, a3, n3, c3, br⟩ := T
    simp only [TV.v] at *
    clear hT hS hM hMay
    go_enter Tryd.func15, Tryd.ntmps15
    go_wp2_with fail
    refine (HFit.out _ (below_new _ _)).mono ?_
    rintro e w1 ⟨rfl, g⟩
    go_wp2_with fail
    go_ret2
    exact outEn_no _ _ ((below_new _ _).trans (g.mono (by simp)))
end Go.Proofs.YtbnconieedgcmaaDoor
