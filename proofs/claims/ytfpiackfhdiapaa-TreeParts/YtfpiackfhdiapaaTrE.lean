/- What the document's Begin and Good of trees return. -/
import Derived.Test.YtfpiackfhdiapaaTrR
namespace Go.Proofs.Ytfpiackfhdiapaa.S
open Go.RowKit Go.BigFrame
set_option linter.unusedVariables false
set_option linter.unusedSimpArgs false
set_option maxRecDepth 4000

theorem nats_app (l m : List Nat) : nats (l ++ m) = nats l ++ nats m := by simp [nats, icells]
theorem nats_one (l : List Nat) : ∀ u ∈ nats l, u.oneCell' = true := by
  intro u hu
  simp only [nats, icells, List.map_map, List.mem_map] at hu
  obtain ⟨x, _, rfl⟩ := hu
  rfl
def OutBn (o : Option (List Nat)) (w : World) (e : Ending) (w' : World) : Prop :=
  ∃ (A : Option Addr) (m c : Nat), e = .returned (.slice A m c) ∧ (o.getD []).length = m ∧ w'.ownsRow w.heap.size 3 1 (.slice A m c) m (nats (o.getD [])) ∧ Below w.heap.size w w'
theorem outBn_no {o : Option (List Nat)} {w w' : World} (h : o = none) (g : Below w.heap.size w w') : OutBn o w (.returned (.slice none 0 0)) w' :=
  ⟨none, 0, 0, rfl, by rw [h]; rfl, by rw [h]; exact World.ownsRow_nil _ _ _ _, g⟩

set_option maxHeartbeats 16000000 in
theorem refBegin_any (L : List NV) (A : Option Addr) (n c : Nat) (w : World) (hT : RT w w.heap.size A n L) (hS : SmT L) (hn : n ≤ 1000000) :
    Calls Try.prog 27 #[.slice A n c] w (OutBn (bgs (nds L)) w) := by
  obtain ⟨i0, hi0, hz0, hz1, hz2⟩ := info_parts info3
  have HT := Lib.hid hT
  have HS := Lib.hid hS
  have HL := Lib.hid hT.1
  clear hT hS
  go_enter Try.func27, Try.ntmps27
  go_wp2_with fail
  go_loopw [3, 4] (fun vo vi wr => ∃ (k c2 : Nat) (A2 : Option Addr) (bs : List Nat), k ≤ n ∧ vi = .int .i64 k ∧ vo = .slice A2 k c2 ∧ Hid (Below w.heap.size w wr) ∧ Hid (bgs ((nds L).take k) = some bs) ∧ Hid (bs.length = k) ∧ Hid (wr.ownsRow w.heap.size 3 1 (.slice A2 k c2) k (nats bs))) (fun _ vi _ => n - (intOf vi).toNat)
  case atStart => exact ⟨0, 0, none, [], Nat.zero_le _, rfl, rfl, Lib.hid (Below.refl _ _), Lib.hid rfl, Lib.hid rfl, Lib.hid (World.ownsRow_nil _ _ _ _)⟩
  case round =>
    obtain ⟨k, c2, A2, bs, hk, rfl, rfl, HBb, HB, HBL, HO⟩ := hrel
    have hb := HBb.out
    have hsz := hb.size
    by_cases hlt : k < n
    · have kl : k < L.length := by rw [HL.out]; exact hlt
      obtain ⟨b, o, rfl, hbb, p0, p1, p2, p3, p4, hok⟩ := ((HT.out.below hb).more hsz).at kl
      have HTk := Lib.hid (nds_take_succ kl)
      have HSm := Lib.hid (HS.out _ (List.getElem_mem kl))
      have HNx : Hid (bgs ((nds L).take (k + 1)) = nextBg (some bs) L[k].nd) := Lib.hid (by rw [HTk.out, bgs_snoc, HB.out])
      have HOk := Lib.hid hok
      clear hok HTk
      generalize L[k] = x at *
      obtain ⟨xk, xa, xb, xA, xn, xc, xs, xm⟩ := x
      simp only [NV.nd] at p0 p1 p2 p3 p4 HNx HSm
      have HNo1 : Hid (labB ⟨xk, xa, xb, xs, xm⟩ = false → bgs (nds L) = none) := Lib.hid (fun h => bgs_cut (by rw [HNx.out]; exact nextBg_no2 h))
      have HNo2 : Hid (stepB bs ⟨xk, xa, xb, xs, xm⟩ = none → bgs (nds L) = none) := Lib.hid (fun h => bgs_cut (by rw [HNx.out]; exact nextBg_no1 h))
      have HYes : Hid (∀ y, labB ⟨xk, xa, xb, xs, xm⟩ = true → stepB bs ⟨xk, xa, xb, xs, xm⟩ = some y → bgs ((nds L).take (k + 1)) = some (bs ++ [y])) := Lib.hid (fun y h h2 => by rw [HNx.out]; exact nextBg_yes h2 h)
      have HLE := Lib.hid (bgs_le _ _ HB.out)
      have b5 := below_new wr (.cells #[.int .i64 xk, .int .i64 xa, .int .i64 xb, .slice xA xn xc, .string xm] 48)
      have q0 : (wr.alloc (.cells #[.int .i64 xk, .int .i64 xa, .int .i64 xb, .slice xA xn xc, .string xm] 48)).cell? ⟨wr.heap.size, 0, none⟩ = some (.int .i64 xk) := by simp
      have q1 : (wr.alloc (.cells #[.int .i64 xk, .int .i64 xa, .int .i64 xb, .slice xA xn xc, .string xm] 48)).cell? ⟨wr.heap.size, 1, none⟩ = some (.int .i64 xa) := by simp
      have q2 : (wr.alloc (.cells #[.int .i64 xk, .int .i64 xa, .int .i64 xb, .slice xA xn xc, .string xm] 48)).cell? ⟨wr.heap.size, 2, none⟩ = some (.int .i64 xb) := by simp
      have q3 : (wr.alloc (.cells #[.int .i64 xk, .int .i64 xa, .int .i64 xb, .slice xA xn xc, .string xm] 48)).cell? ⟨wr.heap.size, 3, none⟩ = some (.slice xA xn xc) := by simp
      have q4 : (wr.alloc (.cells #[.int .i64 xk, .int .i64 xa, .int .i64 xb, .slice xA xn xc, .string xm] 48)).cell? ⟨wr.heap.size, 4, none⟩ = some (.string xm) := by simp
      have HO5 := Lib.hid (own_below HO.out b5)
      have HOk5 := Lib.hid (HOk.out.on b5)
      have hb5 := hb.trans (b5.mono hsz)
      have hls := HOk.out.1
      simp only [] at hls
      have HEm := Lib.hid (isEmpty_len hls)
      go_upto_region 6 with (fail)
      generalize wr.alloc (.cells #[.int .i64 xk, .int .i64 xa, .int .i64 xb, .slice xA xn xc, .string xm] 48) = w5 at *
      generalize wr.heap.size = gb at *
      clear p0 p1 p2 p3 p4 HO HOk hb b5 hbb hls HNx HB HBb
      have hsz5 := hb5.size
      by_cases h2 : xk = 2
      case pos =>
        subst h2
        have HLb := Lib.hid (labB_one (x := ⟨2, xa, xb, xs, xm⟩) rfl)
        by_cases ha : xa = 0
        case neg =>
          have ha2 : (xa == 0) = false := by rw [beq_eq_false_iff_ne]; exact ha
          have ha3 : (xa != 0) = true := by rw [bne_iff_ne]; exact ha
          have HD : Hid (bgs (nds L) = none) := Lib.hid (HNo2.out (stepB_leaf_no (by simp) (fun h => ha h.1)))
          clear HNo1 HNo2 HYes
          go_wp2_with fail
          go_ret
          exact outBn_no HD.out (hb5)
        subst ha
        by_cases hbz : xb = 0
        case neg =>
          have ha2 : (xb == 0) = false := by rw [beq_eq_false_iff_ne]; exact hbz
          have ha3 : (xb != 0) = true := by rw [bne_iff_ne]; exact hbz
          have HD : Hid (bgs (nds L) = none) := Lib.hid (HNo2.out (stepB_leaf_no (by simp) (fun h => hbz h.2)))
          clear HNo1 HNo2 HYes
          go_wp2_with fail
          go_ret
          exact outBn_no HD.out (hb5)
        subst hbz
        by_cases hn0 : xn = 0
        case pos =>
          subst hn0
          have HD : Hid (bgs (nds L) = none) := Lib.hid (HNo1.out (by rw [HLb.out]; (try simp only []); rw [HEm.out]; rfl))
          clear HNo1 HNo2 HYes
          go_wp2_with fail
          go_ret
          exact outBn_no HD.out (hb5)
        have hnI : ¬ (xn : Int) = 0 := by omega
        have hnB : ((xn : Int) == 0) = false := by rw [beq_eq_false_iff_ne]; exact hnI
        have HGd := Lib.hid (refGood_n xn xs HOk5.out.1 xA xc w5 HOk5.out.2.2 (by have := HSm.out.1; omega))
        obtain ⟨gd, hgd⟩ : ∃ g, goodB xs = g := ⟨_, rfl⟩
        rw [hgd] at HGd
        have HGG := Lib.hid hgd
        clear hgd
        go_wp2_with fail
        refine HGd.out.mono ?_
        rintro e w6 ⟨rfl, g6⟩
        have hb6 := hb5.trans (g6.mono hsz5)
        have HO56 := Lib.hid (own_below HO5.out g6)
        clear HGd g6
        cases gd with
        | false =>
          have HD : Hid (bgs (nds L) = none) := Lib.hid (HNo1.out (by rw [HLb.out]; (try simp only []); rw [HGG.out, Bool.and_false]))
          clear HNo1 HNo2 HYes
          go_wp2_with fail
          go_ret
          exact outBn_no HD.out (hb6)
        | true =>
          have hs66 := hb6.size
          have HY : Hid (bgs ((nds L).take (k + 1)) = some (bs ++ [k])) := Lib.hid (HYes.out _ (by rw [HLb.out]; (try simp only []); rw [HGG.out, HEm.out, decide_eq_false hn0]; rfl) (by rw [stepB_leaf_yes (by simp) ⟨rfl, rfl⟩, HBL.out]))
          clear HNo1 HNo2 HYes
          have HR6 := Lib.hid (lit_nat w6 k)
          have HO6 := Lib.hid (own_below HO56.out (below_new w6 (.cells #[.int .i64 (k : Nat)] 3)))
          have b6 := hb6.alloc hb6.size (.cells #[.int .i64 (k : Nat)] 3)
          have hs6 := b6.size
          have HOne := Lib.hid (nats_one [k])
          have HNil : Hid ((some ⟨w6.heap.size, 0, none⟩ : Option Addr) = none → (1 : Nat) = 0) := Lib.hid (fun h => by cases h)
          go_wp2_with (at_builtin; refine wpList_append_src rfl _ _ 26 rfl w.heap.size 3 i0 _ 1 8 Try.underlying26 hi0 hz0 hz1 hz2 rfl (by decide) _ _ _ rfl HO6.out (some ⟨w6.heap.size, 0, none⟩) 1 1 (w6.heap.size + 1) (nats [k]) rfl HNil.out HR6.out HOne.out ?c3 ?c4 (by omega) ?_)
          case c3 => unfold maxLen; omega
          case c4 => omega
          intro A7 c7 w7 hown7 hnil7 hgrow7
          have HO7 : Hid (w7.ownsRow w.heap.size 3 1 (.slice A7 (k + 1) c7) (k + 1) (nats (bs ++ [k]))) := Lib.hid (by rw [nats_app]; exact hown7)
          have HB7 : Hid (Below w.heap.size w w7) := Lib.hid (below_grown b6 hs6 HO6.out hgrow7)
          have HL7 : Hid ((bs ++ [k]).length = k + 1) := Lib.hid (by simp [HBL.out])
          clear hown7 hnil7 hgrow7 HR6 HO6 HOne HNil b6
          go_wp2_with fail
          go_roundw
          case rel => exact ⟨k + 1, c7, A7, bs ++ [k], by omega, by go_num, by go_num, HB7, HY, HL7, HO7⟩
          case measure => simp [intOf]; omega
      have h2n : (xk != 2) = true := by rw [bne_iff_ne]; exact h2
      have HLb := Lib.hid (labB_bare (x := ⟨xk, xa, xb, xs, xm⟩) h2)
      by_cases hn0 : xn = 0
      case neg =>
        have hnI : (0 : Int) < (xn : Int) := by omega
        have HD : Hid (bgs (nds L) = none) := Lib.hid (HNo1.out (by rw [HLb.out]; (try simp only []); rw [HEm.out, decide_eq_false hn0]; rfl))
        clear HNo1 HNo2 HYes
        go_wp2_with fail
        go_ret
        exact outBn_no HD.out (hb5)
      subst hn0
      have hm2 := noM_l xm
      obtain ⟨nm, hnm⟩ : ∃ g, noM xm = g := ⟨_, rfl⟩
      rw [hnm] at hm2
      have HNm := Lib.hid hnm
      clear hnm
      cases nm with
      | false =>
        have HD : Hid (bgs (nds L) = none) := Lib.hid (HNo1.out (by rw [HLb.out]; (try simp only []); rw [HNm.out, Bool.and_false]))
        clear HNo1 HNo2 HYes
        go_wp2_with fail
        go_ret
        exact outBn_no HD.out (hb5)
      | true =>
      have HLt : Hid (labB ⟨xk, xa, xb, xs, xm⟩ = true) := Lib.hid (by rw [HLb.out]; (try simp only []); rw [HNm.out, HEm.out]; rfl)
      clear HLb HNm
      by_cases hk0 : xk = 0
      case pos =>
        subst hk0
        by_cases ha : xa = 0
        case neg =>
          have ha2 : (xa == 0) = false := by rw [beq_eq_false_iff_ne]; exact ha
          have ha3 : (xa != 0) = true := by rw [bne_iff_ne]; exact ha
          have HD : Hid (bgs (nds L) = none) := Lib.hid (HNo2.out (stepB_leaf_no (by simp) (fun h => ha h.1)))
          clear HNo1 HNo2 HYes
          go_wp2_with fail
          go_ret
          exact outBn_no HD.out (hb5)
        subst ha
        by_cases hbz : xb = 0
        case neg =>
          have ha2 : (xb == 0) = false := by rw [beq_eq_false_iff_ne]; exact hbz
          have ha3 : (xb != 0) = true := by rw [bne_iff_ne]; exact hbz
          have HD : Hid (bgs (nds L) = none) := Lib.hid (HNo2.out (stepB_leaf_no (by simp) (fun h => hbz h.2)))
          clear HNo1 HNo2 HYes
          go_wp2_with fail
          go_ret
          exact outBn_no HD.out (hb5)
        subst hbz
        have HY : Hid (bgs ((nds L).take (k + 1)) = some (bs ++ [k])) := Lib.hid (HYes.out _ (HLt.out) (by rw [stepB_leaf_yes (by simp) ⟨rfl, rfl⟩, HBL.out]))
        clear HNo1 HNo2 HYes
        have HR6 := Lib.hid (lit_nat w5 k)
        have HO6 := Lib.hid (own_below HO5.out (below_new w5 (.cells #[.int .i64 (k : Nat)] 3)))
        have b6 := hb5.alloc hb5.size (.cells #[.int .i64 (k : Nat)] 3)
        have hs6 := b6.size
        have HOne := Lib.hid (nats_one [k])
        have HNil : Hid ((some ⟨w5.heap.size, 0, none⟩ : Option Addr) = none → (1 : Nat) = 0) := Lib.hid (fun h => by cases h)
        go_wp2_with (at_builtin; refine wpList_append_src rfl _ _ 26 rfl w.heap.size 3 i0 _ 1 8 Try.underlying26 hi0 hz0 hz1 hz2 rfl (by decide) _ _ _ rfl HO6.out (some ⟨w5.heap.size, 0, none⟩) 1 1 (w5.heap.size + 1) (nats [k]) rfl HNil.out HR6.out HOne.out ?c3 ?c4 (by omega) ?_)
        case c3 => unfold maxLen; omega
        case c4 => omega
        intro A7 c7 w7 hown7 hnil7 hgrow7
        have HO7 : Hid (w7.ownsRow w.heap.size 3 1 (.slice A7 (k + 1) c7) (k + 1) (nats (bs ++ [k]))) := Lib.hid (by rw [nats_app]; exact hown7)
        have HB7 : Hid (Below w.heap.size w w7) := Lib.hid (below_grown b6 hs6 HO6.out hgrow7)
        have HL7 : Hid ((bs ++ [k]).length = k + 1) := Lib.hid (by simp [HBL.out])
        clear hown7 hnil7 hgrow7 HR6 HO6 HOne HNil b6
        go_wp2_with fail
        go_roundw
        case rel => exact ⟨k + 1, c7, A7, bs ++ [k], by omega, by go_num, by go_num, HB7, HY, HL7, HO7⟩
        case measure => simp [intOf]; omega
      by_cases hk1 : xk = 1
      case pos =>
        subst hk1
        by_cases ha : xa = 0
        case neg =>
          have ha2 : (xa == 0) = false := by rw [beq_eq_false_iff_ne]; exact ha
          have ha3 : (xa != 0) = true := by rw [bne_iff_ne]; exact ha
          have HD : Hid (bgs (nds L) = none) := Lib.hid (HNo2.out (stepB_leaf_no (by simp) (fun h => ha h.1)))
          clear HNo1 HNo2 HYes
          go_wp2_with fail
          go_ret
          exact outBn_no HD.out (hb5)
        subst ha
        by_cases hbz : xb = 0
        case neg =>
          have ha2 : (xb == 0) = false := by rw [beq_eq_false_iff_ne]; exact hbz
          have ha3 : (xb != 0) = true := by rw [bne_iff_ne]; exact hbz
          have HD : Hid (bgs (nds L) = none) := Lib.hid (HNo2.out (stepB_leaf_no (by simp) (fun h => hbz h.2)))
          clear HNo1 HNo2 HYes
          go_wp2_with fail
          go_ret
          exact outBn_no HD.out (hb5)
        subst hbz
        have HY : Hid (bgs ((nds L).take (k + 1)) = some (bs ++ [k])) := Lib.hid (HYes.out _ (HLt.out) (by rw [stepB_leaf_yes (by simp) ⟨rfl, rfl⟩, HBL.out]))
        clear HNo1 HNo2 HYes
        have HR6 := Lib.hid (lit_nat w5 k)
        have HO6 := Lib.hid (own_below HO5.out (below_new w5 (.cells #[.int .i64 (k : Nat)] 3)))
        have b6 := hb5.alloc hb5.size (.cells #[.int .i64 (k : Nat)] 3)
        have hs6 := b6.size
        have HOne := Lib.hid (nats_one [k])
        have HNil : Hid ((some ⟨w5.heap.size, 0, none⟩ : Option Addr) = none → (1 : Nat) = 0) := Lib.hid (fun h => by cases h)
        go_wp2_with (at_builtin; refine wpList_append_src rfl _ _ 26 rfl w.heap.size 3 i0 _ 1 8 Try.underlying26 hi0 hz0 hz1 hz2 rfl (by decide) _ _ _ rfl HO6.out (some ⟨w5.heap.size, 0, none⟩) 1 1 (w5.heap.size + 1) (nats [k]) rfl HNil.out HR6.out HOne.out ?c3 ?c4 (by omega) ?_)
        case c3 => unfold maxLen; omega
        case c4 => omega
        intro A7 c7 w7 hown7 hnil7 hgrow7
        have HO7 : Hid (w7.ownsRow w.heap.size 3 1 (.slice A7 (k + 1) c7) (k + 1) (nats (bs ++ [k]))) := Lib.hid (by rw [nats_app]; exact hown7)
        have HB7 : Hid (Below w.heap.size w w7) := Lib.hid (below_grown b6 hs6 HO6.out hgrow7)
        have HL7 : Hid ((bs ++ [k]).length = k + 1) := Lib.hid (by simp [HBL.out])
        clear hown7 hnil7 hgrow7 HR6 HO6 HOne HNil b6
        go_wp2_with fail
        go_roundw
        case rel => exact ⟨k + 1, c7, A7, bs ++ [k], by omega, by go_num, by go_num, HB7, HY, HL7, HO7⟩
        case measure => simp [intOf]; omega
      by_cases hk5 : xk = 5
      case pos =>
        subst hk5
        by_cases h00 : k = 0
        case pos =>
          have HNl : Hid (bs = []) := Lib.hid (List.eq_nil_of_length_eq_zero (by have := HBL.out; omega))
          subst h00
          have HD : Hid (bgs (nds L) = none) := Lib.hid (HNo2.out (by rw [HNl.out]; exact stepB_nil (by simp)))
          clear HNo1 HNo2 HYes
          go_wp2_with fail
          go_ret
          exact outBn_no HD.out (hb5)
        have hkI : ¬ (k : Int) = 0 := by omega
        have hkB : ((k : Int) == 0) = false := by rw [beq_eq_false_iff_ne]; exact hkI
        obtain ⟨j, hj⟩ : ∃ j, k = j + 1 := ⟨k - 1, by omega⟩
        have HJ := Lib.hid hj
        have hjb : j < bs.length := by have := HBL.out; omega
        have hjk : j < k := by omega
        have hk1 : 1 ≤ k := by omega
        have fj : IntKind.i64.wrap ((k : Int) - 1) = (j : Int) := by rw [IntWalk.i64_in _ (by omega)]; omega
        have hjI : (j : Int) < (k : Int) := by omega
        have hj0 : (0 : Int) ≤ (j : Int) := by omega
        obtain ⟨g2, o2, rfl, _, r0⟩ := nats_at (Reads.of_own HO5.out) (k := j) (by have := HBL.out; omega)
        have hzj := HLE.out j (by have := HBL.out; omega)
        have HSt : Hid (stepB bs ⟨5, xa, xb, xs, xm⟩ = if xa = (j : Int) ∧ xb = 0 then some bs[j] else none) := Lib.hid (by
          have h := stepB_star (x := ⟨5, xa, xb, xs, xm⟩) rfl (getLast_at (i := j) (by rw [HBL.out, HJ.out]))
          rw [h]
          simp only []
          rw [show ((bs.length : Int) - 1) = (j : Int) by have h1 := HBL.out; have h2 := HJ.out; omega])
        generalize bs[j] = z at *
        clear hj h00
        by_cases ha : xa = (j : Int)
        case neg =>
          have ha3 : (xa != (j : Int)) = true := by rw [bne_iff_ne]; exact ha
          have HD : Hid (bgs (nds L) = none) := Lib.hid (HNo2.out (by rw [HSt.out, if_neg (fun h => ha h.1)]))
          clear HNo1 HNo2 HYes
          go_wp2_with fail
          go_ret
          exact outBn_no HD.out (hb5)
        subst ha
        have na3 : ((j : Int) != (j : Int)) = false := by simp
        by_cases hbz : xb = 0
        case neg =>
          have ha3 : (xb != 0) = true := by rw [bne_iff_ne]; exact hbz
          have HD : Hid (bgs (nds L) = none) := Lib.hid (HNo2.out (by rw [HSt.out, if_neg (fun h => hbz h.2)]))
          clear HNo1 HNo2 HYes
          go_wp2_with fail
          go_ret
          exact outBn_no HD.out (hb5)
        subst hbz
        have HY : Hid (bgs ((nds L).take (k + 1)) = some (bs ++ [z])) := Lib.hid (HYes.out _ (HLt.out) (by rw [HSt.out, if_pos ⟨rfl, rfl⟩]))
        clear HNo1 HNo2 HYes
        have HR6 := Lib.hid (lit_nat w5 z)
        have HO6 := Lib.hid (own_below HO5.out (below_new w5 (.cells #[.int .i64 (z : Nat)] 3)))
        have b6 := hb5.alloc hb5.size (.cells #[.int .i64 (z : Nat)] 3)
        have hs6 := b6.size
        have HOne := Lib.hid (nats_one [z])
        have HNil : Hid ((some ⟨w5.heap.size, 0, none⟩ : Option Addr) = none → (1 : Nat) = 0) := Lib.hid (fun h => by cases h)
        go_wp2_with (at_builtin; refine wpList_append_src rfl _ _ 26 rfl w.heap.size 3 i0 _ 1 8 Try.underlying26 hi0 hz0 hz1 hz2 rfl (by decide) _ _ _ rfl HO6.out (some ⟨w5.heap.size, 0, none⟩) 1 1 (w5.heap.size + 1) (nats [z]) rfl HNil.out HR6.out HOne.out ?c3 ?c4 (by omega) ?_)
        case c3 => unfold maxLen; omega
        case c4 => omega
        intro A7 c7 w7 hown7 hnil7 hgrow7
        have HO7 : Hid (w7.ownsRow w.heap.size 3 1 (.slice A7 (k + 1) c7) (k + 1) (nats (bs ++ [z]))) := Lib.hid (by rw [nats_app]; exact hown7)
        have HB7 : Hid (Below w.heap.size w w7) := Lib.hid (below_grown b6 hs6 HO6.out hgrow7)
        have HL7 : Hid ((bs ++ [z]).length = k + 1) := Lib.hid (by simp [HBL.out])
        clear hown7 hnil7 hgrow7 HR6 HO6 HOne HNil b6
        go_wp2_with fail
        go_roundw
        case rel => exact ⟨k + 1, c7, A7, bs ++ [z], by omega, by go_num, by go_num, HB7, HY, HL7, HO7⟩
        case measure => simp [intOf]; omega
      by_cases hk3 : xk = 3
      case pos =>
        subst hk3
        by_cases h00 : k < 2
        case pos =>
          have hkC : (k : Int) < 2 := by omega
          have hkD : decide ((k : Int) < 2) = true := decide_eq_true hkC
          have HD : Hid (bgs (nds L) = none) := Lib.hid (HNo2.out (by
              cases hb0 : bs with
              | nil => exact stepB_nil (by simp)
              | cons b1 r =>
                have hl := HBL.out
                rw [hb0] at hl
                have hr : r = [] := List.eq_nil_of_length_eq_zero (by simp at hl; omega)
                subst hr
                have h1 := HLE.out 0 (by rw [hb0]; simp)
                simp only [hb0, List.getElem_cons_zero] at h1
                rw [stepB_fork (z := b1) (by simp) rfl, if_neg (fun h => by have := h.2.1; omega)]))
          clear HNo1 HNo2 HYes
          go_wp2_with fail
          go_quiet (fail)
          go_wp2_with fail
          go_ret
          exact outBn_no HD.out (below_drewN hb5 _)
        have hkC : ¬ (k : Int) < 2 := by omega
        have hkD : decide ((k : Int) < 2) = false := decide_eq_false hkC
        obtain ⟨j, hj⟩ : ∃ j, k = j + 1 := ⟨k - 1, by omega⟩
        have HJ := Lib.hid hj
        have hjb : j < bs.length := by have := HBL.out; omega
        have hjk : j < k := by omega
        have hk1 : 1 ≤ k := by omega
        have fj : IntKind.i64.wrap ((k : Int) - 1) = (j : Int) := by rw [IntWalk.i64_in _ (by omega)]; omega
        have hjI : (j : Int) < (k : Int) := by omega
        have hj0 : (0 : Int) ≤ (j : Int) := by omega
        obtain ⟨g2, o2, rfl, _, r0⟩ := nats_at (Reads.of_own HO5.out) (k := j) (by have := HBL.out; omega)
        have hzj := HLE.out j (by have := HBL.out; omega)
        have HSt : Hid (stepB bs ⟨3, xa, xb, xs, xm⟩ = if xb = (j : Int) ∧ 0 < bs[j] ∧ xa = (bs[j] : Int) - 1 then bs[bs[j] - 1]? else none) := Lib.hid (by
          have h := stepB_fork (x := ⟨3, xa, xb, xs, xm⟩) (by simp) (getLast_at (i := j) (by rw [HBL.out, HJ.out]))
          rw [h]
          simp only []
          rw [show ((bs.length : Int) - 1) = (j : Int) by have h1 := HBL.out; have h2 := HJ.out; omega])
        have HZ : Hid (∀ z, bs[j] = z → 0 < z → ∃ y, bs[z - 1]? = some y ∧ w5.cell? ⟨g2, o2 + (z - 1), none⟩ = some (.int .i64 (y : Nat))) := Lib.hid (fun z hz hp => by
          obtain ⟨g', o', e', _, r1⟩ := nats_at (Reads.of_own HO5.out) (k := z - 1) (by have := HBL.out; omega)
          injection e' with e'
          injection e' with e1 e2
          subst e1 e2
          exact ⟨_, List.getElem?_eq_getElem (by have := HBL.out; omega), r1⟩)
        generalize bs[j] = z at *
        have fz : IntKind.i64.wrap ((z : Int) - 1) = (z : Int) - 1 := IntWalk.i64_in _ (by omega)
        clear hj h00
        by_cases hbj : xb = (j : Int)
        case neg =>
          have ha3 : (xb != (j : Int)) = true := by rw [bne_iff_ne]; exact hbj
          have HD : Hid (bgs (nds L) = none) := Lib.hid (HNo2.out (by rw [HSt.out, if_neg (fun h => hbj h.1)]))
          clear HNo1 HNo2 HYes
          go_wp2_with fail
          go_quiet (fail)
          go_wp2_with fail
          go_ret
          exact outBn_no HD.out (below_drewN hb5 _)
        subst hbj
        have nb3 : ((j : Int) != (j : Int)) = false := by simp
        by_cases hzz0 : z = 0
        case pos =>
          subst hzz0
          have HD : Hid (bgs (nds L) = none) := Lib.hid (HNo2.out (by rw [HSt.out, if_neg (fun h => by have := h.2.1; omega)]))
          clear HNo1 HNo2 HYes
          go_wp2_with fail
          go_quiet (fail)
          go_wp2_with fail
          go_ret
          exact outBn_no HD.out (below_drewN hb5 _)
        have hzq1 : ¬ ((z : Int) < 1) := by omega
        have hzq2 : decide ((z : Int) < 1) = false := decide_eq_false hzq1
        by_cases ha : xa = (z : Int) - 1
        case neg =>
          have ha3 : (xa != (z : Int) - 1) = true := by rw [bne_iff_ne]; exact ha
          have HD : Hid (bgs (nds L) = none) := Lib.hid (HNo2.out (by rw [HSt.out, if_neg (fun h => ha h.2.2)]))
          clear HNo1 HNo2 HYes
          go_wp2_with fail
          go_quiet (fail)
          go_wp2_with fail
          go_ret
          exact outBn_no HD.out (below_drewN hb5 _)
        obtain ⟨y, hy1, hy2⟩ := HZ.out z rfl (by omega)
        have HSy : Hid (stepB bs ⟨3, xa, (j : Int), xs, xm⟩ = some y) := Lib.hid (by rw [HSt.out, if_pos ⟨rfl, by omega, ha⟩, hy1])
        obtain ⟨v, rfl⟩ : ∃ v : Nat, xa = (v : Int) := ⟨z - 1, by omega⟩
        have hv : z - 1 = v := by omega
        rw [hv] at hy2
        have fz' : IntKind.i64.wrap ((z : Int) - 1) = (v : Int) := by rw [fz]; omega
        have nv : ((v : Int) != (v : Int)) = false := by simp
        have v1 : (v : Int) < (k : Int) := by omega
        have v2 : v < k := by omega
        clear fz ha hv HSt HZ hy1
        go_wp2_with fail
        go_quiet (fail)
        have HO56 : Hid ((w5.drewN nq).ownsRow w.heap.size 3 1 (.slice (some ⟨g2, o2, none⟩) k c2) k (nats bs)) := Lib.hid HO5.out
        have hb6 := below_drewN hb5 nq
        have hy2 : (w5.drewN nq).cell? ⟨g2, o2 + v, none⟩ = some (.int .i64 (y : Nat)) := hy2
        have q1 : (w5.drewN nq).cell? ⟨gb, 1, none⟩ = some (.int .i64 (v : Nat)) := q1
        generalize w5.drewN nq = w6 at *
        have HY : Hid (bgs ((nds L).take (k + 1)) = some (bs ++ [y])) := Lib.hid (HYes.out _ (HLt.out) (HSy.out))
        clear HNo1 HNo2 HYes
        have HR6 := Lib.hid (lit_nat w6 y)
        have HO6 := Lib.hid (own_below HO56.out (below_new w6 (.cells #[.int .i64 (y : Nat)] 3)))
        have b6 := hb6.alloc hb6.size (.cells #[.int .i64 (y : Nat)] 3)
        have hs6 := b6.size
        have HOne := Lib.hid (nats_one [y])
        have HNil : Hid ((some ⟨w6.heap.size, 0, none⟩ : Option Addr) = none → (1 : Nat) = 0) := Lib.hid (fun h => by cases h)
        go_wp2_with (at_builtin; refine wpList_append_src rfl _ _ 26 rfl w.heap.size 3 i0 _ 1 8 Try.underlying26 hi0 hz0 hz1 hz2 rfl (by decide) _ _ _ rfl HO6.out (some ⟨w6.heap.size, 0, none⟩) 1 1 (w6.heap.size + 1) (nats [y]) rfl HNil.out HR6.out HOne.out ?c3 ?c4 (by omega) ?_)
        case c3 => unfold maxLen; omega
        case c4 => omega
        intro A7 c7 w7 hown7 hnil7 hgrow7
        have HO7 : Hid (w7.ownsRow w.heap.size 3 1 (.slice A7 (k + 1) c7) (k + 1) (nats (bs ++ [y]))) := Lib.hid (by rw [nats_app]; exact hown7)
        have HB7 : Hid (Below w.heap.size w w7) := Lib.hid (below_grown b6 hs6 HO6.out hgrow7)
        have HL7 : Hid ((bs ++ [y]).length = k + 1) := Lib.hid (by simp [HBL.out])
        clear hown7 hnil7 hgrow7 HR6 HO6 HOne HNil b6
        go_wp2_with fail
        go_roundw
        case rel => exact ⟨k + 1, c7, A7, bs ++ [y], by omega, by go_num, by go_num, HB7, HY, HL7, HO7⟩
        case measure => simp [intOf]; omega
      by_cases hk4 : xk = 4
      case pos =>
        subst hk4
        by_cases h00 : k < 2
        case pos =>
          have hkC : (k : Int) < 2 := by omega
          have hkD : decide ((k : Int) < 2) = true := decide_eq_true hkC
          have HD : Hid (bgs (nds L) = none) := Lib.hid (HNo2.out (by
              cases hb0 : bs with
              | nil => exact stepB_nil (by simp)
              | cons b1 r =>
                have hl := HBL.out
                rw [hb0] at hl
                have hr : r = [] := List.eq_nil_of_length_eq_zero (by simp at hl; omega)
                subst hr
                have h1 := HLE.out 0 (by rw [hb0]; simp)
                simp only [hb0, List.getElem_cons_zero] at h1
                rw [stepB_fork (z := b1) (by simp) rfl, if_neg (fun h => by have := h.2.1; omega)]))
          clear HNo1 HNo2 HYes
          go_wp2_with fail
          go_quiet (fail)
          go_wp2_with fail
          go_ret
          exact outBn_no HD.out (below_drewN hb5 _)
        have hkC : ¬ (k : Int) < 2 := by omega
        have hkD : decide ((k : Int) < 2) = false := decide_eq_false hkC
        obtain ⟨j, hj⟩ : ∃ j, k = j + 1 := ⟨k - 1, by omega⟩
        have HJ := Lib.hid hj
        have hjb : j < bs.length := by have := HBL.out; omega
        have hjk : j < k := by omega
        have hk1 : 1 ≤ k := by omega
        have fj : IntKind.i64.wrap ((k : Int) - 1) = (j : Int) := by rw [IntWalk.i64_in _ (by omega)]; omega
        have hjI : (j : Int) < (k : Int) := by omega
        have hj0 : (0 : Int) ≤ (j : Int) := by omega
        obtain ⟨g2, o2, rfl, _, r0⟩ := nats_at (Reads.of_own HO5.out) (k := j) (by have := HBL.out; omega)
        have hzj := HLE.out j (by have := HBL.out; omega)
        have HSt : Hid (stepB bs ⟨4, xa, xb, xs, xm⟩ = if xb = (j : Int) ∧ 0 < bs[j] ∧ xa = (bs[j] : Int) - 1 then bs[bs[j] - 1]? else none) := Lib.hid (by
          have h := stepB_fork (x := ⟨4, xa, xb, xs, xm⟩) (by simp) (getLast_at (i := j) (by rw [HBL.out, HJ.out]))
          rw [h]
          simp only []
          rw [show ((bs.length : Int) - 1) = (j : Int) by have h1 := HBL.out; have h2 := HJ.out; omega])
        have HZ : Hid (∀ z, bs[j] = z → 0 < z → ∃ y, bs[z - 1]? = some y ∧ w5.cell? ⟨g2, o2 + (z - 1), none⟩ = some (.int .i64 (y : Nat))) := Lib.hid (fun z hz hp => by
          obtain ⟨g', o', e', _, r1⟩ := nats_at (Reads.of_own HO5.out) (k := z - 1) (by have := HBL.out; omega)
          injection e' with e'
          injection e' with e1 e2
          subst e1 e2
          exact ⟨_, List.getElem?_eq_getElem (by have := HBL.out; omega), r1⟩)
        generalize bs[j] = z at *
        have fz : IntKind.i64.wrap ((z : Int) - 1) = (z : Int) - 1 := IntWalk.i64_in _ (by omega)
        clear hj h00
        by_cases hbj : xb = (j : Int)
        case neg =>
          have ha3 : (xb != (j : Int)) = true := by rw [bne_iff_ne]; exact hbj
          have HD : Hid (bgs (nds L) = none) := Lib.hid (HNo2.out (by rw [HSt.out, if_neg (fun h => hbj h.1)]))
          clear HNo1 HNo2 HYes
          go_wp2_with fail
          go_quiet (fail)
          go_wp2_with fail
          go_ret
          exact outBn_no HD.out (below_drewN hb5 _)
        subst hbj
        have nb3 : ((j : Int) != (j : Int)) = false := by simp
        by_cases hzz0 : z = 0
        case pos =>
          subst hzz0
          have HD : Hid (bgs (nds L) = none) := Lib.hid (HNo2.out (by rw [HSt.out, if_neg (fun h => by have := h.2.1; omega)]))
          clear HNo1 HNo2 HYes
          go_wp2_with fail
          go_quiet (fail)
          go_wp2_with fail
          go_ret
          exact outBn_no HD.out (below_drewN hb5 _)
        have hzq1 : ¬ ((z : Int) < 1) := by omega
        have hzq2 : decide ((z : Int) < 1) = false := decide_eq_false hzq1
        by_cases ha : xa = (z : Int) - 1
        case neg =>
          have ha3 : (xa != (z : Int) - 1) = true := by rw [bne_iff_ne]; exact ha
          have HD : Hid (bgs (nds L) = none) := Lib.hid (HNo2.out (by rw [HSt.out, if_neg (fun h => ha h.2.2)]))
          clear HNo1 HNo2 HYes
          go_wp2_with fail
          go_quiet (fail)
          go_wp2_with fail
          go_ret
          exact outBn_no HD.out (below_drewN hb5 _)
        obtain ⟨y, hy1, hy2⟩ := HZ.out z rfl (by omega)
        have HSy : Hid (stepB bs ⟨4, xa, (j : Int), xs, xm⟩ = some y) := Lib.hid (by rw [HSt.out, if_pos ⟨rfl, by omega, ha⟩, hy1])
        obtain ⟨v, rfl⟩ : ∃ v : Nat, xa = (v : Int) := ⟨z - 1, by omega⟩
        have hv : z - 1 = v := by omega
        rw [hv] at hy2
        have fz' : IntKind.i64.wrap ((z : Int) - 1) = (v : Int) := by rw [fz]; omega
        have nv : ((v : Int) != (v : Int)) = false := by simp
        have v1 : (v : Int) < (k : Int) := by omega
        have v2 : v < k := by omega
        clear fz ha hv HSt HZ hy1
        go_wp2_with fail
        go_quiet (fail)
        have HO56 : Hid ((w5.drewN nq).ownsRow w.heap.size 3 1 (.slice (some ⟨g2, o2, none⟩) k c2) k (nats bs)) := Lib.hid HO5.out
        have hb6 := below_drewN hb5 nq
        have hy2 : (w5.drewN nq).cell? ⟨g2, o2 + v, none⟩ = some (.int .i64 (y : Nat)) := hy2
        have q1 : (w5.drewN nq).cell? ⟨gb, 1, none⟩ = some (.int .i64 (v : Nat)) := q1
        generalize w5.drewN nq = w6 at *
        have HY : Hid (bgs ((nds L).take (k + 1)) = some (bs ++ [y])) := Lib.hid (HYes.out _ (HLt.out) (HSy.out))
        clear HNo1 HNo2 HYes
        have HR6 := Lib.hid (lit_nat w6 y)
        have HO6 := Lib.hid (own_below HO56.out (below_new w6 (.cells #[.int .i64 (y : Nat)] 3)))
        have b6 := hb6.alloc hb6.size (.cells #[.int .i64 (y : Nat)] 3)
        have hs6 := b6.size
        have HOne := Lib.hid (nats_one [y])
        have HNil : Hid ((some ⟨w6.heap.size, 0, none⟩ : Option Addr) = none → (1 : Nat) = 0) := Lib.hid (fun h => by cases h)
        go_wp2_with (at_builtin; refine wpList_append_src rfl _ _ 26 rfl w.heap.size 3 i0 _ 1 8 Try.underlying26 hi0 hz0 hz1 hz2 rfl (by decide) _ _ _ rfl HO6.out (some ⟨w6.heap.size, 0, none⟩) 1 1 (w6.heap.size + 1) (nats [y]) rfl HNil.out HR6.out HOne.out ?c3 ?c4 (by omega) ?_)
        case c3 => unfold maxLen; omega
        case c4 => omega
        intro A7 c7 w7 hown7 hnil7 hgrow7
        have HO7 : Hid (w7.ownsRow w.heap.size 3 1 (.slice A7 (k + 1) c7) (k + 1) (nats (bs ++ [y]))) := Lib.hid (by rw [nats_app]; exact hown7)
        have HB7 : Hid (Below w.heap.size w w7) := Lib.hid (below_grown b6 hs6 HO6.out hgrow7)
        have HL7 : Hid ((bs ++ [y]).length = k + 1) := Lib.hid (by simp [HBL.out])
        clear hown7 hnil7 hgrow7 HR6 HO6 HOne HNil b6
        go_wp2_with fail
        go_roundw
        case rel => exact ⟨k + 1, c7, A7, bs ++ [y], by omega, by go_num, by go_num, HB7, HY, HL7, HO7⟩
        case measure => simp [intOf]; omega
      have HD : Hid (bgs (nds L) = none) := Lib.hid (HNo2.out (stepB_other (by simp only []; omega) hk5 (by simp only []; omega)))
      clear HNo1 HNo2 HYes
      go_wp2_with fail
      go_ret
      exact outBn_no HD.out (hb5)
    · obtain rfl : n = k := by omega
      have hnI : ¬ ((n : Int) < (n : Int)) := by omega
      have HD : Hid (bgs (nds L) = some bs) := Lib.hid (by
        have h := HB.out
        rwa [List.take_of_length_le (by rw [nds_len, HL.out]; exact Nat.le_refl _)] at h)
      go_wp2_with fail
      go_ret
      exact ⟨A2, n, c2, rfl, by rw [HD.out]; exact HBL.out, by rw [HD.out]; exact HO.out, HBb.out⟩

set_option maxHeartbeats 4000000 in
theorem refGoodT_any (L : List NV) (A : Option Addr) (n c : Nat) (w : World) (hT : RT w w.heap.size A n L) (hS : SmT L) (hn : n ≤ 1000000) :
    Calls Try.prog 21 #[.slice A n c] w fun e w' => e = .returned (.bool (treeB (nds L))) ∧ Below w.heap.size w w' := by
  have hl := hT.1
  by_cases h0 : n = 0
  · subst h0
    have HD : Hid (treeB (nds L) = false) := Lib.hid (by rw [List.eq_nil_of_length_eq_zero hl]; rfl)
    clear hT hl
    go_enter Try.func21, Try.ntmps21
    go_wp2_with fail
    go_ret
    exact ⟨ret_bool HD.out.symm, Below.refl _ _⟩
  have h0I : ¬ (n : Int) < 1 := by omega
  by_cases h4 : 40000 < n
  · have HD : Hid (treeB (nds L) = false) := Lib.hid (treeB_long (by rw [nds_len, hl]; exact h4))
    have h4I : (40000 : Int) < (n : Int) := by omega
    clear hT hl
    go_enter Try.func21, Try.ntmps21
    go_wp2_with fail
    go_ret
    exact ⟨ret_bool HD.out.symm, Below.refl _ _⟩
  have h4I : ¬ (40000 : Int) < (n : Int) := by omega
  have HBn := Lib.hid (refBegin_any L A n c w hT hS hn)
  obtain ⟨m, hm⟩ : ∃ m, n = m + 1 := ⟨n - 1, by omega⟩
  have fm : IntKind.i64.wrap ((n : Int) - 1) = (m : Int) := by rw [IntWalk.i64_in _ (by omega)]; omega
  have HE : Hid (∀ bs, bgs (nds L) = some bs → bs.length = n ∧ treeB (nds L) = decide (bs[m]?.getD 0 = 0)) := Lib.hid (fun bs h => ⟨by rw [bgs_len _ _ h, nds_len, hl], treeB_end (by rw [nds_len, hl, hm]) (by omega) h⟩)
  have hmI : (m : Int) < (n : Int) := by omega
  have hmn : m < n := by omega
  clear hT hl hS hm
  go_enter Try.func21, Try.ntmps21
  go_wp2_with fail
  refine HBn.out.mono ?_
  rintro e w1 ⟨A1, m1, c1, rfl, hl1, o1, b1⟩
  obtain ⟨o, ho⟩ : ∃ o, bgs (nds L) = o := ⟨_, rfl⟩
  rw [ho] at hl1 o1
  have HO := Lib.hid ho
  clear ho HBn
  cases o with
  | none =>
    have HD : Hid (treeB (nds L) = false) := Lib.hid (treeB_none HO.out)
    simp only [Option.getD_none, List.length_nil] at hl1
    subst hl1
    have h0B : ((0 : Int) == (n : Int)) = false := by rw [beq_eq_false_iff_ne]; omega
    clear HE o1
    go_wp2_with fail
    go_ret
    exact ⟨ret_bool HD.out.symm, b1⟩
  | some bs =>
    obtain ⟨hbl, hbt⟩ := HE.out bs HO.out
    simp only [Option.getD_some] at hl1 o1
    obtain rfl : m1 = n := by omega
    obtain ⟨g, off, rfl, _, p0⟩ := nats_at (Reads.of_own o1) (k := m) (by omega)
    have HD : Hid (treeB (nds L) = decide (bs[m] = 0)) := Lib.hid (by rw [hbt, List.getElem?_eq_getElem (by omega)]; rfl)
    clear hbt
    have hmb : m < bs.length := by omega
    generalize bs[m] = y at *
    have e0 : ((m1 : Int) == (m1 : Int)) = true := by simp
    clear HE o1
    by_cases hy : y = 0
    · subst hy
      go_wp2_with fail
      go_ret
      exact ⟨ret_bool HD.out.symm, b1⟩
    · have hyI : ((y : Int) == 0) = false := by rw [beq_eq_false_iff_ne]; omega
      have HD3 : Hid (treeB (nds L) = false) := Lib.hid (by rw [HD.out, decide_eq_false hy])
      clear HD
      go_wp2_with fail
      go_ret
      exact ⟨ret_bool HD3.out.symm, b1⟩
end Go.Proofs.Ytfpiackfhdiapaa.S
