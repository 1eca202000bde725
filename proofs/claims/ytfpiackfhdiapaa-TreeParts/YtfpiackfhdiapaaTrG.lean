/- What Good of package tree returns. -/
import Derived.Test.YtfpiackfhdiapaaTrB
namespace Go.Proofs.Ytfpiackfhdiapaa.S
open Go.RowKit Go.BigFrame
set_option linter.unusedVariables false
set_option linter.unusedSimpArgs false

theorem nds_at {L : List NV} {k : Nat} (hk : k < L.length) : (nds L)[k]'(by rw [nds_len]; exact hk) = L[k].nd := by simp [nds]
theorem nds_take_succ {L : List NV} {k : Nat} (hk : k < L.length) : (nds L).take (k + 1) = (nds L).take k ++ [L[k].nd] := by
  rw [List.take_succ_eq_append_getElem (by rw [nds_len]; exact hk), nds_at hk]
theorem bgs_cut {t : List Nd} {k : Nat} (h : bgs (t.take k) = none) : bgs t = none := by
  rw [← List.take_append_drop k t]
  exact bgs_app_none _ h
theorem treeB_none {t : List Nd} (h : bgs t = none) : treeB t = false := by unfold treeB; rw [h]; simp
theorem treeB_zero : treeB [] = false := rfl
theorem treeB_long {t : List Nd} (h : 40000 < t.length) : treeB t = false := by unfold treeB; rw [decide_eq_false (show ¬ t.length ≤ 40000 by omega)]; simp
theorem treeB_end {t : List Nd} {bs : List Nat} {n : Nat} (hl : t.length = n + 1) (hn : n + 1 ≤ 40000) (h : bgs t = some bs) : treeB t = decide (bs[n]?.getD 0 = 0) := by
  have hb := bgs_len _ _ h
  unfold treeB
  rw [decide_eq_true (by omega), decide_eq_true (by omega), h]
  simp only [Bool.true_and]
  rw [List.getLast?_eq_getElem?, hb, hl, Nat.add_sub_cancel, List.getElem?_eq_getElem (by omega)]
  simp only [Option.getD_some]
  by_cases hz : bs[n] = 0
  · rw [hz]; rfl
  · rw [decide_eq_false hz]; simp [hz]
/-- Where each node's tree begins is not behind it. -/
theorem bgs_le : ∀ (t : List Nd) (bs : List Nat), bgs t = some bs → ∀ j (h : j < bs.length), bs[j] ≤ j := by
  intro t bs h j hj
  obtain ⟨pre, e, post, _, _, g3, g4⟩ := parse t bs h j hj
  have := sz_pos e
  omega
theorem nextBg_no1 {bs : List Nat} {x : Nd} (h : stepB bs x = none) : nextBg (some bs) x = none := by unfold nextBg; simp only [Option.bind_some]; split <;> simp [h]
theorem nextBg_no2 {bs : List Nat} {x : Nd} (h : labB x = false) : nextBg (some bs) x = none := by unfold nextBg; simp only [Option.bind_some]; rw [if_neg (by rw [h]; decide)]
theorem nextBg_yes {bs : List Nat} {x : Nd} {y : Nat} (h : stepB bs x = some y) (h2 : labB x = true) : nextBg (some bs) x = some (bs ++ [y]) := by unfold nextBg; simp only [Option.bind_some]; rw [if_pos h2, h]; rfl
theorem icells_rep (m : Nat) : (madeCells #[Value.int .i64 0] m).toList = icells (List.replicate m 0) := by rw [toList_madeCells_one]; simp [icells]
theorem icells_set (l : List Int) (k : Nat) (y : Int) : (icells l).set k (.int .i64 y) = icells (l.set k y) := by unfold icells; rw [List.map_set]
/-- What has been laid, and noughts behind. -/
def padB (bs : List Nat) (n : Nat) : List Int := bs.map Int.ofNat ++ List.replicate (n - bs.length) 0
theorem padB_len {bs : List Nat} {n : Nat} (h : bs.length ≤ n) : (padB bs n).length = n := by simp [padB]; omega
theorem padB_at {bs : List Nat} {n k : Nat} (h : k < bs.length) : (padB bs n)[k]? = some (bs[k] : Int) := by
  unfold padB
  rw [List.getElem?_append_left (by simpa using h), List.getElem?_map, List.getElem?_eq_getElem h]
  rfl
theorem padB_set {bs : List Nat} {n k y : Nat} (h : bs.length = k) (hk : k < n) : (padB bs n).set k (y : Int) = padB (bs ++ [y]) n := by
  unfold padB
  rw [List.set_append_right _ _ (by simp [h])]
  obtain ⟨m, hm⟩ : ∃ m, n - bs.length = m + 1 := ⟨n - bs.length - 1, by omega⟩
  rw [hm, show n - (bs ++ [y]).length = m by simp; omega]
  simp [h, List.replicate_succ]
/-- The part of a row of one's own up to k. -/
theorem own_pad {w : World} {base g n cap : Nat} {bs : List Nat} (h : w.ownsRow base 3 1 (.slice (some ⟨g, 0, none⟩) n cap) n (icells (padB bs n))) (hb : bs.length ≤ n) (B : Nat) (hB : g < B) : Reads w B 1 (some ⟨g, 0, none⟩) bs.length (icells (bs.map Int.ofNat)) := by
  refine ⟨by simp [icells], fun hn => ⟨g, 0, rfl, hB, fun j u hj => ?_⟩⟩
  have hjl : j < bs.length := by
    have := (List.getElem?_eq_some_iff.1 hj).1
    simpa [icells] using this
  rw [Nat.zero_add, h.cellAt j (by omega)]
  unfold icells at hj ⊢
  rw [List.getElem?_map, padB_at hjl]
  rw [List.getElem?_map, List.getElem?_map, List.getElem?_eq_getElem hjl] at hj
  exact hj
set_option maxHeartbeats 4000000 in
theorem treeGood_any (L : List NV) (A : Option Addr) (n c : Nat) (w : World) (hT : RT w w.heap.size A n L) (hS : SmT L) (hn : n ≤ 1000000) :
    Calls Try.prog 20 #[.slice A n c] w fun e w' => e = .returned (.bool (treeB (nds L))) ∧ Below w.heap.size w w' := by
  have hl := hT.1
  by_cases h0 : n = 0
  · subst h0
    have HD : Hid (treeB (nds L) = false) := Lib.hid (by rw [List.eq_nil_of_length_eq_zero hl]; rfl)
    clear hT hl
    go_enter Try.func20, Try.ntmps20
    go_wp2_with fail
    go_ret
    exact ⟨ret_bool HD.out.symm, Below.refl _ _⟩
  have hp : ¬ (n : Int) = 0 := by omega
  by_cases h4 : 40000 < n
  · have HD : Hid (treeB (nds L) = false) := Lib.hid (treeB_long (by rw [nds_len, hl]; exact h4))
    have h4I : (40000 : Int) < (n : Int) := by omega
    clear hT hl
    go_enter Try.func20, Try.ntmps20
    go_wp2_with fail
    go_ret
    exact ⟨ret_bool HD.out.symm, Below.refl _ _⟩
  have h4I : ¬ (40000 : Int) < (n : Int) := by omega
  obtain ⟨m, rfl⟩ : ∃ m, n = m + 1 := ⟨n - 1, by omega⟩
  obtain ⟨i0, hi0, hz0, hz1, hz2⟩ := info_parts info3
  have HT := Lib.hid hT
  have HS := Lib.hid hS
  have HL := Lib.hid hl
  obtain ⟨n, hnn⟩ : ∃ n, n = m + 1 := ⟨_, rfl⟩
  rw [← hnn] at HT HL hp h4I hn ⊢
  have HN := Lib.hid hnn
  have hn4 : n ≤ 40000 := by omega
  have hn0 : 0 < n := by omega
  clear hT hS hl hnn h4 h0
  go_enter Try.func20, Try.ntmps20
  go_wp2_with (at_make; refine wpList_make_full _ rfl _ _ 26 rfl w.heap.size 3 i0 _ 1 Try.underlying26 hi0 hz0 hz1 .i64 .i64 n n n rfl rfl rfl rfl ?k1 ?k2 (Nat.le_refl _) ?_)
  case k1 => first | omega | (rw [hz2]; omega)
  case k2 => unfold maxLen; omega
  first | (intro w1 hown1 hgrow1) | (rename_i w1 hown1 hgrow1)
  have hb1 : Below w.heap.size w w1 := (Below.refl _ _).grown hgrow1 (Nat.le_refl _) (fun k hk => by cases hk)
  have HO : Hid (w1.ownsRow w.heap.size 3 1 (.slice (some ⟨w.heap.size, 0, none⟩) n n) n (icells (padB [] n))) := Lib.hid (by
    have h := hown1
    rw [icells_rep] at h
    simpa [padB] using h)
  clear hown1 hgrow1
  go_wp2_with fail
  go_loopw [21] (fun i wr => ∃ (k : Nat) (bs : List Nat), k ≤ n ∧ i = .int .i64 k ∧ Below w.heap.size w wr ∧ Hid (bgs ((nds L).take k) = some bs) ∧ Hid (bs.length = k) ∧ Hid (wr.ownsRow w.heap.size 3 1 (.slice (some ⟨w.heap.size, 0, none⟩) n n) n (icells (padB bs n)))) (fun i _ => n - (intOf i).toNat)
  case atStart => exact ⟨0, [], Nat.zero_le _, rfl, hb1, Lib.hid rfl, Lib.hid rfl, HO⟩
  case round =>
    clear HO hb1
    obtain ⟨k, bs, hk, rfl, hb, HB, HBL, HO⟩ := hrel
    have hsz := hb.size
    by_cases hlt : k < n
    · have kl : k < L.length := by rw [HL.out]; exact hlt
      have hzk : w.heap.size < wr.heap.size := (HO.out.lt _ rfl).2
      obtain ⟨b, o, rfl, hbb, p0, p1, p2, p3, p4, hok⟩ := ((HT.out.below hb).more hsz).at kl
      have HTk := Lib.hid (nds_take_succ kl)
      have HSm := Lib.hid (HS.out _ (List.getElem_mem kl))
      have HNx : Hid (bgs ((nds L).take (k + 1)) = nextBg (some bs) L[k].nd) := Lib.hid (by rw [HTk.out, bgs_snoc, HB.out])
      have HOk := Lib.hid hok
      clear hok HTk
      generalize L[k] = x at *
      obtain ⟨xk, xa, xb, xA, xn, xc, xs, xm⟩ := x
      simp only [NV.nd] at p0 p1 p2 p3 p4 HNx HSm
      have b5 := below_new wr (.cells #[.int .i64 xk, .int .i64 xa, .int .i64 xb, .slice xA xn xc, .string xm] 48)
      have q0 : (wr.alloc (.cells #[.int .i64 xk, .int .i64 xa, .int .i64 xb, .slice xA xn xc, .string xm] 48)).cell? ⟨wr.heap.size, 0, none⟩ = some (.int .i64 xk) := by simp
      have q1 : (wr.alloc (.cells #[.int .i64 xk, .int .i64 xa, .int .i64 xb, .slice xA xn xc, .string xm] 48)).cell? ⟨wr.heap.size, 1, none⟩ = some (.int .i64 xa) := by simp
      have q2 : (wr.alloc (.cells #[.int .i64 xk, .int .i64 xa, .int .i64 xb, .slice xA xn xc, .string xm] 48)).cell? ⟨wr.heap.size, 2, none⟩ = some (.int .i64 xb) := by simp
      have q3 : (wr.alloc (.cells #[.int .i64 xk, .int .i64 xa, .int .i64 xb, .slice xA xn xc, .string xm] 48)).cell? ⟨wr.heap.size, 3, none⟩ = some (.slice xA xn xc) := by simp
      have q4 : (wr.alloc (.cells #[.int .i64 xk, .int .i64 xa, .int .i64 xb, .slice xA xn xc, .string xm] 48)).cell? ⟨wr.heap.size, 4, none⟩ = some (.string xm) := by simp
      have HO5 := Lib.hid (own_below HO.out b5)
      have HOk5 := Lib.hid (HOk.out.on b5)
      have hb5 := hb.trans (b5.mono hsz)
      have hz5 : w.heap.size < (wr.alloc (.cells #[.int .i64 xk, .int .i64 xa, .int .i64 xb, .slice xA xn xc, .string xm] 48)).heap.size := by simp; omega
      go_upto_region 7 with (fail)
      generalize wr.alloc (.cells #[.int .i64 xk, .int .i64 xa, .int .i64 xb, .slice xA xn xc, .string xm] 48) = w5 at *
      clear p0 p1 p2 p3 p4 HO HOk hb b5 hbb hsz
      have hkI : (k : Int) ≤ (n : Int) := by omega
      have hkI0 : (0 : Int) ≤ (k : Int) := by omega
      have bR := Below.refl w5.heap.size w5
      have HC : Hid (∀ V, Below w5.heap.size w5 V → Calls Try.prog 33 #[.slice (some ⟨w.heap.size, 0, none⟩) k n, nvv xk xa xb xA xn xc xm] V fun e w' => (∃ z : Int, e = .returned (.tuple #[.int .i64 z, .bool (stepB bs ⟨xk, xa, xb, xs, xm⟩).isSome]) ∧ ∀ y, stepB bs ⟨xk, xa, xb, xs, xm⟩ = some y → z = (y : Nat)) ∧ Below w5.heap.size w5 w') := Lib.hid (fun V h =>
        (beginning_any bs k HBL.out (bgs_le _ _ HB.out) (by omega) (some ⟨w.heap.size, 0, none⟩) n xk xa xb xA xn xc xs xm V (by
          have h2 := own_pad (own_below HO5.out h) (by rw [HBL.out]; omega) V.heap.size (by have := h.size; omega)
          rwa [HBL.out] at h2)).mono (fun e w' ⟨z, h1, h2, h3⟩ => ⟨⟨z, h1, h2⟩, h.trans (h3.mono h.size)⟩))
      go_wp2_with fail
      go_region_held3 (fun V => V.cell? ⟨wr.heap.size, 0, none⟩ = some (.int .i64 xk) ∧ V.cell? ⟨wr.heap.size, 1, none⟩ = some (.int .i64 xa) ∧ V.cell? ⟨wr.heap.size, 2, none⟩ = some (.int .i64 xb) ∧ V.cell? ⟨wr.heap.size, 3, none⟩ = some (.slice xA xn xc) ∧ V.cell? ⟨wr.heap.size, 4, none⟩ = some (.string xm) ∧ Below w5.heap.size w5 V) (first | assumption | exact ⟨q0, q1, q2, q3, q4, Below.drew bR⟩ | exact ⟨kept_cell b6 q0, kept_cell b6 q1, kept_cell b6 q2, kept_cell b6 q3, kept_cell b6 q4, b6⟩) (first | (go_at_call 33; with_reducible refine Calls.mono (HC.out _ ?_) ?_; (first | assumption | exact Below.drew bR | exact bR); rintro e w6 ⟨⟨z, rfl, hz⟩, b6⟩))
      obtain ⟨bg, hbg⟩ : ∃ r, stepB bs ⟨xk, xa, xb, xs, xm⟩ = r := ⟨_, rfl⟩
      rw [hbg] at hz ⊢
      have HBg := Lib.hid hbg
      have HZ := Lib.hid hz
      have hb6 := hb5.trans (b6.mono hb5.size)
      have HO6 := Lib.hid (own_below HO5.out b6)
      have HLb := Lib.hid (labelled_any xk xa xb xA xn xc xs xm w6 (HOk5.out.on b6) (by have := HSm.out.1; omega))
      have q0 := kept_cell b6 q0
      have q1 := kept_cell b6 q1
      have q2 := kept_cell b6 q2
      have q3 := kept_cell b6 q3
      have q4 := kept_cell b6 q4
      have hz6 : w.heap.size < w6.heap.size := by have := b6.size; omega
      clear hz hbg b6 hb5 HO5 HOk5 HC bR hz5
      cases bg with
      | none =>
        have HD : Hid (treeB (nds L) = false) := Lib.hid (treeB_none (bgs_cut (by rw [HNx.out]; exact nextBg_no1 HBg.out)))
        simp only [Option.isSome_none]
        go_wp2_with fail
        go_ret
        exact ⟨ret_bool HD.out.symm, hb6⟩
      | some y =>
        obtain rfl : z = (y : Nat) := HZ.out y rfl
        simp only [Option.isSome_some]
        obtain ⟨lb, hlb⟩ : ∃ r, labB ⟨xk, xa, xb, xs, xm⟩ = r := ⟨_, rfl⟩
        rw [hlb] at HLb
        have HLB := Lib.hid hlb
        clear hlb
        go_wp2_with fail
        refine HLb.out.mono ?_
        rintro e w7 ⟨rfl, b7⟩
        have hb7 := hb6.trans (b7.mono hb6.size)
        have HO7 := Lib.hid (own_below HO6.out b7)
        clear HLb b7 hb6 HO6 q0 q1 q2 q3 q4
        cases lb with
        | false =>
          have HD : Hid (treeB (nds L) = false) := Lib.hid (treeB_none (bgs_cut (by rw [HNx.out]; exact nextBg_no2 HLB.out)))
          go_wp2_with fail
          go_ret
          exact ⟨ret_bool HD.out.symm, hb7⟩
        | true =>
          have HY : Hid (bgs ((nds L).take (k + 1)) = some (bs ++ [y])) := Lib.hid (by rw [HNx.out]; exact nextBg_yes HBg.out HLB.out)
          have f7 := HO7.out.frozenAt k
          have c7 : ∃ u, w7.cell? ⟨w.heap.size, k, none⟩ = some u := by
            have h2 := HO7.out.1
            exact ⟨_, (HO7.out.cellAt k (by omega)).trans (List.getElem?_eq_getElem (by omega))⟩
          obtain ⟨u7, c7⟩ := c7
          have HO8 : Hid ((w7.setCell ⟨w.heap.size, k, none⟩ (.int .i64 (y : Nat))).ownsRow w.heap.size 3 1 (.slice (some ⟨w.heap.size, 0, none⟩) n n) n (icells (padB (bs ++ [y]) n))) := Lib.hid (by
            have h2 := (HO7.out.stored k (.int .i64 (y : Nat))).1
            rwa [icells_set, padB_set HBL.out hlt] at h2)
          have hb8 : Below w.heap.size w (w7.setCell ⟨w.heap.size, k, none⟩ (.int .i64 (y : Nat))) := hb7.setCell (p := ⟨w.heap.size, k, none⟩) (Nat.le_refl _) _
          have HL8 : Hid ((bs ++ [y]).length = k + 1) := Lib.hid (by simp [HBL.out])
          clear HO7 hb7 HB HNx HBg HLB HBL HZ
          go_wp2_with fail
          go_roundw
          case rel => exact ⟨k + 1, bs ++ [y], by omega, by go_num, hb8, HY, HL8, HO8⟩
          case measure => simp [intOf]; omega
    · obtain rfl : n = k := by omega
      have HD : Hid (treeB (nds L) = decide (bs[m]?.getD 0 = 0)) := Lib.hid (treeB_end (by rw [nds_len, HL.out, HN.out]) (by have := HN.out; omega) (by
        have h := HB.out
        rwa [List.take_of_length_le (by rw [nds_len, HL.out]; exact Nat.le_refl _)] at h))
      have hm : m < bs.length := by have := HN.out; have := HBL.out; omega
      have hc := HO.out.cellAt m (by have := HN.out; omega)
      unfold icells at hc
      rw [List.getElem?_map, padB_at hm] at hc
      have hc2 : wr.cell? ⟨w.heap.size, m, none⟩ = some (.int .i64 (bs[m] : Nat)) := hc
      have HD2 : Hid (treeB (nds L) = decide (bs[m] = 0)) := Lib.hid (by rw [HD.out, List.getElem?_eq_getElem hm]; rfl)
      clear HD hc
      generalize bs[m] = y at *
      have fm : IntKind.i64.wrap ((n : Int) - 1) = (m : Int) := by rw [IntWalk.i64_in _ (by have := HN.out; omega)]; have := HN.out; omega
      have hmn : m < n := by have := HN.out; omega
      have hmI : (m : Int) < (n : Int) := by omega
      clear HO HB HBL hm
      by_cases hy : y = 0
      · subst hy
        go_wp2_with fail
        go_ret
        exact ⟨ret_bool HD2.out.symm, hb⟩
      · have hyI : ((y : Int) == 0) = false := by rw [beq_eq_false_iff_ne]; omega
        have HD3 : Hid (treeB (nds L) = false) := Lib.hid (by rw [HD2.out, decide_eq_false hy])
        clear HD2
        go_wp2_with fail
        go_ret
        exact ⟨ret_bool HD3.out.symm, hb⟩
end Go.Proofs.Ytfpiackfhdiapaa.S
