/- What Both returns: the set of what is in both. -/
import Derived.Test.YtehikcddnjibcaaNot
import Derived.Deep.CutRange
namespace Go.Proofs.Ytehikcddnjibcaa
open Go.RowKit Go.BigFrame
set_option linter.unusedVariables false
set_option linter.unusedSimpArgs false

def lenOf : Value → Nat | .slice _ n _ => n | _ => 0

theorem both_bad (a b : List Rg) (n m : Nat) (ha : a.length = n) (hb : b.length = m) (A B : Option Addr) (c d : Nat) (w : World)
    (hRa : Reads w w.heap.size 2 A n (rcells a)) (hRb : Reads w w.heap.size 2 B m (rcells b)) (hn : n ≤ 10000) (hm : m ≤ 10000) (hg : (goodB a && goodB b) = false) :
    Calls Try.prog 12 #[.slice A n c, .slice B m d] w (OutNo w) := by
  have H1 := Lib.hid (fun W hR => good_n n a ha A c W hR (by omega))
  have H2 := Lib.hid (fun W hR => good_n m b hb B d W hR (by omega))
  have HRa := Lib.hid hRa
  have HRb := Lib.hid hRb
  clear hRa hRb
  cases ga : goodB a
  · rw [ga] at H1
    clear hg
    go_enter Try.func12, Try.ntmps12
    go_wp2_with fail
    refine (H1.out _ HRa.out).mono ?_
    rintro e w1 ⟨rfl, b1⟩
    go_wp2_with fail
    go_ret2
    exact ⟨rfl, b1⟩
  · rw [ga, Bool.true_and] at hg
    rw [ga] at H1
    rw [hg] at H2
    clear hg
    go_enter Try.func12, Try.ntmps12
    go_wp2_with fail
    refine (H1.out _ HRa.out).mono ?_
    rintro e w1 ⟨rfl, b1⟩
    have HRb1 := Lib.hid ((HRb.out.below b1).more b1.size)
    go_wp2_with fail
    refine (H2.out _ HRb1.out).mono ?_
    rintro e w2 ⟨rfl, b2⟩
    go_wp2_with fail
    go_ret2
    exact ⟨rfl, b1.trans (b2.mono b1.size)⟩

theorem Reads.tail {w : World} {B b o n : Nat} {x : Rg} {l : List Rg} (h : Reads w B 2 (some ⟨b, o, none⟩) (n + 1) (rcells (x :: l))) : Reads w B 2 (some ⟨b, o + 2, none⟩) n (rcells l) := by
  have h1 := h.1
  rw [rcells_len, List.length_cons] at h1
  refine ⟨by rw [rcells_len]; omega, fun hn => ?_⟩
  obtain ⟨b', o', e, hb, hc⟩ := h.2 (by omega)
  injection e with e
  injection e with e1 e2
  subst e1 e2
  refine ⟨b, o + 2, rfl, hb, fun j u hj => ?_⟩
  have := hc (j + 2) u (by
    have e : rcells (x :: l) = .int .i64 x.1 :: .int .i64 x.2 :: rcells l := by simp [rcells, rcell]
    rw [e]; simpa using hj)
  rw [show o + 2 + j = o + (j + 2) by omega]
  exact this

/-- Where a row's tail lies. -/
def tailA (b f c : Nat) : Option Addr := if c = 1 then some ⟨b, f, none⟩ else some ⟨b, f + 2, none⟩
/-- What room a row's tail has. -/
def tailC (c : Nat) : Nat := c - 1
theorem wpList_tail {w : World} {ops : Array Oper} {rest : List Oper} {o : Oper} {a : Act} {Q : Exit → Act → World → Prop} (hgd : o.guard = none) (x : Operand)
    (ho : o.op = .slice 23 x (some (.const (.int .i64 1))) none none) (b f n c : Nat) (hx : a.eval x = .slice (some ⟨b, f, none⟩) (n + 1) c) (hc : n + 1 ≤ c) (hm : c ≤ maxLen)
    (h : wpList Try.prog ops Q rest (a.put o.dst (.slice (tailA b f c) n (tailC c))) w) : wpList Try.prog ops Q (o :: rest) a w := by
  refine wpList_plain hgd fun K hK => ?_
  have h1 : (1 : Int) ≤ ((n + 1 : Nat) : Int) := by omega
  have h2 : n + 1 - 1 = n := by omega
  unfold maxLen at hm
  have hrun : (Instr.sliceAt 23 (.slice (some ⟨b, f, none⟩) (n + 1) c) (some (.int .i64 1)) none none).run Try.prog w = .ok (.slice (if c = 1 then some ⟨b, f, none⟩ else some ⟨b, f + 2, none⟩) n (c - 1)) w := by
    simp [go_sem, Try.underlying23, Try.sizeOf41]
    intro h
    omega
  unfold Oper.wp execOp
  simp only [ho, hx, Option.map_some, Option.map_none, BigFrame.eval_const, Sem.run_bind, Sem.run_pure, Result.andThen_ok, hrun]
  exact hK _ _ h

theorem reads_tail {w : World} {B b o n c : Nat} {l : List Rg} (hc : n + 1 ≤ c) (h : Reads w B 2 (some ⟨b, o + 2, none⟩) n (rcells l)) : Reads w B 2 (tailA b o c) n (rcells l) := by
  unfold tailA
  by_cases h1 : c = 1
  · exact ⟨h.1, fun hn => absurd hn (by omega)⟩
  · rw [if_neg h1]; exact h

/-- Ahead of each round: what is left of both, and what has been told. -/
def BRel (a b : List Rg) (n m : Nat) (w2 : World) (va vb vs : Value) (wr : World) : Prop :=
  ∃ (na nb : Nat) (A1 B1 A2 : Option Addr) (c1 d1 c2 : Nat) (a1 b1 acc : List Rg), va = .slice A1 na c1 ∧ vb = .slice B1 nb d1 ∧ vs = .slice A2 acc.length c2 ∧ Hid (a1.length = na) ∧ Hid (b1.length = nb) ∧ Hid (Reads w2 w2.heap.size 2 A1 na (rcells a1)) ∧ Hid (Reads w2 w2.heap.size 2 B1 nb (rcells b1)) ∧ na ≤ c1 ∧ nb ≤ d1 ∧ c1 ≤ maxLen ∧ d1 ≤ maxLen ∧ Hid (BInv a b a1 b1 acc) ∧ acc.length + na + nb ≤ n + m ∧ wr.ownsRow w2.heap.size 41 2 (.slice A2 acc.length c2) acc.length (rcells acc) ∧ Below w2.heap.size w2 wr
def bLen (va vb : Value) : Nat := lenOf va + lenOf vb

set_option maxRecDepth 100000 in
set_option maxHeartbeats 4000000 in
theorem both_good (a b : List Rg) (n m : Nat) (ha : a.length = n) (hb : b.length = m) (A B : Option Addr) (c d : Nat) (w : World) (hA : Shp A n c) (hB : Shp B m d)
    (hRa : Reads w w.heap.size 2 A n (rcells a)) (hRb : Reads w w.heap.size 2 B m (rcells b)) (hn : n ≤ 5000) (hm : m ≤ 5000) (ga : Gd (-1) a) (gb : Gd (-1) b) :
    Calls Try.prog 12 #[.slice A n c, .slice B m d] w (OutSet (fun v => In a v ∧ In b v) (n + m) w) := by
  obtain ⟨i0, hi0, hz0, hz1, hz2⟩ := info_parts info41
  have H1 := Lib.hid (fun W hR => good_n n a ha A c W hR (by omega))
  have H2 := Lib.hid (fun W hR => good_n m b hb B d W hR (by omega))
  rw [(goodB_iff a).2 ga] at H1
  rw [(goodB_iff b).2 gb] at H2
  have HRa := Lib.hid hRa
  have HRb := Lib.hid hRb
  have HLa := Lib.hid ha
  have HLb := Lib.hid hb
  have HA := Lib.hid hA
  have HB := Lib.hid hB
  have HI := Lib.hid (bInv_start ga gb)
  clear hRa hRb ha hb hA hB ga gb
  go_enter Try.func12, Try.ntmps12
  go_wp2_with fail
  refine (H1.out _ HRa.out).mono ?_
  rintro e w1 ⟨rfl, b1⟩
  have HRa1 := Lib.hid ((HRa.out.below b1).more b1.size)
  have HRb1 := Lib.hid ((HRb.out.below b1).more b1.size)
  clear HRa HRb H1
  go_wp2_with fail
  refine (H2.out _ HRb1.out).mono ?_
  rintro e w2 ⟨rfl, b2⟩
  have HRa2 := Lib.hid (((HRa1.out.below b2).more b2.size))
  have HRb2 := Lib.hid (((HRb1.out.below b2).more b2.size))
  have b12 := b1.trans (b2.mono b1.size)
  have hs2 := b12.size
  clear HRa1 HRb1 H2 b1 b2
  go_wp2_with fail
  go_loopw [0, 1, 6] (fun va vb vs wr => BRel a b n m w2 va vb vs wr) (fun va vb _ _ => bLen va vb)
  case atStart => exact ⟨n, m, A, B, none, c, d, 0, a, b, [], rfl, rfl, rfl, HLa, HLb, HRa2, HRb2, HA.out.2.1, HB.out.2.1, HA.out.2.2, HB.out.2.2, HI, by simp, World.ownsRow_nil _ _ _ _, Below.refl _ _⟩
  case round =>
    obtain ⟨na, nb, A1, B1, A2, c1, d1, c2, a1, b1, acc, rfl, rfl, rfl, HLa1, HLb1, HRa3, HRb3, hca, hcb, hca2, hcb2, HI3, hlen, hown, hb⟩ := hrel
    have hsz := hb.size
    obtain ⟨k, hk⟩ : ∃ k, acc.length = k := ⟨_, rfl⟩
    have HK := Lib.hid hk
    rw [hk] at hown hlen ⊢
    clear hk
    cases na with
    | zero =>
        have HE := Lib.hid (bInv_end HI3.out (.inl (List.eq_nil_of_length_eq_zero HLa1.out)))
        have HR2 := Lib.hid (Reads.of_own hown)
        have HS2 := Lib.hid (own_shp hown)
        clear HI3
        go_wp2_with fail
        go_ret2
        exact ⟨acc, A2, c2, by rw [HK.out]; rfl, by rw [HK.out]; exact HS2.out, HE.out, by rw [HK.out]; omega, by rw [HK.out]; exact HR2.out, b12.trans (hb.mono hs2)⟩
    | succ na =>
      cases nb with
      | zero =>
        have HE := Lib.hid (bInv_end HI3.out (.inr (List.eq_nil_of_length_eq_zero HLb1.out)))
        have HR2 := Lib.hid (Reads.of_own hown)
        have HS2 := Lib.hid (own_shp hown)
        clear HI3
        go_wp2_with fail
        go_ret2
        exact ⟨acc, A2, c2, by rw [HK.out]; rfl, by rw [HK.out]; exact HS2.out, HE.out, by rw [HK.out]; omega, by rw [HK.out]; exact HR2.out, b12.trans (hb.mono hs2)⟩
      | succ nb =>
        obtain ⟨x, a1, rfl⟩ : ∃ x l, a1 = x :: l := by
          cases a1 with
          | nil => have := HLa1.out; simp at this
          | cons x l => exact ⟨x, l, rfl⟩
        obtain ⟨y, b1, rfl⟩ : ∃ y l, b1 = y :: l := by
          cases b1 with
          | nil => have := HLb1.out; simp at this
          | cons x l => exact ⟨x, l, rfl⟩
        obtain ⟨bk, o, rfl, hbb, p0, p1⟩ := (HRa3.out.below hb).rg (k := 0) (by simp)
        obtain ⟨bk', o', rfl, hbb', q0, q1⟩ := (HRb3.out.below hb).rg (k := 0) (by simp)
        have HRa4 := Lib.hid HRa3.out.tail
        have HRb4 := Lib.hid HRb3.out.tail
        have HLa4 : Hid (a1.length = na) := Lib.hid (by have := HLa1.out; simpa using this)
        have HLb4 : Hid (b1.length = nb) := Lib.hid (by have := HLb1.out; simpa using this)
        have hst := bInv_step HI3.out
        obtain ⟨x0, x1⟩ := x
        obtain ⟨y0, y1⟩ := y
        simp only [Nat.zero_mul, Nat.add_zero, List.getElem_cons_zero] at p0 p1 q0 q1 hst
        have z0 := cell_alloc (.cells #[.int .i64 0, .int .i64 0] 41) p0
        have z1 := cell_alloc (.cells #[.int .i64 0, .int .i64 0] 41) p1
        have z2 := cell_alloc (.cells #[.int .i64 0, .int .i64 0] 41) q0
        have z3 := cell_alloc (.cells #[.int .i64 0, .int .i64 0] 41) q1
        have HX := Lib.hid hst
        clear hst HI3 HRa2 HRb2 HLa HLb HA HB HI
        have HBR : Hid (bR (x0, x1) (y0, y1) = (max x0 y0, min x1 y1)) := Lib.hid rfl
        go_wp2_with fail
        go_cut [7] from 16 to 64 (fun v7 wx => v7 = .pointer (some ⟨wr.heap.size, 0, none⟩) ∧ wx.cell? ⟨wr.heap.size, 0, none⟩ = some (.int .i64 (max x0 y0)) ∧ wx.cell? ⟨wr.heap.size, 1, none⟩ = some (.int .i64 (min x1 y1)) ∧ wx.cell? ⟨bk, o + 1, none⟩ = some (.int .i64 x1) ∧ wx.cell? ⟨bk', o' + 1, none⟩ = some (.int .i64 y1) ∧ Hid (wx.ownsRow w2.heap.size 41 2 (.slice A2 k c2) k (rcells acc)) ∧ Below w2.heap.size w2 wx)
        case first =>
          go_region
          have r0 : (wr.alloc (.cells #[.int .i64 (max x0 y0), .int .i64 (min x1 y1)] 41)).drew.cell? ⟨wr.heap.size, 0, none⟩ = some (.int .i64 (max x0 y0)) := by simp
          have r1 : (wr.alloc (.cells #[.int .i64 (max x0 y0), .int .i64 (min x1 y1)] 41)).drew.cell? ⟨wr.heap.size, 1, none⟩ = some (.int .i64 (min x1 y1)) := by simp
          have s1 : (wr.alloc (.cells #[.int .i64 (max x0 y0), .int .i64 (min x1 y1)] 41)).drew.cell? ⟨bk, o + 1, none⟩ = some (.int .i64 x1) := cell_alloc _ p1
          have s2 : (wr.alloc (.cells #[.int .i64 (max x0 y0), .int .i64 (min x1 y1)] 41)).drew.cell? ⟨bk', o' + 1, none⟩ = some (.int .i64 y1) := cell_alloc _ q1
          have b3 : Below w2.heap.size w2 (wr.alloc (.cells #[.int .i64 (max x0 y0), .int .i64 (min x1 y1)] 41)).drew := Below.drew (hb.alloc hsz _)
          have hown3 : (wr.alloc (.cells #[.int .i64 (max x0 y0), .int .i64 (min x1 y1)] 41)).drew.ownsRow w2.heap.size 41 2 (.slice A2 k c2) k (rcells acc) := own_below hown (Below.drew (below_new _ _))
          go_wp2_with fail
          go_meet
          exact ⟨rfl, r0, r1, s1, s2, Lib.hid hown3, b3⟩
        case rest =>
          obtain ⟨rfl, r0, r1, s1, s2, HOw, b3⟩ := hcut
          have hown3 := HOw.out
          obtain ⟨w3, rfl⟩ : ∃ x, x = wc := ⟨_, rfl⟩
          generalize max x0 y0 = lo at *
          generalize min x1 y1 = hi at *
          have hs3 := b3.size
          clear z0 z1 z2 z3 p0 p1 q0 q1 hown hb HOw
          by_cases hc : lo ≤ hi
          · rw [if_pos hc, HBR.out] at HX
            have hob := hown3.lt
            have hg1 := World.block_lt_of_cell? _ _ s1
            have hg2 := World.block_lt_of_cell? _ _ s2
            go_wp2_with (at_builtin; refine wpList_append_lies _ rfl _ _ 23 rfl w2.heap.size 41 i0 _ 2 16 Try.underlying23 hi0 hz0 hz1 hz2 rfl (by decide) _ _ _ rfl (hown3.alloc _) ⟨w3.heap.size, 0, none⟩ 1 1 [.int .i64 lo, .int .i64 hi] rfl rfl ?k1 ?k2 (by omega) ?k3 ?k4 ?k5 _ rfl ?_)
            try
              case k1 =>
                intro j u hj
                match j, hj with
                | 0, hj => simp at hj; subst hj; simp [Addr.add]
                | 1, hj => simp at hj; subst hj; simp [Addr.add]
            case k2 => first | exact ⟨rfl, rfl⟩ | (intro u hu; simp at hu; rcases hu with rfl | rfl <;> rfl)
            case k3 => first | omega | (unfold maxLen; omega)
            case k4 => omega
            case k5 => first | omega | (simp; omega)
            · first | (intro g cap w5 hown5 hgrow hat hlt5) | (rename_i g cap w5 hown5 hgrow hat hlt5)
              have b5 : Below w2.heap.size w2 w5 := below_grown (b3.alloc (by omega) _) (by simp; omega) (hown3.alloc _) hgrow
              have t1 : w5.cell? ⟨bk, o + 1, none⟩ = some (.int .i64 x1) := hgrow.cell (cell_alloc _ s1) (by
                intro he
                have h1 := (hob _ he.symm).1
                have h2 : bk < w2.heap.size := hbb
                simp at h1
                omega)
              have t2 : w5.cell? ⟨bk', o' + 1, none⟩ = some (.int .i64 y1) := hgrow.cell (cell_alloc _ s2) (by
                intro he
                have h1 := (hob _ he.symm).1
                have h2 : bk' < w2.heap.size := hbb'
                simp at h1
                omega)
              have HK2 : Hid ((acc ++ [(lo, hi)]).length = k + 1) := Lib.hid (by simp [HK.out])
              have hO5 : w5.ownsRow w2.heap.size 41 2 (.slice (some ⟨g, 0, none⟩) (k + 1) cap) (k + 1) (rcells (acc ++ [(lo, hi)])) := by
                rw [rcells_snoc]; exact hown5
              clear hown5 hgrow hat hown3 s1 s2 r0 r1 hob b3
              by_cases hx : x1 < y1
              · rw [if_pos hx] at HX
                go_wp2_with fail
                go_big_quiet (fail)
                have b4 := below_drewN b5 nq
                have HO4 := Lib.hid (own_below hO5 (below_drewN (Below.refl _ w5) nq))
                clear hO5
                go_wp2_with (with_reducible refine wpList_tail rfl (.tmp 61) rfl bk o na c1 rfl hca hca2 ?_)
                go_roundw
                case rel => exact ⟨na, nb + 1, _, _, some ⟨g, 0, none⟩, tailC c1, d1, cap, a1, (y0, y1) :: b1, acc ++ [(lo, hi)], rfl, rfl, by rw [HK2.out], HLa4, HLb1, Lib.hid (reads_tail hca HRa4.out), HRb3, by unfold tailC; omega, hcb, by unfold tailC; omega, hcb2, HX, by rw [HK2.out]; omega, by rw [HK2.out]; exact HO4.out, b4⟩
                case measure => simp [bLen, lenOf]
              · rw [if_neg hx] at HX
                go_wp2_with fail
                go_big_quiet (fail)
                have b4 := below_drewN b5 nq
                have HO4 := Lib.hid (own_below hO5 (below_drewN (Below.refl _ w5) nq))
                clear hO5
                go_wp2_with (with_reducible refine wpList_tail rfl (.tmp 63) rfl bk' o' nb d1 rfl hcb hcb2 ?_)
                go_roundw
                case rel => exact ⟨na + 1, nb, _, _, some ⟨g, 0, none⟩, c1, tailC d1, cap, (x0, x1) :: a1, b1, acc ++ [(lo, hi)], rfl, rfl, by rw [HK2.out], HLa1, HLb4, HRa3, Lib.hid (reads_tail hcb HRb4.out), hca, by unfold tailC; omega, hca2, by unfold tailC; omega, HX, by rw [HK2.out]; omega, by rw [HK2.out]; exact HO4.out, b4⟩
                case measure => simp [bLen, lenOf]
          · rw [if_neg hc] at HX
            have HK2 := HK
            by_cases hx : x1 < y1
            · rw [if_pos hx] at HX
              go_wp2_with fail
              go_big_quiet (fail)
              have b4 := below_drewN b3 nq
              have HO4 := Lib.hid (own_below hown3 (below_drewN (Below.refl _ w3) nq))
              clear hown3
              go_wp2_with (with_reducible refine wpList_tail rfl (.tmp 61) rfl bk o na c1 rfl hca hca2 ?_)
              go_roundw
              case rel => exact ⟨na, nb + 1, _, _, A2, tailC c1, d1, c2, a1, (y0, y1) :: b1, acc, rfl, rfl, by rw [HK2.out], HLa4, HLb1, Lib.hid (reads_tail hca HRa4.out), HRb3, by unfold tailC; omega, hcb, by unfold tailC; omega, hcb2, HX, by rw [HK2.out]; omega, by rw [HK2.out]; exact HO4.out, b4⟩
              case measure => simp [bLen, lenOf]
            · rw [if_neg hx] at HX
              go_wp2_with fail
              go_big_quiet (fail)
              have b4 := below_drewN b3 nq
              have HO4 := Lib.hid (own_below hown3 (below_drewN (Below.refl _ w3) nq))
              clear hown3
              go_wp2_with (with_reducible refine wpList_tail rfl (.tmp 63) rfl bk' o' nb d1 rfl hcb hcb2 ?_)
              go_roundw
              case rel => exact ⟨na + 1, nb, _, _, A2, c1, tailC d1, c2, (x0, x1) :: a1, b1, acc, rfl, rfl, by rw [HK2.out], HLa1, HLb4, HRa3, Lib.hid (reads_tail hcb HRb4.out), hca, by unfold tailC; omega, hca2, by unfold tailC; omega, HX, by rw [HK2.out]; omega, by rw [HK2.out]; exact HO4.out, b4⟩
              case measure => simp [bLen, lenOf]
end Go.Proofs.Ytehikcddnjibcaa
