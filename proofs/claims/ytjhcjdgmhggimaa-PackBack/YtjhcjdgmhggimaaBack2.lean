/- The walk of PackBack at sizes of 2 bytes. -/
import Derived.Test.YtjhcjdgmhggimaaLawMath
import Derived.BigQuiet
namespace Go.Proofs.Ytjhcjdgmhggimaa.packBack
open Go.ChangeShapes Go.WideShapes Go.ChangeAt Go.RowKit Go.BigFrame
set_option linter.unusedVariables false
set_option linter.unusedSimpArgs false
theorem turn_no1 {y : List Nat} {lb : List Bool} {m p q : Nat} (h : IsBits y lb) (hl : lb.length = m) (hp : m / 8 = p) (hq : m % 8 = q) (h0 : q ≠ 0) (pl : p < y.length) : unbR (y.set p (y[p] ||| 2 ^ q)) m = none := by
  subst hl hp hq
  exact unb_turn h h0 pl

set_option maxHeartbeats 4000000 in
theorem walk_2 (b : List Nat) (n : Nat) (A : Option Addr) (c : Nat) (v s : Nat) (lb : List Bool) (m : Nat) (L : Option Addr) (d : Nat) (w : World) (hA : Shp A n c) (hB : RB w w.heap.size A n b) (hL : RL w w.heap.size L m lb) (hn : n ≤ 300) (hm : m ≤ 300) (hv : v < 4294967296) (hs : s < 4294967296) (hr : s % 4 = 1) :
    Calls Try.prog 4 #[.slice A n c, .agg #[.int .u32 (v : Int), .int .u32 (s : Int)], .slice L m d] w fun e w' => e = .returned (.bool true) ∧ Below w.heap.size w w' := by
  have hmb : ¬ ((300 : Int) < (n : Int)) := by omega
  have hml : ¬ ((300 : Int) < (m : Int)) := by omega
  have s1 : (s : Int) % 4 = 1 := by omega
  have s2 : Int.tmod (s : Int) 4 = 1 := by rw [Int.tmod_eq_emod_of_nonneg (by omega)]; exact s1
  have hand : bits .and .i64 (v : Int) 65535 = ((v % 65536 : Nat) : Int) := and_i64 v 16 hv (by decide)
  have HGet : Hid (getR (b ++ lowB v 2) n 2 = some (v % 65536)) := Lib.hid (by rw [← hB.1]; exact get_low b v 2 (by decide) (by decide))
  have HTake : Hid ((b ++ lowB v 2).take n = b) := Lib.hid (by rw [← hB.1, List.take_left])
  obtain ⟨z, hz⟩ : ∃ z, (m + 7) / 8 = z := ⟨_, rfl⟩
  have z1 : ((m : Int) + 7) / 8 = (z : Int) := by omega
  have z2 : Int.tdiv ((m : Int) + 7) 8 = (z : Int) := by rw [Int.tdiv_eq_ediv_of_nonneg (by omega)]; exact z1
  have z3 : z ≤ 40 := by omega
  have z4 : ((z : Int) != (z : Int)) = false := by simp
  obtain ⟨q, hq⟩ : ∃ q, m % 8 = q := ⟨_, rfl⟩
  have q1 : (m : Int) % 8 = (q : Int) := by omega
  have q2 : Int.tmod (m : Int) 8 = (q : Int) := by rw [Int.tmod_eq_emod_of_nonneg (by omega)]; exact q1
  have q3 : q < 8 := by omega
  have HZ := Lib.hid hz
  have HQ := Lib.hid hq
  have HAs := Lib.hid hA
  have HBl := Lib.hid hB.1
  have HLl := Lib.hid hL.1
  clear hz hq hA
  have hbx := hB.on (below_new w (.cells #[.int .u32 (v : Int), .int .u32 (s : Int)] 40))
  have hlx := hL.on (below_new w (.cells #[.int .u32 (v : Int), .int .u32 (s : Int)] 40))
  have bx := below_new w (.cells #[.int .u32 (v : Int), .int .u32 (s : Int)] 40)
  have x0 : (w.alloc (.cells #[.int .u32 (v : Int), .int .u32 (s : Int)] 40)).cell? ⟨w.heap.size, 0, none⟩ = some (.int .u32 (v : Int)) := by simp
  have x1 : (w.alloc (.cells #[.int .u32 (v : Int), .int .u32 (s : Int)] 40)).cell? ⟨w.heap.size, 1, none⟩ = some (.int .u32 (s : Int)) := by simp
  have HBx := Lib.hid hbx
  have HLx := Lib.hid hlx
  clear hB hL hbx hlx
  go_enter Try.func4, Try.ntmps4
  go_wp2_with fail
  generalize w.alloc (.cells #[.int .u32 (v : Int), .int .u32 (s : Int)] 40) = w0 at *
  go_quiet (fail)
  have gq : Below w0.heap.size w0 (w0.drewN nq) := below_drewN (Below.refl _ _) _
  have b_0 := Lib.hid (HBx.out.on gq)
  have l_0 := Lib.hid (HLx.out.on gq)
  have bb_0 : Below w.heap.size w (w0.drewN nq) := below_drewN bx _
  generalize w0.drewN nq = W0 at *
  clear gq HBx HLx bx x0 x1
  go_wp2_with fail
  have HP := Lib.hid (put_r b n A c v 2 _ HAs.out b_0.out (by omega))
  rw [show cutN 2 = 2 from rfl] at HP
  refine (HP.out).mono ?_
  rintro e W1 ⟨A1, c1, rfl, r1, s1x, g⟩
  have b_1 := Lib.hid (b_0.out.on g)
  have l_1 := Lib.hid (l_0.out.on g)
  have bb_1 := bb_0.trans (g.mono bb_0.size)
  have x_1 := Lib.hid (r1)
  clear b_0 l_0 bb_0 g
  have hc1 := s1x.2.1
  clear HP r1 s1x
  have hc1I : ((n : Int)) ≤ (c1 : Int) := by omega
  have HTk := Lib.hid (x_1.out.take (k := n) (by omega))
  rw [HTake.out] at HTk
  go_wp2_with fail
  refine (keepBytes_yes b b rfl n n A1 A c1 c _ HTk.out b_1.out).mono ?_
  rintro e W2 ⟨rfl, g⟩
  have l_2 := Lib.hid (l_1.out.on g)
  have x_2 := Lib.hid (x_1.out.on g)
  have bb_2 := bb_1.trans (g.mono bb_1.size)
  clear b_1 l_1 x_1 bb_1 g
  clear HTk
  go_wp2_with fail
  refine (get_yes (b ++ lowB v 2) (n + 2) A1 c1 n 2 _ HGet.out _ x_2.out hc1 (by omega)).mono ?_
  rintro e W3 ⟨rfl, g⟩
  have l_3 := Lib.hid (l_2.out.on g)
  have bb_3 := bb_2.trans (g.mono bb_2.size)
  clear l_2 x_2 bb_2 g
  generalize v % 65536 = vm at *
  have hvm : ((vm : Int) != (vm : Int)) = false := by simp
  go_wp2_with fail
  refine (bits_any lb m L d _ l_3.out (by omega)).mono ?_
  rintro e W4 ⟨y, hy, A4, c4, rfl, y1, y2, o4, g⟩
  have l_4 := Lib.hid (l_3.out.on g)
  have bb_4 := bb_3.trans (g.mono bb_3.size)
  have o_4 := Lib.hid (own_base o4 bb_3.size)
  clear l_3 bb_3 g
  have HY := Lib.hid hy
  have HY2 := Lib.hid y2
  have HYl := Lib.hid y1
  clear hy y1 y2 o4
  have HO4 := o_4.out
  rw [HZ.out] at HO4 HYl
  rw [HZ.out]
  have o2_4 := Lib.hid HO4
  clear o_4 HO4
  have HUn : Hid (unbR y m = some lb) := Lib.hid (by have h := unb_bits HY.out; rwa [HLl.out] at h)
  go_wp2_with fail
  refine (unbits_yes y z lb m HUn.out HLl.out A4 c4 _ (own_RB o2_4.out HY2.out) (by omega)).mono ?_
  rintro e W5 ⟨A5, c5, rfl, r5, s5, g⟩
  have l_5 := Lib.hid (l_4.out.on g)
  have o2_5 := Lib.hid (own_below o2_4.out g)
  have bb_5 := bb_4.trans (g.mono bb_4.size)
  have u_5 := Lib.hid (r5)
  clear l_4 o2_4 bb_4 g
  clear r5 s5 HUn
  go_wp2_with fail
  refine (keepBools_yes lb lb rfl m m A5 L c5 d _ u_5.out l_5.out (by omega)).mono ?_
  rintro e W6 ⟨rfl, g⟩
  have o2_6 := Lib.hid (own_below o2_5.out g)
  have bb_6 := bb_5.trans (g.mono bb_5.size)
  clear l_5 o2_5 u_5 bb_5 g
  by_cases hq0 : q = 0
  · have q4 : ((q : Int) == 0) = true := by rw [beq_iff_eq]; omega
    go_wp2_with fail
    refine (wakes_any _).mono ?_
    rintro e w9 ⟨rfl, g⟩
    have b9 := bb_6.trans (g.mono bb_6.size)
    go_wp2_with fail
    go_ret
    exact ⟨rfl, b9⟩
  · have q4 : ((q : Int) == 0) = false := by rw [beq_eq_false_iff_ne]; omega
    have hzp : 0 < z := by have := HZ.out; have := HQ.out; omega
    obtain ⟨g0, cap, hv0, hgb, hglt⟩ := o2_6.out.form hzp
    injection hv0 with e1 _ e2
    subst e1 e2
    obtain ⟨p, hp⟩ : ∃ p, p = m / 8 := ⟨_, rfl⟩
    have p1 : (z : Int) - 1 = (p : Int) := by have := HZ.out; have := HQ.out; omega
    have p2 : p < z := by have := HZ.out; have := HQ.out; omega
    have pl : p < y.length := by rw [HYl.out]; exact p2
    have qb := own_byteC o2_6.out pl
    have fb := o2_6.out.frozenAt p
    have hyb : y[p] < 256 := HY2.out _ (List.getElem_mem pl)
    have hor := or_u8 y[p] q hyb q3
    have HSt : Hid ((W6.setCell ⟨g0, p, none⟩ (.int .u8 ((y[p] ||| 2 ^ q : Nat) : Int))).ownsRow w.heap.size 5 1 (.slice (some ⟨g0, 0, none⟩) z c4) z (ycells (y.set p (y[p] ||| 2 ^ q)))) := Lib.hid (by
      have h := (o2_6.out.stored p (.int .u8 ((y[p] ||| 2 ^ q : Nat) : Int))).1
      rw [ycells_set] at h
      exact h)
    have b8 : Below w.heap.size w (W6.setCell ⟨g0, p, none⟩ (.int .u8 ((y[p] ||| 2 ^ q : Nat) : Int))) := bb_6.setCell (p := ⟨g0, p, none⟩) hgb _
    have HNo := Lib.hid (turn_no1 HY.out HLl.out hp.symm HQ.out hq0 pl)
    have HYs := Lib.hid (set_lt HY2.out p (y[p] ||| 2 ^ q) (by have h := set_or_lt (i := q) hyb; rwa [Nat.mod_eq_of_lt q3] at h))
    have HO8 := Lib.hid (own_RB HSt.out HYs.out)
    clear o2_6 HSt hp
    generalize y[p] = x at *
    clear hyb pl
    generalize y.set p (x ||| 2 ^ q) = y' at *
    generalize x ||| 2 ^ q = x' at *
    go_wp2_with fail
    generalize W6.setCell ⟨g0, p, none⟩ (.int .u8 (x' : Int)) = w8 at *
    refine (unbits_no y' z m HNo.out _ _ _ HO8.out (by omega)).mono ?_
    rintro e w9 ⟨A9, c9, rfl, g⟩
    have b9 := b8.trans (g.mono b8.size)
    clear b8 g
    go_wp2_with fail
    refine (wakes_any _).mono ?_
    rintro e w10 ⟨rfl, g⟩
    have b10 := b9.trans (g.mono b9.size)
    go_wp2_with fail
    go_ret
    exact ⟨rfl, b10⟩
end Go.Proofs.Ytjhcjdgmhggimaa.packBack
