/- What ask of package tree's question returns: it tells all that a node takes from a place, but what it has told. -/
import Derived.Test.YtfpiackfhdiapaaTrH
namespace Go.Proofs.Ytfpiackfhdiapaa.S
open Go.RowKit Go.BigFrame
set_option linter.unusedVariables false
set_option linter.unusedSimpArgs false
set_option maxRecDepth 4000

set_option maxHeartbeats 16000000 in
theorem ask_never (p : QP) : AskOk p (.never) := by
  intro o L F f w hQ hM hSub hSd hCl hf
  obtain ⟨b, q, x, hAt, hlt, hnd, hxn, hxok, p0, p1, p2, p3, p4⟩ := hQ.node hSub
  have hk : x.k = 0 := congrArg Nd.k hnd
  have HSd := Lib.hid hSd
  have HCl := Lib.hid hCl
  have HSub := Lib.hid hSub
  obtain ⟨K, hK⟩ : ∃ K, rt (.never) o = K := ⟨_, rfl⟩
  have HK := Lib.hid hK
  rw [hK] at hlt p0 p1 p2 p3 p4 ⊢
  have hll := hQ.len
  obtain ⟨At, nt, ct, Ar, nr, cr, qb, m, B, l, T⟩ := p
  simp only [] at hQ hM hAt hlt hll hf HSd HCl HSub ⊢
  obtain ⟨xk, xa, xb, xA, xn, xc, xs, xm⟩ := x
  simp only [NV.nd] at hk hnd hxn p0 p1 p2 p3 p4
  subst hk hAt
  have b5 := below_new w (.cells #[.int .i64 0, .int .i64 xa, .int .i64 xb, .slice xA xn xc, .string xm] 48)
  have HQ5 := Lib.hid (hQ.on b5)
  have HM5 := Lib.hid (hM.on b5)
  have c0 := hQ.c0
  simp only [] at c0
  have hln := hQ.ln
  have htn := hQ.tn
  have hqB := hQ.qB
  have hmB := hQ.mB
  have hBw := hQ.hB
  simp only [] at hln htn hqB hmB hBw
  have hsz5 : w.heap.size < (w.alloc (.cells #[.int .i64 0, .int .i64 xa, .int .i64 xb, .slice xA xn xc, .string xm] 48)).heap.size := by simp
  have q0 : (w.alloc (.cells #[.int .i64 0, .int .i64 xa, .int .i64 xb, .slice xA xn xc, .string xm] 48)).cell? ⟨w.heap.size, 0, none⟩ = some (.int .i64 0) := by simp
  have q1 : (w.alloc (.cells #[.int .i64 0, .int .i64 xa, .int .i64 xb, .slice xA xn xc, .string xm] 48)).cell? ⟨w.heap.size, 1, none⟩ = some (.int .i64 xa) := by simp
  have q2 : (w.alloc (.cells #[.int .i64 0, .int .i64 xa, .int .i64 xb, .slice xA xn xc, .string xm] 48)).cell? ⟨w.heap.size, 2, none⟩ = some (.int .i64 xb) := by simp
  have q3 : (w.alloc (.cells #[.int .i64 0, .int .i64 xa, .int .i64 xb, .slice xA xn xc, .string xm] 48)).cell? ⟨w.heap.size, 3, none⟩ = some (.slice xA xn xc) := by simp
  have hKI : (K : Int) < (nt : Int) := by omega
  clear hK hnd hSd hCl hSub
  go_enter Try.func35, Try.ntmps35
  go_upto_region 3 with (fail)
  generalize w.alloc (.cells #[.int .i64 0, .int .i64 xa, .int .i64 xb, .slice xA xn xc, .string xm] 48) = w5 at *
  generalize hnb : w.heap.size = nb at *
  clear p0 p1 p2 p3 p4 c0
  clear hxok
  go_wp2_with fail
  go_ret
  subst hnb
  exact outAsk_of (R := []) b5 rfl (World.ownsRow_nil _ _ _ _) HM5.out (asked_never l L o F f HSd.out) (Bx.refl _ _ _)

set_option maxHeartbeats 16000000 in
theorem ask_empty (p : QP) : AskOk p (.empty) := by
  intro o L F f w hQ hM hSub hSd hCl hf
  obtain ⟨b, q, x, hAt, hlt, hnd, hxn, hxok, p0, p1, p2, p3, p4⟩ := hQ.node hSub
  have hk : x.k = 1 := congrArg Nd.k hnd
  have HSd := Lib.hid hSd
  have HCl := Lib.hid hCl
  have HSub := Lib.hid hSub
  obtain ⟨K, hK⟩ : ∃ K, rt (.empty) o = K := ⟨_, rfl⟩
  have HK := Lib.hid hK
  rw [hK] at hlt p0 p1 p2 p3 p4 ⊢
  have hll := hQ.len
  obtain ⟨At, nt, ct, Ar, nr, cr, qb, m, B, l, T⟩ := p
  simp only [] at hQ hM hAt hlt hll hf HSd HCl HSub ⊢
  obtain ⟨xk, xa, xb, xA, xn, xc, xs, xm⟩ := x
  simp only [NV.nd] at hk hnd hxn p0 p1 p2 p3 p4
  subst hk hAt
  have b5 := below_new w (.cells #[.int .i64 1, .int .i64 xa, .int .i64 xb, .slice xA xn xc, .string xm] 48)
  have HQ5 := Lib.hid (hQ.on b5)
  have HM5 := Lib.hid (hM.on b5)
  have c0 := hQ.c0
  simp only [] at c0
  have hln := hQ.ln
  have htn := hQ.tn
  have hqB := hQ.qB
  have hmB := hQ.mB
  have hBw := hQ.hB
  simp only [] at hln htn hqB hmB hBw
  have hsz5 : w.heap.size < (w.alloc (.cells #[.int .i64 1, .int .i64 xa, .int .i64 xb, .slice xA xn xc, .string xm] 48)).heap.size := by simp
  have q0 : (w.alloc (.cells #[.int .i64 1, .int .i64 xa, .int .i64 xb, .slice xA xn xc, .string xm] 48)).cell? ⟨w.heap.size, 0, none⟩ = some (.int .i64 1) := by simp
  have q1 : (w.alloc (.cells #[.int .i64 1, .int .i64 xa, .int .i64 xb, .slice xA xn xc, .string xm] 48)).cell? ⟨w.heap.size, 1, none⟩ = some (.int .i64 xa) := by simp
  have q2 : (w.alloc (.cells #[.int .i64 1, .int .i64 xa, .int .i64 xb, .slice xA xn xc, .string xm] 48)).cell? ⟨w.heap.size, 2, none⟩ = some (.int .i64 xb) := by simp
  have q3 : (w.alloc (.cells #[.int .i64 1, .int .i64 xa, .int .i64 xb, .slice xA xn xc, .string xm] 48)).cell? ⟨w.heap.size, 3, none⟩ = some (.slice xA xn xc) := by simp
  have hKI : (K : Int) < (nt : Int) := by omega
  clear hK hnd hSd hCl hSub
  go_enter Try.func35, Try.ntmps35
  go_upto_region 3 with (fail)
  generalize w.alloc (.cells #[.int .i64 1, .int .i64 xa, .int .i64 xb, .slice xA xn xc, .string xm] 48) = w5 at *
  generalize hnb : w.heap.size = nb at *
  clear p0 p1 p2 p3 p4 c0
  clear hxok
  have HR6 := Lib.hid ((lit_nat w5 f).more (show w5.heap.size + 1 ≤ (w5.alloc (.cells #[.int .i64 ((f : Nat) : Int)] 3)).heap.size by simp))
  have b6 := below_new w5 (.cells #[.int .i64 ((f : Nat) : Int)] 3)
  have HAd := Lib.hid (add_any m w5.heap.size qb L K f [] [f] none (some ⟨w5.heap.size, 0, none⟩) 0 0 1 1 (w5.alloc (.cells #[.int .i64 ((f : Nat) : Int)] 3)) (kept_cell b6 HQ5.out.c2) (HM5.out.on b6) (World.ownsRow_nil _ _ _ _) rfl HR6.out (fun _ _ _ e => by cases e) b6.size (by omega) (by omega) (by omega))
  clear HR6
  go_wp2_with fail
  refine HAd.out.mono ?_
  rintro e w7 ⟨A7, c7, rfl, o7, m7, g7⟩
  have HO7 := Lib.hid o7
  have HM7 := Lib.hid m7
  have HB7 := Lib.hid ((Bx.of b6).trans g7)
  clear o7 m7 g7 HAd
  go_wp2_with fail
  go_ret
  subst hnb
  refine outAsk_of b5 rfl HO7.out HM7.out ?_ HB7.out
  have hA := asked_empty l L o F f HSd.out HCl.out hf
  rw [HK.out] at hA
  exact hA

set_option maxHeartbeats 16000000 in
theorem ask_one (p : QP) (s0 : List Rg) (m0 : ByteArray) : AskOk p (.one s0 m0) := by
  intro o L F f w hQ hM hSub hSd hCl hf
  obtain ⟨b, q, x, hAt, hlt, hnd, hxn, hxok, p0, p1, p2, p3, p4⟩ := hQ.node hSub
  have hk : x.k = 2 := congrArg Nd.k hnd
  have hxs : x.s = s0 := congrArg Nd.s hnd
  have HSd := Lib.hid hSd
  have HCl := Lib.hid hCl
  have HSub := Lib.hid hSub
  obtain ⟨K, hK⟩ : ∃ K, rt (.one s0 m0) o = K := ⟨_, rfl⟩
  have HK := Lib.hid hK
  rw [hK] at hlt p0 p1 p2 p3 p4 ⊢
  have hll := hQ.len
  obtain ⟨At, nt, ct, Ar, nr, cr, qb, m, B, l, T⟩ := p
  simp only [] at hQ hM hAt hlt hll hf HSd HCl HSub ⊢
  obtain ⟨xk, xa, xb, xA, xn, xc, xs, xm⟩ := x
  simp only [NV.nd] at hk hnd hxn p0 p1 p2 p3 p4 hxs
  subst hk hAt
  have b5 := below_new w (.cells #[.int .i64 2, .int .i64 xa, .int .i64 xb, .slice xA xn xc, .string xm] 48)
  have HQ5 := Lib.hid (hQ.on b5)
  have HM5 := Lib.hid (hM.on b5)
  have c0 := hQ.c0
  simp only [] at c0
  have hln := hQ.ln
  have htn := hQ.tn
  have hqB := hQ.qB
  have hmB := hQ.mB
  have hBw := hQ.hB
  simp only [] at hln htn hqB hmB hBw
  have hsz5 : w.heap.size < (w.alloc (.cells #[.int .i64 2, .int .i64 xa, .int .i64 xb, .slice xA xn xc, .string xm] 48)).heap.size := by simp
  have q0 : (w.alloc (.cells #[.int .i64 2, .int .i64 xa, .int .i64 xb, .slice xA xn xc, .string xm] 48)).cell? ⟨w.heap.size, 0, none⟩ = some (.int .i64 2) := by simp
  have q1 : (w.alloc (.cells #[.int .i64 2, .int .i64 xa, .int .i64 xb, .slice xA xn xc, .string xm] 48)).cell? ⟨w.heap.size, 1, none⟩ = some (.int .i64 xa) := by simp
  have q2 : (w.alloc (.cells #[.int .i64 2, .int .i64 xa, .int .i64 xb, .slice xA xn xc, .string xm] 48)).cell? ⟨w.heap.size, 2, none⟩ = some (.int .i64 xb) := by simp
  have q3 : (w.alloc (.cells #[.int .i64 2, .int .i64 xa, .int .i64 xb, .slice xA xn xc, .string xm] 48)).cell? ⟨w.heap.size, 3, none⟩ = some (.slice xA xn xc) := by simp
  have hKI : (K : Int) < (nt : Int) := by omega
  clear hK hnd hSd hCl hSub
  go_enter Try.func35, Try.ntmps35
  go_upto_region 3 with (fail)
  generalize w.alloc (.cells #[.int .i64 2, .int .i64 xa, .int .i64 xb, .slice xA xn xc, .string xm] 48) = w5 at *
  generalize hnb : w.heap.size = nb at *
  clear p0 p1 p2 p3 p4 c0
  subst hxs
  have ffI : IntKind.i64.wrap ((f : Int) + 1) = (f : Int) + 1 := IntWalk.i64_in _ (by omega)
  have HRow := Lib.hid HQ5.out.rr
  have c1 := HQ5.out.c1
  simp only [] at c1
  by_cases hfl : f < nr
  · have hfl' : f < l.length := by omega
    have hfI : (f : Int) < (nr : Int) := by omega
    obtain ⟨gb, go_, hAr, _, r0⟩ := HRow.out.int hfl'
    simp only [] at hAr r0
    have HYes := Lib.hid (fun (h : hasB xs l[f] = true) => asked_one_yes l L xs m0 o F f HSd.out HCl.out hfl' h)
    have HNo := Lib.hid (fun (h : hasB xs l[f] = false) => asked_one_no l L xs m0 o F f HSd.out HCl.out (fun _ => h))
    have HHs := Lib.hid (fun V (g : Below w5.heap.size w5 V) => has_n xs xn hxok.1 xA xc l[f] V (((hxok.2.2.below b5).more (Nat.le_of_lt hsz5)).on g) (by omega))
    generalize l[f] = v at *
    obtain ⟨hb, hhb⟩ : ∃ h, hasB xs v = h := ⟨_, rfl⟩
    rw [hhb] at HHs HYes HNo
    subst hAr
    clear hhb hxok
    have bR := Below.refl w5.heap.size w5
    have HHC : Hid (∀ V, Below w5.heap.size w5 V → Calls Try.prog 45 #[.slice xA xn xc, .int .i64 v] V fun e w' => e = .returned (.bool hb) ∧ Below w5.heap.size w5 w') := Lib.hid (fun V g => (HHs.out V g).mono (fun e w' k => ⟨k.1, g.trans (k.2.mono g.size)⟩))
    clear HHs
    go_upto_region 7 with (fail)
    go_region_held3 (fun V => V.cell? ⟨nb, 3, none⟩ = some (.slice xA xn xc) ∧ V.cell? ⟨qb, 1, none⟩ = some (.slice (some ⟨gb, go_, none⟩) nr cr) ∧ V.cell? ⟨gb, go_ + f, none⟩ = some (.int .i64 v) ∧ Below w5.heap.size w5 V) (first | assumption | exact ⟨q3, c1, r0, Below.drew bR⟩ | exact ⟨kept_cell b6 q3, kept_cell b6 c1, kept_cell b6 r0, b6⟩) (first | (go_at_call 45; with_reducible refine Calls.mono (HHC.out _ ?_) ?_; (first | assumption | exact Below.drew bR | exact bR); rintro e w6 ⟨rfl, b6⟩))
    have HQ6 := Lib.hid (HQ5.out.on b6)
    have HM6 := Lib.hid (HM5.out.on b6)
    have b56 : Below nb w w6 := b5.trans (b6.mono (by omega))
    have hsz6 := b6.size
    clear HHC HQ5 HM5 q0 q1 q2 q3 r0 c1 b5 bR
    cases hb with
    | false =>
      have HA := Lib.hid (HNo.out rfl)
      clear HYes HNo
      go_wp2_with fail
      go_ret
      subst hnb
      exact outAsk_of (R := []) b56 rfl (World.ownsRow_nil _ _ _ _) HM6.out HA.out (Bx.refl _ _ _)
    | true =>
      have HA := Lib.hid (HYes.out rfl)
      clear HYes HNo
      have HR6 := Lib.hid ((lit_nat w6 (f + 1)).more (show w6.heap.size + 1 ≤ (w6.alloc (.cells #[.int .i64 (((f + 1) : Nat) : Int)] 3)).heap.size by simp))
      have b7 := below_new w6 (.cells #[.int .i64 (((f + 1) : Nat) : Int)] 3)
      have HAd := Lib.hid (add_any m w6.heap.size qb L K f [] [(f + 1)] none (some ⟨w6.heap.size, 0, none⟩) 0 0 1 1 (w6.alloc (.cells #[.int .i64 (((f + 1) : Nat) : Int)] 3)) (kept_cell b7 HQ6.out.c2) (HM6.out.on b7) (World.ownsRow_nil _ _ _ _) rfl HR6.out (fun _ _ _ e => by cases e) b7.size (by omega) (by omega) (by omega))
      clear HR6
      have cfI : (((f + 1 : Nat)) : Int) = (f : Int) + 1 := by omega
      rw [cfI] at HAd b7
      go_wp2_with fail
      refine HAd.out.mono ?_
      rintro e w7 ⟨A7, c7, rfl, o7, m7, g7⟩
      have HO7 := Lib.hid o7
      have HM7 := Lib.hid m7
      have HB7 := Lib.hid ((Bx.of b7).trans g7)
      clear o7 m7 g7 HAd
      go_wp2_with fail
      go_ret
      subst hnb
      refine outAsk_of b56 rfl HO7.out HM7.out ?_ HB7.out
      have hA := HA.out
      rw [HK.out] at hA
      exact hA
  · have hfI : ¬ (f : Int) < (nr : Int) := by omega
    have hfD : decide ((f : Int) < (nr : Int)) = false := decide_eq_false hfI
    have hfD2 : decide (f < nr) = false := decide_eq_false hfl
    have HA := Lib.hid (asked_one_no l L xs m0 o F f HSd.out HCl.out (fun h => absurd h (by omega)))
    clear hxok
    go_upto_region 7 with (fail)
    go_quiet (fail)
    go_wp2_with fail
    go_ret
    subst hnb
    exact outAsk_of (R := []) b5 rfl (World.ownsRow_nil _ _ _ _) HM5.out HA.out (Bx.of (below_drewN (Below.refl _ _) _))

set_option maxHeartbeats 16000000 in
theorem ask_cat (p : QP) (x0 y0 : Ex) (IHx : AskOk p x0) (IHy : AskOk p y0) : AskOk p (.cat x0 y0) := by
  intro o L F f w hQ hM hSub hSd hCl hf
  obtain ⟨b, q, x, hAt, hlt, hnd, hxn, hxok, p0, p1, p2, p3, p4⟩ := hQ.node hSub
  have hk : x.k = 3 := congrArg Nd.k hnd
  have hxa : x.a = ((rt x0 o : Nat) : Int) := by
    rw [show x.a = _ from congrArg Nd.a hnd]
    simp only [rootN, rt]
    have := sz_pos x0
    omega
  have hxb : x.b = ((rt y0 (o + sz x0) : Nat) : Int) := by
    rw [show x.b = _ from congrArg Nd.b hnd]
    simp only [rootN, rt]
    have := sz_pos y0
    omega
  obtain ⟨KX, hKX⟩ : ∃ k, rt x0 o = k := ⟨_, rfl⟩
  have HKX := Lib.hid hKX
  rw [hKX] at hxa
  clear hKX
  obtain ⟨KY, hKY⟩ : ∃ k, rt y0 (o + sz x0) = k := ⟨_, rfl⟩
  have HKY := Lib.hid hKY
  rw [hKY] at hxb
  clear hKY
  have HSd := Lib.hid hSd
  have HCl := Lib.hid hCl
  have HSub := Lib.hid hSub
  obtain ⟨K, hK⟩ : ∃ K, rt (.cat x0 y0) o = K := ⟨_, rfl⟩
  have HK := Lib.hid hK
  rw [hK] at hlt p0 p1 p2 p3 p4 ⊢
  have hll := hQ.len
  obtain ⟨At, nt, ct, Ar, nr, cr, qb, m, B, l, T⟩ := p
  simp only [] at hQ hM hAt hlt hll hf HSd HCl HSub ⊢
  obtain ⟨xk, xa, xb, xA, xn, xc, xs, xm⟩ := x
  simp only [NV.nd] at hk hnd hxn p0 p1 p2 p3 p4 hxa hxb
  subst hk hAt hxa hxb
  have b5 := below_new w (.cells #[.int .i64 3, .int .i64 (KX : Nat), .int .i64 (KY : Nat), .slice xA xn xc, .string xm] 48)
  have HQ5 := Lib.hid (hQ.on b5)
  have HM5 := Lib.hid (hM.on b5)
  have c0 := hQ.c0
  simp only [] at c0
  have hln := hQ.ln
  have htn := hQ.tn
  have hqB := hQ.qB
  have hmB := hQ.mB
  have hBw := hQ.hB
  simp only [] at hln htn hqB hmB hBw
  have hsz5 : w.heap.size < (w.alloc (.cells #[.int .i64 3, .int .i64 (KX : Nat), .int .i64 (KY : Nat), .slice xA xn xc, .string xm] 48)).heap.size := by simp
  have q0 : (w.alloc (.cells #[.int .i64 3, .int .i64 (KX : Nat), .int .i64 (KY : Nat), .slice xA xn xc, .string xm] 48)).cell? ⟨w.heap.size, 0, none⟩ = some (.int .i64 3) := by simp
  have q1 : (w.alloc (.cells #[.int .i64 3, .int .i64 (KX : Nat), .int .i64 (KY : Nat), .slice xA xn xc, .string xm] 48)).cell? ⟨w.heap.size, 1, none⟩ = some (.int .i64 (KX : Nat)) := by simp
  have q2 : (w.alloc (.cells #[.int .i64 3, .int .i64 (KX : Nat), .int .i64 (KY : Nat), .slice xA xn xc, .string xm] 48)).cell? ⟨w.heap.size, 2, none⟩ = some (.int .i64 (KY : Nat)) := by simp
  have q3 : (w.alloc (.cells #[.int .i64 3, .int .i64 (KX : Nat), .int .i64 (KY : Nat), .slice xA xn xc, .string xm] 48)).cell? ⟨w.heap.size, 3, none⟩ = some (.slice xA xn xc) := by simp
  have hKI : (K : Int) < (nt : Int) := by omega
  clear hK hnd hSd hCl hSub
  go_enter Try.func35, Try.ntmps35
  go_upto_region 3 with (fail)
  generalize w.alloc (.cells #[.int .i64 3, .int .i64 (KX : Nat), .int .i64 (KY : Nat), .slice xA xn xc, .string xm] 48) = w5 at *
  generalize hnb : w.heap.size = nb at *
  clear p0 p1 p2 p3 p4 c0
  clear hxok q3
  have HAx := Lib.hid (IHx o L F f w5 HQ5.out HM5.out HSub.out.catx HSd.out.2.1 HCl.out.1 hf)
  simp only [HKX.out] at HAx
  go_wp2_with fail
  refine HAx.out.mono ?_
  rintro e w6 ⟨AX, nX, cX, RX, L1, rfl, hlX, oX, mX, aX, gX⟩
  have HlX := Lib.hid hlX
  have HOX := Lib.hid oX
  have HM6 := Lib.hid mX
  have HAX := Lib.hid aX
  have HG6 := Lib.hid gX
  have HQ6 := Lib.hid (HQ5.out.bx gX HM5.out (show B ≤ w5.heap.size by omega))
  have q2 : w6.cell? ⟨nb, 2, none⟩ = some (.int .i64 (KY : Nat)) := gX.cell HM5.out hsz5 q2
  have hsz6 := gX.size
  have hnX : nX ≤ nr + 1 := by have h : RX.length ≤ l.length + 1 := aX.len; omega
  clear HAx hlX oX mX aX gX q1 HQ5
  go_wp2_with fail
  go_loopw [7, 67] (fun ve vi V => ∃ (i z c : Nat) (A : Option Addr) (R : List Nat) (L' : List Tri), i ≤ nX ∧ vi = .int .i64 i ∧ ve = .slice A z c ∧ Hid (R.length = z) ∧ Hid (V.ownsRow w6.heap.size 3 1 (.slice A z c) z (nats R)) ∧ Hid (Mp V m L') ∧ Hid (CI l F f L x0 y0 o RX i R L') ∧ Hid (Bx m w6.heap.size w6 V)) (fun _ vi _ => nX - (intOf vi).toNat)
  case atStart => exact ⟨0, 0, 0, none, [], L1, Nat.zero_le _, rfl, rfl, Lib.hid rfl, Lib.hid (World.ownsRow_nil _ _ _ _), HM6, Lib.hid (CI.start HAX.out HSd.out HCl.out), Lib.hid (Bx.refl _ _ _)⟩
  case round =>
    rename World => V
    obtain ⟨i, z, c, A, R, L', hi, rfl, rfl, HZ, HO, HM, HC, HB⟩ := hrel
    by_cases hlt' : i < nX
    · have il : i < RX.length := by rw [HlX.out]; exact hlt'
      have hszV := HB.out.size
      obtain ⟨ab, ao, rfl, _, p0⟩ := nats_at ((Reads.of_own HOX.out).bx HB.out HM6.out (Nat.le_refl _)) il
      have HQV := Lib.hid (HQ6.out.bx HB.out HM6.out (show B ≤ w6.heap.size by omega))
      have q2V : V.cell? ⟨nb, 2, none⟩ = some (.int .i64 (KY : Nat)) := HB.out.cell HM6.out (show nb < w6.heap.size by omega) q2
      have HAy := Lib.hid (IHy (o + sz x0) L' (fun j => Tol L (rt x0 o) j ∨ j ∈ RX.take i) RX[i] V HQV.out HM.out HSub.out.caty HC.out.sy HC.out.cy (HAX.out.le _ (List.getElem_mem il)))
      have HNx := Lib.hid (fun (RY : List Nat) (L2 : List Tri) (h : Asked l L' y0 (o + sz x0) (fun j => Tol L (rt x0 o) j ∨ j ∈ RX.take i) RX[i] RY L2) => HC.out.next il h)
      simp only [HKY.out] at HAy
      simp only [HK.out] at HNx
      have hz : z ≤ nr + 1 := by have h1 := HC.out.len; have h2 := HZ.out; omega
      generalize RX[i] = bt at *
      have hiI : (i : Int) < (nX : Int) := by omega
      go_wp2_with fail
      refine HAy.out.mono ?_
      rintro e w8 ⟨AY, nY, cY, RY, L2, rfl, hlY, oY, mY, aY, gY⟩
      have HO8 := Lib.hid (own_bx gY HM.out HO.out (fun g hg => (HO.out.lt g hg).2))
      have HB8 := Lib.hid (HB.out.trans (gY.mono hszV))
      have hnY : nY ≤ nr + 1 := by have h : RY.length ≤ l.length + 1 := aY.len; omega
      have hszY := gY.size
      have HAd := Lib.hid (add_any m w6.heap.size qb L2 K f R RY A AY c z cY nY w8 (HQV.out.bx gY HM.out (show B ≤ V.heap.size by omega)).c2 mY HO8.out HZ.out (Reads.of_own oY) (fun b' o' e e2 => by
        subst e
        have h1 := (oY.lt b' rfl).1
        have h2 := (HO.out.lt b' e2).2
        omega) (by omega) (by omega) (by omega) (by omega))
      have HCn := Lib.hid (HNx.out _ _ aY)
      clear HAy HNx HO HM HB hlY oY mY aY gY HQV q2V p0 HC HO8
      go_wp2_with fail
      refine HAd.out.mono ?_
      rintro e w9 ⟨A9, c9, rfl, o9, m9, g9⟩
      obtain ⟨n9, hn9⟩ : ∃ n, (R ++ adds L2 K f RY).length = n := ⟨_, rfl⟩
      rw [hn9] at o9 ⊢
      have HN9 := Lib.hid hn9
      clear hn9
      have HO9 := Lib.hid o9
      have HM9 := Lib.hid m9
      have HB9 := Lib.hid (HB8.out.trans g9)
      clear HAd HB8 o9 m9 g9
      go_wp2_with fail
      go_roundw
      case rel => exact ⟨i + 1, n9, c9, A9, R ++ adds L2 K f RY, _, by omega, by go_num, rfl, HN9, HO9, HM9, HCn, HB9⟩
      case measure => simp [intOf]; omega
    · obtain rfl : nX = i := by omega
      have HD : Hid (Asked l L (.cat x0 y0) o F f R L') := Lib.hid (by
        have h := HC.out
        rw [← HlX.out] at h
        exact h.done)
      clear HC
      go_wp2_with fail
      go_ret
      subst hnb
      exact outAsk_of b5 HZ.out (own_base HO.out hsz6) HM.out HD.out (HG6.out.trans (HB.out.mono hsz6))

set_option maxHeartbeats 16000000 in
theorem ask_alt (p : QP) (x0 y0 : Ex) (IHx : AskOk p x0) (IHy : AskOk p y0) : AskOk p (.alt x0 y0) := by
  intro o L F f w hQ hM hSub hSd hCl hf
  obtain ⟨b, q, x, hAt, hlt, hnd, hxn, hxok, p0, p1, p2, p3, p4⟩ := hQ.node hSub
  have hk : x.k = 4 := congrArg Nd.k hnd
  have hxa : x.a = ((rt x0 o : Nat) : Int) := by
    rw [show x.a = _ from congrArg Nd.a hnd]
    simp only [rootN, rt]
    have := sz_pos x0
    omega
  have hxb : x.b = ((rt y0 (o + sz x0) : Nat) : Int) := by
    rw [show x.b = _ from congrArg Nd.b hnd]
    simp only [rootN, rt]
    have := sz_pos y0
    omega
  obtain ⟨KX, hKX⟩ : ∃ k, rt x0 o = k := ⟨_, rfl⟩
  have HKX := Lib.hid hKX
  rw [hKX] at hxa
  clear hKX
  obtain ⟨KY, hKY⟩ : ∃ k, rt y0 (o + sz x0) = k := ⟨_, rfl⟩
  have HKY := Lib.hid hKY
  rw [hKY] at hxb
  clear hKY
  have HSd := Lib.hid hSd
  have HCl := Lib.hid hCl
  have HSub := Lib.hid hSub
  obtain ⟨K, hK⟩ : ∃ K, rt (.alt x0 y0) o = K := ⟨_, rfl⟩
  have HK := Lib.hid hK
  rw [hK] at hlt p0 p1 p2 p3 p4 ⊢
  have hll := hQ.len
  obtain ⟨At, nt, ct, Ar, nr, cr, qb, m, B, l, T⟩ := p
  simp only [] at hQ hM hAt hlt hll hf HSd HCl HSub ⊢
  obtain ⟨xk, xa, xb, xA, xn, xc, xs, xm⟩ := x
  simp only [NV.nd] at hk hnd hxn p0 p1 p2 p3 p4 hxa hxb
  subst hk hAt hxa hxb
  have b5 := below_new w (.cells #[.int .i64 4, .int .i64 (KX : Nat), .int .i64 (KY : Nat), .slice xA xn xc, .string xm] 48)
  have HQ5 := Lib.hid (hQ.on b5)
  have HM5 := Lib.hid (hM.on b5)
  have c0 := hQ.c0
  simp only [] at c0
  have hln := hQ.ln
  have htn := hQ.tn
  have hqB := hQ.qB
  have hmB := hQ.mB
  have hBw := hQ.hB
  simp only [] at hln htn hqB hmB hBw
  have hsz5 : w.heap.size < (w.alloc (.cells #[.int .i64 4, .int .i64 (KX : Nat), .int .i64 (KY : Nat), .slice xA xn xc, .string xm] 48)).heap.size := by simp
  have q0 : (w.alloc (.cells #[.int .i64 4, .int .i64 (KX : Nat), .int .i64 (KY : Nat), .slice xA xn xc, .string xm] 48)).cell? ⟨w.heap.size, 0, none⟩ = some (.int .i64 4) := by simp
  have q1 : (w.alloc (.cells #[.int .i64 4, .int .i64 (KX : Nat), .int .i64 (KY : Nat), .slice xA xn xc, .string xm] 48)).cell? ⟨w.heap.size, 1, none⟩ = some (.int .i64 (KX : Nat)) := by simp
  have q2 : (w.alloc (.cells #[.int .i64 4, .int .i64 (KX : Nat), .int .i64 (KY : Nat), .slice xA xn xc, .string xm] 48)).cell? ⟨w.heap.size, 2, none⟩ = some (.int .i64 (KY : Nat)) := by simp
  have q3 : (w.alloc (.cells #[.int .i64 4, .int .i64 (KX : Nat), .int .i64 (KY : Nat), .slice xA xn xc, .string xm] 48)).cell? ⟨w.heap.size, 3, none⟩ = some (.slice xA xn xc) := by simp
  have hKI : (K : Int) < (nt : Int) := by omega
  clear hK hnd hSd hCl hSub
  go_enter Try.func35, Try.ntmps35
  go_upto_region 3 with (fail)
  generalize w.alloc (.cells #[.int .i64 4, .int .i64 (KX : Nat), .int .i64 (KY : Nat), .slice xA xn xc, .string xm] 48) = w5 at *
  generalize hnb : w.heap.size = nb at *
  clear p0 p1 p2 p3 p4 c0
  clear hxok q3
  have HAx := Lib.hid (IHx o L F f w5 HQ5.out HM5.out HSub.out.altx HSd.out.2.1 HCl.out.1 hf)
  simp only [HKX.out] at HAx
  go_wp2_with fail
  refine HAx.out.mono ?_
  rintro e w6 ⟨AX, nX, cX, RX, L1, rfl, hlX, oX, mX, aX, gX⟩
  have HAX := Lib.hid aX
  have HG6 := Lib.hid gX
  have HQ6 := Lib.hid (HQ5.out.bx gX HM5.out (show B ≤ w5.heap.size by omega))
  have q2 : w6.cell? ⟨nb, 2, none⟩ = some (.int .i64 (KY : Nat)) := gX.cell HM5.out hsz5 q2
  have hsz6 := gX.size
  have hnX : nX ≤ nr + 1 := by have h : RX.length ≤ l.length + 1 := aX.len; omega
  have HAd := Lib.hid (add_any m w6.heap.size qb L1 K f [] RX none AX 0 0 cX nX w6 HQ6.out.c2 mX (World.ownsRow_nil _ _ _ _) rfl (Reads.of_own oX) (fun _ _ _ e => by cases e) (Nat.le_refl _) (by omega) (by omega) (by omega))
  have HM6 := Lib.hid mX
  clear HAx hlX oX mX aX gX q1 HQ5
  go_wp2_with fail
  refine HAd.out.mono ?_
  rintro e w7 ⟨A7, c7, rfl, o7, m7, g7⟩
  simp only [List.nil_append] at o7 ⊢
  obtain ⟨N1, hN1⟩ : ∃ N, adds L1 K f RX = N := ⟨_, rfl⟩
  rw [hN1] at o7 m7 ⊢
  have HN1 := Lib.hid hN1
  have hz : N1.length ≤ nr + 1 := by
    refine nd_len (nr + 1) N1 (by rw [← hN1]; exact (adds_is L1 K f RX).nd) (fun j hj => ?_)
    rw [← hN1] at hj
    have h2 := HAX.out.le j ((adds_is L1 K f RX).mem j hj).1
    omega
  obtain ⟨n7, hn7⟩ : ∃ n, N1.length = n := ⟨_, rfl⟩
  rw [hn7] at o7 hz ⊢
  have HN7 := Lib.hid hn7
  clear hn7
  have HO7 := Lib.hid o7
  have HM7 := Lib.hid m7
  have HB7 := Lib.hid g7
  have HQ7 := Lib.hid (HQ6.out.bx g7 HM6.out (show B ≤ w6.heap.size by omega))
  have q2 : w7.cell? ⟨nb, 2, none⟩ = some (.int .i64 (KY : Nat)) := g7.cell HM6.out (show nb < w6.heap.size by omega) q2
  have hsz7 := g7.size
  have HMid : Hid (Sd l (L1 ++ lay K f N1) y0 (o + sz x0) ∧ Cl l (L1 ++ lay K f N1) y0 (o + sz x0) F) := Lib.hid (by
    have h := alt_mid HSd.out HCl.out HAX.out N1
    rw [HK.out] at h
    exact h)
  have HAy := Lib.hid (IHy (o + sz x0) (L1 ++ lay K f N1) F f w7 HQ7.out HM7.out HSub.out.alty HMid.out.1 HMid.out.2 hf)
  simp only [HKY.out] at HAy
  clear HAd o7 m7 g7 hN1 HMid
  go_wp2_with fail
  refine HAy.out.mono ?_
  rintro e w8 ⟨AY, nY, cY, RY, L2, rfl, hlY, oY, mY, aY, gY⟩
  have HO8 := Lib.hid (own_bx gY HM7.out HO7.out (fun g hg => (HO7.out.lt g hg).2))
  have HB8 := Lib.hid (HB7.out.trans (gY.mono hsz7))
  have hnY : nY ≤ nr + 1 := by have h : RY.length ≤ l.length + 1 := aY.len; omega
  have hszY := gY.size
  have HAd := Lib.hid (add_any m w6.heap.size qb L2 K f N1 RY A7 AY c7 n7 cY nY w8 (HQ7.out.bx gY HM7.out (show B ≤ w7.heap.size by omega)).c2 mY HO8.out HN7.out (Reads.of_own oY) (fun b' o' e e2 => by
    subst e
    have h1 := (oY.lt b' rfl).1
    have h2 := (HO7.out.lt b' e2).2
    omega) (by omega) (by omega) (by omega) (by omega))
  have HD : Hid (Asked l L (.alt x0 y0) o F f (N1 ++ adds L2 K f RY) (L2 ++ lay K f (adds L2 K f RY))) := Lib.hid (by
    have h := alt_done (L2 := L2) (RY := RY) HSd.out HCl.out HAX.out
    rw [HK.out, HN1.out] at h
    exact h aY)
  clear HAy HO7 HM7 HB7 hlY oY mY aY gY HQ7 HO8
  go_wp2_with fail
  refine HAd.out.mono ?_
  rintro e w9 ⟨A9, c9, rfl, o9, m9, g9⟩
  obtain ⟨n9, hn9⟩ : ∃ n, (N1 ++ adds L2 K f RY).length = n := ⟨_, rfl⟩
  rw [hn9] at o9 ⊢
  have HN9 := Lib.hid hn9
  clear hn9
  have HO9 := Lib.hid o9
  have HM9 := Lib.hid m9
  have HB9 := Lib.hid (HB8.out.trans g9)
  clear HAd HB8 o9 m9 g9
  go_wp2_with fail
  go_ret
  subst hnb
  exact outAsk_of b5 HN9.out (own_base HO9.out hsz6) HM9.out HD.out (HG6.out.trans (HB9.out.mono hsz6))

set_option maxHeartbeats 16000000 in
theorem ask_star (p : QP) (x0 : Ex) (IHx : AskOk p x0) : AskOk p (.star x0) := by
  intro o L F f w hQ hM hSub hSd hCl hf
  obtain ⟨b, q, x, hAt, hlt, hnd, hxn, hxok, p0, p1, p2, p3, p4⟩ := hQ.node hSub
  have hk : x.k = 5 := congrArg Nd.k hnd
  have hxa : x.a = ((rt x0 o : Nat) : Int) := by
    rw [show x.a = _ from congrArg Nd.a hnd]
    simp only [rootN, rt]
    have := sz_pos x0
    omega
  obtain ⟨KX, hKX⟩ : ∃ k, rt x0 o = k := ⟨_, rfl⟩
  have HKX := Lib.hid hKX
  rw [hKX] at hxa
  clear hKX
  have HSd := Lib.hid hSd
  have HCl := Lib.hid hCl
  have HSub := Lib.hid hSub
  obtain ⟨K, hK⟩ : ∃ K, rt (.star x0) o = K := ⟨_, rfl⟩
  have HK := Lib.hid hK
  rw [hK] at hlt p0 p1 p2 p3 p4 ⊢
  have hll := hQ.len
  obtain ⟨At, nt, ct, Ar, nr, cr, qb, m, B, l, T⟩ := p
  simp only [] at hQ hM hAt hlt hll hf HSd HCl HSub ⊢
  obtain ⟨xk, xa, xb, xA, xn, xc, xs, xm⟩ := x
  simp only [NV.nd] at hk hnd hxn p0 p1 p2 p3 p4 hxa
  subst hk hAt hxa
  have b5 := below_new w (.cells #[.int .i64 5, .int .i64 (KX : Nat), .int .i64 xb, .slice xA xn xc, .string xm] 48)
  have HQ5 := Lib.hid (hQ.on b5)
  have HM5 := Lib.hid (hM.on b5)
  have c0 := hQ.c0
  simp only [] at c0
  have hln := hQ.ln
  have htn := hQ.tn
  have hqB := hQ.qB
  have hmB := hQ.mB
  have hBw := hQ.hB
  simp only [] at hln htn hqB hmB hBw
  have hsz5 : w.heap.size < (w.alloc (.cells #[.int .i64 5, .int .i64 (KX : Nat), .int .i64 xb, .slice xA xn xc, .string xm] 48)).heap.size := by simp
  have q0 : (w.alloc (.cells #[.int .i64 5, .int .i64 (KX : Nat), .int .i64 xb, .slice xA xn xc, .string xm] 48)).cell? ⟨w.heap.size, 0, none⟩ = some (.int .i64 5) := by simp
  have q1 : (w.alloc (.cells #[.int .i64 5, .int .i64 (KX : Nat), .int .i64 xb, .slice xA xn xc, .string xm] 48)).cell? ⟨w.heap.size, 1, none⟩ = some (.int .i64 (KX : Nat)) := by simp
  have q2 : (w.alloc (.cells #[.int .i64 5, .int .i64 (KX : Nat), .int .i64 xb, .slice xA xn xc, .string xm] 48)).cell? ⟨w.heap.size, 2, none⟩ = some (.int .i64 xb) := by simp
  have q3 : (w.alloc (.cells #[.int .i64 5, .int .i64 (KX : Nat), .int .i64 xb, .slice xA xn xc, .string xm] 48)).cell? ⟨w.heap.size, 3, none⟩ = some (.slice xA xn xc) := by simp
  have hKI : (K : Int) < (nt : Int) := by omega
  clear hK hnd hSd hCl hSub
  go_enter Try.func35, Try.ntmps35
  go_upto_region 3 with (fail)
  generalize w.alloc (.cells #[.int .i64 5, .int .i64 (KX : Nat), .int .i64 xb, .slice xA xn xc, .string xm] 48) = w5 at *
  generalize hnb : w.heap.size = nb at *
  clear p0 p1 p2 p3 p4 c0
  clear hxok q2 q3
  have HR6 := Lib.hid ((lit_nat w5 f).more (show w5.heap.size + 1 ≤ (w5.alloc (.cells #[.int .i64 ((f : Nat) : Int)] 3)).heap.size by simp))
  have b6 := below_new w5 (.cells #[.int .i64 ((f : Nat) : Int)] 3)
  have HAd := Lib.hid (add_any m w5.heap.size qb L K f [] [f] none (some ⟨w5.heap.size, 0, none⟩) 0 0 1 1 (w5.alloc (.cells #[.int .i64 ((f : Nat) : Int)] 3)) (kept_cell b6 HQ5.out.c2) (HM5.out.on b6) (World.ownsRow_nil _ _ _ _) rfl HR6.out (fun _ _ _ e => by cases e) b6.size (by omega) (by omega) (by omega))
  clear HR6
  have HSt := Lib.hid (SI.start HSd.out HCl.out hf)
  simp only [HK.out] at HSt
  go_wp2_with fail
  refine HAd.out.mono ?_
  rintro e w7 ⟨A7, c7, rfl, o7, m7, g7⟩
  simp only [List.nil_append] at o7 ⊢
  obtain ⟨n7, hn7⟩ : ∃ n, (adds L K f [f]).length = n := ⟨_, rfl⟩
  rw [hn7] at o7 ⊢
  have HN7 := Lib.hid hn7
  clear hn7
  have HO7 := Lib.hid o7
  have HM7 := Lib.hid m7
  have HB7 := Lib.hid ((Bx.of b6).trans g7)
  clear o7 m7 g7 HAd b6
  go_wp2_with fail
  go_loopw [7, 11] (fun ve vi V => ∃ (i z c : Nat) (A : Option Addr) (R : List Nat) (L' : List Tri), vi = .int .i64 i ∧ ve = .slice A z c ∧ Hid (R.length = z) ∧ Hid (V.ownsRow w5.heap.size 3 1 (.slice A z c) z (nats R)) ∧ Hid (Mp V m L') ∧ Hid (SI l F f L x0 o i R L') ∧ Hid (Bx m w5.heap.size w5 V)) (fun _ vi _ => nr + 5 - (intOf vi).toNat)
  case atStart => exact ⟨0, n7, c7, A7, _, _, rfl, rfl, HN7, HO7, HM7, HSt, HB7⟩
  case round =>
    clear HO7 HM7 HB7 HSt
    rename World => V
    obtain ⟨i, z, c, A, R, L', rfl, rfl, HZ, HO, HM, HC, HB⟩ := hrel
    have hz : z ≤ nr + 1 := by have h1 := HC.out.len; have h2 := HZ.out; omega
    by_cases hlt' : i < z
    · have il : i < R.length := by rw [HZ.out]; exact hlt'
      have hszV := HB.out.size
      obtain ⟨ab, ao, rfl, _, p0⟩ := nats_at (Reads.of_own HO.out) il
      have q1V : V.cell? ⟨nb, 1, none⟩ = some (.int .i64 (KX : Nat)) := HB.out.cell HM5.out hsz5 q1
      have HQd : Hid (Qs _ V.drew) := Lib.hid ((HQ5.out.bx HB.out HM5.out (show B ≤ w5.heap.size by omega)).on (Below.drew (Below.refl V.heap.size V)))
      have HMd : Hid (Mp V.drew m L') := Lib.hid HM.out.drew
      have HOd : Hid (V.drew.ownsRow w5.heap.size 3 1 (.slice (some ⟨ab, ao, none⟩) z c) z (nats R)) := Lib.hid HO.out.drew
      have HBd : Hid (Bx m w5.heap.size w5 V.drew) := Lib.hid (HB.out.trans (Bx.of (Below.drew (Below.refl w5.heap.size V))))
      have HAx := Lib.hid (IHx o L' (fun j => Tol L (rt (.star x0) o) j ∨ j ∈ R.take i) R[i] V.drew HQd.out HMd.out HSub.out.starx HC.out.sx HC.out.cx (tk_le _ _ _ _ (HC.out.sd _ _ (HC.out.rs _ (List.getElem_mem il)))).2)
      have HNx := Lib.hid (fun (RX : List Nat) (L2 : List Tri) (h : Asked l L' x0 o (fun j => Tol L (rt (.star x0) o) j ∨ j ∈ R.take i) R[i] RX L2) => HC.out.next il h)
      simp only [HKX.out] at HAx
      simp only [HK.out] at HNx HAx
      generalize R[i] = bt at *
      have hiI : (i : Int) < (z : Int) := by omega
      have hi0 : (0 : Int) ≤ (i : Int) := by omega
      go_wp2_with fail
      refine wp_region_held_drew (S := fun _ => True) (by kernel_rfl) ?_ (fun hHeld => ?_)
      · exact trivial
      refine wpAnyH_take (i := 0) (oi := _) (v := ?_) rfl (by kernel_rfl) (by kernel_rfl) (by kernel_rfl) (fun _ _ _ h => h) (Or.inl ⟨by kernel_rfl, ?hy0x0⟩) (by assumption) ?hr0x0
      case hy0x0 =>
        intro w hSw
        (try dsimp only at hSw)
        go_simp
        (try with_reducible rfl)
      (try simp only [Act.put, List.setIfInBounds_toArray, List.set_cons_zero, List.set_cons_succ])
      refine wpAnyH_take (i := 1) (oi := _) (v := ?_) rfl (by kernel_rfl) (by kernel_rfl) (by kernel_rfl) (fun _ _ _ h => h) (Or.inl ⟨by kernel_rfl, ?hy1x1⟩) (by assumption) ?hr1x1
      case hy1x1 =>
        intro w hSw
        (try dsimp only at hSw)
        go_simp
        (try with_reducible rfl)
      (try simp only [Act.put, List.setIfInBounds_toArray, List.set_cons_zero, List.set_cons_succ])
      refine wpAnyH_take (i := 2) (oi := _) (v := ?_) rfl (by kernel_rfl) (by kernel_rfl) (by kernel_rfl) (fun _ _ _ h => h) (Or.inl ⟨by kernel_rfl, ?hy2x2⟩) (by assumption) ?hr2x2
      case hy2x2 =>
        intro w hSw
        (try dsimp only at hSw)
        go_simp
        (try with_reducible rfl)
      (try simp only [Act.put, List.setIfInBounds_toArray, List.set_cons_zero, List.set_cons_succ])
      refine wpAnyH_take (i := 3) (oi := _) (v := ?_) rfl (by kernel_rfl) (by kernel_rfl) (by kernel_rfl) (fun _ _ _ h => h) (Or.inl ⟨by kernel_rfl, ?hy3x3⟩) (by assumption) ?hr3x3
      case hy3x3 =>
        intro w hSw
        (try dsimp only at hSw)
        go_simp
        (try with_reducible rfl)
      (try simp only [Act.put, List.setIfInBounds_toArray, List.set_cons_zero, List.set_cons_succ])
      refine wpAnyH_take (i := 4) (oi := _) (v := ?_) rfl (by kernel_rfl) (by kernel_rfl) (by kernel_rfl) (fun _ _ _ h => h) (Or.inl ⟨by kernel_rfl, ?hy4x4⟩) (by assumption) ?hr4x4
      case hy4x4 =>
        intro w hSw
        (try dsimp only at hSw)
        go_simp
        (try with_reducible rfl)
      (try simp only [Act.put, List.setIfInBounds_toArray, List.set_cons_zero, List.set_cons_succ])
      refine wpAnyH_take (i := 5) (oi := _) (v := ?_) rfl (by kernel_rfl) (by kernel_rfl) (by kernel_rfl) (fun _ _ _ h => h) (Or.inl ⟨by kernel_rfl, ?hy5x5⟩) (by assumption) ?hr5x5
      case hy5x5 =>
        intro w hSw
        (try dsimp only at hSw)
        go_simp
        (try with_reducible rfl)
      (try simp only [Act.put, List.setIfInBounds_toArray, List.set_cons_zero, List.set_cons_succ])
      refine wpAnyH_take (i := 7) (oi := _) (v := ?_) rfl (by kernel_rfl) (by kernel_rfl) (by kernel_rfl) (fun _ _ _ h => h) (Or.inl ⟨by kernel_rfl, ?hy7x6⟩) (by assumption) ?hr7x6
      case hy7x6 =>
        intro w hSw
        (try dsimp only at hSw)
        go_simp
        (try with_reducible rfl)
      (try simp only [Act.put, List.setIfInBounds_toArray, List.set_cons_zero, List.set_cons_succ])
      refine wpAnyH_take (i := 8) (oi := _) (v := ?_) rfl (by kernel_rfl) (by kernel_rfl) (by kernel_rfl) (fun _ _ _ h => h) (Or.inl ⟨by kernel_rfl, ?hy8x7⟩) (by assumption) ?hr8x7
      case hy8x7 =>
        intro w hSw
        (try dsimp only at hSw)
        go_simp
        (try with_reducible rfl)
      (try simp only [Act.put, List.setIfInBounds_toArray, List.set_cons_zero, List.set_cons_succ])
      refine wpAnyH_take (i := 9) (oi := _) (v := ?_) rfl (by kernel_rfl) (by kernel_rfl) (by kernel_rfl) (fun _ _ _ h => h) (Or.inl ⟨by kernel_rfl, ?hy9x8⟩) (by assumption) ?hr9x8
      case hy9x8 =>
        intro w hSw
        (try dsimp only at hSw)
        go_simp
        (try with_reducible rfl)
      (try simp only [Act.put, List.setIfInBounds_toArray, List.set_cons_zero, List.set_cons_succ])
      refine wpAnyH_ready (rs := [6, 10]) (by kernel_rfl) (by simp) ?_
      refine AllReadyH.cons (o := _) rfl (fun Kx hKx => ?_) ?_
      · go_simp
        refine hKx.out _ _ ?_ (fun hHeld => ?_)
        · exact trivial
        clear hKx Kx
        (try simp only [Act.put, List.setIfInBounds_toArray, List.set_cons_zero, List.set_cons_succ])
        refine wpAnyH_ready (rs := [10]) (by kernel_rfl) (by simp) ?_
        refine AllReadyH.cons (o := _) rfl (fun Kx hKx => ?_) ?_
        · go_simp
          refine hKx.out _ _ ?_ (fun hHeld => ?_)
          · exact trivial
          clear hKx Kx
          (try simp only [Act.put, List.setIfInBounds_toArray, List.set_cons_zero, List.set_cons_succ])
          refine wpAnyH_ready (rs := [11]) (by kernel_rfl) (by simp) ?_
          refine AllReadyH.cons (o := _) rfl (fun Kx hKx => ?_) ?_
          · go_simp
            go_at_call 35
            with_reducible refine Calls.mono HAx.out ?_
            rintro e w8 ⟨AX, nX, cX, RX, L2, rfl, hlX, oX, mX, aX, gX⟩
            have HO8 := Lib.hid (own_bx gX HMd.out HOd.out (fun g hg => (HOd.out.lt g hg).2))
            have HB8 := Lib.hid (HBd.out.trans (gX.mono hszV))
            have hnX : nX ≤ nr + 1 := by have h : RX.length ≤ l.length + 1 := aX.len; omega
            have hszX : V.heap.size ≤ w8.heap.size := gX.size
            have HAd := Lib.hid (add_any m w5.heap.size qb L2 K f R RX (some ⟨ab, ao, none⟩) AX c z cX nX w8 (HQd.out.bx gX HMd.out (show B ≤ V.heap.size by omega)).c2 mX HO8.out HZ.out (Reads.of_own oX) (fun b' o' e e2 => by
              subst e
              have h1 : V.heap.size ≤ b' := (oX.lt b' rfl).1
              have h2 : b' < V.heap.size := (HOd.out.lt b' e2).2
              omega) (by omega) (by omega) (by omega) (by omega))
            have HCn := Lib.hid (HNx.out _ _ aX)
            clear hlX oX mX aX gX HO8
            (try go_wp2_with fail)
            refine hKx.out _ _ ?_ (fun hHeld => ?_)
            · exact trivial
            clear hKx Kx
            (try simp only [Act.put, List.setIfInBounds_toArray, List.set_cons_zero, List.set_cons_succ])
            refine wpAnyH_ready (rs := [12]) (by kernel_rfl) (by simp) ?_
            refine AllReadyH.cons (o := _) rfl (fun Kx hKx => ?_) ?_
            · go_simp
              go_at_call 44
              with_reducible refine Calls.mono HAd.out ?_
              rintro e w9 ⟨A9, c9, rfl, o9, m9, g9⟩
              obtain ⟨n9, hn9⟩ : ∃ n, (R ++ adds L2 K f RX).length = n := ⟨_, rfl⟩
              rw [hn9] at o9 ⊢
              have HN9 := Lib.hid hn9
              clear hn9
              have HO9 := Lib.hid o9
              have HM9 := Lib.hid m9
              have HB9 := Lib.hid (HB8.out.trans g9)
              clear o9 m9 g9
              (try go_wp2_with fail)
              refine hKx.out _ _ ?_ (fun hHeld => ?_)
              · exact trivial
              clear hKx Kx
              (try simp only [Act.put, List.setIfInBounds_toArray, List.set_cons_zero, List.set_cons_succ])
              refine wpAnyH_take (i := 13) (oi := _) (v := ?_) rfl (by kernel_rfl) (by kernel_rfl) (by kernel_rfl) (fun _ _ _ h => h) (Or.inl ⟨by kernel_rfl, ?hy13x9⟩) (by assumption) ?hr13x9
              case hy13x9 =>
                intro w hSw
                (try dsimp only at hSw)
                go_simp
                (try with_reducible rfl)
              (try simp only [Act.put, List.setIfInBounds_toArray, List.set_cons_zero, List.set_cons_succ])
              refine wpAnyH_done (by kernel_rfl) ?_ _
              clear HAx HAd HNx HB8 HOd HMd HBd HQd HC HO HM HB
              go_wp2_with fail
              go_roundw
              case rel => exact ⟨i + 1, n9, c9, A9, R ++ adds L2 K f RX, _, by go_num, rfl, HN9, HO9, HM9, HCn, HB9⟩
              case measure => simp [intOf]; omega
            exact AllReadyH.nil
          exact AllReadyH.nil
        exact AllReadyH.nil
      refine AllReadyH.cons (o := _) rfl (fun Kx hKx => ?_) ?_
      · go_simp
        refine hKx.out _ _ ?_ (fun hHeld => ?_)
        · exact trivial
        clear hKx Kx
        (try simp only [Act.put, List.setIfInBounds_toArray, List.set_cons_zero, List.set_cons_succ])
        refine wpAnyH_ready (rs := [6]) (by kernel_rfl) (by simp) ?_
        refine AllReadyH.cons (o := _) rfl (fun Kx hKx => ?_) ?_
        · go_simp
          refine hKx.out _ _ ?_ (fun hHeld => ?_)
          · exact trivial
          clear hKx Kx
          (try simp only [Act.put, List.setIfInBounds_toArray, List.set_cons_zero, List.set_cons_succ])
          refine wpAnyH_ready (rs := [11]) (by kernel_rfl) (by simp) ?_
          refine AllReadyH.cons (o := _) rfl (fun Kx hKx => ?_) ?_
          · go_simp
            go_at_call 35
            with_reducible refine Calls.mono HAx.out ?_
            rintro e w8 ⟨AX, nX, cX, RX, L2, rfl, hlX, oX, mX, aX, gX⟩
            have HO8 := Lib.hid (own_bx gX HMd.out HOd.out (fun g hg => (HOd.out.lt g hg).2))
            have HB8 := Lib.hid (HBd.out.trans (gX.mono hszV))
            have hnX : nX ≤ nr + 1 := by have h : RX.length ≤ l.length + 1 := aX.len; omega
            have hszX : V.heap.size ≤ w8.heap.size := gX.size
            have HAd := Lib.hid (add_any m w5.heap.size qb L2 K f R RX (some ⟨ab, ao, none⟩) AX c z cX nX w8 (HQd.out.bx gX HMd.out (show B ≤ V.heap.size by omega)).c2 mX HO8.out HZ.out (Reads.of_own oX) (fun b' o' e e2 => by
              subst e
              have h1 : V.heap.size ≤ b' := (oX.lt b' rfl).1
              have h2 : b' < V.heap.size := (HOd.out.lt b' e2).2
              omega) (by omega) (by omega) (by omega) (by omega))
            have HCn := Lib.hid (HNx.out _ _ aX)
            clear hlX oX mX aX gX HO8
            (try go_wp2_with fail)
            refine hKx.out _ _ ?_ (fun hHeld => ?_)
            · exact trivial
            clear hKx Kx
            (try simp only [Act.put, List.setIfInBounds_toArray, List.set_cons_zero, List.set_cons_succ])
            refine wpAnyH_ready (rs := [12]) (by kernel_rfl) (by simp) ?_
            refine AllReadyH.cons (o := _) rfl (fun Kx hKx => ?_) ?_
            · go_simp
              go_at_call 44
              with_reducible refine Calls.mono HAd.out ?_
              rintro e w9 ⟨A9, c9, rfl, o9, m9, g9⟩
              obtain ⟨n9, hn9⟩ : ∃ n, (R ++ adds L2 K f RX).length = n := ⟨_, rfl⟩
              rw [hn9] at o9 ⊢
              have HN9 := Lib.hid hn9
              clear hn9
              have HO9 := Lib.hid o9
              have HM9 := Lib.hid m9
              have HB9 := Lib.hid (HB8.out.trans g9)
              clear o9 m9 g9
              (try go_wp2_with fail)
              refine hKx.out _ _ ?_ (fun hHeld => ?_)
              · exact trivial
              clear hKx Kx
              (try simp only [Act.put, List.setIfInBounds_toArray, List.set_cons_zero, List.set_cons_succ])
              refine wpAnyH_take (i := 13) (oi := _) (v := ?_) rfl (by kernel_rfl) (by kernel_rfl) (by kernel_rfl) (fun _ _ _ h => h) (Or.inl ⟨by kernel_rfl, ?hy13x10⟩) (by assumption) ?hr13x10
              case hy13x10 =>
                intro w hSw
                (try dsimp only at hSw)
                go_simp
                (try with_reducible rfl)
              (try simp only [Act.put, List.setIfInBounds_toArray, List.set_cons_zero, List.set_cons_succ])
              refine wpAnyH_done (by kernel_rfl) ?_ _
              clear HAx HAd HNx HB8 HOd HMd HBd HQd HC HO HM HB
              go_wp2_with fail
              go_roundw
              case rel => exact ⟨i + 1, n9, c9, A9, R ++ adds L2 K f RX, _, by go_num, rfl, HN9, HO9, HM9, HCn, HB9⟩
              case measure => simp [intOf]; omega
            exact AllReadyH.nil
          exact AllReadyH.nil
        exact AllReadyH.nil
      exact AllReadyH.nil
    · have hiI : ¬ ((i : Int) < (z : Int)) := by omega
      have HD : Hid (Asked l L (.star x0) o F f R L') := Lib.hid (by
        have h := HC.out
        have h1 := HC.out.cx
        have hc : R.take i = R.take R.length := by rw [List.take_of_length_le (by rw [HZ.out]; omega), List.take_length]
        exact (SI.done ⟨h.sx, by rw [← hc]; exact h1, h.sd, h.rs, h.nd, h.nw, h.tx, h.tf, h.wi⟩))
      clear HC
      go_wp2_with fail
      go_ret
      subst hnb
      exact outAsk_of b5 HZ.out HO.out HM.out HD.out HB.out

theorem ask_any (p : QP) : ∀ e, AskOk p e
  | .never => ask_never p
  | .empty => ask_empty p
  | .one s m => ask_one p s m
  | .cat x y => ask_cat p x y (ask_any p x) (ask_any p y)
  | .alt x y => ask_alt p x y (ask_any p x) (ask_any p y)
  | .star x => ask_star p x (ask_any p x)
end Go.Proofs.Ytfpiackfhdiapaa.S
