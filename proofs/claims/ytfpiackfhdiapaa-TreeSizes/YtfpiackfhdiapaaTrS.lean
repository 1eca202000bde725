/- What Same of package tree returns. -/
import Derived.Test.YtfpiackfhdiapaaTrO
namespace Go.Proofs.Ytfpiackfhdiapaa.S
open Go.RowKit Go.BigFrame
set_option linter.unusedVariables false
set_option linter.unusedSimpArgs false

/-- Two trees alike in all. -/
noncomputable def eqN (P Q : List Nd) : Bool := @decide (P = Q) (Classical.propDecidable _)
theorem eqN_yes {P Q : List Nd} (h : P = Q) : eqN P Q = true := @decide_eq_true _ (Classical.propDecidable _) h
theorem eqN_no {P Q : List Nd} (h : ¬ P = Q) : eqN P Q = false := @decide_eq_false _ (Classical.propDecidable _) h
theorem eqN_iff {P Q : List Nd} : eqN P Q = true ↔ P = Q := ⟨fun h => by unfold eqN at h; exact @of_decide_eq_true _ (Classical.propDecidable _) h, eqN_yes⟩
def strE (x y : ByteArray) : Bool := x.data.toList == y.data.toList
theorem strE_iff {x y : ByteArray} : strE x y = true ↔ x = y := by
  obtain ⟨⟨x⟩⟩ := x
  obtain ⟨⟨y⟩⟩ := y
  simp [strE]
theorem strE_b (x y : ByteArray) : (x == y) = strE x y ∧ (x.toList == y.toList) = strE x y ∧ (x.data.toList == y.data.toList) = strE x y :=
  ⟨by rw [beq_toListBytes, ByteArray.toList_eq, ByteArray.toList_eq]; rfl, by rw [ByteArray.toList_eq, ByteArray.toList_eq]; rfl, rfl⟩
/-- Two nodes alike in all. -/
def ndE (x y : Nd) : Bool := (x.k == y.k) && ((x.a == y.a) && ((x.b == y.b) && (strE x.m y.m && eqL x.s y.s)))
theorem eqL_iff {P Q : List Rg} : eqL P Q = true ↔ P = Q := by unfold eqL; simp
theorem ndE_iff (x y : Nd) : ndE x y = true ↔ x = y := by
  obtain ⟨k, a, b, s, m⟩ := x
  obtain ⟨k', a', b', s', m'⟩ := y
  unfold ndE
  simp only [Bool.and_eq_true, beq_iff_eq, strE_iff, eqL_iff, Nd.mk.injEq]
  constructor
  · rintro ⟨h1, h2, h3, h4, h5⟩; exact ⟨h1, h2, h3, h5, h4⟩
  · rintro ⟨h1, h2, h3, h5, h4⟩; exact ⟨h1, h2, h3, h4, h5⟩

theorem below_new2' (w : World) (k a b : Int) (A : Option Addr) (n c : Nat) (m : ByteArray) (k' a' b' : Int) (A' : Option Addr) (n' c' : Nat) (m' : ByteArray) :
    Below w.heap.size w ((w.alloc (.cells #[.int .i64 k, .int .i64 a, .int .i64 b, .slice A n c, .string m] 48)).alloc (.cells #[.int .i64 k', .int .i64 a', .int .i64 b', .slice A' n' c', .string m'] 48)) :=
  (below_new w _).alloc (by simp) _
set_option maxHeartbeats 4000000 in
theorem same1_any (x y : NV) (w : World) (hx : x.ok w w.heap.size) (hy : y.ok w w.heap.size) (nx : x.n ≤ 1000000) (ny : y.n ≤ 1000000) :
    Calls Try.prog 38 #[x.v, y.v] w fun e w' => e = .returned (.bool (ndE x.nd y.nd)) ∧ Below w.heap.size w w' := by
  obtain ⟨k, a, b, A, n, c, s, m⟩ := x
  obtain ⟨k', a', b', A', n', c', s', m'⟩ := y
  obtain ⟨hl, _, hr⟩ := hx
  obtain ⟨hl', _, hr'⟩ := hy
  simp only [] at hl hr hl' hr' nx ny
  have HS := Lib.hid (fun V (g : Below w.heap.size w V) => same_n s s' n n' hl hl' A A' c c' V (hr.on g) (hr'.on g) (by omega))
  have hd : ndE (NV.nd ⟨k, a, b, A, n, c, s, m⟩) (NV.nd ⟨k', a', b', A', n', c', s', m'⟩) = ((k == k') && ((a == a') && ((b == b') && (strE m m' && eqL s s')))) := rfl
  rw [hd]
  simp only [NV.v]
  obtain ⟨t1, t2, t3⟩ := strE_b m m'
  generalize strE m m' = qm at *
  generalize eqL s s' = qs at *
  clear hl hl' hr hr' hd
  have b1 := below_new2' w k a b A n c m k' a' b' A' n' c' m'
  generalize hk : (k == k') = qk at *
  generalize ha : (a == a') = qa at *
  generalize hb : (b == b') = qb at *
  cases qk
  · go_enter Try.func38, Try.ntmps38
    go_wp2_with fail
    go_ret
    exact ⟨rfl, b1⟩
  cases qa
  · go_enter Try.func38, Try.ntmps38
    go_wp2_with fail
    go_ret
    exact ⟨rfl, b1⟩
  cases qb
  · go_enter Try.func38, Try.ntmps38
    go_wp2_with fail
    go_ret
    exact ⟨rfl, b1⟩
  cases qm
  · go_enter Try.func38, Try.ntmps38
    go_wp2_with fail
    go_ret
    exact ⟨rfl, b1⟩
  go_enter Try.func38, Try.ntmps38
  go_wp2_with fail
  refine (HS.out _ b1).mono ?_
  rintro e w2 ⟨rfl, g⟩
  go_wp2_with fail
  go_ret
  exact ⟨ret_bool (by simp), b1.trans (g.mono b1.size)⟩

theorem nds_take {L : List NV} {k : Nat} : nds (L.take k) = (nds L).take k := by simp [nds, List.map_take]
set_option maxHeartbeats 4000000 in
theorem eqFunc_same (n : Nat) (P Q : List NV) (A B : Option Addr) (c d : Nat) (w : World) (hP : RT w w.heap.size A n P) (hQ : RT w w.heap.size B n Q) (sP : SmT P) (sQ : SmT Q) (hn : n ≤ 100000) :
    Calls Try.prog 37 #[.slice A n c, .slice B n d, .func (.func 38) #[] #[]] w fun e w' => e = .returned (.bool (eqN (nds P) (nds Q))) ∧ Below w.heap.size w w' := by
  have HP := Lib.hid hP
  have HQ := Lib.hid hQ
  have LP := Lib.hid hP.1
  have LQ := Lib.hid hQ.1
  have SP := Lib.hid sP
  have SQ := Lib.hid sQ
  have hnn : ((n : Int) != (n : Int)) = false := by simp
  clear hP hQ sP sQ
  go_enter Try.func37, Try.ntmps37
  go_wp2_with fail
  go_loopw [17] (fun i wr => ∃ (k : Nat), k ≤ n ∧ i = .int .i64 k ∧ Below w.heap.size w wr ∧ Hid ((nds P).take k = (nds Q).take k)) (fun i _ => n - (intOf i).toNat)
  case atStart => exact ⟨0, Nat.zero_le _, rfl, Below.refl _ _, Lib.hid rfl⟩
  case round =>
    obtain ⟨k, hk, rfl, hb, HE⟩ := hrel
    have hsz := hb.size
    by_cases hlt : k < n
    · have kP : k < P.length := by rw [LP.out]; exact hlt
      have kQ : k < Q.length := by rw [LQ.out]; exact hlt
      obtain ⟨bp, op, rfl, hbp, p0, p1, p2, p3, p4, hokP⟩ := ((HP.out.below hb).more hsz).at kP
      obtain ⟨bq, oq, rfl, hbq, r0, r1, r2, r3, r4, hokQ⟩ := ((HQ.out.below hb).more hsz).at kQ
      have HtP := Lib.hid (nds_take_succ kP)
      have HtQ := Lib.hid (nds_take_succ kQ)
      have HN : Hid (P[k].nd = Q[k].nd → (nds P).take (k + 1) = (nds Q).take (k + 1)) := Lib.hid (fun h => by rw [HtP.out, HtQ.out, HE.out, h])
      have HK : Hid (nds P = nds Q → P[k].nd = Q[k].nd) := Lib.hid (fun h => by
        have e1 := nds_at kP
        have e2 := nds_at kQ
        rw [← e1, ← e2]
        simp only [h])
      have hs1 := (SP.out _ (List.getElem_mem kP)).1
      have hs2 := (SQ.out _ (List.getElem_mem kQ)).1
      have HC := Lib.hid (fun V (g : Below wr.heap.size wr V) => same1_any P[k] Q[k] V (hokP.on g) (hokQ.on g) (by omega) (by omega))
      have HI := Lib.hid (ndE_iff P[k].nd Q[k].nd)
      clear hokP hokQ HtP HtQ
      generalize P[k] = x at *
      generalize Q[k] = y at *
      obtain ⟨xk, xa, xb, xA, xn, xc, xs, xm⟩ := x
      obtain ⟨yk, ya, yb, yA, yn, yc, ys, ym⟩ := y
      simp only [NV.v, NV.nd] at p0 p1 p2 p3 p4 r0 r1 r2 r3 r4 HC HN HK HI
      obtain ⟨q, hq⟩ : ∃ q, ndE ⟨xk, xa, xb, xs, xm⟩ ⟨yk, ya, yb, ys, ym⟩ = q := ⟨_, rfl⟩
      rw [hq] at HC HI
      clear hq
      have b1 := below_new2' wr xk xa xb xA xn xc xm yk ya yb yA yn yc ym
      go_wp2_with fail
      refine (HC.out _ b1).mono ?_
      rintro e w2 ⟨rfl, g⟩
      have b2 := hb.trans ((b1.trans (g.mono b1.size)).mono hsz)
      clear g b1 HC p0 p1 p2 p3 p4 r0 r1 r2 r3 r4
      cases q with
      | false =>
        have HD : Hid (eqN (nds P) (nds Q) = false) := Lib.hid (eqN_no (fun h => by have := HI.out.2 (HK.out h); cases this))
        go_wp2_with fail
        go_ret
        exact ⟨ret_bool HD.out.symm, b2⟩
      | true =>
        have HE' := Lib.hid (HN.out (HI.out.1 rfl))
        clear HN HK HE HI
        go_wp2_with fail
        go_roundw
        case rel => exact ⟨k + 1, by omega, by go_num, b2, HE'⟩
        case measure => simp [intOf]; omega
    · have HD : Hid (eqN (nds P) (nds Q) = true) := Lib.hid (eqN_yes (by
        have h := HE.out
        rwa [List.take_of_length_le (by rw [nds_len, LP.out]; omega), List.take_of_length_le (by rw [nds_len, LQ.out]; omega)] at h))
      go_wp2_with fail
      go_ret
      exact ⟨ret_bool HD.out.symm, hb⟩
theorem eqFunc_other (n m : Nat) (A B : Option Addr) (c d : Nat) (w : World) (h : n ≠ m) :
    Calls Try.prog 37 #[.slice A n c, .slice B m d, .func (.func 38) #[] #[]] w fun e w' => e = .returned (.bool false) ∧ Below w.heap.size w w' := by
  have h' : ((n : Int) != (m : Int)) = true := by rw [bne_iff_ne]; omega
  clear h
  go_enter Try.func37, Try.ntmps37
  go_wp2_with fail
  go_ret
  exact ⟨rfl, Below.refl _ _⟩
theorem treeSame_any (n m : Nat) (P Q : List NV) (A B : Option Addr) (c d : Nat) (w : World) (hP : RT w w.heap.size A n P) (hQ : RT w w.heap.size B m Q) (sP : SmT P) (sQ : SmT Q) (hn : n ≤ 100000) :
    Calls Try.prog 24 #[.slice A n c, .slice B m d] w fun e w' => e = .returned (.bool (eqN (nds P) (nds Q))) ∧ Below w.heap.size w w' := by
  have H : Hid (Calls Try.prog 37 #[.slice A n c, .slice B m d, .func (.func 38) #[] #[]] w fun e w' => e = .returned (.bool (eqN (nds P) (nds Q))) ∧ Below w.heap.size w w') := Lib.hid (by
    by_cases h : n = m
    · subst h; exact eqFunc_same n P Q A B c d w hP hQ sP sQ hn
    · rw [eqN_no (fun e => h (by rw [← hP.1, ← hQ.1, ← nds_len, ← nds_len, e]))]; exact eqFunc_other n m A B c d w h)
  clear hP hQ
  go_enter Try.func24, Try.ntmps24
  go_wp2_with fail
  refine H.out.mono ?_
  rintro e w1 ⟨rfl, b1⟩
  go_wp2_with fail
  go_ret
  exact ⟨rfl, b1⟩
end Go.Proofs.Ytfpiackfhdiapaa.S
