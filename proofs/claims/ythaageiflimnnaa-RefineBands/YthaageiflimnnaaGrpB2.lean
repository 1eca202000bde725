/- The document's Has once more: that draws only grow. -/
import Derived.Test.YthaageiflimnnaaGrpC
import Derived.Test.YthaageiflimnnaaGrpT
import Derived.Test.YthaageiflimnnaaGrpF
import Derived.Deep.RegionHeld3
namespace Go.Proofs.Ythaageiflimnnaa
open Go.RowKit Go.BigFrame
set_option linter.unusedVariables false
set_option linter.unusedSimpArgs false
def BelowD (n : Nat) (w w' : World) : Prop := Below n w w' ∧ w.drawn ≤ w'.drawn
theorem BelowD.refl (n : Nat) (w : World) : BelowD n w w := ⟨Below.refl _ _, Nat.le_refl _⟩
theorem BelowD.size {n : Nat} {w w' : World} (h : BelowD n w w') : w.heap.size ≤ w'.heap.size := h.1.size
theorem BelowD.trans {n : Nat} {a b c : World} (h : BelowD n a b) (k : BelowD n b c) : BelowD n a c := ⟨h.1.trans k.1, Nat.le_trans h.2 k.2⟩
theorem BelowD.mono {n m : Nat} {w w' : World} (h : BelowD n w w') (hm : m ≤ n) : BelowD m w w' := ⟨h.1.mono hm, h.2⟩
theorem BelowD.alloc {n : Nat} {a w : World} (h : BelowD n a w) (hz : n ≤ w.heap.size) (o : Obj) : BelowD n a (w.alloc o) := ⟨h.1.alloc hz o, h.2⟩
theorem belowD_drewN {B : Nat} {a w : World} (h : BelowD B a w) (n : Nat) : BelowD B a (w.drewN n) := ⟨below_drewN h.1 n, Nat.le_trans h.2 (Nat.le_add_right _ _)⟩

set_option maxHeartbeats 2000000 in
theorem refGood_d (n : Nat) (l : List Rg) (hl : l.length = n) (A : Option Addr) (c : Nat) (w : World) (hR : Reads w w.heap.size 2 A n (rcells l)) (hn : n ≤ 1000000) :
    Calls Try.prog 22 #[.slice A n c] w fun e w' => e = .returned (.bool (goodB l)) ∧ BelowD w.heap.size w w' := by
  have HR := Lib.hid hR
  have HL := Lib.hid hl
  clear hR hl
  go_enter Try.func22, Try.ntmps22
  go_wp2_with fail
  go_loopw [3] (fun i wr => ∃ (k : Nat), k ≤ n ∧ i = .int .i64 k ∧ BelowD w.heap.size w wr ∧ Hid (GInv l k)) (fun i _ => n - (intOf i).toNat)
  case atStart => exact ⟨0, Nat.zero_le _, rfl, BelowD.refl _ _, Lib.hid (gInv_start l)⟩
  case round =>
    obtain ⟨k, hk, rfl, hb, HG⟩ := hrel
    have hsz := hb.size
    by_cases hlt : k < n
    · have kl : k < l.length := by rw [HL.out]; exact hlt
      obtain ⟨b, o, rfl, hbb, p0, p1⟩ := (HR.out.below hb.1).rg kl
      have HF : Hid (mayB l[k] = false → goodB l = false) := Lib.hid (fun h => gInv_may HG.out kl h)
      have HM : Hid (mayB l[k] = true → (k = 0 ∧ GInv l 1) ∨ ∃ y0 y1 : Int, 0 < k ∧ wr.cell? ⟨b, o + (k - 1) * 2 + 1, none⟩ = some (.int .i64 y1) ∧ (apB (y0, y1) l[k] = false → goodB l = false) ∧ (apB (y0, y1) l[k] = true → GInv l (k + 1))) := Lib.hid (fun h => by
        cases k with
        | zero => exact .inl ⟨rfl, gInv_zero HG.out kl h⟩
        | succ k =>
          have kp : k < l.length := by omega
          obtain ⟨b', o', hA, _, q0, q1⟩ := (HR.out.below hb.1).rg kp
          injection hA with hA
          injection hA with hA1 hA2
          subst hA1 hA2
          exact .inr ⟨l[k].1, l[k].2, by omega, q1, fun h2 => gInv_ap HG.out kl h h2, fun h2 => gInv_next HG.out kl h h2⟩)
      generalize l[k] = x at *
      obtain ⟨x0, x1⟩ := x
      simp only [] at p0 p1
      have hd : mayB (x0, x1) = (isB x0 && (isB x1 && decide (x0 ≤ x1))) := rfl
      cases hx : isB x0
      · have HX := Lib.hid (HF.out (by rw [hd, hx]; rfl))
        clear HM HF HG hd
        go_wp2_with fail
        go_big_quiet (first | (go_at_call 24; refine Calls.quiet_of_same (refIs_q _ _)))
        go_wp2_with fail
        go_ret
        exact ⟨ret_bool HX.out.symm, belowD_drewN hb _⟩
      · cases hy : isB x1
        · have HX := Lib.hid (HF.out (by rw [hd, hx, hy]; rfl))
          clear HM HF HG hd
          go_wp2_with fail
          go_big_quiet (first | (go_at_call 24; refine Calls.quiet_of_same (refIs_q _ _)))
          go_wp2_with fail
          go_ret
          exact ⟨ret_bool HX.out.symm, belowD_drewN hb _⟩
        · by_cases hxy : x1 < x0
          · have HX := Lib.hid (HF.out (by rw [hd, hx, hy, decide_eq_false (by omega)]; rfl))
            clear HM HF HG hd
            go_wp2_with fail
            go_big_quiet (first | (go_at_call 24; refine Calls.quiet_of_same (refIs_q _ _)))
            go_wp2_with fail
            go_ret
            exact ⟨ret_bool HX.out.symm, belowD_drewN hb _⟩
          · have hM := HM.out (by rw [hd, hx, hy, decide_eq_true (by omega)]; rfl)
            have hxy' : decide (x1 < x0) = false := decide_eq_false hxy
            clear HM HF HG hd
            rcases hM with ⟨rfl, hG⟩ | ⟨y0, y1, hk0, q1, hN, hY⟩
            · have HX := Lib.hid hG
              clear hG
              simp only [Nat.zero_mul, Nat.add_zero] at p0 p1
              go_wp2_with fail
              go_big_quiet (first | (go_at_call 24; refine Calls.quiet_of_same (refIs_q _ _)))
              go_wp2_with fail
              go_roundw
              case rel => exact ⟨1, by omega, by go_num, belowD_drewN hb _, HX⟩
              case measure => simp [intOf]; omega
            · obtain ⟨j, rfl⟩ : ∃ j, k = j + 1 := ⟨k - 1, by omega⟩
              have HN := Lib.hid hN
              have HY := Lib.hid hY
              have hap : apB (y0, y1) (x0, x1) = (nextB y1 && decide (nextN y1 < x0)) := rfl
              rw [show j + 1 - 1 = j by omega] at q1
              have hcn := fun W => refNext_n y1 W
              rw [hap] at HN HY
              clear hN hY hap
              generalize nextB y1 = nb at *
              generalize nextN y1 = nn at *
              go_wp2_with fail
              go_big_quiet (first | (go_at_call 24; refine Calls.quiet_of_same (refIs_q _ _)))
              have b2 := belowD_drewN hb nq
              have p0' : (wr.drewN nq).cell? ⟨b, o + (j + 1) * 2, none⟩ = some (.int .i64 x0) := p0
              have q1' : (wr.drewN nq).cell? ⟨b, o + j * 2 + 1, none⟩ = some (.int .i64 y1) := q1
              clear hb p0 p1 q1
              generalize wr.drewN nq = w2 at *
              go_wp2_with fail
              refine (hcn _).mono ?_
              rintro e w3 ⟨rfl, g3', d3⟩
              have g3 : BelowD w2.heap.size w2 w3 := ⟨g3', d3⟩
              have b3 := b2.trans (g3.mono b2.size)
              have p0'' := kept_cell g3.1 p0'
              have hs3 := b3.size
              clear p0' q1' g3 b2
              cases nb
              · have HX := Lib.hid (HN.out rfl)
                clear HN HY
                go_wp2_with fail
                have c0 : (w3.alloc (.cells #[.int .i64 nn, .bool false] 79)).cell? ⟨w3.heap.size, 0, none⟩ = some (.int .i64 nn) := by simp
                have c1 : (w3.alloc (.cells #[.int .i64 nn, .bool false] 79)).cell? ⟨w3.heap.size, 1, none⟩ = some (.bool false) := by simp
                have c2 := cell_alloc (.cells #[.int .i64 nn, .bool false] 79) p0''
                have b4 := b3.alloc hs3 (.cells #[.int .i64 nn, .bool false] 79)
                generalize w3.alloc (.cells #[.int .i64 nn, .bool false] 79) = w4 at *
                go_big_quiet (fail)
                go_wp2_with fail
                go_ret
                exact ⟨ret_bool HX.out.symm, belowD_drewN b4 _⟩
              · by_cases hnx : nn < x0
                · have HX := Lib.hid (HY.out (by rw [decide_eq_true hnx]; rfl))
                  have hnx' : decide (x0 ≤ nn) = false := decide_eq_false (by omega)
                  clear HN HY
                  go_wp2_with fail
                  have c0 : (w3.alloc (.cells #[.int .i64 nn, .bool true] 79)).cell? ⟨w3.heap.size, 0, none⟩ = some (.int .i64 nn) := by simp
                  have c1 : (w3.alloc (.cells #[.int .i64 nn, .bool true] 79)).cell? ⟨w3.heap.size, 1, none⟩ = some (.bool true) := by simp
                  have c2 := cell_alloc (.cells #[.int .i64 nn, .bool true] 79) p0''
                  have b4 := b3.alloc hs3 (.cells #[.int .i64 nn, .bool true] 79)
                  generalize w3.alloc (.cells #[.int .i64 nn, .bool true] 79) = w4 at *
                  go_big_quiet (fail)
                  go_wp2_with fail
                  go_roundw
                  case rel => exact ⟨j + 1 + 1, by omega, by go_num, belowD_drewN b4 _, HX⟩
                  case measure => simp [intOf]; omega
                · have HX := Lib.hid (HN.out (by rw [decide_eq_false hnx]; rfl))
                  have hnx' : decide (x0 ≤ nn) = true := decide_eq_true (by omega)
                  clear HN HY
                  go_wp2_with fail
                  have c0 : (w3.alloc (.cells #[.int .i64 nn, .bool true] 79)).cell? ⟨w3.heap.size, 0, none⟩ = some (.int .i64 nn) := by simp
                  have c1 : (w3.alloc (.cells #[.int .i64 nn, .bool true] 79)).cell? ⟨w3.heap.size, 1, none⟩ = some (.bool true) := by simp
                  have c2 := cell_alloc (.cells #[.int .i64 nn, .bool true] 79) p0''
                  have b4 := b3.alloc hs3 (.cells #[.int .i64 nn, .bool true] 79)
                  generalize w3.alloc (.cells #[.int .i64 nn, .bool true] 79) = w4 at *
                  go_big_quiet (fail)
                  go_wp2_with fail
                  go_ret
                  exact ⟨ret_bool HX.out.symm, belowD_drewN b4 _⟩
    · have HT : Hid (goodB l = true) := Lib.hid (gInv_end HG.out (by rw [HL.out]; exact hlt))
      go_wp2_with fail
      go_ret
      exact ⟨ret_bool HT.out.symm, hb⟩

set_option maxHeartbeats 1000000 in
theorem refHas_d (l : List Rg) (n : Nat) (hl : l.length = n) (A : Option Addr) (c : Nat) (v : Int) (w : World) (hR : Reads w w.heap.size 2 A n (rcells l)) (hn : n ≤ 1000000) :
    Calls Try.prog 25 #[.slice A n c, .int .i64 v] w fun e w' => e = .returned (.bool (hasB l v)) ∧ BelowD w.heap.size w w' := by
  have HR := Lib.hid hR
  have HL := Lib.hid hl
  have HGd := Lib.hid (fun W h => refGood_d n l hl A c W h hn)
  clear hR hl
  go_enter Try.func25, Try.ntmps25
  go_wp2_with fail
  go_loopw [5] (fun i wr => ∃ (k : Nat), k ≤ n ∧ i = .int .i64 k ∧ wr = w ∧ Hid (inB (l.take k) v = false)) (fun i _ => n - (intOf i).toNat)
  case atStart => exact ⟨0, Nat.zero_le _, rfl, rfl, Lib.hid (by simp [inB])⟩
  case round =>
    obtain ⟨k, hk, rfl, rfl, HG⟩ := hrel
    by_cases hlt : k < n
    · have kl : k < l.length := by rw [HL.out]; exact hlt
      obtain ⟨b, o, rfl, hbb, p0, p1⟩ := HR.out.rg kl
      have HT : Hid ((decide (l[k].1 ≤ v) && decide (v ≤ l[k].2)) = true → inB l v = true) := Lib.hid (fun h => inB_at l k kl v h)
      have HF : Hid ((decide (l[k].1 ≤ v) && decide (v ≤ l[k].2)) = false → inB (l.take (k + 1)) v = false) := Lib.hid (fun h => by rw [inB_take l k kl, HG.out, h]; rfl)
      generalize l[k] = x at *
      obtain ⟨x0, x1⟩ := x
      simp only [] at p0 p1
      by_cases c1 : x0 ≤ v
      · by_cases c2 : v ≤ x1
        · have HX := Lib.hid (HT.out (by rw [decide_eq_true c1, decide_eq_true c2]; rfl))
          have HB : Hid (hasB l v = (isB v && goodB l)) := Lib.hid (by unfold hasB; rw [HX.out, Bool.and_true])
          clear HT HF HG HX
          have h1 := fun W => refIs_any v W
          cases hi : isB v
          · rw [hi] at h1
            go_wp2_with fail
            refine (h1 _).mono ?_
            rintro e w1 ⟨rfl, rfl⟩
            go_wp2_with fail
            go_ret
            exact ⟨ret_bool (by rw [HB.out, hi]; rfl), BelowD.refl _ _⟩
          · rw [hi] at h1
            go_wp2_with fail
            refine (h1 _).mono ?_
            rintro e w1 ⟨rfl, rfl⟩
            go_wp2_with fail
            refine (HGd.out _ HR.out).mono ?_
            rintro e w2 ⟨rfl, b2⟩
            go_wp2_with fail
            go_ret
            exact ⟨ret_bool (by rw [HB.out, hi]; simp), b2⟩
        · have HX := Lib.hid (HF.out (by rw [decide_eq_false c2]; simp))
          clear HT HF HG
          go_wp2_with fail
          go_roundw
          case rel => exact ⟨k + 1, by omega, by go_num, (by first | rfl | trivial), HX⟩
          case measure => simp [intOf]; omega
      · have HX := Lib.hid (HF.out (by rw [decide_eq_false c1]; simp))
        clear HT HF HG
        go_wp2_with fail
        go_roundw
        case rel => exact ⟨k + 1, by omega, by go_num, (by first | rfl | trivial), HX⟩
        case measure => simp [intOf]; omega
    · have HX : Hid (hasB l v = false) := Lib.hid (by
        have h := HG.out
        rw [List.take_of_length_le (by rw [HL.out]; omega)] at h
        unfold hasB
        rw [h]; simp)
      go_wp2_with fail
      go_ret
      exact ⟨ret_bool HX.out.symm, BelowD.refl _ _⟩

end Go.Proofs.Ythaageiflimnnaa
/- The law of bands, where sets are too many or too large, or have no parts. -/
namespace Go.Proofs.Ythaageiflimnnaa.refineBands
open Go.ChangeShapes Go.WideShapes Go.ChangeAt Go.RowKit Go.BigFrame
set_option linter.unusedVariables false
set_option linter.unusedSimpArgs false

set_option maxRecDepth 100000 in
set_option maxHeartbeats 4000000 in
theorem walk_unfair (H : List Hd) (n : Nat) (A : Option Addr) (c : Nat) (v : List Int) (m : Nat) (B : Option Addr) (d : Nat) (w : World) (hN : Nest w w.heap.size A n H) (hf : fairB H = false) :
    Calls Try.prog 6 #[.slice A n c, .slice B m d] w fun e w' => e = .returned (.bool true) ∧ Below w.heap.size w w' := by
  have HF := fun W h => fair_n H n A c W h
  rw [hf] at HF
  have HX := Lib.hid (HF _ hN)
  clear hN HF hf
  go_enter Try.func6, Try.ntmps6
  go_wp2_with fail
  refine HX.out.mono ?_
  rintro e w1 ⟨rfl, rfl⟩
  go_wp2_with fail
  refine (wakes_any _).mono ?_
  rintro e w2 ⟨rfl, g⟩
  go_wp2_with fail
  go_ret
  exact ⟨rfl, g⟩

set_option maxRecDepth 100000 in
set_option maxHeartbeats 4000000 in
theorem walk_large (H : List Hd) (n : Nat) (A : Option Addr) (c : Nat) (v : List Int) (m : Nat) (B : Option Addr) (d : Nat) (w : World) (hN : Nest w w.heap.size A n H) (hf : fairB H = true) (hm : 20 < m) :
    Calls Try.prog 6 #[.slice A n c, .slice B m d] w fun e w' => e = .returned (.bool true) ∧ Below w.heap.size w w' := by
  have HF := fun W h => fair_n H n A c W h
  rw [hf] at HF
  have HX := Lib.hid (HF _ hN)
  clear hN HF hf
  go_enter Try.func6, Try.ntmps6
  go_wp2_with fail
  refine HX.out.mono ?_
  rintro e w1 ⟨rfl, rfl⟩
  go_wp2_with fail
  refine (wakes_any _).mono ?_
  rintro e w2 ⟨rfl, g⟩
  go_wp2_with fail
  go_ret
  exact ⟨rfl, g⟩

set_option maxRecDepth 100000 in
set_option maxHeartbeats 4000000 in
theorem walk_none (H : List Hd) (n : Nat) (A : Option Addr) (c : Nat) (v : List Int) (m : Nat) (B : Option Addr) (d : Nat) (w : World) (hN : Nest w w.heap.size A n H) (hf : fairB H = true) (hm : m ≤ 20)
    (hp : Calls Try.prog 12 #[.slice A n c] w (OutNil w)) :
    Calls Try.prog 6 #[.slice A n c, .slice B m d] w fun e w' => e = .returned (.bool true) ∧ Below w.heap.size w w' := by
  have HF := fun W h => fair_n H n A c W h
  rw [hf] at HF
  have HX := Lib.hid (HF _ hN)
  have HP := Lib.hid hp
  clear hN HF hf hp
  go_enter Try.func6, Try.ntmps6
  go_wp2_with fail
  refine HX.out.mono ?_
  rintro e w1 ⟨rfl, rfl⟩
  go_wp2_with fail
  refine HP.out.mono ?_
  rintro e w2 ⟨rfl, g2⟩
  go_wp2_with fail
  refine (wakes_any _).mono ?_
  rintro e w3 ⟨rfl, g3⟩
  go_wp2_with fail
  go_ret
  exact ⟨rfl, g2.trans (g3.mono g2.size)⟩
end Go.Proofs.Ythaageiflimnnaa.refineBands
/- The law of bands, where there are parts. -/
namespace Go.Proofs.Ythaageiflimnnaa.refineBands
open Go.ChangeShapes Go.WideShapes Go.ChangeAt Go.RowKit Go.BigFrame
set_option linter.unusedVariables false
set_option linter.unusedSimpArgs false

/-- Where all sets but the first lie. -/
def tailS (b f c : Nat) : Option Addr := if c = 1 then some ⟨b, f, none⟩ else some ⟨b, f + 1, none⟩
theorem wpList_tail22 {w : World} {ops : Array Oper} {rest : List Oper} {o : Oper} {a : Act} {Q : Exit → Act → World → Prop} (hgd : o.guard = none) (x : Operand)
    (ho : o.op = .slice 22 x (some (.const (.int .i64 1))) none none) (b f n c : Nat) (hx : a.eval x = .slice (some ⟨b, f, none⟩) (n + 1) c) (hc : n + 1 ≤ c) (hm : c ≤ maxLen)
    (h : wpList Try.prog ops Q rest (a.put o.dst (.slice (tailS b f c) n (tailC c))) w) : wpList Try.prog ops Q (o :: rest) a w := by
  refine wpList_plain hgd fun K hK => ?_
  have h1 : (1 : Int) ≤ ((n + 1 : Nat) : Int) := by omega
  have h2 : n + 1 - 1 = n := by omega
  unfold maxLen at hm
  have hrun : (Instr.sliceAt 22 (.slice (some ⟨b, f, none⟩) (n + 1) c) (some (.int .i64 1)) none none).run Try.prog w = .ok (.slice (if c = 1 then some ⟨b, f, none⟩ else some ⟨b, f + 1, none⟩) n (c - 1)) w := by
    simp [go_sem, Try.underlying22, Try.sizeOf48]
    intro h
    omega
  unfold Oper.wp execOp
  simp only [ho, hx, Option.map_some, Option.map_none, BigFrame.eval_const, Sem.run_bind, Sem.run_pure, Result.andThen_ok, hrun]
  exact hK _ _ h
theorem nest_tail {w : World} {B b o n c : Nat} {x : Hd} {H : List Hd} (hc : n + 1 ≤ c) (h : Nest w B (some ⟨b, o, none⟩) (n + 1) (x :: H)) : Nest w B (tailS b o c) n H := by
  have h1 := h.1
  rw [List.length_cons] at h1
  refine ⟨by omega, ⟨by rw [hcells_len, Nat.mul_one]; omega, fun hp => ?_⟩, fun y hy => h.2.2 y (List.mem_cons_of_mem _ hy)⟩
  obtain ⟨b', o', e, hb, hcl⟩ := h.2.1.2 (by omega)
  injection e with e
  injection e with e1 e2
  subst e1 e2
  refine ⟨b, o + 1, by unfold tailS; rw [if_neg (by omega)], hb, fun j u hj => ?_⟩
  rw [show o + 1 + j = o + (j + 1) by omega]
  exact hcl (j + 1) u (by simpa [hcells] using hj)
/-- Without the first part its scalars have none. -/
theorem tail_no {E : Int → Int → Prop} {p : List Rg} {P : List (List Rg)} (h : Parts E (p :: P)) : ¬ ((∀ s ∈ P, Gd (-1) s) ∧ [] ∉ P ∧ ∀ v, Sc v → Once P v) := by
  rintro ⟨_, _, ho⟩
  obtain ⟨k1, k2⟩ := fst1_in (h.gd p (List.mem_cons_self ..)) (h.ne p (List.mem_cons_self ..))
  obtain ⟨c, hc, hi, _⟩ := ho _ k1
  obtain ⟨d, _, _, hu⟩ := parts_once h _ k1
  have e1 := hu 0 (by simp) k2
  have e2 := hu (c + 1) (by simpa using hc) hi
  omega
theorem refParts_yes (H : List Hd) (n : Nat) (A : Option Addr) (c : Nat) (w : World) (hN : Nest w w.heap.size A n H) (hn : n ≤ 1000) (hm : ∀ h ∈ H, h.n ≤ 1000) (ht : tot (setsOf H) ≤ 1000) (hg : allB (setsOf H) = true) (hx : ¬ Many (Ek (setsOf H))) :
    Calls Try.prog 12 #[.slice A n c] w (OutPY (setsOf H) w) := by
  refine (refParts_n H n A c w hN hn hm ht).mono ?_
  rintro e w' (⟨h, _⟩ | ⟨_, h, _⟩ | ⟨_, P, hP, h1, h2, hO⟩)
  · rw [hg] at h; cases h
  · exact absurd h hx
  · exact outYes_py hP h1 h2 hO

set_option maxRecDepth 100000 in
set_option maxHeartbeats 8000000 in
theorem walk_some (H : List Hd) (n : Nat) (A : Option Addr) (c : Nat) (v : List Int) (m : Nat) (hv : v.length = m) (B : Option Addr) (d : Nat) (w : World) (hN : Nest w w.heap.size A n H) (hR : Reads w w.heap.size 1 B m (icells v)) (hf : fairB H = true) (hm : m ≤ 20)
    (hp : Calls Try.prog 12 #[.slice A n c] w (OutPY (setsOf H) w)) :
    Calls Try.prog 6 #[.slice A n c, .slice B m d] w fun e w' => e = .returned (.bool true) ∧ Below w.heap.size w w' := by
  have HF := fun W h => fair_n H n A c W h
  rw [hf] at HF
  have HX := Lib.hid (HF _ hN)
  obtain ⟨f1, f2, f3⟩ := fair_facts hf
  have HT : Hid (tot (setsOf H) ≤ 150) := Lib.hid (by rw [tot_lens hN]; exact f3)
  have HR_0 := Lib.hid hR
  have HP := Lib.hid hp
  have HV := Lib.hid hv
  clear hN HF hf hp f1 f2 f3 hR hv
  go_enter Try.func6, Try.ntmps6
  go_wp2_with fail
  refine HX.out.mono ?_
  rintro e w1 ⟨rfl, rfl⟩
  clear HX
  go_wp2_with fail
  refine HP.out.mono ?_
  rintro e W1 ⟨P, A4, c4, z4, H4, rfl, hs4, hp4, hz4, hm4, hn4, hsh4, g⟩
  have HP4 : Hid (Parts (Ek (setsOf H)) (setsOf H4)) := Lib.hid (by rw [hs4]; exact hp4)
  have HM4 : Hid (∀ h ∈ H4, h.n ≤ 1000) := Lib.hid (fun h hh => by have h1 := hm4 h hh; have := HT.out; omega)
  have HN4 : Hid (Nest W1 W1.heap.size A4 z4 H4) := Lib.hid hn4
  have HSh4 := Lib.hid hsh4
  have hz0 : 0 < z4 := by
    obtain ⟨p, hp, _⟩ := HP4.out.cov 0 sc0
    rw [hn4.len]
    exact List.length_pos_of_mem hp
  have HR_1 := Lib.hid (reads_on HR_0.out g)
  have bb_1 := g
  clear hs4 hp4 hm4 hn4 hsh4 g HP HR_0
  go_wp2_with fail
  refine (bands_yes H4 z4 A4 c4 W1 HN4.out (by omega) HM4.out HP4.out.gd (fun h => HP4.out.ne _ h rfl) (parts_once HP4.out)).mono ?_
  rintro e W3 ⟨bs, A5, c5, n5, rfl, hb5, hl5, ht5, hsh5, hr5, g⟩
  have HB5 := Lib.hid hb5
  have HL5 := Lib.hid hl5
  have hn5 : n5 ≤ 256000 := by
    have h1 := sum_le (setsOf H4) 1000 (fun p hp => by
      obtain ⟨h, hh, rfl⟩ := List.mem_map.1 hp
      rw [(HN4.out.2.2 h hh).1]
      exact HM4.out h hh)
    rw [← HN4.out.len] at h1
    omega
  have HN4_3 := Lib.hid (HN4.out.on g)
  have HR_3 := Lib.hid (reads_on HR_1.out g)
  have HB_3 := Lib.hid hr5
  have bb_3 := bb_1.trans (g.mono bb_1.size)
  obtain ⟨l0, e0⟩ := hb5.zero
  have hn50 : 0 < n5 := by omega
  obtain ⟨b5, o5, rfl, hbb5, c0, c0'⟩ := hr5.rg l0
  rw [e0, Nat.zero_mul, Nat.add_zero] at c0
  have h50 : ((n5 : Int) == 0) = false := by rw [beq_eq_false_iff_ne]; omega
  clear hb5 hl5 ht5 hsh5 hr5 g HR_1 HN4 bb_1 c0' e0
  go_wp2_with fail
  go_loopw [9] (fun vi wr => ∃ k : Nat, k ≤ n5 ∧ vi = .int .i64 k ∧ Below W3.heap.size W3 wr) (fun i _ => n5 - (intOf i).toNat)
  case atStart => exact ⟨0, Nat.zero_le _, rfl, Below.refl _ _⟩
  case round =>
    clear c0
    obtain ⟨k, hk, rfl, hb⟩ := hrel
    have hsz := hb.size
    by_cases hlt : k < n5
    · have kl : k < bs.length := by rw [HL5.out]; exact hlt
      have hcl := HB5.out.cl _ (List.getElem_mem kl)
      have hself : In ((setsOf H4).getD bs[k].2.toNat []) bs[k].1 := HB5.out.here k kl _ (HB5.out.sc _ (List.getElem_mem kl)) (Int.le_refl _) (fun hh => HB5.out.inc k (k + 1) kl hh (by omega))
      have hscb := HB5.out.sc _ (List.getElem_mem kl)
      have hpw : ∀ j, j + 1 = k → ∃ jl : j < bs.length, bs[j].1 < bs[k].1 ∧ bs[j].2 ≠ bs[k].2 := fun j e => by
        subst e
        exact ⟨by omega, HB5.out.inc j (j + 1) (by omega) kl (by omega), HB5.out.chg j kl⟩
      have HRg : Hid (∀ j (jl : j < bs.length) (W : World), Below W3.heap.size W3 W → W.cell? ⟨b5, o5 + j * 2, none⟩ = some (.int .i64 bs[j].1) ∧ W.cell? ⟨b5, o5 + j * 2 + 1, none⟩ = some (.int .i64 bs[j].2)) := Lib.hid (fun j jl W g => by
        obtain ⟨b', o', e', _, p', p''⟩ := (HB_3.out.below g).rg jl
        injection e' with e'
        injection e' with e1 e2
        subst e1 e2
        exact ⟨p', p''⟩)
      obtain ⟨r0, r1⟩ := HRg.out k kl wr hb
      obtain ⟨q, hq⟩ : ∃ q : Nat, bs[k].2 = (q : Int) := ⟨bs[k].2.toNat, by omega⟩
      rw [hq] at r1 hcl hself
      rw [Int.toNat_natCast] at hself
      have cl : q < H4.length := by rw [setsOf_len] at hcl; omega
      have hqz : q < z4 := by rw [← HN4_3.out.1]; exact cl
      have e1 : (setsOf H4).getD q [] = H4[q].s := setsOf_get H4 q cl
      rw [e1] at hself
      have hgx : Gd (-1) H4[q].s := HP4.out.gd _ (List.mem_map.2 ⟨_, List.getElem_mem cl, rfl⟩)
      have hhas : hasB H4[q].s bs[k].1 = true := (hasB_in hgx hscb).2 hself
      obtain ⟨bp, op, e2, hbp, pp, q1, q2, q3⟩ := (HN4_3.out.below hb).at cl
      have hm1 := HM4.out _ (List.getElem_mem cl)
      have HHas := Lib.hid (fun (n : Nat) (os : Array Obj) => refHas_d H4[q].s H4[q].n q1 H4[q].a H4[q].c bs[k].1 (Go.Sort.grow (wr.drewN n) os) (reads_on (q3.more hsz) (below_grown_of wr n os).1) (by omega))
      rw [hhas] at HHas
      have hcz : decide ((q : Int) < 0) = false := decide_eq_false (by omega)
      have hcg : decide ((z4 : Int) ≤ (q : Int)) = false := decide_eq_false (by omega)
      have hcg2 : decide (z4 ≤ q) = false := decide_eq_false (by omega)
      have hcg3 : decide ((q : Int) ≥ (z4 : Int)) = false := decide_eq_false (by omega)
      have hcg4 : ¬ ((z4 : Int) ≤ (q : Int)) := by omega
      have HPw := Lib.hid hpw
      rw [hq] at HPw
      subst e2
      clear hself hscb hpw hcl q1 q2 q3 e1 hgx hhas
      generalize H4[q] = x at *
      obtain ⟨xa, xn, xc, xs⟩ := x
      simp only [] at pp hm1 HHas
      generalize bs[k].1 = f1 at *
      have hic := fun n os => lay_of ((HHas.out n os).mono fun e w' ⟨h1, h2⟩ => ⟨h1, h2.1, h2.2⟩)
      have d0 := fun n os => cell_grown (World.block_lt_of_cell? _ _ r0) r0 n os
      have d1 := fun n os => cell_grown (World.block_lt_of_cell? _ _ r1) r1 n os
      have d2 := fun n os => cell_grown (World.block_lt_of_cell? _ _ pp) pp n os
      by_cases hk0 : k = 0
      · have hd0 : decide ((0 : Int) < (k : Int)) = false := decide_eq_false (by omega)
        have hd0n : decide (0 < k) = false := decide_eq_false (by omega)
        have hd0m : ¬ (0 < k) := by omega
        have HK0 := Lib.hid hk0
        clear hk0 r0 r1 pp
        go_wp2_with fail
        try simp only [List.append_eq, List.cons_append, List.nil_append]
        refine wp_region_quiet_grown mixedTry (by kernel_rfl) ?_
        repeat (go_big_quiet_step (first | (go_at_call 25; refine Calls.grown_of (hic _ _))))
        refine wpQuiet_nil ?_
        intro _ hw'
        obtain ⟨⟨nq, osq⟩, hw''⟩ := hw'
        subst hw''
        have b5' := hb.trans ((below_grown_of wr nq osq).1.mono hsz)
        clear hic d0 d1 d2
        go_wp2_with fail
        go_roundw
        case rel => exact ⟨k + 1, by omega, by go_num, b5'⟩
        case measure => first | (simp [intOf]; done) | (simp [intOf]; omega)
      · obtain ⟨j, rfl⟩ : ∃ j, k = j + 1 := ⟨k - 1, by omega⟩
        obtain ⟨jl, hj1, hj2⟩ := HPw.out j rfl
        obtain ⟨t0, t1⟩ := HRg.out j jl wr hb
        generalize bs[j].1 = f0 at *
        generalize bs[j].2 = y0 at *
        have hle : decide (f1 ≤ f0) = false := decide_eq_false (by omega)
        have hle2 : ¬ (f1 ≤ f0) := by omega
        have heq : ((q : Int) == y0) = false := by rw [beq_eq_false_iff_ne]; exact fun e => hj2 e.symm
        have hpos : decide ((0 : Int) < (j : Int) + 1) = true := decide_eq_true (by omega)
        have hpos2 : decide (0 < j + 1) = true := decide_eq_true (by omega)
        have d3 := fun n os => cell_grown (World.block_lt_of_cell? _ _ t0) t0 n os
        have d4 := fun n os => cell_grown (World.block_lt_of_cell? _ _ t1) t1 n os
        clear r0 r1 pp t0 t1 hj1 hj2 hk0
        go_wp2_with fail
        try simp only [List.append_eq, List.cons_append, List.nil_append]
        refine wp_region_quiet_grown mixedTry (by kernel_rfl) ?_
        repeat (go_big_quiet_step (first | (go_at_call 25; refine Calls.grown_of (hic _ _))))
        refine wpQuiet_nil ?_
        intro _ hw'
        obtain ⟨⟨nq, osq⟩, hw''⟩ := hw'
        subst hw''
        have b5' := hb.trans ((below_grown_of wr nq osq).1.mono hsz)
        clear hic d0 d1 d2 d3 d4
        go_wp2_with fail
        go_roundw
        case rel => exact ⟨j + 1 + 1, by omega, by go_num, b5'⟩
        case measure => first | (simp [intOf]; done) | (simp [intOf]; omega)
    · go_wp2_with fail
      rename World => w8
      go_loopw [10] (fun vi wr => ∃ k : Nat, k ≤ m ∧ vi = .int .i64 k ∧ Below W3.heap.size W3 wr) (fun i _ => m - (intOf i).toNat)
      case atStart => exact ⟨0, Nat.zero_le _, rfl, hb⟩
      case round =>
        clear hb hsz hlt
        obtain ⟨i, hi, rfl, hb⟩ := hrel
        have hsz := hb.size
        by_cases hlt : i < m
        · have iv : i < v.length := by rw [HV.out]; exact hlt
          obtain ⟨bv, ov, rfl, hbv, pv⟩ := (HR_3.out.below hb).int iv
          have HOf := fun W h => of_n bs n5 HL5.out (some ⟨b5, o5, none⟩) c5 v[i] W h (by omega)
          cases hB : isB v[i]
          · have ho := of_not (bs := bs) hB
            rw [ho.1, ho.2] at HOf
            have HO := Lib.hid (HOf wr (reads_on HB_3.out hb))
            have his := fun W => refIs_any v[i] W
            rw [hB] at his
            generalize v[i] = u at *
            clear HOf ho hB
            go_wp2_with fail
            refine HO.out.mono ?_
            rintro e w9 ⟨rfl, g9⟩
            have p9 := kept_cell g9 pv
            have b9 := hb.trans (g9.mono hsz)
            clear HO pv hb g9
            have d0 := fun n os => cell_grown (World.block_lt_of_cell? _ _ p9) p9 n os
            have hic := fun W => lay_of ((his W).mono fun e w' ⟨h1, h2⟩ => ⟨h1, h2 ▸ Below.refl _ _, h2 ▸ Nat.le_refl _⟩)
            go_wp2_with fail
            refine wp_region_quiet_grown mixedTry (by kernel_rfl) ?_
            repeat (go_big_quiet_step (first | (go_at_call 24; refine Calls.grown_of (hic _))))
            refine wpQuiet_nil ?_
            intro _ hw'
            obtain ⟨⟨nq, osq⟩, hw''⟩ := hw'
            subst hw''
            have b10 := b9.trans ((below_grown_of w9 nq osq).1.mono b9.size)
            clear p9 d0 hic his b9
            go_wp2_with fail
            go_roundw
            case rel => exact ⟨i + 1, by omega, by go_num, b10⟩
            case measure => simp [intOf]; omega
          · have hu := (isB_iff _).1 hB
            obtain ⟨h1, h2, h3, h4⟩ := of_bands HB5.out hu
            obtain ⟨c0, hc0⟩ : ∃ c0 : Nat, ofN bs v[i] = (c0 : Int) := ⟨(ofN bs v[i]).toNat, by omega⟩
            rw [hc0] at HOf h3 h4
            rw [h1] at HOf
            rw [Int.toNat_natCast] at h4
            have HO := Lib.hid (HOf wr (reads_on HB_3.out hb))
            have his := fun W => refIs_any v[i] W
            rw [hB] at his
            have cl : c0 < H4.length := by rw [setsOf_len] at h3; omega
            obtain ⟨bp, op, rfl, hbp, pp, q1, q2, q3⟩ := (HN4_3.out.below hb).at cl
            have hcl : c0 < z4 := by rw [← HN4_3.out.1]; exact cl
            have hm1 := HM4.out _ (List.getElem_mem cl)
            have e0 : (setsOf H4).getD c0 [] = H4[c0].s := setsOf_get H4 c0 cl
            rw [e0] at h4
            have hgx : Gd (-1) H4[c0].s := HP4.out.gd _ (List.mem_map.2 ⟨_, List.getElem_mem cl, rfl⟩)
            have hhas : hasB H4[c0].s v[i] = true := (hasB_in hgx hu).2 h4
            have HHas := Lib.hid (fun (W : World) (g : Below wr.heap.size wr W) => refHas_d H4[c0].s H4[c0].n q1 H4[c0].a H4[c0].c v[i] W (reads_on (q3.more hsz) g) (by omega))
            rw [hhas] at HHas
            have hcz : decide ((c0 : Int) < 0) = false := decide_eq_false (by omega)
            have hcg : decide ((z4 : Int) ≤ (c0 : Int)) = false := decide_eq_false (by omega)
            have hcg2 : decide (z4 ≤ c0) = false := decide_eq_false (by omega)
            have hcg4 : ¬ ((z4 : Int) ≤ (c0 : Int)) := by omega
            clear HOf h1 h2 h3 h4 hc0 q1 q2 q3 e0 hgx hhas hB hu
            generalize v[i] = u at *
            generalize H4[c0] = x at *
            obtain ⟨xa, xn, xc, xs⟩ := x
            simp only [] at pp hm1 HHas
            go_wp2_with fail
            refine HO.out.mono ?_
            rintro e w9 ⟨rfl, g9⟩
            have p9 := kept_cell g9 pv
            have pp9 := kept_cell g9 pp
            have HHas9 := Lib.hid (fun (n : Nat) (os : Array Obj) => HHas.out (Go.Sort.grow (w9.drewN n) os) (g9.trans ((below_grown_of w9 n os).1.mono g9.size)))
            have b9 := hb.trans (g9.mono hsz)
            clear HO pv pp hb g9 HHas
            have d0 := fun n os => cell_grown (World.block_lt_of_cell? _ _ p9) p9 n os
            have d1 := fun n os => cell_grown (World.block_lt_of_cell? _ _ pp9) pp9 n os
            have hic := fun W => lay_of ((his W).mono fun e w' ⟨h1, h2⟩ => ⟨h1, h2 ▸ Below.refl _ _, h2 ▸ Nat.le_refl _⟩)
            have hhc := fun n os => lay_of ((HHas9.out n os).mono fun e w' ⟨h1, h2⟩ => ⟨h1, h2.1, h2.2⟩)
            clear p9 pp9
            go_wp2_with fail
            refine wp_region_quiet_grown mixedTry (by kernel_rfl) ?_
            repeat (go_big_quiet_step (first | (go_at_call 24; refine Calls.grown_of (hic _)) | (go_at_call 25; refine Calls.grown_of (hhc _ _))))
            refine wpQuiet_nil ?_
            intro _ hw'
            obtain ⟨⟨nq, osq⟩, hw''⟩ := hw'
            subst hw''
            have b10 := b9.trans ((below_grown_of w9 nq osq).1.mono b9.size)
            clear d0 d1 hic his hhc HHas9 b9
            go_wp2_with fail
            go_roundw
            case rel => exact ⟨i + 1, by omega, by go_num, b10⟩
            case measure => simp [intOf]; omega
        · obtain ⟨zt, rfl⟩ : ∃ zt, z4 = zt + 1 := ⟨z4 - 1, by omega⟩
          obtain ⟨bp, op, e4, _, _⟩ := HN4_3.out.2.1.2 (by omega)
          subst e4
          obtain ⟨x0, HT4, hH4⟩ : ∃ x0 T, H4 = x0 :: T := by
            cases h : H4 with
            | nil => have := HN4_3.out.1; rw [h] at this; simp at this
            | cons x t => exact ⟨x, t, rfl⟩
          have hN9 := HN4_3.out
          have hP9 := HP4.out
          have hM9 := HM4.out
          rw [hH4] at hN9 hP9 hM9
          have HNo := Lib.hid (bands_no HT4 zt (tailS bp op c4) (tailC c4) wr ((nest_tail HSh4.out.2.1 hN9).on hb) (by omega) (fun h hh => hM9 h (List.mem_cons_of_mem _ hh)) (tail_no (p := x0.s) hP9))
          have hc1 := HSh4.out.2.1
          have hc2 := HSh4.out.2.2
          clear hN9 hP9 hM9 hH4
          go_wp2_with (refine wpList_tail22 rfl _ rfl bp op zt c4 rfl hc1 hc2 ?_)
          go_wp2_with fail
          refine HNo.out.mono ?_
          rintro e w9 ⟨rfl, g9⟩
          have b9 := hb.trans (g9.mono hsz)
          clear HNo g9
          go_wp2_with fail
          refine (wakes_any _).mono ?_
          rintro e w10 ⟨rfl, g10⟩
          go_wp2_with fail
          go_ret
          exact ⟨rfl, bb_3.trans ((b9.trans (g10.mono b9.size)).mono bb_3.size)⟩
end Go.Proofs.Ythaageiflimnnaa.refineBands
