/- WalkAhead: of every table that may be and every three rows of numbers: whether there is a break at a place hangs on what stands ahead of it alone.
   Conditions: none but the row's own. -/
import Derived.Test.YtaejfebpalmfmaaWWake
import Derived.Test.YtaejfebpalmfmaaWFrame
import Derived.Test.YtaejfebpalmfmaaRows
import Derived.Deep.RegionHeld3
import Derived.BigQuiet
namespace Go.Proofs.Ytaejfebpalmfmaa.walkAhead
open Go.ChangeShapes Go.WideShapes Go.ChangeAt Go.RowKit Go.Deep Go.BigFrame
set_option linter.unusedVariables false
set_option maxRecDepth 4000
set_option linter.unusedSimpArgs false

def OutUp (L : List Int) (w : World) (e : Ending) (w' : World) : Prop := ∃ (A : Option Addr) (c : Nat), e = .returned (.slice A L.length c) ∧ w'.ownsRow w.heap.size 3 1 (.slice A L.length c) L.length (icells L) ∧ Below w.heap.size w w'
set_option maxHeartbeats 4000000 in
theorem upto_any (L : List Int) (n m : Nat) (A : Option Addr) (c : Nat) (w : World) (hR : RI w w.heap.size A n L) (hn : n ≤ 100000) :
    Calls Try.prog 17 #[.slice A n c, .int .i64 (m : Int)] w (OutUp (uptoL L m) w) := by
  obtain ⟨i0, hi0, hz0, hz1, hz2⟩ := info_parts info3
  have HLn := Lib.hid hR.1
  have HR := Lib.hid (fun V (g : Below w.heap.size w V) => hR.on g)
  clear hR
  go_enter Try.func17, Try.ntmps17
  go_wp2_with fail
  go_loopw [5, 6] (fun vo vi wr => ∃ (k z : Nat) (A8 : Option Addr) (c8 : Nat), vi = .int .i64 k ∧ k ≤ n ∧ z ≤ k ∧ vo = .slice A8 z c8 ∧ Hid (z = (uptoL (L.take k) m).length) ∧ Hid (wr.ownsRow w.heap.size 3 1 (.slice A8 z c8) z (icells (uptoL (L.take k) m))) ∧ Hid (Below w.heap.size w wr)) (fun _ vi _ => n - (intOf vi).toNat)
  case atStart => exact ⟨0, 0, none, 0, rfl, Nat.zero_le _, Nat.le_refl _, rfl, Lib.hid rfl, Lib.hid (World.ownsRow_nil _ _ _ _), Lib.hid (Below.refl _ _)⟩
  case round =>
    obtain ⟨k, z, A8, c8, rfl, hk, hzk, rfl, HZ, HO, HB⟩ := hrel
    by_cases hlt : k < n
    · have kl : k < L.length := by rw [HLn.out]; exact hlt
      obtain ⟨bb, oo, hA, _, q⟩ := (HR.out _ HB.out).at kl
      subst hA
      have HTk : Hid (uptoL (L.take (k + 1)) m = uptoL (L.take k) m ++ (if L[k] ≤ (m : Int) then [L[k]] else [])) := Lib.hid (by
        rw [take_one kl]
        unfold uptoL
        rw [List.filter_append]
        congr 1
        by_cases h : L[k] ≤ (m : Int) <;> simp [h])
      generalize L[k] = x at *
      by_cases hx : x ≤ (m : Int)
      · have HPl : Hid (uptoL (L.take (k + 1)) m = uptoL (L.take k) m ++ [x]) := Lib.hid (by rw [HTk.out, if_pos hx])
        have HRd := Lib.hid (reads_int wr x)
        have HOne := Lib.hid (icells_one [x])
        have HOa := Lib.hid (HO.out.alloc (.cells #[.int .i64 x] 3))
        have ga := below_new wr (.cells #[.int .i64 x] 3)
        have HBa := Lib.hid (HB.out.trans (ga.mono HB.out.size))
        have hs4 := HB.out.size
        clear ga HO HB HTk
        go_wp2_with (at_builtin; refine wpList_append_src rfl _ _ 27 rfl w.heap.size 3 i0 _ 1 8 Try.underlying27 hi0 hz0 hz1 hz2 rfl (by decide) _ _ _ rfl HOa.out (some ⟨wr.heap.size, 0, none⟩) 1 1 (wr.heap.size + 1) (icells [x]) rfl (fun h => by cases h) HRd.out HOne.out ?n3 ?n4 ?n5 ?_)
        case n3 => unfold maxLen; omega
        case n4 => omega
        case n5 => simp; omega
        intro A9 c9 w9 hown9 hn9 hgrow9
        have HB9 : Hid (Below w.heap.size w w9) := Lib.hid (below_grown HBa.out HBa.out.size HOa.out hgrow9)
        have HO9 : Hid (w9.ownsRow w.heap.size 3 1 (.slice A9 (z + 1) c9) (z + 1) (icells (uptoL (L.take (k + 1)) m))) := Lib.hid (by rw [HPl.out, icells_snoc]; exact hown9)
        have HZ9 : Hid (z + 1 = (uptoL (L.take (k + 1)) m).length) := Lib.hid (by rw [HPl.out, List.length_append, ← HZ.out]; rfl)
        clear hown9 hgrow9 HOa HRd HOne HBa
        go_wp2_with fail
        go_roundw
        case rel => exact ⟨k + 1, z + 1, A9, c9, by go_num, by omega, by omega, rfl, HZ9, HO9, HB9⟩
        case measure => simp [intOf]; omega
      · have HPl : Hid (uptoL (L.take (k + 1)) m = uptoL (L.take k) m) := Lib.hid (by rw [HTk.out, if_neg hx, List.append_nil])
        clear HTk
        go_wp2_with fail
        go_roundw
        case rel => exact ⟨k + 1, z, A8, c8, by go_num, by omega, by omega, rfl, Lib.hid (by rw [HPl.out]; exact HZ.out), Lib.hid (by rw [HPl.out]; exact HO.out), HB⟩
        case measure => simp [intOf]; omega
    · obtain rfl : k = n := by omega
      have HTl : Hid (L.take k = L) := Lib.hid (List.take_of_length_le (by rw [HLn.out]; exact Nat.le_refl _))
      rw [HTl.out] at HZ HO
      have HF : Hid (OutUp (uptoL L m) w (.returned (.slice A8 z c8)) wr) := Lib.hid (by
        have e := HZ.out
        have o := HO.out
        subst e
        exact ⟨A8, c8, rfl, o, HB.out⟩)
      go_wp2_with fail
      go_ret
      exact HF.out
theorem brW_app {tt : Tb} {l m : List Int} : brW tt (l ++ m) = none ∨ (errV tt = 0 ∧ okW tt l = true ∧ ∃ P, brW tt (l ++ m) = some P ∧ P.length ≤ (l ++ m).length + 1 ∧ uptoL P l.length = plK tt l (l.length + 1)) := by
  unfold brW
  by_cases h : errV tt = 0 ∧ okW tt (l ++ m) = true
  · rw [if_pos h]
    refine .inr ⟨h.1, ?_, _, rfl, plK_len _ _ _, ?_⟩
    · have := h.2
      unfold okW at this ⊢
      rw [List.all_append, Bool.and_eq_true] at this
      exact this.1
    · rw [plK_upto _ _ _ _ (by rw [List.length_append]; omega), plK_app _ _ _ _ (Nat.le_refl _)]
  · rw [if_neg h]; exact .inl rfl
set_option maxHeartbeats 8000000 in
theorem walk (T : TV) (l : List Int) (n : Nat) (A : Option Addr) (c : Nat) (M N : Hi) (W : World) (hT : T.ok W) (hR : RI W W.heap.size A n l) (hS : Shp A n c) (hM : M.ok W W.heap.size) (hN : N.ok W W.heap.size) (hb1 : n ≤ 17592186044416) (hb2 : M.n ≤ 17592186044416) (hb3 : N.n ≤ 17592186044416) :
    Calls Try.prog 4 #[T.v, .slice A n c, .agg #[M.v, N.v]] W fun e W' => e = .returned (.bool true) ∧ Below W.heap.size W W' := by
  obtain ⟨i0, hi0, hz0, hz1, hz2⟩ := info_parts info3
  have HRT := Lib.hid (fun V (g : Below W.heap.size W V) => refTable_any T V (hT.on g))
  have HSt : Hid (∀ V, n ≤ 1000 → Below W.heap.size W V → Calls Try.prog 10 #[T.v, .slice A n c] V fun e w' => e = .returned (.tuple #[.int .i64 (stN T.tb l), .bool (stO T.tb l)]) ∧ Below V.heap.size V w') := Lib.hid (fun V h g => state_any T l n A c V (hT.on g) (hR.on g) (by omega))
  have HBr : Hid (∀ A' c' V k L, k ≤ 1000 → Below W.heap.size W V → RI V V.heap.size A' k L → Calls Try.prog 11 #[T.v, .slice A' k c'] V (OutPl (brW T.tb L) V)) := Lib.hid (fun A' c' V k L h g h2 => wbreaks_any T L k A' c' V (hT.on g) h2 (by omega))
  have HBk : Hid (errV T.tb = 0 → ∀ V, Below W.heap.size W V → ∃ bb ob, T.a3 = some ⟨bb, ob, none⟩ ∧ stW T.tb l < T.n3 ∧ V.cell? ⟨bb, ob + stW T.tb l, none⟩ = some (.bool (brkN T.tb (stW T.tb l)))) := Lib.hid (fun h V g => by
    obtain ⟨bb, ob, h1, h2, h3⟩ := tv_brk (hT.on g) ((cntV_iff _).1 (errV_ok.1 h).cnt)
    have hs : stW T.tb l < T.n2 := by have := stW_lt (errV_ok.1 h) l; unfold TV.tb at this ⊢; simp only [listsOf_len] at this; have h2 := hT.r2.1; omega
    exact ⟨bb, ob, h1, by omega, h3 _ hs⟩)
  have HR := Lib.hid (fun V (g : Below W.heap.size W V) => hR.on g)
  have HmR := Lib.hid (fun V (g : Below W.heap.size W V) => hM.1.on g)
  have HnR := Lib.hid (fun V (g : Below W.heap.size W V) => hN.1.on g)
  have HLn := Lib.hid hR.1
  have HmLn := Lib.hid hM.1.1
  have HnLn := Lib.hid hN.1.1
  have HmL2 := Lib.hid hM.1.1
  have HnL2 := Lib.hid hN.1.1
  have HNil := Lib.hid hS.1
  have HmNil := Lib.hid hM.2.1
  have HnNil := Lib.hid hN.2.1
  have HX := Lib.hid ((box_new W T).on (below_new _ (.cells #[M.v, N.v] 41)))
  have HPE := Lib.hid (plK_end T.tb l)
  have HSO : Hid (errV T.tb = 0 → okW T.tb l = true → stO T.tb l = true ∧ stN T.tb l = (stW T.tb l : Int)) := Lib.hid (fun h1 h2 => by
    have h5 : stO T.tb l = true := by unfold stO; rw [decide_eq_true h1, h2]; rfl
    exact ⟨h5, by unfold stN; rw [h5]; rfl⟩)
  clear hT hR hS hM hN
  generalize T.tb = tt at *
  obtain ⟨cl, a1, n1, c1, bd, a2, n2, c2, hs, a3, n3, c3, br⟩ := T
  obtain ⟨Am, nm, cm, lm⟩ := M
  obtain ⟨An, nn, cn, ln⟩ := N
  simp only [TV.v, Hi.v] at *
  have bb0 : Below W.heap.size W ((W.alloc (.cells #[.int .i64 cl, .slice a1 n1 c1, .slice a2 n2 c2, .slice a3 n3 c3] 26)).alloc (.cells #[.slice Am nm cm, .slice An nn cn] 41)) := below_call (below_new _ _) (below_new _ _).size (below_new _ _)
  have y0 : ((W.alloc (.cells #[.int .i64 cl, .slice a1 n1 c1, .slice a2 n2 c2, .slice a3 n3 c3] 26)).alloc (.cells #[.slice Am nm cm, .slice An nn cn] 41)).cell? ⟨W.heap.size + 1, 0, none⟩ = some (.slice Am nm cm) := by simp
  have y1 : ((W.alloc (.cells #[.int .i64 cl, .slice a1 n1 c1, .slice a2 n2 c2, .slice a3 n3 c3] 26)).alloc (.cells #[.slice Am nm cm, .slice An nn cn] 41)).cell? ⟨W.heap.size + 1, 1, none⟩ = some (.slice An nn cn) := by simp
  obtain ⟨_, p0, p1, p2, p3⟩ := HX.out
  try simp only [] at p0 p1 p2 p3
  go_enter Try.func4, Try.ntmps4
  go_wp2_with fail
  generalize (W.alloc (.cells #[.int .i64 cl, .slice a1 n1 c1, .slice a2 n2 c2, .slice a3 n3 c3] 26)).alloc (.cells #[.slice Am nm cm, .slice An nn cn] 41) = V0 at *
  go_quiet (fail)
  have gd := below_drewN (Below.refl V0.heap.size V0) nq
  replace bb0 := bb0.trans (gd.mono bb0.size)
  replace HX := Lib.hid (HX.out.on gd)
  clear gd p0 p1 p2 p3 y0 y1
  obtain ⟨_, p0, p1, p2, p3⟩ := HX.out
  try simp only [] at p0 p1 p2 p3
  generalize V0.drewN nq = V1 at *
  go_wp2_with fail
  refine (HRT.out _ bb0).mono ?_
  rintro e w1 ⟨rfl, g⟩
  replace bb0 := bb0.trans (g.mono bb0.size)
  replace HX := Lib.hid (HX.out.on g)
  clear g p0 p1 p2 p3
  obtain ⟨_, p0, p1, p2, p3⟩ := HX.out
  try simp only [] at p0 p1 p2 p3
  clear HRT
  by_cases he : errV tt = 0
  case neg =>
    have hn : (errV tt != 0) = true := by rw [bne_iff_ne]; exact he
    generalize errV tt = ev at *
    go_wp2_with fail
    refine (wakes8_any _).mono ?_
    rintro e w9 ⟨rfl, g9⟩
    have bf := bb0.trans (g9.mono bb0.size)
    clear g9
    go_wp2_with fail
    go_ret
    exact ⟨rfl, bf⟩
  have HErr := Lib.hid he
  replace HBk := Lib.hid (HBk.out he)
  replace HSO := Lib.hid (HSO.out he)
  rw [he]
  clear he
  by_cases hn500 : 500 < n + nm + nn
  · have hn500I : (500 : Int) < (n : Int) + (nm : Int) + (nn : Int) := by omega
    go_wp2_with fail
    refine (wakes8_any _).mono ?_
    rintro e w9 ⟨rfl, g9⟩
    have bf := bb0.trans (g9.mono bb0.size)
    clear g9
    go_wp2_with fail
    go_ret
    exact ⟨rfl, bf⟩
  have hn500I : ¬ (500 : Int) < (n : Int) + (nm : Int) + (nn : Int) := by omega
  have hnm : n + nm + nn ≤ 500 := by omega
  have HOne := Lib.hid (icells_one l)
  have HmOne := Lib.hid (icells_one lm)
  have HnOne := Lib.hid (icells_one ln)
  have hS0 : w1.cell? ⟨W.heap.size, 0, none⟩ = some (.int .i64 cl) ∧ w1.cell? ⟨W.heap.size, 1, none⟩ = some (.slice a1 n1 c1) ∧ w1.cell? ⟨W.heap.size, 2, none⟩ = some (.slice a2 n2 c2) ∧ w1.cell? ⟨W.heap.size, 3, none⟩ = some (.slice a3 n3 c3) ∧ Below w1.heap.size w1 w1 := ⟨p0, p1, p2, p3, Below.refl _ _⟩
  have hS1 := sOn (Below.drew (Below.refl w1.heap.size w1)) hS0
  have gO : Below w1.heap.size w1 (w1.alloc (.cells #[] 3)).drew := Below.drew (below_new _ _)
  have hS2 := sOn gO hS0
  have HOm : Hid ((w1.alloc (.cells #[] 3)).drew.ownsRow w1.heap.size 3 1 (.slice (some ⟨w1.heap.size, 0, none⟩) 0 0) 0 []) := Lib.hid (World.ownsRow_made (e := 3) (size := 1) w1 #[] 0 (Nat.le_refl _) (Nat.zero_le _) (by simp))
  have HRl := Lib.hid ((HR.out _ bb0).2.below gO)
  have HSo : Hid (w1.heap.size ≤ (w1.alloc (.cells #[] 3)).drew.heap.size) := Lib.hid gO.size
  have HGo := Lib.hid gO
  clear gO p0 p1 p2 p3
  go_wp2_with fail
  go_region_held3 (fun V => V.cell? ⟨W.heap.size, 0, none⟩ = some (.int .i64 cl) ∧ V.cell? ⟨W.heap.size, 1, none⟩ = some (.slice a1 n1 c1) ∧ V.cell? ⟨W.heap.size, 2, none⟩ = some (.slice a2 n2 c2) ∧ V.cell? ⟨W.heap.size, 3, none⟩ = some (.slice a3 n3 c3) ∧ Below w1.heap.size w1 V) (with_reducible (first | assumption | exact hS0 | exact hS1 | exact hS2)) (first
    | (refine step_append_src rfl (.tmp 39) (.tmp 40) 27 rfl w1.heap.size 3 i0 _ 1 8 Try.underlying27 hi0 hz0 hz1 hz2 rfl (by decide) (.slice (some ⟨w1.heap.size, 0, none⟩) 0 0) 0 [] (by first | rfl | simp [Act.eval, Act.put]) (by exact HOm.out) A n c w1.heap.size (icells l) (by first | rfl | simp [Act.eval, Act.put]) HNil.out (by exact HRl.out) HOne.out (by unfold maxLen; omega) (by omega) (by exact HSo.out) ?_; intro A1 d1 w8 hown8 hn8 hgrow8; have g8 : Below w1.heap.size w1 w8 := below_grown HGo.out HSo.out HOm.out hgrow8; have hS8 := sOn g8 hS0)
    | (refine step_append_src rfl (.tmp 41) (.tmp 42) 27 rfl w1.heap.size 3 i0 _ 1 8 Try.underlying27 hi0 hz0 hz1 hz2 rfl (by decide) (.slice A1 (0 + n) d1) (0 + n) ([] ++ icells l) (by first | rfl | simp [Act.eval, Act.put]) (by exact hown8) Am nm cm w8.heap.size (icells lm) (by first | rfl | simp [Act.eval, Act.put]) HmNil.out (by exact (HmR.out _ (bb0.trans (g8.mono bb0.size))).2) HmOne.out (by unfold maxLen; omega) (by omega) (by exact g8.size) ?_; intro A2 d2 w9 hown9 hn9 hgrow9; have g9 : Below w1.heap.size w1 w9 := below_grown g8 g8.size hown8 hgrow9; have hS9 := sOn g9 hS0; have hr9 : RI w9 w9.heap.size A2 (0 + n + nm) (l ++ lm) := own_RI (by rw [show icells (l ++ lm) = [] ++ icells l ++ icells lm by simp [icells]]; exact hown9); have hr9z : RI w9 w9.heap.size A2 (n + nm) (l ++ lm) := by rw [show n + nm = 0 + n + nm by omega]; exact hr9)
    | (go_at_call 11; (first | (with_reducible refine Calls.mono (HBr.out A2 d2 w9 (0 + n + nm) (l ++ lm) (by omega) (bb0.trans (g9.mono bb0.size)) hr9) ?_) | (with_reducible refine Calls.mono (HBr.out A2 d2 w9 (n + nm) (l ++ lm) (by omega) (bb0.trans (g9.mono bb0.size)) hr9z) ?_)); rintro e w2 ⟨A3, c3x, rfl, hown10, g10⟩; have hS10 := sOn g10 hS9))
  replace HX : Hid (Box w2 W.heap.size ⟨cl, a1, n1, c1, bd, a2, n2, c2, hs, a3, n3, c3, br⟩) := Lib.hid ⟨World.block_lt_of_cell? _ _ hS10.1, hS10.1, hS10.2.1, hS10.2.2.1, hS10.2.2.2.1⟩
  replace bb0 := bb0.trans (hS10.2.2.2.2.mono bb0.size)
  have Hw2 := Lib.hid (own_RI hown10)
  clear hS0 hS1 hS2 HOm HRl HSo HGo hown8 hn8 hgrow8 g8 hS8 hown9 hn9 hgrow9 g9 hS9 hr9 hr9z hown10 g10 hS10
  obtain ⟨_, p0, p1, p2, p3⟩ := HX.out
  try simp only [] at p0 p1 p2 p3
  have hS0 : w2.cell? ⟨W.heap.size, 0, none⟩ = some (.int .i64 cl) ∧ w2.cell? ⟨W.heap.size, 1, none⟩ = some (.slice a1 n1 c1) ∧ w2.cell? ⟨W.heap.size, 2, none⟩ = some (.slice a2 n2 c2) ∧ w2.cell? ⟨W.heap.size, 3, none⟩ = some (.slice a3 n3 c3) ∧ Below w2.heap.size w2 w2 := ⟨p0, p1, p2, p3, Below.refl _ _⟩
  have hS1 := sOn (Below.drew (Below.refl w2.heap.size w2)) hS0
  have gO : Below w2.heap.size w2 (w2.alloc (.cells #[] 3)).drew := Below.drew (below_new _ _)
  have hS2 := sOn gO hS0
  have HOm : Hid ((w2.alloc (.cells #[] 3)).drew.ownsRow w2.heap.size 3 1 (.slice (some ⟨w2.heap.size, 0, none⟩) 0 0) 0 []) := Lib.hid (World.ownsRow_made (e := 3) (size := 1) w2 #[] 0 (Nat.le_refl _) (Nat.zero_le _) (by simp))
  have HRl := Lib.hid ((HR.out _ bb0).2.below gO)
  have HSo : Hid (w2.heap.size ≤ (w2.alloc (.cells #[] 3)).drew.heap.size) := Lib.hid gO.size
  have HGo := Lib.hid gO
  clear gO p0 p1 p2 p3
  go_wp2_with fail
  go_region_held3 (fun V => V.cell? ⟨W.heap.size, 0, none⟩ = some (.int .i64 cl) ∧ V.cell? ⟨W.heap.size, 1, none⟩ = some (.slice a1 n1 c1) ∧ V.cell? ⟨W.heap.size, 2, none⟩ = some (.slice a2 n2 c2) ∧ V.cell? ⟨W.heap.size, 3, none⟩ = some (.slice a3 n3 c3) ∧ Below w2.heap.size w2 V) (with_reducible (first | assumption | exact hS0 | exact hS1 | exact hS2)) (first
    | (refine step_append_src rfl (.tmp 49) (.tmp 50) 27 rfl w2.heap.size 3 i0 _ 1 8 Try.underlying27 hi0 hz0 hz1 hz2 rfl (by decide) (.slice (some ⟨w2.heap.size, 0, none⟩) 0 0) 0 [] (by first | rfl | simp [Act.eval, Act.put]) (by exact HOm.out) A n c w2.heap.size (icells l) (by first | rfl | simp [Act.eval, Act.put]) HNil.out (by exact HRl.out) HOne.out (by unfold maxLen; omega) (by omega) (by exact HSo.out) ?_; intro A1 d1 w8 hown8 hn8 hgrow8; have g8 : Below w2.heap.size w2 w8 := below_grown HGo.out HSo.out HOm.out hgrow8; have hS8 := sOn g8 hS0)
    | (refine step_append_src rfl (.tmp 51) (.tmp 52) 27 rfl w2.heap.size 3 i0 _ 1 8 Try.underlying27 hi0 hz0 hz1 hz2 rfl (by decide) (.slice A1 (0 + n) d1) (0 + n) ([] ++ icells l) (by first | rfl | simp [Act.eval, Act.put]) (by exact hown8) An nn cn w8.heap.size (icells ln) (by first | rfl | simp [Act.eval, Act.put]) HnNil.out (by exact (HnR.out _ (bb0.trans (g8.mono bb0.size))).2) HnOne.out (by unfold maxLen; omega) (by omega) (by exact g8.size) ?_; intro A2 d2 w9 hown9 hn9 hgrow9; have g9 : Below w2.heap.size w2 w9 := below_grown g8 g8.size hown8 hgrow9; have hS9 := sOn g9 hS0; have hr9 : RI w9 w9.heap.size A2 (0 + n + nn) (l ++ ln) := own_RI (by rw [show icells (l ++ ln) = [] ++ icells l ++ icells ln by simp [icells]]; exact hown9); have hr9z : RI w9 w9.heap.size A2 (n + nn) (l ++ ln) := by rw [show n + nn = 0 + n + nn by omega]; exact hr9)
    | (go_at_call 11; (first | (with_reducible refine Calls.mono (HBr.out A2 d2 w9 (0 + n + nn) (l ++ ln) (by omega) (bb0.trans (g9.mono bb0.size)) hr9) ?_) | (with_reducible refine Calls.mono (HBr.out A2 d2 w9 (n + nn) (l ++ ln) (by omega) (bb0.trans (g9.mono bb0.size)) hr9z) ?_)); rintro e w3 ⟨A4, c4x, rfl, hown10, g10⟩; have hS10 := sOn g10 hS9))
  replace HX : Hid (Box w3 W.heap.size ⟨cl, a1, n1, c1, bd, a2, n2, c2, hs, a3, n3, c3, br⟩) := Lib.hid ⟨World.block_lt_of_cell? _ _ hS10.1, hS10.1, hS10.2.1, hS10.2.2.1, hS10.2.2.2.1⟩
  replace bb0 := bb0.trans (hS10.2.2.2.2.mono bb0.size)
  replace Hw2 := Lib.hid (Hw2.out.on hS10.2.2.2.2)
  have Hw3 := Lib.hid (own_RI hown10)
  clear hS0 hS1 hS2 HOm HRl HSo HGo hown8 hn8 hgrow8 g8 hS8 hown9 hn9 hgrow9 g9 hS9 hr9 hr9z hown10 g10 hS10
  obtain ⟨_, p0, p1, p2, p3⟩ := HX.out
  try simp only [] at p0 p1 p2 p3
  go_wp2_with fail
  refine (HSt.out _ (by omega) bb0).mono ?_
  rintro e w4 ⟨rfl, g⟩
  replace bb0 := bb0.trans (g.mono bb0.size)
  replace HX := Lib.hid (HX.out.on g)
  replace Hw2 := Lib.hid (Hw2.out.on g)
  replace Hw3 := Lib.hid (Hw3.out.on g)
  clear g p0 p1 p2 p3
  obtain ⟨_, p0, p1, p2, p3⟩ := HX.out
  try simp only [] at p0 p1 p2 p3
  clear HSt HBr HmR HnR HmLn HnLn HNil HmNil HnNil HOne HmOne HnOne
  rcases brW_app (tt := tt) (l := l) (m := lm) with hw2 | ⟨_, hok, P1, hw2, hl2, hu2⟩
  · rw [hw2]
    simp only [Option.getD_none, Option.isSome_none, List.length_nil]
    go_wp2_with fail
    refine (wakes8_any _).mono ?_
    rintro e w9 ⟨rfl, g9⟩
    have bf := bb0.trans (g9.mono bb0.size)
    clear g9
    go_wp2_with fail
    go_ret
    exact ⟨rfl, bf⟩
  rcases brW_app (tt := tt) (l := l) (m := ln) with hw3 | ⟨_, _, P2, hw3, hl3, hu3⟩
  · rw [hw2, hw3]
    simp only [Option.getD_none, Option.isSome_none, List.length_nil, Option.getD_some, Option.isSome_some]
    go_wp2_with fail
    refine (wakes8_any _).mono ?_
    rintro e w9 ⟨rfl, g9⟩
    have bf := bb0.trans (g9.mono bb0.size)
    clear g9
    go_wp2_with fail
    go_ret
    exact ⟨rfl, bf⟩
  rw [hw2] at Hw2
  rw [hw3] at Hw3
  simp only [Option.getD_some] at Hw2 Hw3
  obtain ⟨ho, hn0⟩ := HSO.out hok
  have HU2 : Hid (uptoL P1 n = plK tt l (l.length + 1)) := Lib.hid (by rw [← HLn.out]; exact hu2)
  have HU3 : Hid (uptoL P2 n = plK tt l (l.length + 1)) := Lib.hid (by rw [← HLn.out]; exact hu3)
  have hP1 : P1.length ≤ 1001 := by have h1 := Hw2.out.1; have h2 := HLn.out; rw [List.length_append] at hl2; have h3 := HmL2.out; omega
  have hP2 : P2.length ≤ 1001 := by have h1 := Hw3.out.1; have h2 := HLn.out; rw [List.length_append] at hl3; have h3 := HnL2.out; omega
  have HE : Hid (atEnd (plK tt l (l.length + 1)) n = brkN tt (stW tt l)) := Lib.hid (by rw [← HLn.out]; exact HPE.out)
  have HQl : Hid ((plK tt l (l.length + 1)).length ≤ 1001) := Lib.hid (by have h1 := plK_len tt l (l.length + 1); have h2 := HLn.out; omega)
  obtain ⟨bb, ob, hA3, hs3, hq3⟩ := HBk.out w4 bb0
  replace hA3 : a3 = some ⟨bb, ob, none⟩ := hA3
  subst hA3
  rw [hw2, hw3, ho, hn0]
  simp only [Option.getD_some, Option.isSome_some]
  generalize plK tt l (l.length + 1) = Q at *
  generalize stW tt l = s at *
  generalize hbq : brkN tt s = bq at *
  clear hbq hw2 hw3 hl2 hl3 hu2 hu3 hok HSO HPE HBk ho hn0 HErr
  have HUp2 := Lib.hid (upto_any P1 P1.length n A3 c3x w4 Hw2.out (by omega))
  rw [HU2.out] at HUp2
  go_wp2_with fail
  refine HUp2.out.mono ?_
  rintro e w5 ⟨A5, c5, rfl, hown5, g⟩
  replace bb0 := bb0.trans (g.mono bb0.size)
  replace HX := Lib.hid (HX.out.on g)
  replace Hw3 := Lib.hid (Hw3.out.on g)
  replace hq3 := kept_cell g hq3
  have HR5 := Lib.hid (own_RI hown5)
  clear g hown5 HUp2 p0 p1 p2 p3
  obtain ⟨_, p0, p1, p2, p3⟩ := HX.out
  try simp only [] at p0 p1 p2 p3
  have HUp3 := Lib.hid (upto_any P2 P2.length n A4 c4x w5 Hw3.out (by omega))
  rw [HU3.out] at HUp3
  go_wp2_with fail
  refine HUp3.out.mono ?_
  rintro e w6 ⟨A6, c6, rfl, hown6, g⟩
  replace bb0 := bb0.trans (g.mono bb0.size)
  replace HX := Lib.hid (HX.out.on g)
  replace HR5 := Lib.hid (HR5.out.on g)
  replace hq3 := kept_cell g hq3
  have HR6 := Lib.hid (own_RI hown6)
  clear g hown6 HUp3 p0 p1 p2 p3
  obtain ⟨_, p0, p1, p2, p3⟩ := HX.out
  try simp only [] at p0 p1 p2 p3
  have HK1 := Lib.hid (keepInts_n Q Q Q.length Q.length A5 A6 c5 c6 w6 HR5.out HR6.out (by have := HQl.out; omega))
  rw [eqX_yes rfl] at HK1
  have hQl := HQl.out
  by_cases hz : Q.length = 0
  · have hbf : bq = false := by
      rw [← HE.out]
      unfold atEnd
      rw [hz]; rfl
    subst hbf
    generalize hzz : Q.length = z at *
    subst hz
    clear hzz HR5 HR6
    go_wp2_with fail
    refine HK1.out.mono ?_
    rintro e w7 ⟨rfl, g⟩
    replace bb0 := bb0.trans (g.mono bb0.size)
    replace HX := Lib.hid (HX.out.on g)
    replace hq3 := kept_cell g hq3
    clear g p0 p1 p2 p3
    obtain ⟨_, p0, p1, p2, p3⟩ := HX.out
    try simp only [] at p0 p1 p2 p3
    go_wp2_with fail
    refine (wakes8_any _).mono ?_
    rintro e w9 ⟨rfl, g9⟩
    have bf := bb0.trans (g9.mono bb0.size)
    clear g9
    go_wp2_with fail
    go_ret
    exact ⟨rfl, bf⟩
  · obtain ⟨zz, hzz⟩ : ∃ zz, Q.length = zz + 1 := ⟨Q.length - 1, by omega⟩
    have zl : zz < Q.length := by omega
    obtain ⟨b5, o5, hA5, _, hc5⟩ := HR5.out.at zl
    have hAt : (Q[zz] == (n : Int)) = bq := by
      rw [← HE.out]
      unfold atEnd
      rw [hzz, List.getD_eq_getElem?_getD, Nat.add_sub_cancel, List.getElem?_eq_getElem zl]
      simp
    subst hA5
    generalize Q[zz] = xv at *
    generalize Q.length = z at *
    subst hzz
    clear HR5 HR6 HE
    cases bq
    all_goals
      go_wp2_with fail
      refine HK1.out.mono ?_
      rintro e w7 ⟨rfl, g⟩
      replace bb0 := bb0.trans (g.mono bb0.size)
      replace HX := Lib.hid (HX.out.on g)
      replace hq3 := kept_cell g hq3
      clear g p0 p1 p2 p3
      obtain ⟨_, p0, p1, p2, p3⟩ := HX.out
      try simp only [] at p0 p1 p2 p3
      go_wp2_with fail
      refine (wakes8_any _).mono ?_
      rintro e w9 ⟨rfl, g9⟩
      have bf := bb0.trans (g9.mono bb0.size)
      clear g9
      go_wp2_with fail
      go_ret
      exact ⟨rfl, bf⟩


/-! From the walk to the row. -/
set_option maxRecDepth 100000 in
theorem contract (H : Type) (enc : TypeId × Value → H) (W : World) (base : Nat) (args : Array Value) (ds gs : List (DataW H)) (before : List MemPlace)
    (hval0 : ∀ (j : Nat) t v, Try.f4.params[j]? = some t → args[j]? = some v → Value.okWide Try.prog W .any base t v)
    (hW : DataW.Whole enc Try.prog Try.f4.params.toList Rows.walkAheadSpec.vars false W args.toList ds gs before)
    (hZ : (DataW.weightsEach Try.prog (Try.f4.params.toList ++ Rows.walkAheadSpec.plain.varTypes Try.prog) (ds ++ gs)).all (· ≤ reachBytes) = true) :
    Calls Try.prog 4 args W fun e W' => ∃ v, e = .returned v ∧ Rows.walkAheadSpec.post enc Try.prog Try.f4 false true false false W args v W' := by
  have hval : ∀ (j : Nat) t v, Try.f4.params[j]? = some t → args[j]? = some v → Value.okWide Try.prog W .any base t v := hval0
  have hW' := hW
  obtain ⟨p, q, hA0, hV, rfl, hfz, hnd⟩ := hW
  have hA : DataW.TrodAll enc Try.prog W 0 (fun _ => true) true Try.f4.params.toList args.toList ds p := hA0
  rw [Try.params4] at hA hval
  obtain ⟨v0, vs0, d0, ds0, p0, q0, hargs, rfl, rfl, h0, r0⟩ := trodAll_cons hA
  obtain ⟨v1, vs1, d1, ds1, p1, q1, rfl, rfl, rfl, h1, r1⟩ := trodAll_cons r0
  obtain ⟨v2, vs2, d2, ds2, p2, q2, rfl, rfl, rfl, h2, r2⟩ := trodAll_cons r1
  obtain ⟨rfl, rfl, rfl⟩ := trodAll_nil r2
  obtain rfl : args = #[v0, v1, v2] := by cases args; simp_all
  obtain ⟨rfl, rfl⟩ := trodVars_none hV
  have hZ1 : (DataW.weightsEach Try.prog [26, 27, 41] [d0, d1, d2]).all (· ≤ reachBytes) = true := by
    rw [Try.params4] at hZ
    exact hZ
  simp only [DataW.weightsEach, List.all_append, Bool.and_eq_true] at hZ1
  obtain ⟨hz0, hz1, hz2, _⟩ := hZ1
  clear hZ
  obtain ⟨cs0, rfl, _⟩ := okWide_struct Try.underlying26 (hval 0 26 v0 rfl rfl)
  have k0 := h0
  have lt0 : ∀ x ∈ p0, x.block < W.heap.size := by obtain ⟨m, hm⟩ := k0; exact DataW.trod_lt m _ _ _ hm
  obtain ⟨T0, e0, ok0⟩ : ∃ T : TV, cs0.toList = [.int .i64 T.cl, .slice T.a1 T.n1 T.c1, .slice T.a2 T.n2 T.c2, .slice T.a3 T.n3 T.c3] ∧ T.ok W := by
    obtain ⟨fuel, hf⟩ := h0
    exact open_table (by simpa [Value.cells] using hf)
  obtain rfl : cs0 = #[.int .i64 T0.cl, .slice T0.a1 T0.n1 T0.c1, .slice T0.a2 T0.n2 T0.c2, .slice T0.a3 T0.n3 T0.c3] := by cases cs0; simp_all
  obtain ⟨a1, len1, cap1, rfl⟩ := okWide_slice Try.underlying27 (hval 1 27 v1 rfl rfl)
  have k1 := h1
  have lt1 : ∀ x ∈ p1, x.block < W.heap.size := by obtain ⟨m, hm⟩ := k1; exact DataW.trod_lt m _ _ _ hm
  obtain ⟨l1, hs1, hr1⟩ : ∃ l, Shp a1 len1 cap1 ∧ RI W W.heap.size a1 len1 l := by
    obtain ⟨fuel, hf⟩ := h1
    exact open_row (by simpa [Value.cells] using hf)
  have hb1 : len1 ≤ 17592186044416 := by
    obtain ⟨fuel, hf⟩ := k1
    exact row_sized (by simpa [Value.cells] using hf) hz1
  obtain ⟨cs2, rfl⟩ := okWide_arr Try.underlying41 (hval 2 41 v2 rfl rfl)
  have k2 := h2
  have lt2 : ∀ x ∈ p2, x.block < W.heap.size := by obtain ⟨m, hm⟩ := k2; exact DataW.trod_lt m _ _ _ hm
  obtain ⟨x2, y2, e2, okx2, oky2, bx2, by2⟩ : ∃ x y : Hi, cs2.toList = [x.v, y.v] ∧ x.ok W W.heap.size ∧ y.ok W W.heap.size ∧ x.n ≤ 17592186044416 ∧ y.n ≤ 17592186044416 := by
    obtain ⟨fuel, hf⟩ := h2
    exact open_l2s (by simpa [Value.cells] using hf) hz2

  obtain rfl : cs2 = #[x2.v, y2.v] := by cases cs2; simp_all
  clear hA0 hval0
  refine (walk T0 l1 len1 a1 cap1 x2 y2 W ok0 hr1 hs1 okx2 oky2 hb1 bx2 by2).mono fun e W' ⟨he, bel⟩ => ?_
  subst he
  exact ⟨_, rfl, _, _, _, [], _, [], hW', trodAll_mk1 (shut_bool Try.underlying4 _), (trodAll_cons_mk (Below.trod laidOut (by kernel_rfl) (of_decide_eq_true (by kernel_rfl)) k0 bel lt0) (trodAll_cons_mk (Below.trod laidOut (by kernel_rfl) (of_decide_eq_true (by kernel_rfl)) k1 bel lt1) (trodAll_cons_mk (Below.trod laidOut (by kernel_rfl) (of_decide_eq_true (by kernel_rfl)) k2 bel lt2) trodAll_mk0))), rfl, bel.frame _, fun h => by cases h⟩

set_option maxRecDepth 100000 in
theorem lifted (os : Os) (started : os.Started) (H : Type) (enc : TypeId × Value → H) :
    ReturnsInHanded {} Try.checked os 4 .any (Rows.walkAheadSpec.pre6 enc Try.prog Try.f4 Rows.walkAheadRow.domain false) (Rows.walkAheadSpec.post enc Try.prog Try.f4 false true false false) := by
  refine returnsInHanded_of_change_sized (C := Try.checked) own started (by kernel_rfl) Try.func4
    (ChangeSpec.witness6 (enc := enc) (C := Try.checked) false ⟨#[], #[.agg #[.int .i64 0, .slice none 0 0, .slice none 0 0, .slice none 0 0], .slice none 0 0, .agg #[.slice none 0 0, .slice none 0 0]], []⟩ 8 (by kernel_rfl) (by kernel_rfl) (by kernel_rfl) (by kernel_rfl)) ?_
  intro W base args ds gs before hval hW _ hZ _
  exact contract H enc W base args ds gs before hval hW hZ

set_option maxRecDepth 100000 in
theorem over : Rows.walkAheadRow.holds Try.pinned (OpenSpec.ofChange Rows.walkAheadSpec) :=
  OpenClaim.holds_of_wide 4 Try.f4 rfl rfl rfl rfl rfl rfl rfl ⟨rfl, rfl, rfl, rfl, rfl⟩ rfl rfl rfl rfl rfl (by kernel_rfl) Try.func4 (by kernel_rfl)
    (of_decide_eq_true (by kernel_rfl)) (by unfold Func.isWrapper; first | (rw [if_pos (by decide +kernel)]; kernel_rfl) | (rw [if_neg (by decide +kernel)]; exact ⟨rfl, rfl⟩))
    (fun os started H enc _ => lifted os started H enc)
end Go.Proofs.Ytaejfebpalmfmaa.walkAhead

namespace Go.Proofs.Ytaejfebpalmfmaa
/-- The given statement, under a short name. -/
theorem walkAhead_holds : Rows.WalkAheadSaid := walkAhead.over
#print axioms walkAhead_holds
end Go.Proofs.Ytaejfebpalmfmaa
