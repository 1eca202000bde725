/- Joined: WRefB WWake. -/
import Derived.Test.YtmhfgncffkfelaaDoorKWr
import Derived.BigQuiet
/- What the document's Breaks returns; what all of walk's functions return of any table. -/
namespace Go.Proofs.YtmhfgncffkfelaaDoor
open Go.RowKit Go.BigFrame Go.Maps
set_option linter.unusedVariables false
set_option maxRecDepth 4000
set_option linter.unusedSimpArgs false

theorem refStates_any (T : TV) (l : List Int) (n : Nat) (A : Option Addr) (c : Nat) (w : World) (hT : T.ok w) (hR : RI w w.heap.size A n l) (hn : n ≤ 100000) :
    Calls Tryd.prog 111 #[T.v, .slice A n c] w (OutWk (swR T.tb l) w) := by
  by_cases h : errV T.tb = 0
  · exact refStates_yes T l n A c w hT hR hn h
  · exact refStates_no T l n A c w hT h
theorem swR_cases (t : Tb) (l : List Int) : (swR t l = none ∧ brW t l = none) ∨ (errV t = 0 ∧ okW t l = true ∧ swR t l = some (stL t l (l.length + 1)) ∧ brW t l = some (plK t l (l.length + 1))) := by
  unfold swR brW
  by_cases h : errV t = 0 ∧ okW t l = true
  · rw [if_pos h, if_pos h]; exact .inr ⟨h.1, h.2, rfl, rfl⟩
  · rw [if_neg h, if_neg h]; exact .inl ⟨rfl, rfl⟩
set_option maxHeartbeats 4000000 in
theorem refBreaks_any (T : TV) (l : List Int) (n : Nat) (A : Option Addr) (c : Nat) (w : World) (hT : T.ok w) (hR : RI w w.heap.size A n l) (hn : n ≤ 100000) :
    Calls Tryd.prog 100 #[T.v, .slice A n c] w (OutPl (brW T.tb l) w) := by
  obtain ⟨j0, hj0, hy0, hy1, hy2⟩ := info_parts infoWk
  obtain ⟨i0, hi0, hz0, hz1, hz2⟩ := info_parts info3
  have b0 := below_new w (.cells #[.int .i64 T.cl, .slice T.a1 T.n1 T.c1, .slice T.a2 T.n2 T.c2, .slice T.a3 T.n3 T.c3] 26)
  have HSt := Lib.hid (refStates_any T l n A c _ (hT.on b0) (hR.on b0) hn)
  have HX := Lib.hid (box_new w T)
  have HBr : Hid (errV T.tb = 0 → ∀ V s, Below w.heap.size w V → s < T.n2 → ∃ bb ob, T.a3 = some ⟨bb, ob, none⟩ ∧ s < T.n3 ∧ V.cell? ⟨bb, ob + s, none⟩ = some (.bool (brkN T.tb s))) := Lib.hid (fun h V s g hs => by
    obtain ⟨bb, ob, h1, h2, h3⟩ := tv_brk (hT.on g) ((cntV_iff _).1 (errV_ok.1 h).cnt)
    exact ⟨bb, ob, h1, by omega, h3 s hs⟩)
  have HSl : Hid (errV T.tb = 0 → ∀ l', stW T.tb l' < T.n2) := Lib.hid (fun h l' => by have := stW_lt (errV_ok.1 h) l'; unfold TV.tb at this ⊢; simp only [listsOf_len] at this; have h2 := hT.r2.1; omega)
  have HLn := Lib.hid hR.1
  clear hT hR
  simp only [TV.v] at *
  rcases swR_cases T.tb l with ⟨hs, hb⟩ | ⟨hv, hok, hs, hb⟩
  · rw [hs] at HSt
    rw [hb]
    clear HBr HSl hs hb
    go_enter Tryd.func100, Tryd.ntmps100
    go_wp2_with fail
    refine HSt.out.mono ?_
    rintro e w1 ⟨As, cs, rfl, hown, g⟩
    simp only [Option.getD_none, List.length_nil, Option.isSome_none]
    have bw := below_call b0 b0.size g
    have bw2 := below_call bw bw.size (below_new w1 (.cells #[.slice As 0 cs, .bool false] 147))
    clear hown g HX HSt b0 bw
    go_wp2_with fail
    have x0 : (w1.alloc (.cells #[.slice As 0 cs, .bool false] 147)).cell? ⟨w1.heap.size, 0, none⟩ = some (.slice As 0 cs) := by simp
    have x1 : (w1.alloc (.cells #[.slice As 0 cs, .bool false] 147)).cell? ⟨w1.heap.size, 1, none⟩ = some (.bool false) := by simp
    generalize w1.alloc (.cells #[.slice As 0 cs, .bool false] 147) = w2 at *
    go_loopw [7, 8] (fun vo vi wr => vo = .slice none 0 0 ∧ vi = .int .i64 0 ∧ wr = w2) (fun _ _ _ => 0)
    case atStart => exact ⟨rfl, rfl, rfl⟩
    case round =>
      obtain ⟨rfl, rfl, rfl⟩ := hrel
      go_wp2_with fail
      go_quiet (fail)
      go_wp2_with fail
      go_ret2
      exact OutPl.no rfl (below_drewN bw2 _)
  · rw [hs] at HSt
    rw [hb]
    replace HBr := Lib.hid (HBr.out hv)
    replace HSl := Lib.hid (HSl.out hv)
    have HFin : Hid (∀ (z : Nat) (A9 : Option Addr) (c9 base : Nat) (w' : World), z = (plK T.tb l (l.length + 1)).length → w'.ownsRow base 3 1 (.slice A9 z c9) z (icells (plK T.tb l (l.length + 1))) → w.heap.size ≤ base → Below w.heap.size w w' → OutPl (some (plK T.tb l (l.length + 1))) w (.returned (.tuple #[.slice A9 z c9, .bool true])) w') := Lib.hid (fun z A9 c9 base w' h1 h2 h3 h4 => by
      subst h1
      exact ⟨A9, c9, rfl, h2.mono h3, h4⟩)
    clear hv hok hs hb
    go_enter Tryd.func100, Tryd.ntmps100
    go_wp2_with fail
    refine HSt.out.mono ?_
    rintro e w1 ⟨As, cs, rfl, hown, g⟩
    simp only [Option.getD_some, Option.isSome_some] at hown ⊢
    rw [stL_len] at hown ⊢
    have bw := below_call b0 b0.size g
    have ga := below_new w1 (.cells #[.slice As (l.length + 1) cs, .bool true] 147)
    have bw2 := below_call bw bw.size ga
    have hri := (own_RI hown).on ga
    have hx2 := (HX.out.on g).on ga
    clear hown g HX HSt b0 bw ga
    go_wp2_with fail
    have x0 : (w1.alloc (.cells #[.slice As (l.length + 1) cs, .bool true] 147)).cell? ⟨w1.heap.size, 0, none⟩ = some (.slice As (l.length + 1) cs) := by simp
    have x1 : (w1.alloc (.cells #[.slice As (l.length + 1) cs, .bool true] 147)).cell? ⟨w1.heap.size, 1, none⟩ = some (.bool true) := by simp
    have hgw : w1.heap.size < (w1.alloc (.cells #[.slice As (l.length + 1) cs, .bool true] 147)).heap.size := by simp
    generalize w1.alloc (.cells #[.slice As (l.length + 1) cs, .bool true] 147) = w2 at *
    generalize w1.heap.size = gv at *
    have hww := bw2.size
    have HRI := Lib.hid hri
    have HX2 := Lib.hid hx2
    have HB2 := Lib.hid bw2
    have HC0 := Lib.hid x0
    have HC1 := Lib.hid x1
    clear hri hx2 bw2 x0 x1
    obtain ⟨N, hN⟩ : ∃ N, l.length + 1 = N := ⟨_, rfl⟩
    have hNb : N ≤ 100001 := by have := HLn.out; omega
    rw [hN] at HRI HC0 ⊢
    replace HFin : Hid (∀ (z : Nat) (A9 : Option Addr) (c9 base : Nat) (w' : World), z = (plK T.tb l N).length → w'.ownsRow base 3 1 (.slice A9 z c9) z (icells (plK T.tb l N)) → w.heap.size ≤ base → Below w.heap.size w w' → OutPl (some (plK T.tb l (l.length + 1))) w (.returned (.tuple #[.slice A9 z c9, .bool true])) w') := Lib.hid (by rw [← hN]; exact HFin.out)
    clear hN HLn
    go_loopw [7, 8] (fun vo vi wr => ∃ (k z : Nat) (A8 : Option Addr) (c8 : Nat), vi = .int .i64 k ∧ k ≤ N ∧ z ≤ k ∧ vo = .slice A8 z c8 ∧ Hid (z = (plK T.tb l k).length) ∧ Hid (wr.ownsRow w2.heap.size 3 1 (.slice A8 z c8) z (icells (plK T.tb l k))) ∧ Hid (Below w2.heap.size w2 wr)) (fun _ vi _ => N - (intOf vi).toNat)
    case atStart => exact ⟨0, 0, none, 0, rfl, Nat.zero_le _, Nat.le_refl _, rfl, Lib.hid rfl, Lib.hid (World.ownsRow_nil _ _ _ _), Lib.hid (Below.refl _ _)⟩
    case round =>
      obtain ⟨k, z, A8, c8, rfl, hk, hzk, rfl, HZ, HO, HB⟩ := hrel
      have x0 := kept_cell HB.out HC0.out
      have x1 := kept_cell HB.out HC1.out
      obtain ⟨_, p0, p1, p2, p3⟩ := HX2.out.on HB.out
      by_cases hlt : k < N
      · have kl : k < (stL T.tb l N).length := by rw [stL_len]; exact hlt
        obtain ⟨bs, os, hA, _, q⟩ := (HRI.out.on HB.out).at kl
        rw [stL_at T.tb l hlt kl] at q
        rw [hA] at x0
        obtain ⟨bb, ob, hA3, hs3, q3⟩ := HBr.out wr (stW T.tb (l.take k)) (HB2.out.trans (HB.out.mono hww)) (HSl.out _)
        rw [hA3] at p3
        have HPl : Hid (plK T.tb l (k + 1) = plK T.tb l k ++ (if brkN T.tb (stW T.tb (l.take k)) then [(k : Int)] else [])) := Lib.hid (plK_succ _ _ _)
        generalize stW T.tb (l.take k) = s at *
        generalize brkN T.tb s = bk at *
        clear hA hA3 kl
        go_wp2_with fail
        go_quiet (fail)
        have gd := below_drewN (Below.refl wr.heap.size wr) nq
        replace HB := Lib.hid (HB.out.trans (gd.mono HB.out.size))
        replace HO := Lib.hid (own_below HO.out gd)
        clear gd x0 x1 p0 p1 p2 p3 q q3
        generalize wr.drewN nq = w4 at *
        cases bk
        case false =>
          simp only [Bool.false_eq_true, if_false, List.append_nil] at HPl
          go_wp2_with fail
          go_roundw
          case rel => exact ⟨k + 1, z, A8, c8, by go_num, by omega, by omega, rfl, Lib.hid (by rw [HPl.out]; exact HZ.out), Lib.hid (by rw [HPl.out]; exact HO.out), HB⟩
          case measure => simp [intOf]; omega
        case true =>
          simp only [if_true] at HPl
          have HRd := Lib.hid (reads_int w4 (k : Int))
          have HOne := Lib.hid (icells_one [(k : Int)])
          have HOa := Lib.hid (HO.out.alloc (.cells #[.int .i64 (k : Int)] 3))
          have ga := below_new w4 (.cells #[.int .i64 (k : Int)] 3)
          have HBa := Lib.hid (HB.out.trans (ga.mono HB.out.size))
          have hs4 := HB.out.size
          clear ga HO HB
          go_wp2_with (at_builtin; refine wpList_append_src rfl _ _ 51 rfl w2.heap.size 3 i0 _ 1 8 Tryd.underlying51 hi0 hz0 hz1 hz2 rfl (by decide) _ _ _ rfl HOa.out (some ⟨w4.heap.size, 0, none⟩) 1 1 (w4.heap.size + 1) (icells [(k : Int)]) rfl (fun h => by cases h) HRd.out HOne.out ?n3 ?n4 ?n5 ?_)
          case n3 => unfold maxLen; omega
          case n4 => omega
          case n5 => simp; omega
          intro A9 c9 w9 hown9 hn9 hgrow9
          have HB9 : Hid (Below w2.heap.size w2 w9) := Lib.hid (below_grown HBa.out HBa.out.size HOa.out hgrow9)
          have HO9 : Hid (w9.ownsRow w2.heap.size 3 1 (.slice A9 (z + 1) c9) (z + 1) (icells (plK T.tb l (k + 1)))) := Lib.hid (by rw [HPl.out, icells_snoc]; exact hown9)
          have HZ9 : Hid (z + 1 = (plK T.tb l (k + 1)).length) := Lib.hid (by rw [HPl.out, List.length_append, ← HZ.out]; rfl)
          clear hown9 hgrow9 HOa HRd HOne HBa
          go_wp2_with fail
          go_roundw
          case rel => exact ⟨k + 1, z + 1, A9, c9, by go_num, by omega, by omega, rfl, HZ9, HO9, HB9⟩
          case measure => simp [intOf]; omega
      · obtain rfl : k = N := by omega
        go_wp2_with fail
        go_quiet (fail)
        have gd := below_drewN (Below.refl wr.heap.size wr) nq
        have HBf := Lib.hid (HB2.out.trans ((HB.out.trans (gd.mono HB.out.size)).mono hww))
        have HOf := Lib.hid (own_below HO.out gd)
        go_wp2_with fail
        go_ret2
        exact HFin.out z A8 c8 _ _ HZ.out HOf.out hww HBf.out

/-! Of any table. -/
def clB (t : Tb) (v : Int) : Bool := decide (errV t = 0) && ofB t.bd v
def clN (t : Tb) (v : Int) : Int := if clB t v then ofN t.bd v else 0
theorem refCl_is (t : Tb) (v : Int) (h : ∀ v, errV t = 0 → 0 ≤ ofN t.bd v) : refCl t v = if clB t v then clN t v else -1 := by
  unfold refCl clN clB
  by_cases e : errV t = 0
  · rw [if_pos e, decide_eq_true e, Bool.true_and]
    cases ofB t.bd v <;> simp
  · rw [if_neg e, decide_eq_false e]; rfl
def stO (t : Tb) (l : List Int) : Bool := decide (errV t = 0) && okW t l
def stN (t : Tb) (l : List Int) : Int := if stO t l then (stW t l : Int) else 0
set_option maxHeartbeats 2000000 in
theorem wbreaks_any (T : TV) (l : List Int) (n : Nat) (A : Option Addr) (c : Nat) (w : World) (hT : T.ok w) (hR : RI w w.heap.size A n l) (hn : n ≤ 100000) :
    Calls Tryd.prog 101 #[T.v, .slice A n c] w (OutPl (brW T.tb l) w) := by
  by_cases he : errV T.tb = 0
  case pos => exact wbreaks_yes T l n A c w hT hR hn he
  have b0 := below_new w (.cells #[.int .i64 T.cl, .slice T.a1 T.n1 T.c1, .slice T.a2 T.n2 T.c2, .slice T.a3 T.n3 T.c3] 26)
  have HBg := Lib.hid (begun_no T _ (hT.on b0) he)
  rw [brW_err he]
  clear hT he hR
  simp only [TV.v] at *
  go_enter Tryd.func101, Tryd.ntmps101
  go_wp2_with fail
  refine HBg.out.mono ?_
  rintro e w1 ⟨rfl, g⟩
  have bw1 := below_call b0 b0.size g
  have bw2 := below_call bw1 bw1.size (below_new w1 (.cells #[.int .i64 0, .slice none 0 0, .slice none 0 0, .slice none 0 0, .map none, .int .i64 0] 151))
  clear g HBg
  go_wp2_with fail
  go_ret2
  exact OutPl.no rfl bw2
end Go.Proofs.YtmhfgncffkfelaaDoor

/- The example of the statements of walk. -/
namespace Go.Proofs.YtmhfgncffkfelaaDoor
open Go.RowKit Go.BigFrame Go.Maps
set_option linter.unusedVariables false
set_option maxRecDepth 4000
set_option linter.unusedSimpArgs false

def tTo : Tb := { cl := 2, bd := [(0, 0), (97, 1), (98, 0)], nx := [[0, 1], [0, 1]], br := [false, true] }
theorem tTo_err : errV tTo = 0 := by decide
theorem infoTb : (Tryd.prog.info? 26).map (fun i => (i.zero, i.size, i.bytes)) = some (some (.agg #[.int .i64 0, .slice none 0 0, .slice none 0 0, .slice none 0 0]), 4, 80) := by kernel_rfl
set_option maxHeartbeats 4000000 in
theorem two_any (w : World) : Calls Tryd.prog 80 #[] w (fun e w' => ∃ T : TV, e = .returned T.v ∧ T.tb = tTo ∧ T.ok w' ∧ Below w.heap.size w w') := by
  obtain ⟨j0, hj0, hy0, hy1, hy2⟩ := info_parts infoTb
  obtain ⟨i0, hi0, hz0, hz1, hz2⟩ := info_parts info52
  go_enter Tryd.func80, Tryd.ntmps80
  go_wp2_with fail
  have G0 : Below w.heap.size w w := Below.refl _ _
  have g := below_new w (.cells #[.int .i64 2, .slice (some ⟨w.heap.size + 1, 0, none⟩) 3 3, .slice (some ⟨w.heap.size + 1 + 1 + 1 + 1, 0, none⟩) 2 2, .slice (some ⟨w.heap.size + 1 + 1 + 1 + 1 + 1, 0, none⟩) 2 2] 26)
  have z1 : (w.alloc (.cells #[.int .i64 2, .slice (some ⟨w.heap.size + 1, 0, none⟩) 3 3, .slice (some ⟨w.heap.size + 1 + 1 + 1 + 1, 0, none⟩) 2 2, .slice (some ⟨w.heap.size + 1 + 1 + 1 + 1 + 1, 0, none⟩) 2 2] 26)).heap.size = w.heap.size + 1 := by simp; try omega
  have c0 : (w.alloc (.cells #[.int .i64 2, .slice (some ⟨w.heap.size + 1, 0, none⟩) 3 3, .slice (some ⟨w.heap.size + 1 + 1 + 1 + 1, 0, none⟩) 2 2, .slice (some ⟨w.heap.size + 1 + 1 + 1 + 1 + 1, 0, none⟩) 2 2] 26)).cell? ⟨w.heap.size, 0, none⟩ = some (.int .i64 2) := by simp
  have c1 : (w.alloc (.cells #[.int .i64 2, .slice (some ⟨w.heap.size + 1, 0, none⟩) 3 3, .slice (some ⟨w.heap.size + 1 + 1 + 1 + 1, 0, none⟩) 2 2, .slice (some ⟨w.heap.size + 1 + 1 + 1 + 1 + 1, 0, none⟩) 2 2] 26)).cell? ⟨w.heap.size, 1, none⟩ = some (.slice (some ⟨w.heap.size + 1, 0, none⟩) 3 3) := by simp
  have c2 : (w.alloc (.cells #[.int .i64 2, .slice (some ⟨w.heap.size + 1, 0, none⟩) 3 3, .slice (some ⟨w.heap.size + 1 + 1 + 1 + 1, 0, none⟩) 2 2, .slice (some ⟨w.heap.size + 1 + 1 + 1 + 1 + 1, 0, none⟩) 2 2] 26)).cell? ⟨w.heap.size, 2, none⟩ = some (.slice (some ⟨w.heap.size + 1 + 1 + 1 + 1, 0, none⟩) 2 2) := by simp
  have c3 : (w.alloc (.cells #[.int .i64 2, .slice (some ⟨w.heap.size + 1, 0, none⟩) 3 3, .slice (some ⟨w.heap.size + 1 + 1 + 1 + 1, 0, none⟩) 2 2, .slice (some ⟨w.heap.size + 1 + 1 + 1 + 1 + 1, 0, none⟩) 2 2] 26)).cell? ⟨w.heap.size, 3, none⟩ = some (.slice (some ⟨w.heap.size + 1 + 1 + 1 + 1 + 1, 0, none⟩) 2 2) := by simp
  have G1 := G0.trans (g.mono (by omega))
  clear g
  generalize (w.alloc (.cells #[.int .i64 2, .slice (some ⟨w.heap.size + 1, 0, none⟩) 3 3, .slice (some ⟨w.heap.size + 1 + 1 + 1 + 1, 0, none⟩) 2 2, .slice (some ⟨w.heap.size + 1 + 1 + 1 + 1 + 1, 0, none⟩) 2 2] 26)) = W1 at *
  have g := below_new W1 (.cells #[.int .i64 0, .int .i64 0, .int .i64 97, .int .i64 1, .int .i64 98, .int .i64 0] 50)
  have z2 : (W1.alloc (.cells #[.int .i64 0, .int .i64 0, .int .i64 97, .int .i64 1, .int .i64 98, .int .i64 0] 50)).heap.size = w.heap.size + 1 + 1 := by simp; try omega
  replace c0 := kept_cell g c0
  replace c1 := kept_cell g c1
  replace c2 := kept_cell g c2
  replace c3 := kept_cell g c3
  have f1 := rd_lit W1 (w.heap.size + 1) z1.symm [(0, 0), (97, 1), (98, 0)] 3 #[.int .i64 0, .int .i64 0, .int .i64 97, .int .i64 1, .int .i64 98, .int .i64 0] rfl rfl (by decide)
  have G2 := G1.trans (g.mono (by omega))
  clear g
  generalize (W1.alloc (.cells #[.int .i64 0, .int .i64 0, .int .i64 97, .int .i64 1, .int .i64 98, .int .i64 0] 50)) = W2 at *
  have g := below_new W2 (.cells #[.int .i64 0, .int .i64 1] 3)
  have z3 : (W2.alloc (.cells #[.int .i64 0, .int .i64 1] 3)).heap.size = w.heap.size + 1 + 1 + 1 := by simp; try omega
  replace c0 := kept_cell g c0
  replace c1 := kept_cell g c1
  replace c2 := kept_cell g c2
  replace c3 := kept_cell g c3
  have f2 := ri_lit W2 (w.heap.size + 1 + 1) z2.symm [0, 1] 2 #[.int .i64 0, .int .i64 1] rfl rfl (by decide)
  replace f1 := f1.on g
  have G3 := G2.trans (g.mono (by omega))
  clear g
  generalize (W2.alloc (.cells #[.int .i64 0, .int .i64 1] 3)) = W3 at *
  have g := below_new W3 (.cells #[.int .i64 0, .int .i64 1] 3)
  have z4 : (W3.alloc (.cells #[.int .i64 0, .int .i64 1] 3)).heap.size = w.heap.size + 1 + 1 + 1 + 1 := by simp; try omega
  replace c0 := kept_cell g c0
  replace c1 := kept_cell g c1
  replace c2 := kept_cell g c2
  replace c3 := kept_cell g c3
  have f3 := ri_lit W3 (w.heap.size + 1 + 1 + 1) z3.symm [0, 1] 2 #[.int .i64 0, .int .i64 1] rfl rfl (by decide)
  replace f1 := f1.on g
  replace f2 := f2.on g
  have G4 := G3.trans (g.mono (by omega))
  clear g
  generalize (W3.alloc (.cells #[.int .i64 0, .int .i64 1] 3)) = W4 at *
  have g := below_new W4 (.cells #[.slice (some ⟨w.heap.size + 1 + 1, 0, none⟩) 2 2, .slice (some ⟨w.heap.size + 1 + 1 + 1, 0, none⟩) 2 2] 51)
  have z5 : (W4.alloc (.cells #[.slice (some ⟨w.heap.size + 1 + 1, 0, none⟩) 2 2, .slice (some ⟨w.heap.size + 1 + 1 + 1, 0, none⟩) 2 2] 51)).heap.size = w.heap.size + 1 + 1 + 1 + 1 + 1 := by simp; try omega
  replace c0 := kept_cell g c0
  replace c1 := kept_cell g c1
  replace c2 := kept_cell g c2
  replace c3 := kept_cell g c3
  have f4 := rn_lit W4 (w.heap.size + 1 + 1 + 1 + 1) z4.symm [⟨some ⟨w.heap.size + 1 + 1, 0, none⟩, 2, 2, [0, 1]⟩, ⟨some ⟨w.heap.size + 1 + 1 + 1, 0, none⟩, 2, 2, [0, 1]⟩] 2 #[.slice (some ⟨w.heap.size + 1 + 1, 0, none⟩) 2 2, .slice (some ⟨w.heap.size + 1 + 1 + 1, 0, none⟩) 2 2] rfl rfl (by decide) (fun h hh => by
    simp only [List.mem_cons, List.not_mem_nil, or_false] at hh
    rcases hh with rfl | rfl
    · exact ⟨f2, shpN _ 2 (by decide)⟩
    · exact ⟨f3, shpN _ 2 (by decide)⟩)
  replace f1 := f1.on g
  replace f2 := f2.on g
  replace f3 := f3.on g
  have G5 := G4.trans (g.mono (by omega))
  clear g
  generalize (W4.alloc (.cells #[.slice (some ⟨w.heap.size + 1 + 1, 0, none⟩) 2 2, .slice (some ⟨w.heap.size + 1 + 1 + 1, 0, none⟩) 2 2] 51)) = W5 at *
  have g := below_new W5 (.cells #[.bool false, .bool true] 4)
  have z6 : (W5.alloc (.cells #[.bool false, .bool true] 4)).heap.size = w.heap.size + 1 + 1 + 1 + 1 + 1 + 1 := by simp; try omega
  replace c0 := kept_cell g c0
  replace c1 := kept_cell g c1
  replace c2 := kept_cell g c2
  replace c3 := kept_cell g c3
  have f5 := rl_lit W5 (w.heap.size + 1 + 1 + 1 + 1 + 1) z5.symm [false, true] 2 #[.bool false, .bool true] rfl rfl (by decide)
  replace f1 := f1.on g
  replace f2 := f2.on g
  replace f3 := f3.on g
  replace f4 := f4.on g
  have G6 := G5.trans (g.mono (by omega))
  clear g
  generalize (W5.alloc (.cells #[.bool false, .bool true] 4)) = W6 at *
  exact bodyPost_ret (v := .agg #[.int .i64 2, .slice (some ⟨w.heap.size + 1, 0, none⟩) 3 3, .slice (some ⟨w.heap.size + 1 + 1 + 1 + 1, 0, none⟩) 2 2, .slice (some ⟨w.heap.size + 1 + 1 + 1 + 1 + 1, 0, none⟩) 2 2]) (by simp [results, Tryd.results80, go_sem, c0, c1, c2, c3]) rfl ⟨⟨2, some ⟨w.heap.size + 1, 0, none⟩, 3, 3, [(0, 0), (97, 1), (98, 0)], some ⟨w.heap.size + 1 + 1 + 1 + 1, 0, none⟩, 2, 2, [⟨some ⟨w.heap.size + 1 + 1, 0, none⟩, 2, 2, [0, 1]⟩, ⟨some ⟨w.heap.size + 1 + 1 + 1, 0, none⟩, 2, 2, [0, 1]⟩], some ⟨w.heap.size + 1 + 1 + 1 + 1 + 1, 0, none⟩, 2, 2, [false, true]⟩, rfl, rfl, ⟨f1, shpN _ 3 (by decide), f4, shpN _ 2 (by decide), f5, shpN _ 2 (by decide)⟩, G6⟩
theorem tTo_a : clB tTo 97 = true ∧ clN tTo 97 = 1 ∧ stO tTo [97, 98] = true ∧ stN tTo [97, 98] = 0 ∧ clB tTo 55296 = false := by decide
theorem tTo_b : brW tTo [97, 98, 97, 97] = some [1, 3, 4] := by decide
theorem zT_st : stO { cl := 0, bd := [], nx := [], br := [] } [] = false ∧ stN { cl := 0, bd := [], nx := [], br := [] } [] = 0 := by decide
end Go.Proofs.YtmhfgncffkfelaaDoor

