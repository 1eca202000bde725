/- What Class, State and Breaks of package walk return. -/
import Derived.Test.YtbnconieedgcmaaDoorWalk1
import Derived.Deep.Onto
namespace Go.Proofs.YtbnconieedgcmaaDoor
open Go.RowKit Go.BigFrame Go.Maps
set_option linter.unusedVariables false
set_option maxRecDepth 4000
set_option linter.unusedSimpArgs false

/-- A walker that was just laid, its map empty. -/
theorem Wkr.new {base m : Nat} {w : World} (T : TV) (hb : base ≤ w.heap.size) (hm1 : base ≤ m) (hm2 : m < w.heap.size) (hown : w.ownsMap Tryd.prog 21 (plainElem (H := Unit) Tryd.prog 3) m 0 (.map [])) :
    Wkr base (w.alloc (.cells #[.int .i64 T.cl, .slice T.a1 T.n1 T.c1, .slice T.a2 T.n2 T.c2, .slice T.a3 T.n3 T.c3, .map (some m), .int .i64 0] 116)) T w.heap.size m 0 0 :=
  ⟨hb, by simp, by simp, by simp, by simp, by simp, by simp, by simp, by simp, hm1, by omega, _, hown.alloc _, MC.start _⟩
def stR (t : Tb) (l : List Int) : Int := if okW t l then (stW t l : Int) else 0
def OutSt (t : Tb) (l : List Int) (w : World) (e : Ending) (w' : World) : Prop := e = .returned (.tuple #[.int .i64 (stR t l), .bool (okW t l)]) ∧ Below w.heap.size w w'
theorem OutSt.no {t : Tb} {l : List Int} {w w' : World} (h : okW t l = false) (b : Below w.heap.size w w') : OutSt t l w (.returned (.tuple #[.int .i64 0, .bool false])) w' := ⟨by unfold stR; rw [h]; rfl, b⟩
theorem OutSt.yes {t : Tb} {l : List Int} {w w' : World} (h : okW t l = true) (b : Below w.heap.size w w') : OutSt t l w (.returned (.tuple #[.int .i64 (stW t l : Int), .bool true])) w' := ⟨by unfold stR; rw [h]; rfl, b⟩
theorem reads_int (w : World) (x : Int) : Reads (w.alloc (.cells #[.int .i64 x] 3)) (w.heap.size + 1) 1 (some ⟨w.heap.size, 0, none⟩) 1 (icells [x]) := ⟨rfl, fun _ => ⟨_, _, rfl, by omega, fun i u hu => by
  match i, hu with
  | 0, hu => injection hu with hu; subst hu; simp⟩⟩
def OutPl (r : Option (List Int)) (w : World) (e : Ending) (w' : World) : Prop := ∃ (A : Option Addr) (c : Nat), e = .returned (.tuple #[.slice A (r.getD []).length c, .bool r.isSome]) ∧ w'.ownsRow w.heap.size 3 1 (.slice A (r.getD []).length c) (r.getD []).length (icells (r.getD [])) ∧ Below w.heap.size w w'
theorem OutPl.no {r : Option (List Int)} {w w' : World} (h : r = none) (b : Below w.heap.size w w') : OutPl r w (.returned (.tuple #[.slice none 0 0, .bool false])) w' := by
  subst h
  exact ⟨none, 0, rfl, World.ownsRow_nil _ _ _ _, b⟩
theorem brW_some {t : Tb} {l : List Int} (h : errV t = 0) (k : okW t l = true) : brW t l = some (plK t l (l.length + 1)) := by unfold brW; rw [if_pos ⟨h, k⟩]
theorem brW_none {t : Tb} {l : List Int} (k : okW t l = false) : brW t l = none := by unfold brW; rw [if_neg (by rw [k]; simp)]
theorem brW_err {t : Tb} {l : List Int} (h : errV t ≠ 0) : brW t l = none := by unfold brW; rw [if_neg (fun e => h e.1)]
theorem OutPl.yes {t : Tb} {l L : List Int} {z : Nat} {w w' : World} {A : Option Addr} {c base : Nat} (h : errV t = 0) (k : okW t l = true) (hL : L = plK t l (l.length + 1)) (hz : z = L.length) (ho : w'.ownsRow base 3 1 (.slice A z c) z (icells L)) (hb : w.heap.size ≤ base) (b : Below w.heap.size w w') : OutPl (brW t l) w (.returned (.tuple #[.slice A z c, .bool true])) w' := by
  subst hz
  rw [brW_some h k, ← hL]
  exact ⟨A, c, rfl, ho.mono hb, b⟩
set_option maxHeartbeats 4000000 in
theorem wbreaks_yes (T : TV) (l : List Int) (n : Nat) (A : Option Addr) (c : Nat) (w : World) (hT : T.ok w) (hR : RI w w.heap.size A n l) (hn : n ≤ 100000) (hV : errV T.tb = 0) :
    Calls Tryd.prog 39 #[T.v, .slice A n c] w (OutPl (brW T.tb l) w) := by
  obtain ⟨i0, hi0, hz0, hz1, hz2⟩ := info_parts info3
  have hVd := errV_ok.1 hV
  have HEr := Lib.hid hV
  have hln := hR.1
  have HR := Lib.hid (fun W (g : Below w.heap.size w W) => hR.on g)
  have b0 := below_new w (.cells #[.int .i64 T.cl, .slice T.a1 T.n1 T.c1, .slice T.a2 T.n2 T.c2, .slice T.a3 T.n3 T.c3] 26)
  have HBg := Lib.hid (begun_yes T _ (hT.on b0) hV)
  have hsl : ∀ l', stW T.tb l' < T.n2 := fun l' => by have := stW_lt hVd l'; unfold TV.tb at this ⊢; simp only [listsOf_len] at this; have h2 := hT.r2.1; omega
  have HSt : Hid (∀ g m k (l' : List Int) v W, Below w.heap.size w W → Wkr w.heap.size W T g m k (stW T.tb l') → k ≤ 100000 → Calls Tryd.prog 92 #[.pointer (some ⟨g, 0, none⟩), .int .i64 v] W (OutS (ofB T.bd v) w.heap.size T g m (k + 1) (stW T.tb l') (stpW T.tb (stW T.tb l') v) W)) := Lib.hid (fun g m k l' v W hB hW hk => step_any T w hT hVd g m k _ v W hB hW hk (hsl l'))
  have HBk : Hid (∀ g m k (l' : List Int) W, Below w.heap.size w W → Wkr w.heap.size W T g m k (stW T.tb l') → Calls Tryd.prog 91 #[.pointer (some ⟨g, 0, none⟩)] W fun e w' => e = .returned (.bool (brkN T.tb (stW T.tb l'))) ∧ ∃ q, w' = W.drewN q) := Lib.hid (fun g m k l' W hB hW => breaks_any w.heap.size T g m k _ W hW (hT.on hB) hVd (hsl l'))
  have HNew : Hid (∀ (W : World) m, w.heap.size ≤ W.heap.size → w.heap.size ≤ m → m < W.heap.size → W.ownsMap Tryd.prog 21 (plainElem (H := Unit) Tryd.prog 3) m 0 (.map []) → Wkr w.heap.size (W.alloc (.cells #[.int .i64 T.cl, .slice T.a1 T.n1 T.c1, .slice T.a2 T.n2 T.c2, .slice T.a3 T.n3 T.c3, .map (some m), .int .i64 0] 116)) T W.heap.size m 0 0) := Lib.hid (fun W m h1 h2 h3 h4 => Wkr.new T h1 h2 h3 h4)
  have HLn := Lib.hid hln
  clear hT hR hV hVd hsl hln
  simp only [TV.v] at *
  go_enter Tryd.func39, Tryd.ntmps39
  go_wp2_with fail
  refine HBg.out.mono ?_
  rintro e w1 ⟨m, rfl, hm1, hm2, hown, g⟩
  go_wp2_with fail
  have bw1 : Below w.heap.size w w1 := below_call b0 b0.size g
  have hwk := HNew.out w1 m bw1.size (Nat.le_trans b0.size hm1) hm2 hown
  have bw2 := below_call bw1 bw1.size (below_new w1 (.cells #[.int .i64 T.cl, .slice T.a1 T.n1 T.c1, .slice T.a2 T.n2 T.c2, .slice T.a3 T.n3 T.c3, .map (some m), .int .i64 0] 116))
  have hgw : w1.heap.size < (w1.alloc (.cells #[.int .i64 T.cl, .slice T.a1 T.n1 T.c1, .slice T.a2 T.n2 T.c2, .slice T.a3 T.n3 T.c3, .map (some m), .int .i64 0] 116)).heap.size := by simp
  generalize w1.alloc (.cells #[.int .i64 T.cl, .slice T.a1 T.n1 T.c1, .slice T.a2 T.n2 T.c2, .slice T.a3 T.n3 T.c3, .map (some m), .int .i64 0] 116) = w2 at *
  generalize w1.heap.size = gw at *
  have hmw : m < w2.heap.size := by omega
  have hww : w.heap.size ≤ w2.heap.size := bw2.size
  have HW0 := Lib.hid hwk
  have HB0 := Lib.hid bw2
  clear g hown hm1 hm2 bw1 bw2 hwk HNew HBg b0
  go_loopw [8, 20] (fun vp vi wr => ∃ (k z : Nat) (A8 : Option Addr) (c8 : Nat), vi = .int .i64 k ∧ k ≤ n ∧ z ≤ k ∧ vp = .slice A8 z c8 ∧ Hid (z = (plK T.tb l k).length) ∧ Hid (wr.ownsRow w2.heap.size 3 1 (.slice A8 z c8) z (icells (plK T.tb l k))) ∧ Hid (okW T.tb (l.take k) = true) ∧ Hid (Wkr w.heap.size wr T gw m k (stW T.tb (l.take k))) ∧ Hid (Below w.heap.size w wr) ∧ Hid (w2.heap.size ≤ wr.heap.size)) (fun _ vi _ => n - (intOf vi).toNat)
  case atStart => exact ⟨0, 0, none, 0, rfl, Nat.zero_le _, Nat.le_refl _, rfl, Lib.hid rfl, Lib.hid (World.ownsRow_nil _ _ _ _), Lib.hid rfl, HW0, HB0, Lib.hid (Nat.le_refl _)⟩
  case round =>
    clear HW0 HB0
    obtain ⟨k, z, A8, c8, rfl, hk, hzk, rfl, HZ, HO, HK, HW, HB, HS⟩ := hrel
    obtain ⟨bk, hbk⟩ : ∃ bk, brkN T.tb (stW T.tb (l.take k)) = bk := ⟨_, rfl⟩
    have HBc := Lib.hid (HBk.out gw m k (l.take k) wr HB.out HW.out)
    rw [hbk] at HBc
    have HPl : Hid (plK T.tb l (k + 1) = plK T.tb l k ++ (if bk then [(k : Int)] else [])) := Lib.hid (by rw [plK_succ, hbk])
    clear hbk
    by_cases hlt : k < n
    · have kl : k < l.length := by rw [HLn.out]; exact hlt
      obtain ⟨bb, oo, hA, _, q⟩ := (HR.out _ HB.out).at kl
      subst hA
      have HTk : Hid (l.take (k + 1) = l.take k ++ [l[k]]) := Lib.hid (take_one kl)
      have HNo : Hid (ofB T.bd l[k] = false → okW T.tb l = false) := Lib.hid (fun h => okW_take_no (k := k + 1) (by rw [HTk.out, okW_snoc, show T.tb.bd = T.bd from rfl, h, Bool.and_false]))
      have HYes : Hid (ofB T.bd l[k] = true → okW T.tb (l.take (k + 1)) = true) := Lib.hid (fun h => by rw [HTk.out, okW_snoc, show T.tb.bd = T.bd from rfl, h, HK.out]; rfl)
      have HGo : Hid (stpW T.tb (stW T.tb (l.take k)) l[k] = stW T.tb (l.take (k + 1))) := Lib.hid (by rw [HTk.out, stW_snoc])
      have HC : Hid (∀ W, Below w.heap.size w W → Wkr w.heap.size W T gw m k (stW T.tb (l.take k)) → Calls Tryd.prog 92 #[.pointer (some ⟨gw, 0, none⟩), .int .i64 l[k]] W (OutS (ofB T.bd l[k]) w.heap.size T gw m (k + 1) (stW T.tb (l.take k)) (stpW T.tb (stW T.tb (l.take k)) l[k]) W)) := Lib.hid (fun W h1 h2 => HSt.out gw m k (l.take k) l[k] W h1 h2 (by omega))
      clear HTk HK
      generalize l[k] = x at *
      obtain ⟨qb, hqb⟩ : ∃ qb, ofB T.bd x = qb := ⟨_, rfl⟩
      rw [hqb] at HNo HYes HC
      rw [HGo.out] at HC
      clear hqb HGo
      go_wp2_with fail
      refine HBc.out.mono ?_
      rintro e w4 ⟨rfl, dq, rfl⟩
      have gd := below_drewN (Below.refl wr.heap.size wr) dq
      have HB4 := Lib.hid (below_drewN HB.out dq)
      have HW4 := Lib.hid (HW.out.on gd)
      have HO4 := Lib.hid (own_below HO.out gd)
      have HS4 : Hid (w2.heap.size ≤ (wr.drewN dq).heap.size) := Lib.hid (Nat.le_trans HS.out gd.size)
      clear HBc gd HB HW HO HS q
      generalize wr.drewN dq = w4 at *
      cases bk
      case false =>
        simp only [Bool.false_eq_true, if_false, List.append_nil] at HPl
        go_wp2_with fail
        refine (HC.out _ HB4.out HW4.out).mono ?_
        rintro e w5 ⟨rfl, hb5, ⟨s2, hw5, hs2⟩, hkr⟩
        have HB5 := Lib.hid (HB4.out.trans hb5)
        have HO5 := Lib.hid (hkr _ _ _ _ _ _ hgw hmw HO4.out)
        have HS5 : Hid (w2.heap.size ≤ w5.heap.size) := Lib.hid (Nat.le_trans HS4.out hb5.size)
        clear hb5 hkr HC
        cases qb
        case false =>
          have HE := Lib.hid (HNo.out rfl)
          go_wp2_with fail
          go_ret2
          exact OutPl.no (brW_none HE.out) HB5.out
        case true =>
          obtain rfl := hs2 rfl
          have HW5 := Lib.hid hw5
          have HK5 := Lib.hid (HYes.out rfl)
          clear hw5 hs2 HNo HYes
          go_wp2_with fail
          go_roundw
          case rel => exact ⟨k + 1, z, _, _, by go_num, by omega, by omega, rfl, Lib.hid (by rw [HPl.out]; exact HZ.out), Lib.hid (by rw [HPl.out]; exact HO5.out), HK5, HW5, HB5, HS5⟩
          case measure => simp [intOf]; omega
      case true =>
        simp only [if_true] at HPl
        have HRd := Lib.hid (reads_int w4 (k : Int))
        have HOne := Lib.hid (icells_one [(k : Int)])
        have HOa := Lib.hid (HO4.out.alloc (.cells #[.int .i64 (k : Int)] 3))
        have ga := below_new w4 (.cells #[.int .i64 (k : Int)] 3)
        have HWa := Lib.hid (HW4.out.on ga)
        have HBa := Lib.hid (HB4.out.trans (ga.mono HB4.out.size))
        have HSa : Hid (w2.heap.size ≤ (w4.alloc (.cells #[.int .i64 (k : Int)] 3)).heap.size) := Lib.hid (Nat.le_trans HS4.out ga.size)
        have HWs : Hid (w.heap.size ≤ (w4.alloc (.cells #[.int .i64 (k : Int)] 3)).heap.size) := Lib.hid HBa.out.size
        have hs4 := HS4.out
        clear ga
        go_wp2_with (at_builtin; refine wpList_append_src rfl _ _ 49 rfl w2.heap.size 3 i0 _ 1 8 Tryd.underlying49 hi0 hz0 hz1 hz2 rfl (by decide) _ _ _ rfl HOa.out (some ⟨w4.heap.size, 0, none⟩) 1 1 (w4.heap.size + 1) (icells [(k : Int)]) rfl (fun h => by cases h) HRd.out HOne.out ?n3 ?n4 ?n5 ?_)
        case n3 => unfold maxLen; omega
        case n4 => omega
        case n5 => simp; omega
        intro A9 c9 w9 hown9 hn9 hgrow9
        have HW9 := Lib.hid (HWa.out.grown hgrow9 (fun j hj => by have h1 := (HOa.out.lt j hj).1; exact ⟨by omega, by omega⟩))
        have HB9 := Lib.hid (HBa.out.grown hgrow9 HWs.out (fun j hj => Nat.le_trans hww (HOa.out.lt j hj).1))
        have HS9 : Hid (w2.heap.size ≤ w9.heap.size) := Lib.hid (Nat.le_trans HSa.out hgrow9.size)
        have HO9 : Hid (w9.ownsRow w2.heap.size 3 1 (.slice A9 (z + 1) c9) (z + 1) (icells (plK T.tb l (k + 1)))) := Lib.hid (by
          rw [HPl.out, icells_snoc]; exact hown9)
        have HZ9 : Hid (z + 1 = (plK T.tb l (k + 1)).length) := Lib.hid (by rw [HPl.out, List.length_append, ← HZ.out]; rfl)
        clear hown9 hgrow9 HOa HRd HOne HWa HBa HSa HWs HB4 HW4 HO4 HS4
        go_wp2_with fail
        refine (HC.out _ HB9.out HW9.out).mono ?_
        rintro e w5 ⟨rfl, hb5, ⟨s2, hw5, hs2⟩, hkr⟩
        have HB5 := Lib.hid (HB9.out.trans hb5)
        have HO5 := Lib.hid (hkr _ _ _ _ _ _ hgw hmw HO9.out)
        have HS5 : Hid (w2.heap.size ≤ w5.heap.size) := Lib.hid (Nat.le_trans HS9.out hb5.size)
        clear hb5 hkr HC
        cases qb
        case false =>
          have HE := Lib.hid (HNo.out rfl)
          go_wp2_with fail
          go_ret2
          exact OutPl.no (brW_none HE.out) HB5.out
        case true =>
          obtain rfl := hs2 rfl
          have HW5 := Lib.hid hw5
          have HK5 := Lib.hid (HYes.out rfl)
          clear hw5 hs2 HNo HYes
          go_wp2_with fail
          go_roundw
          case rel => exact ⟨k + 1, z + 1, _, _, by go_num, by omega, by omega, rfl, HZ9, HO5, HK5, HW5, HB5, HS5⟩
          case measure => simp [intOf]; omega
    · obtain rfl : k = n := by omega
      have HTl : Hid (l.take k = l) := Lib.hid (List.take_of_length_le (by rw [HLn.out]; exact Nat.le_refl _))
      rw [HTl.out] at HK
      have HFin : Hid (plK T.tb l k ++ (if bk then [(k : Int)] else []) = plK T.tb l (l.length + 1)) := Lib.hid (by rw [← HPl.out, HLn.out])
      go_wp2_with fail
      refine HBc.out.mono ?_
      rintro e w4 ⟨rfl, dq, rfl⟩
      have gd := below_drewN (Below.refl wr.heap.size wr) dq
      have HB4 := Lib.hid (below_drewN HB.out dq)
      have HW4 := Lib.hid (HW.out.on gd)
      have HO4 := Lib.hid (own_below HO.out gd)
      have HS4 : Hid (w2.heap.size ≤ (wr.drewN dq).heap.size) := Lib.hid (Nat.le_trans HS.out gd.size)
      clear HBc gd HB HW HO HS HTl
      generalize wr.drewN dq = w4 at *
      cases bk
      case false =>
        simp only [Bool.false_eq_true, if_false, List.append_nil] at HFin
        go_wp2_with fail
        go_ret2
        exact OutPl.yes HEr.out HK.out HFin.out HZ.out HO4.out hww HB4.out
      case true =>
        simp only [if_true] at HPl HFin
        have HRd := Lib.hid (reads_int w4 (k : Int))
        have HOne := Lib.hid (icells_one [(k : Int)])
        have HOa := Lib.hid (HO4.out.alloc (.cells #[.int .i64 (k : Int)] 3))
        have ga := below_new w4 (.cells #[.int .i64 (k : Int)] 3)
        have HWa := Lib.hid (HW4.out.on ga)
        have HBa := Lib.hid (HB4.out.trans (ga.mono HB4.out.size))
        have HSa : Hid (w2.heap.size ≤ (w4.alloc (.cells #[.int .i64 (k : Int)] 3)).heap.size) := Lib.hid (Nat.le_trans HS4.out ga.size)
        have HWs : Hid (w.heap.size ≤ (w4.alloc (.cells #[.int .i64 (k : Int)] 3)).heap.size) := Lib.hid HBa.out.size
        have hs4 := HS4.out
        clear ga
        go_wp2_with (at_builtin; refine wpList_append_src rfl _ _ 49 rfl w2.heap.size 3 i0 _ 1 8 Tryd.underlying49 hi0 hz0 hz1 hz2 rfl (by decide) _ _ _ rfl HOa.out (some ⟨w4.heap.size, 0, none⟩) 1 1 (w4.heap.size + 1) (icells [(k : Int)]) rfl (fun h => by cases h) HRd.out HOne.out ?n3 ?n4 ?n5 ?_)
        case n3 => unfold maxLen; omega
        case n4 => omega
        case n5 => simp; omega
        intro A9 c9 w9 hown9 hn9 hgrow9
        have HW9 := Lib.hid (HWa.out.grown hgrow9 (fun j hj => by have h1 := (HOa.out.lt j hj).1; exact ⟨by omega, by omega⟩))
        have HB9 := Lib.hid (HBa.out.grown hgrow9 HWs.out (fun j hj => Nat.le_trans hww (HOa.out.lt j hj).1))
        have HS9 : Hid (w2.heap.size ≤ w9.heap.size) := Lib.hid (Nat.le_trans HSa.out hgrow9.size)
        have HO9 : Hid (w9.ownsRow w2.heap.size 3 1 (.slice A9 (z + 1) c9) (z + 1) (icells (plK T.tb l (k + 1)))) := Lib.hid (by
          rw [HPl.out, icells_snoc]; exact hown9)
        have HZ9 : Hid (z + 1 = (plK T.tb l (k + 1)).length) := Lib.hid (by rw [HPl.out, List.length_append, ← HZ.out]; rfl)
        clear hown9 hgrow9 HOa HRd HOne HWa HBa HSa HWs HB4 HW4 HO4 HS4
        go_wp2_with fail
        go_ret2
        exact OutPl.yes HEr.out HK.out (by rw [HPl.out]; exact HFin.out) HZ9.out HO9.out hww HB9.out
end Go.Proofs.YtbnconieedgcmaaDoor
