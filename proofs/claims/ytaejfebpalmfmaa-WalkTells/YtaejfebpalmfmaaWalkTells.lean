/- WalkTells: of every table, every row of numbers and every number: the class of one, where all lead, at which places there is a break, or that it can't be told, as the document says.
   Conditions: none but the row's own. -/
import Derived.Test.YtaejfebpalmfmaaWWake
import Derived.Test.YtaejfebpalmfmaaWFrame
import Derived.Test.YtaejfebpalmfmaaRows
import Derived.Deep.RegionHeld3
import Derived.BigQuiet
import Derived.Deep.CutRange
namespace Go.Proofs.Ytaejfebpalmfmaa.walkTells
open Go.ChangeShapes Go.WideShapes Go.ChangeAt Go.RowKit Go.Deep Go.BigFrame
set_option linter.unusedVariables false
set_option maxRecDepth 4000
set_option linter.unusedSimpArgs false

/-- A walk in a new block. -/
def OutF (q : Bool) (N : Nat) (L : List Int) (V : World) (v : Value) (wx : World) : Prop := ∃ (gW : Nat) (As : Option Addr) (cs : Nat), v = .pointer (some ⟨gW, 0, none⟩) ∧ wx.cell? ⟨gW, 0, none⟩ = some (.slice As N cs) ∧ wx.cell? ⟨gW, 1, none⟩ = some (.bool q) ∧ RI wx wx.heap.size As N L ∧ Below V.heap.size V wx
def OutWk2 (q : Bool) (N : Nat) (L : List Int) (w : World) (e : Ending) (w' : World) : Prop := ∃ (As : Option Addr) (cs : Nat), e = .returned (.agg #[.slice As N cs, .bool q]) ∧ w'.ownsRow w.heap.size 3 1 (.slice As N cs) N (icells L) ∧ Below w.heap.size w w'
theorem OutWk.two {r : Option (List Int)} {N : Nat} {L : List Int} {w w' : World} {e : Ending} (h : OutWk r w e w') (h1 : r.getD [] = L) (h2 : L.length = N) : OutWk2 r.isSome N L w e w' := by
  subst h1 h2
  exact h
theorem OutF.on {q : Bool} {N : Nat} {L : List Int} {V wx wy : World} {v : Value} (h : OutF q N L V v wx) (g : Below wx.heap.size wx wy) : OutF q N L V v wy := by
  obtain ⟨gW, As, cs, h1, h2, h3, h4, h5⟩ := h
  exact ⟨gW, As, cs, h1, kept_cell g h2, kept_cell g h3, h4.on g, h5.trans (g.mono h5.size)⟩
theorem outF_alloc {q : Bool} {N cs : Nat} {As : Option Addr} {L : List Int} {V X : World} (hr : RI X X.heap.size As N L) (hb : Below V.heap.size V X) : OutF q N L V (.pointer (some ⟨X.heap.size, 0, none⟩)) (X.alloc (.cells #[.slice As N cs, .bool q] 37)) :=
  ⟨_, As, cs, rfl, by simp, by simp, hr.on (below_new _ _), hb.alloc hb.size _⟩
theorem outF_set {q : Bool} {N cs g : Nat} {As : Option Addr} {L : List Int} {V X : World} (hr : RI X X.heap.size As N L) (hz : Res2 g X) (hne : ∀ b o, As = some ⟨b, o, none⟩ → 0 < N → b ≠ g) (hb : Below V.heap.size V X) (hg : V.heap.size ≤ g) : OutF q N L V (.pointer (some ⟨g, 0, none⟩)) ((X.setCell ⟨g, 0, none⟩ (.slice As N cs)).setCell ⟨g, 1, none⟩ (.bool q)) := by
  obtain ⟨W, hW, b1, c0, c1, _⟩ := store2 (.slice As N cs) (.bool q) hb hg hz.c0 hz.c1
  subst hW
  refine ⟨g, As, cs, rfl, c0, c1, ⟨hr.1, hr.2.1, fun hn => ?_⟩, b1⟩
  obtain ⟨b, o, hA, hbl, hc⟩ := hr.2.2 hn
  have hne2 := hne b o hA hn
  refine ⟨b, o, hA, by simpa using hbl, fun j u hj => ?_⟩
  rw [World.cell?_setCell_far _ _ _ _ (fun e => hne2 e.symm), World.cell?_setCell_far _ _ _ _ (fun e => hne2 e.symm)]
  exact hc j u hj
theorem row_apart {base N cs g : Nat} {As : Option Addr} {w : World} {xs : List Value} (h : w.ownsRow base 3 1 (.slice As N cs) N xs) (hg : g < base ∨ w.heap.size ≤ g) : ∀ b o, As = some ⟨b, o, none⟩ → 0 < N → b ≠ g := by
  intro b o hA hn e
  obtain ⟨g', cap, hv, h1, h2⟩ := h.form hn
  injection hv with hv
  rw [hA] at hv
  injection hv with hv
  injection hv with hv
  omega
theorem res2_kept {X V' : World} (g : Below (X.alloc (.cells #[.slice none 0 0, .bool false] 37)).heap.size (X.alloc (.cells #[.slice none 0 0, .bool false] 37)) V') : Res2 X.heap.size V' := (res2_new X).on g
theorem res2_keptd {X V' : World} (g : Below (X.alloc (.cells #[.slice none 0 0, .bool false] 37)).drew.heap.size (X.alloc (.cells #[.slice none 0 0, .bool false] 37)).drew V') : Res2 X.heap.size V' := ((res2_new X).on (Below.drew (Below.refl _ _))).on g
theorem sSet2 {k g : Nat} {u0 u1 u2 u3 v0 v1 : Value} {w V : World} (h : V.cell? ⟨k, 0, none⟩ = some u0 ∧ V.cell? ⟨k, 1, none⟩ = some u1 ∧ V.cell? ⟨k, 2, none⟩ = some u2 ∧ V.cell? ⟨k, 3, none⟩ = some u3 ∧ Below w.heap.size w V) (hne : g ≠ k ∧ w.heap.size ≤ g) :
    ((V.setCell ⟨g, 0, none⟩ v0).setCell ⟨g, 1, none⟩ v1).cell? ⟨k, 0, none⟩ = some u0 ∧ ((V.setCell ⟨g, 0, none⟩ v0).setCell ⟨g, 1, none⟩ v1).cell? ⟨k, 1, none⟩ = some u1 ∧ ((V.setCell ⟨g, 0, none⟩ v0).setCell ⟨g, 1, none⟩ v1).cell? ⟨k, 2, none⟩ = some u2 ∧ ((V.setCell ⟨g, 0, none⟩ v0).setCell ⟨g, 1, none⟩ v1).cell? ⟨k, 3, none⟩ = some u3 ∧ Below w.heap.size w ((V.setCell ⟨g, 0, none⟩ v0).setCell ⟨g, 1, none⟩ v1) := by
  obtain ⟨h0, h1, h2, h3, hb⟩ := h
  obtain ⟨hn, hg⟩ := hne
  have far : ∀ i u, V.cell? ⟨k, i, none⟩ = some u → ((V.setCell ⟨g, 0, none⟩ v0).setCell ⟨g, 1, none⟩ v1).cell? ⟨k, i, none⟩ = some u := fun i u h => by
    rw [World.cell?_setCell_far _ _ _ _ hn, World.cell?_setCell_far _ _ _ _ hn]; exact h
  exact ⟨far 0 _ h0, far 1 _ h1, far 2 _ h2, far 3 _ h3, (hb.setCell (p := ⟨g, 0, none⟩) hg _).setCell (p := ⟨g, 1, none⟩) hg _⟩
set_option maxHeartbeats 8000000 in
theorem walk (T : TV) (l : List Int) (n : Nat) (A : Option Addr) (c : Nat) (v : Int) (W : World) (hT : T.ok W) (hR : RI W W.heap.size A n l) (hS : Shp A n c) :
    Calls Try.prog 3 #[T.v, .slice A n c, .int .i64 v] W fun e W' => e = .returned (.bool true) ∧ Below W.heap.size W W' := by
  obtain ⟨j0, hj0, hy0, hy1, hy2⟩ := info_parts infoWk
  obtain ⟨i0, hi0, hz0, hz1, hz2⟩ := info_parts info3
  have HLg := Lib.hid (fun V (g : Below W.heap.size W V) => large_any T V (hT.on g))
  have HCl := Lib.hid (fun V (g : Below W.heap.size W V) => class_any T v V (hT.on g))
  have HSt : Hid (∀ A' c' V, n ≤ 1000 → Below W.heap.size W V → RI V V.heap.size A' n l → Calls Try.prog 10 #[T.v, .slice A' n c'] V fun e w' => e = .returned (.tuple #[.int .i64 (stN T.tb l), .bool (stO T.tb l)]) ∧ Below V.heap.size V w') := Lib.hid (fun A' c' V h g h2 => state_any T l n A' c' V (hT.on g) h2 (by omega))
  have HBr : Hid (∀ A' c' V, n ≤ 1000 → Below W.heap.size W V → RI V V.heap.size A' n l → Calls Try.prog 11 #[T.v, .slice A' n c'] V (OutPl (brW T.tb l) V)) := Lib.hid (fun A' c' V h g h2 => wbreaks_any T l n A' c' V (hT.on g) h2 (by omega))
  have HRc := Lib.hid (fun V (g : Below W.heap.size W V) => refClass_any T v V (hT.on g))
  have HRs : Hid (∀ V, n ≤ 1000 → Below W.heap.size W V → Calls Try.prog 13 #[T.v, .slice A n c] V (OutWk (swR T.tb l) V)) := Lib.hid (fun V h g => refStates_any T l n A c V (hT.on g) (hR.on g) (by omega))
  have HRb : Hid (∀ V, n ≤ 1000 → Below W.heap.size W V → Calls Try.prog 14 #[T.v, .slice A n c] V (OutPl (brW T.tb l) V)) := Lib.hid (fun V h g => refBreaks_any T l n A c V (hT.on g) (hR.on g) (by omega))
  have HR := Lib.hid (fun V (g : Below W.heap.size W V) => hR.on g)
  have HLn := Lib.hid hR.1
  have HNil := Lib.hid hS.1
  have HRCl : Hid (refCl T.tb v = if clB T.tb v then clN T.tb v else -1) := Lib.hid (refCl_is T.tb v (fun u h => (ofN_lt (errV_ok.1 h) u).1))
  have HCp : Hid (0 ≤ clN T.tb v ∧ (clB T.tb v = false → clN T.tb v = 0)) := Lib.hid (by
    refine ⟨?_, fun h => by unfold clN; rw [h]; rfl⟩
    unfold clN
    split
    · rename_i h
      have he : errV T.tb = 0 := by unfold clB at h; rw [Bool.and_eq_true] at h; exact of_decide_eq_true h.1
      exact (ofN_lt (errV_ok.1 he) v).1
    · exact Int.le_refl _)
  have HCs : Hid ((stO T.tb l = false ∧ stN T.tb l = 0 ∧ swR T.tb l = none ∧ brW T.tb l = none) ∨ (stO T.tb l = true ∧ stN T.tb l = (stW T.tb l : Int) ∧ swR T.tb l = some (stL T.tb l (l.length + 1)) ∧ ∃ P, brW T.tb l = some P ∧ P.length ≤ l.length + 1)) := Lib.hid (by
    rcases swR_cases T.tb l with ⟨h1, h2⟩ | ⟨h1, h2, h3, h4⟩
    · have h5 : stO T.tb l = false := by
        unfold stO
        unfold swR at h1
        cases ho : okW T.tb l with
        | false => simp
        | true =>
          by_cases he : errV T.tb = 0
          · rw [if_pos ⟨he, ho⟩] at h1; cases h1
          · rw [decide_eq_false he]; rfl
      exact .inl ⟨h5, by unfold stN; rw [h5]; rfl, h1, h2⟩
    · have h5 : stO T.tb l = true := by unfold stO; rw [decide_eq_true h1, h2]; rfl
      exact .inr ⟨h5, by unfold stN; rw [h5]; rfl, h3, _, h4, plK_len _ _ _⟩)
  have HLa : Hid (∀ h : n < (stL T.tb l (l.length + 1)).length, (stL T.tb l (l.length + 1))[n] = (stW T.tb l : Int)) := Lib.hid (fun h => by rw [stL_at T.tb l (by have := hR.1; omega) h, ← hR.1, List.take_length])
  have HX := Lib.hid (box_new W T)
  have bb0 := below_new W (.cells #[.int .i64 T.cl, .slice T.a1 T.n1 T.c1, .slice T.a2 T.n2 T.c2, .slice T.a3 T.n3 T.c3] 26)
  clear hT hR hS
  generalize T.tb = tt at *
  generalize refCl tt v = rc at *
  generalize clN tt v = cn at *
  generalize clB tt v = cb at *
  obtain ⟨cl, a1, n1, c1, bd, a2, n2, c2, hs, a3, n3, c3, br⟩ := T
  simp only [TV.v] at *
  obtain ⟨_, p0, p1, p2, p3⟩ := HX.out
  try simp only [] at p0 p1 p2 p3
  go_enter Try.func3, Try.ntmps3
  go_wp2_with fail
  generalize W.alloc (.cells #[.int .i64 cl, .slice a1 n1 c1, .slice a2 n2 c2, .slice a3 n3 c3] 26) = V0 at *
  refine (HLg.out _ bb0).mono ?_
  rintro e w1 ⟨q, rfl, g, _⟩
  replace bb0 := bb0.trans (g.mono bb0.size)
  replace HX := Lib.hid (HX.out.on g)
  clear g p0 p1 p2 p3
  obtain ⟨_, p0, p1, p2, p3⟩ := HX.out
  try simp only [] at p0 p1 p2 p3
  clear HLg
  cases q
  case true =>
    go_wp2_with fail
    refine (wakes8_any _).mono ?_
    rintro e w9 ⟨rfl, g9⟩
    have bf := bb0.trans (g9.mono bb0.size)
    clear g9
    go_wp2_with fail
    go_ret
    exact ⟨rfl, bf⟩
  by_cases hn500 : 500 < n
  · have hn500I : (500 : Int) < (n : Int) := by omega
    go_wp2_with fail
    refine (wakes8_any _).mono ?_
    rintro e w9 ⟨rfl, g9⟩
    have bf := bb0.trans (g9.mono bb0.size)
    clear g9
    go_wp2_with fail
    go_ret
    exact ⟨rfl, bf⟩
  have hn500I : ¬ (500 : Int) < (n : Int) := by omega
  have hnm : n ≤ 500 := by omega
  have hnm2 : n ≤ 1000 := by omega
  have HOm := Lib.hid (World.ownsRow_made (e := 3) (size := 1) w1 #[] 0 (Nat.le_refl _) (Nat.zero_le _) (by simp))
  have HRd := Lib.hid ((HR.out _ bb0).2.alloc (Nat.le_refl _) (.cells #[] 3))
  have HOne := Lib.hid (icells_one l)
  go_wp2_with (at_builtin; refine wpList_append_src rfl _ _ 27 rfl w1.heap.size 3 i0 _ 1 8 Try.underlying27 hi0 hz0 hz1 hz2 rfl (by decide) _ _ _ rfl HOm.out A n c w1.heap.size (icells l) rfl HNil.out HRd.out HOne.out ?c3 ?c4 ?c5 ?_)
  case c3 => unfold maxLen; omega
  case c4 => omega
  try (case c5 => simp)
  intro A7 d7 w7 hown hnil hgrow
  have g : Below w1.heap.size w1 w7 := below_grown (below_new _ _) (by simp) HOm.out hgrow
  have HO7 : Hid (w7.ownsRow w1.heap.size 3 1 (.slice A7 n d7) n (icells l)) := Lib.hid (by simpa using hown)
  try simp only [Nat.zero_add]
  have HR7 := Lib.hid (own_RI HO7.out)
  clear hown hgrow hnil HOm HRd HOne HO7
  replace bb0 := bb0.trans (g.mono bb0.size)
  replace HX := Lib.hid (HX.out.on g)
  clear g p0 p1 p2 p3
  obtain ⟨_, p0, p1, p2, p3⟩ := HX.out
  try simp only [] at p0 p1 p2 p3
  go_wp2_with fail
  refine (HCl.out _ bb0).mono ?_
  rintro e w2 ⟨rfl, g⟩
  replace bb0 := bb0.trans (g.mono bb0.size)
  replace HX := Lib.hid (HX.out.on g)
  replace HR7 := Lib.hid (HR7.out.on g)
  clear g p0 p1 p2 p3
  obtain ⟨_, p0, p1, p2, p3⟩ := HX.out
  try simp only [] at p0 p1 p2 p3
  go_wp2_with fail
  refine (HSt.out _ _ _ hnm2 bb0 HR7.out).mono ?_
  rintro e w3 ⟨rfl, g⟩
  replace bb0 := bb0.trans (g.mono bb0.size)
  replace HX := Lib.hid (HX.out.on g)
  replace HR7 := Lib.hid (HR7.out.on g)
  clear g p0 p1 p2 p3
  obtain ⟨_, p0, p1, p2, p3⟩ := HX.out
  try simp only [] at p0 p1 p2 p3
  go_wp2_with fail
  refine (HBr.out _ _ _ hnm2 bb0 HR7.out).mono ?_
  rintro e w4 ⟨A8, c8, rfl, hown8, g⟩
  replace bb0 := bb0.trans (g.mono bb0.size)
  replace HX := Lib.hid (HX.out.on g)
  replace HR7 := Lib.hid (HR7.out.on g)
  have HR8 := Lib.hid (own_RI hown8)
  clear hown8
  clear g p0 p1 p2 p3
  obtain ⟨_, p0, p1, p2, p3⟩ := HX.out
  try simp only [] at p0 p1 p2 p3
  clear HCl HSt HBr
  have HRc2 := HRc
  have HRs2 := Lib.hid (fun V g => HRs.out V hnm2 g)
  rcases HCs.out with ⟨ho, hn0, hsw, hbw⟩ | ⟨ho, hn0, hsw, P, hbw, hPl⟩
  · rw [hsw] at HRs2
    replace HRs2 := Lib.hid (fun V g => (HRs2.out V g).mono fun e w' h => OutWk.two h rfl rfl)
    have hS0 : w4.cell? ⟨W.heap.size, 0, none⟩ = some (.int .i64 cl) ∧ w4.cell? ⟨W.heap.size, 1, none⟩ = some (.slice a1 n1 c1) ∧ w4.cell? ⟨W.heap.size, 2, none⟩ = some (.slice a2 n2 c2) ∧ w4.cell? ⟨W.heap.size, 3, none⟩ = some (.slice a3 n3 c3) ∧ Below w4.heap.size w4 w4 := ⟨p0, p1, p2, p3, Below.refl _ _⟩
    have hS1 := sOn (Below.drew (Below.refl w4.heap.size w4)) hS0
    have sz0 := World.block_lt_of_cell? _ _ hS0.1
    clear p0 p1 p2 p3
    go_upto_region 7 with (fail)
    go_cut [14, 15] from 47 to 52 (fun v14 v15 wx => v14 = .int .i64 rc ∧ OutF false 0 [] w4 v15 wx)
    case first =>
      go_region_held3 (fun V => V.cell? ⟨W.heap.size, 0, none⟩ = some (.int .i64 cl) ∧ V.cell? ⟨W.heap.size, 1, none⟩ = some (.slice a1 n1 c1) ∧ V.cell? ⟨W.heap.size, 2, none⟩ = some (.slice a2 n2 c2) ∧ V.cell? ⟨W.heap.size, 3, none⟩ = some (.slice a3 n3 c3) ∧ Below w4.heap.size w4 V) (with_reducible (first | assumption | exact hS0 | exact hS1 | exact hS2 | exact hS3 | exact sOn (below_new _ _) hS0 | exact sOn (below_new _ _) hS1 | exact sOn (below_new _ _) hS2 | exact sOn (below_new _ _) hS3 | exact sOn (Below.drew (below_new _ _)) hS0 | exact sOn (Below.drew (below_new _ _)) hS1 | exact sOn (Below.drew (below_new _ _)) hS2 | exact sOn (Below.drew (below_new _ _)) hS3 | exact sSet2 (by assumption) (by omega))) (first | (go_at_call 12; (with_reducible refine Calls.mono (HRc2.out _ ?_) ?_); (first | exact bb0.trans (hS0.2.2.2.2.mono bb0.size) | exact bb0.trans (hS1.2.2.2.2.mono bb0.size) | exact bb0.trans (hS2.2.2.2.2.mono bb0.size) | exact bb0.trans (hS3.2.2.2.2.mono bb0.size) | exact bb0.trans ((sOn (below_new _ _) hS0).2.2.2.2.mono bb0.size) | exact bb0.trans ((sOn (below_new _ _) hS1).2.2.2.2.mono bb0.size) | exact bb0.trans ((sOn (below_new _ _) hS2).2.2.2.2.mono bb0.size) | exact bb0.trans ((sOn (below_new _ _) hS3).2.2.2.2.mono bb0.size) | exact bb0.trans ((sOn (Below.drew (below_new _ _)) hS0).2.2.2.2.mono bb0.size) | exact bb0.trans ((sOn (Below.drew (below_new _ _)) hS1).2.2.2.2.mono bb0.size) | exact bb0.trans ((sOn (Below.drew (below_new _ _)) hS2).2.2.2.2.mono bb0.size) | exact bb0.trans ((sOn (Below.drew (below_new _ _)) hS3).2.2.2.2.mono bb0.size)); rintro e v1 ⟨rfl, g1⟩; have hS2 := sOn g1 (by with_reducible (first | assumption | exact hS0 | exact hS1 | exact hS2 | exact hS3 | exact sOn (below_new _ _) hS0 | exact sOn (below_new _ _) hS1 | exact sOn (below_new _ _) hS2 | exact sOn (below_new _ _) hS3 | exact sOn (Below.drew (below_new _ _)) hS0 | exact sOn (Below.drew (below_new _ _)) hS1 | exact sOn (Below.drew (below_new _ _)) hS2 | exact sOn (Below.drew (below_new _ _)) hS3)); have sz1 := World.block_lt_of_cell? _ _ hS2.1; have sy1 := hS2.2.2.2.2.size; (try (have z1 := res2_kept g1)); (try (have z1 := res2_keptd g1)); (try (have z1 := Res2.on (by assumption) g1)); (try (have z10 := z1.c0; have z11 := z1.c1; have z12 := z1.f0; have z13 := z1.f1; have z14 := z1.lt))) | (go_at_call 13; (with_reducible refine Calls.mono (HRs2.out _ ?_) ?_); (first | exact bb0.trans (hS0.2.2.2.2.mono bb0.size) | exact bb0.trans (hS1.2.2.2.2.mono bb0.size) | exact bb0.trans (hS2.2.2.2.2.mono bb0.size) | exact bb0.trans (hS3.2.2.2.2.mono bb0.size) | exact bb0.trans ((sOn (below_new _ _) hS0).2.2.2.2.mono bb0.size) | exact bb0.trans ((sOn (below_new _ _) hS1).2.2.2.2.mono bb0.size) | exact bb0.trans ((sOn (below_new _ _) hS2).2.2.2.2.mono bb0.size) | exact bb0.trans ((sOn (below_new _ _) hS3).2.2.2.2.mono bb0.size) | exact bb0.trans ((sOn (Below.drew (below_new _ _)) hS0).2.2.2.2.mono bb0.size) | exact bb0.trans ((sOn (Below.drew (below_new _ _)) hS1).2.2.2.2.mono bb0.size) | exact bb0.trans ((sOn (Below.drew (below_new _ _)) hS2).2.2.2.2.mono bb0.size) | exact bb0.trans ((sOn (Below.drew (below_new _ _)) hS3).2.2.2.2.mono bb0.size)); rintro e v2 ⟨As, cs, rfl, hown2, g2⟩; have hS3 := sOn g2 (by with_reducible (first | assumption | exact hS0 | exact hS1 | exact hS2 | exact hS3 | exact sOn (below_new _ _) hS0 | exact sOn (below_new _ _) hS1 | exact sOn (below_new _ _) hS2 | exact sOn (below_new _ _) hS3 | exact sOn (Below.drew (below_new _ _)) hS0 | exact sOn (Below.drew (below_new _ _)) hS1 | exact sOn (Below.drew (below_new _ _)) hS2 | exact sOn (Below.drew (below_new _ _)) hS3)); have sz2 := World.block_lt_of_cell? _ _ hS3.1; have sy2 := hS3.2.2.2.2.size; (try (have z2 := res2_kept g2)); (try (have z2 := res2_keptd g2)); (try (have z2 := Res2.on (by assumption) g2)); (try (have z20 := z2.c0; have z21 := z2.c1; have z22 := z2.f0; have z23 := z2.f1; have z24 := z2.lt))))
      all_goals
        go_wp2_with fail
        go_meet
        first
          | exact ⟨rfl, outF_alloc (own_RI hown2) hS3.2.2.2.2⟩
          | exact ⟨rfl, outF_set (own_RI hown2) z2 (row_apart hown2 (by first | omega | (refine .inl ?_; simp; done) | (refine .inl ?_; simp; omega))) hS3.2.2.2.2 (by omega)⟩
          | exact ⟨rfl, outF_alloc ((own_RI hown2).on g1) hS2.2.2.2.2⟩
          | exact ⟨rfl, outF_set ((own_RI hown2).on g1) z1 (row_apart hown2 (by first | omega | (refine .inl ?_; simp; done) | (refine .inl ?_; simp; omega))) hS2.2.2.2.2 (by omega)⟩
          | exact ⟨rfl, outF_set (((own_RI hown2).on (below_new _ _)).on g1) z1 (row_apart hown2 (by first | omega | (refine .inl ?_; simp; done) | (refine .inl ?_; simp; omega))) hS2.2.2.2.2 (by omega)⟩
          | exact ⟨rfl, (outF_alloc (own_RI hown2) hS3.2.2.2.2).on g1⟩
          | exact ⟨rfl, (outF_set (own_RI hown2) z2 (row_apart hown2 (by first | omega | (refine .inl ?_; simp; done) | (refine .inl ?_; simp; omega))) hS3.2.2.2.2 (by omega)).on g1⟩
    obtain ⟨rfl, gW, As, cs, rfl, hc0, hc1, hri, hbl⟩ := hcut
    replace bb0 := bb0.trans (hbl.mono bb0.size)
    replace HX := Lib.hid (HX.out.on hbl)
    replace HR7 := Lib.hid (HR7.out.on hbl)
    replace HR8 := Lib.hid (HR8.out.on hbl)
    have HRI := Lib.hid hri
    obtain ⟨_, p0, p1, p2, p3⟩ := HX.out
    try simp only [] at p0 p1 p2 p3
    clear hS0 hS1 sz0 hri hbl HRc2 HRs2
    go_wp2_with fail
    refine (HRb.out _ hnm2 bb0).mono ?_
    rintro e w5 ⟨A9, c9, rfl, hown9, g⟩
    have HR9 := Lib.hid (own_RI hown9)
    replace bb0 := bb0.trans (g.mono bb0.size)
    replace HX := Lib.hid (HX.out.on g)
    replace HR7 := Lib.hid (HR7.out.on g)
    replace HR8 := Lib.hid (HR8.out.on g)
    replace HRI := Lib.hid (HRI.out.on g)
    replace hc0 := kept_cell g hc0
    replace hc1 := kept_cell g hc1
    clear g hown9 p0 p1 p2 p3
    try rw [hbw] at HR8
    try rw [hbw] at HR9
    try rw [hbw]
    try rw [ho]
    try rw [hn0]
    try simp only [Option.getD_none, Option.getD_some, List.length_nil, Option.isSome_none, Option.isSome_some] at HR8
    try simp only [Option.getD_none, Option.getD_some, List.length_nil, Option.isSome_none, Option.isSome_some] at HR9
    try simp only [Option.getD_none, Option.getD_some, List.length_nil, Option.isSome_none, Option.isSome_some]
    clear hbw ho hn0 hsw
    have HK1 := Lib.hid (keepInts_n [] [] 0 0 A8 A9 c8 c9 w5 HR8.out HR9.out (by decide))
    rw [eqX_yes rfl] at HK1
    cases cb
    case false => as_aux_lemma =>
      have h1 : rc = -1 := by rw [HRCl.out]; rfl
      have h2 : cn = 0 := HCp.out.2 rfl
      subst h1
      subst h2
      go_wp2_with fail
      refine HK1.out.mono ?_
      rintro e w6 ⟨rfl, g⟩
      have bb1 := bb0.trans (g.mono bb0.size)
      have HK2 := Lib.hid (keepInts_n l l n n A7 A d7 c w6 (HR7.out.on g) (HR.out _ bb1) (by omega))
      rw [eqX_yes rfl] at HK2
      clear g HK1 hc0 hc1
      go_wp2_with fail
      refine HK2.out.mono ?_
      rintro e w8 ⟨rfl, g⟩
      replace bb1 := bb1.trans (g.mono bb1.size)
      clear g HK2
      go_wp2_with fail
      refine (wakes8_any _).mono ?_
      rintro e w9 ⟨rfl, g9⟩
      have bf := bb1.trans (g9.mono bb1.size)
      clear g9
      go_wp2_with fail
      go_ret
      exact ⟨rfl, bf⟩
    case true => as_aux_lemma =>
      have h1 : rc = cn := by rw [HRCl.out]; rfl
      have h2 : 0 ≤ cn := HCp.out.1
      have h3 : (cn != cn) = false := by simp
      subst h1
      go_wp2_with fail
      refine HK1.out.mono ?_
      rintro e w6 ⟨rfl, g⟩
      have bb1 := bb0.trans (g.mono bb0.size)
      have HK2 := Lib.hid (keepInts_n l l n n A7 A d7 c w6 (HR7.out.on g) (HR.out _ bb1) (by omega))
      rw [eqX_yes rfl] at HK2
      clear g HK1 hc0 hc1
      go_wp2_with fail
      refine HK2.out.mono ?_
      rintro e w8 ⟨rfl, g⟩
      replace bb1 := bb1.trans (g.mono bb1.size)
      clear g HK2
      go_wp2_with fail
      refine (wakes8_any _).mono ?_
      rintro e w9 ⟨rfl, g9⟩
      have bf := bb1.trans (g9.mono bb1.size)
      clear g9
      go_wp2_with fail
      go_ret
      exact ⟨rfl, bf⟩
  · rw [hsw] at HRs2
    replace HRs2 := Lib.hid (fun V g => (HRs2.out V g).mono fun e w' h => OutWk.two h rfl (stL_len tt l (l.length + 1)))
    have hS0 : w4.cell? ⟨W.heap.size, 0, none⟩ = some (.int .i64 cl) ∧ w4.cell? ⟨W.heap.size, 1, none⟩ = some (.slice a1 n1 c1) ∧ w4.cell? ⟨W.heap.size, 2, none⟩ = some (.slice a2 n2 c2) ∧ w4.cell? ⟨W.heap.size, 3, none⟩ = some (.slice a3 n3 c3) ∧ Below w4.heap.size w4 w4 := ⟨p0, p1, p2, p3, Below.refl _ _⟩
    have hS1 := sOn (Below.drew (Below.refl w4.heap.size w4)) hS0
    have sz0 := World.block_lt_of_cell? _ _ hS0.1
    clear p0 p1 p2 p3
    go_upto_region 7 with (fail)
    go_cut [14, 15] from 47 to 52 (fun v14 v15 wx => v14 = .int .i64 rc ∧ OutF true (l.length + 1) (stL tt l (l.length + 1)) w4 v15 wx)
    case first =>
      go_region_held3 (fun V => V.cell? ⟨W.heap.size, 0, none⟩ = some (.int .i64 cl) ∧ V.cell? ⟨W.heap.size, 1, none⟩ = some (.slice a1 n1 c1) ∧ V.cell? ⟨W.heap.size, 2, none⟩ = some (.slice a2 n2 c2) ∧ V.cell? ⟨W.heap.size, 3, none⟩ = some (.slice a3 n3 c3) ∧ Below w4.heap.size w4 V) (with_reducible (first | assumption | exact hS0 | exact hS1 | exact hS2 | exact hS3 | exact sOn (below_new _ _) hS0 | exact sOn (below_new _ _) hS1 | exact sOn (below_new _ _) hS2 | exact sOn (below_new _ _) hS3 | exact sOn (Below.drew (below_new _ _)) hS0 | exact sOn (Below.drew (below_new _ _)) hS1 | exact sOn (Below.drew (below_new _ _)) hS2 | exact sOn (Below.drew (below_new _ _)) hS3 | exact sSet2 (by assumption) (by omega))) (first | (go_at_call 12; (with_reducible refine Calls.mono (HRc2.out _ ?_) ?_); (first | exact bb0.trans (hS0.2.2.2.2.mono bb0.size) | exact bb0.trans (hS1.2.2.2.2.mono bb0.size) | exact bb0.trans (hS2.2.2.2.2.mono bb0.size) | exact bb0.trans (hS3.2.2.2.2.mono bb0.size) | exact bb0.trans ((sOn (below_new _ _) hS0).2.2.2.2.mono bb0.size) | exact bb0.trans ((sOn (below_new _ _) hS1).2.2.2.2.mono bb0.size) | exact bb0.trans ((sOn (below_new _ _) hS2).2.2.2.2.mono bb0.size) | exact bb0.trans ((sOn (below_new _ _) hS3).2.2.2.2.mono bb0.size) | exact bb0.trans ((sOn (Below.drew (below_new _ _)) hS0).2.2.2.2.mono bb0.size) | exact bb0.trans ((sOn (Below.drew (below_new _ _)) hS1).2.2.2.2.mono bb0.size) | exact bb0.trans ((sOn (Below.drew (below_new _ _)) hS2).2.2.2.2.mono bb0.size) | exact bb0.trans ((sOn (Below.drew (below_new _ _)) hS3).2.2.2.2.mono bb0.size)); rintro e v1 ⟨rfl, g1⟩; have hS2 := sOn g1 (by with_reducible (first | assumption | exact hS0 | exact hS1 | exact hS2 | exact hS3 | exact sOn (below_new _ _) hS0 | exact sOn (below_new _ _) hS1 | exact sOn (below_new _ _) hS2 | exact sOn (below_new _ _) hS3 | exact sOn (Below.drew (below_new _ _)) hS0 | exact sOn (Below.drew (below_new _ _)) hS1 | exact sOn (Below.drew (below_new _ _)) hS2 | exact sOn (Below.drew (below_new _ _)) hS3)); have sz1 := World.block_lt_of_cell? _ _ hS2.1; have sy1 := hS2.2.2.2.2.size; (try (have z1 := res2_kept g1)); (try (have z1 := res2_keptd g1)); (try (have z1 := Res2.on (by assumption) g1)); (try (have z10 := z1.c0; have z11 := z1.c1; have z12 := z1.f0; have z13 := z1.f1; have z14 := z1.lt))) | (go_at_call 13; (with_reducible refine Calls.mono (HRs2.out _ ?_) ?_); (first | exact bb0.trans (hS0.2.2.2.2.mono bb0.size) | exact bb0.trans (hS1.2.2.2.2.mono bb0.size) | exact bb0.trans (hS2.2.2.2.2.mono bb0.size) | exact bb0.trans (hS3.2.2.2.2.mono bb0.size) | exact bb0.trans ((sOn (below_new _ _) hS0).2.2.2.2.mono bb0.size) | exact bb0.trans ((sOn (below_new _ _) hS1).2.2.2.2.mono bb0.size) | exact bb0.trans ((sOn (below_new _ _) hS2).2.2.2.2.mono bb0.size) | exact bb0.trans ((sOn (below_new _ _) hS3).2.2.2.2.mono bb0.size) | exact bb0.trans ((sOn (Below.drew (below_new _ _)) hS0).2.2.2.2.mono bb0.size) | exact bb0.trans ((sOn (Below.drew (below_new _ _)) hS1).2.2.2.2.mono bb0.size) | exact bb0.trans ((sOn (Below.drew (below_new _ _)) hS2).2.2.2.2.mono bb0.size) | exact bb0.trans ((sOn (Below.drew (below_new _ _)) hS3).2.2.2.2.mono bb0.size)); rintro e v2 ⟨As, cs, rfl, hown2, g2⟩; have hS3 := sOn g2 (by with_reducible (first | assumption | exact hS0 | exact hS1 | exact hS2 | exact hS3 | exact sOn (below_new _ _) hS0 | exact sOn (below_new _ _) hS1 | exact sOn (below_new _ _) hS2 | exact sOn (below_new _ _) hS3 | exact sOn (Below.drew (below_new _ _)) hS0 | exact sOn (Below.drew (below_new _ _)) hS1 | exact sOn (Below.drew (below_new _ _)) hS2 | exact sOn (Below.drew (below_new _ _)) hS3)); have sz2 := World.block_lt_of_cell? _ _ hS3.1; have sy2 := hS3.2.2.2.2.size; (try (have z2 := res2_kept g2)); (try (have z2 := res2_keptd g2)); (try (have z2 := Res2.on (by assumption) g2)); (try (have z20 := z2.c0; have z21 := z2.c1; have z22 := z2.f0; have z23 := z2.f1; have z24 := z2.lt))))
      all_goals
        go_wp2_with fail
        go_meet
        first
          | exact ⟨rfl, outF_alloc (own_RI hown2) hS3.2.2.2.2⟩
          | exact ⟨rfl, outF_set (own_RI hown2) z2 (row_apart hown2 (by first | omega | (refine .inl ?_; simp; done) | (refine .inl ?_; simp; omega))) hS3.2.2.2.2 (by omega)⟩
          | exact ⟨rfl, outF_alloc ((own_RI hown2).on g1) hS2.2.2.2.2⟩
          | exact ⟨rfl, outF_set ((own_RI hown2).on g1) z1 (row_apart hown2 (by first | omega | (refine .inl ?_; simp; done) | (refine .inl ?_; simp; omega))) hS2.2.2.2.2 (by omega)⟩
          | exact ⟨rfl, outF_set (((own_RI hown2).on (below_new _ _)).on g1) z1 (row_apart hown2 (by first | omega | (refine .inl ?_; simp; done) | (refine .inl ?_; simp; omega))) hS2.2.2.2.2 (by omega)⟩
          | exact ⟨rfl, (outF_alloc (own_RI hown2) hS3.2.2.2.2).on g1⟩
          | exact ⟨rfl, (outF_set (own_RI hown2) z2 (row_apart hown2 (by first | omega | (refine .inl ?_; simp; done) | (refine .inl ?_; simp; omega))) hS3.2.2.2.2 (by omega)).on g1⟩
    obtain ⟨rfl, gW, As, cs, rfl, hc0, hc1, hri, hbl⟩ := hcut
    replace bb0 := bb0.trans (hbl.mono bb0.size)
    replace HX := Lib.hid (HX.out.on hbl)
    replace HR7 := Lib.hid (HR7.out.on hbl)
    replace HR8 := Lib.hid (HR8.out.on hbl)
    have HRI := Lib.hid hri
    obtain ⟨_, p0, p1, p2, p3⟩ := HX.out
    try simp only [] at p0 p1 p2 p3
    clear hS0 hS1 sz0 hri hbl HRc2 HRs2
    go_wp2_with fail
    refine (HRb.out _ hnm2 bb0).mono ?_
    rintro e w5 ⟨A9, c9, rfl, hown9, g⟩
    have HR9 := Lib.hid (own_RI hown9)
    replace bb0 := bb0.trans (g.mono bb0.size)
    replace HX := Lib.hid (HX.out.on g)
    replace HR7 := Lib.hid (HR7.out.on g)
    replace HR8 := Lib.hid (HR8.out.on g)
    replace HRI := Lib.hid (HRI.out.on g)
    replace hc0 := kept_cell g hc0
    replace hc1 := kept_cell g hc1
    clear g hown9 p0 p1 p2 p3
    try rw [hbw] at HR8
    try rw [hbw] at HR9
    try rw [hbw]
    try rw [ho]
    try rw [hn0]
    try simp only [Option.getD_none, Option.getD_some, List.length_nil, Option.isSome_none, Option.isSome_some] at HR8
    try simp only [Option.getD_none, Option.getD_some, List.length_nil, Option.isSome_none, Option.isSome_some] at HR9
    try simp only [Option.getD_none, Option.getD_some, List.length_nil, Option.isSome_none, Option.isSome_some]
    clear hbw ho hn0 hsw
    have HK1 := Lib.hid (keepInts_n P P P.length P.length A8 A9 c8 c9 w5 HR8.out HR9.out (by have := HLn.out; omega))
    rw [eqX_yes rfl] at HK1
    have hnL : n < (stL tt l (l.length + 1)).length := by rw [stL_len]; have := HLn.out; omega
    obtain ⟨sb, so, hAs, _, hq⟩ := HRI.out.at hnL
    rw [HLa.out hnL] at hq
    subst hAs
    have hnL2 : n < l.length + 1 := by have := HLn.out; omega
    have hss : ((stW tt l : Int) != (stW tt l : Int)) = false := by simp
    generalize stW tt l = s at *
    cases cb
    case false => as_aux_lemma =>
      have h1 : rc = -1 := by rw [HRCl.out]; rfl
      have h2 : cn = 0 := HCp.out.2 rfl
      subst h1
      subst h2
      go_wp2_with fail
      refine HK1.out.mono ?_
      rintro e w6 ⟨rfl, g⟩
      have bb1 := bb0.trans (g.mono bb0.size)
      have HK2 := Lib.hid (keepInts_n l l n n A7 A d7 c w6 (HR7.out.on g) (HR.out _ bb1) (by omega))
      rw [eqX_yes rfl] at HK2
      clear g HK1 hc0 hc1
      go_wp2_with fail
      refine HK2.out.mono ?_
      rintro e w8 ⟨rfl, g⟩
      replace bb1 := bb1.trans (g.mono bb1.size)
      clear g HK2
      go_wp2_with fail
      refine (wakes8_any _).mono ?_
      rintro e w9 ⟨rfl, g9⟩
      have bf := bb1.trans (g9.mono bb1.size)
      clear g9
      go_wp2_with fail
      go_ret
      exact ⟨rfl, bf⟩
    case true => as_aux_lemma =>
      have h1 : rc = cn := by rw [HRCl.out]; rfl
      have h2 : 0 ≤ cn := HCp.out.1
      have h3 : (cn != cn) = false := by simp
      subst h1
      go_wp2_with fail
      refine HK1.out.mono ?_
      rintro e w6 ⟨rfl, g⟩
      have bb1 := bb0.trans (g.mono bb0.size)
      have HK2 := Lib.hid (keepInts_n l l n n A7 A d7 c w6 (HR7.out.on g) (HR.out _ bb1) (by omega))
      rw [eqX_yes rfl] at HK2
      clear g HK1 hc0 hc1
      go_wp2_with fail
      refine HK2.out.mono ?_
      rintro e w8 ⟨rfl, g⟩
      replace bb1 := bb1.trans (g.mono bb1.size)
      clear g HK2
      go_wp2_with fail
      refine (wakes8_any _).mono ?_
      rintro e w9 ⟨rfl, g9⟩
      have bf := bb1.trans (g9.mono bb1.size)
      clear g9
      go_wp2_with fail
      go_ret
      exact ⟨rfl, bf⟩

/-! From the walk to the row. -/
set_option maxRecDepth 100000 in
theorem contract (H : Type) (enc : TypeId × Value → H) (W : World) (base : Nat) (args : Array Value) (ds gs : List (DataW H)) (before : List MemPlace)
    (hval0 : ∀ (j : Nat) t v, Try.f3.params[j]? = some t → args[j]? = some v → Value.okWide Try.prog W .any base t v)
    (hW : DataW.Whole enc Try.prog Try.f3.params.toList Rows.walkTellsSpec.vars false W args.toList ds gs before) :
    Calls Try.prog 3 args W fun e W' => ∃ v, e = .returned v ∧ Rows.walkTellsSpec.post enc Try.prog Try.f3 false true false false W args v W' := by
  have hval : ∀ (j : Nat) t v, Try.f3.params[j]? = some t → args[j]? = some v → Value.okWide Try.prog W .any base t v := hval0
  have hW' := hW
  obtain ⟨p, q, hA0, hV, rfl, hfz, hnd⟩ := hW
  have hA : DataW.TrodAll enc Try.prog W 0 (fun _ => true) true Try.f3.params.toList args.toList ds p := hA0
  rw [Try.params3] at hA hval
  obtain ⟨v0, vs0, d0, ds0, p0, q0, hargs, rfl, rfl, h0, r0⟩ := trodAll_cons hA
  obtain ⟨v1, vs1, d1, ds1, p1, q1, rfl, rfl, rfl, h1, r1⟩ := trodAll_cons r0
  obtain ⟨v2, vs2, d2, ds2, p2, q2, rfl, rfl, rfl, h2, r2⟩ := trodAll_cons r1
  obtain ⟨rfl, rfl, rfl⟩ := trodAll_nil r2
  obtain rfl : args = #[v0, v1, v2] := by cases args; simp_all
  obtain ⟨rfl, rfl⟩ := trodVars_none hV
  obtain ⟨cs0, rfl, _⟩ := okWide_struct Try.underlying26 (hval 0 26 v0 rfl rfl)
  have k0 := h0
  have lt0 : ∀ x ∈ p0, x.block < W.heap.size := by obtain ⟨m, hm⟩ := k0; exact DataW.trod_lt m _ _ _ hm
  obtain ⟨T0, e0, ok0⟩ : ∃ T : TV, cs0.toList = [.int .i64 T.cl, .slice T.a1 T.n1 T.c1, .slice T.a2 T.n2 T.c2, .slice T.a3 T.n3 T.c3] ∧ T.ok W := by
    obtain ⟨fuel, hf⟩ := h0
    exact open_table (by simpa [Value.cells] using hf)
  obtain rfl : cs0 = #[.int .i64 T0.cl, .slice T0.a1 T0.n1 T0.c1, .slice T0.a2 T0.n2 T0.c2, .slice T0.a3 T0.n3 T0.c3] := by cases cs0; simp_all
  obtain ⟨a1, len1, cap1, rfl⟩ := okWide_slice Try.underlying27 (hval 1 27 v1 rfl rfl)
  have k1 := h1
  have lt1 : ∀ x ∈ p1, x.block < W.heap.size := by obtain ⟨m, hm⟩ := k1; exact DataW.trod_lt m _ _ _ hm
  obtain ⟨l1, hs1, hr1⟩ : ∃ l, Shp a1 len1 cap1 ∧ RI W W.heap.size a1 len1 l := by
    obtain ⟨fuel, hf⟩ := h1
    exact open_row (by simpa [Value.cells] using hf)
  obtain ⟨z2, rfl, rfl, rfl, wf2⟩ := open_int Try.underlying3 (hval 2 3 v2 rfl rfl) h2
  clear hA0 hval0
  refine (walk T0 l1 len1 a1 cap1 z2 W ok0 hr1 hs1).mono fun e W' ⟨he, bel⟩ => ?_
  subst he
  exact ⟨_, rfl, _, _, _, [], _, [], hW', trodAll_mk1 (shut_bool Try.underlying4 _), (trodAll_cons_mk (Below.trod laidOut (by kernel_rfl) (of_decide_eq_true (by kernel_rfl)) k0 bel lt0) (trodAll_cons_mk (Below.trod laidOut (by kernel_rfl) (of_decide_eq_true (by kernel_rfl)) k1 bel lt1) (trodAll_cons_mk (shut_int Try.underlying3 wf2) trodAll_mk0))), rfl, bel.frame _, fun h => by cases h⟩

set_option maxRecDepth 100000 in
theorem lifted (os : Os) (started : os.Started) (H : Type) (enc : TypeId × Value → H) :
    ReturnsInHanded {} Try.checked os 3 .any (Rows.walkTellsSpec.pre6 enc Try.prog Try.f3 Rows.walkTellsRow.domain false) (Rows.walkTellsSpec.post enc Try.prog Try.f3 false true false false) := by
  refine returnsInHanded_of_change (C := Try.checked) own started (by kernel_rfl) Try.func3
    (ChangeSpec.witness6 (enc := enc) (C := Try.checked) false ⟨#[], #[.agg #[.int .i64 0, .slice none 0 0, .slice none 0 0, .slice none 0 0], .slice none 0 0, .int .i64 0], []⟩ 8 (by kernel_rfl) (by kernel_rfl) (by kernel_rfl) (by kernel_rfl)) ?_
  intro W base args ds gs before hval hW _ _
  exact contract H enc W base args ds gs before hval hW

set_option maxRecDepth 100000 in
theorem over : Rows.walkTellsRow.holds Try.pinned (OpenSpec.ofChange Rows.walkTellsSpec) :=
  OpenClaim.holds_of_wide 3 Try.f3 rfl rfl rfl rfl rfl rfl rfl ⟨rfl, rfl, rfl, rfl, rfl⟩ rfl rfl rfl rfl rfl (by kernel_rfl) Try.func3 (by kernel_rfl)
    (of_decide_eq_true (by kernel_rfl)) (by unfold Func.isWrapper; first | (rw [if_pos (by decide +kernel)]; kernel_rfl) | (rw [if_neg (by decide +kernel)]; exact ⟨rfl, rfl⟩))
    (fun os started H enc _ => lifted os started H enc)
end Go.Proofs.Ytaejfebpalmfmaa.walkTells

namespace Go.Proofs.Ytaejfebpalmfmaa
/-- The given statement, under a short name. -/
theorem walkTells_holds : Rows.WalkTellsSaid := walkTells.over
#print axioms walkTells_holds
end Go.Proofs.Ytaejfebpalmfmaa
