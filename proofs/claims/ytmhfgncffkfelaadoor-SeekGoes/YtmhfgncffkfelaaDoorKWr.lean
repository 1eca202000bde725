/- Joined: WRef WRefS. -/
import Derived.Test.YtmhfgncffkfelaaDoorKW
import Derived.Test.YtmhfgncffkfelaaDoorKR3
import Derived.BigQuiet
import Derived.Deep.RegionLaw
import Derived.Deep.CutRange
import Derived.Deep.RegionHeld3
/- What the document's Of, Class, States and Breaks return. -/
namespace Go.Proofs.YtmhfgncffkfelaaDoor
open Go.RowKit Go.BigFrame Go.Maps
set_option linter.unusedVariables false
set_option maxRecDepth 4000
set_option linter.unusedSimpArgs false

set_option maxHeartbeats 2000000 in
theorem refOf_any (bs : List Rg) (n : Nat) (A : Option Addr) (c : Nat) (v : Int) (w : World) (hR : RD w w.heap.size A n bs) (hn : n ≤ 100000) :
    Calls Tryd.prog 118 #[.slice A n c, .int .i64 v] w fun e w' => e = .returned (.int .i64 (ofK bs v)) ∧ w = w' := by
  have HL := Lib.hid hR.1
  have HR := Lib.hid hR
  have HI := Lib.hid (fun W => refIs_any v W)
  cases hs : scalB v
  case false =>
    have hK : ofK bs v = -1 := by unfold ofK; rw [hs]; rfl
    rw [hs] at HI
    rw [hK]
    clear hR hs hK
    by_cases h0 : n = 0
    · subst h0
      go_enter Tryd.func118, Tryd.ntmps118
      go_wp2_with fail
      go_loopw [5, 6] (fun vo vi wr => vi = .int .i64 0 ∧ vo = .int .i64 (-1) ∧ wr = w) (fun _ _ _ => 0)
      case atStart => exact ⟨rfl, rfl, rfl⟩
      case round =>
        obtain ⟨rfl, rfl, rfl⟩ := hrel
        go_wp2_with fail
        go_ret
        exact ⟨rfl, rfl⟩
    · have h0' : 0 < n := by omega
      go_enter Tryd.func118, Tryd.ntmps118
      go_wp2_with fail
      go_loopw [5, 6] (fun vo vi wr => vi = .int .i64 0 ∧ vo = .int .i64 (-1) ∧ wr = w) (fun _ _ _ => 0)
      case atStart => exact ⟨rfl, rfl, rfl⟩
      case round =>
        obtain ⟨rfl, rfl, rfl⟩ := hrel
        go_wp2_with fail
        refine (HI.out _).mono ?_
        rintro e w3 ⟨rfl, rfl⟩
        go_wp2_with fail
        go_ret
        exact ⟨rfl, rfl⟩
  case true =>
    have HK : Hid (ofK bs v = lastI bs v n) := Lib.hid (by unfold ofK; rw [hs, if_pos rfl, HL.out])
    rw [hs] at HI
    rw [HK.out]
    clear hR hs HK
    go_enter Tryd.func118, Tryd.ntmps118
    go_wp2_with fail
    go_loopw [5, 6] (fun vo vi wr => ∃ k : Nat, vi = .int .i64 k ∧ k ≤ n ∧ vo = .int .i64 (lastI bs v k) ∧ wr = w) (fun _ vi _ => n - (intOf vi).toNat)
    case atStart => exact ⟨0, rfl, Nat.zero_le _, rfl, rfl⟩
    case round =>
      obtain ⟨k, rfl, hk, rfl, rfl⟩ := hrel
      by_cases hlt : k < n
      · have kl : k < bs.length := by rw [HL.out]; exact hlt
        obtain ⟨bb, oo, hA, _, q0, q1⟩ := HR.out.at kl
        subst hA
        have HS : Hid (lastI bs v (k + 1) = if bs[k].1 ≤ v then (k : Int) else lastI bs v k) := Lib.hid (by
          show (if (bandAt bs k).1 ≤ v then (k : Int) else lastI bs v k) = _
          rw [bandAt_get kl])
        generalize bs[k] = x at *
        obtain ⟨x0, x1⟩ := x
        simp only [] at q0 q1 HS
        by_cases hx : x0 ≤ v
        · have HS2 : Hid (lastI bs v (k + 1) = (k : Int)) := Lib.hid (by rw [HS.out, if_pos hx])
          clear HS
          go_wp2_with fail
          refine (HI.out _).mono ?_
          rintro e w3 ⟨rfl, h3⟩
          obtain rfl : wr = w3 := h3.symm
          go_wp2_with fail
          go_roundw
          case rel => exact ⟨k + 1, by go_num, by omega, by rw [HS2.out], by first | rfl | trivial⟩
          case measure => simp [intOf]; omega
        · have HS2 : Hid (lastI bs v (k + 1) = lastI bs v k) := Lib.hid (by rw [HS.out, if_neg hx])
          clear HS
          go_wp2_with fail
          refine (HI.out _).mono ?_
          rintro e w3 ⟨rfl, h3⟩
          obtain rfl : wr = w3 := h3.symm
          go_wp2_with fail
          go_roundw
          case rel => exact ⟨k + 1, by go_num, by omega, by rw [HS2.out], by first | rfl | trivial⟩
          case measure => simp [intOf]; omega
      · obtain rfl : k = n := by omega
        go_wp2_with fail
        go_ret
        exact ⟨rfl, rfl⟩
/-- The document's answer for a class. -/
def refCl (t : Tb) (v : Int) : Int := if errV t = 0 then (if ofB t.bd v then ofN t.bd v else -1) else -1
/-- The states at the first k places. -/
def stL (t : Tb) (l : List Int) (k : Nat) : List Int := (List.range k).map fun i => ((stW t (l.take i) : Nat) : Int)
theorem stL_succ (t : Tb) (l : List Int) (k : Nat) : stL t l (k + 1) = stL t l k ++ [((stW t (l.take k) : Nat) : Int)] := by unfold stL; rw [List.range_succ, List.map_append]; rfl
theorem stL_len (t : Tb) (l : List Int) (k : Nat) : (stL t l k).length = k := by simp [stL]
theorem stL_at (t : Tb) (l : List Int) {k i : Nat} (h : i < k) (h' : i < (stL t l k).length) : (stL t l k)[i] = ((stW t (l.take i) : Nat) : Int) := by simp [stL]
def swR (t : Tb) (l : List Int) : Option (List Int) := if errV t = 0 ∧ okW t l = true then some (stL t l (l.length + 1)) else none
/-- A new row, or none, with a word. -/
def OutWk (r : Option (List Int)) (w : World) (e : Ending) (w' : World) : Prop := ∃ (A : Option Addr) (c : Nat), e = .returned (.agg #[.slice A (r.getD []).length c, .bool r.isSome]) ∧ w'.ownsRow w.heap.size 3 1 (.slice A (r.getD []).length c) (r.getD []).length (icells (r.getD [])) ∧ Below w.heap.size w w'
structure Res2 (g : Nat) (w : World) : Prop where
  lt : g < w.heap.size
  c0 : w.cell? ⟨g, 0, none⟩ = some (.slice none 0 0)
  c1 : w.cell? ⟨g, 1, none⟩ = some (.bool false)
  f0 : w.frozen? ⟨g, 0, none⟩ = false
  f1 : w.frozen? ⟨g, 1, none⟩ = false
theorem Res2.on {g : Nat} {w w' : World} (h : Res2 g w) (b : Below w.heap.size w w') : Res2 g w' :=
  ⟨Nat.lt_of_lt_of_le h.lt b.size, kept_cell b h.c0, kept_cell b h.c1, (b.frozen h.lt).trans h.f0, (b.frozen h.lt).trans h.f1⟩
theorem Res2.grown {g : Nat} {w w' : World} {row : Option Nat} (h : Res2 g w) (b : w.grownBy w' row) (hr : ∀ j, row = some j → j ≠ g) : Res2 g w' := by
  have hb : w'.heap[g]? = w.heap[g]? := b.block g h.lt (fun e => hr g e.symm rfl)
  have hc : ∀ i, w'.cell? ⟨g, i, none⟩ = w.cell? ⟨g, i, none⟩ := fun i => World.cell?_of_block (a := ⟨g, i, none⟩) hb
  have hf : ∀ i, w'.frozen? ⟨g, i, none⟩ = w.frozen? ⟨g, i, none⟩ := fun i => World.frozen?_of_block (a := ⟨g, i, none⟩) hb
  exact ⟨Nat.lt_of_lt_of_le h.lt b.size, (hc 0).trans h.c0, (hc 1).trans h.c1, (hf 0).trans h.f0, (hf 1).trans h.f1⟩
theorem Box.grown' {g : Nat} {w w' : World} {T : TV} {row : Option Nat} (h : Box w g T) (b : w.grownBy w' row) (hr : ∀ j, row = some j → j ≠ g) : Box w' g T := by
  have hb : w'.heap[g]? = w.heap[g]? := b.block g h.1 (fun e => hr g e.symm rfl)
  have hc : ∀ i, w'.cell? ⟨g, i, none⟩ = w.cell? ⟨g, i, none⟩ := fun i => World.cell?_of_block (a := ⟨g, i, none⟩) hb
  exact ⟨Nat.lt_of_lt_of_le h.1 b.size, (hc 0).trans h.2.1, (hc 1).trans h.2.2.1, (hc 2).trans h.2.2.2.1, (hc 3).trans h.2.2.2.2⟩
theorem res2_new (w : World) : Res2 w.heap.size (w.alloc (.cells #[.slice none 0 0, .bool false] 147)) := ⟨by simp, by simp, by simp, by simp, by simp⟩
theorem infoWk : (Tryd.prog.info? 147).map (fun i => (i.zero, i.size, i.bytes)) = some (some (.agg #[.slice none 0 0, .bool false]), 2, 32) := by kernel_rfl
theorem store2 {w0 w : World} {B g : Nat} {o0 o1 : Value} (v0 v1 : Value) (hb : Below B w0 w) (hBg : B ≤ g) (p0 : w.cell? ⟨g, 0, none⟩ = some o0) (p1 : w.cell? ⟨g, 1, none⟩ = some o1) :
    ∃ W, W = (w.setCell ⟨g, 0, none⟩ v0).setCell ⟨g, 1, none⟩ v1 ∧ Below B w0 W ∧ W.cell? ⟨g, 0, none⟩ = some v0 ∧ W.cell? ⟨g, 1, none⟩ = some v1 ∧ ∀ (base : Nat) (e : TypeId) (size : Nat) (v : Value) (n : Nat) (xs : List Value), g < base → w.ownsRow base e size v n xs → W.ownsRow base e size v n xs := by
  refine ⟨_, rfl, (hb.setCell (p := ⟨g, 0, none⟩) hBg _).setCell (p := ⟨g, 1, none⟩) hBg _, ?_, ?_, fun base e size v n xs h ho => ownsRow_setCell_below (ownsRow_setCell_below ho h _) h _⟩
  · simp [go_sem, p0, p1]
  · simp [go_sem, p0, p1]
theorem OutWk.no {r : Option (List Int)} {w w' : World} (h : r = none) (b : Below w.heap.size w w') : OutWk r w (.returned (.agg #[.slice none 0 0, .bool false])) w' := by
  subst h
  exact ⟨none, 0, rfl, World.ownsRow_nil _ _ _ _, b⟩
theorem OutWk.yes {r : Option (List Int)} {L : List Int} {z : Nat} {w w' : World} {A : Option Addr} {c base : Nat} (h : r = some L) (hz : z = L.length) (ho : w'.ownsRow base 3 1 (.slice A z c) z (icells L)) (hb : w.heap.size ≤ base) (b : Below w.heap.size w w') : OutWk r w (.returned (.agg #[.slice A z c, .bool true])) w' := by
  subst h hz
  exact ⟨A, c, rfl, ho.mono hb, b⟩
set_option maxHeartbeats 4000000 in
theorem refStates_no (T : TV) (l : List Int) (n : Nat) (A : Option Addr) (c : Nat) (w : World) (hT : T.ok w) (hV : errV T.tb ≠ 0) :
    Calls Tryd.prog 111 #[T.v, .slice A n c] w (OutWk (swR T.tb l) w) := by
  obtain ⟨j0, hj0, hy0, hy1, hy2⟩ := info_parts infoWk
  have HT := Lib.hid (fun W (g : Below w.heap.size w W) => refTable_any T W (hT.on g))
  have hn : (errV T.tb != 0) = true := by rw [bne_iff_ne]; exact hV
  have HE : Hid (swR T.tb l = none) := Lib.hid (by unfold swR; rw [if_neg (fun h => hV h.1)])
  have b0 : Below w.heap.size w ((w.alloc (.cells #[.int .i64 T.cl, .slice T.a1 T.n1 T.c1, .slice T.a2 T.n2 T.c2, .slice T.a3 T.n3 T.c3] 26)).alloc (.cells #[.slice none 0 0, .bool false] 147)) := below_call (below_new _ _) (below_new _ _).size (below_new _ _)
  have hr := res2_new (w.alloc (.cells #[.int .i64 T.cl, .slice T.a1 T.n1 T.c1, .slice T.a2 T.n2 T.c2, .slice T.a3 T.n3 T.c3] 26))
  rw [show (w.alloc (.cells #[.int .i64 T.cl, .slice T.a1 T.n1 T.c1, .slice T.a2 T.n2 T.c2, .slice T.a3 T.n3 T.c3] 26)).heap.size = w.heap.size + 1 by simp] at hr
  generalize swR T.tb l = r at *
  generalize errV T.tb = ev at *
  clear hT hV
  simp only [TV.v] at *
  go_enter Tryd.func111, Tryd.ntmps111
  go_wp2_with fail
  generalize (w.alloc (.cells #[.int .i64 T.cl, .slice T.a1 T.n1 T.c1, .slice T.a2 T.n2 T.c2, .slice T.a3 T.n3 T.c3] 26)).alloc (.cells #[.slice none 0 0, .bool false] 147) = V at *
  refine (HT.out V b0).mono ?_
  rintro e w1 ⟨rfl, g⟩
  have b1 := below_call b0 b0.size g
  obtain ⟨_, p0, p1, f0, f1⟩ := hr.on g
  clear g HT hr b0
  go_wp2_with fail
  obtain ⟨W9, hW9, b9, c0', c1', _⟩ := store2 (.slice none 0 0) (.bool false) b1 (show w.heap.size ≤ w.heap.size + 1 by omega) p0 p1
  rw [← hW9]
  exact bodyPost_ret (v := .agg #[.slice none 0 0, .bool false]) (by simp [results, Tryd.results111, go_sem, c0', c1']) rfl (OutWk.no HE.out b9)
end Go.Proofs.YtmhfgncffkfelaaDoor

/- What the document's States returns of a table that may be. -/
namespace Go.Proofs.YtmhfgncffkfelaaDoor
open Go.RowKit Go.BigFrame Go.Maps
set_option linter.unusedVariables false
set_option maxRecDepth 4000
set_option linter.unusedSimpArgs false

set_option maxHeartbeats 8000000 in
theorem refStates_yes (T : TV) (l : List Int) (n : Nat) (A : Option Addr) (c : Nat) (w : World) (hT : T.ok w) (hR : RI w w.heap.size A n l) (hn : n ≤ 100000) (hV : errV T.tb = 0) :
    Calls Tryd.prog 111 #[T.v, .slice A n c] w (OutWk (swR T.tb l) w) := by
  obtain ⟨j0, hj0, hy0, hy1, hy2⟩ := info_parts infoWk
  obtain ⟨i0, hi0, hz0, hz1, hz2⟩ := info_parts info3
  have hVd := errV_ok.1 hV
  have hln := hR.1
  have hn1 : T.n1 ≤ 60 := by have h1 := ((cntV_iff _).1 hVd.cnt).k2; have h2 : T.tb.bd.length = T.n1 := hT.r1.1; omega
  have HT := Lib.hid (fun W (g : Below w.heap.size w W) => refTable_any T W (hT.on g))
  rw [hV] at HT
  have HR := Lib.hid (fun W (g : Below w.heap.size w W) => hR.on g)
  have HOf : Hid (∀ (v : Int) W, Below w.heap.size w W → Calls Tryd.prog 118 #[.slice T.a1 T.n1 T.c1, .int .i64 v] W fun e w' => e = .returned (.int .i64 (ofK T.bd v)) ∧ w' = W) := Lib.hid (fun v W g => (refOf_any T.bd T.n1 T.a1 T.c1 v W (hT.on g).r1 (by omega)).mono (fun e w' ⟨a, b⟩ => ⟨a, b.symm⟩))
  have hsl : ∀ l', stW T.tb l' < T.n2 := fun l' => by have := stW_lt hVd l'; unfold TV.tb at this ⊢; simp only [listsOf_len] at this; have h2 := hT.r2.1; omega
  have HSl := Lib.hid hsl
  have HNx : Hid (∀ (s c : Nat) V, s < T.n2 → c < T.cl.toNat → Below w.heap.size w V → ∃ bb ob, T.a2 = some ⟨bb, ob, none⟩ ∧ ∃ rb ro rc, V.cell? ⟨bb, ob + s, none⟩ = some (.slice (some ⟨rb, ro, none⟩) T.cl.toNat rc) ∧ V.cell? ⟨rb, ro + c, none⟩ = some (.int .i64 (nxN T.tb s c : Nat))) := Lib.hid (fun s c V hs hc h => by
    obtain ⟨bb, ob, hA, hn⟩ := tv_nxt (hT.on h) ((cntV_iff _).1 hVd.cnt) hVd.nxt
    obtain ⟨rb, ro, rc, h1, h2⟩ := hn s hs
    exact ⟨bb, ob, hA, rb, ro, rc, h1, h2 c hc⟩)
  have HBn : Hid (∀ (k : Nat) V, k < T.bd.length → Below w.heap.size w V → ∃ bb ob, T.a1 = some ⟨bb, ob, none⟩ ∧ V.cell? ⟨bb, ob + k * 2 + 1, none⟩ = some (.int .i64 (bandAt T.bd k).2)) := Lib.hid (fun k V hk h => by
    obtain ⟨bb, ob, hA, _, _, q⟩ := (hT.on h).r1.at hk
    exact ⟨bb, ob, hA, by rw [bandAt_get hk]; exact q⟩)
  have HOn : Hid (∀ v, 0 ≤ ofN T.bd v ∧ ofN T.bd v < T.cl) := Lib.hid (fun v => ofN_lt hVd v)
  have HBl := Lib.hid hT.r1.1
  have HYs : Hid (okW T.tb l = true → swR T.tb l = some (stL T.tb l (n + 1))) := Lib.hid (fun h => by unfold swR; rw [if_pos ⟨hV, h⟩, hln])
  have HNs : Hid (okW T.tb l = false → swR T.tb l = none) := Lib.hid (fun h => by unfold swR; rw [if_neg (fun e => by rw [h] at e; cases e.2)])
  have b0 : Below w.heap.size w ((w.alloc (.cells #[.int .i64 T.cl, .slice T.a1 T.n1 T.c1, .slice T.a2 T.n2 T.c2, .slice T.a3 T.n3 T.c3] 26)).alloc (.cells #[.slice none 0 0, .bool false] 147)) := below_call (below_new _ _) (below_new _ _).size (below_new _ _)
  have hx := (box_new w T).on (below_new _ (.cells #[.slice none 0 0, .bool false] 147))
  have hr := res2_new (w.alloc (.cells #[.int .i64 T.cl, .slice T.a1 T.n1 T.c1, .slice T.a2 T.n2 T.c2, .slice T.a3 T.n3 T.c3] 26))
  rw [show (w.alloc (.cells #[.int .i64 T.cl, .slice T.a1 T.n1 T.c1, .slice T.a2 T.n2 T.c2, .slice T.a3 T.n3 T.c3] 26)).heap.size = w.heap.size + 1 by simp] at hr
  have HLn := Lib.hid hln
  generalize hrr : swR T.tb l = r at *
  clear hT hV hR hVd hsl hrr hln hn1
  simp only [TV.v] at *
  go_enter Tryd.func111, Tryd.ntmps111
  go_wp2_with fail
  generalize (w.alloc (.cells #[.int .i64 T.cl, .slice T.a1 T.n1 T.c1, .slice T.a2 T.n2 T.c2, .slice T.a3 T.n3 T.c3] 26)).alloc (.cells #[.slice none 0 0, .bool false] 147) = V at *
  refine (HT.out V b0).mono ?_
  rintro e w1 ⟨rfl, g⟩
  have b1 := below_call b0 b0.size g
  have hx1 := hx.on g
  have hr1 := hr.on g
  have hg1 := hr1.lt
  have ga := below_new w1 (.cells #[.int .i64 0] 3)
  have hO := World.ownsRow_lit (e := 3) (size := 1) w1 #[.int .i64 0] 1 (Nat.le_refl _) (by unfold maxLen; omega) (by decide)
  clear g HT hr b0 hx
  go_wp2_with fail
  have HB0 := Lib.hid (below_call b1 b1.size ga)
  have HX0 := Lib.hid (hx1.on ga)
  have HG0 := Lib.hid (hr1.on ga)
  have HS0 : Hid (w1.heap.size ≤ (w1.alloc (.cells #[.int .i64 0] 3)).heap.size) := Lib.hid ga.size
  have HO0 : Hid ((w1.alloc (.cells #[.int .i64 0] 3)).ownsRow w1.heap.size 3 1 (.slice (some ⟨w1.heap.size, 0, none⟩) 1 1) 1 (icells (stL T.tb l 1))) := Lib.hid hO
  have hww := b1.size
  clear ga hO b1 hx1 hr1
  generalize w1.alloc (.cells #[.int .i64 0] 3) = w2 at *
  go_loopw [5, 6] (fun vo vi wr => ∃ (k : Nat) (A8 : Option Addr) (c8 : Nat), vi = .int .i64 k ∧ k ≤ n ∧ vo = .slice A8 (k + 1) c8 ∧ Hid (wr.ownsRow w1.heap.size 3 1 (.slice A8 (k + 1) c8) (k + 1) (icells (stL T.tb l (k + 1)))) ∧ Hid (okW T.tb (l.take k) = true) ∧ Hid (Below w.heap.size w wr) ∧ Hid (Box wr w.heap.size T) ∧ Hid (Res2 (w.heap.size + 1) wr) ∧ Hid (w1.heap.size ≤ wr.heap.size)) (fun _ vi _ => n - (intOf vi).toNat)
  case atStart => exact ⟨0, _, _, rfl, Nat.zero_le _, rfl, HO0, Lib.hid rfl, HB0, HX0, HG0, HS0⟩
  case round =>
    clear HO0 HB0 HX0 HG0 HS0
    obtain ⟨k, A8, c8, rfl, hk, rfl, HO, HK, HB, HX, HG, HS⟩ := hrel
    by_cases hlt : k < n
    · have kl : k < l.length := by rw [HLn.out]; exact hlt
      obtain ⟨bb, oo, hA, _, q⟩ := (HR.out _ HB.out).at kl
      subst hA
      have HTk : Hid (l.take (k + 1) = l.take k ++ [l[k]]) := Lib.hid (take_one kl)
      have HNo : Hid (ofB T.bd l[k] = false → okW T.tb l = false) := Lib.hid (fun h => okW_take_no (k := k + 1) (by rw [HTk.out, okW_snoc, show T.tb.bd = T.bd from rfl, h, Bool.and_false]))
      have HYes : Hid (ofB T.bd l[k] = true → okW T.tb (l.take (k + 1)) = true) := Lib.hid (fun h => by rw [HTk.out, okW_snoc, show T.tb.bd = T.bd from rfl, h, HK.out]; rfl)
      have HGo : Hid (∀ c : Nat, ofN T.bd l[k] = (c : Int) → stL T.tb l (k + 1 + 1) = stL T.tb l (k + 1) ++ [((nxN T.tb (stW T.tb (l.take k)) c : Nat) : Int)]) := Lib.hid (fun c hc => by rw [stL_succ T.tb l (k + 1), HTk.out, stW_snoc]; unfold stpW; rw [show T.tb.bd = T.bd from rfl, hc]; rfl)
      have HC := Lib.hid (HOf.out l[k])
      have HKl := Lib.hid (ofK_lt T.bd l[k])
      have HOx := Lib.hid (HOn.out l[k])
      generalize l[k] = x at *
      obtain ⟨_, p0, p1, p2, p3⟩ := HX.out
      have HBd : Hid (ofB T.bd x = decide (0 ≤ ofK T.bd x)) := Lib.hid rfl
      have HNd : Hid (ofB T.bd x = true → ofN T.bd x = (bandAt T.bd (ofK T.bd x).toNat).2) := Lib.hid (fun h => by unfold ofN; rw [h, if_pos rfl])
      generalize ofK T.bd x = kk at *
      generalize ofB T.bd x = qb at *
      generalize ofN T.bd x = cn at *
      go_wp2_with fail
      go_big_quiet (first | (go_at_call 118; refine Calls.quiet_of_same (HC.out _ (by first | exact HB.out | exact below_drewN HB.out _ | exact Below.drew HB.out))))
      replace HB := Lib.hid (below_drewN HB.out nq)
      have gd := below_drewN (Below.refl wr.heap.size wr) nq
      replace HX := Lib.hid (HX.out.on gd)
      replace HG := Lib.hid (HG.out.on gd)
      replace HO := Lib.hid (own_below HO.out gd)
      replace HS : Hid (w1.heap.size ≤ (wr.drewN nq).heap.size) := Lib.hid (Nat.le_trans HS.out gd.size)
      clear gd p0 p1 p2 p3 q HC
      generalize wr.drewN nq = w4 at *
      by_cases hkk : kk < 0
      · have HE := Lib.hid (HNs.out (HNo.out (by rw [HBd.out]; exact decide_eq_false (by omega))))
        obtain ⟨_, p0, p1, f0, f1⟩ := HG.out
        go_wp2_with fail
        obtain ⟨W9, hW9, b9, c0', c1', _⟩ := store2 (.slice none 0 0) (.bool false) HB.out (show w.heap.size ≤ w.heap.size + 1 by omega) p0 p1
        rw [← hW9]
        exact bodyPost_ret (v := .agg #[.slice none 0 0, .bool false]) (by simp [results, Tryd.results111, go_sem, c0', c1']) rfl (OutWk.no HE.out b9)
      · have hq : qb = true := by rw [HBd.out]; exact decide_eq_true (by omega)
        subst hq
        have HK2 := Lib.hid (HYes.out rfl)
        have HN2 := Lib.hid (HNd.out rfl)
        obtain ⟨kn, rfl⟩ : ∃ kn : Nat, kk = (kn : Int) := ⟨kk.toNat, by omega⟩
        obtain ⟨cc, hcc⟩ : ∃ cc : Nat, cn = (cc : Int) := ⟨cn.toNat, by have := HOx.out; omega⟩
        subst hcc
        have hcK : cc < T.cl.toNat := by have := HOx.out; omega
        have hkb : kn < T.bd.length := by have := HKl.out; omega
        have hkb2 : kn < T.n1 := by have := HBl.out; omega
        have HG2 := Lib.hid (HGo.out cc rfl)
        have hss := HSl.out (l.take k)
        obtain ⟨g8, cap8, hv8, hg8a, hg8b⟩ := HO.out.form (by omega)
        obtain ⟨hA8, _, hcap⟩ : A8 = some ⟨g8, 0, none⟩ ∧ True ∧ c8 = cap8 := by injection hv8 with e1 e2 e3; exact ⟨e1, trivial, e3⟩
        subst hA8 hcap
        have hst := HO.out.cellAt k (by omega)
        have hst2 : (icells (stL T.tb l (k + 1)))[k]? = some (.int .i64 ((stW T.tb (l.take k) : Nat) : Int)) := by
          unfold icells
          rw [List.getElem?_map, List.getElem?_eq_getElem (by rw [stL_len]; omega), stL_at _ _ (by omega)]; rfl
        rw [hst2] at hst
        obtain ⟨ab, ao, hA1, r1⟩ := HBn.out kn w4 hkb HB.out
        have HN3 : Hid ((bandAt T.bd kn).2 = (cc : Int)) := Lib.hid (by have := HN2.out; rw [Int.toNat_natCast] at this; exact this.symm)
        rw [HN3.out] at r1
        obtain ⟨nb, no, hA2, rb, ro, rc, r2, r3⟩ := HNx.out _ cc w4 hss hcK HB.out
        obtain ⟨_, p0, p1, p2, p3⟩ := HX.out
        rw [hA1] at p1
        rw [hA2] at p2
        generalize stW T.tb (l.take k) = s at *
        generalize nxN T.tb s cc = y at *
        generalize T.cl.toNat = K at *
        clear hst2 hv8 HN3 HN2 HGo HYes HNo HBd HNd hA1 hA2 HKl HOx HSl
        have hki : (k : Int) < (k : Int) + 1 := by omega
        have HOne := Lib.hid (icells_one [(y : Int)])
        have ga : Below w4.heap.size w4 (w4.alloc (.cells #[.int .i64 (y : Int)] 3)).drew := Below.drew (below_new w4 (.cells #[.int .i64 (y : Int)] 3))
        have HRd : Hid (Reads (w4.alloc (.cells #[.int .i64 (y : Int)] 3)).drew (w4.heap.size + 1) 1 (some ⟨w4.heap.size, 0, none⟩) 1 (icells [(y : Int)])) := Lib.hid (reads_int w4 (y : Int))
        have HOa := Lib.hid (own_below HO.out ga)
        have HXa := Lib.hid (HX.out.on ga)
        have HGa := Lib.hid (HG.out.on ga)
        have HBa := Lib.hid (HB.out.trans (ga.mono HB.out.size))
        have HSa : Hid (w1.heap.size ≤ (w4.alloc (.cells #[.int .i64 (y : Int)] 3)).drew.heap.size) := Lib.hid (Nat.le_trans HS.out ga.size)
        have hbw : w.heap.size ≤ (w4.alloc (.cells #[.int .i64 (y : Int)] 3)).drew.heap.size := HBa.out.size
        have HWs := Lib.hid hbw
        clear ga hbw
        go_wp2_with fail
        go_region_law (refine step_append_src rfl (.tmp 29) (.tmp 46) 51 rfl w1.heap.size 3 i0 _ 1 8 Tryd.underlying51 hi0 hz0 hz1 hz2 rfl (by decide) (.slice (some ⟨g8, 0, none⟩) (k + 1) c8) (k + 1) (icells (stL T.tb l (k + 1))) (by first | rfl | simp [Act.eval, Act.put]) (by exact HOa.out) (some ⟨w4.heap.size, 0, none⟩) 1 1 (w4.heap.size + 1) (icells [(y : Int)]) (by first | rfl | simp [Act.eval, Act.put]) (fun h => by cases h) (by exact HRd.out) HOne.out (by unfold maxLen; omega) (by omega) (by exact HSa.out) ?_; intro A9 c9 w9 hown9 hn9 hgrow9)
        all_goals
          have HB9 := Lib.hid (HBa.out.grown hgrow9 HWs.out (fun j hj => by have := (HOa.out.lt j hj).1; omega))
          have HX9 := Lib.hid (HXa.out.grown' hgrow9 (fun j hj => by have := (HOa.out.lt j hj).1; omega))
          have HG9 := Lib.hid (HGa.out.grown hgrow9 (fun j hj => by have := (HOa.out.lt j hj).1; omega))
          have HS9 : Hid (w1.heap.size ≤ w9.heap.size) := Lib.hid (Nat.le_trans HSa.out hgrow9.size)
          have HO9 : Hid (w9.ownsRow w1.heap.size 3 1 (.slice A9 (k + 1 + 1) c9) (k + 1 + 1) (icells (stL T.tb l (k + 1 + 1)))) := Lib.hid (by rw [HG2.out, icells_snoc]; exact hown9)
          clear hown9 hgrow9 HOa HXa HGa HBa HSa HWs HRd HOne HO HX HG HB HS
          go_wp2_with fail
          go_roundw
          case rel => exact ⟨k + 1, A9, c9, by go_num, by omega, rfl, HO9, HK2, HB9, HX9, HG9, HS9⟩
          case measure => simp [intOf]; omega
    · obtain rfl : k = n := by omega
      have HE : Hid (l.take k = l) := Lib.hid (List.take_of_length_le (by rw [HLn.out]; exact Nat.le_refl _))
      rw [HE.out] at HK
      have HY := Lib.hid (HYs.out HK.out)
      have HZ : Hid (k + 1 = (stL T.tb l (k + 1)).length) := Lib.hid (by rw [stL_len])
      obtain ⟨_, p0, p1, f0, f1⟩ := HG.out
      clear HE HK HYs HNs HX
      go_wp2_with fail
      obtain ⟨W9, hW9, b9, c0', c1', ho9⟩ := store2 (.slice A8 (k + 1) c8) (.bool true) HB.out (show w.heap.size ≤ w.heap.size + 1 by omega) p0 p1
      have HO9 := Lib.hid (ho9 _ _ _ _ _ _ hg1 HO.out)
      rw [← hW9]
      exact bodyPost_ret (v := .agg #[.slice A8 (k + 1) c8, .bool true]) (by simp [results, Tryd.results111, go_sem, c0', c1']) rfl (OutWk.yes HY.out HZ.out HO9.out hww b9)
end Go.Proofs.YtmhfgncffkfelaaDoor

