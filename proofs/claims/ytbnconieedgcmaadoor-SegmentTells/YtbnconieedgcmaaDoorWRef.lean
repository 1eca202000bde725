/- What the document's Of, Class, States and Breaks return. -/
import Derived.Test.YtbnconieedgcmaaDoorWalk2
import Derived.Test.YtbnconieedgcmaaDoorRVal3
import Derived.BigQuiet
import Derived.Deep.RegionLaw
import Derived.Deep.CutRange
import Derived.Deep.RegionHeld3
namespace Go.Proofs.YtbnconieedgcmaaDoor
open Go.RowKit Go.BigFrame Go.Maps
set_option linter.unusedVariables false
set_option maxRecDepth 4000
set_option linter.unusedSimpArgs false

set_option maxHeartbeats 2000000 in
theorem refOf_any (bs : List Rg) (n : Nat) (A : Option Addr) (c : Nat) (v : Int) (w : World) (hR : RD w w.heap.size A n bs) (hn : n ≤ 100000) :
    Calls Tryd.prog 120 #[.slice A n c, .int .i64 v] w fun e w' => e = .returned (.int .i64 (ofK bs v)) ∧ w = w' := by
  have HL := Lib.hid hR.1
  have HR := Lib.hid hR
  have HI := Lib.hid (fun W => refIs_any v W)
  cases hs : scalB v
  case false =>
    have hK : ofK bs v = -1 := by unfold ofK; rw [hs]; rfl
    rw [hs] at HI
    rw [hK]
    clear hR hs hK
    by_cases h0 : n = 0
    · subst h0
      go_enter Tryd.func120, Tryd.ntmps120
      go_wp2_with fail
      go_loopw [5, 6] (fun vo vi wr => vi = .int .i64 0 ∧ vo = .int .i64 (-1) ∧ wr = w) (fun _ _ _ => 0)
      case atStart => exact ⟨rfl, rfl, rfl⟩
      case round =>
        obtain ⟨rfl, rfl, rfl⟩ := hrel
        go_wp2_with fail
        go_ret
        exact ⟨rfl, rfl⟩
    · have h0' : 0 < n := by omega
      go_enter Tryd.func120, Tryd.ntmps120
      go_wp2_with fail
      go_loopw [5, 6] (fun vo vi wr => vi = .int .i64 0 ∧ vo = .int .i64 (-1) ∧ wr = w) (fun _ _ _ => 0)
      case atStart => exact ⟨rfl, rfl, rfl⟩
      case round =>
        obtain ⟨rfl, rfl, rfl⟩ := hrel
        go_wp2_with fail
        refine (HI.out _).mono ?_
        rintro e w3 ⟨rfl, rfl⟩
        go_wp2_with fail
        go_ret
        exact ⟨rfl, rfl⟩
  case true =>
    have HK : Hid (ofK bs v = lastI bs v n) := Lib.hid (by unfold ofK; rw [hs, if_pos rfl, HL.out])
    rw [hs] at HI
    rw [HK.out]
    clear hR hs HK
    go_enter Tryd.func120, Tryd.ntmps120
    go_wp2_with fail
    go_loopw [5, 6] (fun vo vi wr => ∃ k : Nat, vi = .int .i64 k ∧ k ≤ n ∧ vo = .int .i64 (lastI bs v k) ∧ wr = w) (fun _ vi _ => n - (intOf vi).toNat)
    case atStart => exact ⟨0, rfl, Nat.zero_le _, rfl, rfl⟩
    case round =>
      obtain ⟨k, rfl, hk, rfl, rfl⟩ := hrel
      by_cases hlt : k < n
      · have kl : k < bs.length := by rw [HL.out]; exact hlt
        obtain ⟨bb, oo, hA, _, q0, q1⟩ := HR.out.at kl
        subst hA
        have HS : Hid (lastI bs v (k + 1) = if bs[k].1 ≤ v then (k : Int) else lastI bs v k) := Lib.hid (by
          show (if (bandAt bs k).1 ≤ v then (k : Int) else lastI bs v k) = _
          rw [bandAt_get kl])
        generalize bs[k] = x at *
        obtain ⟨x0, x1⟩ := x
        simp only [] at q0 q1 HS
        by_cases hx : x0 ≤ v
        · have HS2 : Hid (lastI bs v (k + 1) = (k : Int)) := Lib.hid (by rw [HS.out, if_pos hx])
          clear HS
          go_wp2_with fail
          refine (HI.out _).mono ?_
          rintro e w3 ⟨rfl, h3⟩
          obtain rfl : wr = w3 := h3.symm
          go_wp2_with fail
          go_roundw
          case rel => exact ⟨k + 1, by go_num, by omega, by rw [HS2.out], by first | rfl | trivial⟩
          case measure => simp [intOf]; omega
        · have HS2 : Hid (lastI bs v (k + 1) = lastI bs v k) := Lib.hid (by rw [HS.out, if_neg hx])
          clear HS
          go_wp2_with fail
          refine (HI.out _).mono ?_
          rintro e w3 ⟨rfl, h3⟩
          obtain rfl : wr = w3 := h3.symm
          go_wp2_with fail
          go_roundw
          case rel => exact ⟨k + 1, by go_num, by omega, by rw [HS2.out], by first | rfl | trivial⟩
          case measure => simp [intOf]; omega
      · obtain rfl : k = n := by omega
        go_wp2_with fail
        go_ret
        exact ⟨rfl, rfl⟩
/-- The document's answer for a class. -/
def refCl (t : Tb) (v : Int) : Int := if errV t = 0 then (if ofB t.bd v then ofN t.bd v else -1) else -1
/-- The states at the first k places. -/
def stL (t : Tb) (l : List Int) (k : Nat) : List Int := (List.range k).map fun i => ((stW t (l.take i) : Nat) : Int)
theorem stL_succ (t : Tb) (l : List Int) (k : Nat) : stL t l (k + 1) = stL t l k ++ [((stW t (l.take k) : Nat) : Int)] := by unfold stL; rw [List.range_succ, List.map_append]; rfl
theorem stL_len (t : Tb) (l : List Int) (k : Nat) : (stL t l k).length = k := by simp [stL]
theorem stL_at (t : Tb) (l : List Int) {k i : Nat} (h : i < k) (h' : i < (stL t l k).length) : (stL t l k)[i] = ((stW t (l.take i) : Nat) : Int) := by simp [stL]
def swR (t : Tb) (l : List Int) : Option (List Int) := if errV t = 0 ∧ okW t l = true then some (stL t l (l.length + 1)) else none
/-- A new row, or none, with a word. -/
def OutWk (r : Option (List Int)) (w : World) (e : Ending) (w' : World) : Prop := ∃ (A : Option Addr) (c : Nat), e = .returned (.agg #[.slice A (r.getD []).length c, .bool r.isSome]) ∧ w'.ownsRow w.heap.size 3 1 (.slice A (r.getD []).length c) (r.getD []).length (icells (r.getD [])) ∧ Below w.heap.size w w'
structure Res2 (g : Nat) (w : World) : Prop where
  lt : g < w.heap.size
  c0 : w.cell? ⟨g, 0, none⟩ = some (.slice none 0 0)
  c1 : w.cell? ⟨g, 1, none⟩ = some (.bool false)
  f0 : w.frozen? ⟨g, 0, none⟩ = false
  f1 : w.frozen? ⟨g, 1, none⟩ = false
theorem Res2.on {g : Nat} {w w' : World} (h : Res2 g w) (b : Below w.heap.size w w') : Res2 g w' :=
  ⟨Nat.lt_of_lt_of_le h.lt b.size, kept_cell b h.c0, kept_cell b h.c1, (b.frozen h.lt).trans h.f0, (b.frozen h.lt).trans h.f1⟩
theorem Res2.grown {g : Nat} {w w' : World} {row : Option Nat} (h : Res2 g w) (b : w.grownBy w' row) (hr : ∀ j, row = some j → j ≠ g) : Res2 g w' := by
  have hb : w'.heap[g]? = w.heap[g]? := b.block g h.lt (fun e => hr g e.symm rfl)
  have hc : ∀ i, w'.cell? ⟨g, i, none⟩ = w.cell? ⟨g, i, none⟩ := fun i => World.cell?_of_block (a := ⟨g, i, none⟩) hb
  have hf : ∀ i, w'.frozen? ⟨g, i, none⟩ = w.frozen? ⟨g, i, none⟩ := fun i => World.frozen?_of_block (a := ⟨g, i, none⟩) hb
  exact ⟨Nat.lt_of_lt_of_le h.lt b.size, (hc 0).trans h.c0, (hc 1).trans h.c1, (hf 0).trans h.f0, (hf 1).trans h.f1⟩
theorem Box.grown' {g : Nat} {w w' : World} {T : TV} {row : Option Nat} (h : Box w g T) (b : w.grownBy w' row) (hr : ∀ j, row = some j → j ≠ g) : Box w' g T := by
  have hb : w'.heap[g]? = w.heap[g]? := b.block g h.1 (fun e => hr g e.symm rfl)
  have hc : ∀ i, w'.cell? ⟨g, i, none⟩ = w.cell? ⟨g, i, none⟩ := fun i => World.cell?_of_block (a := ⟨g, i, none⟩) hb
  exact ⟨Nat.lt_of_lt_of_le h.1 b.size, (hc 0).trans h.2.1, (hc 1).trans h.2.2.1, (hc 2).trans h.2.2.2.1, (hc 3).trans h.2.2.2.2⟩
theorem res2_new (w : World) : Res2 w.heap.size (w.alloc (.cells #[.slice none 0 0, .bool false] 134)) := ⟨by simp, by simp, by simp, by simp, by simp⟩
theorem infoWk : (Tryd.prog.info? 134).map (fun i => (i.zero, i.size, i.bytes)) = some (some (.agg #[.slice none 0 0, .bool false]), 2, 32) := by kernel_rfl
theorem store2 {w0 w : World} {B g : Nat} {o0 o1 : Value} (v0 v1 : Value) (hb : Below B w0 w) (hBg : B ≤ g) (p0 : w.cell? ⟨g, 0, none⟩ = some o0) (p1 : w.cell? ⟨g, 1, none⟩ = some o1) :
    ∃ W, W = (w.setCell ⟨g, 0, none⟩ v0).setCell ⟨g, 1, none⟩ v1 ∧ Below B w0 W ∧ W.cell? ⟨g, 0, none⟩ = some v0 ∧ W.cell? ⟨g, 1, none⟩ = some v1 ∧ ∀ (base : Nat) (e : TypeId) (size : Nat) (v : Value) (n : Nat) (xs : List Value), g < base → w.ownsRow base e size v n xs → W.ownsRow base e size v n xs := by
  refine ⟨_, rfl, (hb.setCell (p := ⟨g, 0, none⟩) hBg _).setCell (p := ⟨g, 1, none⟩) hBg _, ?_, ?_, fun base e size v n xs h ho => ownsRow_setCell_below (ownsRow_setCell_below ho h _) h _⟩
  · simp [go_sem, p0, p1]
  · simp [go_sem, p0, p1]
theorem OutWk.no {r : Option (List Int)} {w w' : World} (h : r = none) (b : Below w.heap.size w w') : OutWk r w (.returned (.agg #[.slice none 0 0, .bool false])) w' := by
  subst h
  exact ⟨none, 0, rfl, World.ownsRow_nil _ _ _ _, b⟩
theorem OutWk.yes {r : Option (List Int)} {L : List Int} {z : Nat} {w w' : World} {A : Option Addr} {c base : Nat} (h : r = some L) (hz : z = L.length) (ho : w'.ownsRow base 3 1 (.slice A z c) z (icells L)) (hb : w.heap.size ≤ base) (b : Below w.heap.size w w') : OutWk r w (.returned (.agg #[.slice A z c, .bool true])) w' := by
  subst h hz
  exact ⟨A, c, rfl, ho.mono hb, b⟩
set_option maxHeartbeats 4000000 in
theorem refStates_no (T : TV) (l : List Int) (n : Nat) (A : Option Addr) (c : Nat) (w : World) (hT : T.ok w) (hV : errV T.tb ≠ 0) :
    Calls Tryd.prog 108 #[T.v, .slice A n c] w (OutWk (swR T.tb l) w) := by
  obtain ⟨j0, hj0, hy0, hy1, hy2⟩ := info_parts infoWk
  have HT := Lib.hid (fun W (g : Below w.heap.size w W) => refTable_any T W (hT.on g))
  have hn : (errV T.tb != 0) = true := by rw [bne_iff_ne]; exact hV
  have HE : Hid (swR T.tb l = none) := Lib.hid (by unfold swR; rw [if_neg (fun h => hV h.1)])
  have b0 : Below w.heap.size w ((w.alloc (.cells #[.int .i64 T.cl, .slice T.a1 T.n1 T.c1, .slice T.a2 T.n2 T.c2, .slice T.a3 T.n3 T.c3] 26)).alloc (.cells #[.slice none 0 0, .bool false] 134)) := below_call (below_new _ _) (below_new _ _).size (below_new _ _)
  have hr := res2_new (w.alloc (.cells #[.int .i64 T.cl, .slice T.a1 T.n1 T.c1, .slice T.a2 T.n2 T.c2, .slice T.a3 T.n3 T.c3] 26))
  rw [show (w.alloc (.cells #[.int .i64 T.cl, .slice T.a1 T.n1 T.c1, .slice T.a2 T.n2 T.c2, .slice T.a3 T.n3 T.c3] 26)).heap.size = w.heap.size + 1 by simp] at hr
  generalize swR T.tb l = r at *
  generalize errV T.tb = ev at *
  clear hT hV
  simp only [TV.v] at *
  go_enter Tryd.func108, Tryd.ntmps108
  go_wp2_with fail
  generalize (w.alloc (.cells #[.int .i64 T.cl, .slice T.a1 T.n1 T.c1, .slice T.a2 T.n2 T.c2, .slice T.a3 T.n3 T.c3] 26)).alloc (.cells #[.slice none 0 0, .bool false] 134) = V at *
  refine (HT.out V b0).mono ?_
  rintro e w1 ⟨rfl, g⟩
  have b1 := below_call b0 b0.size g
  obtain ⟨_, p0, p1, f0, f1⟩ := hr.on g
  clear g HT hr b0
  go_wp2_with fail
  obtain ⟨W9, hW9, b9, c0', c1', _⟩ := store2 (.slice none 0 0) (.bool false) b1 (show w.heap.size ≤ w.heap.size + 1 by omega) p0 p1
  rw [← hW9]
  exact bodyPost_ret (v := .agg #[.slice none 0 0, .bool false]) (by simp [results, Tryd.results108, go_sem, c0', c1']) rfl (OutWk.no HE.out b9)
end Go.Proofs.YtbnconieedgcmaaDoor
