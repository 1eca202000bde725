/- What Of returns. -/
import Derived.Test.YtbnconieedgcmaaDoorOfC
namespace Go.Proofs.YtbnconieedgcmaaDoor
open Go.RowKit Go.Shelf
set_option linter.unusedVariables false
set_option linter.unusedSimpArgs false

attribute [local go_sem] Oper.semAt_some

def ofL (bs : List Rg) (v : Int) : Option Rg := if scalB v then bs.reverse.find? (fun b => decide (b.1 ≤ v)) else none
theorem find_last (bs : List Rg) (v : Int) : ∀ n, n ≤ bs.length → (bs.take n).reverse.find? (fun b => decide (b.1 ≤ v)) = if lastI bs v n < 0 then none else some (bandAt bs (lastI bs v n).toNat)
  | 0, _ => by simp [lastI]
  | n + 1, h => by
    have ih := find_last bs v n (by omega)
    rw [List.take_succ_eq_append_getElem (by omega), List.reverse_append, List.reverse_singleton, List.singleton_append, List.find?_cons]
    unfold lastI
    rw [bandAt_get (show n < bs.length by omega)]
    by_cases q : bs[n].1 ≤ v
    · rw [if_pos q, decide_eq_true q, if_neg (by omega)]
      simp only [Int.toNat_natCast]
      rw [bandAt_get (show n < bs.length by omega)]
    · rw [if_neg q, decide_eq_false q]
      exact ih
theorem ofL_eq (bs : List Rg) (v : Int) : ofL bs v = if ofK bs v < 0 then none else some (bandAt bs (ofK bs v).toNat) := by
  unfold ofL ofK
  cases e : scalB v with
  | false => simp
  | true =>
    have := find_last bs v bs.length (Nat.le_refl _)
    rw [List.take_length] at this
    simp only [if_true]
    exact this
theorem ofB_L (bs : List Rg) (v : Int) : ofB bs v = (ofL bs v).isSome := by
  rw [ofL_eq]
  unfold ofB
  by_cases q : ofK bs v < 0
  · rw [if_pos q, decide_eq_false (by omega)]; rfl
  · rw [if_neg q, decide_eq_true (by omega)]; rfl
theorem ofN_L (bs : List Rg) (v : Int) : ofN bs v = ((ofL bs v).map (·.2)).getD 0 := by
  unfold ofN
  rw [ofL_eq]
  unfold ofB
  by_cases q : ofK bs v < 0
  · rw [if_pos q, decide_eq_false (by omega)]; rfl
  · rw [if_neg q, decide_eq_true (by omega)]; rfl
theorem bk_rev (bs : List Rg) : (upto (bk bs) bs.length).map (·.2) = bs.reverse := by
  apply List.ext_getElem (by simp [upto])
  intro i h1 h2
  have hi : i < bs.length := by simpa [upto] using h1
  simp [upto, bk]
  rw [List.getElem?_eq_getElem (by omega)]
  rfl
theorem bk_take (bs : List Rg) {k : Nat} (hk : k ≤ bs.length) : (upto (bk bs) k).map (·.2) = bs.reverse.take k := by
  rw [← bk_rev]
  unfold upto
  rw [← List.map_take, ← List.map_take]
  congr 2
  rw [List.take_range]
  congr 1
  omega
theorem of_none {bs : List Rg} {v : Int} (h : ∀ p ∈ upto (bk bs) bs.length, v < p.2.1) : bs.reverse.find? (fun b => decide (b.1 ≤ v)) = none := by
  rw [List.find?_eq_none]
  intro b hb
  rw [← bk_rev] at hb
  obtain ⟨p, hp, rfl⟩ := List.mem_map.1 hb
  have := h p hp
  simp
  omega
theorem of_some {bs : List Rg} {v : Int} {k : Nat} (hk : k ≤ bs.length) {ini : List Bx} {last : Bx} (e : upto (bk bs) k = ini ++ [last]) (h1 : ∀ p ∈ ini, v < p.2.1) (h2 : last.2.1 ≤ v) : bs.reverse.find? (fun b => decide (b.1 ≤ v)) = some last.2 := by
  have h3 := bk_take bs hk
  rw [e] at h3
  simp at h3
  have h4 : bs.reverse = (ini.map (·.2) ++ [last.2]) ++ bs.reverse.drop k := by
    rw [h3, List.take_append_drop]
  rw [h4, List.find?_append, List.find?_append]
  have h5 : (ini.map (·.2)).find? (fun b => decide (b.1 ≤ v)) = none := by
    rw [List.find?_eq_none]
    intro b hb
    obtain ⟨p, hp, rfl⟩ := List.mem_map.1 hb
    have := h1 p hp
    simp
    omega
  rw [h5]
  simp [h2]
def lastC (pre : List Bx) : Int := (pre.getLastD (0, 0, 0)).2.2
def Two (W : World) (B : Nat) (x : Rg) : Prop := W.heap[B]? = some (.cells #[.int .i64 x.1, .int .i64 x.2] 52 (0, 0))
theorem Two.c0 {W : World} {B : Nat} {x : Rg} (h : Two W B x) : W.cell? ⟨B, 0, none⟩ = some (.int .i64 x.1) := by simp [World.cell?, show W.heap[B]? = _ from h]
theorem Two.c1 {W : World} {B : Nat} {x : Rg} (h : Two W B x) : W.cell? ⟨B, 1, none⟩ = some (.int .i64 x.2) := by simp [World.cell?, show W.heap[B]? = _ from h]

def OfI (w : World) (v : Int) (s0 : Nat) (pre : List Bx) (W : World) : Prop :=
  ((((∀ p ∈ pre, v < p.2.1) ∧ Boxed W w.heap.size 3 (.int .i64 v)) ∧ Boxed W (w.heap.size + 1) 3 (.int .i64 0)) ∧ Boxed W (w.heap.size + 1 + 1) 4 (.bool false)) ∧ Below w.heap.size w W ∧ s0 ≤ W.heap.size
def OfX (w : World) (v : Int) (cc : Code) (pre : List Bx) (W : World) : Prop :=
  (((cc = .ret ∧ ∃ ini last, pre = ini ++ [last] ∧ (∀ p ∈ ini, v < p.2.1) ∧ last.2.1 ≤ v) ∧ Boxed W (w.heap.size + 1) 3 (.int .i64 (lastC pre))) ∧ Boxed W (w.heap.size + 1 + 1) 4 (.bool true)) ∧ Below w.heap.size w W
def OfA (w : World) (A : Option Addr) (len c : Nat) (v : Int) (x : Bx) (a' : Act) (W : World) : Prop :=
  ∃ B', w.heap.size + 3 < B' ∧ Two W B' x.2 ∧ a' = { tmps := #[.slice A len c, .int .i64 v, undef, .pointer (some ⟨w.heap.size, 0, none⟩), .pointer (some ⟨w.heap.size + 1, 0, none⟩), .pointer (some ⟨w.heap.size + 1 + 1, 0, none⟩), undef, .pointer (some ⟨B', 0, none⟩), .int .i64 v, .bool true, .bool false, .slice A len c, .func (.func 128) #[] #[.pointer (some ⟨w.heap.size + 1 + 1 + 1, 0, none⟩)], .int .i64 x.1, .agg #[.int .i64 x.2.1, .int .i64 x.2.2], undef, undef, undef, undef, undef, undef], defers := [] }
theorem ofI_own (w : World) (v : Int) (s0 B : Nat) (hB : w.heap.size ≤ B) : OwnFrom B (OfI w v s0) :=
  OwnFrom.and (OwnFrom.and (OwnFrom.and (OwnFrom.and (ownFrom_pure _ _) (Own.from (boxed_own _ _ _) _)) (Own.from (boxed_own _ _ _) _)) (Own.from (boxed_own _ _ _) _)) (OwnFrom.and (ownFrom_below (Nat.le_refl _) hB) (fun _ _ _ _ hs hg _ => Nat.le_trans hs hg.size))
theorem ofX_own (w : World) (v : Int) (B : Nat) (hB : w.heap.size ≤ B) (cc : Code) : OwnFrom B (OfX w v cc) :=
  OwnFrom.and (OwnFrom.and (OwnFrom.and (ownFrom_pure _ _) (Own.from (boxed_own _ _ _) _)) (Own.from (boxed_own _ _ _) _)) (ownFrom_below (Nat.le_refl _) hB)
theorem ofA_own (w : World) (A : Option Addr) (len c : Nat) (v : Int) (B : Nat) (x : Bx) (a' : Act) : OwnFrom B (fun (_ : Unit) W => OfA w A len c v x a' W) := fun _ X Y row hs hg hr => by
  obtain ⟨B', e1, e2, e3⟩ := hs
  refine ⟨B', e1, ?_, e3⟩
  have hlt : B' < X.heap.size := (Array.getElem?_eq_some_iff.1 e2).1
  exact (hg.block B' hlt (fun e => by
    obtain ⟨_, o, ho, hc⟩ := hr B' e.symm
    rw [show X.heap[B']? = _ from e2] at ho
    injection ho with ho
    subst ho
    simp [Obj.isCells] at hc)).trans e2

set_option maxRecDepth 100000 in
set_option maxHeartbeats 4000000 in
theorem of_in (n : Nat) (hn : 3 ≤ n) (bs : List Rg) (A : Option Addr) (c : Nat) (v : Int) (w : World) (hreach : bs.length ≤ 1000000) (hR : Reads w w.heap.size 2 A bs.length (rcells bs)) :
    CallsIn Fence.wide n Tryd.prog 122 #[.slice A bs.length c, .int .i64 v] w fun e W' => e = .returned (.tuple #[.int .i64 (ofN bs v), .bool (ofB bs v)]) ∧ Below w.heap.size w W' := by
  have h1 : 1 ≤ n := by omega
  have hro : Fence.wide.round = none := rfl
  have his : ∀ W, Calls Tryd.prog 103 #[.int .i64 v] W fun e w' => e = .returned (.bool (scalB v)) ∧ W = w' := fun W => (scalIs_any v W).mono (fun e w' ⟨a, b⟩ => ⟨a, b.symm⟩)
  obtain ⟨len, hlen⟩ : ∃ len, bs.length = len := ⟨_, rfl⟩
  cases hv : scalB v
  · rw [hv] at his
    have e0 : ofL bs v = none := by unfold ofL; rw [hv]; rfl
    rw [show ofN bs v = 0 by rw [ofN_L, e0]; rfl, show ofB bs v = false by rw [ofB_L, e0]; rfl]
    refine callsIn_of_wp_marks Tryd.func122 rfl trivial ?_ hro
    simp only [Tryd.ntmps122, List.size_toArray, List.length_cons, List.length_nil, Nat.reduceAdd, Nat.reduceSub, Array.replicate_succ, Array.replicate_zero, List.push_toArray, List.append_toArray, List.nil_append, List.cons_append]
    gi_wp2_with (refine ⟨trivial, ?_⟩; gi_at_call 103; refine (callsIn_wide.2 (his _)).mono ?_; rintro e w' ⟨rfl, rfl⟩)
    refine ⟨.tuple #[.int .i64 0, .bool false], ?_, rfl, (((Below.refl _ w).alloc (Nat.le_refl _) _).alloc (by simp) _).alloc (by simp; omega) _⟩
    simp [results, Tryd.f122, go_sem]
  · rw [hv] at his
    refine callsIn_of_wp_marks Tryd.func122 rfl trivial ?_ hro
    simp only [Tryd.ntmps122, List.size_toArray, List.length_cons, List.length_nil, Nat.reduceAdd, Nat.reduceSub, Array.replicate_succ, Array.replicate_zero, List.push_toArray, List.append_toArray, List.nil_append, List.cons_append]
    gi_wp2_with (first | (refine ⟨trivial, ?_⟩; gi_at_call 103; refine (callsIn_wide.2 (his _)).mono ?_; rintro e w' ⟨rfl, rfl⟩) | (refine ⟨trivial, ?_⟩; gi_at_call 127; refine (back_in Fence.wide (n - 1) trivial hro _ _ _ _).mono ?_; rintro e w' ⟨rfl, rfl⟩))
    have bV := (((Boxed.new w 3 (.int .i64 v)).alloc (.cells #[.int .i64 0] 3)).alloc (.cells #[.bool false] 4)).alloc (.cells #[.slice A len c] 22)
    have bR := ((Boxed.new (w.alloc (.cells #[.int .i64 v] 3)) 3 (.int .i64 0)).alloc (.cells #[.bool false] 4)).alloc (.cells #[.slice A len c] 22)
    have bB := (Boxed.new ((w.alloc (.cells #[.int .i64 v] 3)).alloc (.cells #[.int .i64 0] 3)) 4 (.bool false)).alloc (.cells #[.slice A len c] 22)
    have bS := Boxed.new (((w.alloc (.cells #[.int .i64 v] 3)).alloc (.cells #[.int .i64 0] 3)).alloc (.cells #[.bool false] 4)) 22 (.slice A len c)
    simp only [World.size_alloc] at bR bB bS
    have hB0 : Below w.heap.size w ((((w.alloc (.cells #[.int .i64 v] 3)).alloc (.cells #[.int .i64 0] 3)).alloc (.cells #[.bool false] 4)).alloc (.cells #[.slice A len c] 22)) := ((((Below.refl _ w).alloc (Nat.le_refl _) _).alloc (by simp) _).alloc (by simp; omega) _).alloc (by simp; omega) _
    have hsz : ((((w.alloc (.cells #[.int .i64 v] 3)).alloc (.cells #[.int .i64 0] 3)).alloc (.cells #[.bool false] 4)).alloc (.cells #[.slice A len c] 22)).heap.size = w.heap.size + 4 := by simp
    obtain ⟨W0, hW0⟩ : ∃ W0, (((w.alloc (.cells #[.int .i64 v] 3)).alloc (.cells #[.int .i64 0] 3)).alloc (.cells #[.bool false] 4)).alloc (.cells #[.slice A len c] 22) = W0 := ⟨_, rfl⟩
    rw [hW0] at bV bR bB bS hB0 hsz ⊢
    clear hW0
    have hR0 : Reads W0 w.heap.size 2 A bs.length (rcells bs) := hR.below hB0
    have hs4 : w.heap.size + 4 ≤ W0.heap.size := by omega
    clear hsz
    refine wpIn_rangeFunc_ownH hro h1 (gf := 128) (lb := #[.pointer (some ⟨w.heap.size + 1 + 1 + 1, 0, none⟩)]) rfl trivial (enters_of Tryd.func128 (by kernel_rfl) rfl)
      (back_stops Fence.wide (n - 1) trivial hro (by omega) (w.heap.size + 1 + 1 + 1) w.heap.size A c bs hreach W0 (by omega) (by omega) (by rw [hlen]; exact bS.cell) hR0) Kb.trans (fun W l o o' hl h _ _ => ⟨belowK_b (w := W0) (by omega) W l o o' hl h (by assumption) (by assumption), (grownBy_putObj' W l o').block _ (by have := (Array.getElem?_eq_some_iff.1 h).1; omega) (fun e => by injection e; omega)⟩) (Below.refl _ _) (fun _ => rfl)
      (OfI w v W0.heap.size) (OfX w v) (ofI_own w v _ _ (by omega)) (ofX_own w v _ (by omega))
      ⟨⟨⟨⟨by simp, bV⟩, bR⟩, bB⟩, hB0, Nat.le_refl _⟩
      (OfA w A len c v) (ofA_own w A len c v _)
      ?assign ?body ?done ?stop
    case assign =>
      rintro l pre x W K ⟨⟨⟨⟨hp, bV1⟩, bR1⟩, bB1⟩, hB1, hs1⟩ hK
      simp only [encB]
      gi_wp2
      have hKb1 : Kb w.heap.size (w.heap.size + 1 + 1 + 1) W (W.alloc (.cells #[.int .i64 x.2.1, .int .i64 x.2.2] 52)) := ⟨(Below.refl _ W).alloc hB1.size _, (World.grownBy_alloc W _ none).block _ (by omega) (by simp)⟩
      have hsA : W0.heap.size ≤ (W.alloc (.cells #[.int .i64 x.2.1, .int .i64 x.2.2] 52)).heap.size := Nat.le_trans hs1 (World.grownBy_alloc W (.cells #[.int .i64 x.2.1, .int .i64 x.2.2] 52) none).size
      exact hK _ _ ((KeepsOthers.alloc _ _).from _) hKb1 ⟨⟨⟨⟨hp, bV1.alloc _⟩, bR1.alloc _⟩, bB1.alloc _⟩, hB1.alloc hB1.size _, hsA⟩ ⟨W.heap.size, by omega, World.alloc_heap_new W _, rfl⟩
    case body =>
      rintro l pre x a' W hl _ ⟨⟨⟨⟨hp, bV1⟩, bR1⟩, bB1⟩, hB1, hs1⟩ ⟨B', hB', bX, rfl⟩ hlt
      have cV := bV1.cell
      have cR := bR1.cell
      have cB := bB1.cell
      have fR := bR1.frozen
      have fB := bB1.frozen
      have x0 := bX.c0
      have x1 := bX.c1
      by_cases hx : x.2.1 ≤ v
      · have bR2 := (bR1.set (.int .i64 x.2.2)).other (show w.heap.size + 1 ≠ w.heap.size + 1 + 1 by omega) (.bool true)
        have bB2 := (bB1.other (show w.heap.size + 1 + 1 ≠ w.heap.size + 1 by omega) (.int .i64 x.2.2)).set (.bool true)
        gi_wp2
        refine ⟨((KeepsOthers.setCell _ _ _).trans (KeepsOthers.setCell _ _ _)).from _, ⟨⟨⟨rfl, pre, x, rfl, hp, hx⟩, ?_⟩, bB2⟩, (hB1.setCell (p := ⟨w.heap.size + 1, 0, none⟩) (by simp) _).setCell (p := ⟨w.heap.size + 1 + 1, 0, none⟩) (by simp; omega) _⟩
        have e : lastC (pre ++ [x]) = x.2.2 := by simp [lastC]
        rw [e]
        exact bR2
      · gi_wp2
        exact ⟨KeepsFrom.refl _ _, Kb.refl _ _ _, ⟨⟨⟨fun p hp' => (List.mem_append.1 hp').elim (hp p) (fun e => by rw [List.mem_singleton] at e; subst e; omega), bV1⟩, bR1⟩, bB1⟩, hB1, hs1⟩
    case done =>
      rintro D ys W hD rfl ⟨⟨⟨⟨hne, bV1⟩, bR1⟩, bB1⟩, hB1, hs1⟩ hK
      have cR := bR1.cell
      have cB := bB1.cell
      have fR := bR1.frozen
      have fB := bB1.frozen
      have e0 : ofL bs v = none := by unfold ofL; rw [hv, if_pos rfl]; exact of_none hne
      have eN : ofN bs v = 0 := by rw [ofN_L, e0]; rfl
      have eB : ofB bs v = false := by rw [ofB_L, e0]; rfl
      have bR2 := (bR1.set (.int .i64 0)).other (show w.heap.size + 1 ≠ w.heap.size + 1 + 1 by omega) (.bool false)
      have bB2 := (bB1.other (show w.heap.size + 1 + 1 ≠ w.heap.size + 1 by omega) (.int .i64 0)).set (.bool false)
      have hK' := ((KeepsOthers.setCell W ⟨w.heap.size + 1, 0, none⟩ (.int .i64 0)).trans (KeepsOthers.setCell _ ⟨w.heap.size + 1 + 1, 0, none⟩ (.bool false))).same D _ hK rfl
      gi_wp2
      refine ⟨by simp, .inl ⟨_, _, rfl, run_takeDeferred hK', ?_⟩⟩
      have c4 := cell_kept bR2.cell (grownBy_putObj' _ D (.deferred none)) (fun r e => by cases e; exact ⟨_, hK', rfl⟩)
      have c5 := cell_kept bB2.cell (grownBy_putObj' _ D (.deferred none)) (fun r e => by cases e; exact ⟨_, hK', rfl⟩)
      refine ⟨.tuple #[.int .i64 0, .bool false], ?_, by rw [eN, eB], ((hB1.setCell (p := ⟨w.heap.size + 1, 0, none⟩) (by simp) _).setCell (p := ⟨w.heap.size + 1 + 1, 0, none⟩) (by simp; omega) _).trans (belowK_b (w := w) (Nat.le_refl _) _ D _ _ (by omega) hK' rfl rfl)⟩
      simp [results, Tryd.f122, go_sem, c4, c5]
    case stop =>
      rintro D cc pre W hD ⟨k, hk, rfl⟩ ⟨⟨⟨⟨rfl, ini, last, e1, e2, e3⟩, bR1⟩, bB1⟩, hB1⟩ hK
      have e0 : ofL bs v = some last.2 := by unfold ofL; rw [hv, if_pos rfl]; exact of_some hk e1 e2 e3
      have el : lastC (upto (bk bs) k) = last.2.2 := by rw [e1]; simp [lastC]
      have eN : ofN bs v = last.2.2 := by rw [ofN_L, e0]; rfl
      have eB : ofB bs v = true := by rw [ofB_L, e0]; rfl
      rw [el] at bR1
      gi_wp2
      refine ⟨by simp, .inl ⟨_, _, rfl, run_takeDeferred hK, ?_⟩⟩
      have c4 := cell_kept bR1.cell (grownBy_putObj' _ D (.deferred none)) (fun r e => by cases e; exact ⟨_, hK, rfl⟩)
      have c5 := cell_kept bB1.cell (grownBy_putObj' _ D (.deferred none)) (fun r e => by cases e; exact ⟨_, hK, rfl⟩)
      refine ⟨.tuple #[.int .i64 last.2.2, .bool true], ?_, by rw [eN, eB], hB1.trans (belowK_b (w := w) (Nat.le_refl _) W D _ _ (by omega) hK rfl rfl)⟩
      simp [results, Tryd.f122, go_sem, c4, c5]
theorem of_n (bs : List Rg) (n : Nat) (hl : bs.length = n) (A : Option Addr) (c : Nat) (v : Int) (w : World) (hR : Reads w w.heap.size 2 A n (rcells bs)) (hn : n ≤ 1000000) :
    Calls Tryd.prog 122 #[.slice A n c, .int .i64 v] w fun e w' => e = .returned (.tuple #[.int .i64 (ofN bs v), .bool (ofB bs v)]) ∧ Below w.heap.size w w' := by
  subst hl
  exact callsIn_wide.1 (of_in 3 (Nat.le_refl _) bs A c v w hn hR)
end Go.Proofs.YtbnconieedgcmaaDoor
