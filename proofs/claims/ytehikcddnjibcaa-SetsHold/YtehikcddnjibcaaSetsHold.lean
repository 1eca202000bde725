/- The law SetsHold returns true at every two sets and every row of integers: a scalar is in the union just if it is in one, in both just if it is in each, in none of a set just if it is not in it; not once more is the set; all three may be; their sizes fit. Conditions: none; nothing that was there before the call is changed. -/
import Derived.Test.YtehikcddnjibcaaFrame
import Derived.Test.YtehikcddnjibcaaCnt
namespace Go.Proofs.Ytehikcddnjibcaa.setsHold
open Go.ChangeShapes Go.WideShapes Go.ChangeAt Go.RowKit Go.BigFrame
set_option linter.unusedVariables false
set_option linter.unusedSimpArgs false

theorem reads_drew {w : World} {B size n : Nat} {A : Option Addr} {xs : List Value} (h : Reads w B size A n xs) : Reads w.drew B size A n xs := h.keep fun _ _ => rfl
/-- Two rows that lie in two blocks. -/
def Apart (A B : Option Addr) : Prop := ∀ p q, A = some p → B = some q → p.block ≠ q.block
theorem reads_grown {w w' : World} {B size n : Nat} {A A2 : Option Addr} {z c2 : Nat} {xs : List Value} (h : Reads w B size A n xs) (hg : w.grownBy w' (Value.slice A2 z c2).ownBlock) (hA : Apart A2 A) (hB : B ≤ w.heap.size) : Reads w' B size A n xs :=
  ⟨h.1, fun hn => by
    obtain ⟨b, o, rfl, hb, hc⟩ := h.2 hn
    refine ⟨b, o, rfl, hb, fun j u hj => hg.cell (hc j u hj) ?_⟩
    intro he
    cases A2 with
    | none => simp [Value.ownBlock] at he
    | some p =>
      simp [Value.ownBlock] at he
      exact hA p _ rfl rfl he.symm⟩
theorem icells_one (l : List Int) : ∀ u ∈ icells l, u.oneCell' = true := by
  intro u hu
  simp only [icells, List.mem_map] at hu
  obtain ⟨x, _, rfl⟩ := hu
  rfl
theorem icells_app (l m : List Int) : icells (l ++ m) = icells l ++ icells m := by simp [icells]
theorem reads_ilit (w : World) (L : List Int) (k : Nat) (cs : Array Value) (hk : L.length = k) (h : cs = (icells L).toArray) : Reads (w.alloc (.cells cs 3)) (w.alloc (.cells cs 3)).heap.size 1 (some ⟨w.heap.size, 0, none⟩) k (icells L) := by
  subst h
  refine ⟨by rw [icells_len, hk]; omega, fun _ => ⟨w.heap.size, 0, rfl, by simp, fun j u hj => ?_⟩⟩
  rw [Nat.zero_add]
  have e : (w.alloc (.cells (icells L).toArray 3)).heap[w.heap.size]? = some (.cells (icells L).toArray 3) := by
    show (w.heap.push _)[w.heap.size]? = _
    exact Array.getElem?_push_size
  unfold World.cell?
  show (match (w.alloc (.cells (icells L).toArray 3)).heap[w.heap.size]? with
    | some (.cells c _ _) => if false = true then none else c[j]?
    | _ => none) = some u
  rw [e]
  simpa using hj

theorem ilit_cells (w : World) (L : List Int) (cs : Array Value) (h : cs = (icells L).toArray) : ∀ j u, (icells L)[j]? = some u → (w.alloc (.cells cs 3)).cell? ((⟨w.heap.size, 0, none⟩ : Addr).add j) = some u := by
  intro j u hj
  have hr := reads_ilit w L L.length cs rfl h
  have hp : 0 < L.length := by
    have := (List.getElem?_eq_some_iff.1 hj).1
    rw [icells_len] at this
    omega
  obtain ⟨b, o, e, _, hc⟩ := hr.2 hp
  injection e with e
  injection e with e1 e2
  subst e1 e2
  rw [Go.WideShapes.add_plain]
  exact hc j u hj

/-- Ahead of each round: all that is asked of, so far. -/
def Rel (ab : List Rg) (zb : Nat) (Ab : Option Addr) (base B : Nat) (w1 : World) (va vi : Value) (wr : World) : Prop :=
  ∃ (k z : Nat) (A2 : Option Addr) (c2 : Nat) (acc : List Int), k ≤ zb ∧ vi = .int .i64 k ∧ va = .slice A2 z c2 ∧ Hid (acc.length = z) ∧ z ≤ 100 + 4 * k ∧ Hid (Apart A2 Ab) ∧ Hid (Reads wr B 2 Ab zb (rcells ab)) ∧ wr.ownsRow base 3 1 (.slice A2 z c2) z (icells acc) ∧ B ≤ wr.heap.size ∧ Below base w1 wr

theorem has_set {s : List Rg} {p : Int → Prop} {g : Int → Bool} (h : IsSet s p) (hg : ∀ v, g v = true ↔ p v) (v : Int) : hasB s v = (isB v && g v) := by
  unfold hasB
  rw [(goodB_iff s).2 h.1, Bool.true_and]
  exact inB_set h hg v
theorem has_good {s : List Rg} (h : Gd (-1) s) (v : Int) : hasB s v = (isB v && inB s v) := by
  unfold hasB
  rw [(goodB_iff s).2 h, Bool.true_and]
theorem size_g {l : List Rg} {n : Nat} (hl : l.length = n) {A : Option Addr} {c : Nat} {w : World} (hR : Reads w w.heap.size 2 A n (rcells l)) (hn : n ≤ 1000000) (hg : Gd (-1) l) :
    Calls Try.prog 22 #[.slice A n c] w fun e w' => e = .returned (.int .i64 (sizeL l)) ∧ Below w.heap.size w w' := by
  have := size_n l n hl A c w hR hn
  rwa [(goodB_iff l).2 hg, if_pos rfl] at this

set_option maxRecDepth 100000 in
set_option maxHeartbeats 4000000 in
theorem walk_large (a b : List Rg) (l : List Int) (n m p : Nat) (ha : a.length = n) (hb : b.length = m) (hl : l.length = p) (A B Q : Option Addr) (c d f : Nat) (w : World) (hA : Shp A n c) (hB : Shp B m d) (hQ : Shp Q p f) (hRa : Reads w w.heap.size 2 A n (rcells a)) (hRb : Reads w w.heap.size 2 B m (rcells b)) (hRl : Reads w w.heap.size 1 Q p (icells l)) (h : 60 < n ∨ 60 < m) :
    Calls Try.prog 4 #[.slice A n c, .slice B m d, .slice Q p f] w fun e w' => e = .returned (.bool true) ∧ Below w.heap.size w w' := by
  have Ha_0 := Lib.hid hRa
  have Hb_0 := Lib.hid hRb
  have Hl_0 := Lib.hid hRl
  have La := Lib.hid ha
  have Lb := Lib.hid hb
  have Ll := Lib.hid hl
  have Sa := Lib.hid hA
  have Sb := Lib.hid hB
  have Sl := Lib.hid hQ
  clear hRa hRb hRl ha hb hl hA hB hQ
  have b0 : Below w.heap.size w w := Below.refl _ _
  go_enter Try.func4, Try.ntmps4
  go_wp2_with fail
  refine (large_yes A B n m c d _ h).mono ?_
  rintro e w1 ⟨rfl, rfl⟩
  go_wp2_with fail
  refine (wakes_any _).mono ?_
  rintro e w1 ⟨rfl, g1⟩
  have Ha_1 := Lib.hid (reads_on Ha_0.out g1)
  have Hb_1 := Lib.hid (reads_on Hb_0.out g1)
  have b1 := b0.trans (g1.mono b0.size)
  clear g1 Ha_0 Hb_0 b0
  go_wp2_with fail
  go_ret
  exact ⟨rfl, b1⟩

set_option maxRecDepth 100000 in
set_option maxHeartbeats 4000000 in
theorem walk_bad_a (a b : List Rg) (l : List Int) (n m p : Nat) (ha : a.length = n) (hb : b.length = m) (hl : l.length = p) (A B Q : Option Addr) (c d f : Nat) (w : World) (hA : Shp A n c) (hB : Shp B m d) (hQ : Shp Q p f) (hRa : Reads w w.heap.size 2 A n (rcells a)) (hRb : Reads w w.heap.size 2 B m (rcells b)) (hRl : Reads w w.heap.size 1 Q p (icells l)) (h1 : n ≤ 60) (h2 : m ≤ 60) (h : goodB a = false) :
    Calls Try.prog 4 #[.slice A n c, .slice B m d, .slice Q p f] w fun e w' => e = .returned (.bool true) ∧ Below w.heap.size w w' := by
  have Ha_0 := Lib.hid hRa
  have Hb_0 := Lib.hid hRb
  have Hl_0 := Lib.hid hRl
  have La := Lib.hid ha
  have Lb := Lib.hid hb
  have Ll := Lib.hid hl
  have Sa := Lib.hid hA
  have Sb := Lib.hid hB
  have Sl := Lib.hid hQ
  clear hRa hRb hRl ha hb hl hA hB hQ
  have b0 : Below w.heap.size w w := Below.refl _ _
  go_enter Try.func4, Try.ntmps4
  go_wp2_with fail
  refine (large_no A B n m c d _ h1 h2).mono ?_
  rintro e w1 ⟨rfl, rfl⟩
  go_wp2_with fail
  refine (refGood_no La.out Ha_0.out (by omega) h).mono ?_
  rintro e w1 ⟨rfl, g1⟩
  have Ha_1 := Lib.hid (reads_on Ha_0.out g1)
  have Hb_1 := Lib.hid (reads_on Hb_0.out g1)
  have b1 := b0.trans (g1.mono b0.size)
  clear g1 Ha_0 Hb_0 b0
  go_wp2_with fail
  refine (wakes_any _).mono ?_
  rintro e w2 ⟨rfl, g2⟩
  have Ha_2 := Lib.hid (reads_on Ha_1.out g2)
  have Hb_2 := Lib.hid (reads_on Hb_1.out g2)
  have b2 := b1.trans (g2.mono b1.size)
  clear g2 Ha_1 Hb_1 b1
  go_wp2_with fail
  go_ret
  exact ⟨rfl, b2⟩

set_option maxRecDepth 100000 in
set_option maxHeartbeats 4000000 in
theorem walk_bad_b (a b : List Rg) (l : List Int) (n m p : Nat) (ha : a.length = n) (hb : b.length = m) (hl : l.length = p) (A B Q : Option Addr) (c d f : Nat) (w : World) (hA : Shp A n c) (hB : Shp B m d) (hQ : Shp Q p f) (hRa : Reads w w.heap.size 2 A n (rcells a)) (hRb : Reads w w.heap.size 2 B m (rcells b)) (hRl : Reads w w.heap.size 1 Q p (icells l)) (h1 : n ≤ 60) (h2 : m ≤ 60) (ga : Gd (-1) a) (h : goodB b = false) :
    Calls Try.prog 4 #[.slice A n c, .slice B m d, .slice Q p f] w fun e w' => e = .returned (.bool true) ∧ Below w.heap.size w w' := by
  have Ha_0 := Lib.hid hRa
  have Hb_0 := Lib.hid hRb
  have Hl_0 := Lib.hid hRl
  have La := Lib.hid ha
  have Lb := Lib.hid hb
  have Ll := Lib.hid hl
  have Sa := Lib.hid hA
  have Sb := Lib.hid hB
  have Sl := Lib.hid hQ
  clear hRa hRb hRl ha hb hl hA hB hQ
  have b0 : Below w.heap.size w w := Below.refl _ _
  go_enter Try.func4, Try.ntmps4
  go_wp2_with fail
  refine (large_no A B n m c d _ h1 h2).mono ?_
  rintro e w1 ⟨rfl, rfl⟩
  go_wp2_with fail
  refine (refGood_yes La.out Ha_0.out (by omega) ga).mono ?_
  rintro e w1 ⟨rfl, g1⟩
  have Ha_1 := Lib.hid (reads_on Ha_0.out g1)
  have Hb_1 := Lib.hid (reads_on Hb_0.out g1)
  have b1 := b0.trans (g1.mono b0.size)
  clear g1 Ha_0 Hb_0 b0
  go_wp2_with fail
  refine (refGood_no Lb.out Hb_1.out (by omega) h).mono ?_
  rintro e w2 ⟨rfl, g2⟩
  have Ha_2 := Lib.hid (reads_on Ha_1.out g2)
  have Hb_2 := Lib.hid (reads_on Hb_1.out g2)
  have b2 := b1.trans (g2.mono b1.size)
  clear g2 Ha_1 Hb_1 b1
  go_wp2_with fail
  refine (wakes_any _).mono ?_
  rintro e w3 ⟨rfl, g3⟩
  have Ha_3 := Lib.hid (reads_on Ha_2.out g3)
  have Hb_3 := Lib.hid (reads_on Hb_2.out g3)
  have b3 := b2.trans (g3.mono b2.size)
  clear g3 Ha_2 Hb_2 b2
  go_wp2_with fail
  go_ret
  exact ⟨rfl, b3⟩

set_option maxRecDepth 100000 in
set_option maxHeartbeats 4000000 in
theorem walk_long (a b : List Rg) (l : List Int) (n m p : Nat) (ha : a.length = n) (hb : b.length = m) (hl : l.length = p) (A B Q : Option Addr) (c d f : Nat) (w : World) (hA : Shp A n c) (hB : Shp B m d) (hQ : Shp Q p f) (hRa : Reads w w.heap.size 2 A n (rcells a)) (hRb : Reads w w.heap.size 2 B m (rcells b)) (hRl : Reads w w.heap.size 1 Q p (icells l)) (h1 : n ≤ 60) (h2 : m ≤ 60) (ga : Gd (-1) a) (gb : Gd (-1) b) (h : 100 < p) :
    Calls Try.prog 4 #[.slice A n c, .slice B m d, .slice Q p f] w fun e w' => e = .returned (.bool true) ∧ Below w.heap.size w w' := by
  have Ha_0 := Lib.hid hRa
  have Hb_0 := Lib.hid hRb
  have Hl_0 := Lib.hid hRl
  have La := Lib.hid ha
  have Lb := Lib.hid hb
  have Ll := Lib.hid hl
  have Sa := Lib.hid hA
  have Sb := Lib.hid hB
  have Sl := Lib.hid hQ
  clear hRa hRb hRl ha hb hl hA hB hQ
  have b0 : Below w.heap.size w w := Below.refl _ _
  go_enter Try.func4, Try.ntmps4
  go_wp2_with fail
  refine (large_no A B n m c d _ h1 h2).mono ?_
  rintro e w1 ⟨rfl, rfl⟩
  go_wp2_with fail
  refine (refGood_yes La.out Ha_0.out (by omega) ga).mono ?_
  rintro e w1 ⟨rfl, g1⟩
  have Ha_1 := Lib.hid (reads_on Ha_0.out g1)
  have Hb_1 := Lib.hid (reads_on Hb_0.out g1)
  have b1 := b0.trans (g1.mono b0.size)
  clear g1 Ha_0 Hb_0 b0
  go_wp2_with fail
  refine (refGood_yes Lb.out Hb_1.out (by omega) gb).mono ?_
  rintro e w2 ⟨rfl, g2⟩
  have Ha_2 := Lib.hid (reads_on Ha_1.out g2)
  have Hb_2 := Lib.hid (reads_on Hb_1.out g2)
  have b2 := b1.trans (g2.mono b1.size)
  clear g2 Ha_1 Hb_1 b1
  go_wp2_with fail
  refine (wakes_any _).mono ?_
  rintro e w3 ⟨rfl, g3⟩
  have Ha_3 := Lib.hid (reads_on Ha_2.out g3)
  have Hb_3 := Lib.hid (reads_on Hb_2.out g3)
  have b3 := b2.trans (g3.mono b2.size)
  clear g3 Ha_2 Hb_2 b2
  go_wp2_with fail
  go_ret
  exact ⟨rfl, b3⟩

set_option maxRecDepth 100000 in
set_option maxHeartbeats 4000000 in
theorem walk_good (a b : List Rg) (l : List Int) (n m p : Nat) (ha : a.length = n) (hb : b.length = m) (hl : l.length = p) (A B Q : Option Addr) (c d f : Nat) (w : World) (hA : Shp A n c) (hB : Shp B m d) (hQ : Shp Q p f) (hRa : Reads w w.heap.size 2 A n (rcells a)) (hRb : Reads w w.heap.size 2 B m (rcells b)) (hRl : Reads w w.heap.size 1 Q p (icells l)) (h1 : n ≤ 60) (h2 : m ≤ 60) (h3 : p ≤ 100) (ga : Gd (-1) a) (gb : Gd (-1) b) :
    Calls Try.prog 4 #[.slice A n c, .slice B m d, .slice Q p f] w fun e w' => e = .returned (.bool true) ∧ Below w.heap.size w w' := by
  have Ha_0 := Lib.hid hRa
  have Hb_0 := Lib.hid hRb
  have Hl_0 := Lib.hid hRl
  have La := Lib.hid ha
  have Lb := Lib.hid hb
  have Ll := Lib.hid hl
  have Sa := Lib.hid hA
  have Sb := Lib.hid hB
  have Sl := Lib.hid hQ
  clear hRa hRb hRl ha hb hl hA hB hQ
  have Ga := Lib.hid ga
  have Gb := Lib.hid gb
  obtain ⟨i0, hi0, hz0, hz1, hz2⟩ := info_parts info41
  obtain ⟨j0, hj0, hy0, hy1, hy2⟩ := info_parts info3
  clear ga gb
  have b0 : Below w.heap.size w w := Below.refl _ _
  go_enter Try.func4, Try.ntmps4
  go_wp2_with fail
  refine (large_no A B n m c d _ h1 h2).mono ?_
  rintro e w1 ⟨rfl, rfl⟩
  go_wp2_with fail
  refine (refGood_yes La.out Ha_0.out (by omega) Ga.out).mono ?_
  rintro e w1 ⟨rfl, g1⟩
  have Ha_1 := Lib.hid (reads_on Ha_0.out g1)
  have Hb_1 := Lib.hid (reads_on Hb_0.out g1)
  have Hl_1 := Lib.hid (reads_on Hl_0.out g1)
  have b1 := b0.trans (g1.mono b0.size)
  clear g1 Ha_0 Hb_0 Hl_0 b0
  go_wp2_with fail
  refine (refGood_yes Lb.out Hb_1.out (by omega) Gb.out).mono ?_
  rintro e w2 ⟨rfl, g2⟩
  have Ha_2 := Lib.hid (reads_on Ha_1.out g2)
  have Hb_2 := Lib.hid (reads_on Hb_1.out g2)
  have Hl_2 := Lib.hid (reads_on Hl_1.out g2)
  have b2 := b1.trans (g2.mono b1.size)
  clear g2 Ha_1 Hb_1 Hl_1 b1
  go_wp2_with fail
  refine (union_N La.out Lb.out Sa.out Sb.out Ha_2.out Hb_2.out (by omega) (by omega) Ga.out Gb.out).mono ?_
  rintro e w3 ⟨sD, nD, AD, cD, rfl, l3, mD, p3, i3, r3, g3⟩
  have Ha_3 := Lib.hid (reads_on Ha_2.out g3)
  have Hb_3 := Lib.hid (reads_on Hb_2.out g3)
  have Hl_3 := Lib.hid (reads_on Hl_2.out g3)
  have b3 := b2.trans (g3.mono b2.size)
  have HD_3 := Lib.hid r3
  have SD := Lib.hid p3
  have LD := Lib.hid l3
  have ID := Lib.hid i3
  clear g3 Ha_2 Hb_2 Hl_2 b2 r3 l3 i3 p3
  go_wp2_with fail
  refine (both_N La.out Lb.out Sa.out Sb.out Ha_3.out Hb_3.out (by omega) (by omega) Ga.out Gb.out).mono ?_
  rintro e w4 ⟨sE, nE, AE, cE, rfl, l4, mE, p4, i4, r4, g4⟩
  have Ha_4 := Lib.hid (reads_on Ha_3.out g4)
  have Hb_4 := Lib.hid (reads_on Hb_3.out g4)
  have Hl_4 := Lib.hid (reads_on Hl_3.out g4)
  have HD_4 := Lib.hid (reads_on HD_3.out g4)
  have b4 := b3.trans (g4.mono b3.size)
  have HE_4 := Lib.hid r4
  have SE := Lib.hid p4
  have LE := Lib.hid l4
  have IE := Lib.hid i4
  clear g4 Ha_3 Hb_3 Hl_3 HD_3 b3 r4 l4 i4 p4
  go_wp2_with fail
  refine (not_N La.out Ha_4.out (by omega) Ga.out).mono ?_
  rintro e w5 ⟨sF, nF, AF, cF, rfl, l5, mF, p5, i5, r5, g5⟩
  have Ha_5 := Lib.hid (reads_on Ha_4.out g5)
  have Hb_5 := Lib.hid (reads_on Hb_4.out g5)
  have Hl_5 := Lib.hid (reads_on Hl_4.out g5)
  have HD_5 := Lib.hid (reads_on HD_4.out g5)
  have HE_5 := Lib.hid (reads_on HE_4.out g5)
  have b5 := b4.trans (g5.mono b4.size)
  have HF_5 := Lib.hid r5
  have SF := Lib.hid p5
  have LF := Lib.hid l5
  have IF := Lib.hid i5
  clear g5 Ha_4 Hb_4 Hl_4 HD_4 HE_4 b4 r5 l5 i5 p5
  go_wp2_with fail
  refine (not_N LF.out HF_5.out (by omega) IF.out.1).mono ?_
  rintro e w6 ⟨sG, nG, AG, cG, rfl, l6, mG, p6, i6, r6, g6⟩
  have Ha_6 := Lib.hid (reads_on Ha_5.out g6)
  have Hb_6 := Lib.hid (reads_on Hb_5.out g6)
  have Hl_6 := Lib.hid (reads_on Hl_5.out g6)
  have HD_6 := Lib.hid (reads_on HD_5.out g6)
  have HE_6 := Lib.hid (reads_on HE_5.out g6)
  have HF_6 := Lib.hid (reads_on HF_5.out g6)
  have b6 := b5.trans (g6.mono b5.size)
  have HG_6 := Lib.hid r6
  have SG := Lib.hid p6
  have LG := Lib.hid l6
  have IG := Lib.hid i6
  clear g6 Ha_5 Hb_5 Hl_5 HD_5 HE_5 HF_5 b5 r6 l6 i6 p6
  go_wp2_with fail
  refine (good_yes LD.out HD_6.out (by omega) ID.out.1).mono ?_
  rintro e w7 ⟨rfl, g7⟩
  have Ha_7 := Lib.hid (reads_on Ha_6.out g7)
  have Hb_7 := Lib.hid (reads_on Hb_6.out g7)
  have Hl_7 := Lib.hid (reads_on Hl_6.out g7)
  have HD_7 := Lib.hid (reads_on HD_6.out g7)
  have HE_7 := Lib.hid (reads_on HE_6.out g7)
  have HF_7 := Lib.hid (reads_on HF_6.out g7)
  have HG_7 := Lib.hid (reads_on HG_6.out g7)
  have b7 := b6.trans (g7.mono b6.size)
  clear g7 Ha_6 Hb_6 Hl_6 HD_6 HE_6 HF_6 HG_6 b6
  go_wp2_with fail
  refine (good_yes LE.out HE_7.out (by omega) IE.out.1).mono ?_
  rintro e w8 ⟨rfl, g8⟩
  have Ha_8 := Lib.hid (reads_on Ha_7.out g8)
  have Hb_8 := Lib.hid (reads_on Hb_7.out g8)
  have Hl_8 := Lib.hid (reads_on Hl_7.out g8)
  have HD_8 := Lib.hid (reads_on HD_7.out g8)
  have HE_8 := Lib.hid (reads_on HE_7.out g8)
  have HF_8 := Lib.hid (reads_on HF_7.out g8)
  have HG_8 := Lib.hid (reads_on HG_7.out g8)
  have b8 := b7.trans (g8.mono b7.size)
  clear g8 Ha_7 Hb_7 Hl_7 HD_7 HE_7 HF_7 HG_7 b7
  go_wp2_with fail
  refine (good_yes LF.out HF_8.out (by omega) IF.out.1).mono ?_
  rintro e w9 ⟨rfl, g9⟩
  have Ha_9 := Lib.hid (reads_on Ha_8.out g9)
  have Hb_9 := Lib.hid (reads_on Hb_8.out g9)
  have Hl_9 := Lib.hid (reads_on Hl_8.out g9)
  have HD_9 := Lib.hid (reads_on HD_8.out g9)
  have HE_9 := Lib.hid (reads_on HE_8.out g9)
  have HF_9 := Lib.hid (reads_on HF_8.out g9)
  have HG_9 := Lib.hid (reads_on HG_8.out g9)
  have b9 := b8.trans (g9.mono b8.size)
  clear g9 Ha_8 Hb_8 Hl_8 HD_8 HE_8 HF_8 HG_8 b8
  go_wp2_with fail
  refine (same_yes LG.out La.out HG_9.out Ha_9.out (by omega) (IG.out.uniq (IsSet.self Ga.out) (fun v hv => by rw [IF.out.2 v hv]; exact Classical.not_not))).mono ?_
  rintro e w10 ⟨rfl, g10⟩
  have Ha_10 := Lib.hid (reads_on Ha_9.out g10)
  have Hb_10 := Lib.hid (reads_on Hb_9.out g10)
  have Hl_10 := Lib.hid (reads_on Hl_9.out g10)
  have HD_10 := Lib.hid (reads_on HD_9.out g10)
  have HE_10 := Lib.hid (reads_on HE_9.out g10)
  have HF_10 := Lib.hid (reads_on HF_9.out g10)
  have HG_10 := Lib.hid (reads_on HG_9.out g10)
  have b10 := b9.trans (g10.mono b9.size)
  clear g10 Ha_9 Hb_9 Hl_9 HD_9 HE_9 HF_9 HG_9 b9
  go_wp2_with (at_builtin; refine wpList_append_src rfl _ _ 39 rfl w10.heap.size 3 j0 _ 1 8 Try.underlying39 hj0 hy0 hy1 hy2 rfl (by decide) _ _ _ rfl (World.ownsRow_made (size := 1) w10 #[] 0 (Nat.le_refl _) (Nat.zero_le _) (by simp)) Q p f w10.heap.size (icells l) rfl Sl.out.1 (Hl_10.out.alloc (Nat.le_refl _) _) (icells_one l) ?k3 ?k4 ?k5 ?_)
  case k3 => first | omega | (unfold maxLen; omega)
  case k4 => omega
  case k5 => simp
  first | (intro A1 c1 w20 hown20 hn20 hgrow20) | (rename_i A1 c1 w20 hown20 hn20 hgrow20)
  have g20 : Below w10.heap.size w10 w20 := below_grown (below_new _ _) (by simp) (World.ownsRow_made (size := 1) w10 #[] 0 (Nat.le_refl _) (Nat.zero_le _) (by simp)) hgrow20
  try simp only [Nat.zero_add, List.nil_append] at hown20 ⊢
  have hlt20 := hown20.lt
  have Ha_20 := Lib.hid (reads_on Ha_10.out g20)
  clear hgrow20
  go_wp2_with (at_builtin; refine wpList_append_src rfl _ _ 23 rfl w20.heap.size 41 i0 _ 2 16 Try.underlying23 hi0 hz0 hz1 hz2 rfl (by decide) _ _ _ rfl (World.ownsRow_made (size := 2) w20 #[] 0 (Nat.le_refl _) (Nat.zero_le _) (by simp)) A n c w20.heap.size (rcells a) rfl Sa.out.1 (Ha_20.out.alloc (Nat.le_refl _) _) (rcells_one a) ?k3 ?k4 ?k5 ?_)
  case k3 => first | omega | (unfold maxLen; omega)
  case k4 => omega
  case k5 => simp
  first | (intro A2 c2 w21 hown21 hn21 hgrow21) | (rename_i A2 c2 w21 hown21 hn21 hgrow21)
  have g21 : Below w20.heap.size w20 w21 := below_grown (below_new _ _) (by simp) (World.ownsRow_made (size := 2) w20 #[] 0 (Nat.le_refl _) (Nat.zero_le _) (by simp)) hgrow21
  try simp only [Nat.zero_add, List.nil_append] at hown21 ⊢
  have hat21 := own_below hown20 g21
  have Hb_21 := Lib.hid (reads_on (reads_on Hb_10.out g20) g21)
  have hs21 := g21.size
  clear hgrow21 hown20 Ha_20
  go_wp2_with (at_builtin; refine wpList_append_src rfl _ _ 23 rfl w20.heap.size 41 i0 _ 2 16 Try.underlying23 hi0 hz0 hz1 hz2 rfl (by decide) _ _ _ rfl hown21 B m d w21.heap.size (rcells b) rfl Sb.out.1 Hb_21.out (rcells_one b) ?k3 ?k4 ?k5 ?_)
  case k3 => first | omega | (unfold maxLen; omega)
  case k4 => omega
  case k5 => exact hs21
  first | (intro Ab cb w22 hown22 hn22 hgrow22) | (rename_i Ab cb w22 hown22 hn22 hgrow22)
  rw [← rcells_app] at hown22
  have gz22 : Below w20.heap.size w20 w22 := below_grown g21 hs21 hown21 hgrow22
  have hat22 : w22.ownsRow w10.heap.size 3 1 (.slice A1 p c1) p (icells l) := hat21.kept (row := (Value.slice A2 n c2).ownBlock) hgrow22 (by
    cases h' : (Value.slice A1 p c1).ownBlock with
    | none => exact .inl rfl
    | some g =>
      refine .inr ?_
      intro he
      have h1' := (hlt20 _ h').2
      have h2' := (hown21.lt _ he.symm).1
      omega)
  have HApart : Hid (Apart A1 Ab) := Lib.hid (fun p' q' hp hq => by
    subst hp hq
    have h1' := (hlt20 _ rfl).2
    have h2' := (hown22.lt _ rfl).1
    omega)
  have gc22 : Below w10.heap.size w10 w22 := g20.trans (gz22.mono g20.size)
  have Hab := Lib.hid (Reads.of_own hown22)
  have Ha_22 := Lib.hid (Ha_10.out.below gc22)
  have Hb_22 := Lib.hid (Hb_10.out.below gc22)
  have HD_22 := Lib.hid (HD_10.out.below gc22)
  have HE_22 := Lib.hid (HE_10.out.below gc22)
  have HF_22 := Lib.hid (HF_10.out.below gc22)
  have hsc : w10.heap.size ≤ w22.heap.size := gc22.size
  have bc22 := b10.trans (gc22.mono b10.size)
  have Lab : Hid ((a ++ b).length = n + m) := Lib.hid (by rw [List.length_append, La.out, Lb.out])
  have HOk : Hid (∀ r ∈ a ++ b, Ok r) := Lib.hid (fun r hr => by
    rcases List.mem_append.1 hr with hr | hr
    · exact (Ga.out.lo r hr).2
    · exact (Gb.out.lo r hr).2)
  have hcw : w.heap.size ≤ w10.heap.size := b10.size
  clear hown22 hgrow22 hat21 hown21 g21 g20 gz22 hlt20 Hb_21 gc22 Ha_10 Hb_10 Hl_10 HD_10 HE_10 HF_10 b10
  generalize hzb : n + m = zb at *
  have hzle : zb ≤ 120 := by omega
  have HZ := Lib.hid hzb
  clear hzb
  go_wp2_with fail
  go_loopw [15, 17] (fun va vi wr => Rel (a ++ b) zb Ab w10.heap.size w22.heap.size w22 va vi wr) (fun _ vi _ => zb - (intOf vi).toNat)
  case atStart => exact ⟨0, p, A1, c1, l, Nat.zero_le _, rfl, rfl, Ll, by omega, HApart, Hab, hat22, Nat.le_refl _, Below.refl _ _⟩
  case round =>
    clear hat22 HApart Hab
    obtain ⟨k, z, A3, c3, acc, hk, rfl, rfl, HAcc, hz, HAp, HRab, hown, hBw, hb⟩ := hrel
    have hsz := hb.size
    by_cases hlt : k < zb
    · have kl : k < (a ++ b).length := by rw [Lab.out]; exact hlt
      obtain ⟨bk, o, rfl, hbb, p0, p1⟩ := HRab.out.rg kl
      have hok := HOk.out _ (List.getElem_mem kl)
      generalize (a ++ b)[k] = r at *
      obtain ⟨x0, x1⟩ := r
      simp only [] at p0 p1
      have o1 : Sc x0 := hok.1
      have o2 : Sc x1 := hok.2.1
      unfold Sc at o1 o2
      have q1 : 0 ≤ x0 := by omega
      have q2 : x0 ≤ 1114111 := by omega
      have q3 : 0 ≤ x1 := by omega
      have q4 : x1 ≤ 1114111 := by omega
      clear o1 o2 hok
      have f1 : IntKind.i64.wrap (x0 - 1) = x0 - 1 := IntWalk.i64_in _ (by omega)
      have f2 : IntKind.i64.wrap (x1 + 1) = x1 + 1 := IntWalk.i64_in _ (by omega)
      go_wp2_with fail
      go_region_law (refine step_append_lies _ rfl (.tmp 112) (.tmp 135) 39 rfl w10.heap.size 3 j0 _ 1 8 Try.underlying39 hj0 hy0 hy1 hy2 rfl (by decide) (.slice A3 z c3) z (icells acc) (by simp [Act.eval, Act.put]) (by exact (hown.alloc _)) ⟨wr.heap.size, 0, none⟩ 4 4 (icells [x0, x1, x0 - 1, x1 + 1]) (by simp [Act.eval, Act.put]) rfl (by exact ilit_cells wr [x0, x1, x0 - 1, x1 + 1] #[.int .i64 x0, .int .i64 x1, .int .i64 (x0 - 1), .int .i64 (x1 + 1)] rfl) (icells_one _) (by omega) (by unfold maxLen; omega) (by omega) (by simp; omega) _ rfl ?_; intro g cap wq hown3 hgrow hat hlt3)
      all_goals
        have hgrow' : (wr.alloc (.cells #[.int .i64 x0, .int .i64 x1, .int .i64 (x0 - 1), .int .i64 (x1 + 1)] 3)).grownBy wq (Value.slice A3 z c3).ownBlock := ⟨hgrow.os, hgrow.tape, hgrow.output, hgrow.size, hgrow.block⟩
        have b3 : Below w10.heap.size w22 wq := below_grown (w := wr.alloc _) (hb.alloc (by omega) _) (by simp; omega) (hown.alloc _) hgrow'
        have HRab3 := Lib.hid (reads_grown (HRab.out.alloc hBw _) hgrow' HAp.out (by simp; omega))
        have HAp3 : Hid (Apart (some ⟨g, 0, none⟩) (some ⟨bk, o, none⟩)) := Lib.hid (fun p' q' hp hq => by
          injection hp with hp
          injection hq with hq
          subst hp hq
          show g ≠ bk
          intro he
          rcases hat with h | h
          · cases A3 with
            | none => simp [Value.ownBlock] at h
            | some a3 =>
              simp [Value.ownBlock] at h
              exact HAp.out a3 _ rfl rfl (h.trans he)
          · simp at h
            omega)
        have HO3 : Hid (wq.ownsRow w10.heap.size 3 1 (.slice (some ⟨g, 0, none⟩) (z + 4) cap) (z + 4) (icells (acc ++ [x0, x1, x0 - 1, x1 + 1]))) := Lib.hid (by rw [icells_app]; exact hown3)
        have hBq : w22.heap.size ≤ wq.heap.size := by have := hgrow'.size; simp at this; omega
        clear hown3 hgrow hgrow' hown hat
        go_wp2_with fail
        go_roundw
        case rel => exact ⟨k + 1, z + 4, some ⟨g, 0, none⟩, cap, acc ++ [x0, x1, x0 - 1, x1 + 1], by omega, by go_num, rfl, Lib.hid (by simp [HAcc.out]), by omega, HAp3, HRab3, HO3.out, hBq, b3⟩
        case measure => simp [intOf]; omega
    · obtain ⟨w30, rfl⟩ : ∃ x, x = wr := ⟨_, rfl⟩
      have Ha_30 : Hid (Reads w30 w30.heap.size 2 A n (rcells a)) := Lib.hid ((Ha_22.out.below hb).more (by omega))
      have Hb_30 : Hid (Reads w30 w30.heap.size 2 B m (rcells b)) := Lib.hid ((Hb_22.out.below hb).more (by omega))
      have HD_30 : Hid (Reads w30 w30.heap.size 2 AD nD (rcells sD)) := Lib.hid ((HD_22.out.below hb).more (by omega))
      have HE_30 : Hid (Reads w30 w30.heap.size 2 AE nE (rcells sE)) := Lib.hid ((HE_22.out.below hb).more (by omega))
      have HF_30 : Hid (Reads w30 w30.heap.size 2 AF nF (rcells sF)) := Lib.hid ((HF_22.out.below hb).more (by omega))
      have Hat := Lib.hid (Reads.of_own hown)
      have b30 : Below w.heap.size w w30 := bc22.trans (hb.mono hcw)
      have hz480 : z ≤ 580 := by omega
      clear hown hb HAp HRab Ha_22 Hb_22 HD_22 HE_22 HF_22 bc22
      have HFd : Hid (∀ v, hasB sD v = (hasB a v || hasB b v)) := Lib.hid (fun v => by rw [has_set (g := fun v => inB a v || inB b v) ID.out (fun v => by rw [In_app, Bool.or_eq_true, inB_iff, inB_iff]) v, has_good Ga.out, has_good Gb.out, Bool.and_or_distrib_left])
      have HFe : Hid (∀ v, hasB sE v = (hasB a v && hasB b v)) := Lib.hid (fun v => by rw [has_set (g := fun v => inB a v && inB b v) IE.out (fun v => by rw [Bool.and_eq_true, inB_iff, inB_iff]) v, has_good Ga.out, has_good Gb.out]; cases isB v <;> simp)
      have HFf : Hid (∀ v, hasB sF v = (isB v && !hasB a v)) := Lib.hid (fun v => by rw [has_set (g := fun v => !inB a v) IF.out (fun v => by rw [Bool.not_eq_true', ← Bool.not_eq_true, inB_iff]) v, has_good Ga.out]; cases isB v <;> simp)
      go_wp2_with fail
      go_loopw [18] (fun vi wr => ∃ j : Nat, j ≤ z ∧ vi = .int .i64 j ∧ Below w30.heap.size w30 wr) (fun vi _ => z - (intOf vi).toNat)
      case atStart => exact ⟨0, Nat.zero_le _, rfl, Below.refl _ _⟩
      case round =>
        obtain ⟨j, hj, rfl, hb⟩ := hrel
        have hsz := hb.size
        by_cases hlt : j < z
        · have jl : j < acc.length := by rw [HAcc.out]; exact hlt
          obtain ⟨bt, ot, rfl, hbt, pt⟩ := (Hat.out.below hb).int jl
          have Ha_40 := Lib.hid (reads_on Ha_30.out hb)
          have Hb_40 := Lib.hid (reads_on Hb_30.out hb)
          have HD_40 := Lib.hid (reads_on HD_30.out hb)
          have HE_40 := Lib.hid (reads_on HE_30.out hb)
          have HF_40 := Lib.hid (reads_on HF_30.out hb)
          generalize acc[j] = v at *
          have Ka := fun W h => has_n a n La.out A c v W h (by omega)
          have Kb := fun W h => has_n b m Lb.out B d v W h (by omega)
          have KD := fun W h => has_n sD nD LD.out AD cD v W h (by omega)
          have KE := fun W h => has_n sE nE LE.out AE cE v W h (by omega)
          have KF := fun W h => has_n sF nF LF.out AF cF v W h (by omega)
          rw [HFd.out v] at KD
          rw [HFe.out v] at KE
          rw [HFf.out v] at KF
          have hxi : isB v = false → hasB a v = false ∧ hasB b v = false := fun h => by unfold hasB; rw [h]; exact ⟨rfl, rfl⟩
          generalize hasB a v = xa at *
          generalize hasB b v = xb at *
          have KI := fun W => refIs_any v W
          generalize isB v = iv at *
          have HKa := Lib.hid Ka
          have HKb := Lib.hid Kb
          have HKD := Lib.hid KD
          have HKE := Lib.hid KE
          have HKF := Lib.hid KF
          clear Ka Kb KD KE KF
          have hcases : (xa = false ∧ xb = false ∧ iv = false) ∨ (xa = false ∧ xb = false ∧ iv = true) ∨ (xa = false ∧ xb = true ∧ iv = true) ∨ (xa = true ∧ xb = false ∧ iv = true) ∨ (xa = true ∧ xb = true ∧ iv = true) := by
            cases iv
            · obtain ⟨rfl, rfl⟩ := hxi rfl; exact .inl ⟨rfl, rfl, rfl⟩
            · cases xa <;> cases xb <;> simp
          clear hxi
          rcases hcases with ⟨rfl, rfl, rfl⟩ | ⟨rfl, rfl, rfl⟩ | ⟨rfl, rfl, rfl⟩ | ⟨rfl, rfl, rfl⟩ | ⟨rfl, rfl, rfl⟩
          all_goals
            go_wp2_with fail
            refine (HKa.out _ Ha_40.out).mono ?_
            rintro e w41 ⟨rfl, g41⟩
            have Ha_41 := Lib.hid (reads_on Ha_40.out g41)
            have Hb_41 := Lib.hid (reads_on Hb_40.out g41)
            have HD_41 := Lib.hid (reads_on HD_40.out g41)
            have HE_41 := Lib.hid (reads_on HE_40.out g41)
            have HF_41 := Lib.hid (reads_on HF_40.out g41)
            have b41 := hb.trans (g41.mono hb.size)
            clear g41 Ha_40 Hb_40 HD_40 HE_40 HF_40 hb
            go_wp2_with fail
            refine (HKb.out _ Hb_41.out).mono ?_
            rintro e w42 ⟨rfl, g42⟩
            have Ha_42 := Lib.hid (reads_on Ha_41.out g42)
            have Hb_42 := Lib.hid (reads_on Hb_41.out g42)
            have HD_42 := Lib.hid (reads_on HD_41.out g42)
            have HE_42 := Lib.hid (reads_on HE_41.out g42)
            have HF_42 := Lib.hid (reads_on HF_41.out g42)
            have b42 := b41.trans (g42.mono b41.size)
            clear g42 Ha_41 Hb_41 HD_41 HE_41 HF_41 b41
            go_wp2_with fail
            refine (HKD.out _ HD_42.out).mono ?_
            rintro e w43 ⟨rfl, g43⟩
            have Ha_43 := Lib.hid (reads_on Ha_42.out g43)
            have Hb_43 := Lib.hid (reads_on Hb_42.out g43)
            have HD_43 := Lib.hid (reads_on HD_42.out g43)
            have HE_43 := Lib.hid (reads_on HE_42.out g43)
            have HF_43 := Lib.hid (reads_on HF_42.out g43)
            have b43 := b42.trans (g43.mono b42.size)
            clear g43 Ha_42 Hb_42 HD_42 HE_42 HF_42 b42
            go_wp2_with fail
            refine (HKE.out _ HE_43.out).mono ?_
            rintro e w44 ⟨rfl, g44⟩
            have Ha_44 := Lib.hid (reads_on Ha_43.out g44)
            have Hb_44 := Lib.hid (reads_on Hb_43.out g44)
            have HD_44 := Lib.hid (reads_on HD_43.out g44)
            have HE_44 := Lib.hid (reads_on HE_43.out g44)
            have HF_44 := Lib.hid (reads_on HF_43.out g44)
            have b44 := b43.trans (g44.mono b43.size)
            clear g44 Ha_43 Hb_43 HD_43 HE_43 HF_43 b43
            go_wp2_with fail
            refine (HKF.out _ HF_44.out).mono ?_
            rintro e w45 ⟨rfl, g45⟩
            have Ha_45 := Lib.hid (reads_on Ha_44.out g45)
            have Hb_45 := Lib.hid (reads_on Hb_44.out g45)
            have HD_45 := Lib.hid (reads_on HD_44.out g45)
            have HE_45 := Lib.hid (reads_on HE_44.out g45)
            have HF_45 := Lib.hid (reads_on HF_44.out g45)
            have b45 := b44.trans (g45.mono b44.size)
            clear g45 Ha_44 Hb_44 HD_44 HE_44 HF_44 b44
            go_wp2_with fail
            refine (KI _).mono ?_
            rintro e wi ⟨rfl, rfl⟩
            go_wp2_with fail
            go_roundw
            case rel => exact ⟨j + 1, by omega, by go_num, b45⟩
            case measure => simp [intOf]; omega
        · have Ha_60 := Lib.hid (reads_on Ha_30.out hb)
          have Hb_60 := Lib.hid (reads_on Hb_30.out hb)
          have HD_60 := Lib.hid (reads_on HD_30.out hb)
          have HE_60 := Lib.hid (reads_on HE_30.out hb)
          have HF_60 := Lib.hid (reads_on HF_30.out hb)
          have b60 := b30.trans (hb.mono b30.size)
          have hsum := size_both Ga.out Gb.out ID.out IE.out
          have hnot := size_not Ga.out IF.out
          have Ka := fun W h => size_g (c := c) (A := A) (w := W) La.out h (by omega) Ga.out
          have qa := sizeL_bd a
          rw [La.out] at qa
          generalize sizeL a = ta at *
          have Kb := fun W h => size_g (c := d) (A := B) (w := W) Lb.out h (by omega) Gb.out
          have qb := sizeL_bd b
          rw [Lb.out] at qb
          generalize sizeL b = tb at *
          have KD := fun W h => size_g (c := cD) (A := AD) (w := W) LD.out h (by omega) ID.out.1
          have qD := sizeL_bd sD
          rw [LD.out] at qD
          generalize sizeL sD = tD at *
          have KE := fun W h => size_g (c := cE) (A := AE) (w := W) LE.out h (by omega) IE.out.1
          have qE := sizeL_bd sE
          rw [LE.out] at qE
          generalize sizeL sE = tE at *
          have KF := fun W h => size_g (c := cF) (A := AF) (w := W) LF.out h (by omega) IF.out.1
          have qF := sizeL_bd sF
          rw [LF.out] at qF
          generalize sizeL sF = tF at *
          have HKa := Lib.hid Ka
          have HKb := Lib.hid Kb
          have HKD := Lib.hid KD
          have HKE := Lib.hid KE
          have HKF := Lib.hid KF
          clear Ka Kb KD KE KF hb
          obtain ⟨qa1, qa2⟩ := qa
          obtain ⟨qb1, qb2⟩ := qb
          obtain ⟨qD1, qD2⟩ := qD
          obtain ⟨qE1, qE2⟩ := qE
          obtain ⟨qF1, qF2⟩ := qF
          have e1 : (tD + tE == ta + tb) = true := by rw [beq_iff_eq]; exact hsum
          have e2 : (tF + ta == 1112064) = true := by rw [beq_iff_eq]; exact hnot
          have Hs := Lib.hid hsum
          have Hn := Lib.hid hnot
          clear hsum hnot
          go_wp2_with fail
          refine (HKD.out _ HD_60.out).mono ?_
          rintro e w61 ⟨rfl, g61⟩
          have Ha_61 := Lib.hid (reads_on Ha_60.out g61)
          have Hb_61 := Lib.hid (reads_on Hb_60.out g61)
          have HD_61 := Lib.hid (reads_on HD_60.out g61)
          have HE_61 := Lib.hid (reads_on HE_60.out g61)
          have HF_61 := Lib.hid (reads_on HF_60.out g61)
          have b61 := b60.trans (g61.mono b60.size)
          clear g61 Ha_60 Hb_60 HD_60 HE_60 HF_60 b60
          go_wp2_with fail
          refine (HKE.out _ HE_61.out).mono ?_
          rintro e w62 ⟨rfl, g62⟩
          have Ha_62 := Lib.hid (reads_on Ha_61.out g62)
          have Hb_62 := Lib.hid (reads_on Hb_61.out g62)
          have HD_62 := Lib.hid (reads_on HD_61.out g62)
          have HE_62 := Lib.hid (reads_on HE_61.out g62)
          have HF_62 := Lib.hid (reads_on HF_61.out g62)
          have b62 := b61.trans (g62.mono b61.size)
          clear g62 Ha_61 Hb_61 HD_61 HE_61 HF_61 b61
          go_wp2_with fail
          refine (HKa.out _ Ha_62.out).mono ?_
          rintro e w63 ⟨rfl, g63⟩
          have Ha_63 := Lib.hid (reads_on Ha_62.out g63)
          have Hb_63 := Lib.hid (reads_on Hb_62.out g63)
          have HD_63 := Lib.hid (reads_on HD_62.out g63)
          have HE_63 := Lib.hid (reads_on HE_62.out g63)
          have HF_63 := Lib.hid (reads_on HF_62.out g63)
          have b63 := b62.trans (g63.mono b62.size)
          clear g63 Ha_62 Hb_62 HD_62 HE_62 HF_62 b62
          go_wp2_with fail
          refine (HKb.out _ Hb_63.out).mono ?_
          rintro e w64 ⟨rfl, g64⟩
          have Ha_64 := Lib.hid (reads_on Ha_63.out g64)
          have Hb_64 := Lib.hid (reads_on Hb_63.out g64)
          have HD_64 := Lib.hid (reads_on HD_63.out g64)
          have HE_64 := Lib.hid (reads_on HE_63.out g64)
          have HF_64 := Lib.hid (reads_on HF_63.out g64)
          have b64 := b63.trans (g64.mono b63.size)
          clear g64 Ha_63 Hb_63 HD_63 HE_63 HF_63 b63
          go_wp2_with fail
          refine (HKF.out _ HF_64.out).mono ?_
          rintro e w65 ⟨rfl, g65⟩
          have Ha_65 := Lib.hid (reads_on Ha_64.out g65)
          have Hb_65 := Lib.hid (reads_on Hb_64.out g65)
          have HD_65 := Lib.hid (reads_on HD_64.out g65)
          have HE_65 := Lib.hid (reads_on HE_64.out g65)
          have HF_65 := Lib.hid (reads_on HF_64.out g65)
          have b65 := b64.trans (g65.mono b64.size)
          clear g65 Ha_64 Hb_64 HD_64 HE_64 HF_64 b64
          go_wp2_with fail
          refine (HKa.out _ Ha_65.out).mono ?_
          rintro e w66 ⟨rfl, g66⟩
          have Ha_66 := Lib.hid (reads_on Ha_65.out g66)
          have Hb_66 := Lib.hid (reads_on Hb_65.out g66)
          have HD_66 := Lib.hid (reads_on HD_65.out g66)
          have HE_66 := Lib.hid (reads_on HE_65.out g66)
          have HF_66 := Lib.hid (reads_on HF_65.out g66)
          have b66 := b65.trans (g66.mono b65.size)
          clear g66 Ha_65 Hb_65 HD_65 HE_65 HF_65 b65
          go_wp2_with fail
          refine (wakes_any _).mono ?_
          rintro e w67 ⟨rfl, g67⟩
          have Ha_67 := Lib.hid (reads_on Ha_66.out g67)
          have Hb_67 := Lib.hid (reads_on Hb_66.out g67)
          have HD_67 := Lib.hid (reads_on HD_66.out g67)
          have HE_67 := Lib.hid (reads_on HE_66.out g67)
          have HF_67 := Lib.hid (reads_on HF_66.out g67)
          have b67 := b66.trans (g67.mono b66.size)
          clear g67 Ha_66 Hb_66 HD_66 HE_66 HF_66 b66
          go_wp2_with fail
          go_ret
          exact ⟨rfl, b67⟩

theorem walk (a b : List Rg) (l : List Int) (n m p : Nat) (ha : a.length = n) (hb : b.length = m) (hl : l.length = p) (A B Q : Option Addr) (c d f : Nat) (w : World) (hA : Shp A n c) (hB : Shp B m d) (hQ : Shp Q p f) (hRa : Reads w w.heap.size 2 A n (rcells a)) (hRb : Reads w w.heap.size 2 B m (rcells b)) (hRl : Reads w w.heap.size 1 Q p (icells l)) : Calls Try.prog 4 #[.slice A n c, .slice B m d, .slice Q p f] w fun e w' => e = .returned (.bool true) ∧ Below w.heap.size w w' := by
  by_cases h1 : n ≤ 60
  · by_cases h2 : m ≤ 60
    · cases ga : goodB a
      · exact walk_bad_a a b l n m p ha hb hl A B Q c d f w hA hB hQ hRa hRb hRl h1 h2 ga
      · cases gb : goodB b
        · exact walk_bad_b a b l n m p ha hb hl A B Q c d f w hA hB hQ hRa hRb hRl h1 h2 ((goodB_iff a).1 ga) gb
        · by_cases h3 : p ≤ 100
          · exact walk_good a b l n m p ha hb hl A B Q c d f w hA hB hQ hRa hRb hRl h1 h2 h3 ((goodB_iff a).1 ga) ((goodB_iff b).1 gb)
          · exact walk_long a b l n m p ha hb hl A B Q c d f w hA hB hQ hRa hRb hRl h1 h2 ((goodB_iff a).1 ga) ((goodB_iff b).1 gb) (by omega)
    · exact walk_large a b l n m p ha hb hl A B Q c d f w hA hB hQ hRa hRb hRl (.inr (by omega))
  · exact walk_large a b l n m p ha hb hl A B Q c d f w hA hB hQ hRa hRb hRl (.inl (by omega))

/-! From the walk to the row. -/
theorem contract (H : Type) (enc : TypeId × Value → H) (W : World) (base : Nat) (args : Array Value) (ds gs : List (DataW H)) (before : List MemPlace)
    (hval0 : ∀ (j : Nat) t v, Try.f4.params[j]? = some t → args[j]? = some v → Value.okWide Try.prog W .any base t v)
    (hW : DataW.Whole enc Try.prog Try.f4.params.toList Rows.setsHoldSpec.vars false W args.toList ds gs before) :
    Calls Try.prog 4 args W fun e W' => ∃ v, e = .returned v ∧ Rows.setsHoldSpec.post enc Try.prog Try.f4 false true false false W args v W' := by
  have hval : ∀ (j : Nat) t v, Try.f4.params[j]? = some t → args[j]? = some v → Value.okWide Try.prog W .any base t v := hval0
  have hW' := hW
  obtain ⟨p, q, hA0, hV, rfl, hfz, hnd⟩ := hW
  have hA : DataW.TrodAll enc Try.prog W 0 (fun _ => true) true Try.f4.params.toList args.toList ds p := hA0
  rw [Try.params4] at hA hval
  obtain ⟨v0, vs0, d0, ds0, p0, q0, hargs, rfl, rfl, h0, r0⟩ := trodAll_cons hA
  obtain ⟨v1, vs1, d1, ds1, p1, q1, rfl, rfl, rfl, h1, r1⟩ := trodAll_cons r0
  obtain ⟨v2, vs2, d2, ds2, p2, q2, rfl, rfl, rfl, h2, r2⟩ := trodAll_cons r1
  obtain ⟨rfl, rfl, rfl⟩ := trodAll_nil r2
  obtain rfl : args = #[v0, v1, v2] := by cases args; simp_all
  obtain ⟨rfl, rfl⟩ := trodVars_none hV
  obtain ⟨a0, len0, cap0, rfl⟩ := okWide_slice Try.underlying23 (hval 0 23 v0 rfl rfl)
  have k0 := h0
  have lt0 : ∀ x ∈ p0, x.block < W.heap.size := by obtain ⟨m, hm⟩ := k0; exact DataW.trod_lt m _ _ _ hm
  obtain ⟨l0, hl0, hs0, hr0⟩ : ∃ l, l.length = len0 ∧ Shp a0 len0 cap0 ∧ Reads W W.heap.size 2 a0 len0 (rcells l) := by
    obtain ⟨fuel, hf⟩ := h0
    exact open_set Try.underlying23 (by simpa [Value.cells] using hf)
  obtain ⟨a1, len1, cap1, rfl⟩ := okWide_slice Try.underlying23 (hval 1 23 v1 rfl rfl)
  have k1 := h1
  have lt1 : ∀ x ∈ p1, x.block < W.heap.size := by obtain ⟨m, hm⟩ := k1; exact DataW.trod_lt m _ _ _ hm
  obtain ⟨l1, hl1, hs1, hr1⟩ : ∃ l, l.length = len1 ∧ Shp a1 len1 cap1 ∧ Reads W W.heap.size 2 a1 len1 (rcells l) := by
    obtain ⟨fuel, hf⟩ := h1
    exact open_set Try.underlying23 (by simpa [Value.cells] using hf)
  obtain ⟨a2, len2, cap2, rfl⟩ := okWide_slice Try.underlying39 (hval 2 39 v2 rfl rfl)
  have k2 := h2
  have lt2 : ∀ x ∈ p2, x.block < W.heap.size := by obtain ⟨m, hm⟩ := k2; exact DataW.trod_lt m _ _ _ hm
  obtain ⟨l2, hl2, hs2, hr2⟩ : ∃ l, l.length = len2 ∧ Shp a2 len2 cap2 ∧ Reads W W.heap.size 1 a2 len2 (icells l) := by
    obtain ⟨fuel, hf⟩ := h2
    exact open_row Try.underlying39 (by simpa [Value.cells] using hf)
  clear hA0 hval0
  refine (walk l0 l1 l2 len0 len1 len2 hl0 hl1 hl2 a0 a1 a2 cap0 cap1 cap2 W hs0 hs1 hs2 hr0 hr1 hr2).mono fun e W' ⟨he, bel⟩ => ?_
  subst he
  exact ⟨_, rfl, _, _, _, [], _, [], hW', trodAll_mk1 (shut_bool Try.underlying4 _), (trodAll_cons_mk (Below.trod laidOut (by kernel_rfl) (of_decide_eq_true (by kernel_rfl)) k0 bel lt0) (trodAll_cons_mk (Below.trod laidOut (by kernel_rfl) (of_decide_eq_true (by kernel_rfl)) k1 bel lt1) (trodAll_cons_mk (Below.trod laidOut (by kernel_rfl) (of_decide_eq_true (by kernel_rfl)) k2 bel lt2) trodAll_mk0))), rfl, bel.frame _, fun h => by cases h⟩

set_option maxRecDepth 100000 in
theorem lifted (os : Os) (started : os.Started) (H : Type) (enc : TypeId × Value → H) :
    ReturnsInHanded {} Try.checked os 4 .any (Rows.setsHoldSpec.pre6 enc Try.prog Try.f4 Rows.setsHoldRow.domain false) (Rows.setsHoldSpec.post enc Try.prog Try.f4 false true false false) := by
  refine returnsInHanded_of_change (C := Try.checked) own started (by kernel_rfl) Try.func4
    (ChangeSpec.witness6 (enc := enc) (C := Try.checked) false ⟨#[], #[.slice none 0 0, .slice none 0 0, .slice none 0 0], []⟩ 8 (by kernel_rfl) (by kernel_rfl) (by kernel_rfl) (by kernel_rfl)) ?_
  intro W base args ds gs before hval hW _ _
  exact contract H enc W base args ds gs before hval hW

theorem over : Rows.setsHoldRow.holds Try.pinned (OpenSpec.ofChange Rows.setsHoldSpec) :=
  OpenClaim.holds_of_wide 4 Try.f4 rfl rfl rfl rfl rfl rfl rfl ⟨rfl, rfl, rfl, rfl, rfl⟩ rfl rfl rfl rfl rfl (by kernel_rfl) Try.func4 (by kernel_rfl)
    (of_decide_eq_true (by kernel_rfl)) (by unfold Func.isWrapper; first | (rw [if_pos (by decide +kernel)]; kernel_rfl) | (rw [if_neg (by decide +kernel)]; exact ⟨rfl, rfl⟩))
    (fun os started H enc _ => lifted os started H enc)
end Go.Proofs.Ytehikcddnjibcaa.setsHold

namespace Go.Proofs.Ytehikcddnjibcaa
/-- The given statement, under a short name. -/
theorem setsHold_holds : Rows.SetsHoldSaid := setsHold.over
#print axioms setsHold_holds
end Go.Proofs.Ytehikcddnjibcaa
