/- The law SetsOrder returns true at every three rows of ranges: of two that differ just one stands ahead; over three it goes on; the set of a set's ranges, in whatever order, is it. Conditions: none; nothing that was there before the call is changed. -/
import Derived.Test.YtehikcddnjibcaaFrame
namespace Go.Proofs.Ytehikcddnjibcaa.setsOrder
open Go.ChangeShapes Go.WideShapes Go.ChangeAt Go.RowKit Go.BigFrame
set_option linter.unusedVariables false
set_option linter.unusedSimpArgs false

theorem reads_drew {w : World} {B size n : Nat} {A : Option Addr} {xs : List Value} (h : Reads w B size A n xs) : Reads w.drew B size A n xs := h.keep fun _ _ => rfl
/-- What has been put back to front, twice each. -/
def Rel (a : List Rg) (n : Nat) (w1 : World) (vb vi : Value) (wr : World) : Prop :=
  ∃ (j z : Nat) (A2 : Option Addr) (c2 : Nat) (acc : List Rg), j ≤ n ∧ vi = .int .i64 ((j : Int) - 1) ∧ vb = .slice A2 z c2 ∧ acc.length = z ∧ Hid (z = 2 * (n - j)) ∧ Hid (∀ r, r ∈ acc ↔ r ∈ a.drop j) ∧ wr.ownsRow w1.heap.size 41 2 (.slice A2 z c2) z (rcells acc) ∧ Below w1.heap.size w1 wr

set_option maxRecDepth 100000 in
set_option maxHeartbeats 4000000 in
theorem walk_large_ab (a b q : List Rg) (n m p : Nat) (ha : a.length = n) (hb : b.length = m) (hq : q.length = p) (A B Q : Option Addr) (c d f : Nat) (w : World) (hA : Shp A n c) (hB : Shp B m d) (hQ : Shp Q p f) (hRa : Reads w w.heap.size 2 A n (rcells a)) (hRb : Reads w w.heap.size 2 B m (rcells b)) (hRq : Reads w w.heap.size 2 Q p (rcells q)) (h : 60 < n ∨ 60 < m) :
    Calls Try.prog 5 #[.slice A n c, .slice B m d, .slice Q p f] w fun e w' => e = .returned (.bool true) ∧ Below w.heap.size w w' := by
  clear hRa hRb hRq
  go_enter Try.func5, Try.ntmps5
  go_wp2_with fail
  refine (large_yes A B n m c d _ h).mono ?_
  rintro e w1 ⟨rfl, rfl⟩
  go_wp2_with fail
  refine (wakes_any _).mono ?_
  rintro e w2 ⟨rfl, b2⟩
  go_wp2_with fail
  go_ret
  exact ⟨rfl, b2⟩

set_option maxRecDepth 100000 in
set_option maxHeartbeats 4000000 in
theorem walk_large_q (a b q : List Rg) (n m p : Nat) (ha : a.length = n) (hb : b.length = m) (hq : q.length = p) (A B Q : Option Addr) (c d f : Nat) (w : World) (hA : Shp A n c) (hB : Shp B m d) (hQ : Shp Q p f) (hRa : Reads w w.heap.size 2 A n (rcells a)) (hRb : Reads w w.heap.size 2 B m (rcells b)) (hRq : Reads w w.heap.size 2 Q p (rcells q)) (h1 : n ≤ 60) (h2 : m ≤ 60) (h : 60 < p) :
    Calls Try.prog 5 #[.slice A n c, .slice B m d, .slice Q p f] w fun e w' => e = .returned (.bool true) ∧ Below w.heap.size w w' := by
  clear hRa hRb hRq
  go_enter Try.func5, Try.ntmps5
  go_wp2_with fail
  refine (large_no A B n m c d _ h1 h2).mono ?_
  rintro e w1 ⟨rfl, rfl⟩
  go_wp2_with fail
  refine (wakes_any _).mono ?_
  rintro e w2 ⟨rfl, b2⟩
  go_wp2_with fail
  go_ret
  exact ⟨rfl, b2⟩

set_option maxRecDepth 100000 in
set_option maxHeartbeats 4000000 in
theorem walk_E (a b q : List Rg) (n m p : Nat) (ha : a.length = n) (hb : b.length = m) (hq : q.length = p) (A B Q : Option Addr) (c d f : Nat) (w : World) (hA : Shp A n c) (hB : Shp B m d) (hQ : Shp Q p f) (hRa : Reads w w.heap.size 2 A n (rcells a)) (hRb : Reads w w.heap.size 2 B m (rcells b)) (hRq : Reads w w.heap.size 2 Q p (rcells q)) (h1 : n ≤ 60) (h2 : m ≤ 60) (h3 : p ≤ 60) (hab : a = b) :
    Calls Try.prog 5 #[.slice A n c, .slice B m d, .slice Q p f] w fun e w' => e = .returned (.bool true) ∧ Below w.heap.size w w' := by
  have Ha_0 := Lib.hid hRa
  have Hb_0 := Lib.hid hRb
  have Hq_0 := Lib.hid hRq
  have La := Lib.hid ha
  have Lb := Lib.hid hb
  have Lq := Lib.hid hq
  obtain ⟨i0, hi0, hz0, hz1, hz2⟩ := info_parts info41
  have hx : lessL a b = false := by rw [hab]; exact lessL_irrefl b
  have hy : lessL b a = false := by rw [hab]; exact lessL_irrefl b
  have he : eqL a b = true := decide_eq_true hab
  have K1 := fun W h1' h2' => less_n a b n m La.out Lb.out A B c d W h1' h2' (by omega) (by omega)
  rw [hx] at K1
  have K2 := fun W h1' h2' => less_n b a m n Lb.out La.out B A d c W h1' h2' (by omega) (by omega)
  rw [hy] at K2
  have K3 := fun W h1' h2' => keep_n a b n m La.out Lb.out A B c d W h1' h2' (by omega)
  rw [he] at K3
  have HK1 := Lib.hid K1
  have HK2 := Lib.hid K2
  have HK3 := Lib.hid K3
  clear hRa hRb hRq ha hb hq hA hB hQ K1 K2 K3 hx hy he hab
  have b0 : Below w.heap.size w w := Below.refl _ _
  go_enter Try.func5, Try.ntmps5
  go_wp2_with fail
  refine (large_no A B n m c d _ h1 h2).mono ?_
  rintro e w1 ⟨rfl, rfl⟩
  go_wp2_with fail
  refine (HK1.out _ Ha_0.out Hb_0.out).mono ?_
  rintro e w1 ⟨rfl, g1⟩
  have Ha_1 := Lib.hid (reads_on Ha_0.out g1)
  have Hb_1 := Lib.hid (reads_on Hb_0.out g1)
  have Hq_1 := Lib.hid (reads_on Hq_0.out g1)
  have b1 := b0.trans (g1.mono b0.size)
  clear g1 Ha_0 Hb_0 Hq_0 b0
  go_wp2_with fail
  refine (HK2.out _ Hb_1.out Ha_1.out).mono ?_
  rintro e w2 ⟨rfl, g2⟩
  have Ha_2 := Lib.hid (reads_on Ha_1.out g2)
  have Hb_2 := Lib.hid (reads_on Hb_1.out g2)
  have Hq_2 := Lib.hid (reads_on Hq_1.out g2)
  have b2 := b1.trans (g2.mono b1.size)
  clear g2 Ha_1 Hb_1 Hq_1 b1
  go_wp2_with fail
  refine (HK3.out _ Ha_2.out Hb_2.out).mono ?_
  rintro e w3 ⟨rfl, g3⟩
  have Ha_3 := Lib.hid (reads_on Ha_2.out g3)
  have Hb_3 := Lib.hid (reads_on Hb_2.out g3)
  have Hq_3 := Lib.hid (reads_on Hq_2.out g3)
  have b3 := b2.trans (g3.mono b2.size)
  clear g3 Ha_2 Hb_2 Hq_2 b2
  go_wp2_with fail
  go_loopw [9, 10] (fun vb vi wr => Rel a n w3 vb vi wr) (fun _ vi _ => (intOf vi + 1).toNat)
  case atStart => exact ⟨n, 0, none, 0, [], Nat.le_refl _, rfl, rfl, rfl, Lib.hid (by omega), Lib.hid (by rw [List.drop_eq_nil_of_le (by rw [La.out]; omega)]; simp), World.ownsRow_nil _ _ _ _, Below.refl _ _⟩
  case round =>
    obtain ⟨j, z, A2, c2, acc, hj, rfl, rfl, hacc, HZ, HM, hown, hb⟩ := hrel
    have hsz := hb.size
    have HAcc := Lib.hid hacc
    have hzle : z ≤ 120 := by have := HZ.out; omega
    clear hacc
    cases j with
    | succ j =>
      rw [show ((j + 1 : Nat) : Int) - 1 = (j : Int) by omega]
      have kl : j < a.length := by rw [La.out]; omega
      obtain ⟨bk, o, rfl, hbb, p0, p1⟩ := (Ha_3.out.below hb).rg kl
      have hjn : (j : Int) < (n : Int) := by omega
      have HN : Hid (∀ r, r ∈ acc ++ [a[j], a[j]] ↔ r ∈ a.drop j) := Lib.hid (fun r => by
        rw [List.drop_eq_getElem_cons kl, List.mem_append, HM.out r]
        simp only [List.mem_cons, List.not_mem_nil, or_false]
        constructor
        · rintro (h | h | h)
          · exact .inr h
          · exact .inl h
          · exact .inl h
        · rintro (h | h)
          · exact .inr (.inl h)
          · exact .inl h)
      generalize a[j] = r at *
      obtain ⟨x0, x1⟩ := r
      simp only [] at p0 p1
      clear HM
      go_wp2_with fail
      go_region_law (refine step_append_src rfl (.tmp 63) (.tmp 72) 22 rfl w3.heap.size 41 i0 _ 2 16 Try.underlying22 hi0 hz0 hz1 hz2 rfl (by decide) (.slice A2 z c2) z (rcells acc) (by simp [Act.eval, Act.put]) (by exact (hown.alloc _)) (some ⟨wr.heap.size, 0, none⟩) 2 2 _ (rcells [(x0, x1), (x0, x1)]) (by simp [Act.eval, Act.put]) (fun h => by cases h) (by first | exact reads_drew (reads_lit wr [(x0, x1), (x0, x1)] 2 #[.int .i64 x0, .int .i64 x1, .int .i64 x0, .int .i64 x1] rfl rfl) | exact reads_lit wr [(x0, x1), (x0, x1)] 2 #[.int .i64 x0, .int .i64 x1, .int .i64 x0, .int .i64 x1] rfl rfl) (rcells_one _) (by unfold maxLen; omega) (by omega) (by simp; omega) ?_; intro A9 c9 wq hown3 hn3 hgrow)
      all_goals
        have b3 : Below w3.heap.size w3 wq := below_grown (w := wr.alloc _) (hb.alloc hsz _) (by simp; omega) (hown.alloc _) ⟨hgrow.os, hgrow.tape, hgrow.output, hgrow.size, hgrow.block⟩
        have HO3 : Hid (wq.ownsRow w3.heap.size 41 2 (.slice A9 (z + 2) c9) (z + 2) (rcells (acc ++ [(x0, x1), (x0, x1)]))) := Lib.hid (by rw [rcells_app]; exact hown3)
        clear hown3 hgrow hown hn3
        go_wp2_with fail
        go_roundw
        case rel => exact ⟨j, z + 2, A9, c9, acc ++ [(x0, x1), (x0, x1)], by omega, by go_num, rfl, by simp [HAcc.out], Lib.hid (by have := HZ.out; omega), HN, HO3.out, b3⟩
        case measure => simp [intOf]
    | zero =>
      have HMem : Hid (∀ r, r ∈ acc ↔ r ∈ a) := Lib.hid HM.out
      have HIn : Hid (∀ v, In acc v ↔ In a v) := Lib.hid (fun v => ⟨fun ⟨r, hr, k⟩ => ⟨r, (HMem.out r).1 hr, k⟩, fun ⟨r, hr, k⟩ => ⟨r, (HMem.out r).2 hr, k⟩⟩)
      have Ha_60 := Lib.hid (reads_on Ha_3.out hb)
      have Hk_60 := Lib.hid (Reads.of_own hown)
      have Sk := Lib.hid (own_shp hown)
      have b60 := b3.trans (hb.mono b3.size)
      rw [show ((0 : Nat) : Int) - 1 = -1 by omega]
      clear HM hown hb
      cases hg : goodB a
      · go_wp2_with fail
        refine (of_any acc z HAcc.out A2 c2 _ Sk.out.1 Hk_60.out (by omega)).mono ?_
        rintro e w61 (⟨hok, s, A4, c4, rfl, _, _, _, _, g61⟩ | ⟨hok, rfl, g61⟩)
        all_goals
          have Ha_61 := Lib.hid (reads_on Ha_60.out g61)
          have Hk_61 := Lib.hid (reads_on Hk_60.out g61)
          have b61 := b60.trans (g61.mono b60.size)
          clear g61 Ha_60 Hk_60 b60
          go_wp2_with fail
          refine (refGood_no La.out Ha_61.out (by omega) hg).mono ?_
          rintro e w62 ⟨rfl, g62⟩
          have Ha_62 := Lib.hid (reads_on Ha_61.out g62)
          have b62 := b61.trans (g62.mono b61.size)
          clear g62 Ha_61 b61
          go_wp2_with fail
          refine (wakes_any _).mono ?_
          rintro e w63 ⟨rfl, g63⟩
          have Ha_63 := Lib.hid (reads_on Ha_62.out g63)
          have b63 := b62.trans (g63.mono b62.size)
          clear g63 Ha_62 b62
          go_wp2_with fail
          go_ret
          exact ⟨rfl, b63⟩
      · have HGd := Lib.hid ((goodB_iff a).1 hg)
        have hok : allOk acc = true := by unfold allOk; rw [List.all_eq_true]; exact fun r hr => (mayB_iff r).2 (HGd.out.lo r ((HMem.out r).1 hr)).2
        go_wp2_with fail
        refine (of_N HAcc.out Sk.out Hk_60.out (by omega) hok).mono ?_
        rintro e w61 ⟨sS, nS, AS, cS, rfl, l61, mS, p61, i61, r61, g61⟩
        have Ha_61 := Lib.hid (reads_on Ha_60.out g61)
        have Hk_61 := Lib.hid (reads_on Hk_60.out g61)
        have b61 := b60.trans (g61.mono b60.size)
        have HS_61 := Lib.hid r61
        have SS := Lib.hid p61
        have LS := Lib.hid l61
        have IS := Lib.hid i61
        clear g61 Ha_60 Hk_60 b60 r61 l61 i61 p61
        go_wp2_with fail
        refine (refGood_yes La.out Ha_61.out (by omega) HGd.out).mono ?_
        rintro e w62 ⟨rfl, g62⟩
        have Ha_62 := Lib.hid (reads_on Ha_61.out g62)
        have Hk_62 := Lib.hid (reads_on Hk_61.out g62)
        have HS_62 := Lib.hid (reads_on HS_61.out g62)
        have b62 := b61.trans (g62.mono b61.size)
        clear g62 Ha_61 Hk_61 HS_61 b61
        go_wp2_with fail
        refine (same_yes LS.out La.out HS_62.out Ha_62.out (by omega) (IS.out.uniq (IsSet.self HGd.out) (fun v _ => HIn.out v))).mono ?_
        rintro e w63 ⟨rfl, g63⟩
        have Ha_63 := Lib.hid (reads_on Ha_62.out g63)
        have Hk_63 := Lib.hid (reads_on Hk_62.out g63)
        have HS_63 := Lib.hid (reads_on HS_62.out g63)
        have b63 := b62.trans (g63.mono b62.size)
        clear g63 Ha_62 Hk_62 HS_62 b62
        go_wp2_with fail
        refine (wakes_any _).mono ?_
        rintro e w64 ⟨rfl, g64⟩
        have Ha_64 := Lib.hid (reads_on Ha_63.out g64)
        have Hk_64 := Lib.hid (reads_on Hk_63.out g64)
        have HS_64 := Lib.hid (reads_on HS_63.out g64)
        have b64 := b63.trans (g64.mono b63.size)
        clear g64 Ha_63 Hk_63 HS_63 b63
        go_wp2_with fail
        go_ret
        exact ⟨rfl, b64⟩

set_option maxRecDepth 100000 in
set_option maxHeartbeats 4000000 in
theorem walk_L0 (a b q : List Rg) (n m p : Nat) (ha : a.length = n) (hb : b.length = m) (hq : q.length = p) (A B Q : Option Addr) (c d f : Nat) (w : World) (hA : Shp A n c) (hB : Shp B m d) (hQ : Shp Q p f) (hRa : Reads w w.heap.size 2 A n (rcells a)) (hRb : Reads w w.heap.size 2 B m (rcells b)) (hRq : Reads w w.heap.size 2 Q p (rcells q)) (h1 : n ≤ 60) (h2 : m ≤ 60) (h3 : p ≤ 60) (hx : lessL a b = true) (hy : lessL b a = false) (he : eqL a b = false) (hz : lessL b q = false) :
    Calls Try.prog 5 #[.slice A n c, .slice B m d, .slice Q p f] w fun e w' => e = .returned (.bool true) ∧ Below w.heap.size w w' := by
  have Ha_0 := Lib.hid hRa
  have Hb_0 := Lib.hid hRb
  have Hq_0 := Lib.hid hRq
  have La := Lib.hid ha
  have Lb := Lib.hid hb
  have Lq := Lib.hid hq
  obtain ⟨i0, hi0, hz0, hz1, hz2⟩ := info_parts info41
  have K1 := fun W h1' h2' => less_n a b n m La.out Lb.out A B c d W h1' h2' (by omega) (by omega)
  rw [hx] at K1
  have K2 := fun W h1' h2' => less_n b a m n Lb.out La.out B A d c W h1' h2' (by omega) (by omega)
  rw [hy] at K2
  have K3 := fun W h1' h2' => keep_n a b n m La.out Lb.out A B c d W h1' h2' (by omega)
  rw [he] at K3
  have K4 := fun W h1' h2' => less_n b q m p Lb.out Lq.out B Q d f W h1' h2' (by omega) (by omega)
  rw [hz] at K4
  have HK1 := Lib.hid K1
  have HK2 := Lib.hid K2
  have HK3 := Lib.hid K3
  have HK4 := Lib.hid K4
  clear hRa hRb hRq ha hb hq hA hB hQ K1 K2 K3 K4 hx hy he hz
  have b0 : Below w.heap.size w w := Below.refl _ _
  go_enter Try.func5, Try.ntmps5
  go_wp2_with fail
  refine (large_no A B n m c d _ h1 h2).mono ?_
  rintro e w1 ⟨rfl, rfl⟩
  go_wp2_with fail
  refine (HK1.out _ Ha_0.out Hb_0.out).mono ?_
  rintro e w1 ⟨rfl, g1⟩
  have Ha_1 := Lib.hid (reads_on Ha_0.out g1)
  have Hb_1 := Lib.hid (reads_on Hb_0.out g1)
  have Hq_1 := Lib.hid (reads_on Hq_0.out g1)
  have b1 := b0.trans (g1.mono b0.size)
  clear g1 Ha_0 Hb_0 Hq_0 b0
  go_wp2_with fail
  refine (HK2.out _ Hb_1.out Ha_1.out).mono ?_
  rintro e w2 ⟨rfl, g2⟩
  have Ha_2 := Lib.hid (reads_on Ha_1.out g2)
  have Hb_2 := Lib.hid (reads_on Hb_1.out g2)
  have Hq_2 := Lib.hid (reads_on Hq_1.out g2)
  have b2 := b1.trans (g2.mono b1.size)
  clear g2 Ha_1 Hb_1 Hq_1 b1
  go_wp2_with fail
  refine (HK3.out _ Ha_2.out Hb_2.out).mono ?_
  rintro e w3 ⟨rfl, g3⟩
  have Ha_3 := Lib.hid (reads_on Ha_2.out g3)
  have Hb_3 := Lib.hid (reads_on Hb_2.out g3)
  have Hq_3 := Lib.hid (reads_on Hq_2.out g3)
  have b3 := b2.trans (g3.mono b2.size)
  clear g3 Ha_2 Hb_2 Hq_2 b2
  go_wp2_with fail
  refine (HK4.out _ Hb_3.out Hq_3.out).mono ?_
  rintro e w4 ⟨rfl, g4⟩
  have Ha_4 := Lib.hid (reads_on Ha_3.out g4)
  have Hb_4 := Lib.hid (reads_on Hb_3.out g4)
  have Hq_4 := Lib.hid (reads_on Hq_3.out g4)
  have b4 := b3.trans (g4.mono b3.size)
  clear g4 Ha_3 Hb_3 Hq_3 b3
  go_wp2_with fail
  go_loopw [9, 10] (fun vb vi wr => Rel a n w4 vb vi wr) (fun _ vi _ => (intOf vi + 1).toNat)
  case atStart => exact ⟨n, 0, none, 0, [], Nat.le_refl _, rfl, rfl, rfl, Lib.hid (by omega), Lib.hid (by rw [List.drop_eq_nil_of_le (by rw [La.out]; omega)]; simp), World.ownsRow_nil _ _ _ _, Below.refl _ _⟩
  case round =>
    obtain ⟨j, z, A2, c2, acc, hj, rfl, rfl, hacc, HZ, HM, hown, hb⟩ := hrel
    have hsz := hb.size
    have HAcc := Lib.hid hacc
    have hzle : z ≤ 120 := by have := HZ.out; omega
    clear hacc
    cases j with
    | succ j =>
      rw [show ((j + 1 : Nat) : Int) - 1 = (j : Int) by omega]
      have kl : j < a.length := by rw [La.out]; omega
      obtain ⟨bk, o, rfl, hbb, p0, p1⟩ := (Ha_4.out.below hb).rg kl
      have hjn : (j : Int) < (n : Int) := by omega
      have HN : Hid (∀ r, r ∈ acc ++ [a[j], a[j]] ↔ r ∈ a.drop j) := Lib.hid (fun r => by
        rw [List.drop_eq_getElem_cons kl, List.mem_append, HM.out r]
        simp only [List.mem_cons, List.not_mem_nil, or_false]
        constructor
        · rintro (h | h | h)
          · exact .inr h
          · exact .inl h
          · exact .inl h
        · rintro (h | h)
          · exact .inr (.inl h)
          · exact .inl h)
      generalize a[j] = r at *
      obtain ⟨x0, x1⟩ := r
      simp only [] at p0 p1
      clear HM
      go_wp2_with fail
      go_region_law (refine step_append_src rfl (.tmp 63) (.tmp 72) 22 rfl w4.heap.size 41 i0 _ 2 16 Try.underlying22 hi0 hz0 hz1 hz2 rfl (by decide) (.slice A2 z c2) z (rcells acc) (by simp [Act.eval, Act.put]) (by exact (hown.alloc _)) (some ⟨wr.heap.size, 0, none⟩) 2 2 _ (rcells [(x0, x1), (x0, x1)]) (by simp [Act.eval, Act.put]) (fun h => by cases h) (by first | exact reads_drew (reads_lit wr [(x0, x1), (x0, x1)] 2 #[.int .i64 x0, .int .i64 x1, .int .i64 x0, .int .i64 x1] rfl rfl) | exact reads_lit wr [(x0, x1), (x0, x1)] 2 #[.int .i64 x0, .int .i64 x1, .int .i64 x0, .int .i64 x1] rfl rfl) (rcells_one _) (by unfold maxLen; omega) (by omega) (by simp; omega) ?_; intro A9 c9 wq hown3 hn3 hgrow)
      all_goals
        have b3 : Below w4.heap.size w4 wq := below_grown (w := wr.alloc _) (hb.alloc hsz _) (by simp; omega) (hown.alloc _) ⟨hgrow.os, hgrow.tape, hgrow.output, hgrow.size, hgrow.block⟩
        have HO3 : Hid (wq.ownsRow w4.heap.size 41 2 (.slice A9 (z + 2) c9) (z + 2) (rcells (acc ++ [(x0, x1), (x0, x1)]))) := Lib.hid (by rw [rcells_app]; exact hown3)
        clear hown3 hgrow hown hn3
        go_wp2_with fail
        go_roundw
        case rel => exact ⟨j, z + 2, A9, c9, acc ++ [(x0, x1), (x0, x1)], by omega, by go_num, rfl, by simp [HAcc.out], Lib.hid (by have := HZ.out; omega), HN, HO3.out, b3⟩
        case measure => simp [intOf]
    | zero =>
      have HMem : Hid (∀ r, r ∈ acc ↔ r ∈ a) := Lib.hid HM.out
      have HIn : Hid (∀ v, In acc v ↔ In a v) := Lib.hid (fun v => ⟨fun ⟨r, hr, k⟩ => ⟨r, (HMem.out r).1 hr, k⟩, fun ⟨r, hr, k⟩ => ⟨r, (HMem.out r).2 hr, k⟩⟩)
      have Ha_60 := Lib.hid (reads_on Ha_4.out hb)
      have Hk_60 := Lib.hid (Reads.of_own hown)
      have Sk := Lib.hid (own_shp hown)
      have b60 := b4.trans (hb.mono b4.size)
      rw [show ((0 : Nat) : Int) - 1 = -1 by omega]
      clear HM hown hb
      cases hg : goodB a
      · go_wp2_with fail
        refine (of_any acc z HAcc.out A2 c2 _ Sk.out.1 Hk_60.out (by omega)).mono ?_
        rintro e w61 (⟨hok, s, A4, c4, rfl, _, _, _, _, g61⟩ | ⟨hok, rfl, g61⟩)
        all_goals
          have Ha_61 := Lib.hid (reads_on Ha_60.out g61)
          have Hk_61 := Lib.hid (reads_on Hk_60.out g61)
          have b61 := b60.trans (g61.mono b60.size)
          clear g61 Ha_60 Hk_60 b60
          go_wp2_with fail
          refine (refGood_no La.out Ha_61.out (by omega) hg).mono ?_
          rintro e w62 ⟨rfl, g62⟩
          have Ha_62 := Lib.hid (reads_on Ha_61.out g62)
          have b62 := b61.trans (g62.mono b61.size)
          clear g62 Ha_61 b61
          go_wp2_with fail
          refine (wakes_any _).mono ?_
          rintro e w63 ⟨rfl, g63⟩
          have Ha_63 := Lib.hid (reads_on Ha_62.out g63)
          have b63 := b62.trans (g63.mono b62.size)
          clear g63 Ha_62 b62
          go_wp2_with fail
          go_ret
          exact ⟨rfl, b63⟩
      · have HGd := Lib.hid ((goodB_iff a).1 hg)
        have hok : allOk acc = true := by unfold allOk; rw [List.all_eq_true]; exact fun r hr => (mayB_iff r).2 (HGd.out.lo r ((HMem.out r).1 hr)).2
        go_wp2_with fail
        refine (of_N HAcc.out Sk.out Hk_60.out (by omega) hok).mono ?_
        rintro e w61 ⟨sS, nS, AS, cS, rfl, l61, mS, p61, i61, r61, g61⟩
        have Ha_61 := Lib.hid (reads_on Ha_60.out g61)
        have Hk_61 := Lib.hid (reads_on Hk_60.out g61)
        have b61 := b60.trans (g61.mono b60.size)
        have HS_61 := Lib.hid r61
        have SS := Lib.hid p61
        have LS := Lib.hid l61
        have IS := Lib.hid i61
        clear g61 Ha_60 Hk_60 b60 r61 l61 i61 p61
        go_wp2_with fail
        refine (refGood_yes La.out Ha_61.out (by omega) HGd.out).mono ?_
        rintro e w62 ⟨rfl, g62⟩
        have Ha_62 := Lib.hid (reads_on Ha_61.out g62)
        have Hk_62 := Lib.hid (reads_on Hk_61.out g62)
        have HS_62 := Lib.hid (reads_on HS_61.out g62)
        have b62 := b61.trans (g62.mono b61.size)
        clear g62 Ha_61 Hk_61 HS_61 b61
        go_wp2_with fail
        refine (same_yes LS.out La.out HS_62.out Ha_62.out (by omega) (IS.out.uniq (IsSet.self HGd.out) (fun v _ => HIn.out v))).mono ?_
        rintro e w63 ⟨rfl, g63⟩
        have Ha_63 := Lib.hid (reads_on Ha_62.out g63)
        have Hk_63 := Lib.hid (reads_on Hk_62.out g63)
        have HS_63 := Lib.hid (reads_on HS_62.out g63)
        have b63 := b62.trans (g63.mono b62.size)
        clear g63 Ha_62 Hk_62 HS_62 b62
        go_wp2_with fail
        refine (wakes_any _).mono ?_
        rintro e w64 ⟨rfl, g64⟩
        have Ha_64 := Lib.hid (reads_on Ha_63.out g64)
        have Hk_64 := Lib.hid (reads_on Hk_63.out g64)
        have HS_64 := Lib.hid (reads_on HS_63.out g64)
        have b64 := b63.trans (g64.mono b63.size)
        clear g64 Ha_63 Hk_63 HS_63 b63
        go_wp2_with fail
        go_ret
        exact ⟨rfl, b64⟩

set_option maxRecDepth 100000 in
set_option maxHeartbeats 4000000 in
theorem walk_L1 (a b q : List Rg) (n m p : Nat) (ha : a.length = n) (hb : b.length = m) (hq : q.length = p) (A B Q : Option Addr) (c d f : Nat) (w : World) (hA : Shp A n c) (hB : Shp B m d) (hQ : Shp Q p f) (hRa : Reads w w.heap.size 2 A n (rcells a)) (hRb : Reads w w.heap.size 2 B m (rcells b)) (hRq : Reads w w.heap.size 2 Q p (rcells q)) (h1 : n ≤ 60) (h2 : m ≤ 60) (h3 : p ≤ 60) (hx : lessL a b = true) (hy : lessL b a = false) (he : eqL a b = false) (hz : lessL b q = true) (hu : lessL a q = true) :
    Calls Try.prog 5 #[.slice A n c, .slice B m d, .slice Q p f] w fun e w' => e = .returned (.bool true) ∧ Below w.heap.size w w' := by
  have Ha_0 := Lib.hid hRa
  have Hb_0 := Lib.hid hRb
  have Hq_0 := Lib.hid hRq
  have La := Lib.hid ha
  have Lb := Lib.hid hb
  have Lq := Lib.hid hq
  obtain ⟨i0, hi0, hz0, hz1, hz2⟩ := info_parts info41
  have K1 := fun W h1' h2' => less_n a b n m La.out Lb.out A B c d W h1' h2' (by omega) (by omega)
  rw [hx] at K1
  have K2 := fun W h1' h2' => less_n b a m n Lb.out La.out B A d c W h1' h2' (by omega) (by omega)
  rw [hy] at K2
  have K3 := fun W h1' h2' => keep_n a b n m La.out Lb.out A B c d W h1' h2' (by omega)
  rw [he] at K3
  have K4 := fun W h1' h2' => less_n b q m p Lb.out Lq.out B Q d f W h1' h2' (by omega) (by omega)
  rw [hz] at K4
  have K5 := fun W h1' h2' => less_n a q n p La.out Lq.out A Q c f W h1' h2' (by omega) (by omega)
  rw [hu] at K5
  have HK1 := Lib.hid K1
  have HK2 := Lib.hid K2
  have HK3 := Lib.hid K3
  have HK4 := Lib.hid K4
  have HK5 := Lib.hid K5
  clear hRa hRb hRq ha hb hq hA hB hQ K1 K2 K3 K4 K5 hx hy he hz hu
  have b0 : Below w.heap.size w w := Below.refl _ _
  go_enter Try.func5, Try.ntmps5
  go_wp2_with fail
  refine (large_no A B n m c d _ h1 h2).mono ?_
  rintro e w1 ⟨rfl, rfl⟩
  go_wp2_with fail
  refine (HK1.out _ Ha_0.out Hb_0.out).mono ?_
  rintro e w1 ⟨rfl, g1⟩
  have Ha_1 := Lib.hid (reads_on Ha_0.out g1)
  have Hb_1 := Lib.hid (reads_on Hb_0.out g1)
  have Hq_1 := Lib.hid (reads_on Hq_0.out g1)
  have b1 := b0.trans (g1.mono b0.size)
  clear g1 Ha_0 Hb_0 Hq_0 b0
  go_wp2_with fail
  refine (HK2.out _ Hb_1.out Ha_1.out).mono ?_
  rintro e w2 ⟨rfl, g2⟩
  have Ha_2 := Lib.hid (reads_on Ha_1.out g2)
  have Hb_2 := Lib.hid (reads_on Hb_1.out g2)
  have Hq_2 := Lib.hid (reads_on Hq_1.out g2)
  have b2 := b1.trans (g2.mono b1.size)
  clear g2 Ha_1 Hb_1 Hq_1 b1
  go_wp2_with fail
  refine (HK3.out _ Ha_2.out Hb_2.out).mono ?_
  rintro e w3 ⟨rfl, g3⟩
  have Ha_3 := Lib.hid (reads_on Ha_2.out g3)
  have Hb_3 := Lib.hid (reads_on Hb_2.out g3)
  have Hq_3 := Lib.hid (reads_on Hq_2.out g3)
  have b3 := b2.trans (g3.mono b2.size)
  clear g3 Ha_2 Hb_2 Hq_2 b2
  go_wp2_with fail
  refine (HK4.out _ Hb_3.out Hq_3.out).mono ?_
  rintro e w4 ⟨rfl, g4⟩
  have Ha_4 := Lib.hid (reads_on Ha_3.out g4)
  have Hb_4 := Lib.hid (reads_on Hb_3.out g4)
  have Hq_4 := Lib.hid (reads_on Hq_3.out g4)
  have b4 := b3.trans (g4.mono b3.size)
  clear g4 Ha_3 Hb_3 Hq_3 b3
  go_wp2_with fail
  refine (HK5.out _ Ha_4.out Hq_4.out).mono ?_
  rintro e w5 ⟨rfl, g5⟩
  have Ha_5 := Lib.hid (reads_on Ha_4.out g5)
  have Hb_5 := Lib.hid (reads_on Hb_4.out g5)
  have Hq_5 := Lib.hid (reads_on Hq_4.out g5)
  have b5 := b4.trans (g5.mono b4.size)
  clear g5 Ha_4 Hb_4 Hq_4 b4
  go_wp2_with fail
  go_loopw [9, 10] (fun vb vi wr => Rel a n w5 vb vi wr) (fun _ vi _ => (intOf vi + 1).toNat)
  case atStart => exact ⟨n, 0, none, 0, [], Nat.le_refl _, rfl, rfl, rfl, Lib.hid (by omega), Lib.hid (by rw [List.drop_eq_nil_of_le (by rw [La.out]; omega)]; simp), World.ownsRow_nil _ _ _ _, Below.refl _ _⟩
  case round =>
    obtain ⟨j, z, A2, c2, acc, hj, rfl, rfl, hacc, HZ, HM, hown, hb⟩ := hrel
    have hsz := hb.size
    have HAcc := Lib.hid hacc
    have hzle : z ≤ 120 := by have := HZ.out; omega
    clear hacc
    cases j with
    | succ j =>
      rw [show ((j + 1 : Nat) : Int) - 1 = (j : Int) by omega]
      have kl : j < a.length := by rw [La.out]; omega
      obtain ⟨bk, o, rfl, hbb, p0, p1⟩ := (Ha_5.out.below hb).rg kl
      have hjn : (j : Int) < (n : Int) := by omega
      have HN : Hid (∀ r, r ∈ acc ++ [a[j], a[j]] ↔ r ∈ a.drop j) := Lib.hid (fun r => by
        rw [List.drop_eq_getElem_cons kl, List.mem_append, HM.out r]
        simp only [List.mem_cons, List.not_mem_nil, or_false]
        constructor
        · rintro (h | h | h)
          · exact .inr h
          · exact .inl h
          · exact .inl h
        · rintro (h | h)
          · exact .inr (.inl h)
          · exact .inl h)
      generalize a[j] = r at *
      obtain ⟨x0, x1⟩ := r
      simp only [] at p0 p1
      clear HM
      go_wp2_with fail
      go_region_law (refine step_append_src rfl (.tmp 63) (.tmp 72) 22 rfl w5.heap.size 41 i0 _ 2 16 Try.underlying22 hi0 hz0 hz1 hz2 rfl (by decide) (.slice A2 z c2) z (rcells acc) (by simp [Act.eval, Act.put]) (by exact (hown.alloc _)) (some ⟨wr.heap.size, 0, none⟩) 2 2 _ (rcells [(x0, x1), (x0, x1)]) (by simp [Act.eval, Act.put]) (fun h => by cases h) (by first | exact reads_drew (reads_lit wr [(x0, x1), (x0, x1)] 2 #[.int .i64 x0, .int .i64 x1, .int .i64 x0, .int .i64 x1] rfl rfl) | exact reads_lit wr [(x0, x1), (x0, x1)] 2 #[.int .i64 x0, .int .i64 x1, .int .i64 x0, .int .i64 x1] rfl rfl) (rcells_one _) (by unfold maxLen; omega) (by omega) (by simp; omega) ?_; intro A9 c9 wq hown3 hn3 hgrow)
      all_goals
        have b3 : Below w5.heap.size w5 wq := below_grown (w := wr.alloc _) (hb.alloc hsz _) (by simp; omega) (hown.alloc _) ⟨hgrow.os, hgrow.tape, hgrow.output, hgrow.size, hgrow.block⟩
        have HO3 : Hid (wq.ownsRow w5.heap.size 41 2 (.slice A9 (z + 2) c9) (z + 2) (rcells (acc ++ [(x0, x1), (x0, x1)]))) := Lib.hid (by rw [rcells_app]; exact hown3)
        clear hown3 hgrow hown hn3
        go_wp2_with fail
        go_roundw
        case rel => exact ⟨j, z + 2, A9, c9, acc ++ [(x0, x1), (x0, x1)], by omega, by go_num, rfl, by simp [HAcc.out], Lib.hid (by have := HZ.out; omega), HN, HO3.out, b3⟩
        case measure => simp [intOf]
    | zero =>
      have HMem : Hid (∀ r, r ∈ acc ↔ r ∈ a) := Lib.hid HM.out
      have HIn : Hid (∀ v, In acc v ↔ In a v) := Lib.hid (fun v => ⟨fun ⟨r, hr, k⟩ => ⟨r, (HMem.out r).1 hr, k⟩, fun ⟨r, hr, k⟩ => ⟨r, (HMem.out r).2 hr, k⟩⟩)
      have Ha_60 := Lib.hid (reads_on Ha_5.out hb)
      have Hk_60 := Lib.hid (Reads.of_own hown)
      have Sk := Lib.hid (own_shp hown)
      have b60 := b5.trans (hb.mono b5.size)
      rw [show ((0 : Nat) : Int) - 1 = -1 by omega]
      clear HM hown hb
      cases hg : goodB a
      · go_wp2_with fail
        refine (of_any acc z HAcc.out A2 c2 _ Sk.out.1 Hk_60.out (by omega)).mono ?_
        rintro e w61 (⟨hok, s, A4, c4, rfl, _, _, _, _, g61⟩ | ⟨hok, rfl, g61⟩)
        all_goals
          have Ha_61 := Lib.hid (reads_on Ha_60.out g61)
          have Hk_61 := Lib.hid (reads_on Hk_60.out g61)
          have b61 := b60.trans (g61.mono b60.size)
          clear g61 Ha_60 Hk_60 b60
          go_wp2_with fail
          refine (refGood_no La.out Ha_61.out (by omega) hg).mono ?_
          rintro e w62 ⟨rfl, g62⟩
          have Ha_62 := Lib.hid (reads_on Ha_61.out g62)
          have b62 := b61.trans (g62.mono b61.size)
          clear g62 Ha_61 b61
          go_wp2_with fail
          refine (wakes_any _).mono ?_
          rintro e w63 ⟨rfl, g63⟩
          have Ha_63 := Lib.hid (reads_on Ha_62.out g63)
          have b63 := b62.trans (g63.mono b62.size)
          clear g63 Ha_62 b62
          go_wp2_with fail
          go_ret
          exact ⟨rfl, b63⟩
      · have HGd := Lib.hid ((goodB_iff a).1 hg)
        have hok : allOk acc = true := by unfold allOk; rw [List.all_eq_true]; exact fun r hr => (mayB_iff r).2 (HGd.out.lo r ((HMem.out r).1 hr)).2
        go_wp2_with fail
        refine (of_N HAcc.out Sk.out Hk_60.out (by omega) hok).mono ?_
        rintro e w61 ⟨sS, nS, AS, cS, rfl, l61, mS, p61, i61, r61, g61⟩
        have Ha_61 := Lib.hid (reads_on Ha_60.out g61)
        have Hk_61 := Lib.hid (reads_on Hk_60.out g61)
        have b61 := b60.trans (g61.mono b60.size)
        have HS_61 := Lib.hid r61
        have SS := Lib.hid p61
        have LS := Lib.hid l61
        have IS := Lib.hid i61
        clear g61 Ha_60 Hk_60 b60 r61 l61 i61 p61
        go_wp2_with fail
        refine (refGood_yes La.out Ha_61.out (by omega) HGd.out).mono ?_
        rintro e w62 ⟨rfl, g62⟩
        have Ha_62 := Lib.hid (reads_on Ha_61.out g62)
        have Hk_62 := Lib.hid (reads_on Hk_61.out g62)
        have HS_62 := Lib.hid (reads_on HS_61.out g62)
        have b62 := b61.trans (g62.mono b61.size)
        clear g62 Ha_61 Hk_61 HS_61 b61
        go_wp2_with fail
        refine (same_yes LS.out La.out HS_62.out Ha_62.out (by omega) (IS.out.uniq (IsSet.self HGd.out) (fun v _ => HIn.out v))).mono ?_
        rintro e w63 ⟨rfl, g63⟩
        have Ha_63 := Lib.hid (reads_on Ha_62.out g63)
        have Hk_63 := Lib.hid (reads_on Hk_62.out g63)
        have HS_63 := Lib.hid (reads_on HS_62.out g63)
        have b63 := b62.trans (g63.mono b62.size)
        clear g63 Ha_62 Hk_62 HS_62 b62
        go_wp2_with fail
        refine (wakes_any _).mono ?_
        rintro e w64 ⟨rfl, g64⟩
        have Ha_64 := Lib.hid (reads_on Ha_63.out g64)
        have Hk_64 := Lib.hid (reads_on Hk_63.out g64)
        have HS_64 := Lib.hid (reads_on HS_63.out g64)
        have b64 := b63.trans (g64.mono b63.size)
        clear g64 Ha_63 Hk_63 HS_63 b63
        go_wp2_with fail
        go_ret
        exact ⟨rfl, b64⟩

set_option maxRecDepth 100000 in
set_option maxHeartbeats 4000000 in
theorem walk_G (a b q : List Rg) (n m p : Nat) (ha : a.length = n) (hb : b.length = m) (hq : q.length = p) (A B Q : Option Addr) (c d f : Nat) (w : World) (hA : Shp A n c) (hB : Shp B m d) (hQ : Shp Q p f) (hRa : Reads w w.heap.size 2 A n (rcells a)) (hRb : Reads w w.heap.size 2 B m (rcells b)) (hRq : Reads w w.heap.size 2 Q p (rcells q)) (h1 : n ≤ 60) (h2 : m ≤ 60) (h3 : p ≤ 60) (hx : lessL a b = false) (hy : lessL b a = true) (he : eqL a b = false) :
    Calls Try.prog 5 #[.slice A n c, .slice B m d, .slice Q p f] w fun e w' => e = .returned (.bool true) ∧ Below w.heap.size w w' := by
  have Ha_0 := Lib.hid hRa
  have Hb_0 := Lib.hid hRb
  have Hq_0 := Lib.hid hRq
  have La := Lib.hid ha
  have Lb := Lib.hid hb
  have Lq := Lib.hid hq
  obtain ⟨i0, hi0, hz0, hz1, hz2⟩ := info_parts info41
  have K1 := fun W h1' h2' => less_n a b n m La.out Lb.out A B c d W h1' h2' (by omega) (by omega)
  rw [hx] at K1
  have K2 := fun W h1' h2' => less_n b a m n Lb.out La.out B A d c W h1' h2' (by omega) (by omega)
  rw [hy] at K2
  have K3 := fun W h1' h2' => keep_n a b n m La.out Lb.out A B c d W h1' h2' (by omega)
  rw [he] at K3
  have HK1 := Lib.hid K1
  have HK2 := Lib.hid K2
  have HK3 := Lib.hid K3
  clear hRa hRb hRq ha hb hq hA hB hQ K1 K2 K3 hx hy he
  have b0 : Below w.heap.size w w := Below.refl _ _
  go_enter Try.func5, Try.ntmps5
  go_wp2_with fail
  refine (large_no A B n m c d _ h1 h2).mono ?_
  rintro e w1 ⟨rfl, rfl⟩
  go_wp2_with fail
  refine (HK1.out _ Ha_0.out Hb_0.out).mono ?_
  rintro e w1 ⟨rfl, g1⟩
  have Ha_1 := Lib.hid (reads_on Ha_0.out g1)
  have Hb_1 := Lib.hid (reads_on Hb_0.out g1)
  have Hq_1 := Lib.hid (reads_on Hq_0.out g1)
  have b1 := b0.trans (g1.mono b0.size)
  clear g1 Ha_0 Hb_0 Hq_0 b0
  go_wp2_with fail
  refine (HK2.out _ Hb_1.out Ha_1.out).mono ?_
  rintro e w2 ⟨rfl, g2⟩
  have Ha_2 := Lib.hid (reads_on Ha_1.out g2)
  have Hb_2 := Lib.hid (reads_on Hb_1.out g2)
  have Hq_2 := Lib.hid (reads_on Hq_1.out g2)
  have b2 := b1.trans (g2.mono b1.size)
  clear g2 Ha_1 Hb_1 Hq_1 b1
  go_wp2_with fail
  refine (HK3.out _ Ha_2.out Hb_2.out).mono ?_
  rintro e w3 ⟨rfl, g3⟩
  have Ha_3 := Lib.hid (reads_on Ha_2.out g3)
  have Hb_3 := Lib.hid (reads_on Hb_2.out g3)
  have Hq_3 := Lib.hid (reads_on Hq_2.out g3)
  have b3 := b2.trans (g3.mono b2.size)
  clear g3 Ha_2 Hb_2 Hq_2 b2
  go_wp2_with fail
  go_loopw [9, 10] (fun vb vi wr => Rel a n w3 vb vi wr) (fun _ vi _ => (intOf vi + 1).toNat)
  case atStart => exact ⟨n, 0, none, 0, [], Nat.le_refl _, rfl, rfl, rfl, Lib.hid (by omega), Lib.hid (by rw [List.drop_eq_nil_of_le (by rw [La.out]; omega)]; simp), World.ownsRow_nil _ _ _ _, Below.refl _ _⟩
  case round =>
    obtain ⟨j, z, A2, c2, acc, hj, rfl, rfl, hacc, HZ, HM, hown, hb⟩ := hrel
    have hsz := hb.size
    have HAcc := Lib.hid hacc
    have hzle : z ≤ 120 := by have := HZ.out; omega
    clear hacc
    cases j with
    | succ j =>
      rw [show ((j + 1 : Nat) : Int) - 1 = (j : Int) by omega]
      have kl : j < a.length := by rw [La.out]; omega
      obtain ⟨bk, o, rfl, hbb, p0, p1⟩ := (Ha_3.out.below hb).rg kl
      have hjn : (j : Int) < (n : Int) := by omega
      have HN : Hid (∀ r, r ∈ acc ++ [a[j], a[j]] ↔ r ∈ a.drop j) := Lib.hid (fun r => by
        rw [List.drop_eq_getElem_cons kl, List.mem_append, HM.out r]
        simp only [List.mem_cons, List.not_mem_nil, or_false]
        constructor
        · rintro (h | h | h)
          · exact .inr h
          · exact .inl h
          · exact .inl h
        · rintro (h | h)
          · exact .inr (.inl h)
          · exact .inl h)
      generalize a[j] = r at *
      obtain ⟨x0, x1⟩ := r
      simp only [] at p0 p1
      clear HM
      go_wp2_with fail
      go_region_law (refine step_append_src rfl (.tmp 63) (.tmp 72) 22 rfl w3.heap.size 41 i0 _ 2 16 Try.underlying22 hi0 hz0 hz1 hz2 rfl (by decide) (.slice A2 z c2) z (rcells acc) (by simp [Act.eval, Act.put]) (by exact (hown.alloc _)) (some ⟨wr.heap.size, 0, none⟩) 2 2 _ (rcells [(x0, x1), (x0, x1)]) (by simp [Act.eval, Act.put]) (fun h => by cases h) (by first | exact reads_drew (reads_lit wr [(x0, x1), (x0, x1)] 2 #[.int .i64 x0, .int .i64 x1, .int .i64 x0, .int .i64 x1] rfl rfl) | exact reads_lit wr [(x0, x1), (x0, x1)] 2 #[.int .i64 x0, .int .i64 x1, .int .i64 x0, .int .i64 x1] rfl rfl) (rcells_one _) (by unfold maxLen; omega) (by omega) (by simp; omega) ?_; intro A9 c9 wq hown3 hn3 hgrow)
      all_goals
        have b3 : Below w3.heap.size w3 wq := below_grown (w := wr.alloc _) (hb.alloc hsz _) (by simp; omega) (hown.alloc _) ⟨hgrow.os, hgrow.tape, hgrow.output, hgrow.size, hgrow.block⟩
        have HO3 : Hid (wq.ownsRow w3.heap.size 41 2 (.slice A9 (z + 2) c9) (z + 2) (rcells (acc ++ [(x0, x1), (x0, x1)]))) := Lib.hid (by rw [rcells_app]; exact hown3)
        clear hown3 hgrow hown hn3
        go_wp2_with fail
        go_roundw
        case rel => exact ⟨j, z + 2, A9, c9, acc ++ [(x0, x1), (x0, x1)], by omega, by go_num, rfl, by simp [HAcc.out], Lib.hid (by have := HZ.out; omega), HN, HO3.out, b3⟩
        case measure => simp [intOf]
    | zero =>
      have HMem : Hid (∀ r, r ∈ acc ↔ r ∈ a) := Lib.hid HM.out
      have HIn : Hid (∀ v, In acc v ↔ In a v) := Lib.hid (fun v => ⟨fun ⟨r, hr, k⟩ => ⟨r, (HMem.out r).1 hr, k⟩, fun ⟨r, hr, k⟩ => ⟨r, (HMem.out r).2 hr, k⟩⟩)
      have Ha_60 := Lib.hid (reads_on Ha_3.out hb)
      have Hk_60 := Lib.hid (Reads.of_own hown)
      have Sk := Lib.hid (own_shp hown)
      have b60 := b3.trans (hb.mono b3.size)
      rw [show ((0 : Nat) : Int) - 1 = -1 by omega]
      clear HM hown hb
      cases hg : goodB a
      · go_wp2_with fail
        refine (of_any acc z HAcc.out A2 c2 _ Sk.out.1 Hk_60.out (by omega)).mono ?_
        rintro e w61 (⟨hok, s, A4, c4, rfl, _, _, _, _, g61⟩ | ⟨hok, rfl, g61⟩)
        all_goals
          have Ha_61 := Lib.hid (reads_on Ha_60.out g61)
          have Hk_61 := Lib.hid (reads_on Hk_60.out g61)
          have b61 := b60.trans (g61.mono b60.size)
          clear g61 Ha_60 Hk_60 b60
          go_wp2_with fail
          refine (refGood_no La.out Ha_61.out (by omega) hg).mono ?_
          rintro e w62 ⟨rfl, g62⟩
          have Ha_62 := Lib.hid (reads_on Ha_61.out g62)
          have b62 := b61.trans (g62.mono b61.size)
          clear g62 Ha_61 b61
          go_wp2_with fail
          refine (wakes_any _).mono ?_
          rintro e w63 ⟨rfl, g63⟩
          have Ha_63 := Lib.hid (reads_on Ha_62.out g63)
          have b63 := b62.trans (g63.mono b62.size)
          clear g63 Ha_62 b62
          go_wp2_with fail
          go_ret
          exact ⟨rfl, b63⟩
      · have HGd := Lib.hid ((goodB_iff a).1 hg)
        have hok : allOk acc = true := by unfold allOk; rw [List.all_eq_true]; exact fun r hr => (mayB_iff r).2 (HGd.out.lo r ((HMem.out r).1 hr)).2
        go_wp2_with fail
        refine (of_N HAcc.out Sk.out Hk_60.out (by omega) hok).mono ?_
        rintro e w61 ⟨sS, nS, AS, cS, rfl, l61, mS, p61, i61, r61, g61⟩
        have Ha_61 := Lib.hid (reads_on Ha_60.out g61)
        have Hk_61 := Lib.hid (reads_on Hk_60.out g61)
        have b61 := b60.trans (g61.mono b60.size)
        have HS_61 := Lib.hid r61
        have SS := Lib.hid p61
        have LS := Lib.hid l61
        have IS := Lib.hid i61
        clear g61 Ha_60 Hk_60 b60 r61 l61 i61 p61
        go_wp2_with fail
        refine (refGood_yes La.out Ha_61.out (by omega) HGd.out).mono ?_
        rintro e w62 ⟨rfl, g62⟩
        have Ha_62 := Lib.hid (reads_on Ha_61.out g62)
        have Hk_62 := Lib.hid (reads_on Hk_61.out g62)
        have HS_62 := Lib.hid (reads_on HS_61.out g62)
        have b62 := b61.trans (g62.mono b61.size)
        clear g62 Ha_61 Hk_61 HS_61 b61
        go_wp2_with fail
        refine (same_yes LS.out La.out HS_62.out Ha_62.out (by omega) (IS.out.uniq (IsSet.self HGd.out) (fun v _ => HIn.out v))).mono ?_
        rintro e w63 ⟨rfl, g63⟩
        have Ha_63 := Lib.hid (reads_on Ha_62.out g63)
        have Hk_63 := Lib.hid (reads_on Hk_62.out g63)
        have HS_63 := Lib.hid (reads_on HS_62.out g63)
        have b63 := b62.trans (g63.mono b62.size)
        clear g63 Ha_62 Hk_62 HS_62 b62
        go_wp2_with fail
        refine (wakes_any _).mono ?_
        rintro e w64 ⟨rfl, g64⟩
        have Ha_64 := Lib.hid (reads_on Ha_63.out g64)
        have Hk_64 := Lib.hid (reads_on Hk_63.out g64)
        have HS_64 := Lib.hid (reads_on HS_63.out g64)
        have b64 := b63.trans (g64.mono b63.size)
        clear g64 Ha_63 Hk_63 HS_63 b63
        go_wp2_with fail
        go_ret
        exact ⟨rfl, b64⟩

theorem walk (a b q : List Rg) (n m p : Nat) (ha : a.length = n) (hb : b.length = m) (hq : q.length = p) (A B Q : Option Addr) (c d f : Nat) (w : World) (hA : Shp A n c) (hB : Shp B m d) (hQ : Shp Q p f) (hRa : Reads w w.heap.size 2 A n (rcells a)) (hRb : Reads w w.heap.size 2 B m (rcells b)) (hRq : Reads w w.heap.size 2 Q p (rcells q)) : Calls Try.prog 5 #[.slice A n c, .slice B m d, .slice Q p f] w fun e w' => e = .returned (.bool true) ∧ Below w.heap.size w w' := by
  by_cases h1 : n ≤ 60
  · by_cases h2 : m ≤ 60
    · by_cases h3 : p ≤ 60
      · by_cases hab : a = b
        · exact walk_E a b q n m p ha hb hq A B Q c d f w hA hB hQ hRa hRb hRq h1 h2 h3 hab
        · have he : eqL a b = false := eqL_diff hab
          have htot := lessL_total a b hab
          cases hx : lessL a b
          · rw [hx] at htot
            have hy : lessL b a = true := by
              cases h : lessL b a
              · rw [h] at htot; cases htot
              · rfl
            exact walk_G a b q n m p ha hb hq A B Q c d f w hA hB hQ hRa hRb hRq h1 h2 h3 hx hy he
          · rw [hx] at htot
            have hy : lessL b a = false := by
              cases h : lessL b a
              · rfl
              · rw [h] at htot; cases htot
            cases hz : lessL b q
            · exact walk_L0 a b q n m p ha hb hq A B Q c d f w hA hB hQ hRa hRb hRq h1 h2 h3 hx hy he hz
            · exact walk_L1 a b q n m p ha hb hq A B Q c d f w hA hB hQ hRa hRb hRq h1 h2 h3 hx hy he hz (lessL_trans a b q hx hz)
      · exact walk_large_q a b q n m p ha hb hq A B Q c d f w hA hB hQ hRa hRb hRq h1 h2 (by omega)
    · exact walk_large_ab a b q n m p ha hb hq A B Q c d f w hA hB hQ hRa hRb hRq (.inr (by omega))
  · exact walk_large_ab a b q n m p ha hb hq A B Q c d f w hA hB hQ hRa hRb hRq (.inl (by omega))

/-! From the walk to the row. -/
theorem contract (H : Type) (enc : TypeId × Value → H) (W : World) (base : Nat) (args : Array Value) (ds gs : List (DataW H)) (before : List MemPlace)
    (hval0 : ∀ (j : Nat) t v, Try.f5.params[j]? = some t → args[j]? = some v → Value.okWide Try.prog W .any base t v)
    (hW : DataW.Whole enc Try.prog Try.f5.params.toList Rows.setsOrderSpec.vars false W args.toList ds gs before) :
    Calls Try.prog 5 args W fun e W' => ∃ v, e = .returned v ∧ Rows.setsOrderSpec.post enc Try.prog Try.f5 false true false false W args v W' := by
  have hval : ∀ (j : Nat) t v, Try.f5.params[j]? = some t → args[j]? = some v → Value.okWide Try.prog W .any base t v := hval0
  have hW' := hW
  obtain ⟨p, q, hA0, hV, rfl, hfz, hnd⟩ := hW
  have hA : DataW.TrodAll enc Try.prog W 0 (fun _ => true) true Try.f5.params.toList args.toList ds p := hA0
  rw [Try.params5] at hA hval
  obtain ⟨v0, vs0, d0, ds0, p0, q0, hargs, rfl, rfl, h0, r0⟩ := trodAll_cons hA
  obtain ⟨v1, vs1, d1, ds1, p1, q1, rfl, rfl, rfl, h1, r1⟩ := trodAll_cons r0
  obtain ⟨v2, vs2, d2, ds2, p2, q2, rfl, rfl, rfl, h2, r2⟩ := trodAll_cons r1
  obtain ⟨rfl, rfl, rfl⟩ := trodAll_nil r2
  obtain rfl : args = #[v0, v1, v2] := by cases args; simp_all
  obtain ⟨rfl, rfl⟩ := trodVars_none hV
  obtain ⟨a0, len0, cap0, rfl⟩ := okWide_slice Try.underlying23 (hval 0 23 v0 rfl rfl)
  have k0 := h0
  have lt0 : ∀ x ∈ p0, x.block < W.heap.size := by obtain ⟨m, hm⟩ := k0; exact DataW.trod_lt m _ _ _ hm
  obtain ⟨l0, hl0, hs0, hr0⟩ : ∃ l, l.length = len0 ∧ Shp a0 len0 cap0 ∧ Reads W W.heap.size 2 a0 len0 (rcells l) := by
    obtain ⟨fuel, hf⟩ := h0
    exact open_set Try.underlying23 (by simpa [Value.cells] using hf)
  obtain ⟨a1, len1, cap1, rfl⟩ := okWide_slice Try.underlying23 (hval 1 23 v1 rfl rfl)
  have k1 := h1
  have lt1 : ∀ x ∈ p1, x.block < W.heap.size := by obtain ⟨m, hm⟩ := k1; exact DataW.trod_lt m _ _ _ hm
  obtain ⟨l1, hl1, hs1, hr1⟩ : ∃ l, l.length = len1 ∧ Shp a1 len1 cap1 ∧ Reads W W.heap.size 2 a1 len1 (rcells l) := by
    obtain ⟨fuel, hf⟩ := h1
    exact open_set Try.underlying23 (by simpa [Value.cells] using hf)
  obtain ⟨a2, len2, cap2, rfl⟩ := okWide_slice Try.underlying23 (hval 2 23 v2 rfl rfl)
  have k2 := h2
  have lt2 : ∀ x ∈ p2, x.block < W.heap.size := by obtain ⟨m, hm⟩ := k2; exact DataW.trod_lt m _ _ _ hm
  obtain ⟨l2, hl2, hs2, hr2⟩ : ∃ l, l.length = len2 ∧ Shp a2 len2 cap2 ∧ Reads W W.heap.size 2 a2 len2 (rcells l) := by
    obtain ⟨fuel, hf⟩ := h2
    exact open_set Try.underlying23 (by simpa [Value.cells] using hf)
  clear hA0 hval0
  refine (walk l0 l1 l2 len0 len1 len2 hl0 hl1 hl2 a0 a1 a2 cap0 cap1 cap2 W hs0 hs1 hs2 hr0 hr1 hr2).mono fun e W' ⟨he, bel⟩ => ?_
  subst he
  exact ⟨_, rfl, _, _, _, [], _, [], hW', trodAll_mk1 (shut_bool Try.underlying4 _), (trodAll_cons_mk (Below.trod laidOut (by kernel_rfl) (of_decide_eq_true (by kernel_rfl)) k0 bel lt0) (trodAll_cons_mk (Below.trod laidOut (by kernel_rfl) (of_decide_eq_true (by kernel_rfl)) k1 bel lt1) (trodAll_cons_mk (Below.trod laidOut (by kernel_rfl) (of_decide_eq_true (by kernel_rfl)) k2 bel lt2) trodAll_mk0))), rfl, bel.frame _, fun h => by cases h⟩

set_option maxRecDepth 100000 in
theorem lifted (os : Os) (started : os.Started) (H : Type) (enc : TypeId × Value → H) :
    ReturnsInHanded {} Try.checked os 5 .any (Rows.setsOrderSpec.pre6 enc Try.prog Try.f5 Rows.setsOrderRow.domain false) (Rows.setsOrderSpec.post enc Try.prog Try.f5 false true false false) := by
  refine returnsInHanded_of_change (C := Try.checked) own started (by kernel_rfl) Try.func5
    (ChangeSpec.witness6 (enc := enc) (C := Try.checked) false ⟨#[], #[.slice none 0 0, .slice none 0 0, .slice none 0 0], []⟩ 8 (by kernel_rfl) (by kernel_rfl) (by kernel_rfl) (by kernel_rfl)) ?_
  intro W base args ds gs before hval hW _ _
  exact contract H enc W base args ds gs before hval hW

theorem over : Rows.setsOrderRow.holds Try.pinned (OpenSpec.ofChange Rows.setsOrderSpec) :=
  OpenClaim.holds_of_wide 5 Try.f5 rfl rfl rfl rfl rfl rfl rfl ⟨rfl, rfl, rfl, rfl, rfl⟩ rfl rfl rfl rfl rfl (by kernel_rfl) Try.func5 (by kernel_rfl)
    (of_decide_eq_true (by kernel_rfl)) (by unfold Func.isWrapper; first | (rw [if_pos (by decide +kernel)]; kernel_rfl) | (rw [if_neg (by decide +kernel)]; exact ⟨rfl, rfl⟩))
    (fun os started H enc _ => lifted os started H enc)
end Go.Proofs.Ytehikcddnjibcaa.setsOrder

namespace Go.Proofs.Ytehikcddnjibcaa
/-- The given statement, under a short name. -/
theorem setsOrder_holds : Rows.SetsOrderSaid := setsOrder.over
#print axioms setsOrder_holds
end Go.Proofs.Ytehikcddnjibcaa
