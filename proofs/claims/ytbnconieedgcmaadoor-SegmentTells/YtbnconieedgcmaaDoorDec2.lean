/- What Decode returns of bytes whose counts may be. -/
import Derived.Test.YtbnconieedgcmaaDoorDec
import Derived.Deep.RegionHeld3
namespace Go.Proofs.YtbnconieedgcmaaDoor
open Go.RowKit Go.BigFrame
set_option linter.unusedVariables false
set_option maxRecDepth 4000
set_option linter.unusedSimpArgs false

set_option maxRecDepth 4000 in
set_option maxHeartbeats 4000000 in
theorem decode_bits (l : List Nat) (n : Nat) (A : Option Addr) (c : Nat) (w : World) (hR : RB w w.heap.size A n l) (hnc : n ≤ c) (hn : n ≤ 10000) (hM : Mark w) (h0 : sealE l = 0) (h1 : cntB (l[4]?.getD 0) (l[5]?.getD 0) (l[6]?.getD 0) = true) (h2 : lenT (l[4]?.getD 0) (l[5]?.getD 0) (l[6]?.getD 0) = l.length) (h3 : unbR (bitsP l) (l[5]?.getD 0 : Nat) = none) :
    Calls Tryd.prog 17 #[.slice A n c] w (OutDc l w) := by
  have HE := Lib.hid (errT_bits h0 h1 h2 h3)
  have HSeal := Lib.hid (fun W (g : Below w.heap.size w W) => sealFault_any l n A c W (hR.on g) hnc (by omega) (hM.on g))
  rw [h0] at HSeal
  obtain ⟨hz1, _, _⟩ := seal_zero h0
  have hl := hR.1
  have hn11 : 11 ≤ n := by omega
  have HCo := Lib.hid (fun W (g : Below w.heap.size w W) => countsOf_any l n A c W (hR.on g) (by omega) (by omega))
  have hx4 : l[4]?.getD 0 < 256 := by rw [getD_at l 4 (by omega)]; exact hR.2.2 _ (List.getElem_mem _)
  have hx5 : l[5]?.getD 0 < 256 := by rw [getD_at l 5 (by omega)]; exact hR.2.2 _ (List.getElem_mem _)
  have hx6 : l[6]?.getD 0 < 256 := by rw [getD_at l 6 (by omega)]; exact hR.2.2 _ (List.getElem_mem _)
  rw [hl] at h2
  obtain ⟨⟨c1, c2⟩, ⟨s1', s2'⟩, ⟨k1, k2⟩⟩ := of_decide_eq_true h1
  obtain ⟨b0, o0, rfl, hb0, _⟩ := hR.all (by omega)
  generalize hX4 : l[4]?.getD 0 = x4 at *
  generalize hX5 : l[5]?.getD 0 = x5 at *
  generalize hX6 : l[6]?.getD 0 = x6 at *
  have HMay := Lib.hid (mayBe_any x4 x5 x6)
  have HLen := Lib.hid (length_any x4 x5 x6 (by omega) (by omega) (by omega))
  rw [h1] at HMay
  rw [h2] at HLen
  obtain ⟨m, hm, hmI, hmb⟩ := mul_wrap x5 x4 (by omega) (by omega)
  obtain ⟨na, hna⟩ : ∃ na, 7 + 4 * x6 = na := ⟨_, rfl⟩
  obtain ⟨ba, hba⟩ : ∃ ba, na + m = ba := ⟨_, rfl⟩
  obtain ⟨en, hen⟩ : ∃ en, n - 4 = en := ⟨_, rfl⟩
  have hz : ba + (x5 + 7) / 8 = en := by unfold lenT at h2; rw [← hm] at h2; omega
  have HBP : Hid (bitsP l = (l.take en).drop ba) := Lib.hid (by unfold bitsP; rw [hX4, hX5, hX6, hl, hen, hna, ← hm, hba])
  have hbn : ((n : Int) != (n : Int)) = false := by simp
  have e1 : (7 : Int) + (x6 : Int) * 4 = (na : Int) := by omega
  have e2 : (na : Int) + (m : Int) = (ba : Int) := by omega
  have e3 : IntKind.i64.wrap ((n : Int) - 4) = (en : Int) := by rw [IntKind.wrap_i64]; omega
  have e4 : (n : Int) - 4 = (en : Int) := by omega
  have e5 : IntKind.i64.wrap (en : Int) = (en : Int) := by rw [IntKind.wrap_i64]; omega
  have i1 : (0 : Int) ≤ (ba : Int) := by omega
  have i2 : (ba : Int) ≤ (en : Int) := by omega
  have i3 : (en : Int) ≤ (c : Int) := by omega
  have i4 : ¬ c = ba := by omega
  have i5 : (7 : Int) ≤ (na : Int) := by omega
  have i6 : (na : Int) ≤ (ba : Int) := by omega
  have i7 : (na : Int) ≤ (c : Int) := by omega
  have i8 : (ba : Int) ≤ (c : Int) := by omega
  have i9 : ¬ c = 7 := by omega
  have i10 : ¬ c = na := by omega
  have j1 : ba ≤ en := by omega
  have j2 : en ≤ c := by omega
  have j3 : ¬ ba = 0 := by omega
  have j4 : 7 ≤ na := by omega
  have j5 : na ≤ c := by omega
  have j6 : na ≤ ba := by omega
  have j7 : ba ≤ c := by omega
  have j8 : ¬ na = 0 := by omega
  rw [HBP.out] at h3
  have HUn := Lib.hid (fun W (g : Below w.heap.size w W) => unbits_any ((l.take en).drop ba) (en - ba) (some ⟨b0, o0 + ba, none⟩) (c - ba) x5 W ((hR.on g).sub (by omega) (by omega)) (by omega))
  rw [h3] at HUn
  clear hR hM h0 h1 h2 h3 hz1 hl HBP hX4 hX5 hX6 hm hna hba hen hz
  go_enter Tryd.func17, Tryd.ntmps17
  go_wp2_with fail
  have hg0 : w.heap.size < (w.alloc (.cells #[.int .i64 0, .slice none 0 0, .slice none 0 0, .slice none 0 0] 26)).heap.size := by simp
  have p0 : (w.alloc (.cells #[.int .i64 0, .slice none 0 0, .slice none 0 0, .slice none 0 0] 26)).cell? ⟨w.heap.size, 0, none⟩ = some (.int .i64 0) := by simp
  have f0 : (w.alloc (.cells #[.int .i64 0, .slice none 0 0, .slice none 0 0, .slice none 0 0] 26)).frozen? ⟨w.heap.size, 0, none⟩ = false := World.frozen?_alloc_at _ _ _ _ rfl
  have p1 : (w.alloc (.cells #[.int .i64 0, .slice none 0 0, .slice none 0 0, .slice none 0 0] 26)).cell? ⟨w.heap.size, 1, none⟩ = some (.slice none 0 0) := by simp
  have f1 : (w.alloc (.cells #[.int .i64 0, .slice none 0 0, .slice none 0 0, .slice none 0 0] 26)).frozen? ⟨w.heap.size, 1, none⟩ = false := World.frozen?_alloc_at _ _ _ _ rfl
  have p2 : (w.alloc (.cells #[.int .i64 0, .slice none 0 0, .slice none 0 0, .slice none 0 0] 26)).cell? ⟨w.heap.size, 2, none⟩ = some (.slice none 0 0) := by simp
  have f2 : (w.alloc (.cells #[.int .i64 0, .slice none 0 0, .slice none 0 0, .slice none 0 0] 26)).frozen? ⟨w.heap.size, 2, none⟩ = false := World.frozen?_alloc_at _ _ _ _ rfl
  have p3 : (w.alloc (.cells #[.int .i64 0, .slice none 0 0, .slice none 0 0, .slice none 0 0] 26)).cell? ⟨w.heap.size, 3, none⟩ = some (.slice none 0 0) := by simp
  have f3 : (w.alloc (.cells #[.int .i64 0, .slice none 0 0, .slice none 0 0, .slice none 0 0] 26)).frozen? ⟨w.heap.size, 3, none⟩ = false := World.frozen?_alloc_at _ _ _ _ rfl
  have b0 := below_new w (.cells #[.int .i64 0, .slice none 0 0, .slice none 0 0, .slice none 0 0] 26)
  generalize (w.alloc (.cells #[.int .i64 0, .slice none 0 0, .slice none 0 0, .slice none 0 0] 26)) = W at *
  refine (HSeal.out _ b0).mono ?_
  rintro e w1 ⟨rfl, g1⟩
  have p0 := kept_cell g1 p0
  have f0 := kept_frozen g1 hg0 f0
  have p1 := kept_cell g1 p1
  have f1 := kept_frozen g1 hg0 f1
  have p2 := kept_cell g1 p2
  have f2 := kept_frozen g1 hg0 f2
  have p3 := kept_cell g1 p3
  have f3 := kept_frozen g1 hg0 f3
  have b1 := b0.trans (g1.mono b0.size)
  have hg0 : w.heap.size < w1.heap.size := Nat.lt_of_lt_of_le hg0 g1.size
  clear g1 b0 HSeal
  go_wp2_with fail
  refine (HCo.out _ b1).mono ?_
  rintro e w2 ⟨rfl, g2⟩
  have p0 := kept_cell g2 p0
  have f0 := kept_frozen g2 hg0 f0
  have p1 := kept_cell g2 p1
  have f1 := kept_frozen g2 hg0 f1
  have p2 := kept_cell g2 p2
  have f2 := kept_frozen g2 hg0 f2
  have p3 := kept_cell g2 p3
  have f3 := kept_frozen g2 hg0 f3
  have b2 := b1.trans (g2.mono b1.size)
  have hg0 : w.heap.size < w2.heap.size := Nat.lt_of_lt_of_le hg0 g2.size
  clear g2 b1 HCo
  go_wp2_with fail
  have g3 := below_new w2 (.cells #[.int .i64 x4, .int .i64 x5, .int .i64 x6] 82)
  have s0 : (w2.alloc (.cells #[.int .i64 x4, .int .i64 x5, .int .i64 x6] 82)).cell? ⟨w2.heap.size, 0, none⟩ = some (.int .i64 x4) := by simp
  have s1 : (w2.alloc (.cells #[.int .i64 x4, .int .i64 x5, .int .i64 x6] 82)).cell? ⟨w2.heap.size, 1, none⟩ = some (.int .i64 x5) := by simp
  have s2 : (w2.alloc (.cells #[.int .i64 x4, .int .i64 x5, .int .i64 x6] 82)).cell? ⟨w2.heap.size, 2, none⟩ = some (.int .i64 x6) := by simp
  have p0 := kept_cell g3 p0
  have f0 := kept_frozen g3 hg0 f0
  have p1 := kept_cell g3 p1
  have f1 := kept_frozen g3 hg0 f1
  have p2 := kept_cell g3 p2
  have f2 := kept_frozen g3 hg0 f2
  have p3 := kept_cell g3 p3
  have f3 := kept_frozen g3 hg0 f3
  have b3 := b2.trans (g3.mono b2.size)
  have hgc : w.heap.size < w2.heap.size := hg0
  have hg0 : w.heap.size < (w2.alloc (.cells #[.int .i64 x4, .int .i64 x5, .int .i64 x6] 82)).heap.size := Nat.lt_of_lt_of_le hg0 g3.size
  clear g3 b2
  generalize w2.alloc (.cells #[.int .i64 x4, .int .i64 x5, .int .i64 x6] 82) = W3 at *
  refine (HMay.out _).mono ?_
  rintro e w4 ⟨rfl, g4⟩
  have p0 := kept_cell g4 p0
  have f0 := kept_frozen g4 hg0 f0
  have p1 := kept_cell g4 p1
  have f1 := kept_frozen g4 hg0 f1
  have p2 := kept_cell g4 p2
  have f2 := kept_frozen g4 hg0 f2
  have p3 := kept_cell g4 p3
  have f3 := kept_frozen g4 hg0 f3
  have s0 := kept_cell g4 s0
  have s1 := kept_cell g4 s1
  have s2 := kept_cell g4 s2
  have b4 := b3.trans (g4.mono b3.size)
  have hg0 : w.heap.size < w4.heap.size := Nat.lt_of_lt_of_le hg0 g4.size
  clear g4 b3 HMay
  go_wp2_with fail
  refine (HLen.out _).mono ?_
  rintro e w5 ⟨rfl, g5⟩
  have p0 := kept_cell g5 p0
  have f0 := kept_frozen g5 hg0 f0
  have p1 := kept_cell g5 p1
  have f1 := kept_frozen g5 hg0 f1
  have p2 := kept_cell g5 p2
  have f2 := kept_frozen g5 hg0 f2
  have p3 := kept_cell g5 p3
  have f3 := kept_frozen g5 hg0 f3
  have s0 := kept_cell g5 s0
  have s1 := kept_cell g5 s1
  have s2 := kept_cell g5 s2
  have b5 := b4.trans (g5.mono b4.size)
  have hg0 : w.heap.size < w5.heap.size := Nat.lt_of_lt_of_le hg0 g5.size
  clear g5 b4 HLen
  go_wp2_with fail
  have hun : Hid (∀ V, (V.cell? ⟨w2.heap.size, 1, none⟩ = some (.int .i64 x5) ∧ Below w5.heap.size w5 V) → Calls Tryd.prog 56 #[.slice (some ⟨b0, o0 + ba, none⟩) (en - ba) (c - ba), .int .i64 x5] V fun e w' => (∃ A9 c9, e = .returned (.tuple #[.slice A9 0 c9, .bool false])) ∧ (w'.cell? ⟨w2.heap.size, 1, none⟩ = some (.int .i64 x5) ∧ Below w5.heap.size w5 w')) := Lib.hid (fun V hV => (HUn.out V (b5.trans (hV.2.mono b5.size))).mono (fun e w' h => by
    obtain ⟨A9, c9, he, _, g9⟩ := h
    exact ⟨⟨A9, c9, he⟩, kept_cell g9 hV.1, hV.2.trans (g9.mono hV.2.size)⟩))
  clear HUn
  have bR := Below.refl w5.heap.size w5
  go_region_held3 (fun V => V.cell? ⟨w2.heap.size, 1, none⟩ = some (.int .i64 x5) ∧ Below w5.heap.size w5 V) (first | assumption | exact ⟨s1, bR⟩ | exact ⟨s1, Below.drew bR⟩ | exact ⟨by assumption, by assumption⟩) (first | (go_at_call 56; with_reducible refine Calls.mono (hun.out _ ?_) ?_; (first | assumption | exact ⟨s1, bR⟩ | exact ⟨s1, Below.drew bR⟩ | exact ⟨by assumption, by assumption⟩); rintro e w9 ⟨⟨A9, c9, rfl⟩, q9, b9⟩))
  have p0 := kept_cell b9 p0
  have f0 := kept_frozen b9 hg0 f0
  have p1 := kept_cell b9 p1
  have f1 := kept_frozen b9 hg0 f1
  have p2 := kept_cell b9 p2
  have f2 := kept_frozen b9 hg0 f2
  have p3 := kept_cell b9 p3
  have f3 := kept_frozen b9 hg0 f3
  have b9 := b5.trans (b9.mono b5.size)
  clear hun q9 bR
  go_wp2_with fail
  obtain ⟨W9, hW9, b99, s9, c0, c1, c2, c3, _⟩ := store4 (.int .i64 0) (.slice none 0 0) (.slice none 0 0) (.slice none 0 0) b9 (Nat.le_refl _) p0 p1 p2 p3
  rw [← hW9]
  exact bodyPost_ret (v := .tuple #[.agg #[.int .i64 0, .slice none 0 0, .slice none 0 0, .slice none 0 0], .int .i64 25]) (by simp [results, Tryd.results17, go_sem, c0, c1, c2, c3]) rfl (outDc_no HE.out (by decide) b99)
end Go.Proofs.YtbnconieedgcmaaDoor
