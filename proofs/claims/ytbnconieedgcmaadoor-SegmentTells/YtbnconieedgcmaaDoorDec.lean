/- What Decode returns. -/
import Derived.Test.YtbnconieedgcmaaDoorDMath
namespace Go.Proofs.YtbnconieedgcmaaDoor
open Go.RowKit Go.BigFrame
set_option linter.unusedVariables false
set_option maxRecDepth 4000
set_option linter.unusedSimpArgs false

theorem kept_frozen {w w' : World} {g i : Nat} (h : Below w.heap.size w w') (hg : g < w.heap.size) (hf : w.frozen? ⟨g, i, none⟩ = false) : w'.frozen? ⟨g, i, none⟩ = false := (h.frozen (p := ⟨g, i, none⟩) hg).trans hf
theorem store4 {w0 w : World} {B g : Nat} {o0 o1 o2 o3 : Value} (v0 v1 v2 v3 : Value) (hb : Below B w0 w) (hBg : B ≤ g) (p0 : w.cell? ⟨g, 0, none⟩ = some o0) (p1 : w.cell? ⟨g, 1, none⟩ = some o1) (p2 : w.cell? ⟨g, 2, none⟩ = some o2) (p3 : w.cell? ⟨g, 3, none⟩ = some o3) :
    ∃ W, W = (((w.setCell ⟨g, 0, none⟩ v0).setCell ⟨g, 1, none⟩ v1).setCell ⟨g, 2, none⟩ v2).setCell ⟨g, 3, none⟩ v3 ∧ Below B w0 W ∧ W.heap.size = w.heap.size ∧ W.cell? ⟨g, 0, none⟩ = some v0 ∧ W.cell? ⟨g, 1, none⟩ = some v1 ∧ W.cell? ⟨g, 2, none⟩ = some v2 ∧ W.cell? ⟨g, 3, none⟩ = some v3 ∧
      ∀ (base : Nat) (e : TypeId) (size : Nat) (v : Value) (n : Nat) (xs : List Value), g < base → w.ownsRow base e size v n xs → W.ownsRow base e size v n xs := by
  refine ⟨_, rfl, (((hb.setCell (p := ⟨g, 0, none⟩) hBg _).setCell (p := ⟨g, 1, none⟩) hBg _).setCell (p := ⟨g, 2, none⟩) hBg _).setCell (p := ⟨g, 3, none⟩) hBg _, by simp, ?_, ?_, ?_, ?_, fun base e size v n xs h ho => ownsRow_setCell_below (ownsRow_setCell_below (ownsRow_setCell_below (ownsRow_setCell_below ho h _) h _) h _) h _⟩
  · simp [go_sem, p0, p1, p2, p3]
  · simp [go_sem, p0, p1, p2, p3]
  · simp [go_sem, p0, p1, p2, p3]
  · simp [go_sem, p0, p1, p2, p3]
theorem far4 {w : World} {g k i : Nat} {u v0 v1 v2 v3 : Value} (h : w.cell? ⟨k, i, none⟩ = some u) (hne : g ≠ k) : ((((w.setCell ⟨g, 0, none⟩ v0).setCell ⟨g, 1, none⟩ v1).setCell ⟨g, 2, none⟩ v2).setCell ⟨g, 3, none⟩ v3).cell? ⟨k, i, none⟩ = some u := by
  rw [World.cell?_setCell_far _ _ _ _ hne, World.cell?_setCell_far _ _ _ _ hne, World.cell?_setCell_far _ _ _ _ hne, World.cell?_setCell_far _ _ _ _ hne]; exact h
theorem below4 {w0 w : World} {B g : Nat} {v0 v1 v2 v3 : Value} (hb : Below B w0 w) (hBg : B ≤ g) : Below B w0 ((((w.setCell ⟨g, 0, none⟩ v0).setCell ⟨g, 1, none⟩ v1).setCell ⟨g, 2, none⟩ v2).setCell ⟨g, 3, none⟩ v3) :=
  (((hb.setCell (p := ⟨g, 0, none⟩) hBg _).setCell (p := ⟨g, 1, none⟩) hBg _).setCell (p := ⟨g, 2, none⟩) hBg _).setCell (p := ⟨g, 3, none⟩) hBg _
/-- The result's cells as they were laid. -/
def Res (g : Nat) (w : World) : Prop := g < w.heap.size ∧ (w.cell? ⟨g, 0, none⟩ = some (.int .i64 0) ∧ w.cell? ⟨g, 1, none⟩ = some (.slice none 0 0) ∧ w.cell? ⟨g, 2, none⟩ = some (.slice none 0 0) ∧ w.cell? ⟨g, 3, none⟩ = some (.slice none 0 0)) ∧ w.frozen? ⟨g, 0, none⟩ = false ∧ w.frozen? ⟨g, 1, none⟩ = false ∧ w.frozen? ⟨g, 2, none⟩ = false ∧ w.frozen? ⟨g, 3, none⟩ = false
theorem Res.parts {g : Nat} {w : World} (h : Res g w) : g < w.heap.size ∧ (w.cell? ⟨g, 0, none⟩ = some (.int .i64 0) ∧ w.cell? ⟨g, 1, none⟩ = some (.slice none 0 0) ∧ w.cell? ⟨g, 2, none⟩ = some (.slice none 0 0) ∧ w.cell? ⟨g, 3, none⟩ = some (.slice none 0 0)) ∧ w.frozen? ⟨g, 0, none⟩ = false ∧ w.frozen? ⟨g, 1, none⟩ = false ∧ w.frozen? ⟨g, 2, none⟩ = false ∧ w.frozen? ⟨g, 3, none⟩ = false := h
theorem Res.drew {g : Nat} {w : World} (h : Res g w) : Res g w.drew := by
  unfold Res at h ⊢
  exact h
theorem Res.on {g : Nat} {w w' : World} (h : Res g w) (b : Below w.heap.size w w') : Res g w' :=
  ⟨Nat.lt_of_lt_of_le h.1 b.size, ⟨kept_cell b h.2.1.1, kept_cell b h.2.1.2.1, kept_cell b h.2.1.2.2.1, kept_cell b h.2.1.2.2.2⟩, kept_frozen b h.1 h.2.2.1, kept_frozen b h.1 h.2.2.2.1, kept_frozen b h.1 h.2.2.2.2.1, kept_frozen b h.1 h.2.2.2.2.2⟩
set_option maxRecDepth 4000 in
set_option maxHeartbeats 4000000 in
theorem decode_seal (l : List Nat) (n : Nat) (A : Option Addr) (c : Nat) (w : World) (hR : RB w w.heap.size A n l) (hnc : n ≤ c) (hn : n ≤ 10000) (hM : Mark w) (h0 : sealE l ≠ 0) :
    Calls Tryd.prog 17 #[.slice A n c] w (OutDc l w) := by
  have HSeal := Lib.hid (fun W (g : Below w.heap.size w W) => sealFault_any l n A c W (hR.on g) hnc (by omega) (hM.on g))
  have HE := Lib.hid (errT_seal h0)
  generalize sealE l = r at *
  have hne : ((r : Int) != 0) = true := by rw [bne_iff_ne]; omega
  have HR0 := Lib.hid h0
  clear hR hM h0
  go_enter Tryd.func17, Tryd.ntmps17
  go_wp2_with fail
  have hg0 : w.heap.size < (w.alloc (.cells #[.int .i64 0, .slice none 0 0, .slice none 0 0, .slice none 0 0] 26)).heap.size := by simp
  have p0 : (w.alloc (.cells #[.int .i64 0, .slice none 0 0, .slice none 0 0, .slice none 0 0] 26)).cell? ⟨w.heap.size, 0, none⟩ = some (.int .i64 0) := by simp
  have f0 : (w.alloc (.cells #[.int .i64 0, .slice none 0 0, .slice none 0 0, .slice none 0 0] 26)).frozen? ⟨w.heap.size, 0, none⟩ = false := World.frozen?_alloc_at _ _ _ _ rfl
  have p1 : (w.alloc (.cells #[.int .i64 0, .slice none 0 0, .slice none 0 0, .slice none 0 0] 26)).cell? ⟨w.heap.size, 1, none⟩ = some (.slice none 0 0) := by simp
  have f1 : (w.alloc (.cells #[.int .i64 0, .slice none 0 0, .slice none 0 0, .slice none 0 0] 26)).frozen? ⟨w.heap.size, 1, none⟩ = false := World.frozen?_alloc_at _ _ _ _ rfl
  have p2 : (w.alloc (.cells #[.int .i64 0, .slice none 0 0, .slice none 0 0, .slice none 0 0] 26)).cell? ⟨w.heap.size, 2, none⟩ = some (.slice none 0 0) := by simp
  have f2 : (w.alloc (.cells #[.int .i64 0, .slice none 0 0, .slice none 0 0, .slice none 0 0] 26)).frozen? ⟨w.heap.size, 2, none⟩ = false := World.frozen?_alloc_at _ _ _ _ rfl
  have p3 : (w.alloc (.cells #[.int .i64 0, .slice none 0 0, .slice none 0 0, .slice none 0 0] 26)).cell? ⟨w.heap.size, 3, none⟩ = some (.slice none 0 0) := by simp
  have f3 : (w.alloc (.cells #[.int .i64 0, .slice none 0 0, .slice none 0 0, .slice none 0 0] 26)).frozen? ⟨w.heap.size, 3, none⟩ = false := World.frozen?_alloc_at _ _ _ _ rfl
  have b0 := below_new w (.cells #[.int .i64 0, .slice none 0 0, .slice none 0 0, .slice none 0 0] 26)
  generalize (w.alloc (.cells #[.int .i64 0, .slice none 0 0, .slice none 0 0, .slice none 0 0] 26)) = W at *
  refine (HSeal.out _ b0).mono ?_
  rintro e w1 ⟨rfl, g1⟩
  have p0 := kept_cell g1 p0
  have f0 := kept_frozen g1 hg0 f0
  have p1 := kept_cell g1 p1
  have f1 := kept_frozen g1 hg0 f1
  have p2 := kept_cell g1 p2
  have f2 := kept_frozen g1 hg0 f2
  have p3 := kept_cell g1 p3
  have f3 := kept_frozen g1 hg0 f3
  have b1 := b0.trans (g1.mono b0.size)
  have hg0 : w.heap.size < w1.heap.size := Nat.lt_of_lt_of_le hg0 g1.size
  clear g1 b0 HSeal
  go_wp2_with fail
  obtain ⟨W9, hW9, b9, s9, c0, c1, c2, c3, _⟩ := store4 (.int .i64 0) (.slice none 0 0) (.slice none 0 0) (.slice none 0 0) b1 (Nat.le_refl _) p0 p1 p2 p3
  rw [← hW9]
  exact bodyPost_ret (v := .tuple #[.agg #[.int .i64 0, .slice none 0 0, .slice none 0 0, .slice none 0 0], .int .i64 (r : Int)]) (by simp [results, Tryd.results17, go_sem, c0, c1, c2, c3]) rfl (outDc_no HE.out HR0.out b9)

set_option maxRecDepth 4000 in
set_option maxHeartbeats 4000000 in
theorem decode_count (l : List Nat) (n : Nat) (A : Option Addr) (c : Nat) (w : World) (hR : RB w w.heap.size A n l) (hnc : n ≤ c) (hn : n ≤ 10000) (hM : Mark w) (h0 : sealE l = 0) (h1 : ¬ (cntB (l[4]?.getD 0) (l[5]?.getD 0) (l[6]?.getD 0) = true ∧ lenT (l[4]?.getD 0) (l[5]?.getD 0) (l[6]?.getD 0) = l.length)) :
    Calls Tryd.prog 17 #[.slice A n c] w (OutDc l w) := by
  have HSeal := Lib.hid (fun W (g : Below w.heap.size w W) => sealFault_any l n A c W (hR.on g) hnc (by omega) (hM.on g))
  rw [h0] at HSeal
  obtain ⟨hz1, _, _⟩ := seal_zero h0
  have hl := hR.1
  have hn11 : 11 ≤ n := by omega
  have HCo := Lib.hid (fun W (g : Below w.heap.size w W) => countsOf_any l n A c W (hR.on g) (by omega) (by omega))
  have hx4 : l[4]?.getD 0 < 256 := by rw [getD_at l 4 (by omega)]; exact hR.2.2 _ (List.getElem_mem _)
  have hx5 : l[5]?.getD 0 < 256 := by rw [getD_at l 5 (by omega)]; exact hR.2.2 _ (List.getElem_mem _)
  have hx6 : l[6]?.getD 0 < 256 := by rw [getD_at l 6 (by omega)]; exact hR.2.2 _ (List.getElem_mem _)
  have HE := Lib.hid (errT_count h0 h1)
  rw [hl] at h1
  generalize l[4]?.getD 0 = x4 at *
  generalize l[5]?.getD 0 = x5 at *
  generalize l[6]?.getD 0 = x6 at *
  have HMay := Lib.hid (mayBe_any x4 x5 x6)
  have HLen := Lib.hid (length_any x4 x5 x6 (by omega) (by omega) (by omega))
  clear hR hM h0 hz1 hl
  cases hc : cntB x4 x5 x6
  · rw [hc] at HMay
    clear h1 hc
    go_enter Tryd.func17, Tryd.ntmps17
    go_wp2_with fail
    have hg0 : w.heap.size < (w.alloc (.cells #[.int .i64 0, .slice none 0 0, .slice none 0 0, .slice none 0 0] 26)).heap.size := by simp
    have p0 : (w.alloc (.cells #[.int .i64 0, .slice none 0 0, .slice none 0 0, .slice none 0 0] 26)).cell? ⟨w.heap.size, 0, none⟩ = some (.int .i64 0) := by simp
    have f0 : (w.alloc (.cells #[.int .i64 0, .slice none 0 0, .slice none 0 0, .slice none 0 0] 26)).frozen? ⟨w.heap.size, 0, none⟩ = false := World.frozen?_alloc_at _ _ _ _ rfl
    have p1 : (w.alloc (.cells #[.int .i64 0, .slice none 0 0, .slice none 0 0, .slice none 0 0] 26)).cell? ⟨w.heap.size, 1, none⟩ = some (.slice none 0 0) := by simp
    have f1 : (w.alloc (.cells #[.int .i64 0, .slice none 0 0, .slice none 0 0, .slice none 0 0] 26)).frozen? ⟨w.heap.size, 1, none⟩ = false := World.frozen?_alloc_at _ _ _ _ rfl
    have p2 : (w.alloc (.cells #[.int .i64 0, .slice none 0 0, .slice none 0 0, .slice none 0 0] 26)).cell? ⟨w.heap.size, 2, none⟩ = some (.slice none 0 0) := by simp
    have f2 : (w.alloc (.cells #[.int .i64 0, .slice none 0 0, .slice none 0 0, .slice none 0 0] 26)).frozen? ⟨w.heap.size, 2, none⟩ = false := World.frozen?_alloc_at _ _ _ _ rfl
    have p3 : (w.alloc (.cells #[.int .i64 0, .slice none 0 0, .slice none 0 0, .slice none 0 0] 26)).cell? ⟨w.heap.size, 3, none⟩ = some (.slice none 0 0) := by simp
    have f3 : (w.alloc (.cells #[.int .i64 0, .slice none 0 0, .slice none 0 0, .slice none 0 0] 26)).frozen? ⟨w.heap.size, 3, none⟩ = false := World.frozen?_alloc_at _ _ _ _ rfl
    have b0 := below_new w (.cells #[.int .i64 0, .slice none 0 0, .slice none 0 0, .slice none 0 0] 26)
    generalize (w.alloc (.cells #[.int .i64 0, .slice none 0 0, .slice none 0 0, .slice none 0 0] 26)) = W at *
    refine (HSeal.out _ b0).mono ?_
    rintro e w1 ⟨rfl, g1⟩
    have p0 := kept_cell g1 p0
    have f0 := kept_frozen g1 hg0 f0
    have p1 := kept_cell g1 p1
    have f1 := kept_frozen g1 hg0 f1
    have p2 := kept_cell g1 p2
    have f2 := kept_frozen g1 hg0 f2
    have p3 := kept_cell g1 p3
    have f3 := kept_frozen g1 hg0 f3
    have b1 := b0.trans (g1.mono b0.size)
    have hg0 : w.heap.size < w1.heap.size := Nat.lt_of_lt_of_le hg0 g1.size
    clear g1 b0 HSeal
    go_wp2_with fail
    refine (HCo.out _ b1).mono ?_
    rintro e w2 ⟨rfl, g2⟩
    have p0 := kept_cell g2 p0
    have f0 := kept_frozen g2 hg0 f0
    have p1 := kept_cell g2 p1
    have f1 := kept_frozen g2 hg0 f1
    have p2 := kept_cell g2 p2
    have f2 := kept_frozen g2 hg0 f2
    have p3 := kept_cell g2 p3
    have f3 := kept_frozen g2 hg0 f3
    have b2 := b1.trans (g2.mono b1.size)
    have hg0 : w.heap.size < w2.heap.size := Nat.lt_of_lt_of_le hg0 g2.size
    clear g2 b1 HCo
    go_wp2_with fail
    have g3 := below_new w2 (.cells #[.int .i64 x4, .int .i64 x5, .int .i64 x6] 82)
    have s0 : (w2.alloc (.cells #[.int .i64 x4, .int .i64 x5, .int .i64 x6] 82)).cell? ⟨w2.heap.size, 0, none⟩ = some (.int .i64 x4) := by simp
    have s1 : (w2.alloc (.cells #[.int .i64 x4, .int .i64 x5, .int .i64 x6] 82)).cell? ⟨w2.heap.size, 1, none⟩ = some (.int .i64 x5) := by simp
    have s2 : (w2.alloc (.cells #[.int .i64 x4, .int .i64 x5, .int .i64 x6] 82)).cell? ⟨w2.heap.size, 2, none⟩ = some (.int .i64 x6) := by simp
    have p0 := kept_cell g3 p0
    have f0 := kept_frozen g3 hg0 f0
    have p1 := kept_cell g3 p1
    have f1 := kept_frozen g3 hg0 f1
    have p2 := kept_cell g3 p2
    have f2 := kept_frozen g3 hg0 f2
    have p3 := kept_cell g3 p3
    have f3 := kept_frozen g3 hg0 f3
    have b3 := b2.trans (g3.mono b2.size)
    have hgc : w.heap.size < w2.heap.size := hg0
    have hg0 : w.heap.size < (w2.alloc (.cells #[.int .i64 x4, .int .i64 x5, .int .i64 x6] 82)).heap.size := Nat.lt_of_lt_of_le hg0 g3.size
    clear g3 b2
    generalize w2.alloc (.cells #[.int .i64 x4, .int .i64 x5, .int .i64 x6] 82) = W3 at *
    refine (HMay.out _).mono ?_
    rintro e w4 ⟨rfl, g4⟩
    have p0 := kept_cell g4 p0
    have f0 := kept_frozen g4 hg0 f0
    have p1 := kept_cell g4 p1
    have f1 := kept_frozen g4 hg0 f1
    have p2 := kept_cell g4 p2
    have f2 := kept_frozen g4 hg0 f2
    have p3 := kept_cell g4 p3
    have f3 := kept_frozen g4 hg0 f3
    have s0 := kept_cell g4 s0
    have s1 := kept_cell g4 s1
    have s2 := kept_cell g4 s2
    have b4 := b3.trans (g4.mono b3.size)
    have hg0 : w.heap.size < w4.heap.size := Nat.lt_of_lt_of_le hg0 g4.size
    clear g4 b3 HMay
    go_wp2_with fail
    obtain ⟨W9, hW9, b9, s9, c0, c1, c2, c3, _⟩ := store4 (.int .i64 0) (.slice none 0 0) (.slice none 0 0) (.slice none 0 0) b4 (Nat.le_refl _) p0 p1 p2 p3
    rw [← hW9]
    exact bodyPost_ret (v := .tuple #[.agg #[.int .i64 0, .slice none 0 0, .slice none 0 0, .slice none 0 0], .int .i64 24]) (by simp [results, Tryd.results17, go_sem, c0, c1, c2, c3]) rfl (outDc_no HE.out (by decide) b9)
  · rw [hc] at HMay
    have hne : ((lenT x4 x5 x6 : Nat) : Int) ≠ (n : Int) := fun h => h1 ⟨hc, by omega⟩
    generalize lenT x4 x5 x6 = z at *
    have hbn : ((z : Int) != (n : Int)) = true := by rw [bne_iff_ne]; exact hne
    clear h1 hc hne
    go_enter Tryd.func17, Tryd.ntmps17
    go_wp2_with fail
    have hg0 : w.heap.size < (w.alloc (.cells #[.int .i64 0, .slice none 0 0, .slice none 0 0, .slice none 0 0] 26)).heap.size := by simp
    have p0 : (w.alloc (.cells #[.int .i64 0, .slice none 0 0, .slice none 0 0, .slice none 0 0] 26)).cell? ⟨w.heap.size, 0, none⟩ = some (.int .i64 0) := by simp
    have f0 : (w.alloc (.cells #[.int .i64 0, .slice none 0 0, .slice none 0 0, .slice none 0 0] 26)).frozen? ⟨w.heap.size, 0, none⟩ = false := World.frozen?_alloc_at _ _ _ _ rfl
    have p1 : (w.alloc (.cells #[.int .i64 0, .slice none 0 0, .slice none 0 0, .slice none 0 0] 26)).cell? ⟨w.heap.size, 1, none⟩ = some (.slice none 0 0) := by simp
    have f1 : (w.alloc (.cells #[.int .i64 0, .slice none 0 0, .slice none 0 0, .slice none 0 0] 26)).frozen? ⟨w.heap.size, 1, none⟩ = false := World.frozen?_alloc_at _ _ _ _ rfl
    have p2 : (w.alloc (.cells #[.int .i64 0, .slice none 0 0, .slice none 0 0, .slice none 0 0] 26)).cell? ⟨w.heap.size, 2, none⟩ = some (.slice none 0 0) := by simp
    have f2 : (w.alloc (.cells #[.int .i64 0, .slice none 0 0, .slice none 0 0, .slice none 0 0] 26)).frozen? ⟨w.heap.size, 2, none⟩ = false := World.frozen?_alloc_at _ _ _ _ rfl
    have p3 : (w.alloc (.cells #[.int .i64 0, .slice none 0 0, .slice none 0 0, .slice none 0 0] 26)).cell? ⟨w.heap.size, 3, none⟩ = some (.slice none 0 0) := by simp
    have f3 : (w.alloc (.cells #[.int .i64 0, .slice none 0 0, .slice none 0 0, .slice none 0 0] 26)).frozen? ⟨w.heap.size, 3, none⟩ = false := World.frozen?_alloc_at _ _ _ _ rfl
    have b0 := below_new w (.cells #[.int .i64 0, .slice none 0 0, .slice none 0 0, .slice none 0 0] 26)
    generalize (w.alloc (.cells #[.int .i64 0, .slice none 0 0, .slice none 0 0, .slice none 0 0] 26)) = W at *
    refine (HSeal.out _ b0).mono ?_
    rintro e w1 ⟨rfl, g1⟩
    have p0 := kept_cell g1 p0
    have f0 := kept_frozen g1 hg0 f0
    have p1 := kept_cell g1 p1
    have f1 := kept_frozen g1 hg0 f1
    have p2 := kept_cell g1 p2
    have f2 := kept_frozen g1 hg0 f2
    have p3 := kept_cell g1 p3
    have f3 := kept_frozen g1 hg0 f3
    have b1 := b0.trans (g1.mono b0.size)
    have hg0 : w.heap.size < w1.heap.size := Nat.lt_of_lt_of_le hg0 g1.size
    clear g1 b0 HSeal
    go_wp2_with fail
    refine (HCo.out _ b1).mono ?_
    rintro e w2 ⟨rfl, g2⟩
    have p0 := kept_cell g2 p0
    have f0 := kept_frozen g2 hg0 f0
    have p1 := kept_cell g2 p1
    have f1 := kept_frozen g2 hg0 f1
    have p2 := kept_cell g2 p2
    have f2 := kept_frozen g2 hg0 f2
    have p3 := kept_cell g2 p3
    have f3 := kept_frozen g2 hg0 f3
    have b2 := b1.trans (g2.mono b1.size)
    have hg0 : w.heap.size < w2.heap.size := Nat.lt_of_lt_of_le hg0 g2.size
    clear g2 b1 HCo
    go_wp2_with fail
    have g3 := below_new w2 (.cells #[.int .i64 x4, .int .i64 x5, .int .i64 x6] 82)
    have s0 : (w2.alloc (.cells #[.int .i64 x4, .int .i64 x5, .int .i64 x6] 82)).cell? ⟨w2.heap.size, 0, none⟩ = some (.int .i64 x4) := by simp
    have s1 : (w2.alloc (.cells #[.int .i64 x4, .int .i64 x5, .int .i64 x6] 82)).cell? ⟨w2.heap.size, 1, none⟩ = some (.int .i64 x5) := by simp
    have s2 : (w2.alloc (.cells #[.int .i64 x4, .int .i64 x5, .int .i64 x6] 82)).cell? ⟨w2.heap.size, 2, none⟩ = some (.int .i64 x6) := by simp
    have p0 := kept_cell g3 p0
    have f0 := kept_frozen g3 hg0 f0
    have p1 := kept_cell g3 p1
    have f1 := kept_frozen g3 hg0 f1
    have p2 := kept_cell g3 p2
    have f2 := kept_frozen g3 hg0 f2
    have p3 := kept_cell g3 p3
    have f3 := kept_frozen g3 hg0 f3
    have b3 := b2.trans (g3.mono b2.size)
    have hgc : w.heap.size < w2.heap.size := hg0
    have hg0 : w.heap.size < (w2.alloc (.cells #[.int .i64 x4, .int .i64 x5, .int .i64 x6] 82)).heap.size := Nat.lt_of_lt_of_le hg0 g3.size
    clear g3 b2
    generalize w2.alloc (.cells #[.int .i64 x4, .int .i64 x5, .int .i64 x6] 82) = W3 at *
    refine (HMay.out _).mono ?_
    rintro e w4 ⟨rfl, g4⟩
    have p0 := kept_cell g4 p0
    have f0 := kept_frozen g4 hg0 f0
    have p1 := kept_cell g4 p1
    have f1 := kept_frozen g4 hg0 f1
    have p2 := kept_cell g4 p2
    have f2 := kept_frozen g4 hg0 f2
    have p3 := kept_cell g4 p3
    have f3 := kept_frozen g4 hg0 f3
    have s0 := kept_cell g4 s0
    have s1 := kept_cell g4 s1
    have s2 := kept_cell g4 s2
    have b4 := b3.trans (g4.mono b3.size)
    have hg0 : w.heap.size < w4.heap.size := Nat.lt_of_lt_of_le hg0 g4.size
    clear g4 b3 HMay
    go_wp2_with fail
    refine (HLen.out _).mono ?_
    rintro e w5 ⟨rfl, g5⟩
    have p0 := kept_cell g5 p0
    have f0 := kept_frozen g5 hg0 f0
    have p1 := kept_cell g5 p1
    have f1 := kept_frozen g5 hg0 f1
    have p2 := kept_cell g5 p2
    have f2 := kept_frozen g5 hg0 f2
    have p3 := kept_cell g5 p3
    have f3 := kept_frozen g5 hg0 f3
    have s0 := kept_cell g5 s0
    have s1 := kept_cell g5 s1
    have s2 := kept_cell g5 s2
    have b5 := b4.trans (g5.mono b4.size)
    have hg0 : w.heap.size < w5.heap.size := Nat.lt_of_lt_of_le hg0 g5.size
    clear g5 b4 HLen
    go_wp2_with fail
    obtain ⟨W9, hW9, b9, s9, c0, c1, c2, c3, _⟩ := store4 (.int .i64 0) (.slice none 0 0) (.slice none 0 0) (.slice none 0 0) b5 (Nat.le_refl _) p0 p1 p2 p3
    rw [← hW9]
    exact bodyPost_ret (v := .tuple #[.agg #[.int .i64 0, .slice none 0 0, .slice none 0 0, .slice none 0 0], .int .i64 24]) (by simp [results, Tryd.results17, go_sem, c0, c1, c2, c3]) rfl (outDc_no HE.out (by decide) b9)

end Go.Proofs.YtbnconieedgcmaaDoor
