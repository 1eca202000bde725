/- Rows that are written out; the example's table and bytes; what the calls of the example answer. -/
import Derived.Test.YtbnconieedgcmaaDoorDec3
import Derived.Test.YtbnconieedgcmaaDoorCmps
namespace Go.Proofs.YtbnconieedgcmaaDoor
open Go.RowKit Go.BigFrame
set_option linter.unusedVariables false
set_option maxRecDepth 4000
set_option linter.unusedSimpArgs false

theorem ri_lit (W : World) (a : Nat) (ha : a = W.heap.size) (l : List Int) (k : Nat) (cells : Array Value) (hc : cells.toList = icells l) (hk : l.length = k) (hk4 : k ≤ 1000) : RI (W.alloc (.cells cells 3)) (W.alloc (.cells cells 3)).heap.size (some ⟨a, 0, none⟩) k l := by
  subst ha
  have h := World.ownsRow_lit (e := 3) (size := 1) W cells k (Nat.le_refl _) (by unfold maxLen; omega) (by rw [← Array.length_toList, hc, icells_len, hk, Nat.mul_one])
  rw [hc] at h
  exact own_RI h
theorem rd_lit (W : World) (a : Nat) (ha : a = W.heap.size) (l : List Rg) (k : Nat) (cells : Array Value) (hc : cells.toList = rcells l) (hk : l.length = k) (hk4 : k ≤ 1000) : RD (W.alloc (.cells cells 52)) (W.alloc (.cells cells 52)).heap.size (some ⟨a, 0, none⟩) k l := by
  subst ha
  have h := World.ownsRow_lit (e := 52) (size := 2) W cells k (Nat.le_refl _) (by unfold maxLen; omega) (by rw [← Array.length_toList, hc, rcells_len, hk])
  rw [hc] at h
  exact own_RD h
theorem rn_lit (W : World) (a : Nat) (ha : a = W.heap.size) (H : List Hi) (k : Nat) (cells : Array Value) (hc : cells.toList = icellsOf H) (hk : H.length = k) (hk4 : k ≤ 1000) (hi : ∀ h ∈ H, h.ok W W.heap.size) : RN (W.alloc (.cells cells 49)) (W.alloc (.cells cells 49)).heap.size (some ⟨a, 0, none⟩) k H := by
  subst ha
  have h := World.ownsRow_lit (e := 49) (size := 1) W cells k (Nat.le_refl _) (by unfold maxLen; omega) (by rw [← Array.length_toList, hc, icellsOf_len, hk, Nat.mul_one])
  rw [hc] at h
  exact ⟨hk, Reads.of_own h, fun x hx => ⟨(hi x hx).1.on (below_new _ _), (hi x hx).2⟩⟩
theorem shp2 (a : Addr) : Shp (some a) 2 2 := ⟨fun h => (by cases h), Nat.le_refl _, (by unfold maxLen; omega)⟩
def tW : Tb := { cl := 2, bd := [(0, 0), (65827, 1)], nx := [[0, 1], [1, 0]], br := [false, true] }
theorem tW_may : MayT tW := ⟨by decide, by decide, by decide, by decide, rfl, by decide, by unfold tW byteI; simp, by unfold tW byteI; simp⟩
theorem tW_small : Small tW := ⟨by decide, by decide, by decide⟩
theorem w_bits : IsBits [2] [false, true] := by
  refine ⟨rfl, by decide, fun i => ?_⟩
  by_cases h : i < 8
  · have : ∀ j : Fin 8, bitY [2] j.val = ([false, true][j.val]?).getD false := by decide
    exact this ⟨i, h⟩
  · rw [bitY_out _ _ (by simp; omega), List.getElem?_eq_none (by simp; omega)]; rfl
theorem w_body : bodyB tW [2] = [66, 82, 75, 49, 2, 2, 2, 0, 0, 0, 0, 1, 1, 35, 1, 0, 1, 1, 0, 2] := by decide
def bW : List Nat := sealB [66, 82, 75, 49, 2, 2, 2, 0, 0, 0, 0, 1, 1, 35, 1, 0, 1, 1, 0, 2]
theorem bW_is : IsEnc bW tW := ⟨tW_may, [2], w_bits, by rw [w_body]; rfl⟩
theorem bW_enc : encR tW = some bW := encR_yes bW_is
theorem bW_len : bW.length = 24 := enc_len bW_is
theorem bW_err : errT bW = 0 ∧ decR bW = tW := by
  obtain ⟨h1, h2⟩ := err_enc bW_is
  rw [if_pos (by decide)] at h1
  exact ⟨h1, by rw [decR_yes h1, h2]⟩
theorem bW_at (k v : Nat) (hk : k < 20) (h : ([66, 82, 75, 49, 2, 2, 2, 0, 0, 0, 0, 1, 1, 35, 1, 0, 1, 1, 0, 2] : List Nat)[k]? = some v) : bW[k]? = some v := by
  unfold bW sealB
  rw [List.getElem?_append_left (by simpa using hk)]
  exact h
theorem nil_err : errT [] = 21 ∧ decR [] = zeroT := by
  have h := err_short (b := []) (by simp)
  exact ⟨h, decR_no (by rw [h]; decide)⟩
theorem zero_err : errT (List.replicate 20 0) = 22 ∧ decR (List.replicate 20 0) = zeroT := by
  have h : errT (List.replicate 20 0) = 22 := by
    unfold errT
    rw [if_neg (by simp), if_pos (by decide)]
  exact ⟨h, decR_no (by rw [h]; decide)⟩
theorem decode_is (l : List Nat) (r : Int) (u : Tb) (hE : ((errT l : Nat) : Int) = r) (hD : decR l = u) (n : Nat) (A : Option Addr) (c : Nat) (w : World) (hR : RB w w.heap.size A n l) (hs : Shp A n c) (hn : n ≤ 10000) (hM : Mark w) :
    Calls Tryd.prog 17 #[.slice A n c] w fun e w' => ∃ V : TV, e = .returned (.tuple #[V.v, .int .i64 r]) ∧ V.ok w' ∧ V.tb = u ∧ Below w.heap.size w w' :=
  (decode_any l n A c w hR hs hn hM).mono fun e w' ⟨V, h1, h2, h3, h4⟩ => ⟨V, by rw [← hE]; exact h1, h2, by rw [h3, hD], h4⟩
theorem encode_is (T : TV) (b : List Nat) (n : Nat) (hE : encR T.tb = some b) (hl : b.length = n) (w : World) (hT : T.ok w) (hS : Small T.tb) (hM : Mark w) : Calls Tryd.prog 15 #[T.v] w fun e w' => ∃ (A : Option Addr) (c : Nat), e = .returned (.tuple #[.slice A n c, .bool true]) ∧ RB w' w'.heap.size A n b ∧ Shp A n c ∧ Below w.heap.size w w' := by
  have h := encode_any T w hT hS hM
  rw [hE] at h
  subst hl
  exact h
/-- The rows of a small table. -/
theorem small_n {T : TV} {w : World} (h : T.ok w) (hS : Small T.tb) : T.n1 ≤ 400 ∧ T.n2 ≤ 3000 ∧ T.n3 ≤ 1000 ∧ ∀ x ∈ T.hs, x.n ≤ 3000 := by
  have h1 := h.r1.1
  have h2 := h.r2.1
  have h3 := h.r3.1
  have k1 := hS.k
  have k2 := hS.n
  have k3 := hS.b
  have l2 := bulk_len (listsOf T.hs)
  rw [listsOf_len] at l2
  simp only [TV.tb] at k1 k2 k3
  refine ⟨by omega, by omega, by omega, fun x hx => ?_⟩
  have m := bulk_mem (L := listsOf T.hs) (r := x.l) (List.mem_map.2 ⟨x, hx, rfl⟩)
  have := (h.r2.2.2 x hx).1.1
  omega
theorem same_s (T U : TV) (w : World) (hT : T.ok w) (hU : U.ok w) (hS : Small T.tb) :
    Calls Tryd.prog 21 #[T.v, U.v] w fun e w' => e = .returned (.bool (eqT T.tb U.tb)) ∧ Below w.heap.size w w' := by
  obtain ⟨a, b, c, d⟩ := small_n hT hS
  exact same_any T U w hT hU (by omega) (by omega) (by omega) (fun h hh => by have := d h hh; omega)
theorem keepTable_s (T U : TV) (w : World) (hT : T.ok w) (hU : U.ok w) (hS : Small T.tb) :
    Calls Tryd.prog 20 #[T.v, U.v] w fun e w' => e = .returned (.bool (eqT T.tb U.tb)) ∧ Below w.heap.size w w' := by
  obtain ⟨a, b, c, d⟩ := small_n hT hS
  exact keepTable_any T U w hT hU (by omega) (by omega) (by omega) (fun h hh => by have := d h hh; omega)
theorem wT_ok (w : World) : TV.ok ((((((w.alloc (.cells #[.int .i64 0, .int .i64 0, .int .i64 65827, .int .i64 1] 52)).alloc (.cells #[.int .i64 0, .int .i64 1] 3)).alloc (.cells #[.int .i64 1, .int .i64 0] 3)).alloc (.cells #[.slice (some ⟨w.heap.size + 1, 0, none⟩) 2 2, .slice (some ⟨w.heap.size + 2, 0, none⟩) 2 2] 49)).alloc (.cells #[.bool false, .bool true] 4)).alloc (.cells #[.int .i64 2, .slice (some ⟨w.heap.size, 0, none⟩) 2 2, .slice (some ⟨w.heap.size + 3, 0, none⟩) 2 2, .slice (some ⟨w.heap.size + 4, 0, none⟩) 2 2] 26)) ⟨2, some ⟨w.heap.size, 0, none⟩, 2, 2, [(0, 0), (65827, 1)], some ⟨w.heap.size + 3, 0, none⟩, 2, 2, [⟨some ⟨w.heap.size + 1, 0, none⟩, 2, 2, [0, 1]⟩, ⟨some ⟨w.heap.size + 2, 0, none⟩, 2, 2, [1, 0]⟩], some ⟨w.heap.size + 4, 0, none⟩, 2, 2, [false, true]⟩ ∧ Below w.heap.size w ((((((w.alloc (.cells #[.int .i64 0, .int .i64 0, .int .i64 65827, .int .i64 1] 52)).alloc (.cells #[.int .i64 0, .int .i64 1] 3)).alloc (.cells #[.int .i64 1, .int .i64 0] 3)).alloc (.cells #[.slice (some ⟨w.heap.size + 1, 0, none⟩) 2 2, .slice (some ⟨w.heap.size + 2, 0, none⟩) 2 2] 49)).alloc (.cells #[.bool false, .bool true] 4)).alloc (.cells #[.int .i64 2, .slice (some ⟨w.heap.size, 0, none⟩) 2 2, .slice (some ⟨w.heap.size + 3, 0, none⟩) 2 2, .slice (some ⟨w.heap.size + 4, 0, none⟩) 2 2] 26)) ∧ ((((((w.alloc (.cells #[.int .i64 0, .int .i64 0, .int .i64 65827, .int .i64 1] 52)).alloc (.cells #[.int .i64 0, .int .i64 1] 3)).alloc (.cells #[.int .i64 1, .int .i64 0] 3)).alloc (.cells #[.slice (some ⟨w.heap.size + 1, 0, none⟩) 2 2, .slice (some ⟨w.heap.size + 2, 0, none⟩) 2 2] 49)).alloc (.cells #[.bool false, .bool true] 4)).alloc (.cells #[.int .i64 2, .slice (some ⟨w.heap.size, 0, none⟩) 2 2, .slice (some ⟨w.heap.size + 3, 0, none⟩) 2 2, .slice (some ⟨w.heap.size + 4, 0, none⟩) 2 2] 26)).cell? ⟨w.heap.size + 5, 0, none⟩ = some (.int .i64 2) ∧ ((((((w.alloc (.cells #[.int .i64 0, .int .i64 0, .int .i64 65827, .int .i64 1] 52)).alloc (.cells #[.int .i64 0, .int .i64 1] 3)).alloc (.cells #[.int .i64 1, .int .i64 0] 3)).alloc (.cells #[.slice (some ⟨w.heap.size + 1, 0, none⟩) 2 2, .slice (some ⟨w.heap.size + 2, 0, none⟩) 2 2] 49)).alloc (.cells #[.bool false, .bool true] 4)).alloc (.cells #[.int .i64 2, .slice (some ⟨w.heap.size, 0, none⟩) 2 2, .slice (some ⟨w.heap.size + 3, 0, none⟩) 2 2, .slice (some ⟨w.heap.size + 4, 0, none⟩) 2 2] 26)).cell? ⟨w.heap.size + 5, 1, none⟩ = some (.slice (some ⟨w.heap.size, 0, none⟩) 2 2) ∧ ((((((w.alloc (.cells #[.int .i64 0, .int .i64 0, .int .i64 65827, .int .i64 1] 52)).alloc (.cells #[.int .i64 0, .int .i64 1] 3)).alloc (.cells #[.int .i64 1, .int .i64 0] 3)).alloc (.cells #[.slice (some ⟨w.heap.size + 1, 0, none⟩) 2 2, .slice (some ⟨w.heap.size + 2, 0, none⟩) 2 2] 49)).alloc (.cells #[.bool false, .bool true] 4)).alloc (.cells #[.int .i64 2, .slice (some ⟨w.heap.size, 0, none⟩) 2 2, .slice (some ⟨w.heap.size + 3, 0, none⟩) 2 2, .slice (some ⟨w.heap.size + 4, 0, none⟩) 2 2] 26)).cell? ⟨w.heap.size + 5, 2, none⟩ = some (.slice (some ⟨w.heap.size + 3, 0, none⟩) 2 2) ∧ ((((((w.alloc (.cells #[.int .i64 0, .int .i64 0, .int .i64 65827, .int .i64 1] 52)).alloc (.cells #[.int .i64 0, .int .i64 1] 3)).alloc (.cells #[.int .i64 1, .int .i64 0] 3)).alloc (.cells #[.slice (some ⟨w.heap.size + 1, 0, none⟩) 2 2, .slice (some ⟨w.heap.size + 2, 0, none⟩) 2 2] 49)).alloc (.cells #[.bool false, .bool true] 4)).alloc (.cells #[.int .i64 2, .slice (some ⟨w.heap.size, 0, none⟩) 2 2, .slice (some ⟨w.heap.size + 3, 0, none⟩) 2 2, .slice (some ⟨w.heap.size + 4, 0, none⟩) 2 2] 26)).cell? ⟨w.heap.size + 5, 3, none⟩ = some (.slice (some ⟨w.heap.size + 4, 0, none⟩) 2 2) := by
  have g1 := below_new w (.cells #[.int .i64 0, .int .i64 0, .int .i64 65827, .int .i64 1] 52)
  have z1 : (w.alloc (.cells #[.int .i64 0, .int .i64 0, .int .i64 65827, .int .i64 1] 52)).heap.size = w.heap.size + 1 := by simp
  have d1 := rd_lit w _ rfl [(0, 0), (65827, 1)] 2 #[.int .i64 0, .int .i64 0, .int .i64 65827, .int .i64 1] rfl rfl (by decide)
  generalize (w.alloc (.cells #[.int .i64 0, .int .i64 0, .int .i64 65827, .int .i64 1] 52)) = W1 at *
  have g2 := below_new W1 (.cells #[.int .i64 0, .int .i64 1] 3)
  have z2 : (W1.alloc (.cells #[.int .i64 0, .int .i64 1] 3)).heap.size = w.heap.size + 2 := by simp; omega
  have i1 := ri_lit W1 (w.heap.size + 1) z1.symm [0, 1] 2 #[.int .i64 0, .int .i64 1] rfl rfl (by decide)
  have d2 := d1.on g2
  have G2 := g1.trans (g2.mono (by omega))
  generalize W1.alloc (.cells #[.int .i64 0, .int .i64 1] 3) = W2 at *
  have g3 := below_new W2 (.cells #[.int .i64 1, .int .i64 0] 3)
  have z3 : (W2.alloc (.cells #[.int .i64 1, .int .i64 0] 3)).heap.size = w.heap.size + 3 := by simp; omega
  have i2 := ri_lit W2 (w.heap.size + 2) z2.symm [1, 0] 2 #[.int .i64 1, .int .i64 0] rfl rfl (by decide)
  have i1 := i1.on g3
  have d3 := d2.on g3
  have G3 := G2.trans (g3.mono (by omega))
  generalize W2.alloc (.cells #[.int .i64 1, .int .i64 0] 3) = W3 at *
  have g4 := below_new W3 (.cells #[.slice (some ⟨w.heap.size + 1, 0, none⟩) 2 2, .slice (some ⟨w.heap.size + 2, 0, none⟩) 2 2] 49)
  have z4 : (W3.alloc (.cells #[.slice (some ⟨w.heap.size + 1, 0, none⟩) 2 2, .slice (some ⟨w.heap.size + 2, 0, none⟩) 2 2] 49)).heap.size = w.heap.size + 4 := by simp; omega
  have n4 := rn_lit W3 (w.heap.size + 3) z3.symm [⟨some ⟨w.heap.size + 1, 0, none⟩, 2, 2, [0, 1]⟩, ⟨some ⟨w.heap.size + 2, 0, none⟩, 2, 2, [1, 0]⟩] 2 #[.slice (some ⟨w.heap.size + 1, 0, none⟩) 2 2, .slice (some ⟨w.heap.size + 2, 0, none⟩) 2 2] rfl rfl (by decide) (fun h hh => by
    simp only [List.mem_cons, List.not_mem_nil, or_false] at hh
    rcases hh with rfl | rfl
    · exact ⟨i1, shp2 _⟩
    · exact ⟨i2, shp2 _⟩)
  have d4 := d3.on g4
  have G4 := G3.trans (g4.mono (by omega))
  generalize W3.alloc (.cells #[.slice (some ⟨w.heap.size + 1, 0, none⟩) 2 2, .slice (some ⟨w.heap.size + 2, 0, none⟩) 2 2] 49) = W4 at *
  have g5 := below_new W4 (.cells #[.bool false, .bool true] 4)
  have z5 : (W4.alloc (.cells #[.bool false, .bool true] 4)).heap.size = w.heap.size + 5 := by simp; omega
  have l5 := rl_lit W4 (w.heap.size + 4) z4.symm [false, true] 2 #[.bool false, .bool true] rfl rfl (by decide)
  have n5 := n4.on g5
  have d5 := d4.on g5
  have G5 := G4.trans (g5.mono (by omega))
  generalize W4.alloc (.cells #[.bool false, .bool true] 4) = W5 at *
  have g6 := below_new W5 (.cells #[.int .i64 2, .slice (some ⟨w.heap.size, 0, none⟩) 2 2, .slice (some ⟨w.heap.size + 3, 0, none⟩) 2 2, .slice (some ⟨w.heap.size + 4, 0, none⟩) 2 2] 26)
  exact ⟨⟨d5.on g6, shp2 _, n5.on g6, shp2 _, l5.on g6, shp2 _⟩, G5.trans (g6.mono (by omega)), by rw [← z5]; simp, by rw [← z5]; simp, by rw [← z5]; simp, by rw [← z5]; simp⟩
end Go.Proofs.YtbnconieedgcmaaDoor
