/- Words for the laws: rows that are written out; what the calls of the example answer. -/
import Derived.Test.YtbnconieedgcmaaDoorGetK3
import Derived.Test.YtbnconieedgcmaaDoorGetK4
import Derived.Test.YtbnconieedgcmaaDoorRefGet
import Derived.Test.YtbnconieedgcmaaDoorRefPut
import Derived.Test.YtbnconieedgcmaaDoorRefUnbits
import Derived.Test.YtbnconieedgcmaaDoorRefBits
import Derived.Test.YtbnconieedgcmaaDoorKeep
import Derived.Test.YtbnconieedgcmaaDoorSum
namespace Go.Proofs.YtbnconieedgcmaaDoor
open Go.RowKit Go.BigFrame
set_option linter.unusedVariables false
set_option maxRecDepth 4000
set_option linter.unusedSimpArgs false


theorem rb_lit (W : World) (a : Nat) (ha : a = W.heap.size) (l : List Nat) (k : Nat) (cells : Array Value) (hc : cells.toList = ycells l) (hk : l.length = k) (hk4 : k ≤ 1000) (hy : ∀ x ∈ l, x < 256) : RB (W.alloc (.cells cells 5)) (W.alloc (.cells cells 5)).heap.size (some ⟨a, 0, none⟩) k l := by
  subst ha
  have h := World.ownsRow_lit (e := 5) (size := 1) W cells k (Nat.le_refl _) (by unfold maxLen; omega) (by rw [← Array.length_toList, hc, ycells_len, hk, Nat.mul_one])
  rw [hc] at h
  exact own_RB h hy
theorem rl_lit (W : World) (a : Nat) (ha : a = W.heap.size) (l : List Bool) (k : Nat) (cells : Array Value) (hc : cells.toList = bcells l) (hk : l.length = k) (hk4 : k ≤ 1000) : RL (W.alloc (.cells cells 4)) (W.alloc (.cells cells 4)).heap.size (some ⟨a, 0, none⟩) k l := by
  subst ha
  have h := World.ownsRow_lit (e := 4) (size := 1) W cells k (Nat.le_refl _) (by unfold maxLen; omega) (by rw [← Array.length_toList, hc, bcells_len, hk, Nat.mul_one])
  rw [hc] at h
  exact own_RL h
theorem keepBytes_b (P Q : List Nat) (n m : Nat) (A B : Option Addr) (c d : Nat) (w : World) (hP : RB w w.heap.size A n P) (hQ : RB w w.heap.size B m Q) :
    Calls Tryd.prog 19 #[.slice A n c, .slice B m d] w fun e w' => e = .returned (.bool (eqX P Q)) ∧ Below w.heap.size w w' :=
  (keepBytes_n P Q n m A B c d w hP hQ).mono fun _ _ ⟨he, hw⟩ => ⟨he, by rw [hw]; exact Below.refl _ _⟩
theorem keepBytes_yes (P Q : List Nat) (h : P = Q) (n m : Nat) (A B : Option Addr) (c d : Nat) (w : World) (hP : RB w w.heap.size A n P) (hQ : RB w w.heap.size B m Q) :
    Calls Tryd.prog 19 #[.slice A n c, .slice B m d] w fun e w' => e = .returned (.bool true) ∧ Below w.heap.size w w' := by
  have := keepBytes_b P Q n m A B c d w hP hQ
  rwa [eqX_yes h] at this
theorem keepBools_yes (P Q : List Bool) (h : P = Q) (n m : Nat) (A B : Option Addr) (c d : Nat) (w : World) (hP : RL w w.heap.size A n P) (hQ : RL w w.heap.size B m Q) (hn : n ≤ 1048576) :
    Calls Tryd.prog 63 #[.slice A n c, .slice B m d] w fun e w' => e = .returned (.bool true) ∧ Below w.heap.size w w' := by
  have := keepBools_n P Q n m A B c d w hP hQ hn
  rwa [eqX_yes h] at this
theorem sum_b (l : List Nat) (n : Nat) (A : Option Addr) (c : Nat) (w : World) (hR : RB w w.heap.size A n l) (hn : n ≤ 1048576) :
    Calls Tryd.prog 47 #[.slice A n c] w fun e w' => e = .returned (.int .u32 (sumL l : Nat)) ∧ Below w.heap.size w w' :=
  (sum_any l n A c w hR hn).mono fun _ _ ⟨he, hw⟩ => ⟨he, by rw [hw]; exact Below.refl _ _⟩
theorem refSum_b (l : List Nat) (n : Nat) (A : Option Addr) (c : Nat) (w : World) (hR : RB w w.heap.size A n l) (hn : n ≤ 1048576) :
    Calls Tryd.prog 51 #[.slice A n c] w fun e w' => e = .returned (.int .u32 (sumL l : Nat)) ∧ Below w.heap.size w w' :=
  (refSum_any l n A c w hR hn).mono fun _ _ ⟨he, hw⟩ => ⟨he, by rw [hw]; exact Below.refl _ _⟩
/-- A new row of bytes, read. -/
def OutR (l : List Nat) (n : Nat) (w : World) (e : Ending) (w' : World) : Prop :=
  ∃ (A : Option Addr) (c : Nat), e = .returned (.slice A n c) ∧ RB w' w'.heap.size A n l ∧ Shp A n c ∧ Below w.heap.size w w'
theorem OutY.r {l : List Nat} {n : Nat} {w w' : World} {e : Ending} (h : OutY l n w e w') : OutR l n w e w' := by
  obtain ⟨A, c, he, _, hy, ho, hb⟩ := h
  exact ⟨A, c, he, own_RB ho hy, own_shp ho, hb⟩
theorem put_r (b : List Nat) (n : Nat) (A : Option Addr) (c : Nat) (v size : Int) (w : World) (hA : Shp A n c) (hR : RB w w.heap.size A n b) (hn : n ≤ 10000) :
    Calls Tryd.prog 45 #[.slice A n c, .int .i64 v, .int .i64 size] w (OutR (b ++ lowB v (cutN size)) (n + cutN size) w) := (put_any b n A c v size w hA.1 hR hn).mono fun _ _ h => h.r
theorem refPut_r (b : List Nat) (n : Nat) (A : Option Addr) (c : Nat) (v size : Int) (w : World) (hA : Shp A n c) (hR : RB w w.heap.size A n b) (hn : n ≤ 10000) :
    Calls Tryd.prog 49 #[.slice A n c, .int .i64 v, .int .i64 size] w (OutR (b ++ lowB v (cutN size)) (n + cutN size) w) := (refPut_any b n A c v size w hA.1 hR hn).mono fun _ _ h => h.r

theorem bits_is (b : List Nat) (m : Nat) (l : List Bool) (hb : IsBits b l) (n : Nat) (hm : (n + 7) / 8 = m) (A : Option Addr) (c : Nat) (w : World) (hR : RL w w.heap.size A n l) (hn : n ≤ 10000) :
    Calls Tryd.prog 46 #[.slice A n c] w (OutR b m w) :=
  (bits_any l n A c w hR hn).mono fun _ _ ⟨b', h', ho⟩ => by rw [hb.uniq h', ← hm]; exact ho.r
theorem refBits_is (b : List Nat) (m : Nat) (l : List Bool) (hb : IsBits b l) (n : Nat) (hm : (n + 7) / 8 = m) (A : Option Addr) (c : Nat) (w : World) (hR : RL w w.heap.size A n l) (hn : n ≤ 10000) :
    Calls Tryd.prog 50 #[.slice A n c] w (OutR b m w) :=
  (refBits_any l n A c w hR hn).mono fun _ _ ⟨b', h', ho⟩ => by rw [hb.uniq h', ← hm]; exact ho.r
theorem isBits_some (l : List Bool) : ∃ b, IsBits b l := by
  have key : ∀ k, k ≤ l.length → ∃ bs, BInv l k ((l.length + 7) / 8) bs := by
    intro k
    induction k with
    | zero => exact fun _ => ⟨_, binv_0 l _⟩
    | succ k ih =>
      intro hk
      obtain ⟨bs, h⟩ := ih (by omega)
      cases hx : l[k]
      · exact ⟨bs, binv_skip h (by omega) hx⟩
      · exact ⟨_, binv_set h (by omega) hx (by rw [h.1]; omega)⟩
  obtain ⟨bs, h⟩ := key l.length (Nat.le_refl _)
  exact ⟨bs, binv_all h rfl rfl⟩

end Go.Proofs.YtbnconieedgcmaaDoor
