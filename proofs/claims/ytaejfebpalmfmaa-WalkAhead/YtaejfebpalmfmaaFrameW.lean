/- The example of the statements; from the rows to the walks. -/
import Derived.Test.YtaejfebpalmfmaaOwnT
import Derived.Test.YtaejfebpalmfmaaValB
import Derived.Test.YtaejfebpalmfmaaWakeKit
import Derived.ProofKit
import Derived.OpenShut
import Derived.Deep.Slices
import Derived.Deep.DeepHandedRow
import Derived.Lib.LaidTab
import Derived.LaidMore
import Derived.ChangeOld
import Derived.Below
/- A table of the call's own: its parts read and written. -/
namespace Go.Proofs.Ytaejfebpalmfmaa
open Go.RowKit Go.BigFrame
set_option linter.unusedVariables false
set_option maxRecDepth 4000
set_option linter.unusedSimpArgs false

theorem OwnTb.on {w w' : World} {base : Nat} {T : TV} (h : OwnTb w base T) (g : Below w.heap.size w w') : OwnTb w' base T := ⟨h.z1.on g, h.z2.on g, h.z3.on g, h.ap⟩
theorem OwnTb.lower {w : World} {base base' : Nat} {T : TV} (h : OwnTb w base T) (hb : base' ≤ base) : OwnTb w base' T := ⟨h.z1.lower hb, h.z2.lower hb, h.z3.lower hb, h.ap⟩
theorem OwnZ.rd {w : World} {base n c : Nat} {A : Option Addr} {l : List Rg} (h : OwnZ w base 49 2 A n c (rcells l)) : RD w w.heap.size A n l := by
  refine ⟨?_, h.reads⟩
  have h1 := h.reads.1
  rw [rcells_len] at h1
  omega
theorem OwnZ.rl {w : World} {base n c : Nat} {A : Option Addr} {l : List Bool} (h : OwnZ w base 4 1 A n c (bcells l)) : RL w w.heap.size A n l := by
  refine ⟨?_, h.reads⟩
  have h1 := h.reads.1
  rw [bcells_len] at h1
  omega
theorem OwnTb.ok {w : World} {base : Nat} {T : TV} (h : OwnTb w base T) : T.ok w := ⟨h.z1.rd, h.z1.1, h.z2.nest.1, h.z2.nest.2, h.z3.rl, h.z3.1⟩
/-- A row of the call's own that is not empty. -/
theorem OwnZ.open_ {w : World} {base size n c : Nat} {e : TypeId} {A : Option Addr} {xs : List Value} (h : OwnZ w base e size A n c xs) (hn : 0 < n) : ∃ g, A = some ⟨g, 0, none⟩ ∧ base ≤ g ∧ g < w.heap.size ∧ w.ownsRow base e size (.slice (some ⟨g, 0, none⟩) n c) n xs := by
  rcases h.2 with ⟨h0, _⟩ | h1
  · omega
  · obtain ⟨g, cap, hv, hb, hlt⟩ := h1.form hn
    have hA : A = some ⟨g, 0, none⟩ := by injection hv
    subst hA
    exact ⟨g, rfl, hb, hlt, h1⟩
/-- A store into another block. -/
theorem OwnZ.other {w : World} {base size n c : Nat} {e : TypeId} {A : Option Addr} {xs : List Value} (h : OwnZ w base e size A n c xs) {a : Addr} (ha : ∀ g, base ≤ g → g < w.heap.size → w.ownsRow base e size (.slice A n c) n xs → (Value.slice A n c).ownBlock = some g → g ≠ a.block) (u : Value) : OwnZ (w.setCell a u) base e size A n c xs :=
  ⟨h.1, h.2.imp id (fun o => ownsRow_setCell_other o (fun e' => by
    obtain ⟨h1, h2⟩ := o.lt _ e'
    exact ha _ h1 h2 o e' rfl) u)⟩
theorem OwnI.other {w : World} {base n c : Nat} {A : Option Addr} {H : List Hi} (h : OwnI w base A n c H) {a : Addr} (h1 : (Value.slice A n c).ownBlock ≠ some a.block) (h2 : ∀ x ∈ H, x.v.ownBlock ≠ some a.block) (u : Value) : OwnI (w.setCell a u) base A n c H :=
  ⟨h.len, ownsRow_setCell_other h.out h1 u, fun x hx => ⟨(h.inn x hx).1, ownsRow_setCell_other (h.inn x hx).2 (h2 x hx) u⟩⟩
/-- Blocks of rows of unlike types are unlike. -/
theorem own_apart {w : World} {base base' size size' n n' g : Nat} {e e' : TypeId} {v v' : Value} {xs xs' : List Value} (hne : e ≠ e') (h : w.ownsRow base e size v n xs) (h' : w.ownsRow base' e' size' v' n' xs') (hg : v'.ownBlock = some g) : v.ownBlock ≠ some g := by
  intro hv
  rcases own_unlike' hne h h' with h1 | h1
  · rw [h1] at hv; cases hv
  · exact h1 (by rw [hv, hg])
/-- A break is written. -/
theorem OwnTb.brk {w : World} {base : Nat} {T : TV} (h : OwnTb w base T) {k : Nat} (hk : k < T.n3) : ∃ g, T.a3 = some ⟨g, 0, none⟩ ∧ base ≤ g ∧ g < w.heap.size ∧ w.frozen? ⟨g, k, none⟩ = false ∧ (∀ (hl : k < T.br.length), w.cell? ⟨g, k, none⟩ = some (.bool T.br[k])) ∧ ∀ x, OwnTb (w.setCell ⟨g, k, none⟩ (.bool x)) base { T with br := T.br.set k x } := by
  obtain ⟨g, hA, hb, hlt, ho⟩ := h.z3.open_ (by omega)
  have hL := h.z3.rl.1
  refine ⟨g, hA, hb, hlt, ho.frozenAt k, fun hl => ?_, fun x => ?_⟩
  · have := ho.cellAt k (by omega)
    rw [this]
    unfold bcells
    rw [List.getElem?_map, List.getElem?_eq_getElem hl]; rfl
  · have hst := (ho.stored k (.bool x)).1
    rw [bcells_set] at hst
    refine ⟨h.z1.other (fun g' _ _ o hg => ?_) _, h.z2.other ?_ (fun y hy => ?_) _, ⟨h.z3.1, .inr ?_⟩, h.ap⟩
    · intro e
      exact own_apart (by decide) o ho (g := g) rfl (by rw [hg, e])
    · exact own_apart (by decide) h.z2.out ho rfl
    · exact own_apart (by decide) (h.z2.inn y hy).2 ho rfl
    · rw [hA]; exact hst
theorem icellsOf_set (H : List Hi) (k : Nat) (x : Hi) : icellsOf (H.set k x) = (icellsOf H).set k x.v := by unfold icellsOf; rw [List.map_set]
/-- A row of Next is written. -/
theorem OwnTb.nxt {w : World} {base : Nat} {T : TV} (h : OwnTb w base T) {k : Nat} (hk : k < T.n2) : ∃ g, T.a2 = some ⟨g, 0, none⟩ ∧ base ≤ g ∧ g < w.heap.size ∧ w.frozen? ⟨g, k, none⟩ = false ∧ (∀ (hl : k < T.hs.length), w.cell? ⟨g, k, none⟩ = some T.hs[k].v) ∧ ∀ x : Hi, x.l.length = x.n → w.ownsRow base 3 1 x.v x.n (icells x.l) → Apt (T.hs.set k x) → OwnTb (w.setCell ⟨g, k, none⟩ x.v) base { T with hs := T.hs.set k x } := by
  obtain ⟨g, cap, hv, hb, hlt⟩ := h.z2.out.form (by omega)
  have hA : T.a2 = some ⟨g, 0, none⟩ := by injection hv
  have ho := h.z2.out
  rw [hA] at ho
  have hL := h.z2.len
  refine ⟨g, hA, hb, hlt, ho.frozenAt k, fun hl => ?_, fun x hx hxo hap => ?_⟩
  · have := ho.cellAt k (by omega)
    rw [this]
    unfold icellsOf
    rw [List.getElem?_map, List.getElem?_eq_getElem hl]; rfl
  · have hst := (ho.stored k x.v).1
    rw [← icellsOf_set] at hst
    refine ⟨h.z1.other (fun g' _ _ o hg => ?_) _, ⟨by simp only [List.length_set]; exact hL, ?_, fun y hy => ?_⟩, h.z3.other (fun g' _ _ o hg => ?_) _, hap⟩
    · intro e
      exact own_apart (by decide) o ho (g := g) rfl (by rw [hg, e])
    · simp only []; rw [hA]; exact hst
    · have key : ∀ z : Hi, w.ownsRow base 3 1 z.v z.n (icells z.l) → (w.setCell ⟨g, k, none⟩ x.v).ownsRow base 3 1 z.v z.n (icells z.l) := fun z hz => ownsRow_setCell_other (a := ⟨g, k, none⟩) hz (own_apart (g := g) (by decide) hz ho rfl) _
      rcases List.mem_or_eq_of_mem_set hy with hy | rfl
      · exact ⟨(h.z2.inn y hy).1, key y (h.z2.inn y hy).2⟩
      · exact ⟨hx, key _ hxo⟩
    · intro e
      exact own_apart (by decide) o ho (g := g) rfl (by rw [hg, e])
end Go.Proofs.Ytaejfebpalmfmaa
/- The example's tables; what is said of them. -/
namespace Go.Proofs.Ytaejfebpalmfmaa
open Go.RowKit Go.BigFrame
set_option linter.unusedVariables false
set_option maxRecDepth 4000
set_option linter.unusedSimpArgs false

def tOne : Tb := { cl := 1, bd := [(0, 0)], nx := [[0]], br := [true] }
def tTwo : Tb := { cl := 2, bd := [(0, 0), (97, 1), (98, 0)], nx := [[0, 1], [0, 0]], br := [false, true] }
def tLst : Tb := { cl := 2, bd := [(0, 0), (97, 1), (98, 0)], nx := [[0, 1], [0, 0]], br := [false, false] }
def tOrd : Tb := { cl := 2, bd := [(0, 0), (97, 1), (98, 0)], nx := [[0, 0], [0, 0]], br := [false, true] }
theorem tOne_err : errV tOne = 0 := by decide
theorem tTwo_err : errV tTwo = 0 := by decide
theorem tLst_err : errV tLst = 30 := by decide
theorem tOrd_err : errV tOrd = 29 := by decide
theorem zeroT_err : errV zeroT = 24 := by decide
theorem tLst_alike : alikeV tLst 0 1 = true := by decide
theorem tTwo_alike : alikeV tTwo 0 1 = false := by decide
theorem tTwo_may : MayT tTwo := ⟨by decide, by decide, by decide, by decide, rfl, by decide, by unfold tTwo byteI; simp, by unfold tTwo byteI; simp⟩
theorem tTwo_small : Small tTwo := ⟨by decide, by decide, by decide⟩
theorem two_body : bodyB tTwo [2] = [66, 82, 75, 49, 2, 2, 3, 0, 0, 0, 0, 0, 0, 97, 1, 0, 0, 98, 0, 0, 1, 0, 0, 2] := by decide
def bTwo : List Nat := sealB [66, 82, 75, 49, 2, 2, 3, 0, 0, 0, 0, 0, 0, 97, 1, 0, 0, 98, 0, 0, 1, 0, 0, 2]
theorem bTwo_is : IsEnc bTwo tTwo := ⟨tTwo_may, [2], w_bits, by rw [two_body]; rfl⟩
theorem bTwo_enc : encR tTwo = some bTwo := encR_yes bTwo_is
theorem bTwo_len : bTwo.length = 28 := enc_len bTwo_is
theorem bTwo_err : errT bTwo = 0 ∧ decR bTwo = tTwo := by
  obtain ⟨h1, h2⟩ := err_enc bTwo_is
  rw [if_pos (by decide)] at h1
  exact ⟨h1, by rw [decR_yes h1, h2]⟩
theorem bTwo_v : vErr bTwo = 0 ∧ vTab bTwo = tTwo := by
  have h : vErr bTwo = 0 := by unfold vErr; rw [if_pos bTwo_err.1, bTwo_err.2]; exact tTwo_err
  exact ⟨h, by unfold vTab; rw [if_pos h]; exact bTwo_err.2⟩
theorem shpN (a : Addr) (n : Nat) (h : n ≤ 1000) : Shp (some a) n n := ⟨fun h => (by cases h), Nat.le_refl _, (by unfold maxLen; omega)⟩
theorem Box.set {w : World} {g : Nat} {T : TV} (h : Box w g T) {a : Addr} (ha : a.block ≠ g) (u : Value) : Box (w.setCell a u) g T :=
  ⟨by simpa using h.1, by rw [World.cell?_setCell_far _ _ _ _ ha]; exact h.2.1, by rw [World.cell?_setCell_far _ _ _ _ ha]; exact h.2.2.1, by rw [World.cell?_setCell_far _ _ _ _ ha]; exact h.2.2.2.1, by rw [World.cell?_setCell_far _ _ _ _ ha]; exact h.2.2.2.2⟩
abbrev tv1 (w : World) : TV := ⟨1, some ⟨w.heap.size, 0, none⟩, 1, 1, [(0, 0)], some ⟨w.heap.size + 2, 0, none⟩, 1, 1, [⟨some ⟨w.heap.size + 1, 0, none⟩, 1, 1, [0]⟩], some ⟨w.heap.size + 3, 0, none⟩, 1, 1, [true]⟩
abbrev tv2 (w : World) : TV := ⟨2, some ⟨w.heap.size + 5, 0, none⟩, 3, 3, [(0, 0), (97, 1), (98, 0)], some ⟨w.heap.size + 8, 0, none⟩, 2, 2, [⟨some ⟨w.heap.size + 6, 0, none⟩, 2, 2, [0, 1]⟩, ⟨some ⟨w.heap.size + 7, 0, none⟩, 2, 2, [0, 0]⟩], some ⟨w.heap.size + 9, 0, none⟩, 2, 2, [false, true]⟩
theorem lits_ok (w : World) : TV.ok (((((((((((w.alloc (.cells #[.int .i64 0, .int .i64 0] 49)).alloc (.cells #[.int .i64 0] 3)).alloc (.cells #[.slice (some ⟨w.heap.size + 1, 0, none⟩) 1 1] 27)).alloc (.cells #[.bool true] 4)).alloc (.cells #[.int .i64 1, .slice (some ⟨w.heap.size, 0, none⟩) 1 1, .slice (some ⟨w.heap.size + 2, 0, none⟩) 1 1, .slice (some ⟨w.heap.size + 3, 0, none⟩) 1 1] 26)).alloc (.cells #[.int .i64 0, .int .i64 0, .int .i64 97, .int .i64 1, .int .i64 98, .int .i64 0] 49)).alloc (.cells #[.int .i64 0, .int .i64 1] 3)).alloc (.cells #[.int .i64 0, .int .i64 0] 3)).alloc (.cells #[.slice (some ⟨w.heap.size + 6, 0, none⟩) 2 2, .slice (some ⟨w.heap.size + 7, 0, none⟩) 2 2] 27)).alloc (.cells #[.bool false, .bool true] 4)).alloc (.cells #[.int .i64 2, .slice (some ⟨w.heap.size + 5, 0, none⟩) 3 3, .slice (some ⟨w.heap.size + 8, 0, none⟩) 2 2, .slice (some ⟨w.heap.size + 9, 0, none⟩) 2 2] 26)) (tv1 w) ∧ TV.ok (((((((((((w.alloc (.cells #[.int .i64 0, .int .i64 0] 49)).alloc (.cells #[.int .i64 0] 3)).alloc (.cells #[.slice (some ⟨w.heap.size + 1, 0, none⟩) 1 1] 27)).alloc (.cells #[.bool true] 4)).alloc (.cells #[.int .i64 1, .slice (some ⟨w.heap.size, 0, none⟩) 1 1, .slice (some ⟨w.heap.size + 2, 0, none⟩) 1 1, .slice (some ⟨w.heap.size + 3, 0, none⟩) 1 1] 26)).alloc (.cells #[.int .i64 0, .int .i64 0, .int .i64 97, .int .i64 1, .int .i64 98, .int .i64 0] 49)).alloc (.cells #[.int .i64 0, .int .i64 1] 3)).alloc (.cells #[.int .i64 0, .int .i64 0] 3)).alloc (.cells #[.slice (some ⟨w.heap.size + 6, 0, none⟩) 2 2, .slice (some ⟨w.heap.size + 7, 0, none⟩) 2 2] 27)).alloc (.cells #[.bool false, .bool true] 4)).alloc (.cells #[.int .i64 2, .slice (some ⟨w.heap.size + 5, 0, none⟩) 3 3, .slice (some ⟨w.heap.size + 8, 0, none⟩) 2 2, .slice (some ⟨w.heap.size + 9, 0, none⟩) 2 2] 26)) (tv2 w) ∧ Below w.heap.size w (((((((((((w.alloc (.cells #[.int .i64 0, .int .i64 0] 49)).alloc (.cells #[.int .i64 0] 3)).alloc (.cells #[.slice (some ⟨w.heap.size + 1, 0, none⟩) 1 1] 27)).alloc (.cells #[.bool true] 4)).alloc (.cells #[.int .i64 1, .slice (some ⟨w.heap.size, 0, none⟩) 1 1, .slice (some ⟨w.heap.size + 2, 0, none⟩) 1 1, .slice (some ⟨w.heap.size + 3, 0, none⟩) 1 1] 26)).alloc (.cells #[.int .i64 0, .int .i64 0, .int .i64 97, .int .i64 1, .int .i64 98, .int .i64 0] 49)).alloc (.cells #[.int .i64 0, .int .i64 1] 3)).alloc (.cells #[.int .i64 0, .int .i64 0] 3)).alloc (.cells #[.slice (some ⟨w.heap.size + 6, 0, none⟩) 2 2, .slice (some ⟨w.heap.size + 7, 0, none⟩) 2 2] 27)).alloc (.cells #[.bool false, .bool true] 4)).alloc (.cells #[.int .i64 2, .slice (some ⟨w.heap.size + 5, 0, none⟩) 3 3, .slice (some ⟨w.heap.size + 8, 0, none⟩) 2 2, .slice (some ⟨w.heap.size + 9, 0, none⟩) 2 2] 26)) ∧ Box (((((((((((w.alloc (.cells #[.int .i64 0, .int .i64 0] 49)).alloc (.cells #[.int .i64 0] 3)).alloc (.cells #[.slice (some ⟨w.heap.size + 1, 0, none⟩) 1 1] 27)).alloc (.cells #[.bool true] 4)).alloc (.cells #[.int .i64 1, .slice (some ⟨w.heap.size, 0, none⟩) 1 1, .slice (some ⟨w.heap.size + 2, 0, none⟩) 1 1, .slice (some ⟨w.heap.size + 3, 0, none⟩) 1 1] 26)).alloc (.cells #[.int .i64 0, .int .i64 0, .int .i64 97, .int .i64 1, .int .i64 98, .int .i64 0] 49)).alloc (.cells #[.int .i64 0, .int .i64 1] 3)).alloc (.cells #[.int .i64 0, .int .i64 0] 3)).alloc (.cells #[.slice (some ⟨w.heap.size + 6, 0, none⟩) 2 2, .slice (some ⟨w.heap.size + 7, 0, none⟩) 2 2] 27)).alloc (.cells #[.bool false, .bool true] 4)).alloc (.cells #[.int .i64 2, .slice (some ⟨w.heap.size + 5, 0, none⟩) 3 3, .slice (some ⟨w.heap.size + 8, 0, none⟩) 2 2, .slice (some ⟨w.heap.size + 9, 0, none⟩) 2 2] 26)) (w.heap.size + 4) (tv1 w) ∧ Box (((((((((((w.alloc (.cells #[.int .i64 0, .int .i64 0] 49)).alloc (.cells #[.int .i64 0] 3)).alloc (.cells #[.slice (some ⟨w.heap.size + 1, 0, none⟩) 1 1] 27)).alloc (.cells #[.bool true] 4)).alloc (.cells #[.int .i64 1, .slice (some ⟨w.heap.size, 0, none⟩) 1 1, .slice (some ⟨w.heap.size + 2, 0, none⟩) 1 1, .slice (some ⟨w.heap.size + 3, 0, none⟩) 1 1] 26)).alloc (.cells #[.int .i64 0, .int .i64 0, .int .i64 97, .int .i64 1, .int .i64 98, .int .i64 0] 49)).alloc (.cells #[.int .i64 0, .int .i64 1] 3)).alloc (.cells #[.int .i64 0, .int .i64 0] 3)).alloc (.cells #[.slice (some ⟨w.heap.size + 6, 0, none⟩) 2 2, .slice (some ⟨w.heap.size + 7, 0, none⟩) 2 2] 27)).alloc (.cells #[.bool false, .bool true] 4)).alloc (.cells #[.int .i64 2, .slice (some ⟨w.heap.size + 5, 0, none⟩) 3 3, .slice (some ⟨w.heap.size + 8, 0, none⟩) 2 2, .slice (some ⟨w.heap.size + 9, 0, none⟩) 2 2] 26)) (w.heap.size + 10) (tv2 w) := by
  have z0 : w.heap.size = w.heap.size + 0 := rfl
  have G0 : Below w.heap.size w w := Below.refl _ _
  have g := below_new w (.cells #[.int .i64 0, .int .i64 0] 49)
  have z1 : (w.alloc (.cells #[.int .i64 0, .int .i64 0] 49)).heap.size = w.heap.size + 1 := by simp; try omega
  have f0 := rd_lit w (w.heap.size) rfl [(0, 0)] 1 #[.int .i64 0, .int .i64 0] rfl rfl (by decide)
  have G1 := G0.trans (g.mono (by omega))
  clear g
  generalize (w.alloc (.cells #[.int .i64 0, .int .i64 0] 49)) = W1 at *
  have g := below_new W1 (.cells #[.int .i64 0] 3)
  have z2 : (W1.alloc (.cells #[.int .i64 0] 3)).heap.size = w.heap.size + 2 := by simp; try omega
  have f1 := ri_lit W1 (w.heap.size + 1) z1.symm [0] 1 #[.int .i64 0] rfl rfl (by decide)
  replace f0 := f0.on g
  have G2 := G1.trans (g.mono (by omega))
  clear g
  generalize (W1.alloc (.cells #[.int .i64 0] 3)) = W2 at *
  have g := below_new W2 (.cells #[.slice (some ⟨w.heap.size + 1, 0, none⟩) 1 1] 27)
  have z3 : (W2.alloc (.cells #[.slice (some ⟨w.heap.size + 1, 0, none⟩) 1 1] 27)).heap.size = w.heap.size + 3 := by simp; try omega
  have f2 := rn_lit W2 (w.heap.size + 2) z2.symm [⟨some ⟨w.heap.size + 1, 0, none⟩, 1, 1, [0]⟩] 1 #[.slice (some ⟨w.heap.size + 1, 0, none⟩) 1 1] rfl rfl (by decide) (fun h hh => by
    simp only [List.mem_cons, List.not_mem_nil, or_false] at hh
    rcases hh with rfl
    · exact ⟨f1, shpN _ 1 (by decide)⟩)
  replace f0 := f0.on g
  replace f1 := f1.on g
  have G3 := G2.trans (g.mono (by omega))
  clear g
  generalize (W2.alloc (.cells #[.slice (some ⟨w.heap.size + 1, 0, none⟩) 1 1] 27)) = W3 at *
  have g := below_new W3 (.cells #[.bool true] 4)
  have z4 : (W3.alloc (.cells #[.bool true] 4)).heap.size = w.heap.size + 4 := by simp; try omega
  have f3 := rl_lit W3 (w.heap.size + 3) z3.symm [true] 1 #[.bool true] rfl rfl (by decide)
  replace f0 := f0.on g
  replace f1 := f1.on g
  replace f2 := f2.on g
  have G4 := G3.trans (g.mono (by omega))
  clear g
  generalize (W3.alloc (.cells #[.bool true] 4)) = W4 at *
  have g := below_new W4 (.cells #[.int .i64 1, .slice (some ⟨w.heap.size, 0, none⟩) 1 1, .slice (some ⟨w.heap.size + 2, 0, none⟩) 1 1, .slice (some ⟨w.heap.size + 3, 0, none⟩) 1 1] 26)
  have z5 : (W4.alloc (.cells #[.int .i64 1, .slice (some ⟨w.heap.size, 0, none⟩) 1 1, .slice (some ⟨w.heap.size + 2, 0, none⟩) 1 1, .slice (some ⟨w.heap.size + 3, 0, none⟩) 1 1] 26)).heap.size = w.heap.size + 5 := by simp; try omega
  have x4 : Box (W4.alloc (.cells #[.int .i64 1, .slice (some ⟨w.heap.size, 0, none⟩) 1 1, .slice (some ⟨w.heap.size + 2, 0, none⟩) 1 1, .slice (some ⟨w.heap.size + 3, 0, none⟩) 1 1] 26)) (w.heap.size + 4) ⟨1, some ⟨w.heap.size, 0, none⟩, 1, 1, [(0, 0)], some ⟨w.heap.size + 2, 0, none⟩, 1, 1, [⟨some ⟨w.heap.size + 1, 0, none⟩, 1, 1, [0]⟩], some ⟨w.heap.size + 3, 0, none⟩, 1, 1, [true]⟩ := by
    have h := box_new W4 ⟨1, some ⟨w.heap.size, 0, none⟩, 1, 1, [(0, 0)], some ⟨w.heap.size + 2, 0, none⟩, 1, 1, [⟨some ⟨w.heap.size + 1, 0, none⟩, 1, 1, [0]⟩], some ⟨w.heap.size + 3, 0, none⟩, 1, 1, [true]⟩
    rw [z4] at h
    exact h
  have o4 : TV.ok (W4.alloc (.cells #[.int .i64 1, .slice (some ⟨w.heap.size, 0, none⟩) 1 1, .slice (some ⟨w.heap.size + 2, 0, none⟩) 1 1, .slice (some ⟨w.heap.size + 3, 0, none⟩) 1 1] 26)) ⟨1, some ⟨w.heap.size, 0, none⟩, 1, 1, [(0, 0)], some ⟨w.heap.size + 2, 0, none⟩, 1, 1, [⟨some ⟨w.heap.size + 1, 0, none⟩, 1, 1, [0]⟩], some ⟨w.heap.size + 3, 0, none⟩, 1, 1, [true]⟩ := TV.ok.on (w := W4) ⟨f0, shpN _ 1 (by decide), f2, shpN _ 1 (by decide), f3, shpN _ 1 (by decide)⟩ g
  replace f0 := f0.on g
  replace f1 := f1.on g
  replace f2 := f2.on g
  replace f3 := f3.on g
  have G5 := G4.trans (g.mono (by omega))
  clear g
  generalize (W4.alloc (.cells #[.int .i64 1, .slice (some ⟨w.heap.size, 0, none⟩) 1 1, .slice (some ⟨w.heap.size + 2, 0, none⟩) 1 1, .slice (some ⟨w.heap.size + 3, 0, none⟩) 1 1] 26)) = W5 at *
  have g := below_new W5 (.cells #[.int .i64 0, .int .i64 0, .int .i64 97, .int .i64 1, .int .i64 98, .int .i64 0] 49)
  have z6 : (W5.alloc (.cells #[.int .i64 0, .int .i64 0, .int .i64 97, .int .i64 1, .int .i64 98, .int .i64 0] 49)).heap.size = w.heap.size + 6 := by simp; try omega
  have f5 := rd_lit W5 (w.heap.size + 5) z5.symm [(0, 0), (97, 1), (98, 0)] 3 #[.int .i64 0, .int .i64 0, .int .i64 97, .int .i64 1, .int .i64 98, .int .i64 0] rfl rfl (by decide)
  replace f0 := f0.on g
  replace f1 := f1.on g
  replace f2 := f2.on g
  replace f3 := f3.on g
  replace x4 := x4.on g
  replace o4 := o4.on g
  have G6 := G5.trans (g.mono (by omega))
  clear g
  generalize (W5.alloc (.cells #[.int .i64 0, .int .i64 0, .int .i64 97, .int .i64 1, .int .i64 98, .int .i64 0] 49)) = W6 at *
  have g := below_new W6 (.cells #[.int .i64 0, .int .i64 1] 3)
  have z7 : (W6.alloc (.cells #[.int .i64 0, .int .i64 1] 3)).heap.size = w.heap.size + 7 := by simp; try omega
  have f6 := ri_lit W6 (w.heap.size + 6) z6.symm [0, 1] 2 #[.int .i64 0, .int .i64 1] rfl rfl (by decide)
  replace f0 := f0.on g
  replace f1 := f1.on g
  replace f2 := f2.on g
  replace f3 := f3.on g
  replace x4 := x4.on g
  replace o4 := o4.on g
  replace f5 := f5.on g
  have G7 := G6.trans (g.mono (by omega))
  clear g
  generalize (W6.alloc (.cells #[.int .i64 0, .int .i64 1] 3)) = W7 at *
  have g := below_new W7 (.cells #[.int .i64 0, .int .i64 0] 3)
  have z8 : (W7.alloc (.cells #[.int .i64 0, .int .i64 0] 3)).heap.size = w.heap.size + 8 := by simp; try omega
  have f7 := ri_lit W7 (w.heap.size + 7) z7.symm [0, 0] 2 #[.int .i64 0, .int .i64 0] rfl rfl (by decide)
  replace f0 := f0.on g
  replace f1 := f1.on g
  replace f2 := f2.on g
  replace f3 := f3.on g
  replace x4 := x4.on g
  replace o4 := o4.on g
  replace f5 := f5.on g
  replace f6 := f6.on g
  have G8 := G7.trans (g.mono (by omega))
  clear g
  generalize (W7.alloc (.cells #[.int .i64 0, .int .i64 0] 3)) = W8 at *
  have g := below_new W8 (.cells #[.slice (some ⟨w.heap.size + 6, 0, none⟩) 2 2, .slice (some ⟨w.heap.size + 7, 0, none⟩) 2 2] 27)
  have z9 : (W8.alloc (.cells #[.slice (some ⟨w.heap.size + 6, 0, none⟩) 2 2, .slice (some ⟨w.heap.size + 7, 0, none⟩) 2 2] 27)).heap.size = w.heap.size + 9 := by simp; try omega
  have f8 := rn_lit W8 (w.heap.size + 8) z8.symm [⟨some ⟨w.heap.size + 6, 0, none⟩, 2, 2, [0, 1]⟩, ⟨some ⟨w.heap.size + 7, 0, none⟩, 2, 2, [0, 0]⟩] 2 #[.slice (some ⟨w.heap.size + 6, 0, none⟩) 2 2, .slice (some ⟨w.heap.size + 7, 0, none⟩) 2 2] rfl rfl (by decide) (fun h hh => by
    simp only [List.mem_cons, List.not_mem_nil, or_false] at hh
    rcases hh with rfl | rfl
    · exact ⟨f6, shpN _ 2 (by decide)⟩
    · exact ⟨f7, shpN _ 2 (by decide)⟩)
  replace f0 := f0.on g
  replace f1 := f1.on g
  replace f2 := f2.on g
  replace f3 := f3.on g
  replace x4 := x4.on g
  replace o4 := o4.on g
  replace f5 := f5.on g
  replace f6 := f6.on g
  replace f7 := f7.on g
  have G9 := G8.trans (g.mono (by omega))
  clear g
  generalize (W8.alloc (.cells #[.slice (some ⟨w.heap.size + 6, 0, none⟩) 2 2, .slice (some ⟨w.heap.size + 7, 0, none⟩) 2 2] 27)) = W9 at *
  have g := below_new W9 (.cells #[.bool false, .bool true] 4)
  have z10 : (W9.alloc (.cells #[.bool false, .bool true] 4)).heap.size = w.heap.size + 10 := by simp; try omega
  have f9 := rl_lit W9 (w.heap.size + 9) z9.symm [false, true] 2 #[.bool false, .bool true] rfl rfl (by decide)
  replace f0 := f0.on g
  replace f1 := f1.on g
  replace f2 := f2.on g
  replace f3 := f3.on g
  replace x4 := x4.on g
  replace o4 := o4.on g
  replace f5 := f5.on g
  replace f6 := f6.on g
  replace f7 := f7.on g
  replace f8 := f8.on g
  have G10 := G9.trans (g.mono (by omega))
  clear g
  generalize (W9.alloc (.cells #[.bool false, .bool true] 4)) = W10 at *
  have g := below_new W10 (.cells #[.int .i64 2, .slice (some ⟨w.heap.size + 5, 0, none⟩) 3 3, .slice (some ⟨w.heap.size + 8, 0, none⟩) 2 2, .slice (some ⟨w.heap.size + 9, 0, none⟩) 2 2] 26)
  have z11 : (W10.alloc (.cells #[.int .i64 2, .slice (some ⟨w.heap.size + 5, 0, none⟩) 3 3, .slice (some ⟨w.heap.size + 8, 0, none⟩) 2 2, .slice (some ⟨w.heap.size + 9, 0, none⟩) 2 2] 26)).heap.size = w.heap.size + 11 := by simp; try omega
  have x10 : Box (W10.alloc (.cells #[.int .i64 2, .slice (some ⟨w.heap.size + 5, 0, none⟩) 3 3, .slice (some ⟨w.heap.size + 8, 0, none⟩) 2 2, .slice (some ⟨w.heap.size + 9, 0, none⟩) 2 2] 26)) (w.heap.size + 10) ⟨2, some ⟨w.heap.size + 5, 0, none⟩, 3, 3, [(0, 0), (97, 1), (98, 0)], some ⟨w.heap.size + 8, 0, none⟩, 2, 2, [⟨some ⟨w.heap.size + 6, 0, none⟩, 2, 2, [0, 1]⟩, ⟨some ⟨w.heap.size + 7, 0, none⟩, 2, 2, [0, 0]⟩], some ⟨w.heap.size + 9, 0, none⟩, 2, 2, [false, true]⟩ := by
    have h := box_new W10 ⟨2, some ⟨w.heap.size + 5, 0, none⟩, 3, 3, [(0, 0), (97, 1), (98, 0)], some ⟨w.heap.size + 8, 0, none⟩, 2, 2, [⟨some ⟨w.heap.size + 6, 0, none⟩, 2, 2, [0, 1]⟩, ⟨some ⟨w.heap.size + 7, 0, none⟩, 2, 2, [0, 0]⟩], some ⟨w.heap.size + 9, 0, none⟩, 2, 2, [false, true]⟩
    rw [z10] at h
    exact h
  have o10 : TV.ok (W10.alloc (.cells #[.int .i64 2, .slice (some ⟨w.heap.size + 5, 0, none⟩) 3 3, .slice (some ⟨w.heap.size + 8, 0, none⟩) 2 2, .slice (some ⟨w.heap.size + 9, 0, none⟩) 2 2] 26)) ⟨2, some ⟨w.heap.size + 5, 0, none⟩, 3, 3, [(0, 0), (97, 1), (98, 0)], some ⟨w.heap.size + 8, 0, none⟩, 2, 2, [⟨some ⟨w.heap.size + 6, 0, none⟩, 2, 2, [0, 1]⟩, ⟨some ⟨w.heap.size + 7, 0, none⟩, 2, 2, [0, 0]⟩], some ⟨w.heap.size + 9, 0, none⟩, 2, 2, [false, true]⟩ := TV.ok.on (w := W10) ⟨f5, shpN _ 3 (by decide), f8, shpN _ 2 (by decide), f9, shpN _ 2 (by decide)⟩ g
  replace f0 := f0.on g
  replace f1 := f1.on g
  replace f2 := f2.on g
  replace f3 := f3.on g
  replace x4 := x4.on g
  replace o4 := o4.on g
  replace f5 := f5.on g
  replace f6 := f6.on g
  replace f7 := f7.on g
  replace f8 := f8.on g
  replace f9 := f9.on g
  have G11 := G10.trans (g.mono (by omega))
  clear g
  generalize (W10.alloc (.cells #[.int .i64 2, .slice (some ⟨w.heap.size + 5, 0, none⟩) 3 3, .slice (some ⟨w.heap.size + 8, 0, none⟩) 2 2, .slice (some ⟨w.heap.size + 9, 0, none⟩) 2 2] 26)) = W11 at *
  exact ⟨o4, o10, G11, x4, x10⟩
end Go.Proofs.Ytaejfebpalmfmaa
/- What the example of stage 7's statements returns. -/
namespace Go.Proofs.Ytaejfebpalmfmaa
open Go.RowKit Go.BigFrame
set_option linter.unusedVariables false
set_option maxRecDepth 4000
set_option linter.unusedSimpArgs false
theorem Apt.set_new {H : List Hi} {x : Hi} (h : Apt H) {B : Nat} (h1 : ∀ y ∈ H, ∀ g, y.v.ownBlock = some g → g < B) (h2 : ∀ g, x.v.ownBlock = some g → B ≤ g) (k : Nat) : Apt (H.set k x) := by
  unfold Apt at h ⊢
  rw [List.pairwise_iff_getElem] at h ⊢
  intro i j hi hj hij g hg hg'
  rw [List.length_set] at hi hj
  rw [List.getElem_set] at hg hg'
  by_cases e1 : k = i
  · by_cases e2 : k = j
    · omega
    · rw [if_pos e1] at hg; rw [if_neg e2] at hg'
      have a := h2 g hg; have b := h1 _ (List.getElem_mem hj) g hg'; omega
  · by_cases e2 : k = j
    · rw [if_neg e1] at hg; rw [if_pos e2] at hg'
      have a := h2 g hg'; have b := h1 _ (List.getElem_mem hi) g hg; omega
    · rw [if_neg e1] at hg; rw [if_neg e2] at hg'
      exact h i j hi hj hij g hg hg'
end Go.Proofs.Ytaejfebpalmfmaa
/- From the rows' readings of what came in to the words of the walks; the mark as the program's text lays it. -/
namespace Go.Proofs.Ytaejfebpalmfmaa
open Go.ChangeShapes Go.WideShapes Go.ChangeAt Go.RowKit Go.Deep
set_option linter.unusedVariables false
set_option maxRecDepth 4000
set_option linter.unusedSimpArgs false
theorem laidOut : laidOutB Try.prog = true := by kernel_rfl
theorem own : ownKnob Try.prog.godebug = none := by kernel_rfl
theorem cells4 : Try.prog.cellsOf 4 = 1 := by kernel_rfl
theorem cells5 : Try.prog.cellsOf 5 = 1 := by kernel_rfl
theorem cells56 : Try.prog.cellsOf 49 = 2 := by kernel_rfl
theorem cells50 : Try.prog.cellsOf 27 = 1 := by kernel_rfl
theorem cells26 : Try.prog.cellsOf 26 = 4 := by kernel_rfl
theorem wf_u8 {r : Int} (h : (Lit.int .u8 r).wf = true) : 0 ≤ r ∧ r < (256 : Nat) := by
  simp [Lit.wf, IntKind.min, IntKind.max, IntKind.bits, IntKind.signed] at h; omega
theorem wf_u16 {r : Int} (h : (Lit.int .u16 r).wf = true) : 0 ≤ r ∧ r < (65536 : Nat) := by
  simp [Lit.wf, IntKind.min, IntKind.max, IntKind.bits, IntKind.signed] at h; omega
theorem wf_u32 {r : Int} (h : (Lit.int .u32 r).wf = true) : 0 ≤ r ∧ r < (4294967296 : Nat) := by
  simp [Lit.wf, IntKind.min, IntKind.max, IntKind.bits, IntKind.signed] at h; omega

/-- A slice of one-cell elements that came in. -/
theorem open_ones {H : Type} {enc : TypeId × Value → H} {w : World} {base : Nat} {held : Bool} {fuel : Nat} {t e : TypeId} {a : Option Addr} {len cap : Nat} {x : DataW H × List MemPlace} {α : Type} (dflt : α) (val : α → Value) (ok : α → Prop) (ht : Try.prog.underlying t = some (.slice e)) (hc1 : Try.prog.cellsOf e = 1)
    (hone : ∀ {n : Nat} {cs : List Value} {y : DataW H × List MemPlace}, DataW.trod enc Try.prog w base (fun _ => true) held n e cs = some y → ∃ v, cs = [val v] ∧ ok v)
    (h : DataW.trod enc Try.prog w base (fun _ => true) held fuel t [.slice a len cap] = some x) : ∃ l : List α, l.length = len ∧ Shp a len cap ∧ Reads w w.heap.size 1 a len (l.map val) ∧ ∀ v ∈ l, ok v := by
  rcases open_slice ht h with ⟨h0, _⟩ | ⟨ad, len', cap', m, n, D, Pl, hcs, hb, hl, hm, hmm, hx, hi⟩
  · simp at h0
    obtain ⟨rfl, rfl, rfl⟩ := h0
    exact ⟨[], rfl, ⟨fun _ => rfl, Nat.le_refl _, Nat.zero_le _⟩, ⟨rfl, fun h => absurd h (by omega)⟩, fun v hv => by simp at hv⟩
  · simp at hcs
    obtain ⟨rfl, rfl, rfl⟩ := hcs
    have hlm : len ≤ m := by rw [hmm]; simpa using hl
    have hr : ∀ i, i < len → ∃ r : α, w.cell? (ad.add i) = some (val r) ∧ ok r := by
      intro i hilt
      obtain ⟨cs', hc, htr⟩ := hi i (by omega)
      obtain ⟨r, rfl, hok⟩ := hone htr
      rw [hc1] at hc
      obtain ⟨_, _, hat⟩ := World.cells?_some hc
      refine ⟨r, ?_, hok⟩
      have := hat 0 (by omega)
      simpa [Addr.add] using this
    have hch : ∃ f : Nat → α, ∀ i, i < len → w.cell? (ad.add i) = some (val (f i)) ∧ ok (f i) :=
      ⟨fun i => if h : i < len then Classical.choose (hr i h) else dflt, fun i h => by
        simp only [dif_pos h]
        exact Classical.choose_spec (hr i h)⟩
    obtain ⟨f, hf⟩ := hch
    refine ⟨(List.range len).map f, by simp, ⟨fun h => (by cases h), hl, hm⟩, ⟨by simp, fun hn => ?_⟩, fun v hv => ?_⟩
    · obtain ⟨b, off, spot⟩ := ad
      have hspot : spot = none := by simpa [Addr.add] using World.cell?_spot (hf 0 hn).1
      subst hspot
      have hbl : b < w.heap.size := by
        have := World.block_lt_of_cell? _ _ (hf 0 hn).1
        simpa [Addr.add] using this
      refine ⟨b, off, rfl, hbl, fun j u hj => ?_⟩
      have hj' : j < len := by
        have := (List.getElem?_eq_some_iff.1 hj).1
        simpa using this
      have hfk := (hf j hj').1
      rw [Go.WideShapes.add_plain] at hfk
      rw [hfk, ← hj]
      simp [hj']
    · obtain ⟨i, hi, rfl⟩ := List.mem_map.1 hv
      exact (hf i (List.mem_range.1 hi)).2

set_option maxRecDepth 4000 in
theorem row52 {H : Type} {enc : TypeId × Value → H} {w : World} {base : Nat} {sp : Nat → Bool} {held : Bool} {fuel : Nat} {cs : List Value} {x : DataW H × List MemPlace}
    (h : DataW.trod enc Try.prog w base sp held fuel 49 cs = some x) : ∃ r : Rg, cs = rcell r := by
  obtain ⟨xs, n, _, rfl, hl, hlen, hf⟩ := DataW.trod_struct Try.underlying49 h
  rw [cells56] at hl
  match cs, hl with
  | [c0, c1], _ =>
    match xs, hlen with
    | [y0, y1], _ =>
      have f0 := hf 0 _ rfl
      have f1 := hf 1 _ rfl
      obtain ⟨n0, e0, _, _⟩ := DataW.trod_int Try.underlying3 (show DataW.trod enc Try.prog w base sp held n 3 [c0] = some y0 from f0)
      obtain ⟨n1, e1, _, _⟩ := DataW.trod_int Try.underlying3 (show DataW.trod enc Try.prog w base sp held n 3 [c1] = some y1 from f1)
      injection e0 with e0
      injection e1 with e1
      exact ⟨(n0, n1), by rw [e0, e1]; rfl⟩

/-- A slice of ranges that came in. -/
theorem open_bands {H : Type} {enc : TypeId × Value → H} {w : World} {base : Nat} {held : Bool} {fuel : Nat} {t : TypeId} {a : Option Addr} {len cap : Nat} {x : DataW H × List MemPlace} (ht : Try.prog.underlying t = some (.slice 49))
    (h : DataW.trod enc Try.prog w base (fun _ => true) held fuel t [.slice a len cap] = some x) : ∃ l : List Rg, l.length = len ∧ Shp a len cap ∧ Reads w w.heap.size 2 a len (rcells l) := by
  rcases open_slice ht h with ⟨h0, _⟩ | ⟨ad, len', cap', m, n, D, Pl, hcs, hb, hl, hm, hmm, hx, hi⟩
  · simp at h0
    obtain ⟨rfl, rfl, rfl⟩ := h0
    exact ⟨[], rfl, ⟨fun _ => rfl, Nat.le_refl _, Nat.zero_le _⟩, ⟨rfl, fun h => absurd h (by omega)⟩⟩
  · simp at hcs
    obtain ⟨rfl, rfl, rfl⟩ := hcs
    have hlm : len ≤ m := by rw [hmm]; simpa using hl
    have hr : ∀ i, i < len → ∃ r : Rg, w.cell? (ad.add (i * 2)) = some (.int .i64 r.1) ∧ w.cell? (ad.add (i * 2 + 1)) = some (.int .i64 r.2) := by
      intro i hilt
      obtain ⟨cs', hc, htr⟩ := hi i (by omega)
      obtain ⟨r, rfl⟩ := row52 htr
      rw [cells56] at hc
      obtain ⟨_, _, hat⟩ := World.cells?_some hc
      refine ⟨r, ?_, ?_⟩
      · have := hat 0 (by omega)
        simpa [Addr.add, rcell] using this
      · have := hat 1 (by omega)
        rw [Go.Deep.add_add] at this
        exact this
    have hch : ∃ f : Nat → Rg, ∀ i, i < len → w.cell? (ad.add (i * 2)) = some (.int .i64 (f i).1) ∧ w.cell? (ad.add (i * 2 + 1)) = some (.int .i64 (f i).2) :=
      ⟨fun i => if h : i < len then Classical.choose (hr i h) else (0, 0), fun i h => by
        simp only [dif_pos h]
        exact Classical.choose_spec (hr i h)⟩
    obtain ⟨f, hf⟩ := hch
    refine ⟨(List.range len).map f, by simp, ⟨fun h => (by cases h), hl, hm⟩, ⟨by rw [rcells_len]; simp, fun hn => ?_⟩⟩
    obtain ⟨b, off, spot⟩ := ad
    have hspot : spot = none := by simpa [Addr.add] using World.cell?_spot (hf 0 hn).1
    subst hspot
    have hbl : b < w.heap.size := by
      have := World.block_lt_of_cell? _ _ (hf 0 hn).1
      simpa [Addr.add] using this
    refine ⟨b, off, rfl, hbl, fun j u hj => ?_⟩
    have hj' : j < len * 2 := by
      have := (List.getElem?_eq_some_iff.1 hj).1
      rw [rcells_len] at this
      simpa using this
    have hk : j / 2 < ((List.range len).map f).length := by simp; omega
    obtain ⟨e0, e1⟩ := rcells_at ((List.range len).map f) (j / 2) hk
    have hfk := hf (j / 2) (by omega)
    rw [Go.WideShapes.add_plain, Go.WideShapes.add_plain] at hfk
    rcases Nat.mod_two_eq_zero_or_one j with e | e
    · have ej : j = j / 2 * 2 := by omega
      rw [ej] at hj ⊢
      rw [e0] at hj
      rw [hfk.1, ← Option.some.inj hj]
      simp
    · have ej : j = j / 2 * 2 + 1 := by omega
      rw [ej] at hj ⊢
      rw [e1] at hj
      rw [hfk.2, ← Option.some.inj hj]
      simp

section
variable {H : Type} {enc : TypeId × Value → H} {w : World} {base : Nat} {held : Bool} {fuel : Nat} {a : Option Addr} {len cap : Nat} {x : DataW H × List MemPlace}
theorem open_bools (h : DataW.trod enc Try.prog w base (fun _ => true) held fuel 24 [.slice a len cap] = some x) : ∃ l : List Bool, l.length = len ∧ Shp a len cap ∧ RL w w.heap.size a len l := by
  obtain ⟨l, h1, h2, h3, _⟩ := open_ones (α := Bool) false Value.bool (fun _ => True) Try.underlying24 cells4 (fun {n cs y} h => by
    obtain ⟨r, rfl, _⟩ := DataW.trod_bool Try.underlying4 h
    exact ⟨r, rfl, trivial⟩) h
  exact ⟨l, h1, h2, h1, h3⟩
theorem open_row (h : DataW.trod enc Try.prog w base (fun _ => true) held fuel 27 [.slice a len cap] = some x) : ∃ l : List Int, Shp a len cap ∧ RI w w.heap.size a len l := by
  obtain ⟨l, h1, h2, h3, _⟩ := open_ones (α := Int) 0 (Value.int .i64) (fun _ => True) Try.underlying27 cells3 (fun {n cs y} h => by
    obtain ⟨r, rfl, _⟩ := DataW.trod_int Try.underlying3 h
    exact ⟨r, rfl, trivial⟩) h
  exact ⟨l, h2, h1, h3⟩
theorem open_hi {cs : List Value} (h : DataW.trod enc Try.prog w base (fun _ => true) held fuel 27 cs = some x) : ∃ d : Hi, cs = [d.v] ∧ d.ok w w.heap.size := by
  have key : ∀ a len cap, cs = [.slice a len cap] → ∃ d : Hi, cs = [d.v] ∧ d.ok w w.heap.size := by
    intro a len cap e
    subst e
    obtain ⟨l, h1, h2⟩ := open_row h
    exact ⟨⟨a, len, cap, l⟩, rfl, h2, h1⟩
  rcases open_slice Try.underlying27 h with ⟨h0, _⟩ | ⟨ad, len', cap', m, n, D, Pl, hcs, _⟩
  · exact key _ _ _ h0
  · exact key _ _ _ hcs
theorem open_rows (h : DataW.trod enc Try.prog w base (fun _ => true) held fuel 23 [.slice a len cap] = some x) : ∃ l : List Hi, Shp a len cap ∧ RN w w.heap.size a len l := by
  obtain ⟨l, h1, h2, h3, h4⟩ := open_ones (α := Hi) ⟨none, 0, 0, []⟩ Hi.v (fun d => d.ok w w.heap.size) Try.underlying23 cells50 (fun {n cs y} h => open_hi h) h
  exact ⟨l, h2, h1, h3, h4⟩
theorem slice_of {t e : TypeId} {c : Value} (ht : Try.prog.underlying t = some (.slice e)) (h : DataW.trod enc Try.prog w base (fun _ => true) held fuel t [c] = some x) : ∃ a len cap, c = .slice a len cap := by
  rcases open_slice ht h with ⟨h0, _⟩ | ⟨ad, len', cap', m, n, D, Pl, hcs, _⟩
  · injection h0 with h0; exact ⟨_, _, _, h0⟩
  · injection hcs with h0; exact ⟨_, _, _, h0⟩
end
set_option maxRecDepth 4000 in
theorem open_table {H : Type} {enc : TypeId × Value → H} {w : World} {base : Nat} {held : Bool} {fuel : Nat} {cs : List Value} {x : DataW H × List MemPlace}
    (h : DataW.trod enc Try.prog w base (fun _ => true) held fuel 26 cs = some x) : ∃ T : TV, cs = [.int .i64 T.cl, .slice T.a1 T.n1 T.c1, .slice T.a2 T.n2 T.c2, .slice T.a3 T.n3 T.c3] ∧ T.ok w := by
  obtain ⟨xs, n, _, rfl, hl, hlen, hf⟩ := DataW.trod_struct Try.underlying26 h
  rw [cells26] at hl
  match cs, hl with
  | [c0, c1, c2, c3], _ =>
    match xs, hlen with
    | [y0, y1, y2, y3], _ =>
      have f0 := hf 0 _ rfl
      have f1 := hf 1 _ rfl
      have f2 := hf 2 _ rfl
      have f3 := hf 3 _ rfl
      obtain ⟨n0, e0, _, _⟩ := DataW.trod_int Try.underlying3 (show DataW.trod enc Try.prog w base (fun _ => true) held n 3 [c0] = some y0 from f0)
      have g1 : DataW.trod enc Try.prog w base (fun _ => true) held n 22 [c1] = some y1 := f1
      have g2 : DataW.trod enc Try.prog w base (fun _ => true) held n 23 [c2] = some y2 := f2
      have g3 : DataW.trod enc Try.prog w base (fun _ => true) held n 24 [c3] = some y3 := f3
      injection e0 with e0
      subst e0
      obtain ⟨a1, n1, c1', rfl⟩ := slice_of Try.underlying22 g1
      obtain ⟨a2, n2, c2', rfl⟩ := slice_of Try.underlying23 g2
      obtain ⟨a3, n3, c3', rfl⟩ := slice_of Try.underlying24 g3
      obtain ⟨l1, h1, s1, r1⟩ := open_bands Try.underlying22 g1
      obtain ⟨l2, s2, r2⟩ := open_rows g2
      obtain ⟨l3, h3, s3, r3⟩ := open_bools g3
      exact ⟨⟨n0, a1, n1, c1', l1, a2, n2, c2', l2, a3, n3, c3', l3⟩, rfl, ⟨⟨h1, r1⟩, s1, r2, s2, r3, s3⟩⟩
theorem okWide_arr {w : World} {r : Reach} {b0 n : Nat} {t e : TypeId} {v : Value} (ht : Try.prog.underlying t = some (.array n e)) (h : Value.okWide Try.prog w r b0 t v) : ∃ cs : Array Value, v = .agg cs := by
  simp only [Value.okWide, ht] at h
  obtain ⟨cs, h1, _⟩ := h
  exact ⟨cs, h1⟩
/-- A WORLD FOR THE WITNESS: the settled one, the mark (block 0) holding what its initialiser lays. -/
noncomputable def laidWorld (os : Os) : World :=
  { World.holding Try.prog os ⟨#[], #[], []⟩ with heap := (World.holding Try.prog os ⟨#[], #[], []⟩).heap.modify 0 fun
      | .cells _ t frozen => .cells #[.int .u8 66, .int .u8 82, .int .u8 75, .int .u8 49] t frozen
      | o => o }
end Go.Proofs.Ytaejfebpalmfmaa
