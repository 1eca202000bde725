/- Words for the laws over tables: what Encode's bytes are. -/
import Derived.Test.YtkmkkbilnflpjaaDoorFrame
namespace Go.Proofs.YtkmkkbilnflpjaaDoor
open Go.RowKit Go.BigFrame
set_option linter.unusedVariables false
set_option linter.unusedSimpArgs false

theorem enc_facts {t : Tb} {b : List Nat} (hS : Small t) (h : IsEnc b t) : ∃ y, IsBits y t.br ∧ b = sealB (bodyB t y) ∧ (bodyB t y).length + 4 = b.length ∧ 8 ≤ (bodyB t y).length ∧ b.length ≤ 5000 ∧ (∀ x ∈ bodyB t y, x < 256) := by
  have hl := enc_len h
  have hc := hS.cells h.1
  obtain ⟨hm, y, hy, rfl⟩ := h
  have h1 := sealB_len (bodyB t y)
  have h2 := body_len hm hy
  have n1 := hm.n1
  have c1 := hm.c1
  have n2 := hm.n2
  have k1 := hm.k1
  have : 1 ≤ t.cl.toNat * t.nx.length := Nat.mul_pos (by omega) (by omega)
  refine ⟨y, hy, rfl, by omega, by omega, ?_, body_lt hm hy⟩
  rw [hl]
  unfold lenT
  omega
theorem tb_len (T : TV) {w : World} (h : T.ok w) : T.tb.nx.length = T.n2 ∧ T.tb.bd.length = T.n1 ∧ T.tb.br.length = T.n3 := ⟨by rw [← h.r2.1]; simp [TV.tb, listsOf], h.r1.1, h.r3.1⟩
theorem encode_no (T : TV) (hE : encR T.tb = none) (w : World) (hT : T.ok w) (hS : Small T.tb) (hM : Mark w) : Calls Tryd.prog 12 #[T.v] w fun e w' => ∃ (A : Option Addr) (c : Nat), e = .returned (.tuple #[.slice A 0 c, .bool false]) ∧ Below w.heap.size w w' := by
  have h := encode_any T w hT hS hM
  rw [hE] at h
  exact h.mono fun e w' ⟨A, c, he, _, _, hb⟩ => ⟨A, c, he, hb⟩
theorem refSeal (b : List Nat) (n : Nat) (A : Option Addr) (c : Nat) (w : World) (hA : Shp A n c) (hR : RB w w.heap.size A n b) (hn : n ≤ 10000) :
    Calls Tryd.prog 21 #[.slice A n c, .int .i64 ((sumL b : Nat) : Int), .int .i64 4] w (OutR (sealB b) (n + 4) w) := refPut_r b n A c ((sumL b : Nat) : Int) 4 w hA hR hn
end Go.Proofs.YtkmkkbilnflpjaaDoor
