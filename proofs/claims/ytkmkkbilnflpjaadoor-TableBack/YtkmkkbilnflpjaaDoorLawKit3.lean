/- Words for TableBack: one byte turned; what is decoded is small. -/
import Derived.Test.YtkmkkbilnflpjaaDoorLawKit2
import Derived.BigRegion
namespace Go.Proofs.YtkmkkbilnflpjaaDoor
open Go.RowKit Go.BigFrame
set_option linter.unusedVariables false
set_option linter.unusedSimpArgs false

theorem length_is (c s k : Int) (r : Nat) (h : lenI c s k = r) (w : World) : Calls Tryd.prog 19 #[.int .i64 c, .int .i64 s, .int .i64 k] w fun e w' => e = .returned (.int .i64 (r : Int)) ∧ Below w.heap.size w w' := by
  have := lengthOf_any c s k w
  rwa [h] at this
theorem own_byteC {w : World} {base g z c : Nat} {l : List Nat} (h : w.ownsRow base 5 1 (.slice (some ⟨g, 0, none⟩) z c) z (ycells l)) {k : Nat} (hk : k < l.length) : w.cell? ⟨g, k, none⟩ = some (.int .u8 (l[k] : Int)) := by
  have q := h.cellAt k (by have := h.1; rw [ycells_len] at this; omega)
  rwa [show (ycells l)[k]? = some (.int .u8 (l[k] : Int)) by unfold ycells; rw [List.getElem?_map, List.getElem?_eq_getElem hk]; rfl] at q
theorem dec_small {l : List Nat} (hl : ∀ x ∈ l, x < 256) (h : errT l = 0) : IsEnc l (decT l) ∧ Small (decT l) := by
  have hI := enc_dec hl h
  have h2 := (err_enc hI).1
  rw [h] at h2
  have hm := hI.1
  by_cases hc : (decT l).cl ≤ 8 ∧ (decT l).nx.length ≤ 5 ∧ 1 ≤ (decT l).bd.length ∧ (decT l).bd.length ≤ 60
  · refine ⟨hI, ⟨by omega, ?_, by rw [hm.b1]; omega⟩⟩
    have c1 := hm.c1
    rw [bulk_rect (c := (decT l).cl.toNat) (fun r hr => by have := (hm.nx r hr).1; omega)]
    have := Nat.mul_le_mul hc.2.1 (show (decT l).cl.toNat ≤ 8 by omega)
    omega
  · rw [if_neg hc] at h2
    cases h2
theorem xor_u8 (x v : Nat) (hx : x < 256) (hv : v < 256) : bits .xor .u8 (x : Int) (v : Int) = ((x ^^^ v : Nat) : Int) := u8_xor_nat x v hx hv
theorem xor_byte {x v : Nat} (hx : x < 256) (hv : v < 256) : x ^^^ v < 256 := Nat.xor_lt_two_pow (n := 8) hx hv
theorem xor_ne {x v : Nat} (hv : v ≠ 0) : x ≠ x ^^^ v := by
  intro h
  apply hv
  have := congrArg (x ^^^ ·) h
  simp only [Nat.xor_self] at this
  rw [← Nat.xor_assoc, Nat.xor_self, Nat.zero_xor] at this
  exact this.symm
theorem zeroT_parts {V : TV} {w : World} (h : V.tb = zeroT) (ok : V.ok w) : V.cl = 0 ∧ V.n2 = 0 := by
  have h1 : V.tb.cl = 0 := by rw [h]; rfl
  have h2 : V.tb.nx = [] := by rw [h]; rfl
  have h3 := (tb_len V ok).1
  rw [h2] at h3
  exact ⟨h1, h3.symm⟩
end Go.Proofs.YtkmkkbilnflpjaaDoor
