/- What lowest and Put return. -/
import Derived.Test.YtaejfebpalmfmaaApp
import Derived.Lib.AppendZeros
import Derived.BigRegion
namespace Go.Proofs.Ytaejfebpalmfmaa
open Go.RowKit
set_option linter.unusedVariables false
set_option maxRecDepth 4000
set_option linter.unusedSimpArgs false

def low4 (v : Int) : Value := .agg #[.int .u8 (byteN v 3 : Nat), .int .u8 (byteN v 2 : Nat), .int .u8 (byteN v 1 : Nat), .int .u8 (byteN v 0 : Nat)]
theorem low4_eq (v : Int) : Value.agg #[.int .u8 (v / 16777216 % 256), .int .u8 (v / 65536 % 256), .int .u8 (v / 256 % 256), .int .u8 (v % 256)] = low4 v := by
  unfold low4 byteN
  rw [show v / 16777216 % 256 = (((v / 256 ^ 3 % 256).toNat : Nat) : Int) by omega, show v / 65536 % 256 = (((v / 256 ^ 2 % 256).toNat : Nat) : Int) by omega, show v / 256 % 256 = (((v / 256 ^ 1 % 256).toNat : Nat) : Int) by omega, show v % 256 = (((v / 256 ^ 0 % 256).toNat : Nat) : Int) by omega]
/-- The lowest bytes, as they lie in an array of four. -/
theorem rb_low (W : World) (B g : Nat) (v : Int) (k : Nat) (hk : k ≤ 4) (hB : g < B) (c0 : W.cell? ⟨g, 0, none⟩ = some (.int .u8 (byteN v 3 : Nat))) (c1 : W.cell? ⟨g, 1, none⟩ = some (.int .u8 (byteN v 2 : Nat))) (c2 : W.cell? ⟨g, 2, none⟩ = some (.int .u8 (byteN v 1 : Nat))) (c3 : W.cell? ⟨g, 3, none⟩ = some (.int .u8 (byteN v 0 : Nat))) :
    RB W B (some ⟨g, 4 - k, none⟩) k (lowB v k) := by
  refine ⟨lowB_len v k, ⟨by rw [ycells_len, lowB_len]; omega, fun hp => ⟨g, 4 - k, rfl, hB, ?_⟩⟩, lowB_lt v k⟩
  match k, hk with
  | 0, _ => omega
  | 1, _ =>
    intro j u hu
    match j, hu with
    | 0, hu => injection hu with hu; subst hu; exact c3
  | 2, _ =>
    intro j u hu
    match j, hu with
    | 0, hu => injection hu with hu; subst hu; exact c2
    | 1, hu => injection hu with hu; subst hu; exact c3
  | 3, _ =>
    intro j u hu
    match j, hu with
    | 0, hu => injection hu with hu; subst hu; exact c1
    | 1, hu => injection hu with hu; subst hu; exact c2
    | 2, hu => injection hu with hu; subst hu; exact c3
  | 4, _ =>
    intro j u hu
    match j, hu with
    | 0, hu => injection hu with hu; subst hu; exact c0
    | 1, hu => injection hu with hu; subst hu; exact c1
    | 2, hu => injection hu with hu; subst hu; exact c2
    | 3, hu => injection hu with hu; subst hu; exact c3

theorem own_base {w : World} {base base' : Nat} {e : TypeId} {size n : Nat} {v : Value} {xs : List Value} (h : w.ownsRow base e size v n xs) (hb : base' ≤ base) : w.ownsRow base' e size v n xs := by
  refine ⟨h.1, ?_⟩
  rcases h.2 with h | ⟨g, cap, cur, h1, h2, h3⟩
  · exact .inl h
  · exact .inr ⟨g, cap, cur, h1, Nat.le_trans hb h2, h3⟩

/-- A size cut to 0 .. 4. -/
def cutN (size : Int) : Nat := (min (max size 0) 4).toNat
end Go.Proofs.Ytaejfebpalmfmaa
