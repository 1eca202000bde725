/- What Decode returns of bytes that are a table's. -/
import Derived.Test.YtaejfebpalmfmaaDec
import Derived.Deep.RegionHeld3
namespace Go.Proofs.Ytaejfebpalmfmaa
open Go.RowKit Go.BigFrame
set_option linter.unusedVariables false
set_option maxRecDepth 4000
set_option linter.unusedSimpArgs false

theorem below_undrew {w w' : World} (h : Below w.drew.heap.size w.drew w') : Below w.heap.size w w' := ⟨h.os, h.tape, h.output, h.size, h.block⟩
theorem OwnI.store {w W : World} {base g z c : Nat} {A : Option Addr} {H : List Hi} (h : OwnI w base A z c H) (hg : g < base) (ho : ∀ (base : Nat) (e : TypeId) (size : Nat) (v : Value) (n : Nat) (xs : List Value), g < base → w.ownsRow base e size v n xs → W.ownsRow base e size v n xs) : OwnI W base A z c H :=
  ⟨h.len, ho _ _ _ _ _ _ hg h.out, fun x hx => ⟨(h.inn x hx).1, ho _ _ _ _ _ _ hg (h.inn x hx).2⟩⟩
end Go.Proofs.Ytaejfebpalmfmaa
