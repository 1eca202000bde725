/- Bytes of package valid. -/
import Derived.Test.YtaejfebpalmfmaaDec3
import Derived.Test.YtaejfebpalmfmaaBare
import Derived.Test.YtaejfebpalmfmaaValA
/- Decode's table lies in memory of the call's own. -/
namespace Go.Proofs.Ytaejfebpalmfmaa
open Go.RowKit Go.BigFrame
set_option linter.unusedVariables false
set_option maxRecDepth 4000
set_option linter.unusedSimpArgs false

/-- A table in memory of the call's own. -/
structure OwnB (w : World) (base : Nat) (T : TV) : Prop where
  z1 : (T.n1 = 0 ∧ T.bd = []) ∨ w.ownsRow base 49 2 (.slice T.a1 T.n1 T.c1) T.n1 (rcells T.bd)
  z2 : (T.n2 = 0 ∧ T.hs = []) ∨ OwnI w base T.a2 T.n2 T.c2 T.hs
  z3 : (T.n3 = 0 ∧ T.br = []) ∨ w.ownsRow base 4 1 (.slice T.a3 T.n3 T.c3) T.n3 (bcells T.br)
def OutDo (l : List Nat) (w : World) (e : Ending) (w' : World) : Prop :=
  ∃ V : TV, e = .returned (.tuple #[V.v, .int .i64 (errT l : Nat)]) ∧ V.ok w' ∧ V.tb = decR l ∧ Below w.heap.size w w' ∧ OwnB w' w.heap.size V
theorem OutDc.o {l : List Nat} {w w' : World} {e : Ending} (h0 : errT l ≠ 0) (h : OutDc l w e w') : OutDo l w e w' := by
  obtain ⟨V, h1, h2, h3, h4⟩ := h
  have h5 := h3
  rw [decR_no h0] at h5
  have e1 : V.bd = [] := congrArg Tb.bd h5
  have e2 : listsOf V.hs = [] := congrArg Tb.nx h5
  have e3 : V.br = [] := congrArg Tb.br h5
  have e2' : V.hs = [] := by unfold listsOf at e2; simpa using e2
  refine ⟨V, h1, h2, h3, h4, ⟨.inl ⟨?_, e1⟩, .inl ⟨?_, e2'⟩, .inl ⟨?_, e3⟩⟩⟩
  · have := h2.r1.1; rw [e1] at this; exact this.symm
  · have := h2.r2.1; rw [e2'] at this; exact this.symm
  · have := h2.r3.1; rw [e3] at this; exact this.symm
/-- The table over a store into another block. -/
theorem OwnB.store {w W : World} {base g : Nat} {T : TV} (h : OwnB w base T) (hT : T.ok w) (hg : g < base) (ho : ∀ (base : Nat) (e : TypeId) (size : Nat) (v : Value) (n : Nat) (xs : List Value), g < base → w.ownsRow base e size v n xs → W.ownsRow base e size v n xs) : T.ok W ∧ OwnB W base T := by
  have z1 : (T.n1 = 0 ∧ T.bd = []) ∨ W.ownsRow base 49 2 (.slice T.a1 T.n1 T.c1) T.n1 (rcells T.bd) := h.z1.imp id (fun x => ho _ _ _ _ _ _ hg x)
  have z2 : (T.n2 = 0 ∧ T.hs = []) ∨ OwnI W base T.a2 T.n2 T.c2 T.hs := h.z2.imp id (fun x => x.store hg ho)
  have z3 : (T.n3 = 0 ∧ T.br = []) ∨ W.ownsRow base 4 1 (.slice T.a3 T.n3 T.c3) T.n3 (bcells T.br) := h.z3.imp id (fun x => ho _ _ _ _ _ _ hg x)
  refine ⟨⟨?_, hT.s1, ?_, hT.s2, ?_, hT.s3⟩, ⟨z1, z2, z3⟩⟩
  · rcases z1 with ⟨a, b⟩ | z
    · rw [a, b]; exact RD.nil _ _ _
    · exact own_RD z
  · rcases z2 with ⟨a, b⟩ | z
    · rw [a, b]; exact RN.nil _ _ _
    · exact z.nest.1
  · rcases z3 with ⟨a, b⟩ | z
    · rw [a, b]; exact RL.nil _ _ _
    · exact own_RL z
theorem OwnB.on {w w' : World} {base : Nat} {T : TV} (h : OwnB w base T) (g : Below w.heap.size w w') : OwnB w' base T :=
  ⟨h.z1.imp id (fun x => own_below x g), h.z2.imp id (fun x => x.on g), h.z3.imp id (fun x => own_below x g)⟩
end Go.Proofs.Ytaejfebpalmfmaa
/- What Bytes of package valid returns. -/
namespace Go.Proofs.Ytaejfebpalmfmaa
open Go.RowKit Go.BigFrame Go.Maps
set_option linter.unusedVariables false
set_option maxRecDepth 4000
set_option linter.unusedSimpArgs false

/-- What Bytes tells: why there is no such table, or it. -/
noncomputable def vErr (l : List Nat) : Int := if errT l = 0 then errV (decR l) else (errT l : Nat)
noncomputable def vTab (l : List Nat) : Tb := if vErr l = 0 then decR l else zeroT
def OutVb (l : List Nat) (w : World) (e : Ending) (w' : World) : Prop :=
  ∃ V : TV, e = .returned (.tuple #[V.v, .int .i64 (vErr l)]) ∧ V.ok w' ∧ V.tb = vTab l ∧ Below w.heap.size w w'
theorem outVb_no {l : List Nat} {w w' : World} {r : Int} (h : vErr l = r) (h0 : r ≠ 0) (g : Below w.heap.size w w') : OutVb l w (.returned (.tuple #[.agg #[.int .i64 0, .slice none 0 0, .slice none 0 0, .slice none 0 0], .int .i64 r])) w' :=
  ⟨zeroV, by rw [h]; rfl, zeroV_ok _, by unfold vTab; rw [if_neg (by rw [h]; exact h0), zeroV_tb], g⟩
end Go.Proofs.Ytaejfebpalmfmaa
