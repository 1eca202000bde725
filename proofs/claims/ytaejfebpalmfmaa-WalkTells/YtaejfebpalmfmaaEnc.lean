/- What Encode returns. -/
import Derived.Test.YtaejfebpalmfmaaCnts
namespace Go.Proofs.Ytaejfebpalmfmaa
open Go.RowKit Go.BigFrame
set_option linter.unusedVariables false
set_option maxRecDepth 4000
set_option linter.unusedSimpArgs false

noncomputable def encR (t : Tb) : Option (List Nat) := @dite _ (∃ b, IsEnc b t) (Classical.propDecidable _) (fun h => some (Classical.choose h)) (fun _ => none)
theorem encR_yes {t : Tb} {b : List Nat} (h : IsEnc b t) : encR t = some b := by
  unfold encR
  have hex : ∃ b, IsEnc b t := ⟨b, h⟩
  rw [dif_pos hex]
  exact congrArg some ((Classical.choose_spec hex).uniq h)
theorem encR_no {t : Tb} (h : ¬ MayT t) : encR t = none := by
  unfold encR
  rw [dif_neg]
  rintro ⟨b, hb⟩
  exact h hb.1
theorem encR_may {t : Tb} (h : MayT t) : ∃ b, IsEnc b t ∧ encR t = some b := by
  obtain ⟨y, hy⟩ := isBits_some t.br
  exact ⟨_, ⟨h, y, hy, rfl⟩, encR_yes ⟨h, y, hy, rfl⟩⟩
/-- Bytes, or that there are none. -/
def OutEn (r : Option (List Nat)) (w : World) (e : Ending) (w' : World) : Prop :=
  ∃ (A : Option Addr) (c : Nat), e = .returned (.tuple #[.slice A (r.getD []).length c, .bool r.isSome]) ∧ RB w' w'.heap.size A (r.getD []).length (r.getD []) ∧ Shp A (r.getD []).length c ∧ Below w.heap.size w w'
theorem outEn_no (w w' : World) (g : Below w.heap.size w w') : OutEn none w (.returned (.tuple #[.slice none 0 0, .bool false])) w' :=
  ⟨none, 0, rfl, RB.nil _ _ _, ⟨fun _ => rfl, Nat.le_refl _, Nat.zero_le _⟩, g⟩
theorem outEn_yes {w w' : World} {b : List Nat} {n : Nat} {A : Option Addr} {c : Nat} (h : RB w' w'.heap.size A n b) (s : Shp A n c) (g : Below w.heap.size w w') : OutEn (some b) w (.returned (.tuple #[.slice A n c, .bool true])) w' := by
  have := h.1
  subst this
  exact ⟨A, c, rfl, h, s, g⟩
theorem mark_take (k : Nat) (hk : k < 4) : markB.take (k + 1) = markB.take k ++ [markB.getD k 0] ∧ markB.getD k 0 < 256 := by
  match k, hk with
  | 0, _ => decide
  | 1, _ => decide
  | 2, _ => decide
  | 3, _ => decide
theorem reads_one (w : World) (x : Nat) : Reads (w.alloc (.cells #[.int .u8 (x : Int)] 5)) (w.heap.size + 1) 1 (some ⟨w.heap.size, 0, none⟩) 1 (ycells [x]) := ⟨rfl, fun _ => ⟨_, _, rfl, by omega, fun i u hu => by
  match i, hu with
  | 0, hu => injection hu with hu; subst hu; simp⟩⟩
theorem reads_three (w : World) (x y z : Nat) : Reads (w.alloc (.cells #[.int .u8 (x : Int), .int .u8 (y : Int), .int .u8 (z : Int)] 5)) (w.heap.size + 1) 1 (some ⟨w.heap.size, 0, none⟩) 3 (ycells [x, y, z]) := ⟨rfl, fun _ => ⟨_, _, rfl, by omega, fun i u hu => by
  match i, hu with
  | 0, hu => injection hu with hu; subst hu; simp
  | 1, hu => injection hu with hu; subst hu; simp
  | 2, hu => injection hu with hu; subst hu; simp⟩⟩
theorem app_lt {a b : List Nat} (ha : ∀ x ∈ a, x < 256) (hb : ∀ x ∈ b, x < 256) : ∀ x ∈ a ++ b, x < 256 := fun x hx => (List.mem_append.1 hx).elim (ha x) (hb x)
theorem one_lt {x : Nat} (h : x < 256) : ∀ y ∈ [x], y < 256 := fun y hy => by rw [List.mem_singleton] at hy; subst hy; exact h
theorem own_lt {w : World} {base n c : Nat} {A : Option Addr} {l : List Nat} (h : w.ownsRow base 5 1 (.slice A n c) n (ycells l)) : l.length = n := by have := h.1; rw [ycells_len] at this; omega
end Go.Proofs.Ytaejfebpalmfmaa
