/- Trees in memory; what labelled, beginning and Good of package tree return. -/
import Derived.Test.YtfpiackfhdiapaaTrL
import Derived.Deep.CutRange
namespace Go.Proofs.Ytfpiackfhdiapaa.S
open Go.RowKit Go.BigFrame
set_option linter.unusedVariables false
set_option linter.unusedSimpArgs false

/-- A node's value: its parts, its set's slice. -/
structure NV where
  k : Int
  a : Int
  b : Int
  A : Option Addr
  n : Nat
  c : Nat
  s : List Rg
  m : ByteArray
abbrev nvv (k a b : Int) (A : Option Addr) (n c : Nat) (m : ByteArray) : Value := .agg #[.int .i64 k, .int .i64 a, .int .i64 b, .slice A n c, .string m]
def NV.v (x : NV) : Value := nvv x.k x.a x.b x.A x.n x.c x.m
def ncell (x : NV) : List Value := [.int .i64 x.k, .int .i64 x.a, .int .i64 x.b, .slice x.A x.n x.c, .string x.m]
def ncells (L : List NV) : List Value := L.flatMap ncell
def NV.nd (x : NV) : Nd := ⟨x.k, x.a, x.b, x.s, x.m⟩
def nds (L : List NV) : List Nd := L.map NV.nd
theorem nds_len (L : List NV) : (nds L).length = L.length := by simp [nds]
theorem nds_app (L M : List NV) : nds (L ++ M) = nds L ++ nds M := by simp [nds]
theorem ncells_app (L M : List NV) : ncells (L ++ M) = ncells L ++ ncells M := by simp [ncells]
theorem ncells_len (L : List NV) : (ncells L).length = L.length * 5 := by
  induction L with
  | nil => rfl
  | cons p l ih =>
    have e : ncells (p :: l) = ncell p ++ ncells l := by simp [ncells]
    rw [e, List.length_append, ih]
    simp [ncell]
    omega
theorem ncells_one (L : List NV) : ∀ u ∈ ncells L, u.oneCell' = true := by
  intro u hu
  simp only [ncells, List.mem_flatMap] at hu
  obtain ⟨p, _, hp⟩ := hu
  simp [ncell] at hp
  rcases hp with rfl | rfl | rfl | rfl | rfl <;> rfl
theorem ncells_at (L : List NV) : ∀ (k : Nat) (h : k < L.length), (ncells L)[k * 5]? = some (.int .i64 L[k].k) ∧ (ncells L)[k * 5 + 1]? = some (.int .i64 L[k].a) ∧ (ncells L)[k * 5 + 2]? = some (.int .i64 L[k].b) ∧ (ncells L)[k * 5 + 3]? = some (.slice L[k].A L[k].n L[k].c) ∧ (ncells L)[k * 5 + 4]? = some (.string L[k].m) := by
  induction L with
  | nil => intro k h; simp at h
  | cons p l ih =>
    intro k h
    have e : ncells (p :: l) = ncell p ++ ncells l := by simp [ncells]
    rw [e]
    have hp : (ncell p).length = 5 := rfl
    match k, h with
    | 0, _ => exact ⟨rfl, rfl, rfl, rfl, rfl⟩
    | k + 1, h =>
      obtain ⟨i0, i1, i2, i3, i4⟩ := ih k (by simpa using h)
      refine ⟨?_, ?_, ?_, ?_, ?_⟩
      · rw [List.getElem?_append_right (by omega), hp, show (k + 1) * 5 - 5 = k * 5 by omega]; simpa using i0
      · rw [List.getElem?_append_right (by omega), hp, show (k + 1) * 5 + 1 - 5 = k * 5 + 1 by omega]; simpa using i1
      · rw [List.getElem?_append_right (by omega), hp, show (k + 1) * 5 + 2 - 5 = k * 5 + 2 by omega]; simpa using i2
      · rw [List.getElem?_append_right (by omega), hp, show (k + 1) * 5 + 3 - 5 = k * 5 + 3 by omega]; simpa using i3
      · rw [List.getElem?_append_right (by omega), hp, show (k + 1) * 5 + 4 - 5 = k * 5 + 4 by omega]; simpa using i4
def NV.ok (w : World) (B : Nat) (x : NV) : Prop := x.s.length = x.n ∧ Shp x.A x.n x.c ∧ Reads w B 2 x.A x.n (rcells x.s)
/-- A tree's slice that lies below block B. -/
def RT (w : World) (B : Nat) (A : Option Addr) (n : Nat) (L : List NV) : Prop := L.length = n ∧ Reads w B 5 A n (ncells L) ∧ ∀ x ∈ L, x.ok w B
/-- No set, no name is too large to be walked. -/
def SmT (L : List NV) : Prop := ∀ x ∈ L, x.n ≤ 1000 ∧ x.m.size ≤ 100000
section
variable {w w' : World} {B B' n : Nat} {A : Option Addr} {L : List NV}
theorem NV.ok.below {x : NV} (o : x.ok w B) (g : Below B w w') : x.ok w' B := ⟨o.1, o.2.1, o.2.2.below g⟩
theorem NV.ok.more {x : NV} (o : x.ok w B) (g : B ≤ B') : x.ok w B' := ⟨o.1, o.2.1, o.2.2.more g⟩
theorem NV.ok.on {x : NV} (o : x.ok w w.heap.size) (g : Below w.heap.size w w') : x.ok w' w'.heap.size := (o.below g).more g.size
theorem RT.below (h : RT w B A n L) (g : Below B w w') : RT w' B A n L := ⟨h.1, h.2.1.below g, fun x hx => (h.2.2 x hx).below g⟩
theorem RT.more (h : RT w B A n L) (g : B ≤ B') : RT w B' A n L := ⟨h.1, h.2.1.more g, fun x hx => (h.2.2 x hx).more g⟩
theorem RT.on (h : RT w w.heap.size A n L) (g : Below w.heap.size w w') : RT w' w'.heap.size A n L := (h.below g).more g.size
theorem Reads.on {size : Nat} {xs : List Value} (h : Reads w w.heap.size size A n xs) (g : Below w.heap.size w w') : Reads w' w'.heap.size size A n xs := (h.below g).more g.size
/-- The k-th node. -/
theorem RT.at (h : RT w B A n L) {k : Nat} (hk : k < L.length) :
    ∃ b o, A = some ⟨b, o, none⟩ ∧ b < B ∧ w.cell? ⟨b, o + k * 5, none⟩ = some (.int .i64 L[k].k) ∧ w.cell? ⟨b, o + k * 5 + 1, none⟩ = some (.int .i64 L[k].a) ∧ w.cell? ⟨b, o + k * 5 + 2, none⟩ = some (.int .i64 L[k].b) ∧ w.cell? ⟨b, o + k * 5 + 3, none⟩ = some (.slice L[k].A L[k].n L[k].c) ∧ w.cell? ⟨b, o + k * 5 + 4, none⟩ = some (.string L[k].m) ∧ L[k].ok w B := by
  have h1 := h.1
  obtain ⟨b, o, rfl, hb, hc⟩ := h.2.1.2 (by omega)
  obtain ⟨e0, e1, e2, e3, e4⟩ := ncells_at L k hk
  refine ⟨b, o, rfl, hb, hc _ _ e0, ?_, ?_, ?_, ?_, h.2.2 _ (List.getElem_mem hk)⟩
  · have := hc _ _ e1; rwa [← Nat.add_assoc] at this
  · have := hc _ _ e2; rwa [← Nat.add_assoc] at this
  · have := hc _ _ e3; rwa [← Nat.add_assoc] at this
  · have := hc _ _ e4; rwa [← Nat.add_assoc] at this
end
theorem RT.nil (w : World) (B : Nat) : RT w B none 0 [] := ⟨rfl, Reads.none_, fun x h => by simp at h⟩

/-- Is a name none? -/
def noM (m : ByteArray) : Bool := m.data.toList.isEmpty
theorem noM_yes {m : ByteArray} (h : noM m = true) : m = ⟨#[]⟩ := by
  obtain ⟨⟨m⟩⟩ := m
  unfold noM at h
  simp only [List.isEmpty_iff] at h
  subst h
  rfl
theorem noM_l (m : ByteArray) : m.toList.isEmpty = noM m := by unfold noM; rw [ByteArray.toList_eq]
theorem labB_one {x : Nd} (h : x.k = 2) : labB x = (!x.s.isEmpty && goodB x.s) := if_pos h
theorem labB_bare {x : Nd} (h : ¬ x.k = 2) : labB x = (x.s.isEmpty && noM x.m) := if_neg h
theorem isEmpty_len {s : List Rg} {n : Nat} (h : s.length = n) : s.isEmpty = decide (n = 0) := by
  subst h
  cases s <;> simp

set_option maxHeartbeats 1000000 in
theorem labelled_any (k a b : Int) (A : Option Addr) (n c : Nat) (s : List Rg) (m : ByteArray) (w : World) (ho : NV.ok w w.heap.size ⟨k, a, b, A, n, c, s, m⟩) (hn : n ≤ 1000000) :
    Calls Try.prog 34 #[nvv k a b A n c m] w fun e w' => e = .returned (.bool (labB ⟨k, a, b, s, m⟩)) ∧ Below w.heap.size w w' := by
  obtain ⟨hl, _, hr⟩ := ho
  simp only at hl hr
  have HG := Lib.hid (fun V (g : Below w.heap.size w V) => good_n n s hl A c V (hr.on g) hn)
  have HE := Lib.hid (isEmpty_len hl)
  have b1 := below_new w (.cells #[.int .i64 k, .int .i64 a, .int .i64 b, .slice A n c, .string m] 48)
  clear hl hr
  by_cases hk : k = 2
  · subst hk
    have HD := Lib.hid (labB_one (x := ⟨2, a, b, s, m⟩) rfl)
    by_cases h0 : n = 0
    · subst h0
      have HD' : Hid (labB ⟨2, a, b, s, m⟩ = false) := Lib.hid (by rw [HD.out]; simp only []; rw [HE.out]; rfl)
      clear HD HE HG
      go_enter Try.func34, Try.ntmps34
      go_wp2_with fail
      go_ret
      exact ⟨ret_bool HD'.out.symm, b1⟩
    · have hp : (0 : Int) < (n : Int) := by omega
      have HD' : Hid (labB ⟨2, a, b, s, m⟩ = goodB s) := Lib.hid (by rw [HD.out]; simp only []; rw [HE.out, decide_eq_false h0]; rfl)
      clear HD HE h0
      go_enter Try.func34, Try.ntmps34
      go_wp2_with fail
      refine (HG.out _ b1).mono ?_
      rintro e w1 ⟨rfl, g⟩
      go_wp2_with fail
      go_ret
      exact ⟨ret_bool HD'.out.symm, b1.trans (g.mono b1.size)⟩
  · have HD := Lib.hid (labB_bare (x := ⟨k, a, b, s, m⟩) hk)
    by_cases h0 : n = 0
    · subst h0
      cases hm : noM m
      · have hm2 := noM_l m
        rw [hm] at hm2
        have HD' : Hid (labB ⟨k, a, b, s, m⟩ = false) := Lib.hid (by rw [HD.out]; simp only []; rw [hm, Bool.and_false])
        clear HD HE HG
        go_enter Try.func34, Try.ntmps34
        unfold noM at hm
        go_wp2_with fail
        go_ret
        exact ⟨ret_bool HD'.out.symm, b1⟩
      · obtain rfl := noM_yes hm
        have HD' : Hid (labB ⟨k, a, b, s, ⟨#[]⟩⟩ = true) := Lib.hid (by rw [HD.out]; simp only []; rw [HE.out]; rfl)
        clear HD HE HG hm
        go_enter Try.func34, Try.ntmps34
        go_wp2_with fail
        go_ret
        exact ⟨ret_bool HD'.out.symm, b1⟩
    · have hp : ¬ (n : Int) = 0 := by omega
      have HD' : Hid (labB ⟨k, a, b, s, m⟩ = false) := Lib.hid (by rw [HD.out]; simp only []; rw [HE.out, decide_eq_false h0]; rfl)
      clear HD HE h0 HG
      go_enter Try.func34, Try.ntmps34
      go_wp2_with fail
      go_ret
      exact ⟨ret_bool HD'.out.symm, b1⟩
end Go.Proofs.Ytfpiackfhdiapaa.S
