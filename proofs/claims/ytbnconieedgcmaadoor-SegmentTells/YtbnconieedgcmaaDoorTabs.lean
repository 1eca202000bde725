/- Words for memory: rows of integers, of bands, of rows; a table's value; the mark. -/
import Derived.Test.YtbnconieedgcmaaDoorLawKit
import Derived.Test.YtbnconieedgcmaaDoorTMath3
namespace Go.Proofs.YtbnconieedgcmaaDoor
open Go.RowKit Go.BigFrame
set_option linter.unusedVariables false
set_option maxRecDepth 4000
set_option linter.unusedSimpArgs false

abbrev Rg := Int × Int
/-- A range's two cells; all of them. -/
def rcell (p : Rg) : List Value := [.int .i64 p.1, .int .i64 p.2]
def rcells (l : List Rg) : List Value := l.flatMap rcell
theorem rcells_nil : rcells [] = [] := rfl
theorem rcells_app (l m : List Rg) : rcells (l ++ m) = rcells l ++ rcells m := by simp [rcells]
theorem rcells_snoc (l : List Rg) (p : Rg) : rcells (l ++ [p]) = rcells l ++ rcell p := by simp [rcells]
theorem rcells_len (l : List Rg) : (rcells l).length = l.length * 2 := by
  induction l with
  | nil => rfl
  | cons p l ih =>
    have e : rcells (p :: l) = rcell p ++ rcells l := by simp [rcells]
    rw [e, List.length_append, ih]
    simp [rcell]
    omega
theorem rcells_at (l : List Rg) : ∀ (k : Nat) (h : k < l.length), (rcells l)[k * 2]? = some (.int .i64 l[k].1) ∧ (rcells l)[k * 2 + 1]? = some (.int .i64 l[k].2) := by
  induction l with
  | nil => intro k h; simp at h
  | cons p l ih =>
    intro k h
    have e : rcells (p :: l) = .int .i64 p.1 :: .int .i64 p.2 :: rcells l := by simp [rcells, rcell]
    rw [e]
    match k, h with
    | 0, _ => exact ⟨rfl, rfl⟩
    | k + 1, h =>
      have := ih k (by simpa using h)
      rw [show (k + 1) * 2 = k * 2 + 1 + 1 by omega, show k * 2 + 1 + 1 + 1 = (k * 2 + 1) + 1 + 1 by omega]
      simpa using this
theorem rcells_one (l : List Rg) : ∀ u ∈ rcells l, u.oneCell' = true := by
  intro u hu
  simp only [rcells, List.mem_flatMap] at hu
  obtain ⟨p, _, hp⟩ := hu
  simp [rcell] at hp
  rcases hp with rfl | rfl <;> rfl
/-- The cells of the k-th range. -/
theorem Reads.rg {w : World} {B n : Nat} {A : Option Addr} {P : List Rg} (h : Reads w B 2 A n (rcells P)) {k : Nat} (hk : k < P.length) :
    ∃ b o, A = some ⟨b, o, none⟩ ∧ b < B ∧ w.cell? ⟨b, o + k * 2, none⟩ = some (.int .i64 P[k].1) ∧ w.cell? ⟨b, o + k * 2 + 1, none⟩ = some (.int .i64 P[k].2) := by
  have h1 := h.1
  rw [rcells_len] at h1
  obtain ⟨b, o, rfl, hb, hc⟩ := h.2 (by omega)
  obtain ⟨h0, h1⟩ := rcells_at P k hk
  exact ⟨b, o, rfl, hb, hc _ _ h0, by rw [Nat.add_assoc]; exact hc _ _ h1⟩
/-- Cells of ints. -/
def icells (l : List Int) : List Value := l.map (.int .i64)
theorem icells_len (l : List Int) : (icells l).length = l.length := by simp [icells]
theorem icells_snoc (l : List Int) (x : Int) : icells (l ++ [x]) = icells l ++ [.int .i64 x] := by simp [icells]
theorem icells_one (l : List Int) : ∀ u ∈ icells l, u.oneCell' = true := by
  intro u hu
  simp only [icells, List.mem_map] at hu
  obtain ⟨x, _, rfl⟩ := hu
  rfl
theorem Reads.int {w : World} {B n : Nat} {A : Option Addr} {l : List Int} (h : Reads w B 1 A n (icells l)) {k : Nat} (hk : k < l.length) : ∃ b o, A = some ⟨b, o, none⟩ ∧ b < B ∧ w.cell? ⟨b, o + k, none⟩ = some (.int .i64 l[k]) := by
  have h1 := h.1
  rw [icells_len] at h1
  obtain ⟨b, o, rfl, hb, hc⟩ := h.2 (by omega)
  exact ⟨b, o, rfl, hb, hc k _ (by unfold icells; rw [List.getElem?_map, List.getElem?_eq_getElem hk]; rfl)⟩
/-- A row of integers. -/
def RI (w : World) (B : Nat) (A : Option Addr) (n : Nat) (l : List Int) : Prop := l.length = n ∧ Reads w B 1 A n (icells l)
/-- A row of bands. -/
def RD (w : World) (B : Nat) (A : Option Addr) (n : Nat) (l : List Rg) : Prop := l.length = n ∧ Reads w B 2 A n (rcells l)
theorem RI.on {w w' : World} {n : Nat} {A : Option Addr} {l : List Int} (h : RI w w.heap.size A n l) (g : Below w.heap.size w w') : RI w' w'.heap.size A n l := ⟨h.1, reads_on h.2 g⟩
theorem RD.on {w w' : World} {n : Nat} {A : Option Addr} {l : List Rg} (h : RD w w.heap.size A n l) (g : Below w.heap.size w w') : RD w' w'.heap.size A n l := ⟨h.1, reads_on h.2 g⟩
theorem RI.at {w : World} {B n : Nat} {A : Option Addr} {l : List Int} (h : RI w B A n l) {k : Nat} (hk : k < l.length) : ∃ b o, A = some ⟨b, o, none⟩ ∧ b < B ∧ w.cell? ⟨b, o + k, none⟩ = some (.int .i64 l[k]) := h.2.int hk
theorem RD.at {w : World} {B n : Nat} {A : Option Addr} {l : List Rg} (h : RD w B A n l) {k : Nat} (hk : k < l.length) : ∃ b o, A = some ⟨b, o, none⟩ ∧ b < B ∧ w.cell? ⟨b, o + k * 2, none⟩ = some (.int .i64 l[k].1) ∧ w.cell? ⟨b, o + k * 2 + 1, none⟩ = some (.int .i64 l[k].2) := h.2.rg hk
theorem RI.nil (w : World) (B : Nat) (A : Option Addr) : RI w B A 0 [] := ⟨rfl, Reads.none_⟩
theorem RD.nil (w : World) (B : Nat) (A : Option Addr) : RD w B A 0 [] := ⟨rfl, Reads.none_⟩
theorem own_RI {w : World} {base n c : Nat} {A : Option Addr} {l : List Int} (h : w.ownsRow base 3 1 (.slice A n c) n (icells l)) : RI w w.heap.size A n l := ⟨by have := h.1; rw [icells_len] at this; omega, Reads.of_own h⟩
theorem own_RD {w : World} {base n c : Nat} {A : Option Addr} {l : List Rg} (h : w.ownsRow base 52 2 (.slice A n c) n (rcells l)) : RD w w.heap.size A n l := ⟨by have := h.1; rw [rcells_len] at this; omega, Reads.of_own h⟩
/-- A slice of lists. -/
structure Hi where
  a : Option Addr
  n : Nat
  c : Nat
  l : List Int
def Hi.v (h : Hi) : Value := .slice h.a h.n h.c
def Hi.ok (w : World) (B : Nat) (h : Hi) : Prop := RI w B h.a h.n h.l ∧ Shp h.a h.n h.c
def icellsOf (H : List Hi) : List Value := H.map Hi.v
def listsOf (H : List Hi) : List (List Int) := H.map (·.l)
theorem icellsOf_len (H : List Hi) : (icellsOf H).length = H.length := by simp [icellsOf]
theorem listsOf_len (H : List Hi) : (listsOf H).length = H.length := by simp [listsOf]
/-- A row of rows of integers. -/
def RN (w : World) (B : Nat) (A : Option Addr) (n : Nat) (H : List Hi) : Prop := H.length = n ∧ Reads w B 1 A n (icellsOf H) ∧ ∀ h ∈ H, h.ok w B
theorem RN.on {w w' : World} {n : Nat} {A : Option Addr} {H : List Hi} (h : RN w w.heap.size A n H) (g : Below w.heap.size w w') : RN w' w'.heap.size A n H := ⟨h.1, reads_on h.2.1 g, fun x hx => ⟨(h.2.2 x hx).1.on g, (h.2.2 x hx).2⟩⟩
theorem RN.at {w : World} {B n : Nat} {A : Option Addr} {H : List Hi} (h : RN w B A n H) {k : Nat} (hk : k < H.length) : ∃ b o, A = some ⟨b, o, none⟩ ∧ b < B ∧ w.cell? ⟨b, o + k, none⟩ = some (.slice H[k].a H[k].n H[k].c) ∧ RI w B H[k].a H[k].n H[k].l ∧ Shp H[k].a H[k].n H[k].c := by
  have h1 := h.1
  obtain ⟨b, o, rfl, hb, hc⟩ := h.2.1.2 (by omega)
  exact ⟨b, o, rfl, hb, hc k _ (by unfold icellsOf; rw [List.getElem?_map, List.getElem?_eq_getElem hk]; rfl), h.2.2 _ (List.getElem_mem hk)⟩
theorem RN.nil (w : World) (B : Nat) (A : Option Addr) : RN w B A 0 [] := ⟨rfl, Reads.none_, fun h hh => by simp at hh⟩
/-- A row of rows that the call itself builds. -/
structure OwnI (w : World) (base : Nat) (A : Option Addr) (z c : Nat) (H : List Hi) : Prop where
  len : H.length = z
  out : w.ownsRow base 49 1 (.slice A z c) z (icellsOf H)
  inn : ∀ h ∈ H, h.l.length = h.n ∧ w.ownsRow base 3 1 h.v h.n (icells h.l)
theorem own_block {w : World} {base : Nat} {e : TypeId} {size n : Nat} {v : Value} {xs : List Value} (h : w.ownsRow base e size v n xs) {g : Nat} (hg : v.ownBlock = some g) : ∃ cur, w.heap[g]? = some (.cells cur e (0, 0)) := by
  rcases h.2 with ⟨rfl, _⟩ | ⟨g', cap, cur, rfl, _, hc, _⟩
  · simp [Value.ownBlock] at hg
  · simp [Value.ownBlock] at hg
    subst hg
    exact ⟨cur, hc⟩
theorem own_unlike' {w : World} {base base' : Nat} {e e' : TypeId} {size size' n n' : Nat} {v v' : Value} {xs xs' : List Value} (hne : e ≠ e') (h : w.ownsRow base e size v n xs) (h' : w.ownsRow base' e' size' v' n' xs') : v.ownBlock = none ∨ v.ownBlock ≠ v'.ownBlock := by
  cases hg : v.ownBlock with
  | none => exact .inl rfl
  | some g =>
    refine .inr fun e' => ?_
    obtain ⟨c1, h1⟩ := own_block h hg
    obtain ⟨c2, h2⟩ := own_block h' e'.symm
    rw [h1] at h2
    injection h2 with h2
    injection h2 with _ h2
    exact hne h2
theorem ne_sym {x y : Option Nat} (h : x = none ∨ x ≠ y) : y = none ∨ y ≠ x := by
  rcases h with h | h
  · cases hy : y with
    | none => exact .inl rfl
    | some g => exact .inr (by rw [h]; simp)
  · exact .inr (Ne.symm h)
theorem OwnI.nil (w : World) (base : Nat) : OwnI w base none 0 0 [] := ⟨rfl, World.ownsRow_nil _ _ _ _, fun h hh => by simp at hh⟩
theorem OwnI.on {w w' : World} {base z c : Nat} {A : Option Addr} {H : List Hi} (h : OwnI w base A z c H) (g : Below w.heap.size w w') : OwnI w' base A z c H := ⟨h.len, own_below h.out g, fun x hx => ⟨(h.inn x hx).1, own_below (h.inn x hx).2 g⟩⟩
theorem OwnI.snoc {w w' : World} {base z c g cap : Nat} {A : Option Addr} {H : List Hi} {x : Hi} (h : OwnI w base A z c H) (hx : x.l.length = x.n ∧ w.ownsRow base 3 1 x.v x.n (icells x.l)) (ho : w'.ownsRow base 49 1 (.slice (some ⟨g, 0, none⟩) (z + 1) cap) (z + 1) (icellsOf H ++ [x.v])) (hg : w.grownBy w' (Value.slice A z c).ownBlock) :
    OwnI w' base (some ⟨g, 0, none⟩) (z + 1) cap (H ++ [x]) := by
  refine ⟨by rw [List.length_append, h.len]; rfl, ?_, ?_⟩
  · have e : icellsOf (H ++ [x]) = icellsOf H ++ [x.v] := by simp [icellsOf]
    rw [e]; exact ho
  · intro y hy
    have key : ∀ y : Hi, y.l.length = y.n ∧ w.ownsRow base 3 1 y.v y.n (icells y.l) → y.l.length = y.n ∧ w'.ownsRow base 3 1 y.v y.n (icells y.l) := fun y hy => ⟨hy.1, hy.2.kept hg (ne_sym (own_unlike' (by decide) h.out hy.2))⟩
    rcases List.mem_append.1 hy with hy | hy
    · exact key y (h.inn y hy)
    · rw [List.mem_singleton] at hy; subst hy; exact key _ hx
theorem OwnI.nest {w : World} {base z c : Nat} {A : Option Addr} {H : List Hi} (h : OwnI w base A z c H) : RN w w.heap.size A z H ∧ Shp A z c :=
  ⟨⟨h.len, Reads.of_own h.out, fun x hx => ⟨own_RI (h.inn x hx).2, own_shp (h.inn x hx).2⟩⟩, own_shp h.out⟩
theorem info53 : (Tryd.prog.info? 49).map (fun i => (i.zero, i.size, i.bytes)) = some (some (.slice none 0 0), 1, 24) := by kernel_rfl
theorem info52 : (Tryd.prog.info? 52).map (fun i => (i.zero, i.size, i.bytes)) = some (some (.agg #[.int .i64 0, .int .i64 0]), 2, 16) := by kernel_rfl
theorem info3 : (Tryd.prog.info? 3).map (fun i => (i.zero, i.size, i.bytes)) = some (some (.int .i64 0), 1, 8) := by kernel_rfl

/-! A table. -/
/-- A table's value, and what it holds. -/
structure TV where
  cl : Int
  a1 : Option Addr
  n1 : Nat
  c1 : Nat
  bd : List Rg
  a2 : Option Addr
  n2 : Nat
  c2 : Nat
  hs : List Hi
  a3 : Option Addr
  n3 : Nat
  c3 : Nat
  br : List Bool
def TV.v (T : TV) : Value := .agg #[.int .i64 T.cl, .slice T.a1 T.n1 T.c1, .slice T.a2 T.n2 T.c2, .slice T.a3 T.n3 T.c3]
def TV.tb (T : TV) : Tb := { cl := T.cl, bd := T.bd, nx := listsOf T.hs, br := T.br }
structure TV.ok (w : World) (T : TV) : Prop where
  r1 : RD w w.heap.size T.a1 T.n1 T.bd
  s1 : Shp T.a1 T.n1 T.c1
  r2 : RN w w.heap.size T.a2 T.n2 T.hs
  s2 : Shp T.a2 T.n2 T.c2
  r3 : RL w w.heap.size T.a3 T.n3 T.br
  s3 : Shp T.a3 T.n3 T.c3
theorem TV.ok.on {w w' : World} {T : TV} (h : T.ok w) (g : Below w.heap.size w w') : T.ok w' := ⟨h.r1.on g, h.s1, h.r2.on g, h.s2, h.r3.on g, h.s3⟩
/-- How many lists and integers there are, at most so. -/
def bulk (L : List (List Int)) : Nat := (L.map fun r => 1 + r.length).sum
theorem bulk_nil : bulk [] = 0 := rfl
theorem bulk_app (L M : List (List Int)) : bulk (L ++ M) = bulk L + bulk M := by simp [bulk]
theorem bulk_mem {L : List (List Int)} {r : List Int} (h : r ∈ L) : 1 + r.length ≤ bulk L := by
  induction L with
  | nil => simp at h
  | cons x L ih =>
    have e : bulk (x :: L) = 1 + x.length + bulk L := by simp [bulk]
    rcases List.mem_cons.1 h with rfl | h
    · omega
    · have := ih h; omega
theorem bulk_len (L : List (List Int)) : L.length ≤ bulk L := by
  induction L with
  | nil => simp
  | cons x L ih =>
    have e : bulk (x :: L) = 1 + x.length + bulk L := by simp [bulk]
    rw [List.length_cons]; omega
/-- A table of such a size. -/
structure Small (t : Tb) : Prop where
  k : t.bd.length ≤ 400
  n : bulk t.nx ≤ 3000
  b : t.br.length ≤ 1000
theorem bulk_rect {L : List (List Int)} {c : Nat} (h : ∀ r ∈ L, r.length = c) : bulk L = L.length + L.length * c := by
  induction L with
  | nil => simp [bulk]
  | cons x L ih =>
    have e : bulk (x :: L) = 1 + x.length + bulk L := by simp [bulk]
    rw [e, ih (fun r hr => h r (by simp [hr])), h x (by simp), List.length_cons, Nat.succ_mul]
    omega
theorem Small.cells {t : Tb} (h : Small t) (hm : MayT t) : t.nx.length * t.cl.toNat ≤ 3000 := by
  have := bulk_rect (L := t.nx) (c := t.cl.toNat) (fun r hr => by have := (hm.nx r hr).1; omega)
  have := h.n
  omega

/-! The mark. -/
/-- The mark's four cells. -/
def Mark (w : World) : Prop := 0 < w.heap.size ∧ w.cell? ⟨0, 0, none⟩ = some (.int .u8 66) ∧ w.cell? ⟨0, 1, none⟩ = some (.int .u8 82) ∧ w.cell? ⟨0, 2, none⟩ = some (.int .u8 75) ∧ w.cell? ⟨0, 3, none⟩ = some (.int .u8 49)
theorem Mark.on {w w' : World} (h : Mark w) (hb : Below w.heap.size w w') : Mark w' := by
  have hs := h.1
  have hc : ∀ i, w'.cell? ⟨0, i, none⟩ = w.cell? ⟨0, i, none⟩ := fun i => hb.cell (p := ⟨0, i, none⟩) hs
  unfold Mark at h ⊢
  simp only [hc]
  exact ⟨Nat.lt_of_lt_of_le hs hb.size, h.2⟩
end Go.Proofs.YtbnconieedgcmaaDoor
