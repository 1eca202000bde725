/- Joined: UValid UOwn UPieces UText UText2 UKeep UWakes ULaid. -/
import Derived.Test.YtmhfgncffkfelaaDoorKUp
import Derived.Test.YtmhfgncffkfelaaDoorKU1
import Derived.Deep.AppendLies
import Derived.Laws.OwnMore
import Derived.Deep.Draws
import Derived.OwnWalk
import Derived.Deep.RegionLaw
import Derived.Laws.IdiomStrings
import Derived.Laws.BytesArg
import Derived.Deep.QuietTactic
import Derived.BigQuiet
import Derived.Laws.StructEq
import Derived.Test.YtmhfgncffkfelaaDoorCards
import Derived.Test.YtmhfgncffkfelaaDoorTie
import Derived.Deep.DeepHandedRow
import Derived.Lib.LaidTab
import Derived.LaidMore
import Derived.ShutString
import Derived.ChangeOld
import Derived.Below
/- What Valid returns: whether nothing is ill-formed. -/
namespace Go.Proofs.YtmhfgncffkfelaaDoor.U
open Go.RowKit
set_option linter.unusedVariables false

/-- The piece at a place: its call, how long it is, and that the rest's pieces follow it. -/
theorem pieceAt_some (s : ByteArray) (k : Nat) (hs : s.size ≤ maxLen) (hk : k < s.size) :
    ∃ (v : Int) (n : Nat) (ok : Bool), (∀ W : World, Tab W → Calls Tryd.prog 86 #[.string s, .int .i64 k] W (Out k ⟨v, n, ok⟩ W)) ∧ 1 ≤ n ∧ n ≤ 4 ∧ k + n ≤ s.size ∧ isB v = true ∧
      piecesAt k (s.data.toList.drop k) = ⟨v, k, n, ok⟩ :: piecesAt (k + n) (s.data.toList.drop (k + n)) := by
  have hf := piece_fits s[k] (s.data.toList.drop (k + 1))
  have hB := piece_isB s[k] (s.data.toList.drop (k + 1))
  have hc := fun W hW => pieceAt_any s k W hs hk hW
  have hd := drop_cons s k hk
  have hl : (s.data.toList.drop k).length = s.size - k := by simp
  have hp := piecesAt_step k (s.data.toList.drop k) (by rw [hd]; simp)
  rw [← hd] at hf hB
  generalize pieceOf (s.data.toList.drop k) = p at *
  obtain ⟨v, n, ok⟩ := p
  obtain ⟨f1, f2, f3, _⟩ := hf
  simp only [hl] at f1 f2 f3
  refine ⟨v, n, ok, hc, f1, f2, by omega, hB, ?_⟩
  rw [hp, List.drop_drop]

end Go.Proofs.YtmhfgncffkfelaaDoor.U

/- Words for memory: a slice that reads as a list, nil let in; a row of the call's own over calls that lay new memory. -/
namespace Go.Proofs.YtmhfgncffkfelaaDoor.U
open Go.RowKit

theorem block_of_add (a : Addr) (n : Nat) : (a.add n).block = a.block := by unfold Addr.add; split <;> rfl

/-- A slice value that holds these cells, and lies below block B. -/
def Reads (w : World) (B size : Nat) (A : Option Addr) (n : Nat) (xs : List Value) : Prop :=
  xs.length = n * size ∧ (0 < n → ∃ b o, A = some ⟨b, o, none⟩ ∧ b < B ∧ ∀ j u, xs[j]? = some u → w.cell? ⟨b, o + j, none⟩ = some u)

section
variable {w w' : World} {B B' size n : Nat} {A : Option Addr} {xs : List Value}
theorem Reads.none_ : Reads w B size A 0 [] := ⟨by simp, fun h => absurd h (by omega)⟩
theorem Reads.keep (h : Reads w B size A n xs) (hk : ∀ p : Addr, p.block < B → w'.cell? p = w.cell? p) : Reads w' B size A n xs :=
  ⟨h.1, fun hn => by
    obtain ⟨b, o, e, hb, hc⟩ := h.2 hn
    exact ⟨b, o, e, hb, fun j u hu => (hk ⟨b, o + j, none⟩ hb).trans (hc j u hu)⟩⟩
theorem Reads.more (h : Reads w B size A n xs) (hB : B ≤ B') : Reads w B' size A n xs :=
  ⟨h.1, fun hn => by
    obtain ⟨b, o, e, hb, hc⟩ := h.2 hn
    exact ⟨b, o, e, by omega, hc⟩⟩
theorem Reads.below (h : Reads w B size A n xs) (hb : Below B w w') : Reads w' B size A n xs := h.keep fun _ hp => hb.cell hp
theorem Reads.alloc (h : Reads w B size A n xs) (hB : B ≤ w.heap.size) (o : Obj) : Reads (w.alloc o) B size A n xs := h.keep fun p hp => World.cell?_alloc_lt w o p (by omega)
theorem Reads.of_own {base : Nat} {e : TypeId} {c : Nat} (h : w.ownsRow base e size (.slice A n c) n xs) : Reads w w.heap.size size A n xs := by
  refine ⟨h.1, fun hn => ?_⟩
  obtain ⟨g, cap, hv, _, hlt⟩ := h.form hn
  have hA : A = some ⟨g, 0, none⟩ := by injection hv
  subst hA
  refine ⟨g, 0, rfl, hlt, fun j u hu => ?_⟩
  have := h.cells (g := g) rfl j u hu
  rw [Nat.zero_add]
  by_cases hj : j = 0
  · subst hj; simpa [Addr.add] using this
  · simpa [Addr.add, hj] using this
end

/-- A row of the call's own over a call that lays new memory. -/
theorem own_below {w w' : World} {base : Nat} {e : TypeId} {size n : Nat} {v : Value} {xs : List Value} (h : w.ownsRow base e size v n xs) (hb : Below w.heap.size w w') : w'.ownsRow base e size v n xs :=
  h.kept (row := none) ⟨hb.os, hb.tape, hb.output, hb.size, fun i hi _ => hb.block i hi⟩ (by
    cases h' : v.ownBlock with
    | none => exact .inl rfl
    | some g => exact .inr (by simp))
/-- Below, over a step that writes a row of the call's own and new memory alone. -/
theorem below_grown {w0 w w' : World} {base : Nat} {e : TypeId} {size n : Nat} {v : Value} {xs : List Value} (h : Below base w0 w) (hz : base ≤ w.heap.size) (ho : w.ownsRow base e size v n xs) (hg : w.grownBy w' v.ownBlock) : Below base w0 w' :=
  h.grown hg hz (fun k hk => (ho.lt k hk).1)

/-- A piece's three cells; all of them. -/
def pcell (p : Pp) : List Value := [.int .i64 p.v, .int .i64 p.at_, .int .i64 p.n]
def pcells (l : List Pp) : List Value := l.flatMap pcell
theorem pcells_snoc (l : List Pp) (p : Pp) : pcells (l ++ [p]) = pcells l ++ pcell p := by simp [pcells]
theorem pcells_len (l : List Pp) : (pcells l).length = l.length * 3 := by
  induction l with
  | nil => rfl
  | cons p l ih =>
    have e : pcells (p :: l) = pcell p ++ pcells l := by simp [pcells]
    rw [e, List.length_append, ih]
    simp [pcell]
    omega
theorem info35 : (Tryd.prog.info? 70).map (fun i => (i.zero, i.size, i.bytes)) = some (some (.agg #[.int .i64 0, .int .i64 0, .int .i64 0]), 3, 24) := by kernel_rfl
theorem info5 : (Tryd.prog.info? 5).map (fun i => (i.zero, i.size, i.bytes)) = some (some (.int .u8 0), 1, 1) := by kernel_rfl
theorem info3 : (Tryd.prog.info? 3).map (fun i => (i.zero, i.size, i.bytes)) = some (some (.int .i64 0), 1, 8) := by kernel_rfl
end Go.Proofs.YtmhfgncffkfelaaDoor.U

/- What Pieces returns: a new row that holds the pieces of the text. -/
namespace Go.Proofs.YtmhfgncffkfelaaDoor.U
open Go.RowKit
set_option linter.unusedVariables false

/-- What Pieces leaves. -/
def OutPs (l : List Pp) (w : World) (e : Ending) (w' : World) : Prop :=
  ∃ A c, e = .returned (.slice A l.length c) ∧ w'.ownsRow w.heap.size 70 3 (.slice A l.length c) l.length (pcells l) ∧ Below w.heap.size w w'

set_option maxHeartbeats 1000000 in
theorem pieces_any (s : ByteArray) (w : World) (hs : s.size ≤ 1048576) (hT : Tab w) :
    Calls Tryd.prog 38 #[.string s] w (OutPs (piecesAt 0 s.data.toList) w) := by
  obtain ⟨i0, hi0, hz0, hz1, hz2⟩ := info_parts info35
  have HT := Lib.hid hT
  have HS : Hid (s.size ≤ maxLen) := Lib.hid (by unfold maxLen; omega)
  clear hT
  go_enter Tryd.func38, Tryd.ntmps38
  go_wp2_with fail
  go_loopw [3, 4] (fun v i wr => ∃ (k : Nat) (A : Option Addr) (c : Nat) (acc : List Pp), k ≤ s.size ∧ acc.length ≤ k ∧ i = .int .i64 k ∧ v = .slice A acc.length c ∧ Hid (acc ++ piecesAt k (s.data.toList.drop k) = piecesAt 0 s.data.toList) ∧ wr.ownsRow w.heap.size 70 3 (.slice A acc.length c) acc.length (pcells acc) ∧ Below w.heap.size w wr) (fun _ i _ => s.size - (intOf i).toNat)
  case atStart => exact ⟨0, none, 0, [], Nat.zero_le _, Nat.le_refl _, rfl, rfl, Lib.hid rfl, World.ownsRow_nil _ _ _ _, Below.refl _ _⟩
  case round =>
    obtain ⟨k, A, c, acc, hk, hak, rfl, rfl, HV, hown, hb⟩ := hrel
    have hTr := Lib.hid (HT.out.below hb)
    have hwr := hb.size
    by_cases hlt : k < s.size
    · obtain ⟨v, n, ok, hc, n1, n2, n3, hB, hp⟩ := pieceAt_some s k HS.out hlt
      rw [hp] at HV
      have HC := Lib.hid hc
      clear hp hc hB
      go_wp2_with fail
      refine (HC.out _ hTr.out).mono ?_
      rintro e w1 ⟨rfl, hw1⟩
      have hz : wr.heap.size ≤ w1.heap.size := hw1.size
      have b1 : Below w.heap.size w w1 := hb.trans (hw1.mono hwr)
      have hown1 := own_below hown hw1
      clear hw1 hown hb HC
      go_wp2_with (at_builtin; refine wpList_append_lies _ rfl _ _ 67 rfl w.heap.size 70 i0 _ 3 24 Tryd.underlying67 hi0 hz0 hz1 hz2 rfl (by decide) _ _ _ rfl ((hown1.alloc _).alloc _) ⟨w1.heap.size + 1, 0, none⟩ 1 1 [.int .i64 v, .int .i64 k, .int .i64 n] rfl rfl ?c1 ?c2 (by omega) ?c3 ?c4 ?c5 _ rfl ?_)
      case c1 =>
        intro j u hj
        match j, hj with
        | 0, hj => simp at hj; subst hj; simp [Addr.add]
        | 1, hj => simp at hj; subst hj; simp [Addr.add]
        | 2, hj => simp at hj; subst hj; simp [Addr.add]
      case c2 => intro u hu; simp at hu; rcases hu with rfl | rfl | rfl <;> rfl
      case c3 => unfold maxLen; omega
      case c4 => omega
      case c5 => simp; omega
      · intro g cap w2 hown2 hgrow hat hlt2
        have hlt3 := (hown1.lt)
        have hc2 : w2.cell? ⟨w1.heap.size, 2, none⟩ = some (.int .i64 n) := by
          refine hgrow.cell (by simp) ?_
          intro he
          have := (hown1.lt _ he.symm).2
          simp at this
        have b2 : Below w.heap.size w w2 := below_grown ((b1.alloc (by omega) _).alloc (by simp; omega) _) (by simp; omega) ((hown1.alloc _).alloc _) hgrow
        have R : ∃ (A' : Option Addr) (c' : Nat), Value.slice (some ⟨g, 0, none⟩) (acc.length + 1) cap = .slice A' (acc ++ [(⟨v, k, n, ok⟩ : Pp)]).length c' ∧ w2.ownsRow w.heap.size 70 3 (.slice A' (acc ++ [(⟨v, k, n, ok⟩ : Pp)]).length c') (acc ++ [(⟨v, k, n, ok⟩ : Pp)]).length (pcells (acc ++ [(⟨v, k, n, ok⟩ : Pp)])) := by
          refine ⟨some ⟨g, 0, none⟩, cap, by simp, ?_⟩
          rw [pcells_snoc, List.length_append]
          exact hown2
        have HR := Lib.hid R
        have HV' : Hid ((acc ++ [(⟨v, k, n, ok⟩ : Pp)]) ++ piecesAt (k + n) (s.data.toList.drop (k + n)) = piecesAt 0 s.data.toList) := Lib.hid (by rw [← HV.out]; simp)
        clear R hown2 hgrow hat hown1 HV hlt3
        go_wp2_with fail
        go_roundw
        case rel =>
          obtain ⟨A', c', e1, o1⟩ := HR.out
          exact ⟨k + n, A', c', acc ++ [⟨v, k, n, ok⟩], n3, by simp; omega, by go_num, e1, HV', o1, b2⟩
        case measure => simp [intOf]; omega
    · have HV' : Hid (acc = piecesAt 0 s.data.toList) := Lib.hid (by rw [← HV.out, drop_none s k hlt, piecesAt_nil, List.append_nil])
      clear HV
      go_wp2_with fail
      go_ret
      rw [← HV'.out]
      exact ⟨A, c, rfl, hown, hb⟩
end Go.Proofs.YtmhfgncffkfelaaDoor.U

/- What appendScalar, Text and Bytes return. -/
namespace Go.Proofs.YtmhfgncffkfelaaDoor.U
open Go.RowKit
set_option linter.unusedVariables false
set_option linter.unusedSimpArgs false

/-- A byte's cell; a row's. -/
def bcells (l : List UInt8) : List Value := l.map fun b => .int .u8 (nb b)
theorem bcells_len (l : List UInt8) : (bcells l).length = l.length := by simp [bcells]
theorem bcells_append (a b : List UInt8) : bcells (a ++ b) = bcells a ++ bcells b := by simp [bcells]

/-- What appendScalar leaves. -/
def OutApp (base n : Nat) (xs : List Value) (bs : List UInt8) (w : World) (e : Ending) (w' : World) : Prop :=
  ∃ A c, e = .returned (.slice A (n + bs.length) c) ∧ w'.ownsRow base 5 1 (.slice A (n + bs.length) c) (n + bs.length) (xs ++ bcells bs) ∧ Below base w w'

theorem one_cell (b : Nat) (u : Value) (W : World) (h : W.cell? ⟨b, 0, none⟩ = some u) : ∀ (j : Nat) (t : Value), [u][j]? = some t → W.cell? ((⟨b, 0, none⟩ : Addr).add j) = some t := by
  intro j t hj
  match j, hj with
  | 0, hj => simp at hj; subst hj; simpa [Addr.add] using h
theorem one_oneCell (k : IntKind) (n : Int) : ∀ u ∈ [Value.int k n], u.oneCell' = true := by
  intro u hu; simp at hu; subst hu; rfl
theorem wrap_u8_in (n : Int) (h0 : 0 ≤ n) (h1 : n < 256) : IntKind.u8.wrap n = n := by rw [IntKind.wrap_u8']; omega

end Go.Proofs.YtmhfgncffkfelaaDoor.U

/- What Text and Bytes return: the bytes of a row of scalars, or that there are none. -/
namespace Go.Proofs.YtmhfgncffkfelaaDoor.U
open Go.RowKit
set_option linter.unusedVariables false
set_option linter.unusedSimpArgs false

/-- The string of a row of bytes. -/
def strOf (l : List UInt8) : ByteArray := ⟨l.toArray⟩
theorem strOf_data (l : List UInt8) : (strOf l).data.toList = l := by simp [strOf]
theorem strOf_size (l : List UInt8) : (strOf l).size = l.length := by simp [strOf, ByteArray.size]
theorem strOf_inj {a b : List UInt8} (h : strOf a = strOf b) : a = b := by
  have := congrArg (fun s : ByteArray => s.data.toList) h
  simpa [strOf_data] using this
theorem strOf_of (s : ByteArray) : strOf s.data.toList = s := by
  cases s; simp [strOf]

theorem add_plain (b o j : Nat) : (⟨b, o, none⟩ : Addr).add j = ⟨b, o + j, none⟩ := by unfold Addr.add; split <;> simp_all

/-- 'string(b)' of a row of the call's own. -/
theorem conv_own {w : World} {base c : Nat} {A : Option Addr} {bs : List UInt8} (h : w.ownsRow base 5 1 (.slice A bs.length c) bs.length (bcells bs)) :
    (convert 27 9 (.slice A bs.length c)).run Tryd.prog w = .ok (.string (strOf bs)) w := by
  cases A with
  | none =>
    have h0 : bs.length = 0 := by
      rcases Nat.eq_zero_or_pos bs.length with h0 | h0
      · exact h0
      · obtain ⟨g, cap, hv, _⟩ := h.form h0
        cases hv
    obtain rfl : bs = [] := List.eq_nil_of_length_eq_zero h0
    exact run_convert_bytes_nil w 27 5 Tryd.underlying27 Tryd.underlying5 _ _ 9 Tryd.underlying9
  | some a =>
    refine run_convert_bytes_back w 27 9 5 a c bs Tryd.underlying27 Tryd.underlying5 Tryd.underlying9 (fun j hj => ?_)
    obtain ⟨g, cap, hv, _, _⟩ := h.form (by omega)
    obtain rfl : a = ⟨g, 0, none⟩ := by injection hv with e; injection e
    refine h.cells (g := g) rfl j _ ?_
    unfold bcells
    rw [List.getElem?_map, List.getElem?_eq_getElem hj]
    rfl

/-- A row of integers' cells. -/
def icells (l : List Int) : List Value := l.map (Value.int .i64)
theorem icells_len (l : List Int) : (icells l).length = l.length := by simp [icells]

/-- What Text leaves. -/
def OutT (l : List Int) (w : World) (e : Ending) (w' : World) : Prop :=
  e = .returned (.tuple #[.string (strOf (if allB l = true then textL l else [])), .bool (allB l)]) ∧ Below w.heap.size w w'
theorem outT_no {l : List Int} {w w' : World} {e : Ending} (h : allB l = false) (he : e = .returned (.tuple #[.string (strOf []), .bool false])) (hb : Below w.heap.size w w') : OutT l w e w' := by
  refine ⟨?_, hb⟩
  rw [h, if_neg (by decide)]; exact he
theorem outT_yes {l : List Int} {w w' : World} {e : Ending} (h : allB l = true) (he : e = .returned (.tuple #[.string (strOf (textL l)), .bool true])) (hb : Below w.heap.size w w') : OutT l w e w' := by
  refine ⟨?_, hb⟩
  rw [h, if_pos rfl]; exact he

theorem textL_len (l : List Int) : (textL l).length ≤ 4 * l.length := by
  induction l with
  | nil => simp [textL]
  | cons v l ih => rw [textL_cons, List.length_append, List.length_cons]; have := bytesOf_len v; omega
theorem allB_take (l : List Int) (k : Nat) (h : allB l = true) : allB (l.take k) = true := by
  unfold allB at h ⊢
  rw [List.all_eq_true] at h ⊢
  exact fun x hx => h x (List.mem_of_mem_take hx)
theorem allB_mem {l : List Int} {k : Nat} (hk : k < l.length) (h : isB l[k] = false) : allB l = false := by
  cases e : allB l
  · rfl
  · unfold allB at e
    rw [List.all_eq_true] at e
    rw [e _ (List.getElem_mem hk)] at h
    cases h

theorem ret_str2 {a b : List UInt8} {x : Bool} (h : a = b) : Ending.returned (.tuple #[.string (strOf a), .bool x]) = .returned (.tuple #[.string (strOf b), .bool x]) := by rw [h]

theorem bytesOf_no {v : Int} (h : isB v = false) : bytesOf v = [] := by unfold bytesOf; rw [if_pos h]
theorem textL_one (v : Int) : (if allB [v] = true then textL [v] else []) = bytesOf v := by
  cases h : isB v
  · rw [if_neg (by simp [allB, h]), bytesOf_no h]
  · rw [if_pos (by simp [allB, h])]; simp [textL]
theorem allB_one (v : Int) : allB [v] = isB v := by simp [allB]

end Go.Proofs.YtmhfgncffkfelaaDoor.U

/- What caesurakeep.Pieces returns: whether two rows of pieces are alike. -/
namespace Go.Proofs.YtmhfgncffkfelaaDoor.U
open Go.RowKit
set_option linter.unusedVariables false
set_option linter.unusedSimpArgs false

/-- A piece as the program holds it. -/
structure Tr where
  v : Int
  a : Int
  n : Int
/-- Are two alike? Two rows? -/
def eqT (x y : Tr) : Bool := x.v == y.v && (x.a == y.a && x.n == y.n)
theorem eqT_iff (x y : Tr) : eqT x y = true ↔ x = y := by
  obtain ⟨a, b, c⟩ := x
  obtain ⟨d, e, f⟩ := y
  simp [eqT]
def eqTs : List Tr → List Tr → Bool
  | [], [] => true
  | x :: l, y :: m => eqT x y && eqTs l m
  | _, _ => false
theorem eqTs_iff : ∀ (P Q : List Tr), eqTs P Q = true ↔ P = Q
  | [], [] => by simp [eqTs]
  | [], y :: m => by simp [eqTs]
  | x :: l, [] => by simp [eqTs]
  | x :: l, y :: m => by
    have h := eqTs_iff l m
    have g := eqT_iff x y
    simp only [eqTs, Bool.and_eq_true, List.cons.injEq]
    rw [h, g]
theorem eqTs_same (P : List Tr) : eqTs P P = true := (eqTs_iff P P).2 rfl
theorem eqTs_diff {P Q : List Tr} (h : ¬ P = Q) : eqTs P Q = false := by
  cases e : eqTs P Q
  · rfl
  · exact absurd ((eqTs_iff P Q).1 e) h
def tcell (p : Tr) : List Value := [.int .i64 p.v, .int .i64 p.a, .int .i64 p.n]
def tcells (l : List Tr) : List Value := l.flatMap tcell

theorem guard35 : Tryd.prog.eqGuardType Tryd.prog.depth 70 = false := by kernel_rfl
theorem held35 : Tryd.prog.stoodInHeld 70 = false := by kernel_rfl
theorem fields35 : Tryd.prog.underlying 70 = some (.struct (Tryd.prog.fieldsOf 70)) := by kernel_rfl
theorem neq35_same (x0 x1 x2 : Int) (W : World) : (binOp .neq 70 (.agg #[.int .i64 x0, .int .i64 x1, .int .i64 x2]) (.agg #[.int .i64 x0, .int .i64 x1, .int .i64 x2])).run Tryd.prog W = .ok (.bool false) W := by
  rw [run_neq_struct, run_equalIn_agg _ _ _ _ _ fields35 held35]
  unfold Program.fieldsOf
  rw [Tryd.underlying70]
  simp [go_sem, Tryd.underlying3]
theorem neq35_diff (x0 x1 x2 y0 y1 y2 : Int) (h : ¬ (x0 = y0 ∧ x1 = y1 ∧ x2 = y2)) (W : World) : (binOp .neq 70 (.agg #[.int .i64 x0, .int .i64 x1, .int .i64 x2]) (.agg #[.int .i64 y0, .int .i64 y1, .int .i64 y2])).run Tryd.prog W = .ok (.bool true) W := by
  rw [run_neq_struct, run_equalIn_agg _ _ _ _ _ fields35 held35]
  unfold Program.fieldsOf
  rw [Tryd.underlying70]
  by_cases h0 : x0 = y0 <;> by_cases h1 : x1 = y1 <;> by_cases h2 : x2 = y2 <;> simp [go_sem, Tryd.underlying3, h0, h1, h2] <;> exact h ⟨h0, h1, h2⟩
theorem eql35_same (x0 x1 x2 : Int) (W : World) : (binOp .eql 70 (.agg #[.int .i64 x0, .int .i64 x1, .int .i64 x2]) (.agg #[.int .i64 x0, .int .i64 x1, .int .i64 x2])).run Tryd.prog W = .ok (.bool true) W := by
  rw [run_eql_struct, run_equalIn_agg _ _ _ _ _ fields35 held35]
  unfold Program.fieldsOf
  rw [Tryd.underlying70]
  simp [go_sem, Tryd.underlying3]


theorem tcells_len (l : List Tr) : (tcells l).length = l.length * 3 := by
  induction l with
  | nil => rfl
  | cons p l ih =>
    have e : tcells (p :: l) = tcell p ++ tcells l := by simp [tcells]
    rw [e, List.length_append, ih]
    simp [tcell]
    omega
theorem tcells_at (l : List Tr) : ∀ (k : Nat) (h : k < l.length), (tcells l)[k * 3]? = some (.int .i64 l[k].v) ∧ (tcells l)[k * 3 + 1]? = some (.int .i64 l[k].a) ∧ (tcells l)[k * 3 + 2]? = some (.int .i64 l[k].n) := by
  induction l with
  | nil => intro k h; simp at h
  | cons p l ih =>
    intro k h
    have e : tcells (p :: l) = .int .i64 p.v :: .int .i64 p.a :: .int .i64 p.n :: tcells l := by simp [tcells, tcell]
    rw [e]
    match k, h with
    | 0, _ => exact ⟨rfl, rfl, rfl⟩
    | k + 1, h =>
      have := ih k (by simpa using h)
      rw [show (k + 1) * 3 = k * 3 + 1 + 1 + 1 by omega, show k * 3 + 1 + 1 + 1 + 1 = (k * 3 + 1) + 1 + 1 + 1 by omega, show k * 3 + 1 + 1 + 1 + 2 = (k * 3 + 2) + 1 + 1 + 1 by omega]
      simpa using this

/-- The cells of the k-th piece. -/
theorem Reads.tr {w : World} {B : Nat} {A : Option Addr} {P : List Tr} (h : Reads w B 3 A P.length (tcells P)) {k : Nat} (hk : k < P.length) :
    ∃ b o, A = some ⟨b, o, none⟩ ∧ b < B ∧ w.cell? ⟨b, o + k * 3, none⟩ = some (.int .i64 P[k].v) ∧ w.cell? ⟨b, o + k * 3 + 1, none⟩ = some (.int .i64 P[k].a) ∧ w.cell? ⟨b, o + k * 3 + 2, none⟩ = some (.int .i64 P[k].n) := by
  obtain ⟨b, o, rfl, hb, hc⟩ := h.2 (by omega)
  obtain ⟨h0, h1, h2⟩ := tcells_at P k hk
  exact ⟨b, o, rfl, hb, hc _ _ h0, by rw [Nat.add_assoc]; exact hc _ _ h1, by rw [Nat.add_assoc]; exact hc _ _ h2⟩

theorem below_drewN {B : Nat} {a w : World} (h : Below B a w) (n : Nat) : Below B a (w.drewN n) := ⟨h.os, h.tape, h.output, h.size, h.block⟩

end Go.Proofs.YtmhfgncffkfelaaDoor.U

/- What the statements' own examples (wakes) return: true. -/
namespace Go.Proofs.YtmhfgncffkfelaaDoor.U
open Go.RowKit
set_option linter.unusedVariables false
set_option linter.unusedSimpArgs false

/-- A piece as the program holds it. -/
def tri (p : Pp) : Tr := ⟨p.v, p.at_, p.n⟩
def tris (l : List UInt8) : List Tr := (piecesAt 0 l).map tri
theorem tcells_tri (l : List Pp) : tcells (l.map tri) = pcells l := by
  induction l with
  | nil => rfl
  | cons p l ih =>
    have e1 : tcells ((p :: l).map tri) = tcell (tri p) ++ tcells (l.map tri) := by simp [tcells]
    have e2 : pcells (p :: l) = pcell p ++ pcells l := by simp [pcells]
    rw [e1, e2, ih]; rfl

/-- What Pieces leaves, as its readers want it. -/
def OutTs (P : List Tr) (w : World) (e : Ending) (w' : World) : Prop :=
  ∃ A c, e = .returned (.slice A P.length c) ∧ Reads w' w'.heap.size 3 A P.length (tcells P) ∧ Below w.heap.size w w'
theorem pieces_tr (s : ByteArray) (w : World) (hs : s.size ≤ 1048576) (hT : Tab w) :
    Calls Tryd.prog 38 #[.string s] w (OutTs (tris s.data.toList) w) :=
  (pieces_any s w hs hT).mono fun e w' ⟨A, c, he, ho, hb⟩ => by
    have hl : (tris s.data.toList).length = (piecesAt 0 s.data.toList).length := by simp [tris]
    refine ⟨A, c, by rw [hl]; exact he, ?_, hb⟩
    rw [hl]
    unfold tris
    rw [tcells_tri]
    exact Reads.of_own ho

/-- The cells of a new block of pieces. -/
theorem reads_new (w : World) (P : List Tr) (t : TypeId) : Reads (w.alloc (.cells (tcells P).toArray t)) (w.heap.size + 1) 3 (some ⟨w.heap.size, 0, none⟩) P.length (tcells P) := by
  refine ⟨tcells_len P, fun _ => ⟨w.heap.size, 0, rfl, by omega, fun j u hu => ?_⟩⟩
  rw [World.cell?_alloc_mark, Nat.zero_add]
  simpa using hu

theorem w_pieces (w : World) (hT : Tab w) : Calls Tryd.prog 38 #[.string ⟨#[240, 159, 152, 65, 224, 128, 195, 169]⟩] w (OutTs [⟨65533, 0, 3⟩, ⟨65, 3, 1⟩, ⟨65533, 4, 1⟩, ⟨65533, 5, 1⟩, ⟨233, 6, 2⟩] w) := by
  have h := pieces_tr ⟨#[240, 159, 152, 65, 224, 128, 195, 169]⟩ w (by decide) hT
  rwa [show tris (⟨#[240, 159, 152, 65, 224, 128, 195, 169]⟩ : ByteArray).data.toList = [⟨65533, 0, 3⟩, ⟨65, 3, 1⟩, ⟨65533, 4, 1⟩, ⟨65533, 5, 1⟩, ⟨233, 6, 2⟩] by kernel_rfl] at h
end Go.Proofs.YtmhfgncffkfelaaDoor.U

/- From the row's list to the table's sixteen cells; the world for the witness. -/
namespace Go.Proofs.YtmhfgncffkfelaaDoor.U
open Go.ChangeShapes Go.WideShapes Go.ChangeAt Go.RowKit
set_option linter.unusedVariables false

theorem laidOut : laidOutB Tryd.prog = true := by kernel_rfl
/-- What the walk is told of a slice of integers that came in: it is nil, or it leads to a row of cells, the first of which are its elements. -/
def IsRow (k : IntKind) (w : World) (a : Option Addr) (len cap : Nat) (zs : List Int) : Prop :=
  (a = none ∧ len = 0 ∧ cap = 0 ∧ zs = []) ∨
  ∃ x, a = some x ∧ len ≤ cap ∧ cap ≤ maxLen ∧ zs.length = cap ∧ (∀ i, i < zs.length → w.cell? (x.add i) = some (.int k (zs.getD i 0))) ∧ ∀ n ∈ zs, (Lit.int k n).wf = true
theorem own : ownKnob Tryd.prog.godebug = none := by kernel_rfl
theorem gTabType : (Tryd.prog.globals[1]?).map (·.type) = some 154 := by kernel_rfl
theorem cells54 : Tryd.prog.cellsOf 154 = 16 := by kernel_rfl
theorem cells48 : Tryd.prog.cellsOf 136 = 4 := by kernel_rfl
theorem cells5 : Tryd.prog.cellsOf 5 = 1 := by kernel_rfl
theorem cells3 : Tryd.prog.cellsOf 3 = 1 := by kernel_rfl

set_option maxRecDepth 100000 in
/-- A row of the table that reads so holds these cells. -/
theorem row48 {H : Type} {enc : TypeId × Value → H} {w : World} {base : Nat} {sp : Nat → Bool} {held : Bool} {fuel : Nat} {cs : List Value} {x : DataW H × List MemPlace} {a b c d : Int}
    (h : DataW.trod enc Tryd.prog w base sp held fuel 136 cs = some x) (hx : x.1 = .agg [.lit (.int .u8 a), .lit (.int .u8 b), .lit (.int .i64 c), .lit (.int .i64 d)]) : cs = [.int .u8 a, .int .u8 b, .int .i64 c, .int .i64 d] := by
  obtain ⟨xs, n, _, rfl, hl, hlen, hf⟩ := DataW.trod_struct Tryd.underlying136 h
  rw [cells48] at hl
  match cs, hl with
  | [c0, c1, c2, c3], _ =>
    match xs, hlen with
    | [y0, y1, y2, y3], _ =>
      have f0 := hf 0 _ rfl
      have f1 := hf 1 _ rfl
      have f2 := hf 2 _ rfl
      have f3 := hf 3 _ rfl
      obtain ⟨n0, e0, g0, _⟩ := DataW.trod_int Tryd.underlying5 (show DataW.trod enc Tryd.prog w base sp held n 5 [c0] = some y0 from f0)
      obtain ⟨n1, e1, g1, _⟩ := DataW.trod_int Tryd.underlying5 (show DataW.trod enc Tryd.prog w base sp held n 5 [c1] = some y1 from f1)
      obtain ⟨n2, e2, g2, _⟩ := DataW.trod_int Tryd.underlying3 (show DataW.trod enc Tryd.prog w base sp held n 3 [c2] = some y2 from f2)
      obtain ⟨n3, e3, g3, _⟩ := DataW.trod_int Tryd.underlying3 (show DataW.trod enc Tryd.prog w base sp held n 3 [c3] = some y3 from f3)
      injection e0 with e0
      injection e1 with e1
      injection e2 with e2
      injection e3 with e3
      subst g0 g1 g2 g3 e0 e1 e2 e3
      simpa using hx

/-- A WORLD FOR THE WITNESS: the settled one, the table (block 0) holding what its initialiser lays. -/
noncomputable def laidWorld (os : Os) : World :=
  { World.holding Tryd.prog os ⟨#[], #[], []⟩ with heap := (World.holding Tryd.prog os ⟨#[], #[], []⟩).heap.modify 1 fun
      | .cells _ t frozen => .cells #[.int .u8 0, .int .u8 7, .int .i64 1, .int .i64 0, .int .u8 6, .int .u8 5, .int .i64 2, .int .i64 128, .int .u8 14, .int .u8 4, .int .i64 3, .int .i64 2048, .int .u8 30, .int .u8 3, .int .i64 4, .int .i64 65536] t frozen
      | o => o }
end Go.Proofs.YtmhfgncffkfelaaDoor.U

