/- What Text and Bytes return: the bytes of a row of scalars, or that there are none. -/
import Derived.Test.YtbnconieedgcmaaDoorUText
import Derived.Laws.IdiomStrings
import Derived.Laws.BytesArg
namespace Go.Proofs.YtbnconieedgcmaaDoor.U
open Go.RowKit
set_option linter.unusedVariables false
set_option linter.unusedSimpArgs false

/-- The string of a row of bytes. -/
def strOf (l : List UInt8) : ByteArray := ⟨l.toArray⟩
theorem strOf_data (l : List UInt8) : (strOf l).data.toList = l := by simp [strOf]
theorem strOf_size (l : List UInt8) : (strOf l).size = l.length := by simp [strOf, ByteArray.size]
theorem strOf_inj {a b : List UInt8} (h : strOf a = strOf b) : a = b := by
  have := congrArg (fun s : ByteArray => s.data.toList) h
  simpa [strOf_data] using this
theorem strOf_of (s : ByteArray) : strOf s.data.toList = s := by
  cases s; simp [strOf]

theorem add_plain (b o j : Nat) : (⟨b, o, none⟩ : Addr).add j = ⟨b, o + j, none⟩ := by unfold Addr.add; split <;> simp_all

/-- 'string(b)' of a row of the call's own. -/
theorem conv_own {w : World} {base c : Nat} {A : Option Addr} {bs : List UInt8} (h : w.ownsRow base 5 1 (.slice A bs.length c) bs.length (bcells bs)) :
    (convert 27 9 (.slice A bs.length c)).run Tryd.prog w = .ok (.string (strOf bs)) w := by
  cases A with
  | none =>
    have h0 : bs.length = 0 := by
      rcases Nat.eq_zero_or_pos bs.length with h0 | h0
      · exact h0
      · obtain ⟨g, cap, hv, _⟩ := h.form h0
        cases hv
    obtain rfl : bs = [] := List.eq_nil_of_length_eq_zero h0
    exact run_convert_bytes_nil w 27 5 Tryd.underlying27 Tryd.underlying5 _ _ 9 Tryd.underlying9
  | some a =>
    refine run_convert_bytes_back w 27 9 5 a c bs Tryd.underlying27 Tryd.underlying5 Tryd.underlying9 (fun j hj => ?_)
    obtain ⟨g, cap, hv, _, _⟩ := h.form (by omega)
    obtain rfl : a = ⟨g, 0, none⟩ := by injection hv with e; injection e
    refine h.cells (g := g) rfl j _ ?_
    unfold bcells
    rw [List.getElem?_map, List.getElem?_eq_getElem hj]
    rfl

/-- A row of integers' cells. -/
def icells (l : List Int) : List Value := l.map (Value.int .i64)
theorem icells_len (l : List Int) : (icells l).length = l.length := by simp [icells]

/-- What Text leaves. -/
def OutT (l : List Int) (w : World) (e : Ending) (w' : World) : Prop :=
  e = .returned (.tuple #[.string (strOf (if allB l = true then textL l else [])), .bool (allB l)]) ∧ Below w.heap.size w w'
theorem outT_no {l : List Int} {w w' : World} {e : Ending} (h : allB l = false) (he : e = .returned (.tuple #[.string (strOf []), .bool false])) (hb : Below w.heap.size w w') : OutT l w e w' := by
  refine ⟨?_, hb⟩
  rw [h, if_neg (by decide)]; exact he
theorem outT_yes {l : List Int} {w w' : World} {e : Ending} (h : allB l = true) (he : e = .returned (.tuple #[.string (strOf (textL l)), .bool true])) (hb : Below w.heap.size w w') : OutT l w e w' := by
  refine ⟨?_, hb⟩
  rw [h, if_pos rfl]; exact he

theorem textL_len (l : List Int) : (textL l).length ≤ 4 * l.length := by
  induction l with
  | nil => simp [textL]
  | cons v l ih => rw [textL_cons, List.length_append, List.length_cons]; have := bytesOf_len v; omega
theorem allB_take (l : List Int) (k : Nat) (h : allB l = true) : allB (l.take k) = true := by
  unfold allB at h ⊢
  rw [List.all_eq_true] at h ⊢
  exact fun x hx => h x (List.mem_of_mem_take hx)
theorem allB_mem {l : List Int} {k : Nat} (hk : k < l.length) (h : isB l[k] = false) : allB l = false := by
  cases e : allB l
  · rfl
  · unfold allB at e
    rw [List.all_eq_true] at e
    rw [e _ (List.getElem_mem hk)] at h
    cases h

theorem ret_str2 {a b : List UInt8} {x : Bool} (h : a = b) : Ending.returned (.tuple #[.string (strOf a), .bool x]) = .returned (.tuple #[.string (strOf b), .bool x]) := by rw [h]

set_option maxHeartbeats 1000000 in
theorem text_any (l : List Int) (A : Option Addr) (c : Nat) (w : World) (hR : Reads w w.heap.size 1 A l.length (icells l)) (hn : l.length ≤ 100000) (hT : Tab w) :
    Calls Tryd.prog 93 #[.slice A l.length c] w (OutT l w) := by
  have HT := Lib.hid hT
  have HR := Lib.hid hR
  clear hT hR
  go_enter Tryd.func93, Tryd.ntmps93
  go_wp2_with fail
  go_loopw [4, 9] (fun v i wr => ∃ (k : Nat) (A' : Option Addr) (c' : Nat) (bs : List UInt8), k ≤ l.length ∧ bs.length ≤ 4 * k ∧ i = .int .i64 k ∧ v = .slice A' bs.length c' ∧ Hid (bs = textL (l.take k)) ∧ allB (l.take k) = true ∧ wr.ownsRow w.heap.size 5 1 (.slice A' bs.length c') bs.length (bcells bs) ∧ Below w.heap.size w wr) (fun _ i _ => l.length - (intOf i).toNat)
  case atStart => exact ⟨0, none, 0, [], Nat.zero_le _, Nat.le_refl _, rfl, rfl, Lib.hid rfl, rfl, World.ownsRow_nil _ _ _ _, Below.refl _ _⟩
  case round =>
    obtain ⟨k, A', c', bs, hk, hbk, rfl, rfl, HB, hall, hown, hb⟩ := hrel
    have hTr := Lib.hid (HT.out.below hb)
    have hwr := hb.size
    by_cases hlt : k < l.length
    · obtain ⟨b, o, rfl, hbB, hcell⟩ := HR.out.2 (by omega)
      have hx : wr.cell? ⟨b, o + k, none⟩ = some (.int .i64 l[k]) := by
        rw [hb.cell (p := ⟨b, o + k, none⟩) hbB]
        exact hcell k _ (by unfold icells; rw [List.getElem?_map, List.getElem?_eq_getElem hlt]; rfl)
      have HE : Hid (l.take (k + 1) = l.take k ++ [l[k]]) := Lib.hid (List.take_succ_eq_append_getElem hlt)
      have HA := Lib.hid hall
      clear hcell hall
      by_cases hB : isB l[k] = true
      · have HBx := Lib.hid hB
        clear hB
        go_wp2_with fail
        refine (is_yes _ _ ((isB_iff _).1 HBx.out)).mono ?_
        rintro e w' ⟨rfl, rfl⟩
        go_wp2_with fail
        refine (app_any l[k] A' c' bs.length w.heap.size (bcells bs) _ HBx.out hTr.out hown hwr (by omega)).mono ?_
        rintro e w2 ⟨A2, c2, rfl, hown2, hb2⟩
        have b2 : Below w.heap.size w w2 := hb.trans hb2
        have R : bs.length + (bytesOf l[k]).length = (bs ++ bytesOf l[k]).length ∧ w2.ownsRow w.heap.size 5 1 (.slice A2 (bs ++ bytesOf l[k]).length c2) (bs ++ bytesOf l[k]).length (bcells (bs ++ bytesOf l[k])) := by
          rw [bcells_append, List.length_append]
          exact ⟨rfl, hown2⟩
        have HR2 := Lib.hid R
        have hl4 := bytesOf_len l[k]
        have HB' : Hid (bs ++ bytesOf l[k] = textL (l.take (k + 1))) := Lib.hid (by rw [HE.out, textL_append, ← HB.out]; simp [textL])
        have HA' : Hid (allB (l.take (k + 1)) = true) := Lib.hid (by
          have h1 := HA.out
          rw [HE.out]
          unfold allB at h1 ⊢
          rw [List.all_append, h1]
          simp [HBx.out])
        clear R hown2 hb2 hown hb hx
        go_wp2_with fail
        go_roundw
        case rel => exact ⟨k + 1, A2, c2, bs ++ bytesOf l[k], by omega, by rw [List.length_append]; omega, by go_num, by rw [← HR2.out.1], HB', HA'.out, HR2.out.2, b2⟩
        case measure => simp [intOf]; omega
      · have hB' : isB l[k] = false := by simpa using hB
        have HBx := Lib.hid hB'
        clear hB hB'
        go_wp2_with fail
        refine (is_no _ _ (by have h := HBx.out; have h2 := isB_iff l[k]; rw [h] at h2; have h3 : ¬ (0 ≤ l[k] ∧ l[k] < 55296 ∨ 57344 ≤ l[k] ∧ l[k] ≤ 1114111) := fun h => by have := h2.2 h; cases this
                              omega)).mono ?_
        rintro e w' ⟨rfl, rfl⟩
        go_wp2_with fail
        go_ret2
        exact outT_no (allB_mem hlt HBx.out) rfl hb
    · have hk' : k = l.length := by omega
      have HB' : Hid (bs = textL l ∧ allB l = true) := Lib.hid (by
        have h1 := HB.out
        rw [List.take_of_length_le (by omega)] at h1 hall
        exact ⟨h1, hall⟩)
      have hconv := conv_own hown
      clear HB hall hk' hown
      go_wp2_with fail
      go_ret2
      exact outT_yes HB'.out.2 (ret_str2 HB'.out.1) hb

theorem bytesOf_no {v : Int} (h : isB v = false) : bytesOf v = [] := by unfold bytesOf; rw [if_pos h]
theorem textL_one (v : Int) : (if allB [v] = true then textL [v] else []) = bytesOf v := by
  cases h : isB v
  · rw [if_neg (by simp [allB, h]), bytesOf_no h]
  · rw [if_pos (by simp [allB, h])]; simp [textL]
theorem allB_one (v : Int) : allB [v] = isB v := by simp [allB]

set_option maxHeartbeats 1000000 in
theorem bytes_any (v : Int) (w : World) (hT : Tab w) :
    Calls Tryd.prog 40 #[.int .i64 v] w fun e w' => e = .returned (.tuple #[.string (strOf (bytesOf v)), .bool (isB v)]) ∧ Below w.heap.size w w' := by
  have HT := Lib.hid hT
  clear hT
  go_enter Tryd.func40, Tryd.ntmps40
  go_wp2_with fail
  refine (text_any [v] (some ⟨w.heap.size, 0, none⟩) 1 _ ⟨rfl, fun _ => ⟨w.heap.size, 0, rfl, by simp, ?_⟩⟩ (by simp) (HT.out.alloc _)).mono ?_
  · intro j u hj
    match j, hj with
    | 0, hj => simp [icells] at hj; subst hj; simp
  · rintro e w1 ⟨rfl, hw1⟩
    have hw2 := below_call hw1
    clear hw1
    rw [textL_one, allB_one]
    go_wp2_with fail
    go_ret2
    exact ⟨rfl, hw2⟩
end Go.Proofs.YtbnconieedgcmaaDoor.U
