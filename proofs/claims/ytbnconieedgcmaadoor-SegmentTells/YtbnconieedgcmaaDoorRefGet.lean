/- What the document's Get returns. -/
import Derived.Test.YtbnconieedgcmaaDoorGet2
namespace Go.Proofs.YtbnconieedgcmaaDoor
open Go.RowKit Go.BigFrame
set_option linter.unusedVariables false
set_option maxRecDepth 4000
set_option linter.unusedSimpArgs false


def OutG (r : Option Nat) (w : World) (e : Ending) (w' : World) : Prop := e = .returned (.agg #[.int .i64 ((r.getD 0 : Nat) : Int), .bool r.isSome]) ∧ Below w.heap.size w w'
theorem numL_lt (l : List Nat) (h : ∀ x ∈ l, x < 256) (k : Nat) (hk : l.length ≤ k) : numL l < 256 ^ k := by
  induction k generalizing l with
  | zero => obtain rfl := List.eq_nil_of_length_eq_zero (Nat.le_zero.1 hk); simp [numL]
  | succ k ih =>
    rcases List.eq_nil_or_concat l with rfl | ⟨l', x, rfl⟩
    · simp [numL]; exact Nat.pow_pos (by decide)
    · rw [List.concat_eq_append] at h hk ⊢
      rw [numL_snoc, Nat.pow_succ]
      have h1 := ih l' (fun y hy => h y (by simp [hy])) (by simp at hk; omega)
      have h2 := h x (by simp)
      omega
theorem refGet_no (l : List Nat) (n : Nat) (A : Option Addr) (c : Nat) (a s : Int) (w : World) (hl : l.length = n) (hn : n ≤ 100000) (h : ¬ (1 ≤ s ∧ s ≤ 4 ∧ 0 ≤ a ∧ a ≤ (n : Int) - s)) :
    Calls Tryd.prog 59 #[.slice A n c, .int .i64 a, .int .i64 s] w (OutG none w) := by
  by_cases h1 : s < 1
  · clear h
    go_enter Tryd.func59, Tryd.ntmps59
    go_wp2_with fail
    exact bodyPost_ret (v := .agg #[.int .i64 0, .bool false]) (by simp [results, Tryd.results59, go_sem]) rfl ⟨rfl, below_new _ _⟩
  by_cases h2 : 4 < s
  · clear h
    go_enter Tryd.func59, Tryd.ntmps59
    go_wp2_with fail
    exact bodyPost_ret (v := .agg #[.int .i64 0, .bool false]) (by simp [results, Tryd.results59, go_sem]) rfl ⟨rfl, below_new _ _⟩
  by_cases h3 : a < 0
  · clear h
    go_enter Tryd.func59, Tryd.ntmps59
    go_wp2_with fail
    exact bodyPost_ret (v := .agg #[.int .i64 0, .bool false]) (by simp [results, Tryd.results59, go_sem]) rfl ⟨rfl, below_new _ _⟩
  have h4 : (n : Int) - s < a := by omega
  clear h
  go_enter Tryd.func59, Tryd.ntmps59
  go_wp2_with fail
  exact bodyPost_ret (v := .agg #[.int .i64 0, .bool false]) (by simp [results, Tryd.results59, go_sem]) rfl ⟨rfl, below_new _ _⟩
set_option maxHeartbeats 1000000 in
theorem refGet_yes (l : List Nat) (n a k : Nat) (A : Option Addr) (c : Nat) (w : World) (hR : RB w w.heap.size A n l) (hn : n ≤ 100000) (h1 : 1 ≤ k) (h2 : k ≤ 4) (h : a + k ≤ n) :
    Calls Tryd.prog 59 #[.slice A n c, .int .i64 a, .int .i64 k] w (OutG (some (numL ((l.drop a).take k))) w) := by
  have g1 : ¬ ((k : Int) < 1) := by omega
  have g2 : ¬ (4 < (k : Int)) := by omega
  have g3 : ¬ ((a : Int) < 0) := by omega
  have g4 : (a : Int) ≤ (n : Int) - (k : Int) := by omega
  have g5 : ¬ ((n : Int) - (k : Int) < (a : Int)) := by omega
  have HR := Lib.hid (hR.on (below_new w (.cells #[.int .i64 0, .bool false] 90)))
  have HL := Lib.hid hR.1
  have HY := Lib.hid hR.2.2
  clear hR
  go_enter Tryd.func59, Tryd.ntmps59
  go_wp2_with fail
  go_loopw [7, 8] (fun v i wr => ∃ (j : Nat), j ≤ k ∧ i = .int .i64 j ∧ v = .int .i64 (numL ((l.drop a).take j) : Nat) ∧ wr = w.alloc (.cells #[.int .i64 0, .bool false] 90)) (fun _ i _ => k - (intOf i).toNat)
  case atStart => exact ⟨0, Nat.zero_le _, rfl, by simp [numL], rfl⟩
  case round =>
    obtain ⟨j, hj, rfl, rfl, rfl⟩ := hrel
    by_cases hlt : j < k
    · have kl : a + j < l.length := by rw [HL.out]; omega
      obtain ⟨b, o, rfl, _, p0, px⟩ := HR.out.at kl
      have kd : j < (l.drop a).length := by rw [List.length_drop]; omega
      have HS : Hid (numL ((l.drop a).take (j + 1)) = numL ((l.drop a).take j) * 256 + l[a + j]) := Lib.hid (by
        rw [List.take_succ_eq_append_getElem kd, numL_snoc, List.getElem_drop])
      have hv : numL ((l.drop a).take j) < 16777216 := by
        have := numL_lt ((l.drop a).take j) (fun x hx => HY.out x (List.mem_of_mem_drop (List.mem_of_mem_take hx))) 3 (by rw [List.length_take]; omega)
        simpa using this
      generalize l[a + j] = x at *
      generalize numL ((l.drop a).take j) = v at *
      have hs : (a : Int) + (j : Int) < (n : Int) := by omega
      go_wp2_with fail
      go_roundw
      case rel => exact ⟨j + 1, by omega, by go_num, congrArg (Value.int .i64) (show _ = ((numL ((l.drop a).take (j + 1)) : Nat) : Int) by rw [HS.out]; omega), trivial⟩
      case measure => simp [intOf]; omega
    · obtain rfl : j = k := by omega
      generalize numL ((l.drop a).take j) = v at *
      go_wp2_with fail
      exact bodyPost_ret (v := .agg #[.int .i64 (v : Int), .bool true]) (by simp [results, Tryd.results59, go_sem]) rfl ⟨rfl, below_new _ _⟩
theorem refGet_any (l : List Nat) (n : Nat) (A : Option Addr) (c : Nat) (a s : Int) (w : World) (hR : RB w w.heap.size A n l) (hn : n ≤ 100000) :
    Calls Tryd.prog 59 #[.slice A n c, .int .i64 a, .int .i64 s] w (OutG (getR l a s) w) := by
  by_cases h : 1 ≤ s ∧ s ≤ 4 ∧ 0 ≤ a ∧ a ≤ (n : Int) - s
  · obtain ⟨a, rfl⟩ := Int.eq_ofNat_of_zero_le h.2.2.1
    obtain ⟨k, rfl⟩ := Int.eq_ofNat_of_zero_le (show 0 ≤ s by omega)
    have hl := hR.1
    rw [show getR l a k = _ from getR_yes (by omega) (by omega) (by omega)]
    exact refGet_yes l n a k A c w hR hn (by omega) (by omega) (by omega)
  · rw [getR_no (by rw [hR.1]; exact h)]; exact refGet_no l n A c a s w hR.1 hn h
end Go.Proofs.YtbnconieedgcmaaDoor
