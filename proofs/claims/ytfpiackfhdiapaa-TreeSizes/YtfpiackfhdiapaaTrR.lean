/- What LargeTree of the statements' keep, and the document's Begin and Good of trees return. -/
import Derived.Test.YtfpiackfhdiapaaTrX
import Derived.BigRegion
namespace Go.Proofs.Ytfpiackfhdiapaa.S
open Go.RowKit Go.BigFrame
set_option linter.unusedVariables false
set_option linter.unusedSimpArgs false
set_option maxRecDepth 4000

def OutLt (L : List NV) (n : Nat) (w : World) (e : Ending) (w' : World) : Prop := ∃ q, e = .returned (.bool q) ∧ Below w.heap.size w w' ∧ (q = false → n ≤ 600 ∧ SmT L)
set_option maxHeartbeats 8000000 in
theorem largeTree_any (L : List NV) (A : Option Addr) (n c : Nat) (w : World) (hT : RT w w.heap.size A n L) (hn : n ≤ maxLen) (hm : ∀ x ∈ L, x.m.size ≤ maxLen) :
    Calls Try.prog 7 #[.slice A n c] w (OutLt L n w) := by
  have HT := Lib.hid hT
  have HM := Lib.hid hm
  have HL := Lib.hid hT.1
  have hn63 : n ≤ 9223372036854775807 := by unfold maxLen at hn; omega
  clear hT hm hn
  go_enter Try.func7, Try.ntmps7
  go_wp2_with fail
  go_loopw [3, 4] (fun vx vi wr => ∃ (k x : Nat), k ≤ n ∧ vi = .int .i64 k ∧ vx = .int .i64 x ∧ k ≤ x ∧ x ≤ 5000 ∧ Hid (Below w.heap.size w wr) ∧ Hid (x ≤ 600 → ∀ y ∈ L.take k, y.n ≤ 1000 ∧ y.m.size ≤ 100000)) (fun _ vi _ => n - (intOf vi).toNat)
  case atStart => exact ⟨0, 0, Nat.zero_le _, rfl, rfl, Nat.le_refl _, by omega, Lib.hid (Below.refl _ _), Lib.hid (fun _ y hy => by simp at hy)⟩
  case round =>
    obtain ⟨k, x, hk, rfl, rfl, hkx, hx5, HB, HE⟩ := hrel
    by_cases hlt : k < n
    · by_cases hx6 : x ≤ 600
      · have kl : k < L.length := by rw [HL.out]; exact hlt
        obtain ⟨b, o, rfl, _, _, _, _, p3, p4, hok⟩ := (HT.out.on HB.out).at kl
        have hms := HM.out _ (List.getElem_mem kl)
        have hns := hok.2.1.2
        have HTk : Hid (L.take (k + 1) = L.take k ++ [L[k]]) := Lib.hid (List.take_succ_eq_append_getElem kl)
        clear hok
        generalize L[k] = y at *
        obtain ⟨yk, ya, yb, yA, yn, yc, ys, ym⟩ := y
        simp only [] at p3 p4 hms hns
        unfold maxLen at hms hns
        obtain ⟨d, hd⟩ : ∃ d, min yn 600 = d := ⟨_, rfl⟩
        obtain ⟨sz, hsz⟩ : ∃ s, ym.size = s := ⟨_, rfl⟩
        obtain ⟨q, hq⟩ : ∃ q, sz / 8 = q := ⟨_, rfl⟩
        obtain ⟨e, he⟩ : ∃ e, min q 600 = e := ⟨_, rfl⟩
        rw [hsz] at hms
        have hm1 : min (yn : Int) 600 = (d : Int) := by omega
        have hd6 : d ≤ 600 := by omega
        have hq1 : (sz : Int) / 8 = (q : Int) := by omega
        have hq2 : Int.tdiv (sz : Int) 8 = (q : Int) := by rw [Int.tdiv_eq_ediv_of_nonneg (by omega)]; omega
        have hq3 : IntKind.i64.wrap (q : Int) = (q : Int) := IntWalk.i64_in _ (by omega)
        have hm2 : min (q : Int) 600 = (e : Int) := by omega
        have he6 : e ≤ 600 := by omega
        have f1 : IntKind.i64.wrap (1 + (d : Int)) = 1 + (d : Int) := IntWalk.i64_in _ (by omega)
        have f2 : IntKind.i64.wrap (1 + (d : Int) + (e : Int)) = 1 + (d : Int) + (e : Int) := IntWalk.i64_in _ (by omega)
        have f3 : IntKind.i64.wrap ((x : Int) + (1 + (d : Int) + (e : Int))) = (x : Int) + (1 + (d : Int) + (e : Int)) := IntWalk.i64_in _ (by omega)
        have HE' : Hid (x + (1 + d + e) ≤ 600 → ∀ y ∈ L.take (k + 1), y.n ≤ 1000 ∧ y.m.size ≤ 100000) := Lib.hid (fun h y hy => by
          rw [HTk.out] at hy
          rcases List.mem_append.1 hy with hy | hy
          · exact HE.out hx6 y hy
          · simp at hy
            subst hy
            simp only []
            omega)
        clear HE HTk hd he hq hns hms
        go_wp2_with fail
        go_quiet (fail)
        go_wp2_with fail
        go_roundw
        case rel => exact ⟨k + 1, x + (1 + d + e), by omega, by go_num, by go_num, by omega, by omega, Lib.hid (below_drewN HB.out _), HE'⟩
        case measure => simp [intOf]; omega
      · have hx6I : ¬ ((x : Int) ≤ 600) := by omega
        have hx6J : (600 : Int) < (x : Int) := by omega
        go_wp2_with fail
        go_ret
        exact ⟨_, rfl, HB.out, fun h => by first | (have := of_decide_eq_false h; omega) | (cases h)⟩
    · obtain rfl : n = k := by omega
      have hnI : ¬ ((n : Int) < (n : Int)) := by omega
      have HD : Hid (x ≤ 600 → SmT L) := Lib.hid (fun h y hy => HE.out h y (by rw [List.take_of_length_le (by rw [HL.out]; exact Nat.le_refl _)]; exact hy))
      clear HE
      go_wp2_with fail
      go_ret
      exact ⟨_, rfl, HB.out, fun h => by have h2 := of_decide_eq_false h; exact ⟨by omega, HD.out (by omega)⟩⟩
end Go.Proofs.Ytfpiackfhdiapaa.S
