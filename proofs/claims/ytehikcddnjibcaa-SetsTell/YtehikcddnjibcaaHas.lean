/- What slices.IndexFunc, slices.ContainsFunc and Has return. -/
import Derived.Test.YtehikcddnjibcaaUnion
namespace Go.Proofs.Ytehikcddnjibcaa
open Go.RowKit Go.BigFrame
set_option linter.unusedVariables false
set_option linter.unusedSimpArgs false

theorem inB_take (l : List Rg) (k : Nat) (hk : k < l.length) (v : Int) : inB (l.take (k + 1)) v = (inB (l.take k) v || (decide (l[k].1 ≤ v) && decide (v ≤ l[k].2))) := by
  rw [List.take_succ_eq_append_getElem hk]
  unfold inB
  rw [List.any_append]
  simp
theorem inB_at (l : List Rg) (k : Nat) (hk : k < l.length) (v : Int) (h : (decide (l[k].1 ≤ v) && decide (v ≤ l[k].2)) = true) : inB l v = true := by
  unfold inB
  rw [List.any_eq_true]
  exact ⟨l[k], List.getElem_mem hk, h⟩

set_option maxHeartbeats 1000000 in
theorem index_any (l : List Rg) (n : Nat) (hl : l.length = n) (A : Option Addr) (c B : Nat) (v : Int) (w : World) (hR : Reads w w.heap.size 2 A n (rcells l)) (hc : w.cell? ⟨B, 0, none⟩ = some (.int .i64 v)) (hn : n ≤ 1000000) :
    Calls Try.prog 53 #[.slice A n c, .func (.func 42) #[] #[.pointer (some ⟨B, 0, none⟩)]] w fun e w' => ∃ r : Int, e = .returned (.int .i64 r) ∧ decide (0 ≤ r) = inB l v ∧ Below w.heap.size w w' := by
  have HR := Lib.hid hR
  have HL := Lib.hid hl
  have HC := Lib.hid hc
  clear hR hl hc
  go_enter Try.func53, Try.ntmps53
  go_wp2_with fail
  go_loopw [8] (fun i wr => ∃ (k : Nat), k ≤ n ∧ i = .int .i64 k ∧ Below w.heap.size w wr ∧ Hid (inB (l.take k) v = false)) (fun i _ => n - (intOf i).toNat)
  case atStart => exact ⟨0, Nat.zero_le _, rfl, Below.refl _ _, Lib.hid (by simp [inB])⟩
  case round =>
    obtain ⟨k, hk, rfl, hb, HG⟩ := hrel
    have hsz := hb.size
    by_cases hlt : k < n
    · have kl : k < l.length := by rw [HL.out]; exact hlt
      obtain ⟨b, o, rfl, hbb, p0, p1⟩ := (HR.out.below hb).rg kl
      have HT : Hid ((decide (l[k].1 ≤ v) && decide (v ≤ l[k].2)) = true → inB l v = true) := Lib.hid (fun h => inB_at l k kl v h)
      have HF : Hid ((decide (l[k].1 ≤ v) && decide (v ≤ l[k].2)) = false → inB (l.take (k + 1)) v = false) := Lib.hid (fun h => by rw [inB_take l k kl, HG.out, h]; rfl)
      have hcr := kept_cell hb HC.out
      generalize l[k] = x at *
      obtain ⟨x0, x1⟩ := x
      simp only [] at p0 p1
      have ht := fun W hB hc => test_any x0 x1 v B W hB hc
      have hBr := World.block_lt_of_cell? _ _ hcr
      cases hm : (decide (x0 ≤ v) && decide (v ≤ x1))
      · rw [hm] at ht
        have HX := Lib.hid (HF.out hm)
        clear HT HF HG hm
        go_wp2_with fail
        refine (ht _ hBr hcr).mono ?_
        rintro e w2 ⟨rfl, g2, _⟩
        have b2 : Below w.heap.size w w2 := hb.trans (g2.mono hsz)
        go_wp2_with fail
        go_roundw
        case rel => exact ⟨k + 1, by omega, by go_num, b2, HX⟩
        case measure => simp [intOf]; omega
      · rw [hm] at ht
        have HX := Lib.hid (HT.out hm)
        clear HT HF HG hm
        go_wp2_with fail
        refine (ht _ hBr hcr).mono ?_
        rintro e w2 ⟨rfl, g2, _⟩
        have b2 : Below w.heap.size w w2 := hb.trans (g2.mono hsz)
        go_wp2_with fail
        go_ret
        exact ⟨k, rfl, by rw [HX.out]; exact decide_eq_true (by omega), b2⟩
    · have HX : Hid (inB l v = false) := Lib.hid (by
        have h := HG.out
        rwa [List.take_of_length_le (by rw [HL.out]; omega)] at h)
      go_wp2_with fail
      go_ret
      exact ⟨-1, rfl, by rw [HX.out]; decide, hb⟩

theorem contains_any (l : List Rg) (n : Nat) (hl : l.length = n) (A : Option Addr) (c B : Nat) (v : Int) (w : World) (hR : Reads w w.heap.size 2 A n (rcells l)) (hc : w.cell? ⟨B, 0, none⟩ = some (.int .i64 v)) (hn : n ≤ 1000000) :
    Calls Try.prog 41 #[.slice A n c, .func (.func 42) #[] #[.pointer (some ⟨B, 0, none⟩)]] w fun e w' => e = .returned (.bool (inB l v)) ∧ Below w.heap.size w w' := by
  have H := Lib.hid (index_any l n hl A c B v w hR hc hn)
  clear hR hc
  go_enter Try.func41, Try.ntmps41
  go_wp2_with fail
  refine H.out.mono ?_
  rintro e w1 ⟨r, rfl, hr, b1⟩
  have HRr := Lib.hid hr
  clear hr
  go_wp2_with fail
  go_ret
  exact ⟨ret_bool HRr.out, b1⟩

/-- What Has tells. -/
def hasB (l : List Rg) (v : Int) : Bool := isB v && (goodB l && inB l v)

theorem has_n (l : List Rg) (n : Nat) (hl : l.length = n) (A : Option Addr) (c : Nat) (v : Int) (w : World) (hR : Reads w w.heap.size 2 A n (rcells l)) (hn : n ≤ 1000000) :
    Calls Try.prog 20 #[.slice A n c, .int .i64 v] w fun e w' => e = .returned (.bool (hasB l v)) ∧ Below w.heap.size w w' := by
  have HR := Lib.hid (hR.alloc (Nat.le_refl _) (.cells #[.int .i64 v] 3))
  have HL := Lib.hid hl
  have h1 := fun W => is_any v W
  have H2 := Lib.hid (fun W hR => good_n n l hl A c W hR hn)
  unfold hasB
  clear hR hl
  cases hi : isB v
  · rw [hi] at h1
    clear hi
    go_enter Try.func20, Try.ntmps20
    go_wp2_with fail
    refine (h1 _).mono ?_
    rintro e w1 ⟨rfl, rfl⟩
    go_wp2_with fail
    go_ret
    exact ⟨rfl, below_new _ _⟩
  · rw [hi] at h1
    cases hg : goodB l
    · rw [hg] at H2
      clear hi hg
      go_enter Try.func20, Try.ntmps20
      go_wp2_with fail
      refine (h1 _).mono ?_
      rintro e w1 ⟨rfl, rfl⟩
      go_wp2_with fail
      refine (H2.out _ (HR.out.more (by simp))).mono ?_
      rintro e w2 ⟨rfl, b2⟩
      have b2' := (below_new w (.cells #[.int .i64 v] 3)).trans (b2.mono (by simp))
      go_wp2_with fail
      go_ret
      exact ⟨rfl, b2'⟩
    · rw [hg] at H2
      clear hi hg
      go_enter Try.func20, Try.ntmps20
      go_wp2_with fail
      refine (h1 _).mono ?_
      rintro e w1 ⟨rfl, rfl⟩
      go_wp2_with fail
      refine (H2.out _ (HR.out.more (by simp))).mono ?_
      rintro e w2 ⟨rfl, b2⟩
      have b2' := (below_new w (.cells #[.int .i64 v] 3)).trans (b2.mono (by simp))
      have hcell : w2.cell? ⟨w.heap.size, 0, none⟩ = some (.int .i64 v) := kept_cell b2 (by simp)
      have HR2 := Lib.hid (((HR.out.more (B' := (w.alloc (.cells #[.int .i64 v] 3)).heap.size) (by simp)).below b2).more b2.size)
      clear b2
      go_wp2_with fail
      refine (contains_any l n HL.out A c w.heap.size v _ HR2.out hcell hn).mono ?_
      rintro e w3 ⟨rfl, b3⟩
      have b3' := b2'.trans (b3.mono b2'.size)
      go_wp2_with fail
      go_ret
      exact ⟨ret_bool (by simp), b3'⟩
end Go.Proofs.Ytehikcddnjibcaa
