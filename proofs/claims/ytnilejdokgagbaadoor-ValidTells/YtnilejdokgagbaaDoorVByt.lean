/- What the document's Bytes of layer 7 returns. -/
import Derived.Test.YtnilejdokgagbaaDoorRDec3
import Derived.Test.YtnilejdokgagbaaDoorKR3
namespace Go.Proofs.YtnilejdokgagbaaDoor
open Go.RowKit Go.BigFrame Go.Maps
set_option linter.unusedVariables false
set_option maxRecDepth 4000
set_option linter.unusedSimpArgs false
set_option maxHeartbeats 4000000 in
theorem refBytes_any (l : List Nat) (n : Nat) (A : Option Addr) (c : Nat) (w : World) (hR : RB w w.heap.size A n l) (hc : n ≤ c) (hn : n ≤ 10000) :
    Calls Tryd.prog 19 #[.slice A n c] w (OutVb l w) := by
  have HDc := Lib.hid (fun W (g : Below w.heap.size w W) => refDecodeO_any l n A c W (hR.on g) hc hn)
  have hres : Res w.heap.size (w.alloc (.cells #[.int .i64 0, .slice none 0 0, .slice none 0 0, .slice none 0 0] 26)) := ⟨by simp, ⟨by simp, by simp, by simp, by simp⟩, by simp, by simp, by simp, by simp⟩
  have b0 := below_new w (.cells #[.int .i64 0, .slice none 0 0, .slice none 0 0, .slice none 0 0] 26)
  have hg0 : w.heap.size < (w.alloc (.cells #[.int .i64 0, .slice none 0 0, .slice none 0 0, .slice none 0 0] 26)).heap.size := by simp
  clear hR
  go_enter Tryd.func19, Tryd.ntmps19
  go_wp2_with fail
  generalize w.alloc (.cells #[.int .i64 0, .slice none 0 0, .slice none 0 0, .slice none 0 0] 26) = W at *
  refine (HDc.out _ b0).mono ?_
  rintro e w1 ⟨V, rfl, ok1, tb1, g, ob⟩
  have bx := below_new w1 (.cells #[.int .i64 V.cl, .slice V.a1 V.n1 V.c1, .slice V.a2 V.n2 V.c2, .slice V.a3 V.n3 V.c3] 26)
  have b1 := below_call b0 b0.size g
  have b2 := below_call b1 b1.size bx
  have HX := Lib.hid (box_new w1 V)
  have hres2 := (hres.on g).on bx
  have HOk := Lib.hid (ok1.on bx)
  have HOb := Lib.hid (ob.on bx)
  have HTb := Lib.hid tb1
  have HVT : Hid (∀ W9, Below w.heap.size w W9 → V.ok W9 → Calls Tryd.prog 21 #[V.v] W9 fun e w' => e = .returned (.int .i64 (errV (decR l))) ∧ Below W9.heap.size W9 w') := Lib.hid (fun W9 _ h => by rw [← tb1]; exact refTable_any V W9 h)
  clear g ok1 ob tb1 hres b0 b1 HDc bx
  have HE : Hid (vErr l = if errT l = 0 then errV (decR l) else (errT l : Nat)) := Lib.hid rfl
  have HT : Hid (vErr l = 0 → vTab l = decR l) := Lib.hid (fun h => by unfold vTab; rw [if_pos h])
  generalize errV (decR l) = ev at *
  generalize errT l = et at *
  obtain ⟨cl, a1, n1, c1, bd, a2, n2, c2, hs, a3, n3, c3, br⟩ := V
  simp only [TV.v] at *
  by_cases h0 : et = 0
  case neg =>
    have hne : (((et : Nat) : Int) == 0) = false := by rw [beq_eq_false_iff_ne]; omega
    have hne2 : (((et : Nat) : Int) != 0) = true := by rw [bne_iff_ne]; omega
    have hne3 : ((et : Nat) : Int) ≠ 0 := by omega
    have HR : Hid (vErr l = ((et : Nat) : Int)) := Lib.hid (by rw [HE.out, if_neg h0])
    have HN3 := Lib.hid hne3
    clear HE h0 hne3
    obtain ⟨_, ⟨p0, p1, p2, p3⟩, f0, f1, f2, f3⟩ := hres2.parts
    go_wp2_with fail
    obtain ⟨W9, hW9, b9, s9, c0, c1, c2, c3, _⟩ := store4 (.int .i64 0) (.slice none 0 0) (.slice none 0 0) (.slice none 0 0) b2 (Nat.le_refl _) p0 p1 p2 p3
    rw [← hW9]
    exact bodyPost_ret (v := .tuple #[.agg #[.int .i64 0, .slice none 0 0, .slice none 0 0, .slice none 0 0], .int .i64 ((et : Nat) : Int)]) (by simp [results, Tryd.results19, go_sem, c0, c1, c2, c3]) rfl (outVb_no HR.out HN3.out b9)
  subst h0
  have HR : Hid (vErr l = ev) := Lib.hid (by rw [HE.out, if_pos rfl])
  clear HE
  obtain ⟨_, q0, q1, q2, q3⟩ := HX.out
  simp only [] at q0 q1 q2 q3
  go_wp2_with fail
  generalize (w1.alloc (.cells #[.int .i64 cl, .slice a1 n1 c1, .slice a2 n2 c2, .slice a3 n3 c3] 26)) = W2 at *
  refine (HVT.out _ b2 HOk.out).mono ?_
  rintro e w3 ⟨rfl, g⟩
  have b3 := below_call b2 b2.size g
  have HOk3 := Lib.hid (HOk.out.on g)
  have HOb3 := Lib.hid (HOb.out.on g)
  have q0 := kept_cell g q0
  have q1 := kept_cell g q1
  have q2 := kept_cell g q2
  have q3 := kept_cell g q3
  have hres3 := hres2.on g
  obtain ⟨_, ⟨p0, p1, p2, p3⟩, f0, f1, f2, f3⟩ := hres3.parts
  clear g hres2 hres3 b2 HOk HOb HVT HX
  by_cases h1 : ev = 0
  case neg =>
    have hne2 : (ev != 0) = true := by rw [bne_iff_ne]; exact h1
    have HN3 := Lib.hid h1
    clear h1
    go_wp2_with fail
    obtain ⟨W9, hW9, b9, s9, c0, c1, c2, c3, _⟩ := store4 (.int .i64 0) (.slice none 0 0) (.slice none 0 0) (.slice none 0 0) b3 (Nat.le_refl _) p0 p1 p2 p3
    rw [← hW9]
    exact bodyPost_ret (v := .tuple #[.agg #[.int .i64 0, .slice none 0 0, .slice none 0 0, .slice none 0 0], .int .i64 ev]) (by simp [results, Tryd.results19, go_sem, c0, c1, c2, c3]) rfl (outVb_no HR.out HN3.out b9)
  subst h1
  go_wp2_with fail
  obtain ⟨W9, hW9, b9, s9, c0', c1', c2', c3', ho9⟩ := store4 (.int .i64 cl) (.slice a1 n1 c1) (.slice a2 n2 c2) (.slice a3 n3 c3) b3 (Nat.le_refl _) p0 p1 p2 p3
  rw [← hW9]
  have k := (HOb3.out.store HOk3.out hg0 ho9).1
  exact bodyPost_ret (v := .tuple #[TV.v ⟨cl, a1, n1, c1, bd, a2, n2, c2, hs, a3, n3, c3, br⟩, .int .i64 0]) (by simp [results, Tryd.results19, go_sem, c0', c1', c2', c3', TV.v]) rfl ⟨⟨cl, a1, n1, c1, bd, a2, n2, c2, hs, a3, n3, c3, br⟩, by rw [HR.out], k, by rw [HT.out HR.out]; exact HTb.out, b9⟩

theorem vTab_small {l : List Nat} (hl : ∀ x ∈ l, x < 256) : Small (vTab l) := by
  unfold vTab
  by_cases hv : vErr l = 0
  · rw [if_pos hv]
    by_cases h : errT l = 0
    · rw [decR_yes h]
      have hI := enc_dec hl h
      have h2 := (err_enc hI).1
      rw [h] at h2
      have hm := hI.1
      by_cases hc : (decT l).cl ≤ 8 ∧ (decT l).nx.length ≤ 5 ∧ 1 ≤ (decT l).bd.length ∧ (decT l).bd.length ≤ 60
      · refine ⟨by omega, ?_, by rw [hm.b1]; omega⟩
        have c1 := hm.c1
        rw [bulk_rect (c := (decT l).cl.toNat) (fun r hr => by have := (hm.nx r hr).1; omega)]
        have := Nat.mul_le_mul hc.2.1 (show (decT l).cl.toNat ≤ 8 by omega)
        omega
      · rw [if_neg hc] at h2
        cases h2
    · rw [decR_no h]
      exact ⟨by simp [zeroT], by simp [zeroT, bulk], by simp [zeroT]⟩
  · rw [if_neg hv]
    exact ⟨by simp [zeroT], by simp [zeroT, bulk], by simp [zeroT]⟩
end Go.Proofs.YtnilejdokgagbaaDoor
