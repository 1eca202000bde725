/- What Takes of package tree returns. -/
import Derived.Test.YtfpiackfhdiapaaTrI
import Derived.Test.YtfpiackfhdiapaaTrQ
namespace Go.Proofs.Ytfpiackfhdiapaa.S
open Go.RowKit Go.BigFrame
set_option linter.unusedVariables false
set_option linter.unusedSimpArgs false

/-- A row of nodes takes a row of scalars. -/
def Tks (T : List Nd) (l : List Int) : Prop := ∃ e, gdE e ∧ T = flat e 0 ∧ T.length ≤ 40000 ∧ tk l e 0 l.length
noncomputable def takesB (T : List Nd) (l : List Int) : Bool := @decide (Tks T l) (Classical.propDecidable _)
theorem takesB_iff {T : List Nd} {l : List Int} : takesB T l = true ↔ Tks T l := ⟨fun h => by unfold takesB at h; exact @of_decide_eq_true _ (Classical.propDecidable _) h, fun h => @decide_eq_true _ (Classical.propDecidable _) h⟩
theorem takesB_no {T : List Nd} {l : List Int} (h : ¬ Tks T l) : takesB T l = false := @decide_eq_false _ (Classical.propDecidable _) h
theorem tks_flat {e : Ex} {l : List Int} (hg : gdE e) (hn : sz e ≤ 40000) : Tks (flat e 0) l ↔ tk l e 0 l.length := by
  constructor
  · rintro ⟨e', _, h2, _, h4⟩
    rw [flat_inj _ _ _ h2]
    exact h4
  · exact fun h => ⟨e, hg, rfl, by rw [flat_len]; exact hn, h⟩
theorem takesB_bad {T : List Nd} {l : List Int} (h : treeB T = false) : takesB T l = false := takesB_no (fun ⟨e, h1, h2, h3, _⟩ => by
  have := (treeB_iff T).2 ⟨e, h1, h2, h3⟩
  rw [h] at this
  cases this)

set_option maxHeartbeats 8000000 in
theorem takes_any (L : List NV) (A Ar : Option Addr) (n c nr cr : Nat) (l : List Int) (w : World) (hT : RT w w.heap.size A n L) (hS : SmT L) (hn : n ≤ 100000) (hR : Reads w w.heap.size 1 Ar nr (icells l)) (hr : nr ≤ 100000) :
    Calls Try.prog 22 #[.slice A n c, .slice Ar nr cr] w fun e w' => e = .returned (.bool (takesB (nds L) l)) ∧ Below w.heap.size w w' := by
  have HG := Lib.hid (treeGood_any L A n c w hT hS (by omega))
  obtain ⟨g, hg⟩ : ∃ g, treeB (nds L) = g := ⟨_, rfl⟩
  rw [hg] at HG
  cases g with
  | false =>
    have HD := Lib.hid (takesB_bad (l := l) hg)
    clear hT hS hR hg
    go_enter Try.func22, Try.ntmps22
    go_wp2_with fail
    refine HG.out.mono ?_
    rintro e w1 ⟨rfl, b1⟩
    go_wp2_with fail
    go_ret
    exact ⟨ret_bool HD.out.symm, b1⟩
  | true =>
    obtain ⟨e, ge, he, hle⟩ := (treeB_iff _).1 hg
    have hsz : sz e = n := by have h := congrArg List.length he; rw [nds_len, hT.1, flat_len] at h; exact h.symm
    have hn4 : n ≤ 40000 := by rw [nds_len, hT.1] at hle; exact hle
    have h0 : 0 < n := by rw [← hsz]; exact sz_pos e
    obtain ⟨k, hk⟩ : ∃ k, n = k + 1 := ⟨n - 1, by omega⟩
    have hrt : rt e 0 = k := by unfold rt; omega
    have hll : l.length = nr := by have := hR.1; simp [icells] at this; omega
    have HK : Hid (takesB (nds L) l = true ↔ tk l e 0 nr) := Lib.hid (by rw [takesB_iff, he, tks_flat ge (by omega), hll])
    have HT := Lib.hid hT
    have HS := Lib.hid hS
    have HR := Lib.hid hR
    have HE := Lib.hid he
    have HRt := Lib.hid hrt
    have fk : IntKind.i64.wrap ((n : Int) - 1) = (k : Int) := by rw [IntWalk.i64_in _ (by omega)]; omega
    clear hT hS hR he hrt hg hsz hle hk
    go_enter Try.func22, Try.ntmps22
    go_wp2_with fail
    refine HG.out.mono ?_
    rintro en w1 ⟨rfl, b1⟩
    have hsz1 := b1.size
    have hmm : (Instr.makeMap 63 none).run Try.prog w1 = .ok (.map (some w1.heap.size)) (w1.alloc (.map #[] 0)) := run_makeMap _ _
    have bm := below_new w1 (.map #[] 0)
    have bq := below_new (w1.alloc (.map #[] 0)) (.cells #[.slice A n c, .slice Ar nr cr, .map (some w1.heap.size)] 65)
    have hz2 : (w1.alloc (.map #[] 0)).heap.size = w1.heap.size + 1 := by simp
    have hz3 : ((w1.alloc (.map #[] 0)).alloc (.cells #[.slice A n c, .slice Ar nr cr, .map (some w1.heap.size)] 65)).heap.size = w1.heap.size + 2 := by simp
    have c0 : ((w1.alloc (.map #[] 0)).alloc (.cells #[.slice A n c, .slice Ar nr cr, .map (some w1.heap.size)] 65)).cell? ⟨w1.heap.size + 1, 0, none⟩ = some (.slice A n c) := by rw [← hz2]; simp
    have c1 : ((w1.alloc (.map #[] 0)).alloc (.cells #[.slice A n c, .slice Ar nr cr, .map (some w1.heap.size)] 65)).cell? ⟨w1.heap.size + 1, 1, none⟩ = some (.slice Ar nr cr) := by rw [← hz2]; simp
    have c2 : ((w1.alloc (.map #[] 0)).alloc (.cells #[.slice A n c, .slice Ar nr cr, .map (some w1.heap.size)] 65)).cell? ⟨w1.heap.size + 1, 2, none⟩ = some (.map (some w1.heap.size)) := by rw [← hz2]; simp
    have HM3 := Lib.hid ((Mp.made w1).on bq)
    have b3 : Below w1.heap.size w1 ((w1.alloc (.map #[] 0)).alloc (.cells #[.slice A n c, .slice Ar nr cr, .map (some w1.heap.size)] 65)) := bm.trans (bq.mono (by omega))
    have b3w := b1.trans (b3.mono hsz1)
    rw [hz2] at *
    go_upto_region 5 with (fail)
    generalize (w1.alloc (.map #[] 0)).alloc (.cells #[.slice A n c, .slice Ar nr cr, .map (some w1.heap.size)] 65) = w3 at *
    generalize hmb : w1.heap.size = mb at *
    have HQ3 : Hid (Qs ⟨A, n, c, Ar, nr, cr, mb + 1, mb, w3.heap.size, l, L⟩ w3) := Lib.hid ⟨c0, c1, c2, (HT.out.below b3w).more b3w.size, (HR.out.below b3w).more b3w.size, HS.out, by show mb + 1 < w3.heap.size; omega, by show mb < w3.heap.size; omega, Nat.le_refl _, hr, hn⟩
    have HAk := Lib.hid (ask_any ⟨A, n, c, Ar, nr, cr, mb + 1, mb, w3.heap.size, l, L⟩ e 0 [] (fun _ => False) 0 w3 HQ3.out HM3.out ⟨[], [], by rw [HE.out]; simp, rfl⟩ (sd_nil l e 0) (cl_nil l e 0 _ (fun _ h => h)) (Nat.zero_le _))
    rw [HRt.out] at HAk
    clear hmm bm bq c0 c1 HG
    go_wp2_with fail
    refine HAk.out.mono ?_
    rintro en w4 ⟨AR, nR, cR, R, L', rfl, _, _, m4, a4, g4⟩
    have HM4 : Hid (Mp w4 mb L') := Lib.hid m4
    have HA4 := Lib.hid (asked_tells a4 nr)
    have c2 : w4.cell? ⟨mb + 1, 2, none⟩ = some (.map (some mb)) := g4.cell HM3.out (show mb + 1 < w3.heap.size by omega) c2
    have HB4 : Hid (Below w.heap.size w w4) := Lib.hid (b3w.trans ⟨g4.os, g4.tape, g4.output, g4.size, fun j hj => g4.block j (by omega) (by show j ≠ mb; omega)⟩)
    rw [HRt.out] at HA4
    obtain ⟨q, hq⟩ : ∃ q, decide (((k, 0, nr) : Tri) ∈ L') = q := ⟨_, rfl⟩
    have hl := HM4.out.has (k, 0, nr)
    rw [hq] at hl
    have hl' : (Instr.lookup 63 (.map (some mb)) (.agg #[.int .i64 (k : Nat), .int .i64 0, .int .i64 (nr : Nat)]) true).run Try.prog w4 = .ok (.tuple #[.agg #[], .bool q]) w4 := hl
    have HD : Hid (takesB (nds L) l = q) := Lib.hid (by
      cases q with
      | true => exact HK.out.2 (HA4.out.1 (of_decide_eq_true hq))
      | false =>
        cases ht : takesB (nds L) l
        · rfl
        · exact absurd (HA4.out.2 (HK.out.1 ht)) (of_decide_eq_false hq))
    clear hl m4 a4 g4 HAk hq HQ3 b3 b3w b1
    go_wp2_with fail
    go_ret
    exact ⟨ret_bool HD.out.symm, HB4.out.trans ((below_new w4 _).mono HB4.out.size)⟩
end Go.Proofs.Ytfpiackfhdiapaa.S
