/- The law PackBack returns true at all bytes, numbers and lists of bools: what was put is got again modulo its size, bits of a list are that list's, and a bit beyond is refused. Conditions: none; nothing that was there before the call is changed. -/
import Derived.Test.YtjhcjdgmhggimaaBack1
import Derived.Test.YtjhcjdgmhggimaaBack2
import Derived.Test.YtjhcjdgmhggimaaBack3
import Derived.Test.YtjhcjdgmhggimaaBack4
namespace Go.Proofs.Ytjhcjdgmhggimaa.packBack
open Go.ChangeShapes Go.WideShapes Go.ChangeAt Go.RowKit Go.BigFrame
set_option linter.unusedVariables false
set_option linter.unusedSimpArgs false

theorem walk_a (b : List Nat) (n : Nat) (A : Option Addr) (c : Nat) (v s : Nat) (lb : List Bool) (m : Nat) (L : Option Addr) (d : Nat) (w : World) (h : 300 < n) :
    Calls Try.prog 4 #[.slice A n c, .agg #[.int .u32 (v : Int), .int .u32 (s : Int)], .slice L m d] w fun e w' => e = .returned (.bool true) ∧ Below w.heap.size w w' := by
  have h1 : (300 : Int) < (n : Int) := by omega
  have bx := below_new w (.cells #[.int .u32 (v : Int), .int .u32 (s : Int)] 40)
  have x0 : (w.alloc (.cells #[.int .u32 (v : Int), .int .u32 (s : Int)] 40)).cell? ⟨w.heap.size, 0, none⟩ = some (.int .u32 (v : Int)) := by simp
  have x1 : (w.alloc (.cells #[.int .u32 (v : Int), .int .u32 (s : Int)] 40)).cell? ⟨w.heap.size, 1, none⟩ = some (.int .u32 (s : Int)) := by simp
  go_enter Try.func4, Try.ntmps4
  go_wp2_with fail
  generalize w.alloc (.cells #[.int .u32 (v : Int), .int .u32 (s : Int)] 40) = w0 at *
  go_quiet (fail)
  have b1 : Below w.heap.size w (w0.drewN nq) := below_drewN bx _
  generalize w0.drewN nq = W0 at *
  clear bx x0 x1
  go_wp2_with fail
  refine (wakes_any _).mono ?_
  rintro e w1 ⟨rfl, g⟩
  have b2 := b1.trans (g.mono b1.size)
  go_wp2_with fail
  go_ret
  exact ⟨rfl, b2⟩

theorem walk_b (b : List Nat) (n : Nat) (A : Option Addr) (c : Nat) (v s : Nat) (lb : List Bool) (m : Nat) (L : Option Addr) (d : Nat) (w : World) (h : ¬ 300 < n) (h2 : 300 < m) :
    Calls Try.prog 4 #[.slice A n c, .agg #[.int .u32 (v : Int), .int .u32 (s : Int)], .slice L m d] w fun e w' => e = .returned (.bool true) ∧ Below w.heap.size w w' := by
  have h1 : ¬ ((300 : Int) < (n : Int)) := by omega
  have h3 : (300 : Int) < (m : Int) := by omega
  have bx := below_new w (.cells #[.int .u32 (v : Int), .int .u32 (s : Int)] 40)
  have x0 : (w.alloc (.cells #[.int .u32 (v : Int), .int .u32 (s : Int)] 40)).cell? ⟨w.heap.size, 0, none⟩ = some (.int .u32 (v : Int)) := by simp
  have x1 : (w.alloc (.cells #[.int .u32 (v : Int), .int .u32 (s : Int)] 40)).cell? ⟨w.heap.size, 1, none⟩ = some (.int .u32 (s : Int)) := by simp
  go_enter Try.func4, Try.ntmps4
  go_wp2_with fail
  generalize w.alloc (.cells #[.int .u32 (v : Int), .int .u32 (s : Int)] 40) = w0 at *
  go_quiet (fail)
  have b1 : Below w.heap.size w (w0.drewN nq) := below_drewN bx _
  generalize w0.drewN nq = W0 at *
  clear bx x0 x1
  go_wp2_with fail
  refine (wakes_any _).mono ?_
  rintro e w1 ⟨rfl, g⟩
  have b2 := b1.trans (g.mono b1.size)
  go_wp2_with fail
  go_ret
  exact ⟨rfl, b2⟩

theorem walk (b : List Nat) (n : Nat) (A : Option Addr) (c : Nat) (v s : Nat) (lb : List Bool) (m : Nat) (L : Option Addr) (d : Nat) (w : World) (hA : Shp A n c) (hB : RB w w.heap.size A n b) (hL : RL w w.heap.size L m lb) (hv : v < 4294967296) (hs : s < 4294967296) :
    Calls Try.prog 4 #[.slice A n c, .agg #[.int .u32 (v : Int), .int .u32 (s : Int)], .slice L m d] w fun e w' => e = .returned (.bool true) ∧ Below w.heap.size w w' := by
  by_cases h1 : 300 < n
  · exact walk_a b n A c v s lb m L d w h1
  by_cases h2 : 300 < m
  · exact walk_b b n A c v s lb m L d w h1 h2
  have : s % 4 = 0 ∨ s % 4 = 1 ∨ s % 4 = 2 ∨ s % 4 = 3 := by omega
  rcases this with h | h | h | h
  · exact walk_1 b n A c v s lb m L d w hA hB hL (by omega) (by omega) hv hs h
  · exact walk_2 b n A c v s lb m L d w hA hB hL (by omega) (by omega) hv hs h
  · exact walk_3 b n A c v s lb m L d w hA hB hL (by omega) (by omega) hv hs h
  · exact walk_4 b n A c v s lb m L d w hA hB hL (by omega) (by omega) hv hs h

/-! From the walk to the row. -/
set_option maxRecDepth 100000 in
theorem contract (H : Type) (enc : TypeId × Value → H) (W : World) (base : Nat) (args : Array Value) (ds gs : List (DataW H)) (before : List MemPlace)
    (hval0 : ∀ (j : Nat) t v, Try.f4.params[j]? = some t → args[j]? = some v → Value.okWide Try.prog W .any base t v)
    (hW : DataW.Whole enc Try.prog Try.f4.params.toList Rows.packBackSpec.vars false W args.toList ds gs before) :
    Calls Try.prog 4 args W fun e W' => ∃ v, e = .returned v ∧ Rows.packBackSpec.post enc Try.prog Try.f4 false true false false W args v W' := by
  have hval : ∀ (j : Nat) t v, Try.f4.params[j]? = some t → args[j]? = some v → Value.okWide Try.prog W .any base t v := hval0
  have hW' := hW
  obtain ⟨p, q, hA0, hV, rfl, hfz, hnd⟩ := hW
  have hA : DataW.TrodAll enc Try.prog W 0 (fun _ => true) true Try.f4.params.toList args.toList ds p := hA0
  rw [Try.params4] at hA hval
  obtain ⟨v0, vs0, d0, ds0, p0, q0, hargs, rfl, rfl, h0, r0⟩ := trodAll_cons hA
  obtain ⟨v1, vs1, d1, ds1, p1, q1, rfl, rfl, rfl, h1, r1⟩ := trodAll_cons r0
  obtain ⟨v2, vs2, d2, ds2, p2, q2, rfl, rfl, rfl, h2, r2⟩ := trodAll_cons r1
  obtain ⟨rfl, rfl, rfl⟩ := trodAll_nil r2
  obtain rfl : args = #[v0, v1, v2] := by cases args; simp_all
  obtain ⟨rfl, rfl⟩ := trodVars_none hV
  obtain ⟨a0, len0, cap0, rfl⟩ := okWide_slice Try.underlying22 (hval 0 22 v0 rfl rfl)
  have k0 := h0
  have lt0 : ∀ x ∈ p0, x.block < W.heap.size := by obtain ⟨m, hm⟩ := k0; exact DataW.trod_lt m _ _ _ hm
  obtain ⟨l0, hl0, hs0, hr0⟩ : ∃ l, l.length = len0 ∧ Shp a0 len0 cap0 ∧ RB W W.heap.size a0 len0 l := by
    obtain ⟨fuel, hf⟩ := h0
    exact open_bytes (by simpa [Value.cells] using hf)
  obtain ⟨cs1, rfl⟩ := okWide_arr Try.underlying40 (hval 1 40 v1 rfl rfl)
  have k1 := h1
  have lt1 : ∀ x ∈ p1, x.block < W.heap.size := by obtain ⟨m, hm⟩ := k1; exact DataW.trod_lt m _ _ _ hm
  obtain ⟨x1, y1, e1, bx1, by1⟩ : ∃ x y : Nat, cs1.toList = [.int .u32 (x : Int), .int .u32 (y : Int)] ∧ x < 4294967296 ∧ y < 4294967296 := by
    obtain ⟨fuel, hf⟩ := h1
    exact open_arr2 (by simpa [Value.cells] using hf)
  obtain rfl : cs1 = #[.int .u32 (x1 : Int), .int .u32 (y1 : Int)] := by cases cs1; simp_all
  obtain ⟨a2, len2, cap2, rfl⟩ := okWide_slice Try.underlying24 (hval 2 24 v2 rfl rfl)
  have k2 := h2
  have lt2 : ∀ x ∈ p2, x.block < W.heap.size := by obtain ⟨m, hm⟩ := k2; exact DataW.trod_lt m _ _ _ hm
  obtain ⟨l2, hl2, hs2, hr2⟩ : ∃ l, l.length = len2 ∧ Shp a2 len2 cap2 ∧ RL W W.heap.size a2 len2 l := by
    obtain ⟨fuel, hf⟩ := h2
    exact open_bools (by simpa [Value.cells] using hf)
  clear hA0 hval0
  refine (walk l0 len0 a0 cap0 x1 y1 l2 len2 a2 cap2 W hs0 hr0 hr2 bx1 by1).mono fun e W' ⟨he, bel⟩ => ?_
  subst he
  exact ⟨_, rfl, _, _, _, [], _, [], hW', trodAll_mk1 (shut_bool Try.underlying4 _), (trodAll_cons_mk (Below.trod laidOut (by kernel_rfl) (of_decide_eq_true (by kernel_rfl)) k0 bel lt0) (trodAll_cons_mk (Below.trod laidOut (by kernel_rfl) (of_decide_eq_true (by kernel_rfl)) k1 bel lt1) (trodAll_cons_mk (Below.trod laidOut (by kernel_rfl) (of_decide_eq_true (by kernel_rfl)) k2 bel lt2) trodAll_mk0))), rfl, bel.frame _, fun h => by cases h⟩

set_option maxRecDepth 100000 in
theorem lifted (os : Os) (started : os.Started) (H : Type) (enc : TypeId × Value → H) :
    ReturnsInHanded {} Try.checked os 4 .any (Rows.packBackSpec.pre6 enc Try.prog Try.f4 Rows.packBackRow.domain false) (Rows.packBackSpec.post enc Try.prog Try.f4 false true false false) := by
  refine returnsInHanded_of_change (C := Try.checked) own started (by kernel_rfl) Try.func4
    (ChangeSpec.witness6 (enc := enc) (C := Try.checked) false ⟨#[], #[.slice none 0 0, .agg #[.int .u32 0, .int .u32 0], .slice none 0 0], []⟩ 8 (by kernel_rfl) (by kernel_rfl) (by kernel_rfl) (by kernel_rfl)) ?_
  intro W base args ds gs before hval hW _ _
  exact contract H enc W base args ds gs before hval hW

set_option maxRecDepth 100000 in
theorem over : Rows.packBackRow.holds Try.pinned (OpenSpec.ofChange Rows.packBackSpec) :=
  OpenClaim.holds_of_wide 4 Try.f4 rfl rfl rfl rfl rfl rfl rfl ⟨rfl, rfl, rfl, rfl, rfl⟩ rfl rfl rfl rfl rfl (by kernel_rfl) Try.func4 (by kernel_rfl)
    (of_decide_eq_true (by kernel_rfl)) (by unfold Func.isWrapper; first | (rw [if_pos (by decide +kernel)]; kernel_rfl) | (rw [if_neg (by decide +kernel)]; exact ⟨rfl, rfl⟩))
    (fun os started H enc _ => lifted os started H enc)
end Go.Proofs.Ytjhcjdgmhggimaa.packBack

namespace Go.Proofs.Ytjhcjdgmhggimaa
/-- The given statement, under a short name. -/
theorem packBack_holds : Rows.PackBackSaid := packBack.over
#print axioms packBack_holds
end Go.Proofs.Ytjhcjdgmhggimaa
