/- The law PackSums returns true at all bytes, places and bytes turned: two rows of bytes that differ in one byte have two sums, and the sum goes on byte by byte. Conditions: none; nothing that was there before the call is changed. -/
import Derived.Test.YtjhcjdgmhggimaaFrame
namespace Go.Proofs.Ytjhcjdgmhggimaa.packSums
open Go.ChangeShapes Go.WideShapes Go.ChangeAt Go.RowKit Go.BigFrame
set_option linter.unusedVariables false
set_option linter.unusedSimpArgs false

theorem xor_u8 (x y : Nat) (hx : x < 256) (hy : y < 256) : bits .xor .u8 (x : Int) (y : Int) = ((x ^^^ y : Nat) : Int) := u8_xor_nat x y hx hy
theorem xor_self_iff (x y : Nat) : x = x ^^^ y ↔ y = 0 := by
  constructor
  · intro h
    have : x ^^^ x = x ^^^ (x ^^^ y) := congrArg (x ^^^ ·) h
    rw [← Nat.xor_assoc, Nat.xor_self, Nat.zero_xor] at this
    exact this.symm
  · intro h; rw [h, Nat.xor_zero]
theorem walk_out (b : List Nat) (n : Nat) (A : Option Addr) (c : Nat) (at' y : Nat) (w : World) (hR : RB w w.heap.size A n b) (h : n = 0 ∨ 500 < n) :
    Calls Try.prog 5 #[.slice A n c, .int .u16 at', .int .u8 y] w fun e w' => e = .returned (.bool true) ∧ Below w.heap.size w w' := by
  rcases h with h | h
  · subst h
    clear hR
    go_enter Try.func5, Try.ntmps5
    go_wp2_with fail
    refine (wakes_any _).mono ?_
    rintro e w1 ⟨rfl, g⟩
    go_wp2_with fail
    go_ret
    exact ⟨rfl, g⟩
  · have h1 : ((n : Int) == 0) = false := by rw [beq_eq_false_iff_ne]; omega
    have h2 : (500 : Int) < (n : Int) := by omega
    clear hR
    go_enter Try.func5, Try.ntmps5
    go_wp2_with fail
    refine (wakes_any _).mono ?_
    rintro e w1 ⟨rfl, g⟩
    go_wp2_with fail
    go_ret
    exact ⟨rfl, g⟩
set_option maxHeartbeats 2000000 in
theorem walk_in (b : List Nat) (m : Nat) (A : Option Addr) (c : Nat) (at' y : Nat) (w : World) (hS : Shp A (m + 1) c) (hR : RB w w.heap.size A (m + 1) b) (h : m < 500) (hat : at' < 65536) (hy : y < 256) :
    Calls Try.prog 5 #[.slice A (m + 1) c, .int .u16 at', .int .u8 y] w fun e w' => e = .returned (.bool true) ∧ Below w.heap.size w w' := by
  obtain ⟨i0, hi0, hz0, hz1, hz2⟩ := info_parts info5
  obtain ⟨n, hn⟩ : ∃ n, n = m + 1 := ⟨_, rfl⟩
  rw [← hn] at hS hR ⊢
  have hnm1 : n ≤ m + 1 := by omega
  have hnm2 : m + 1 ≤ n := by omega
  clear hn
  have hnz : ((n : Int) == 0) = false := by rw [beq_eq_false_iff_ne]; omega
  have hn5 : ¬ ((500 : Int) < (n : Int)) := by omega
  have hnI : (n : Int) - 1 = (m : Int) := by omega
  have hmc : (m : Int) ≤ (c : Int) := by have := hS.2.1; omega
  obtain ⟨k, hk⟩ : ∃ k, at' % n = k := ⟨_, rfl⟩
  have kn : k < n := by rw [← hk]; exact Nat.mod_lt _ (by omega)
  have k1 : (at' : Int) % (n : Int) = (k : Int) := by rw [← hk]; rfl
  have k2 : Int.tmod (at' : Int) (n : Int) = (k : Int) := by rw [Int.tmod_eq_emod_of_nonneg (by omega)]; exact k1
  have hbl : b.length = n := hR.1
  have kl : k < b.length := by omega
  have ml : m < b.length := by omega
  have HY := Lib.hid hR.2.2
  have HA := Lib.hid hS.1
  have HR := Lib.hid hR
  have HR1 := Lib.hid hR.2.1
  have HSet := Lib.hid (sumL_set b hR.2.2 k (b[k] ^^^ y) kl (Nat.xor_lt_two_pow (n := 8) (hR.2.2 _ (List.getElem_mem kl)) hy))
  have HYs := Lib.hid (set_lt hR.2.2 k (b[k] ^^^ y) (Nat.xor_lt_two_pow (n := 8) (hR.2.2 _ (List.getElem_mem kl)) hy))
  have hx8 : b[k] < 256 := hR.2.2 _ (List.getElem_mem kl)
  clear hk hR
  go_enter Try.func5, Try.ntmps5
  go_wp2_with (at_builtin; refine wpList_append_src rfl _ _ 22 rfl w.heap.size 5 i0 _ 1 1 Try.underlying22 hi0 hz0 hz1 hz2 rfl (by decide) _ _ _ rfl (World.ownsRow_made (size := 1) w #[] 0 (Nat.le_refl _) (Nat.zero_le _) (by simp)) A n c w.heap.size (ycells b) rfl HA.out (HR1.out.alloc (Nat.le_refl _) _) (ycells_one b) ?c3 ?c4 (by simp) ?_)
  case c3 => unfold maxLen; omega
  case c4 => omega
  intro A1 c1 w1 hown1 hn1 hgrow1
  have b1 : Below w.heap.size w w1 := below_grown (below_new _ _) (by simp) (World.ownsRow_made (size := 1) w #[] 0 (Nat.le_refl _) (Nat.zero_le _) (by simp)) hgrow1
  try simp only [Nat.zero_add, List.nil_append] at hown1 ⊢
  have hown : w1.ownsRow w.heap.size 5 1 (.slice A1 n c1) n (ycells b) := by simpa using hown1
  clear hown1 hgrow1 hn1 HR1
  obtain ⟨g, cap, hv, hgb, hglt⟩ := hown.form (by omega)
  injection hv with hA1 _ hc1
  subst hA1 hc1
  have q0 := own_byteC hown kl
  have f0 := hown.frozenAt k
  have HO2 : Hid ((w1.setCell ⟨g, k, none⟩ (.int .u8 ((b[k] ^^^ y : Nat) : Int))).ownsRow w.heap.size 5 1 (.slice (some ⟨g, 0, none⟩) n c1) n (ycells (b.set k (b[k] ^^^ y)))) := Lib.hid (by
    have h := (hown.stored k (.int .u8 ((b[k] ^^^ y : Nat) : Int))).1
    rwa [ycells_set] at h)
  have b2 : Below w.heap.size w (w1.setCell ⟨g, k, none⟩ (.int .u8 ((b[k] ^^^ y : Nat) : Int))) := b1.setCell (p := ⟨g, k, none⟩) hgb _
  have hxor := xor_u8 b[k] y hx8 hy
  have HX := Lib.hid (xor_self_iff b[k] y)
  generalize b[k] = x at *
  generalize x ^^^ y = z at *
  clear hown b1
  go_wp2_with fail
  generalize w1.setCell ⟨g, k, none⟩ (.int .u8 (z : Int)) = w2 at *
  have HRb := Lib.hid (HR.out.on b2)
  have HRc := Lib.hid (own_RB HO2.out HYs.out)
  clear HR HO2 q0 f0
  generalize b.set k z = b' at *
  refine (sum_b b n A c _ HRb.out (by omega)).mono ?_
  rintro e w3 ⟨rfl, g3⟩
  have HRb3 := Lib.hid (HRb.out.on g3)
  have HRc3 := Lib.hid (HRc.out.on g3)
  have b3 := b2.trans (g3.mono b2.size)
  clear HRb HRc b2 g3
  go_wp2_with fail
  refine (sum_b b' n _ _ _ HRc3.out (by omega)).mono ?_
  rintro e w4 ⟨rfl, g4⟩
  have HRb4 := Lib.hid (HRb3.out.on g4)
  have b4 := b3.trans (g4.mono b3.size)
  clear HRb3 HRc3 b3 g4
  have hq : (((sumL b : Nat) : Int) == ((sumL b' : Nat) : Int)) = ((y : Int) == 0) := by
    rw [Bool.eq_iff_iff, beq_iff_eq, beq_iff_eq]
    have h1 := HSet.out
    have h2 := HX.out
    constructor
    · intro h
      have : sumL b = sumL b' := by omega
      have := h2.1 (h1.1 this)
      omega
    · intro h
      have : sumL b = sumL b' := h1.2 (h2.2 (by omega))
      omega
  have hne : ∀ t : Bool, (t != t) = false := by intro t; cases t <;> rfl
  have hs0 := sumL_lt (b.take m)
  have hm8 : b[m] < 256 := HY.out _ (List.getElem_mem ml)
  have hyl := xor_lt hs0 hm8
  have hxm := xor_u32 _ _ hs0 hm8
  have HRt := Lib.hid (HRb4.out.take (k := m) (by omega))
  have hst := sum_step b m ml
  rw [show b.take (m + 1) = b from List.take_of_length_le (by omega)] at hst
  obtain ⟨ba, oa, rfl, _, pm, _⟩ := HRb4.out.at ml
  generalize hsb : sumL b = sb at *
  generalize sumL b' = sb' at *
  have HSb := Lib.hid hsb
  clear hsb
  obtain ⟨t, ht⟩ : ∃ t, ((y : Int) == 0) = t := ⟨_, rfl⟩
  rw [ht] at hq
  cases t
  · go_wp2_with fail
    refine (sum_b (b.take m) m _ c _ HRt.out (by omega)).mono ?_
    rintro e w5 ⟨rfl, g5⟩
    have HRb5 := Lib.hid (HRb4.out.on g5)
    have pm5 := kept_cell g5 pm
    have b5 := b4.trans (g5.mono b4.size)
    clear HRb4 HRt b4 g5 pm
    generalize sumL (b.take m) = s0 at *
    generalize b[m] = xm at *
    generalize s0 ^^^ xm = ym at *
    have hor := rot_bits ym hyl
    generalize rot ym = rm at *
    go_wp2_with fail
    refine (sum_b b n _ c _ HRb5.out (by omega)).mono ?_
    rintro e w6 ⟨rfl, g6⟩
    have b6 := b5.trans (g6.mono b5.size)
    rw [HSb.out]
    have hst2 : ((sb : Int) == ((rm : Int) + 2654435761) % 4294967296) = true := by rw [beq_iff_eq]; exact hst.symm
    clear HRb5 b5 g6 pm5
    go_wp2_with fail
    refine (wakes_any _).mono ?_
    rintro e w7 ⟨rfl, g7⟩
    have b7 := b6.trans (g7.mono b6.size)
    go_wp2_with fail
    go_ret
    exact ⟨rfl, b7⟩
  · go_wp2_with fail
    refine (sum_b (b.take m) m _ c _ HRt.out (by omega)).mono ?_
    rintro e w5 ⟨rfl, g5⟩
    have HRb5 := Lib.hid (HRb4.out.on g5)
    have pm5 := kept_cell g5 pm
    have b5 := b4.trans (g5.mono b4.size)
    clear HRb4 HRt b4 g5 pm
    generalize sumL (b.take m) = s0 at *
    generalize b[m] = xm at *
    generalize s0 ^^^ xm = ym at *
    have hor := rot_bits ym hyl
    generalize rot ym = rm at *
    go_wp2_with fail
    refine (sum_b b n _ c _ HRb5.out (by omega)).mono ?_
    rintro e w6 ⟨rfl, g6⟩
    have b6 := b5.trans (g6.mono b5.size)
    rw [HSb.out]
    have hst2 : ((sb : Int) == ((rm : Int) + 2654435761) % 4294967296) = true := by rw [beq_iff_eq]; exact hst.symm
    clear HRb5 b5 g6 pm5
    go_wp2_with fail
    refine (wakes_any _).mono ?_
    rintro e w7 ⟨rfl, g7⟩
    have b7 := b6.trans (g7.mono b6.size)
    go_wp2_with fail
    go_ret
    exact ⟨rfl, b7⟩
theorem walk (b : List Nat) (n : Nat) (A : Option Addr) (c : Nat) (at' y : Nat) (w : World) (hS : Shp A n c) (hR : RB w w.heap.size A n b) (hat : at' < 65536) (hy : y < 256) :
    Calls Try.prog 5 #[.slice A n c, .int .u16 at', .int .u8 y] w fun e w' => e = .returned (.bool true) ∧ Below w.heap.size w w' := by
  by_cases h : n = 0 ∨ 500 < n
  · exact walk_out b n A c at' y w hR h
  · obtain ⟨m, rfl⟩ : ∃ m, n = m + 1 := ⟨n - 1, by omega⟩
    exact walk_in b m A c at' y w hS hR (by omega) hat hy

/-! From the walk to the row. -/
set_option maxRecDepth 100000 in
theorem contract (H : Type) (enc : TypeId × Value → H) (W : World) (base : Nat) (args : Array Value) (ds gs : List (DataW H)) (before : List MemPlace)
    (hval0 : ∀ (j : Nat) t v, Try.f5.params[j]? = some t → args[j]? = some v → Value.okWide Try.prog W .any base t v)
    (hW : DataW.Whole enc Try.prog Try.f5.params.toList Rows.packSumsSpec.vars false W args.toList ds gs before) :
    Calls Try.prog 5 args W fun e W' => ∃ v, e = .returned v ∧ Rows.packSumsSpec.post enc Try.prog Try.f5 false true false false W args v W' := by
  have hval : ∀ (j : Nat) t v, Try.f5.params[j]? = some t → args[j]? = some v → Value.okWide Try.prog W .any base t v := hval0
  have hW' := hW
  obtain ⟨p, q, hA0, hV, rfl, hfz, hnd⟩ := hW
  have hA : DataW.TrodAll enc Try.prog W 0 (fun _ => true) true Try.f5.params.toList args.toList ds p := hA0
  rw [Try.params5] at hA hval
  obtain ⟨v0, vs0, d0, ds0, p0, q0, hargs, rfl, rfl, h0, r0⟩ := trodAll_cons hA
  obtain ⟨v1, vs1, d1, ds1, p1, q1, rfl, rfl, rfl, h1, r1⟩ := trodAll_cons r0
  obtain ⟨v2, vs2, d2, ds2, p2, q2, rfl, rfl, rfl, h2, r2⟩ := trodAll_cons r1
  obtain ⟨rfl, rfl, rfl⟩ := trodAll_nil r2
  obtain rfl : args = #[v0, v1, v2] := by cases args; simp_all
  obtain ⟨rfl, rfl⟩ := trodVars_none hV
  obtain ⟨a0, len0, cap0, rfl⟩ := okWide_slice Try.underlying22 (hval 0 22 v0 rfl rfl)
  have k0 := h0
  have lt0 : ∀ x ∈ p0, x.block < W.heap.size := by obtain ⟨m, hm⟩ := k0; exact DataW.trod_lt m _ _ _ hm
  obtain ⟨l0, hl0, hs0, hr0⟩ : ∃ l, l.length = len0 ∧ Shp a0 len0 cap0 ∧ RB W W.heap.size a0 len0 l := by
    obtain ⟨fuel, hf⟩ := h0
    exact open_bytes (by simpa [Value.cells] using hf)
  obtain ⟨z1, rfl, rfl, rfl, wf1⟩ := open_int Try.underlying43 (hval 1 43 v1 rfl rfl) h1
  obtain ⟨zl1, zu1⟩ := wf_u16 wf1
  obtain ⟨a1, rfl⟩ := Int.eq_ofNat_of_zero_le zl1
  obtain ⟨z2, rfl, rfl, rfl, wf2⟩ := open_int Try.underlying5 (hval 2 5 v2 rfl rfl) h2
  obtain ⟨zl2, zu2⟩ := wf_u8 wf2
  obtain ⟨a2, rfl⟩ := Int.eq_ofNat_of_zero_le zl2
  clear hA0 hval0
  refine (walk l0 len0 a0 cap0 a1 a2 W hs0 hr0 (by omega) (by omega)).mono fun e W' ⟨he, bel⟩ => ?_
  subst he
  exact ⟨_, rfl, _, _, _, [], _, [], hW', trodAll_mk1 (shut_bool Try.underlying4 _), (trodAll_cons_mk (Below.trod laidOut (by kernel_rfl) (of_decide_eq_true (by kernel_rfl)) k0 bel lt0) (trodAll_cons_mk (shut_int Try.underlying43 wf1) (trodAll_cons_mk (shut_int Try.underlying5 wf2) trodAll_mk0))), rfl, bel.frame _, fun h => by cases h⟩

set_option maxRecDepth 100000 in
theorem lifted (os : Os) (started : os.Started) (H : Type) (enc : TypeId × Value → H) :
    ReturnsInHanded {} Try.checked os 5 .any (Rows.packSumsSpec.pre6 enc Try.prog Try.f5 Rows.packSumsRow.domain false) (Rows.packSumsSpec.post enc Try.prog Try.f5 false true false false) := by
  refine returnsInHanded_of_change (C := Try.checked) own started (by kernel_rfl) Try.func5
    (ChangeSpec.witness6 (enc := enc) (C := Try.checked) false ⟨#[], #[.slice none 0 0, .int .u16 0, .int .u8 0], []⟩ 8 (by kernel_rfl) (by kernel_rfl) (by kernel_rfl) (by kernel_rfl)) ?_
  intro W base args ds gs before hval hW _ _
  exact contract H enc W base args ds gs before hval hW

set_option maxRecDepth 100000 in
theorem over : Rows.packSumsRow.holds Try.pinned (OpenSpec.ofChange Rows.packSumsSpec) :=
  OpenClaim.holds_of_wide 5 Try.f5 rfl rfl rfl rfl rfl rfl rfl ⟨rfl, rfl, rfl, rfl, rfl⟩ rfl rfl rfl rfl rfl (by kernel_rfl) Try.func5 (by kernel_rfl)
    (of_decide_eq_true (by kernel_rfl)) (by unfold Func.isWrapper; first | (rw [if_pos (by decide +kernel)]; kernel_rfl) | (rw [if_neg (by decide +kernel)]; exact ⟨rfl, rfl⟩))
    (fun os started H enc _ => lifted os started H enc)
end Go.Proofs.Ytjhcjdgmhggimaa.packSums

namespace Go.Proofs.Ytjhcjdgmhggimaa
/-- The given statement, under a short name. -/
theorem packSums_holds : Rows.PackSumsSaid := packSums.over
#print axioms packSums_holds
end Go.Proofs.Ytjhcjdgmhggimaa
