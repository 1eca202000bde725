/- Two arrays of four bytes compared; what sealFault returns. -/
import Derived.Test.YtbnconieedgcmaaDoorEnc
import Derived.Laws.StructEq
import Derived.Laws.CopyOwn
namespace Go.Proofs.YtbnconieedgcmaaDoor
open Go.RowKit Go.BigFrame
set_option linter.unusedVariables false
set_option maxRecDepth 4000
set_option linter.unusedSimpArgs false

theorem guard61 : Tryd.prog.eqGuardType Tryd.prog.depth 74 = false := by kernel_rfl
theorem part5 (cs : Array Value) (off : Nat) (v : Value) (h : cs[off]? = some v) (W : World) : (part 5 cs off).run Tryd.prog W = .ok v W := by
  unfold part
  simp [go_sem, h]
theorem sizeOf5 (W : World) : (sizeOf 5).run Tryd.prog W = .ok 1 W := by kernel_rfl
theorem eq61 (d : Nat) (x0 x1 x2 x3 y0 y1 y2 y3 : Int) (W : World) : (Op.equalIn (d + 1 + 1) 74 (.agg #[.int .u8 x0, .int .u8 x1, .int .u8 x2, .int .u8 x3]) (.agg #[.int .u8 y0, .int .u8 y1, .int .u8 y2, .int .u8 y3])).run Tryd.prog W = .ok (x0 == y0 && (x1 == y1 && (x2 == y2 && x3 == y3))) W := by
  rw [Op.equalIn]
  simp only [Sem.run_bind, run_underlying Tryd.underlying74, Result.andThen_ok, sizeOf5]
  rw [Std.Legacy.Range.forIn_eq_forIn_range']
  have hr : List.range' [:4].start [:4].size [:4].step = [0, 1, 2, 3] := by decide
  rw [hr]
  have he : ∀ (a b : Int) (w : World), (Op.equalIn (d + 1) 5 (.int .u8 a) (.int .u8 b)).run Tryd.prog w = .ok (a == b) w := fun a b w => run_equalIn_int w d 5 .u8 .u8 a b Tryd.underlying5
  simp only [List.forIn_cons, List.forIn_nil, Sem.run_bind, part5 _ _ _ (show (#[Value.int IntKind.u8 x0, Value.int IntKind.u8 x1, Value.int IntKind.u8 x2, Value.int IntKind.u8 x3])[0 * 1]? = some (.int .u8 x0) from rfl), part5 _ _ _ (show (#[Value.int IntKind.u8 x0, Value.int IntKind.u8 x1, Value.int IntKind.u8 x2, Value.int IntKind.u8 x3])[1 * 1]? = some (.int .u8 x1) from rfl), part5 _ _ _ (show (#[Value.int IntKind.u8 x0, Value.int IntKind.u8 x1, Value.int IntKind.u8 x2, Value.int IntKind.u8 x3])[2 * 1]? = some (.int .u8 x2) from rfl), part5 _ _ _ (show (#[Value.int IntKind.u8 x0, Value.int IntKind.u8 x1, Value.int IntKind.u8 x2, Value.int IntKind.u8 x3])[3 * 1]? = some (.int .u8 x3) from rfl), part5 _ _ _ (show (#[Value.int IntKind.u8 y0, Value.int IntKind.u8 y1, Value.int IntKind.u8 y2, Value.int IntKind.u8 y3])[0 * 1]? = some (.int .u8 y0) from rfl), part5 _ _ _ (show (#[Value.int IntKind.u8 y0, Value.int IntKind.u8 y1, Value.int IntKind.u8 y2, Value.int IntKind.u8 y3])[1 * 1]? = some (.int .u8 y1) from rfl), part5 _ _ _ (show (#[Value.int IntKind.u8 y0, Value.int IntKind.u8 y1, Value.int IntKind.u8 y2, Value.int IntKind.u8 y3])[2 * 1]? = some (.int .u8 y2) from rfl), part5 _ _ _ (show (#[Value.int IntKind.u8 y0, Value.int IntKind.u8 y1, Value.int IntKind.u8 y2, Value.int IntKind.u8 y3])[3 * 1]? = some (.int .u8 y3) from rfl), Result.andThen_ok, he]
  by_cases h0 : x0 = y0 <;> by_cases h1 : x1 = y1 <;> by_cases h2 : x2 = y2 <;> by_cases h3 : x3 = y3 <;> simp [go_sem, h0, h1, h2, h3]
theorem neq61_same (x0 x1 x2 x3 : Int) (W : World) : (binOp .neq 74 (.agg #[.int .u8 x0, .int .u8 x1, .int .u8 x2, .int .u8 x3]) (.agg #[.int .u8 x0, .int .u8 x1, .int .u8 x2, .int .u8 x3])).run Tryd.prog W = .ok (.bool false) W := by
  rw [run_neq_struct, eq61 9998]
  simp
theorem neq61_diff (x0 x1 x2 x3 y0 y1 y2 y3 : Int) (h : ¬ (x0 = y0 ∧ x1 = y1 ∧ x2 = y2 ∧ x3 = y3)) (W : World) : (binOp .neq 74 (.agg #[.int .u8 x0, .int .u8 x1, .int .u8 x2, .int .u8 x3]) (.agg #[.int .u8 y0, .int .u8 y1, .int .u8 y2, .int .u8 y3])).run Tryd.prog W = .ok (.bool true) W := by
  rw [run_neq_struct, eq61 9998]
  have : (x0 == y0 && (x1 == y1 && (x2 == y2 && x3 == y3))) = false := by
    cases hq : (x0 == y0 && (x1 == y1 && (x2 == y2 && x3 == y3)))
    · rfl
    · exfalso; apply h; simpa using hq
  rw [this]
  rfl
open Classical in
/-- What is wrong ahead of what the counts say. -/
noncomputable def sealE (l : List Nat) : Nat :=
  if l.length < 11 then 21 else if l.take 4 ≠ markB then 22 else if numL (l.drop (l.length - 4)) ≠ sumL (l.take (l.length - 4)) then 23 else 0
theorem sealE_short {l : List Nat} (h : l.length < 11) : sealE l = 21 := by unfold sealE; rw [if_pos h]
theorem sealE_mark {l : List Nat} (h : ¬ l.length < 11) (h2 : l.take 4 ≠ markB) : sealE l = 22 := by unfold sealE; rw [if_neg h, if_pos h2]
theorem sealE_sum {l : List Nat} (h : ¬ l.length < 11) (h2 : l.take 4 = markB) (h3 : numL (l.drop (l.length - 4)) ≠ sumL (l.take (l.length - 4))) : sealE l = 23 := by unfold sealE; rw [if_neg h, if_neg (by rw [h2]; simp), if_pos h3]
theorem sealE_ok {l : List Nat} (h : ¬ l.length < 11) (h2 : l.take 4 = markB) (h3 : numL (l.drop (l.length - 4)) = sumL (l.take (l.length - 4))) : sealE l = 0 := by unfold sealE; rw [if_neg h, if_neg (by rw [h2]; simp), if_neg (by rw [h3]; simp)]
theorem ret_i64 {a b : Nat} (h : a = b) : Ending.returned (.int .i64 (a : Int)) = .returned (.int .i64 (b : Int)) := by rw [h]
set_option maxRecDepth 4000 in
set_option maxHeartbeats 2000000 in
theorem sealFault_any (l : List Nat) (n : Nat) (A : Option Addr) (c : Nat) (w : World) (hR : RB w w.heap.size A n l) (hc : n ≤ c) (hn : n ≤ 100000) (hM : Mark w) :
    Calls Tryd.prog 52 #[.slice A n c] w fun e w' => e = .returned (.int .i64 (sealE l : Nat)) ∧ Below w.heap.size w w' := by
  have hl := hR.1
  by_cases h11 : n < 11
  · have HE : Hid (sealE l = 21) := Lib.hid (sealE_short (by omega))
    clear hR hM hl
    go_enter Tryd.func52, Tryd.ntmps52
    go_wp2_with fail
    go_ret
    exact ⟨ret_i64 HE.out.symm, Below.refl _ _⟩
  have hsz5 : (Tryd.prog.info? 5).map (·.size) = some 1 := by kernel_rfl
  have hmin : Hid (4 = Nat.min n 4) := Lib.hid (Nat.min_eq_right (by omega)).symm
  obtain ⟨m, hm⟩ : ∃ m, n - 4 = m := ⟨_, rfl⟩
  have hmI : (n : Int) - 4 = (m : Int) := by omega
  have HG := Lib.hid (fun W (g : Below w.heap.size w W) => get_4 l n m A c W (hR.on g) hc hn (by omega))
  have HTk : Hid ((l.drop m).take 4 = l.drop (l.length - 4)) := Lib.hid (by rw [hl, hm, List.take_of_length_le (by rw [List.length_drop]; omega)])
  rw [HTk.out] at HG
  have HSm := Lib.hid (fun W (g : Below w.heap.size w W) => sum_any (l.take m) m A c W ((hR.on g).take (by omega)) (by omega))
  rw [show l.take m = l.take (l.length - 4) by rw [hl, hm]] at HSm
  have hvl : numL (l.drop (l.length - 4)) < 4294967296 := by
    have := numL_lt (l.drop (l.length - 4)) (fun x hx => hR.2.2 x (List.mem_of_mem_drop hx)) 4 (by rw [List.length_drop]; omega)
    simpa using this
  have HMk := Lib.hid hM
  have HE2 : Hid (l.take 4 ≠ markB → sealE l = 22) := Lib.hid (fun h => sealE_mark (by omega) h)
  have HE3 : Hid (l.take 4 = markB → numL (l.drop (l.length - 4)) ≠ sumL (l.take (l.length - 4)) → sealE l = 23) := Lib.hid (fun h1 h2 => sealE_sum (by omega) h1 h2)
  have HE4 : Hid (l.take 4 = markB → numL (l.drop (l.length - 4)) = sumL (l.take (l.length - 4)) → sealE l = 0) := Lib.hid (fun h1 h2 => sealE_ok (by omega) h1 h2)
  obtain ⟨b0, o0, rfl, hb0, hsrc⟩ := hR.src (a := 0) (k := 4) (by omega) (by decide)
  rw [Nat.add_zero, List.drop_zero] at hsrc
  have hL : (l.take 4).length = 4 := by rw [List.length_take]; omega
  have hsl := sumL_lt (l.take (l.length - 4))
  generalize numL (l.drop (l.length - 4)) = v at *
  generalize sumL (l.take (l.length - 4)) = s at *
  generalize sealE l = r at *
  generalize l.take 4 = L at *
  have hmn : m ≤ n := by omega
  have hmc : (m : Int) ≤ (c : Int) := by omega
  clear hR hM hl HTk hm
  match L, hL with
  | [x0, x1, x2, x3], _ =>
  have HSrc := Lib.hid hsrc
  have HOne := Lib.hid (ycells_one [x0, x1, x2, x3])
  clear hsrc
  go_enter Tryd.func52, Tryd.ntmps52
  go_wp2_with (with_reducible refine wpList_copy_splice rfl (.tmp 10) (.tmp 11) 27 27 rfl 5 Tryd.underlying27 hsz5 (some ⟨w.heap.size, 0, none⟩) (some ⟨b0, o0, none⟩) 4 4 n c ?hd ?hs w.heap.size 0 [.int .u8 0, .int .u8 0, .int .u8 0, .int .u8 0] 74 ?hg (ycells [x0, x1, x2, x3]) ?hn ?hpos ?hfit HOne.out w.heap.size w ?hbel ?hle ?_)
  case hd => rfl
  case hs => rfl
  case hg => exact heap_alloc_new w _
  case hn => exact hmin.out
  case hpos =>
    intro _ j v hv
    have h := HSrc.out w (Below.refl _ _) j v hv
    by_cases h0 : j = 0
    · subst h0; simpa [Addr.add] using h
    · simpa [Addr.add, h0] using h
  case hfit => rw [ycells_len]; exact Nat.le_refl 4
  case hbel => exact below_new _ _
  case hle => exact Nat.le_refl _
  first | (intro w4 hg4 hb4) | (rename_i w4 hg4 hb4)
  have hg5 : w4.heap[w.heap.size]? = some (.cells #[.int .u8 (x0 : Int), .int .u8 (x1 : Int), .int .u8 (x2 : Int), .int .u8 (x3 : Int)] 74 (0, 0)) := hg4.out
  have q0 : w4.cell? ⟨w.heap.size, 0, none⟩ = some (.int .u8 (x0 : Int)) := by rw [cell_of_row w4 w.heap.size 0 _ 74 (0, 0) hg5]; rfl
  have q1 : w4.cell? ⟨w.heap.size, 1, none⟩ = some (.int .u8 (x1 : Int)) := by rw [cell_of_row w4 w.heap.size 1 _ 74 (0, 0) hg5]; rfl
  have q2 : w4.cell? ⟨w.heap.size, 2, none⟩ = some (.int .u8 (x2 : Int)) := by rw [cell_of_row w4 w.heap.size 2 _ 74 (0, 0) hg5]; rfl
  have q3 : w4.cell? ⟨w.heap.size, 3, none⟩ = some (.int .u8 (x3 : Int)) := by rw [cell_of_row w4 w.heap.size 3 _ 74 (0, 0) hg5]; rfl
  obtain ⟨hm0, m0, m1, m2, m3⟩ := HMk.out.on hb4
  clear hg4 hg5 HSrc HOne HMk
  have g61 := guard61
  by_cases hx : x0 = 66 ∧ x1 = 82 ∧ x2 = 75 ∧ x3 = 49
  · obtain ⟨rfl, rfl, rfl, rfl⟩ := hx
    have hne := neq61_same 66 82 75 49
    have HE3' := Lib.hid (HE3.out rfl)
    have HE4' := Lib.hid (HE4.out rfl)
    clear HE2 HE3 HE4
    go_wp2_with fail
    refine (HG.out _ hb4).mono ?_
    rintro e w5 ⟨rfl, g5⟩
    have b5 := hb4.trans (g5.mono hb4.size)
    clear g5 q0 q1 q2 q3 m0 m1 m2 m3 hm0 hb4 HG
    have e1 : (v : Int) % 4294967296 = (v : Int) := by omega
    simp only [Option.getD_some, Option.isSome_some]
    go_wp2_with fail
    refine (HSm.out _ b5).mono ?_
    rintro e w6 ⟨rfl, rfl⟩
    by_cases hvs : v = s
    · subst hvs
      have hb : ((v : Int) != (v : Int)) = false := by simp
      have HD := Lib.hid (HE4'.out rfl)
      clear HE3' HE4'
      go_wp2_with fail
      go_ret
      exact ⟨ret_i64 HD.out.symm, b5⟩
    · have hb : ((v : Int) != (s : Int)) = true := by rw [bne_iff_ne]; omega
      have HD := Lib.hid (HE3'.out hvs)
      clear HE3' HE4'
      go_wp2_with fail
      go_ret
      exact ⟨ret_i64 HD.out.symm, b5⟩
  · have hne := neq61_diff x0 x1 x2 x3 66 82 75 49 (by omega)
    have HD := Lib.hid (HE2.out (by unfold markB; intro h; simp only [List.cons.injEq] at h; omega))
    clear HE2 HE3 HE4 hx
    go_wp2_with fail
    go_ret
    exact ⟨ret_i64 HD.out.symm, hb4⟩
end Go.Proofs.YtbnconieedgcmaaDoor
