/- The document's Decode: the table of bytes. -/
import Derived.Test.YtnilejdokgagbaaDoorKRd
import Derived.Test.YtnilejdokgagbaaDoorKW
import Derived.Test.YtnilejdokgagbaaDoorKFr
import Derived.Deep.RegionHeld3
namespace Go.Proofs.YtnilejdokgagbaaDoor
open Go.RowKit Go.BigFrame
set_option linter.unusedVariables false
set_option maxRecDepth 4000
set_option linter.unusedSimpArgs false

theorem sOn5 {k0 k1 i0 i1 base n0 : Nat} {u0 u1 v : Value} {xs : List Value} {w0 V V' : World} (g : Below V.heap.size V V') (h : V.cell? ⟨k0, i0, none⟩ = some u0 ∧ V.frozen? ⟨k0, i0, none⟩ = false ∧ V.cell? ⟨k1, i1, none⟩ = some u1 ∧ V.ownsRow base 50 2 v n0 xs ∧ k0 < V.heap.size ∧ Below w0.heap.size w0 V) : V'.cell? ⟨k0, i0, none⟩ = some u0 ∧ V'.frozen? ⟨k0, i0, none⟩ = false ∧ V'.cell? ⟨k1, i1, none⟩ = some u1 ∧ V'.ownsRow base 50 2 v n0 xs ∧ k0 < V'.heap.size ∧ Below w0.heap.size w0 V' :=
  ⟨kept_cell g h.1, kept_frozen g h.2.2.2.2.1 h.2.1, kept_cell g h.2.2.1, own_below h.2.2.2.1 g, Nat.lt_of_lt_of_le h.2.2.2.2.1 g.size, h.2.2.2.2.2.trans (g.mono h.2.2.2.2.2.size)⟩
theorem frozen_below {B : Nat} {w w' : World} (h : Below B w w') {a : Addr} (ha : a.block < B) : w'.frozen? a = w.frozen? a := by
  unfold World.frozen?
  rw [h.block _ ha]
theorem below_lower {B B' : Nat} {w w' : World} (h : Below B w w') (hb : B' ≤ B) : Below B' w w' := ⟨h.os, h.tape, h.output, h.size, fun i hi => h.block i (by omega)⟩
theorem run_field77i (v : Int) (b : Bool) (V : World) : (Instr.field 70 (.agg #[.int .i64 v, .bool b]) 0).run Tryd.prog V = .ok (.int .i64 v) V := by kernel_rfl
theorem outDo_no {l : List Nat} {w w' : World} {r : Nat} (h : errT l = r) (h0 : r ≠ 0) (g : Below w.heap.size w w') : OutDo l w (.returned (.tuple #[.agg #[.int .i64 0, .slice none 0 0, .slice none 0 0, .slice none 0 0], .int .i64 (r : Int)])) w' :=
  (outDc_no h h0 g).o (by rw [h]; exact h0)
set_option maxRecDepth 4000 in
set_option maxHeartbeats 2000000 in
theorem refDecode_rest (l : List Nat) (n : Nat) (A : Option Addr) (c : Nat) (w : World) (hR : RB w w.heap.size A n l) (hc : n ≤ c) (hn : n ≤ 10000) (h11 : ¬ n < 11) (h4 : l.take 4 = markB) (h5 : numL (l.drop (l.length - 4)) = sumL (l.take (l.length - 4))) (h6 : cntB (l[4]?.getD 0) (l[5]?.getD 0) (l[6]?.getD 0) = true) (h7 : lenT (l[4]?.getD 0) (l[5]?.getD 0) (l[6]?.getD 0) = l.length) :
    Calls Tryd.prog 11 #[.slice A n c] w (OutDo l w) := by
  have hl := hR.1
  obtain ⟨i0, hi0, hz0, hz1, hz2⟩ := info_parts info52
  obtain ⟨m9, hq9, hq0, hq1, hq2⟩ := info_parts info3
  obtain ⟨j9, hj9, hp0, hp1, hp2⟩ := info_parts info53
  have h0 : sealE l = 0 := sealE_ok (by omega) h4 h5
  have HEb : Hid (unbR (bitsP l) (l[5]?.getD 0 : Nat) = none → errT l = 25) := Lib.hid (fun h => errT_bits h0 h6 h7 h)
  have HEo : Hid (∀ r, unbR (bitsP l) (l[5]?.getD 0 : Nat) = some r → errT l = 0 ∧ decR l = { cl := ((l[4]?.getD 0 : Nat) : Int), bd := (List.range (l[6]?.getD 0)).map (fun j => bandOf (chunk 4 (l.drop 7) j)), nx := (List.range (l[5]?.getD 0)).map (fun s => (chunk (l[4]?.getD 0) (l.drop (7 + 4 * l[6]?.getD 0)) s).map Int.ofNat), br := r }) := Lib.hid (fun r h => errT_ok h0 h6 h7 r h)
  have HRW := Lib.hid (fun W (g : Below w.heap.size w W) => hR.on g)
  have hcb := of_decide_eq_true h6
  have x4l : l[4]?.getD 0 < 256 := by omega
  have x5l : l[5]?.getD 0 < 256 := by omega
  have x6l : l[6]?.getD 0 < 256 := by omega
  have HCell : Hid (∀ W, Below w.heap.size w W → ∀ b o, A = some ⟨b, o, none⟩ → W.cell? ⟨b, o + 4, none⟩ = some (.int .u8 ((l[4]?.getD 0 : Nat) : Int)) ∧ W.cell? ⟨b, o + 5, none⟩ = some (.int .u8 ((l[5]?.getD 0 : Nat) : Int)) ∧ W.cell? ⟨b, o + 6, none⟩ = some (.int .u8 ((l[6]?.getD 0 : Nat) : Int))) := Lib.hid (fun W g b o e => by
    obtain ⟨b', o', e', _, hc⟩ := (hR.on g).all (by omega)
    rw [e] at e'
    injection e' with e'
    injection e' with e1 e2
    subst e1; subst e2
    rw [getD_at l 4 (by omega), getD_at l 5 (by omega), getD_at l 6 (by omega)]
    exact ⟨hc 4 (by omega), hc 5 (by omega), hc 6 (by omega)⟩)
  have HGb : Hid (∀ j < l[6]?.getD 0, ∀ W, Below w.heap.size w W → Calls Tryd.prog 41 #[.slice A n c, .int .i64 ((7 + 4 * j : Nat) : Int), .int .i64 3] W fun e w' => e = .returned (.agg #[.int .i64 (bandOf (chunk 4 (l.drop 7) j)).1, .bool true]) ∧ Below W.heap.size W w') := Lib.hid (fun j hj W g => by
    have h7' := h7
    rw [hl] at h7'
    unfold lenT at h7'
    have h := refGet_yes l n (7 + 4 * j) 3 A c W (hR.on g) (by omega) (by omega) (by omega) (by omega)
    rw [band_at (l.drop 7) j (by rw [List.length_drop]; omega), List.drop_drop]
    exact h)
  have HCb : Hid (∀ j < l[6]?.getD 0, ∀ W, Below w.heap.size w W → ∀ b o, A = some ⟨b, o, none⟩ → ∃ x : Nat, x < 256 ∧ (bandOf (chunk 4 (l.drop 7) j)).2 = x ∧ W.cell? ⟨b, o + (7 + 4 * j + 3), none⟩ = some (.int .u8 (x : Int))) := Lib.hid (fun j hj W g b o e => by
    have h7' := h7
    rw [hl] at h7'
    unfold lenT at h7'
    obtain ⟨b', o', e', _, hc⟩ := (hR.on g).all (by omega)
    rw [e] at e'
    injection e' with e'
    injection e' with e1 e2
    subst e1; subst e2
    refine ⟨l[7 + 4 * j + 3]'(by omega), hR.2.2 _ (List.getElem_mem _), ?_, hc (7 + 4 * j + 3) (by omega)⟩
    rw [band_at (l.drop 7) j (by rw [List.length_drop]; omega)]
    simp only [List.getElem_drop, Nat.add_assoc])
  have HRw : Hid (∀ s < l[5]?.getD 0, ((chunk (l[4]?.getD 0) (l.drop (7 + 4 * l[6]?.getD 0)) s).map Int.ofNat).length = l[4]?.getD 0 ∧ ∀ i < l[4]?.getD 0, ∃ y : Nat, y < 256 ∧ ((chunk (l[4]?.getD 0) (l.drop (7 + 4 * l[6]?.getD 0)) s).map Int.ofNat)[i]? = some (y : Int) ∧ 7 + 4 * l[6]?.getD 0 + s * l[4]?.getD 0 + i < n ∧ ∀ W, Below w.heap.size w W → ∀ b o, A = some ⟨b, o, none⟩ → W.cell? ⟨b, o + (7 + 4 * l[6]?.getD 0 + s * l[4]?.getD 0 + i), none⟩ = some (.int .u8 (y : Int))) := Lib.hid (fun s hs => by
    have h7' := h7
    rw [hl] at h7'
    unfold lenT at h7'
    have hm : (s + 1) * l[4]?.getD 0 ≤ l[5]?.getD 0 * l[4]?.getD 0 := Nat.mul_le_mul_right _ hs
    rw [Nat.succ_mul] at hm
    have hcm : l[4]?.getD 0 * s = s * l[4]?.getD 0 := Nat.mul_comm _ _
    generalize l[4]?.getD 0 = x4 at *
    generalize l[5]?.getD 0 = x5 at *
    generalize l[6]?.getD 0 = x6 at *
    generalize x5 * x4 = q at *
    generalize s * x4 = r at *
    have hlen : (chunk x4 (l.drop (7 + 4 * x6)) s).length = x4 := by
      unfold chunk
      rw [List.length_take, List.length_drop, List.length_drop, hl, hcm]
      omega
    refine ⟨by rw [List.length_map]; exact hlen, fun i hi => ?_⟩
    have hi2 : 7 + 4 * x6 + r + i < l.length := by rw [hl]; omega
    refine ⟨l[7 + 4 * x6 + r + i], hR.2.2 _ (List.getElem_mem _), ?_, by omega, fun W g b o e => ?_⟩
    · rw [List.getElem?_map]
      unfold chunk
      rw [List.getElem?_take_of_lt hi, List.getElem?_drop, List.getElem?_drop, hcm, List.getElem?_eq_getElem (by omega)]
      simp only [Option.map_some]
      congr 2
      simp only [Nat.add_assoc]
    · obtain ⟨b', o', e', _, hc⟩ := (hR.on g).all (by omega)
      rw [e] at e'
      injection e' with e'
      injection e' with e1 e2
      subst e1; subst e2
      exact hc _ (by omega))
  have HLb : Hid (7 + 4 * l[6]?.getD 0 + 4 ≤ n) := Lib.hid (by
    have h7' := h7
    rw [hl] at h7'
    unfold lenT at h7'
    omega)
  have hln : lenT (l[4]?.getD 0) (l[5]?.getD 0) (l[6]?.getD 0) = n := by rw [h7]; exact hl
  clear h6 h0 h7
  obtain ⟨m, hm⟩ : ∃ m, n - 4 = m := ⟨_, rfl⟩
  have HLe : Hid (7 + 4 * l[6]?.getD 0 + l[5]?.getD 0 * l[4]?.getD 0 ≤ m) := Lib.hid (by
    have h := hln
    unfold lenT at h
    omega)
  have HUn : Hid (∀ W, Below w.heap.size w W → ∀ b o, A = some ⟨b, o, none⟩ → Calls Tryd.prog 42 #[.slice (some ⟨b, o + (7 + 4 * l[6]?.getD 0 + l[5]?.getD 0 * l[4]?.getD 0), none⟩) (m - (7 + 4 * l[6]?.getD 0 + l[5]?.getD 0 * l[4]?.getD 0)) (c - (7 + 4 * l[6]?.getD 0 + l[5]?.getD 0 * l[4]?.getD 0)), .int .i64 ((l[5]?.getD 0 : Nat) : Int)] W (OutU (unbR (bitsP l) ((l[5]?.getD 0 : Nat) : Int)) W)) := Lib.hid (fun W g b o e => by
    have h := hR.on g
    rw [e] at h
    have h2 := h.sub HLe.out (show m ≤ n by omega)
    unfold bitsP
    rw [hl, hm]
    exact refUnbits_any _ _ _ _ _ W h2 (by omega))
  generalize hub : unbR (bitsP l) ((l[5]?.getD 0 : Nat) : Int) = ub at HEb HEo HUn
  clear hub
  have HG := Lib.hid (fun W (g : Below w.heap.size w W) => refGet_yes l n m 4 A c W (hR.on g) (by omega) (by omega) (by omega) (by omega))
  have HTk : Hid ((l.drop m).take 4 = l.drop (l.length - 4)) := Lib.hid (by rw [hl, hm, List.take_of_length_le (by rw [List.length_drop]; omega)])
  rw [HTk.out] at HG
  have HSm := Lib.hid (fun W (g : Below w.heap.size w W) => refSum_any (l.take m) m A c W ((hR.on g).take (by omega)) (by omega))
  rw [show l.take m = l.take (l.length - 4) by rw [hl, hm]] at HSm
  have hsl := sumL_lt (l.take (l.length - 4))
  generalize numL (l.drop (l.length - 4)) = v at *
  generalize sumL (l.take (l.length - 4)) = su at *
  obtain ⟨b0, o0, rfl, hb0, hsrc⟩ := hR.src (a := 0) (k := 4) (by omega) (by decide)
  rw [Nat.add_zero, List.drop_zero] at hsrc
  have hL : (l.take 4).length = 4 := by rw [List.length_take]; omega
  generalize hbnd : (fun j => bandOf (chunk 4 (l.drop 7) j)) = bnd at *
  generalize l[4]?.getD 0 = x4 at *
  generalize l[5]?.getD 0 = x5 at *
  generalize l[6]?.getD 0 = x6 at *
  generalize l.take 4 = L at *
  clear hR hl HTk
  match L, hL with
  | [x0, x1, x2, x3], _ =>
  have hcv := run_convert_bytes_arg (P := Tryd.prog) (w.alloc (.cells #[.int .i64 0, .slice none 0 0, .slice none 0 0, .slice none 0 0] 26)) 27 5 Tryd.underlying27 und5 b0 o0 4 c [(x0 : Int), x1, x2, x3] rfl (fun i hi => by
    have h := hsrc (w.alloc (.cells #[.int .i64 0, .slice none 0 0, .slice none 0 0, .slice none 0 0] 26)) (below_new _ _)
    match i, hi with
    | 0, _ => exact h 0 _ rfl
    | 1, _ => exact h 1 _ rfl
    | 2, _ => exact h 2 _ rfl
    | 3, _ => exact h 3 _ rfl) 9 und9
  rw [str4_eq h4] at hcv
  have hi4 : (4 : Int) ≤ (c : Int) := by omega
  have hmI : (n : Int) - 4 = (m : Int) := by omega
  have hmw : IntKind.i64.wrap ((n : Int) - 4) = (m : Int) := by rw [IntKind.wrap_i64]; omega
  have hmw2 : IntKind.i64.wrap (m : Int) = (m : Int) := by rw [IntKind.wrap_i64]; omega
  have hmc : (m : Int) ≤ (c : Int) := by omega
  have hm0 : (0 : Int) ≤ (m : Int) := by omega
  have hmcn : m ≤ c := by omega
  have hsw : IntKind.i64.wrap (su : Int) = (su : Int) := by rw [IntKind.wrap_i64]; omega
  have hvb : ((v : Int) != (su : Int)) = false := by rw [h5]; simp
  clear hsrc h4 h5 hm
  go_enter Tryd.func11, Tryd.ntmps11
  have p0 : (w.alloc (.cells #[.int .i64 0, .slice none 0 0, .slice none 0 0, .slice none 0 0] 26)).cell? ⟨w.heap.size, 0, none⟩ = some (.int .i64 0) := by simp
  have p1 : (w.alloc (.cells #[.int .i64 0, .slice none 0 0, .slice none 0 0, .slice none 0 0] 26)).cell? ⟨w.heap.size, 1, none⟩ = some (.slice none 0 0) := by simp
  have p2 : (w.alloc (.cells #[.int .i64 0, .slice none 0 0, .slice none 0 0, .slice none 0 0] 26)).cell? ⟨w.heap.size, 2, none⟩ = some (.slice none 0 0) := by simp
  have p3 : (w.alloc (.cells #[.int .i64 0, .slice none 0 0, .slice none 0 0, .slice none 0 0] 26)).cell? ⟨w.heap.size, 3, none⟩ = some (.slice none 0 0) := by simp
  have hres : Res w.heap.size (w.alloc (.cells #[.int .i64 0, .slice none 0 0, .slice none 0 0, .slice none 0 0] 26)) := ⟨by simp, ⟨p0, p1, p2, p3⟩, World.frozen?_alloc_at _ _ _ _ rfl, World.frozen?_alloc_at _ _ _ _ rfl, World.frozen?_alloc_at _ _ _ _ rfl, World.frozen?_alloc_at _ _ _ _ rfl⟩
  have b1 := below_new w (.cells #[.int .i64 0, .slice none 0 0, .slice none 0 0, .slice none 0 0] 26)
  go_wp2_with fail
  clear p0 p1 p2 p3 hcv
  generalize (w.alloc (.cells #[.int .i64 0, .slice none 0 0, .slice none 0 0, .slice none 0 0] 26)) = W at *
  have bR := Below.refl W.heap.size W
  have hfd := run_field74 v true
  have hG : Hid (∀ V, Below W.heap.size W V → Calls Tryd.prog 41 #[.slice (some ⟨b0, o0, none⟩) n c, .int .i64 m, .int .i64 4] V fun e w' => e = .returned (.agg #[.int .i64 (v : Int), .bool true]) ∧ Below W.heap.size W w') := Lib.hid (fun V hV => (HG.out V (b1.trans (hV.mono b1.size))).mono (fun e w' h => ⟨h.1, hV.trans (h.2.mono hV.size)⟩))
  have hs : Hid (∀ V, Below W.heap.size W V → Calls Tryd.prog 33 #[.slice (some ⟨b0, o0, none⟩) m c] V fun e w' => e = .returned (.int .u32 (su : Int)) ∧ Below W.heap.size W w') := Lib.hid (fun V hV => (HSm.out V (b1.trans (hV.mono b1.size))).mono (fun e w' h => ⟨h.1, by rw [h.2]; exact hV⟩))
  clear HG HSm
  go_upto_region 5 with (fail)
  go_cut [37] from 24 to 37 (fun v wx => v = .bool false ∧ Below W.heap.size W wx)
  case first =>
    as_aux_lemma =>
      go_region_held3 (fun V => Below W.heap.size W V) (with_reducible (first | assumption | exact bR | exact Below.drew bR)) (first | (go_at_call 33; with_reducible refine Calls.mono (hs.out _ ?_) ?_; (first | assumption | exact bR | exact Below.drew bR); rintro e V1 ⟨rfl, b5⟩) | (go_at_call 41; with_reducible refine Calls.mono (hG.out _ ?_) ?_; (first | assumption | exact bR | exact Below.drew bR); rintro e V2 ⟨rfl, b6⟩))
      all_goals (
        go_wp2_with fail
        go_meet
        first | exact ⟨rfl, b5⟩ | exact ⟨rfl, b6⟩)
  obtain ⟨rfl, bx⟩ := hcut
  clear hG hs hfd
  have bz := b1.trans (bx.mono b1.size)
  obtain ⟨y4, y5, y6⟩ := HCell.out wc bz b0 o0 rfl
  replace hres := hres.on bx
  have i4 : (4 : Int) < (n : Int) := by omega
  have i5 : (5 : Int) < (n : Int) := by omega
  have i6 : (6 : Int) < (n : Int) := by omega
  have w4 : IntKind.i64.wrap (x4 : Int) = (x4 : Int) := by rw [IntKind.wrap_i64]; omega
  have w5 : IntKind.i64.wrap (x5 : Int) = (x5 : Int) := by rw [IntKind.wrap_i64]; omega
  have w6 : IntKind.i64.wrap (x6 : Int) = (x6 : Int) := by rw [IntKind.wrap_i64]; omega
  go_wp2_with fail
  go_quiet (fail)
  replace hres := hres.on (below_drewN (Below.refl wc.heap.size wc) nq)
  replace bz := below_drewN bz nq
  clear y4 y5 y6 i4 i5 i6 w4 w5 w6 bx b1
  generalize wc.drewN nq = wd at *
  have hLn : Hid (∀ V, Calls Tryd.prog 16 #[.int .i64 (x4 : Int), .int .i64 (x5 : Int), .int .i64 (x6 : Int)] V fun e w' => e = .returned (.int .i64 (lenT x4 x5 x6 : Nat)) ∧ Below V.heap.size V w') := Lib.hid (fun V => by
    have h := refLength_any (x4 : Int) (x5 : Int) (x6 : Int) V
    rw [lenI_nat (by omega) (by omega) (by omega)] at h
    exact h)
  have hlb : lenT x4 x5 x6 ≤ 100000 := by have := Nat.mul_le_mul (show x5 ≤ 255 by omega) (show x4 ≤ 255 by omega); unfold lenT; omega
  generalize lenT x4 x5 x6 = ln at *
  obtain ⟨_, ⟨p0, p1, p2, p3⟩, f0, f1, f2, f3⟩ := hres.parts
  have hne : (((ln : Nat) : Int) != (n : Int)) = false := by rw [hln]; simp
  go_wp2_with fail
  refine (hLn.out _).mono ?_
  rintro e we ⟨rfl, g⟩
  replace hres := hres.on g
  replace bz := bz.trans (g.mono bz.size)
  clear g p0 p1 p2 p3 f0 f1 f2 f3
  go_wp2_with fail
  have d0 : (we.alloc (.cells #[.int .i64 (x4 : Int), .slice none 0 0, .slice none 0 0, .slice none 0 0] 26)).cell? ⟨we.heap.size, 0, none⟩ = some (.int .i64 (x4 : Int)) := by simp
  have d1 : (we.alloc (.cells #[.int .i64 (x4 : Int), .slice none 0 0, .slice none 0 0, .slice none 0 0] 26)).cell? ⟨we.heap.size, 1, none⟩ = some (.slice none 0 0) := by simp
  have d2 : (we.alloc (.cells #[.int .i64 (x4 : Int), .slice none 0 0, .slice none 0 0, .slice none 0 0] 26)).cell? ⟨we.heap.size, 2, none⟩ = some (.slice none 0 0) := by simp
  have d3 : (we.alloc (.cells #[.int .i64 (x4 : Int), .slice none 0 0, .slice none 0 0, .slice none 0 0] 26)).cell? ⟨we.heap.size, 3, none⟩ = some (.slice none 0 0) := by simp
  have f1 : (we.alloc (.cells #[.int .i64 (x4 : Int), .slice none 0 0, .slice none 0 0, .slice none 0 0] 26)).frozen? ⟨we.heap.size, 1, none⟩ = false := World.frozen?_alloc_at _ _ _ _ rfl
  have f2 : (we.alloc (.cells #[.int .i64 (x4 : Int), .slice none 0 0, .slice none 0 0, .slice none 0 0] 26)).frozen? ⟨we.heap.size, 2, none⟩ = false := World.frozen?_alloc_at _ _ _ _ rfl
  have f3 : (we.alloc (.cells #[.int .i64 (x4 : Int), .slice none 0 0, .slice none 0 0, .slice none 0 0] 26)).frozen? ⟨we.heap.size, 3, none⟩ = false := World.frozen?_alloc_at _ _ _ _ rfl
  have hsz7 : (we.alloc (.cells #[.int .i64 (x4 : Int), .slice none 0 0, .slice none 0 0, .slice none 0 0] 26)).heap.size = we.heap.size + 1 := by simp
  have b7 : Below we.heap.size we (we.alloc (.cells #[.int .i64 (x4 : Int), .slice none 0 0, .slice none 0 0, .slice none 0 0] 26)) := below_new _ _
  generalize we.alloc (.cells #[.int .i64 (x4 : Int), .slice none 0 0, .slice none 0 0, .slice none 0 0] 26) = W7 at *
  have hbe : ∀ j, bandOf (chunk 4 (l.drop 7) j) = bnd j := fun j => congrFun hbnd j
  obtain ⟨rws, hrws⟩ : ∃ f : Nat → List Int, f = fun s => (chunk x4 (l.drop (7 + 4 * x6)) s).map Int.ofNat := ⟨_, rfl⟩
  have hrw : ∀ s, (chunk x4 (l.drop (7 + 4 * x6)) s).map Int.ofNat = rws s := fun s => by rw [hrws]
  have Hrws := Lib.hid hrws
  clear hrws
  go_loopw [8, 9] (fun va vi wr => ∃ (j a : Nat) (A1 : Option Addr) (e1 : Nat), j ≤ x6 ∧ vi = .int .i64 j ∧ va = .int .i64 (a : Int) ∧ Hid (a = 7 + 4 * j) ∧ Hid (wr.cell? ⟨we.heap.size, 0, none⟩ = some (.int .i64 (x4 : Int)) ∧ wr.cell? ⟨we.heap.size, 1, none⟩ = some (.slice A1 j e1) ∧ wr.cell? ⟨we.heap.size, 2, none⟩ = some (.slice none 0 0) ∧ wr.cell? ⟨we.heap.size, 3, none⟩ = some (.slice none 0 0) ∧ wr.frozen? ⟨we.heap.size, 1, none⟩ = false ∧ wr.frozen? ⟨we.heap.size, 2, none⟩ = false ∧ wr.frozen? ⟨we.heap.size, 3, none⟩ = false) ∧ Hid (wr.ownsRow (we.heap.size + 1) 50 2 (.slice A1 j e1) j (rcells ((List.range j).map bnd))) ∧ Hid (Below we.heap.size we wr) ∧ we.heap.size + 1 ≤ wr.heap.size) (fun va vi _ => x6 - (intOf vi).toNat)
  case atStart => exact ⟨0, 7, none, 0, Nat.zero_le _, rfl, rfl, Lib.hid rfl, Lib.hid ⟨d0, d1, d2, d3, f1, f2, f3⟩, Lib.hid (World.ownsRow_nil _ _ _ _), Lib.hid b7, by omega⟩
  case round =>
    clear d0 d1 d2 d3 f1 f2 f3 b7
    obtain ⟨j, a, A1, e1, hj, rfl, rfl, HA, HD, HO, HB, hsr⟩ := hrel
    by_cases hlt : j < x6
    · have HBw := Lib.hid (bz.trans (HB.out.mono bz.size))
      obtain ⟨xb, hxb, hx2, cx⟩ := HCb.out j hlt wr HBw.out b0 o0 rfl
      rw [← HA.out] at cx
      have hG : Hid (∀ V, (Below we.heap.size we V ∧ we.heap.size < V.heap.size) → Calls Tryd.prog 41 #[.slice (some ⟨b0, o0, none⟩) n c, .int .i64 (a : Int), .int .i64 3] V fun e w' => e = .returned (.agg #[.int .i64 (bnd j).1, .bool true]) ∧ Below V.heap.size V w') := Lib.hid (fun V h => by
        have := HGb.out j hlt V (bz.trans (h.1.mono bz.size))
        rw [hbe j, ← HA.out] at this
        exact this)
      rw [hbe j] at hx2
      obtain ⟨d0, d1, d2, d3, f1, f2, f3⟩ := HD.out
      have hlt7 : we.heap.size < wr.heap.size := by omega
      have hSV : wr.cell? ⟨we.heap.size, 1, none⟩ = some (.slice A1 j e1) ∧ wr.frozen? ⟨we.heap.size, 1, none⟩ = false ∧ wr.cell? ⟨b0, o0 + (a + 3), none⟩ = some (.int .u8 (xb : Int)) ∧ wr.ownsRow (we.heap.size + 1) 50 2 (.slice A1 j e1) j (rcells ((List.range j).map bnd)) ∧ we.heap.size < wr.heap.size ∧ Below we.heap.size we wr := ⟨d1, f1, cx, HO.out, hlt7, HB.out⟩
      have hSd := sOn5 (Below.drew (Below.refl wr.heap.size wr)) hSV
      have hfd := fun (V : World) => run_field77i (bnd j).1 true V
      have hwx : IntKind.i64.wrap (xb : Int) = (xb : Int) := by rw [IntKind.wrap_i64]; omega
      have hwa : IntKind.i64.wrap ((a : Int) + 3) = (a : Int) + 3 := by have := HA.out; rw [IntKind.wrap_i64]; omega
      have hia : (a : Int) + 3 < (n : Int) := by have h1 := HA.out; have h2 := HLb.out; omega
      have hBd : Below we.heap.size we wr.drew ∧ we.heap.size < wr.drew.heap.size := ⟨Below.drew HB.out, hlt7⟩
      obtain ⟨c1d, c2d, c3d, _, _, _⟩ := id hSd
      have hb0e : b0 ≠ we.heap.size := by have := bz.size; omega
      have hia0 : (0 : Int) ≤ (a : Int) + 3 := by omega
      have hiat : ((a : Int) + 3).toNat = a + 3 := by omega
      have hS0 : Below we.heap.size we wr.drew ∧ we.heap.size < wr.drew.heap.size ∧ wr.drew.cell? ⟨b0, o0 + (a + 3), none⟩ = some (.int .u8 (xb : Int)) := ⟨Below.drew HB.out, hlt7, cx⟩
      go_wp2_with fail
      refine wp_region_held_drew (S := fun V => Below we.heap.size we V ∧ we.heap.size < V.heap.size ∧ V.cell? ⟨b0, o0 + (a + 3), none⟩ = some (.int .u8 (xb : Int))) (by kernel_rfl) ?_ (fun hHeld => ?_)
      · exact hS0
      refine wpAnyH_take (i := 0) (oi := _) (v := ?_) rfl (by kernel_rfl) (by kernel_rfl) (by kernel_rfl) (fun _ _ _ h => h) (Or.inl ⟨by rfl, ?hy0x0⟩) (by assumption) ?hr0x0
      case hy0x0 =>
        intro w hSw
        (try dsimp only at hSw)
        go_simp
        (try with_reducible rfl)
      (try simp only [Act.put, List.setIfInBounds_toArray, List.set_cons_zero, List.set_cons_succ])
      refine wpAnyH_take (i := 2) (oi := _) (v := ?_) rfl (by kernel_rfl) (by kernel_rfl) (by kernel_rfl) (fun _ _ _ h => h) (Or.inl ⟨by rfl, ?hy2x1⟩) (by assumption) ?hr2x1
      case hy2x1 =>
        intro w hSw
        (try dsimp only at hSw)
        go_simp
        (try with_reducible rfl)
      (try simp only [Act.put, List.setIfInBounds_toArray, List.set_cons_zero, List.set_cons_succ])
      refine wpAnyH_take (i := 3) (oi := _) (v := ?_) rfl (by kernel_rfl) (by kernel_rfl) (by kernel_rfl) (fun _ _ _ h => h) (Or.inl ⟨by rfl, ?hy3x2⟩) (by assumption) ?hr3x2
      case hy3x2 =>
        intro w hSw
        (try dsimp only at hSw)
        go_simp
        (try with_reducible rfl)
      (try simp only [Act.put, List.setIfInBounds_toArray, List.set_cons_zero, List.set_cons_succ])
      refine wpAnyH_take (i := 6) (oi := _) (v := ?_) rfl (by kernel_rfl) (by kernel_rfl) (by kernel_rfl) (fun _ _ _ h => h) (Or.inl ⟨by rfl, ?hy6x3⟩) (by assumption) ?hr6x3
      case hy6x3 =>
        intro w hSw
        (try dsimp only at hSw)
        go_simp
        (try with_reducible rfl)
      (try simp only [Act.put, List.setIfInBounds_toArray, List.set_cons_zero, List.set_cons_succ])
      refine wpAnyH_take (i := 7) (oi := _) (v := ?_) rfl (by kernel_rfl) (by kernel_rfl) (by kernel_rfl) (fun _ _ _ h => h) (Or.inl ⟨by rfl, ?hy7x4⟩) (by assumption) ?hr7x4
      case hy7x4 =>
        intro w hSw
        (try dsimp only at hSw)
        go_simp
        (try with_reducible rfl)
      (try simp only [Act.put, List.setIfInBounds_toArray, List.set_cons_zero, List.set_cons_succ])
      refine wpAnyH_take (i := 8) (oi := _) (v := ?_) rfl (by kernel_rfl) (by kernel_rfl) (by kernel_rfl) (fun _ _ _ h => h) (Or.inl ⟨by rfl, ?hy8x5⟩) (by assumption) ?hr8x5
      case hy8x5 =>
        intro w hSw
        (try dsimp only at hSw)
        go_simp
        (try with_reducible rfl)
      (try simp only [Act.put, List.setIfInBounds_toArray, List.set_cons_zero, List.set_cons_succ])
      refine wpAnyH_take (i := 9) (oi := _) (v := ?_) rfl (by kernel_rfl) (by kernel_rfl) (by kernel_rfl) (fun _ _ _ h => h) (Or.inl ⟨by rfl, ?hy9x6⟩) (by assumption) ?hr9x6
      case hy9x6 =>
        intro w hSw
        (try dsimp only at hSw)
        go_simp
        (try with_reducible rfl)
      (try simp only [Act.put, List.setIfInBounds_toArray, List.set_cons_zero, List.set_cons_succ])
      refine wpAnyH_take (i := 10) (oi := _) (v := ?_) rfl (by kernel_rfl) (by kernel_rfl) (by kernel_rfl) (fun _ _ _ h => h) (Or.inl ⟨by rfl, ?hy10x7⟩) (by assumption) ?hr10x7
      case hy10x7 =>
        intro w hSw
        (try dsimp only at hSw)
        go_simp
        (try with_reducible rfl)
      (try simp only [Act.put, List.setIfInBounds_toArray, List.set_cons_zero, List.set_cons_succ])
      refine wpAnyH_take (i := 11) (oi := _) (v := ?_) rfl (by kernel_rfl) (by kernel_rfl) (by kernel_rfl) (fun _ _ _ h => h) (Or.inl ⟨by rfl, ?hy11x8⟩) (by assumption) ?hr11x8
      case hy11x8 =>
        intro w hSw
        (try dsimp only at hSw)
        go_simp
        (try with_reducible rfl)
      (try simp only [Act.put, List.setIfInBounds_toArray, List.set_cons_zero, List.set_cons_succ])
      refine wpAnyH_ready (rs := [1, 4]) (by kernel_rfl) (by simp) ?_
      refine AllReadyH.cons (o := _) rfl (fun Kx hKx => ?_) ?_
      · go_simp
        refine hKx.out _ _ ?_ (fun hHeld => ?_)
        · exact hS0
        clear hKx Kx
        (try simp only [Act.put, List.setIfInBounds_toArray, List.set_cons_zero, List.set_cons_succ])
        refine wpAnyH_ready (rs := [4]) (by kernel_rfl) (by simp) ?_
        refine AllReadyH.cons (o := _) rfl (fun Kx hKx => ?_) ?_
        · go_simp
          with_reducible refine Calls.mono (hG.out _ ?_) ?_
          · exact ⟨hS0.1, hS0.2.1⟩
          rintro e v1 ⟨rfl, g1⟩
          have s1 := sOn5 g1 hSd
          have t1 := sOn5 (below_new v1 (.cells #[.int .i64 (bnd j).1, .int .i64 (xb : Int)] 50)) s1
          obtain ⟨m1, m2, m3, _, _, _⟩ := id s1
          obtain ⟨q1, q2, q3, _, _, _⟩ := id t1
          have hS1 : Below we.heap.size we v1 ∧ we.heap.size < v1.heap.size ∧ v1.cell? ⟨b0, o0 + (a + 3), none⟩ = some (.int .u8 (xb : Int)) := ⟨s1.2.2.2.2.2, s1.2.2.2.2.1, s1.2.2.1⟩
          have hS2 : Below we.heap.size we (v1.alloc (.cells #[.int .i64 (bnd j).1, .int .i64 (xb : Int)] 50)) ∧ we.heap.size < (v1.alloc (.cells #[.int .i64 (bnd j).1, .int .i64 (xb : Int)] 50)).heap.size ∧ (v1.alloc (.cells #[.int .i64 (bnd j).1, .int .i64 (xb : Int)] 50)).cell? ⟨b0, o0 + (a + 3), none⟩ = some (.int .u8 (xb : Int)) := ⟨t1.2.2.2.2.2, t1.2.2.2.2.1, t1.2.2.1⟩
          go_wp2_with fail
          refine hKx.out _ _ ?_ (fun hHeld => ?_)
          · exact hS1
          clear hKx Kx
          (try simp only [Act.put, List.setIfInBounds_toArray, List.set_cons_zero, List.set_cons_succ])
          refine wpAnyH_take (i := 5) (oi := _) (v := ?_) rfl (by kernel_rfl) (by kernel_rfl) (by kernel_rfl) (fun _ _ _ h => h) (Or.inl ⟨by rfl, ?hy5x9⟩) (by assumption) ?hr5x9
          case hy5x9 =>
            intro w hSw
            (try dsimp only at hSw)
            go_simp
            (try with_reducible rfl)
          (try simp only [Act.put, List.setIfInBounds_toArray, List.set_cons_zero, List.set_cons_succ])
          refine wpAnyH_take (i := 12) (oi := _) (v := ?_) rfl (by kernel_rfl) (by kernel_rfl) (by kernel_rfl) (fun _ _ _ h => h) (Or.inl ⟨by rfl, ?hy12x10⟩) (by assumption) ?hr12x10
          case hy12x10 =>
            intro w hSw
            (try dsimp only at hSw)
            go_simp
            (try with_reducible rfl)
          (try simp only [Act.put, List.setIfInBounds_toArray, List.set_cons_zero, List.set_cons_succ])
          refine wpAnyH_ready (rs := [13]) (by kernel_rfl) (by simp) ?_
          refine AllReadyH.cons (o := _) rfl (fun Kx hKx => ?_) ?_
          · go_simp
            refine hKx.out _ _ ?_ (fun hHeld => ?_)
            · exact hS2
            clear hKx Kx
            (try simp only [Act.put, List.setIfInBounds_toArray, List.set_cons_zero, List.set_cons_succ])
            refine wpAnyH_ready (rs := [14]) (by kernel_rfl) (by simp) ?_
            refine AllReadyH.cons (o := _) rfl (fun Kx hKx => ?_) ?_
            · refine step_append_src rfl (.tmp 91) (.tmp 103) 22 rfl (we.heap.size + 1) 50 i0 _ 2 16 Tryd.underlying22 hi0 hz0 hz1 hz2 rfl (by decide) (.slice A1 j e1) j (rcells ((List.range j).map bnd)) (by first | rfl | simp [Act.eval, Act.put]) (by exact t1.2.2.2.1) (some ⟨v1.heap.size, 0, none⟩) 1 1 (v1.heap.size + 1) (rcells [((bnd j).1, (xb : Int))]) (by first | rfl | simp [Act.eval, Act.put]) (fun h => by cases h) (by exact reads_band v1 _ _) (rcells_one _) (by unfold maxLen; omega) (by omega) (by have := t1.2.2.2.2.1; omega) ?_
              intro A8 c8 w8 hown8 hn8 hgrow8
              have b8 := below_grown (Below.refl (we.heap.size + 1) _) (by have := t1.2.2.2.2.1; omega) t1.2.2.2.1 hgrow8
              have k1 := (b8.cell (p := ⟨we.heap.size, 1, none⟩) (Nat.lt_succ_self _)).trans t1.1
              have k2 := (frozen_below b8 (a := ⟨we.heap.size, 1, none⟩) (Nat.lt_succ_self _)).trans t1.2.1
              have kb : w8.cell? ⟨b0, o0 + (a + 3), none⟩ = some (.int .u8 (xb : Int)) := (b8.cell (p := ⟨b0, o0 + (a + 3), none⟩) (by simp only []; have := bz.size; omega)).trans t1.2.2.1
              have hS3 : Below we.heap.size we w8 ∧ we.heap.size < w8.heap.size ∧ w8.cell? ⟨b0, o0 + (a + 3), none⟩ = some (.int .u8 (xb : Int)) := ⟨t1.2.2.2.2.2.trans (below_lower b8 (Nat.le_succ _)), Nat.lt_of_lt_of_le t1.2.2.2.2.1 b8.size, kb⟩
              have hS4 : Below we.heap.size we (w8.setCell ⟨we.heap.size, 1, none⟩ (.slice A8 (j + 1) c8)) ∧ we.heap.size < (w8.setCell ⟨we.heap.size, 1, none⟩ (.slice A8 (j + 1) c8)).heap.size ∧ (w8.setCell ⟨we.heap.size, 1, none⟩ (.slice A8 (j + 1) c8)).cell? ⟨b0, o0 + (a + 3), none⟩ = some (.int .u8 (xb : Int)) := ⟨hS3.1.setCell (p := ⟨we.heap.size, 1, none⟩) (Nat.le_refl _) _, by simpa using hS3.2.1, by rw [World.cell?_setCell_far _ _ _ _ (fun e => hb0e e.symm)]; exact kb⟩
              refine hKx.out _ _ ?_ (fun hHeld => ?_)
              · exact hS3
              clear hKx Kx
              (try simp only [Act.put, List.setIfInBounds_toArray, List.set_cons_zero, List.set_cons_succ])
              refine wpAnyH_take (i := 15) (oi := _) (v := ?_) rfl (by kernel_rfl) (by kernel_rfl) (by kernel_rfl) (fun _ _ _ h => h) (Or.inl ⟨by rfl, ?hy15x11⟩) (by assumption) ?hr15x11
              case hy15x11 =>
                intro w hSw
                (try dsimp only at hSw)
                go_simp
                (try with_reducible rfl)
              (try simp only [Act.put, List.setIfInBounds_toArray, List.set_cons_zero, List.set_cons_succ])
              refine wpAnyH_ready (rs := [16]) (by kernel_rfl) (by simp) ?_
              refine AllReadyH.cons (o := _) rfl (fun Kx hKx => ?_) ?_
              · go_simp
                refine hKx.out _ _ ?_ (fun hHeld => ?_)
                · exact hS4
                clear hKx Kx
                (try simp only [Act.put, List.setIfInBounds_toArray, List.set_cons_zero, List.set_cons_succ])
                refine wpAnyH_done (by kernel_rfl) ?_ _
                have z0 : w8.cell? ⟨we.heap.size, 0, none⟩ = some (.int .i64 (x4 : Int)) := (b8.cell (p := ⟨we.heap.size, 0, none⟩) (Nat.lt_succ_self _)).trans (kept_cell (below_new v1 _) (kept_cell g1 d0))
                have z2 : w8.cell? ⟨we.heap.size, 2, none⟩ = some (.slice none 0 0) := (b8.cell (p := ⟨we.heap.size, 2, none⟩) (Nat.lt_succ_self _)).trans (kept_cell (below_new v1 _) (kept_cell g1 d2))
                have z3 : w8.cell? ⟨we.heap.size, 3, none⟩ = some (.slice none 0 0) := (b8.cell (p := ⟨we.heap.size, 3, none⟩) (Nat.lt_succ_self _)).trans (kept_cell (below_new v1 _) (kept_cell g1 d3))
                have y2 : w8.frozen? ⟨we.heap.size, 2, none⟩ = false := (frozen_below b8 (a := ⟨we.heap.size, 2, none⟩) (Nat.lt_succ_self _)).trans (kept_frozen (below_new v1 _) s1.2.2.2.2.1 (kept_frozen g1 hlt7 f2))
                have y3 : w8.frozen? ⟨we.heap.size, 3, none⟩ = false := (frozen_below b8 (a := ⟨we.heap.size, 3, none⟩) (Nat.lt_succ_self _)).trans (kept_frozen (below_new v1 _) s1.2.2.2.2.1 (kept_frozen g1 hlt7 f3))
                have HDn : Hid ((w8.setCell ⟨we.heap.size, 1, none⟩ (.slice A8 (j + 1) c8)).cell? ⟨we.heap.size, 0, none⟩ = some (.int .i64 (x4 : Int)) ∧ (w8.setCell ⟨we.heap.size, 1, none⟩ (.slice A8 (j + 1) c8)).cell? ⟨we.heap.size, 1, none⟩ = some (.slice A8 (j + 1) c8) ∧ (w8.setCell ⟨we.heap.size, 1, none⟩ (.slice A8 (j + 1) c8)).cell? ⟨we.heap.size, 2, none⟩ = some (.slice none 0 0) ∧ (w8.setCell ⟨we.heap.size, 1, none⟩ (.slice A8 (j + 1) c8)).cell? ⟨we.heap.size, 3, none⟩ = some (.slice none 0 0) ∧ (w8.setCell ⟨we.heap.size, 1, none⟩ (.slice A8 (j + 1) c8)).frozen? ⟨we.heap.size, 1, none⟩ = false ∧ (w8.setCell ⟨we.heap.size, 1, none⟩ (.slice A8 (j + 1) c8)).frozen? ⟨we.heap.size, 2, none⟩ = false ∧ (w8.setCell ⟨we.heap.size, 1, none⟩ (.slice A8 (j + 1) c8)).frozen? ⟨we.heap.size, 3, none⟩ = false) := Lib.hid ⟨by simp [go_sem, z0, k1, z2, z3], by simp [go_sem, z0, k1, z2, z3], by simp [go_sem, z0, k1, z2, z3], by simp [go_sem, z0, k1, z2, z3], by rw [World.frozen?_setCell]; exact k2, by rw [World.frozen?_setCell]; exact y2, by rw [World.frozen?_setCell]; exact y3⟩
                have HOn : Hid ((w8.setCell ⟨we.heap.size, 1, none⟩ (.slice A8 (j + 1) c8)).ownsRow (we.heap.size + 1) 50 2 (.slice A8 (j + 1) c8) (j + 1) (rcells ((List.range (j + 1)).map bnd))) := Lib.hid (by
                  have e : rcells ((List.range (j + 1)).map bnd) = rcells ((List.range j).map bnd) ++ rcells [((bnd j).1, (xb : Int))] := by
                    rw [List.range_succ, List.map_append, rcells_app, List.map_singleton, ← hx2]
                  rw [e]
                  exact ownsRow_setCell_other (a := ⟨we.heap.size, 1, none⟩) hown8 (fun e => by have := (hown8.lt _ e).1; simp only [] at this; omega) _)
                have HBn := Lib.hid hS4.1
                have hszn : we.heap.size + 1 ≤ (w8.setCell ⟨we.heap.size, 1, none⟩ (.slice A8 (j + 1) c8)).heap.size := hS4.2.1
                clear z0 z2 z3 y2 y3 hS0 hS1 hS2 hS3 hS4 k1 k2 kb s1 t1 m1 m2 m3 q1 q2 q3 hown8 hgrow8 b8 hn8 d0 d1 d2 d3 f1 f2 f3
                go_wp2_with fail
                go_roundw
                case rel => exact ⟨j + 1, a + 4, A8, c8, by omega, by go_num, by go_num, Lib.hid (by have := HA.out; omega), HDn, HOn, HBn, hszn⟩
                case measure => simp [intOf]; omega
              exact AllReadyH.nil
            exact AllReadyH.nil
          exact AllReadyH.nil
        exact AllReadyH.nil
      refine AllReadyH.cons (o := _) rfl (fun Kx hKx => ?_) ?_
      · go_simp
        with_reducible refine Calls.mono (hG.out _ ?_) ?_
        · exact ⟨hS0.1, hS0.2.1⟩
        rintro e v1 ⟨rfl, g1⟩
        have s1 := sOn5 g1 hSd
        have t1 := sOn5 (below_new v1 (.cells #[.int .i64 (bnd j).1, .int .i64 (xb : Int)] 50)) s1
        obtain ⟨m1, m2, m3, _, _, _⟩ := id s1
        obtain ⟨q1, q2, q3, _, _, _⟩ := id t1
        have hS1 : Below we.heap.size we v1 ∧ we.heap.size < v1.heap.size ∧ v1.cell? ⟨b0, o0 + (a + 3), none⟩ = some (.int .u8 (xb : Int)) := ⟨s1.2.2.2.2.2, s1.2.2.2.2.1, s1.2.2.1⟩
        have hS2 : Below we.heap.size we (v1.alloc (.cells #[.int .i64 (bnd j).1, .int .i64 (xb : Int)] 50)) ∧ we.heap.size < (v1.alloc (.cells #[.int .i64 (bnd j).1, .int .i64 (xb : Int)] 50)).heap.size ∧ (v1.alloc (.cells #[.int .i64 (bnd j).1, .int .i64 (xb : Int)] 50)).cell? ⟨b0, o0 + (a + 3), none⟩ = some (.int .u8 (xb : Int)) := ⟨t1.2.2.2.2.2, t1.2.2.2.2.1, t1.2.2.1⟩
        go_wp2_with fail
        refine hKx.out _ _ ?_ (fun hHeld => ?_)
        · exact hS1
        clear hKx Kx
        (try simp only [Act.put, List.setIfInBounds_toArray, List.set_cons_zero, List.set_cons_succ])
        refine wpAnyH_take (i := 5) (oi := _) (v := ?_) rfl (by kernel_rfl) (by kernel_rfl) (by kernel_rfl) (fun _ _ _ h => h) (Or.inl ⟨by rfl, ?hy5x12⟩) (by assumption) ?hr5x12
        case hy5x12 =>
          intro w hSw
          (try dsimp only at hSw)
          go_simp
          (try with_reducible rfl)
        (try simp only [Act.put, List.setIfInBounds_toArray, List.set_cons_zero, List.set_cons_succ])
        refine wpAnyH_take (i := 12) (oi := _) (v := ?_) rfl (by kernel_rfl) (by kernel_rfl) (by kernel_rfl) (fun _ _ _ h => h) (Or.inl ⟨by rfl, ?hy12x13⟩) (by assumption) ?hr12x13
        case hy12x13 =>
          intro w hSw
          (try dsimp only at hSw)
          go_simp
          (try with_reducible rfl)
        (try simp only [Act.put, List.setIfInBounds_toArray, List.set_cons_zero, List.set_cons_succ])
        refine wpAnyH_ready (rs := [1, 13]) (by kernel_rfl) (by simp) ?_
        refine AllReadyH.cons (o := _) rfl (fun Kx hKx => ?_) ?_
        · go_simp
          refine hKx.out _ _ ?_ (fun hHeld => ?_)
          · exact hS1
          clear hKx Kx
          (try simp only [Act.put, List.setIfInBounds_toArray, List.set_cons_zero, List.set_cons_succ])
          refine wpAnyH_ready (rs := [13]) (by kernel_rfl) (by simp) ?_
          refine AllReadyH.cons (o := _) rfl (fun Kx hKx => ?_) ?_
          · go_simp
            refine hKx.out _ _ ?_ (fun hHeld => ?_)
            · exact hS2
            clear hKx Kx
            (try simp only [Act.put, List.setIfInBounds_toArray, List.set_cons_zero, List.set_cons_succ])
            refine wpAnyH_ready (rs := [14]) (by kernel_rfl) (by simp) ?_
            refine AllReadyH.cons (o := _) rfl (fun Kx hKx => ?_) ?_
            · refine step_append_src rfl (.tmp 91) (.tmp 103) 22 rfl (we.heap.size + 1) 50 i0 _ 2 16 Tryd.underlying22 hi0 hz0 hz1 hz2 rfl (by decide) (.slice A1 j e1) j (rcells ((List.range j).map bnd)) (by first | rfl | simp [Act.eval, Act.put]) (by exact t1.2.2.2.1) (some ⟨v1.heap.size, 0, none⟩) 1 1 (v1.heap.size + 1) (rcells [((bnd j).1, (xb : Int))]) (by first | rfl | simp [Act.eval, Act.put]) (fun h => by cases h) (by exact reads_band v1 _ _) (rcells_one _) (by unfold maxLen; omega) (by omega) (by have := t1.2.2.2.2.1; omega) ?_
              intro A8 c8 w8 hown8 hn8 hgrow8
              have b8 := below_grown (Below.refl (we.heap.size + 1) _) (by have := t1.2.2.2.2.1; omega) t1.2.2.2.1 hgrow8
              have k1 := (b8.cell (p := ⟨we.heap.size, 1, none⟩) (Nat.lt_succ_self _)).trans t1.1
              have k2 := (frozen_below b8 (a := ⟨we.heap.size, 1, none⟩) (Nat.lt_succ_self _)).trans t1.2.1
              have kb : w8.cell? ⟨b0, o0 + (a + 3), none⟩ = some (.int .u8 (xb : Int)) := (b8.cell (p := ⟨b0, o0 + (a + 3), none⟩) (by simp only []; have := bz.size; omega)).trans t1.2.2.1
              have hS3 : Below we.heap.size we w8 ∧ we.heap.size < w8.heap.size ∧ w8.cell? ⟨b0, o0 + (a + 3), none⟩ = some (.int .u8 (xb : Int)) := ⟨t1.2.2.2.2.2.trans (below_lower b8 (Nat.le_succ _)), Nat.lt_of_lt_of_le t1.2.2.2.2.1 b8.size, kb⟩
              have hS4 : Below we.heap.size we (w8.setCell ⟨we.heap.size, 1, none⟩ (.slice A8 (j + 1) c8)) ∧ we.heap.size < (w8.setCell ⟨we.heap.size, 1, none⟩ (.slice A8 (j + 1) c8)).heap.size ∧ (w8.setCell ⟨we.heap.size, 1, none⟩ (.slice A8 (j + 1) c8)).cell? ⟨b0, o0 + (a + 3), none⟩ = some (.int .u8 (xb : Int)) := ⟨hS3.1.setCell (p := ⟨we.heap.size, 1, none⟩) (Nat.le_refl _) _, by simpa using hS3.2.1, by rw [World.cell?_setCell_far _ _ _ _ (fun e => hb0e e.symm)]; exact kb⟩
              refine hKx.out _ _ ?_ (fun hHeld => ?_)
              · exact hS3
              clear hKx Kx
              (try simp only [Act.put, List.setIfInBounds_toArray, List.set_cons_zero, List.set_cons_succ])
              refine wpAnyH_take (i := 15) (oi := _) (v := ?_) rfl (by kernel_rfl) (by kernel_rfl) (by kernel_rfl) (fun _ _ _ h => h) (Or.inl ⟨by rfl, ?hy15x14⟩) (by assumption) ?hr15x14
              case hy15x14 =>
                intro w hSw
                (try dsimp only at hSw)
                go_simp
                (try with_reducible rfl)
              (try simp only [Act.put, List.setIfInBounds_toArray, List.set_cons_zero, List.set_cons_succ])
              refine wpAnyH_ready (rs := [16]) (by kernel_rfl) (by simp) ?_
              refine AllReadyH.cons (o := _) rfl (fun Kx hKx => ?_) ?_
              · go_simp
                refine hKx.out _ _ ?_ (fun hHeld => ?_)
                · exact hS4
                clear hKx Kx
                (try simp only [Act.put, List.setIfInBounds_toArray, List.set_cons_zero, List.set_cons_succ])
                refine wpAnyH_done (by kernel_rfl) ?_ _
                have z0 : w8.cell? ⟨we.heap.size, 0, none⟩ = some (.int .i64 (x4 : Int)) := (b8.cell (p := ⟨we.heap.size, 0, none⟩) (Nat.lt_succ_self _)).trans (kept_cell (below_new v1 _) (kept_cell g1 d0))
                have z2 : w8.cell? ⟨we.heap.size, 2, none⟩ = some (.slice none 0 0) := (b8.cell (p := ⟨we.heap.size, 2, none⟩) (Nat.lt_succ_self _)).trans (kept_cell (below_new v1 _) (kept_cell g1 d2))
                have z3 : w8.cell? ⟨we.heap.size, 3, none⟩ = some (.slice none 0 0) := (b8.cell (p := ⟨we.heap.size, 3, none⟩) (Nat.lt_succ_self _)).trans (kept_cell (below_new v1 _) (kept_cell g1 d3))
                have y2 : w8.frozen? ⟨we.heap.size, 2, none⟩ = false := (frozen_below b8 (a := ⟨we.heap.size, 2, none⟩) (Nat.lt_succ_self _)).trans (kept_frozen (below_new v1 _) s1.2.2.2.2.1 (kept_frozen g1 hlt7 f2))
                have y3 : w8.frozen? ⟨we.heap.size, 3, none⟩ = false := (frozen_below b8 (a := ⟨we.heap.size, 3, none⟩) (Nat.lt_succ_self _)).trans (kept_frozen (below_new v1 _) s1.2.2.2.2.1 (kept_frozen g1 hlt7 f3))
                have HDn : Hid ((w8.setCell ⟨we.heap.size, 1, none⟩ (.slice A8 (j + 1) c8)).cell? ⟨we.heap.size, 0, none⟩ = some (.int .i64 (x4 : Int)) ∧ (w8.setCell ⟨we.heap.size, 1, none⟩ (.slice A8 (j + 1) c8)).cell? ⟨we.heap.size, 1, none⟩ = some (.slice A8 (j + 1) c8) ∧ (w8.setCell ⟨we.heap.size, 1, none⟩ (.slice A8 (j + 1) c8)).cell? ⟨we.heap.size, 2, none⟩ = some (.slice none 0 0) ∧ (w8.setCell ⟨we.heap.size, 1, none⟩ (.slice A8 (j + 1) c8)).cell? ⟨we.heap.size, 3, none⟩ = some (.slice none 0 0) ∧ (w8.setCell ⟨we.heap.size, 1, none⟩ (.slice A8 (j + 1) c8)).frozen? ⟨we.heap.size, 1, none⟩ = false ∧ (w8.setCell ⟨we.heap.size, 1, none⟩ (.slice A8 (j + 1) c8)).frozen? ⟨we.heap.size, 2, none⟩ = false ∧ (w8.setCell ⟨we.heap.size, 1, none⟩ (.slice A8 (j + 1) c8)).frozen? ⟨we.heap.size, 3, none⟩ = false) := Lib.hid ⟨by simp [go_sem, z0, k1, z2, z3], by simp [go_sem, z0, k1, z2, z3], by simp [go_sem, z0, k1, z2, z3], by simp [go_sem, z0, k1, z2, z3], by rw [World.frozen?_setCell]; exact k2, by rw [World.frozen?_setCell]; exact y2, by rw [World.frozen?_setCell]; exact y3⟩
                have HOn : Hid ((w8.setCell ⟨we.heap.size, 1, none⟩ (.slice A8 (j + 1) c8)).ownsRow (we.heap.size + 1) 50 2 (.slice A8 (j + 1) c8) (j + 1) (rcells ((List.range (j + 1)).map bnd))) := Lib.hid (by
                  have e : rcells ((List.range (j + 1)).map bnd) = rcells ((List.range j).map bnd) ++ rcells [((bnd j).1, (xb : Int))] := by
                    rw [List.range_succ, List.map_append, rcells_app, List.map_singleton, ← hx2]
                  rw [e]
                  exact ownsRow_setCell_other (a := ⟨we.heap.size, 1, none⟩) hown8 (fun e => by have := (hown8.lt _ e).1; simp only [] at this; omega) _)
                have HBn := Lib.hid hS4.1
                have hszn : we.heap.size + 1 ≤ (w8.setCell ⟨we.heap.size, 1, none⟩ (.slice A8 (j + 1) c8)).heap.size := hS4.2.1
                clear z0 z2 z3 y2 y3 hS0 hS1 hS2 hS3 hS4 k1 k2 kb s1 t1 m1 m2 m3 q1 q2 q3 hown8 hgrow8 b8 hn8 d0 d1 d2 d3 f1 f2 f3
                go_wp2_with fail
                go_roundw
                case rel => exact ⟨j + 1, a + 4, A8, c8, by omega, by go_num, by go_num, Lib.hid (by have := HA.out; omega), HDn, HOn, HBn, hszn⟩
                case measure => simp [intOf]; omega
              exact AllReadyH.nil
            exact AllReadyH.nil
          exact AllReadyH.nil
        refine AllReadyH.cons (o := _) rfl (fun Kx hKx => ?_) ?_
        · go_simp
          refine hKx.out _ _ ?_ (fun hHeld => ?_)
          · exact hS2
          clear hKx Kx
          (try simp only [Act.put, List.setIfInBounds_toArray, List.set_cons_zero, List.set_cons_succ])
          refine wpAnyH_ready (rs := [1]) (by kernel_rfl) (by simp) ?_
          refine AllReadyH.cons (o := _) rfl (fun Kx hKx => ?_) ?_
          · go_simp
            refine hKx.out _ _ ?_ (fun hHeld => ?_)
            · exact hS2
            clear hKx Kx
            (try simp only [Act.put, List.setIfInBounds_toArray, List.set_cons_zero, List.set_cons_succ])
            refine wpAnyH_ready (rs := [14]) (by kernel_rfl) (by simp) ?_
            refine AllReadyH.cons (o := _) rfl (fun Kx hKx => ?_) ?_
            · refine step_append_src rfl (.tmp 91) (.tmp 103) 22 rfl (we.heap.size + 1) 50 i0 _ 2 16 Tryd.underlying22 hi0 hz0 hz1 hz2 rfl (by decide) (.slice A1 j e1) j (rcells ((List.range j).map bnd)) (by first | rfl | simp [Act.eval, Act.put]) (by exact t1.2.2.2.1) (some ⟨v1.heap.size, 0, none⟩) 1 1 (v1.heap.size + 1) (rcells [((bnd j).1, (xb : Int))]) (by first | rfl | simp [Act.eval, Act.put]) (fun h => by cases h) (by exact reads_band v1 _ _) (rcells_one _) (by unfold maxLen; omega) (by omega) (by have := t1.2.2.2.2.1; omega) ?_
              intro A8 c8 w8 hown8 hn8 hgrow8
              have b8 := below_grown (Below.refl (we.heap.size + 1) _) (by have := t1.2.2.2.2.1; omega) t1.2.2.2.1 hgrow8
              have k1 := (b8.cell (p := ⟨we.heap.size, 1, none⟩) (Nat.lt_succ_self _)).trans t1.1
              have k2 := (frozen_below b8 (a := ⟨we.heap.size, 1, none⟩) (Nat.lt_succ_self _)).trans t1.2.1
              have kb : w8.cell? ⟨b0, o0 + (a + 3), none⟩ = some (.int .u8 (xb : Int)) := (b8.cell (p := ⟨b0, o0 + (a + 3), none⟩) (by simp only []; have := bz.size; omega)).trans t1.2.2.1
              have hS3 : Below we.heap.size we w8 ∧ we.heap.size < w8.heap.size ∧ w8.cell? ⟨b0, o0 + (a + 3), none⟩ = some (.int .u8 (xb : Int)) := ⟨t1.2.2.2.2.2.trans (below_lower b8 (Nat.le_succ _)), Nat.lt_of_lt_of_le t1.2.2.2.2.1 b8.size, kb⟩
              have hS4 : Below we.heap.size we (w8.setCell ⟨we.heap.size, 1, none⟩ (.slice A8 (j + 1) c8)) ∧ we.heap.size < (w8.setCell ⟨we.heap.size, 1, none⟩ (.slice A8 (j + 1) c8)).heap.size ∧ (w8.setCell ⟨we.heap.size, 1, none⟩ (.slice A8 (j + 1) c8)).cell? ⟨b0, o0 + (a + 3), none⟩ = some (.int .u8 (xb : Int)) := ⟨hS3.1.setCell (p := ⟨we.heap.size, 1, none⟩) (Nat.le_refl _) _, by simpa using hS3.2.1, by rw [World.cell?_setCell_far _ _ _ _ (fun e => hb0e e.symm)]; exact kb⟩
              refine hKx.out _ _ ?_ (fun hHeld => ?_)
              · exact hS3
              clear hKx Kx
              (try simp only [Act.put, List.setIfInBounds_toArray, List.set_cons_zero, List.set_cons_succ])
              refine wpAnyH_take (i := 15) (oi := _) (v := ?_) rfl (by kernel_rfl) (by kernel_rfl) (by kernel_rfl) (fun _ _ _ h => h) (Or.inl ⟨by rfl, ?hy15x15⟩) (by assumption) ?hr15x15
              case hy15x15 =>
                intro w hSw
                (try dsimp only at hSw)
                go_simp
                (try with_reducible rfl)
              (try simp only [Act.put, List.setIfInBounds_toArray, List.set_cons_zero, List.set_cons_succ])
              refine wpAnyH_ready (rs := [16]) (by kernel_rfl) (by simp) ?_
              refine AllReadyH.cons (o := _) rfl (fun Kx hKx => ?_) ?_
              · go_simp
                refine hKx.out _ _ ?_ (fun hHeld => ?_)
                · exact hS4
                clear hKx Kx
                (try simp only [Act.put, List.setIfInBounds_toArray, List.set_cons_zero, List.set_cons_succ])
                refine wpAnyH_done (by kernel_rfl) ?_ _
                have z0 : w8.cell? ⟨we.heap.size, 0, none⟩ = some (.int .i64 (x4 : Int)) := (b8.cell (p := ⟨we.heap.size, 0, none⟩) (Nat.lt_succ_self _)).trans (kept_cell (below_new v1 _) (kept_cell g1 d0))
                have z2 : w8.cell? ⟨we.heap.size, 2, none⟩ = some (.slice none 0 0) := (b8.cell (p := ⟨we.heap.size, 2, none⟩) (Nat.lt_succ_self _)).trans (kept_cell (below_new v1 _) (kept_cell g1 d2))
                have z3 : w8.cell? ⟨we.heap.size, 3, none⟩ = some (.slice none 0 0) := (b8.cell (p := ⟨we.heap.size, 3, none⟩) (Nat.lt_succ_self _)).trans (kept_cell (below_new v1 _) (kept_cell g1 d3))
                have y2 : w8.frozen? ⟨we.heap.size, 2, none⟩ = false := (frozen_below b8 (a := ⟨we.heap.size, 2, none⟩) (Nat.lt_succ_self _)).trans (kept_frozen (below_new v1 _) s1.2.2.2.2.1 (kept_frozen g1 hlt7 f2))
                have y3 : w8.frozen? ⟨we.heap.size, 3, none⟩ = false := (frozen_below b8 (a := ⟨we.heap.size, 3, none⟩) (Nat.lt_succ_self _)).trans (kept_frozen (below_new v1 _) s1.2.2.2.2.1 (kept_frozen g1 hlt7 f3))
                have HDn : Hid ((w8.setCell ⟨we.heap.size, 1, none⟩ (.slice A8 (j + 1) c8)).cell? ⟨we.heap.size, 0, none⟩ = some (.int .i64 (x4 : Int)) ∧ (w8.setCell ⟨we.heap.size, 1, none⟩ (.slice A8 (j + 1) c8)).cell? ⟨we.heap.size, 1, none⟩ = some (.slice A8 (j + 1) c8) ∧ (w8.setCell ⟨we.heap.size, 1, none⟩ (.slice A8 (j + 1) c8)).cell? ⟨we.heap.size, 2, none⟩ = some (.slice none 0 0) ∧ (w8.setCell ⟨we.heap.size, 1, none⟩ (.slice A8 (j + 1) c8)).cell? ⟨we.heap.size, 3, none⟩ = some (.slice none 0 0) ∧ (w8.setCell ⟨we.heap.size, 1, none⟩ (.slice A8 (j + 1) c8)).frozen? ⟨we.heap.size, 1, none⟩ = false ∧ (w8.setCell ⟨we.heap.size, 1, none⟩ (.slice A8 (j + 1) c8)).frozen? ⟨we.heap.size, 2, none⟩ = false ∧ (w8.setCell ⟨we.heap.size, 1, none⟩ (.slice A8 (j + 1) c8)).frozen? ⟨we.heap.size, 3, none⟩ = false) := Lib.hid ⟨by simp [go_sem, z0, k1, z2, z3], by simp [go_sem, z0, k1, z2, z3], by simp [go_sem, z0, k1, z2, z3], by simp [go_sem, z0, k1, z2, z3], by rw [World.frozen?_setCell]; exact k2, by rw [World.frozen?_setCell]; exact y2, by rw [World.frozen?_setCell]; exact y3⟩
                have HOn : Hid ((w8.setCell ⟨we.heap.size, 1, none⟩ (.slice A8 (j + 1) c8)).ownsRow (we.heap.size + 1) 50 2 (.slice A8 (j + 1) c8) (j + 1) (rcells ((List.range (j + 1)).map bnd))) := Lib.hid (by
                  have e : rcells ((List.range (j + 1)).map bnd) = rcells ((List.range j).map bnd) ++ rcells [((bnd j).1, (xb : Int))] := by
                    rw [List.range_succ, List.map_append, rcells_app, List.map_singleton, ← hx2]
                  rw [e]
                  exact ownsRow_setCell_other (a := ⟨we.heap.size, 1, none⟩) hown8 (fun e => by have := (hown8.lt _ e).1; simp only [] at this; omega) _)
                have HBn := Lib.hid hS4.1
                have hszn : we.heap.size + 1 ≤ (w8.setCell ⟨we.heap.size, 1, none⟩ (.slice A8 (j + 1) c8)).heap.size := hS4.2.1
                clear z0 z2 z3 y2 y3 hS0 hS1 hS2 hS3 hS4 k1 k2 kb s1 t1 m1 m2 m3 q1 q2 q3 hown8 hgrow8 b8 hn8 d0 d1 d2 d3 f1 f2 f3
                go_wp2_with fail
                go_roundw
                case rel => exact ⟨j + 1, a + 4, A8, c8, by omega, by go_num, by go_num, Lib.hid (by have := HA.out; omega), HDn, HOn, HBn, hszn⟩
                case measure => simp [intOf]; omega
              exact AllReadyH.nil
            exact AllReadyH.nil
          exact AllReadyH.nil
        exact AllReadyH.nil
      exact AllReadyH.nil
    · obtain rfl : x6 = j := by omega
      have hna := HA.out
      obtain ⟨d0, d1, d2, d3, f1, f2, f3⟩ := HD.out
      have HD0 : Hid (wr.cell? ⟨we.heap.size, 0, none⟩ = some (.int .i64 (x4 : Int)) ∧ wr.cell? ⟨we.heap.size, 1, none⟩ = some (.slice A1 x6 e1) ∧ wr.cell? ⟨we.heap.size, 2, none⟩ = some (.slice none 0 0) ∧ wr.cell? ⟨we.heap.size, 3, none⟩ = some (.slice none 0 0) ∧ wr.frozen? ⟨we.heap.size, 2, none⟩ = false ∧ wr.frozen? ⟨we.heap.size, 3, none⟩ = false) := Lib.hid ⟨d0, d1, d2, d3, f2, f3⟩
      have HO0 : Hid (OwnI wr (we.heap.size + 1) none 0 0 []) := Lib.hid ⟨rfl, World.ownsRow_nil _ _ _ _, fun h hh => by simp at hh⟩
      have HRs : Hid (∀ s < x5, (rws s).length = x4 ∧ ∀ i < x4, ∃ y : Nat, y < 256 ∧ (rws s)[i]? = some (y : Int) ∧ 7 + 4 * x6 + s * x4 + i < n ∧ ∀ W, Below w.heap.size w W → W.cell? ⟨b0, o0 + (7 + 4 * x6 + s * x4 + i), none⟩ = some (.int .u8 (y : Int))) := Lib.hid (fun s hs => by
        obtain ⟨h1, h2⟩ := HRw.out s hs
        rw [← hrw s]
        refine ⟨h1, fun i hi => ?_⟩
        obtain ⟨y, k1, k2, k3, k4⟩ := h2 i hi
        exact ⟨y, k1, k2, k3, fun W g => k4 W g b0 o0 rfl⟩)
      have HA0 : Hid (a = 7 + 4 * x6 + 0 * x4) := Lib.hid (by rw [hna, Nat.zero_mul, Nat.add_zero])
      clear d0 d1 d2 d3 f1 f2 f3 HD HRw HCb HGb hbe HA hna HCell hrw
      have hx8 : x4 ≤ 8 ∧ x5 ≤ 5 ∧ x6 ≤ 60 := by omega
      go_wp2_with fail
      go_loopw [8, 10] (fun va vs wx => ∃ (s a : Nat) (A2 : Option Addr) (e2 : Nat) (H : List Hi), s ≤ x5 ∧ vs = .int .i64 s ∧ va = .int .i64 (a : Int) ∧ Hid (a = 7 + 4 * x6 + s * x4) ∧ Hid (wx.cell? ⟨we.heap.size, 0, none⟩ = some (.int .i64 (x4 : Int)) ∧ wx.cell? ⟨we.heap.size, 1, none⟩ = some (.slice A1 x6 e1) ∧ wx.cell? ⟨we.heap.size, 2, none⟩ = some (.slice A2 s e2) ∧ wx.cell? ⟨we.heap.size, 3, none⟩ = some (.slice none 0 0) ∧ wx.frozen? ⟨we.heap.size, 2, none⟩ = false ∧ wx.frozen? ⟨we.heap.size, 3, none⟩ = false) ∧ Hid (wx.ownsRow (we.heap.size + 1) 50 2 (.slice A1 x6 e1) x6 (rcells ((List.range x6).map bnd))) ∧ Hid (OwnI wx (we.heap.size + 1) A2 s e2 H) ∧ Hid (listsOf H = (List.range s).map rws) ∧ Hid (Below we.heap.size we wx) ∧ we.heap.size + 1 ≤ wx.heap.size) (fun _ vs _ => x5 - (intOf vs).toNat)
      case atStart => exact ⟨0, a, none, 0, [], Nat.zero_le _, rfl, rfl, HA0, HD0, HO, HO0, Lib.hid rfl, HB, hsr⟩
      case round =>
        clear HD0 HO0 HO HB HA0 hsr
        rename World => wo
        obtain ⟨s, a, A2, e2, H, hs, rfl, rfl, HA, HD, HO, HI, HLi, HB, hsr⟩ := hrel
        by_cases hlt2 : s < x5
        · obtain ⟨hrl, hrc⟩ := HRs.out s hlt2
          have HRc := Lib.hid hrc
          have HRl := Lib.hid hrl
          have HBo := Lib.hid (bz.trans (HB.out.mono bz.size))
          have hsI : (s : Int) < (x5 : Int) := by omega
          clear hrl hrc
          go_wp2_with fail
          go_loopw [8, 11, 12] (fun va vl vi wx => ∃ (i a c3 : Nat) (A3 : Option Addr), i ≤ x4 ∧ vi = .int .i64 i ∧ va = .int .i64 (a : Int) ∧ Hid (a = 7 + 4 * x6 + s * x4 + i) ∧ vl = .slice A3 i c3 ∧ Hid (wx.ownsRow wo.heap.size 3 1 (.slice A3 i c3) i (icells ((rws s).take i))) ∧ Hid (Below wo.heap.size wo wx)) (fun _ _ vi _ => x4 - (intOf vi).toNat)
          case atStart => exact ⟨0, a, 0, none, Nat.zero_le _, rfl, rfl, Lib.hid (by rw [HA.out, Nat.add_zero]), rfl, Lib.hid (World.ownsRow_nil _ _ _ _), Lib.hid (Below.refl _ _)⟩
          case round =>
            rename World => wi
            obtain ⟨i, a, c3, A3, hi, rfl, rfl, HAi, rfl, HOi, HBi⟩ := hrel
            by_cases hlt3 : i < x4
            · obtain ⟨y, hy, hye, hyn, hyc⟩ := HRc.out i hlt3
              have hc := hyc wi (HBo.out.trans (HBi.out.mono HBo.out.size))
              rw [← HAi.out] at hc hyn
              have haI : (a : Int) < (n : Int) := by omega
              have hwy : IntKind.i64.wrap (y : Int) = (y : Int) := by rw [IntKind.wrap_i64]; omega
              have HTk : Hid ((rws s).take (i + 1) = (rws s).take i ++ [(y : Int)]) := Lib.hid (by
                have hl1 : i < (rws s).length := by rw [HRl.out]; exact hlt3
                rw [List.getElem?_eq_getElem hl1] at hye
                rw [take_one hl1, Option.some.inj hye])
              have HRd : Hid (Reads (wi.alloc (.cells #[.int .i64 (y : Int)] 3)) (wi.heap.size + 1) 1 (some ⟨wi.heap.size, 0, none⟩) 1 (icells [(y : Int)])) := Lib.hid (by
                have h := reads_int wi (y : Int)
                simpa using h)
              have HOne := Lib.hid (icells_one [(y : Int)])
              have HOa := Lib.hid (HOi.out.alloc (.cells #[.int .i64 (y : Int)] 3))
              have HBa := Lib.hid (below_call HBi.out HBi.out.size (below_new wi (.cells #[.int .i64 (y : Int)] 3)))
              clear hyc hye HOi HBi
              go_wp2_with (at_builtin; refine wpList_append_src rfl _ _ 51 rfl wo.heap.size 3 m9 _ 1 8 Tryd.underlying51 hq9 hq0 hq1 hq2 rfl (by decide) _ _ _ rfl HOa.out (some ⟨wi.heap.size, 0, none⟩) 1 1 (wi.heap.size + 1) (icells [(y : Int)]) rfl (fun h => by cases h) HRd.out HOne.out ?n3 ?n4 ?n5 ?_)
              case n3 => unfold maxLen; omega
              case n4 => omega
              case n5 => first | exact HBa.out.size | (have := HBa.out.size; simp at this ⊢; omega)
              intro A9 c9 w9 hown9 hn9 hgrow9
              have HB9 : Hid (Below wo.heap.size wo w9) := Lib.hid (below_grown HBa.out HBa.out.size HOa.out hgrow9)
              have HO9 : Hid (w9.ownsRow wo.heap.size 3 1 (.slice A9 (i + 1) c9) (i + 1) (icells ((rws s).take (i + 1)))) := Lib.hid (by rw [HTk.out, icells_snoc]; exact hown9)
              clear hown9 hgrow9 HOa HRd HOne HBa hc
              go_wp2_with fail
              go_roundw
              case rel => exact ⟨i + 1, a + 1, c9, A9, by omega, by go_num, by go_num, Lib.hid (by have := HAi.out; omega), rfl, HO9, HB9⟩
              case measure => simp [intOf]; omega
            · obtain rfl : x4 = i := by omega
              have HTe : Hid ((rws s).take x4 = rws s) := Lib.hid (List.take_of_length_le (by rw [HRl.out]; exact Nat.le_refl _))
              rw [HTe.out] at HOi
              obtain ⟨d0, d1, d2, d3, f2, f3⟩ := HD.out
              have k0 := kept_cell HBi.out d0
              have k1 := kept_cell HBi.out d1
              have k2 := kept_cell HBi.out d2
              have k3 := kept_cell HBi.out d3
              have q2 := kept_frozen HBi.out (show we.heap.size < wo.heap.size by omega) f2
              have q3 := kept_frozen HBi.out (show we.heap.size < wo.heap.size by omega) f3
              have gL := below_new wi (.cells #[.slice A3 x4 c3] 51)
              have HOr : Hid ((wi.alloc (.cells #[.slice A3 x4 c3] 51)).ownsRow (we.heap.size + 1) 3 1 (.slice A3 x4 c3) x4 (icells (rws s))) := Lib.hid (own_base (own_below HOi.out gL) hsr)
              have HIl := Lib.hid ((HI.out.on HBi.out).on gL)
              have hwi : we.heap.size + 1 ≤ (wi.alloc (.cells #[.slice A3 x4 c3] 51)).heap.size := Nat.le_trans hsr (Nat.le_trans HBi.out.size gL.size)
              have l0 := kept_cell gL k0
              have l1 := kept_cell gL k1
              have l2 := kept_cell gL k2
              have l3 := kept_cell gL k3
              have HBl := Lib.hid (below_call HB.out HB.out.size (below_call HBi.out HBi.out.size gL))
              have HOb := Lib.hid (own_below (own_below HO.out HBi.out) gL)
              have r2 := kept_frozen gL (show we.heap.size < wi.heap.size by have := HBi.out.size; omega) q2
              have r3 := kept_frozen gL (show we.heap.size < wi.heap.size by have := HBi.out.size; omega) q3
              have HIo := Lib.hid HIl.out.out
              clear d0 d1 d2 d3 f2 f3 k0 k1 k3 q2 q3 gL HOi
              go_wp2_with (at_builtin; refine wpList_append_lies _ rfl _ _ 23 rfl (we.heap.size + 1) 51 j9 _ 1 24 Tryd.underlying23 hj9 hp0 hp1 hp2 rfl (by decide) _ _ _ rfl HIo.out ⟨wi.heap.size, 0, none⟩ 1 1 [.slice A3 x4 c3] rfl rfl ?k1 ?k2 (by omega) ?k3 ?k4 ?k5 _ rfl ?_)
              try (case k1 => exact lit1 (by simp))
              case k2 => first | rfl | (intro u hu; simp at hu; subst hu; rfl)
              case k3 => unfold maxLen; omega
              case k4 => omega
              case k5 => first | exact hwi | (simpa using hwi)
              intro g9 cap9 w9 hown9 hgrow9 hat9 hlt9
              have b9 := below_grown (Below.refl (we.heap.size + 1) _) hwi HIo.out hgrow9
              have z0 := (b9.cell (p := ⟨we.heap.size, 0, none⟩) (Nat.lt_succ_self _)).trans l0
              have z1 := (b9.cell (p := ⟨we.heap.size, 1, none⟩) (Nat.lt_succ_self _)).trans l1
              have z2 := (b9.cell (p := ⟨we.heap.size, 2, none⟩) (Nat.lt_succ_self _)).trans l2
              have z3 := (b9.cell (p := ⟨we.heap.size, 3, none⟩) (Nat.lt_succ_self _)).trans l3
              have y2 := (frozen_below b9 (a := ⟨we.heap.size, 2, none⟩) (Nat.lt_succ_self _)).trans r2
              have y3 := (frozen_below b9 (a := ⟨we.heap.size, 3, none⟩) (Nat.lt_succ_self _)).trans r3
              have HI9 := HIl.out.snoc (x := ⟨A3, x4, c3, rws s⟩) ⟨HRl.out, HOr.out⟩ hown9 hgrow9
              have hI2 : OwnI (w9.setCell ⟨we.heap.size, 2, none⟩ (.slice (some ⟨g9, 0, none⟩) (s + 1) cap9)) (we.heap.size + 1) (some ⟨g9, 0, none⟩) (s + 1) cap9 (H ++ [⟨A3, x4, c3, rws s⟩]) := HI9.other (a := ⟨we.heap.size, 2, none⟩) (fun e => by have := (HI9.out.lt _ e).1; simp only [] at this; omega) (fun x hx e => by have := ((HI9.inn x hx).2.lt _ e).1; simp only [] at this; omega) _
              have hOb2 : (w9.setCell ⟨we.heap.size, 2, none⟩ (.slice (some ⟨g9, 0, none⟩) (s + 1) cap9)).ownsRow (we.heap.size + 1) 50 2 (.slice A1 x6 e1) x6 (rcells ((List.range x6).map bnd)) := by
                have k := HOb.out.kept hgrow9 (own_unlike' (by decide) HOb.out HIo.out)
                exact ownsRow_setCell_other (a := ⟨we.heap.size, 2, none⟩) k (fun e => by have := (k.lt _ e).1; simp only [] at this; omega) _
              have hB2 : Below we.heap.size we (w9.setCell ⟨we.heap.size, 2, none⟩ (.slice (some ⟨g9, 0, none⟩) (s + 1) cap9)) := (HBl.out.trans (below_lower b9 (Nat.le_succ _))).setCell (p := ⟨we.heap.size, 2, none⟩) (Nat.le_refl _) _
              have hL2 : listsOf (H ++ [⟨A3, x4, c3, rws s⟩]) = (List.range (s + 1)).map rws := by
                rw [List.range_succ, List.map_append, ← HLi.out]
                simp [listsOf]
              have HIn := Lib.hid hI2
              have HObn := Lib.hid hOb2
              have HBn := Lib.hid hB2
              have HLn := Lib.hid hL2
              have hszn : we.heap.size + 1 ≤ (w9.setCell ⟨we.heap.size, 2, none⟩ (.slice (some ⟨g9, 0, none⟩) (s + 1) cap9)).heap.size := by
                have := b9.size
                simp only [World.size_setCell]
                omega
              have HDn : Hid ((w9.setCell ⟨we.heap.size, 2, none⟩ (.slice (some ⟨g9, 0, none⟩) (s + 1) cap9)).cell? ⟨we.heap.size, 0, none⟩ = some (.int .i64 (x4 : Int)) ∧ (w9.setCell ⟨we.heap.size, 2, none⟩ (.slice (some ⟨g9, 0, none⟩) (s + 1) cap9)).cell? ⟨we.heap.size, 1, none⟩ = some (.slice A1 x6 e1) ∧ (w9.setCell ⟨we.heap.size, 2, none⟩ (.slice (some ⟨g9, 0, none⟩) (s + 1) cap9)).cell? ⟨we.heap.size, 2, none⟩ = some (.slice (some ⟨g9, 0, none⟩) (s + 1) cap9) ∧ (w9.setCell ⟨we.heap.size, 2, none⟩ (.slice (some ⟨g9, 0, none⟩) (s + 1) cap9)).cell? ⟨we.heap.size, 3, none⟩ = some (.slice none 0 0) ∧ (w9.setCell ⟨we.heap.size, 2, none⟩ (.slice (some ⟨g9, 0, none⟩) (s + 1) cap9)).frozen? ⟨we.heap.size, 2, none⟩ = false ∧ (w9.setCell ⟨we.heap.size, 2, none⟩ (.slice (some ⟨g9, 0, none⟩) (s + 1) cap9)).frozen? ⟨we.heap.size, 3, none⟩ = false) := Lib.hid ⟨by simp [go_sem, z0, z1, z2, z3], by simp [go_sem, z0, z1, z2, z3], by simp [go_sem, z0, z1, z2, z3], by simp [go_sem, z0, z1, z2, z3], by rw [World.frozen?_setCell]; exact y2, by rw [World.frozen?_setCell]; exact y3⟩
              clear hI2 hOb2 hB2 hL2 HI9 b9 hown9 hgrow9 hat9 l0 l1 l2 l3 r2 r3 HOr HIl HIo HBl HOb z0 z1 z3 y3
              go_wp2_with fail
              go_roundw
              case rel => exact ⟨s + 1, a, some ⟨g9, 0, none⟩, cap9, _, by omega, by go_num, rfl, Lib.hid (by have := HAi.out; rw [show (s + 1) * x4 = s * x4 + x4 from Nat.succ_mul s x4, ← Nat.add_assoc]; exact this), HDn, HObn, HIn, HLn, HBn, hszn⟩
              case measure => simp [intOf]; omega
        · obtain rfl : x5 = s := by omega
          obtain ⟨d0, d1, d2, d3, f2, f3⟩ := HD.out
          have hrs := hres.on HB.out
          have hae : a ≤ m := by have h1 := HA.out; have h2 := HLe.out; omega
          have haI : (a : Int) ≤ (m : Int) := by omega
          have hHU : Hid (Calls Tryd.prog 42 #[.slice (some ⟨b0, o0 + a, none⟩) (m - a) (c - a), .int .i64 (x5 : Int)] wo (OutU ub wo)) := Lib.hid (by
            have h := HUn.out wo (bz.trans (HB.out.mono bz.size)) b0 o0 rfl
            rw [← HA.out] at h
            exact h)
          clear HUn HRs HA HLb HLe
          go_wp2_with fail
          refine hHU.out.mono ?_
          rintro e w9 ⟨A9, c9, rfl, o9, g9⟩
          have hr9 := hrs.on g9
          obtain ⟨_, ⟨r0, r1, r2, r3⟩, u0, u1, u2, u3⟩ := hr9.parts
          have d0 := kept_cell g9 d0
          have d1 := kept_cell g9 d1
          have d2 := kept_cell g9 d2
          have d3 := kept_cell g9 d3
          have f3 := kept_frozen g9 (show we.heap.size < wo.heap.size by omega) f3
          have b9 := below_call (bz.trans (HB.out.mono bz.size)) (Nat.le_trans bz.size HB.out.size) g9
          cases ub with
          | none =>
            simp only [Option.getD_none, Option.isSome_none, List.length_nil]
            have HE := HEb.out rfl
            go_wp2_with fail
            obtain ⟨W9, hW9, b99, s9, q0, q1, q2, q3, _⟩ := store4 (.int .i64 0) (.slice none 0 0) (.slice none 0 0) (.slice none 0 0) b9 (Nat.le_refl _) r0 r1 r2 r3
            rw [← hW9]
            exact bodyPost_ret (v := .tuple #[.agg #[.int .i64 0, .slice none 0 0, .slice none 0 0, .slice none 0 0], .int .i64 25]) (by simp [results, Tryd.results11, go_sem, q0, q1, q2, q3]) rfl (outDo_no HE (by decide) b99)
          | some r =>
            obtain ⟨hE0, hDc⟩ := HEo.out r rfl
            simp only [Option.getD_some, Option.isSome_some] at o9 ⊢
            have hlt0 := hres.1
            have hne0 : we.heap.size ≠ w.heap.size := by omega
            have z0 : (w9.setCell ⟨we.heap.size, 3, none⟩ (.slice A9 r.length c9)).cell? ⟨we.heap.size, 0, none⟩ = some (.int .i64 (x4 : Int)) := by simp [go_sem, d0, d1, d2, d3]
            have z1 : (w9.setCell ⟨we.heap.size, 3, none⟩ (.slice A9 r.length c9)).cell? ⟨we.heap.size, 1, none⟩ = some (.slice A1 x6 e1) := by simp [go_sem, d0, d1, d2, d3]
            have z2 : (w9.setCell ⟨we.heap.size, 3, none⟩ (.slice A9 r.length c9)).cell? ⟨we.heap.size, 2, none⟩ = some (.slice A2 x5 e2) := by simp [go_sem, d0, d1, d2, d3]
            have z3 : (w9.setCell ⟨we.heap.size, 3, none⟩ (.slice A9 r.length c9)).cell? ⟨we.heap.size, 3, none⟩ = some (.slice A9 r.length c9) := by simp [go_sem, d0, d1, d2, d3]
            have y0 := (World.cell?_setCell_far w9 ⟨we.heap.size, 3, none⟩ ⟨w.heap.size, 0, none⟩ (.slice A9 r.length c9) hne0).trans r0
            have y1 := (World.cell?_setCell_far w9 ⟨we.heap.size, 3, none⟩ ⟨w.heap.size, 1, none⟩ (.slice A9 r.length c9) hne0).trans r1
            have y2 := (World.cell?_setCell_far w9 ⟨we.heap.size, 3, none⟩ ⟨w.heap.size, 2, none⟩ (.slice A9 r.length c9) hne0).trans r2
            have y3 := (World.cell?_setCell_far w9 ⟨we.heap.size, 3, none⟩ ⟨w.heap.size, 3, none⟩ (.slice A9 r.length c9) hne0).trans r3
            have b99 := b9.setCell (p := ⟨we.heap.size, 3, none⟩) (Nat.le_of_lt hlt0) (.slice A9 r.length c9)
            have hO1 := own_below HO.out g9
            have hI1 := HI.out.on g9
            have k1 := ownsRow_setCell_other (a := ⟨we.heap.size, 3, none⟩) hO1 (fun e => by have := (hO1.lt _ e).1; simp only [] at this; omega) (.slice A9 r.length c9)
            have k2 := hI1.other (a := ⟨we.heap.size, 3, none⟩) (fun e => by have := (hI1.out.lt _ e).1; simp only [] at this; omega) (fun x hx e => by have := ((hI1.inn x hx).2.lt _ e).1; simp only [] at this; omega) (.slice A9 r.length c9)
            have k9 := ownsRow_setCell_other (a := ⟨we.heap.size, 3, none⟩) o9 (fun e => by have := (o9.lt _ e).1; simp only [] at this; omega) (.slice A9 r.length c9)
            have hLi := HLi.out
            have hRw := Hrws.out
            clear HO HI HLi Hrws HD HB hHU HEb HEo
            go_wp2_with fail
            obtain ⟨W9, hW9, b98, s9, c0', c1', c2', c3', ho9⟩ := store4 (.int .i64 (x4 : Int)) (.slice A1 x6 e1) (.slice A2 x5 e2) (.slice A9 r.length c9) b99 (Nat.le_refl _) y0 y1 y2 y3
            rw [← hW9]
            have m1 := ho9 _ _ _ _ _ _ (by omega) k1
            have m9 := ho9 _ _ _ _ _ _ (by omega) k9
            have m2o := k2.store (by omega) ho9
            have m2 := m2o.nest
            refine bodyPost_ret (v := .tuple #[TV.v ⟨x4, A1, x6, e1, (List.range x6).map bnd, A2, x5, e2, H, A9, r.length, c9, r⟩, .int .i64 0]) (by simp [results, Tryd.results11, go_sem, c0', c1', c2', c3', TV.v]) rfl ⟨⟨x4, A1, x6, e1, (List.range x6).map bnd, A2, x5, e2, H, A9, r.length, c9, r⟩, by rw [hE0]; rfl, ⟨own_RD m1, own_shp m1, m2.1, m2.2, own_RL m9, own_shp m9⟩, ?_, b98, ⟨.inr (own_base m1 (by omega)), .inr (m2o.lower (by omega)), .inr (own_base m9 (by omega))⟩⟩
            rw [hDc, ← hRw]
            unfold TV.tb
            simp only []
            rw [hLi]
/-- What the document's Decode returns, in memory of the call's own. -/
theorem refDecodeO_any (l : List Nat) (n : Nat) (A : Option Addr) (c : Nat) (w : World) (hR : RB w w.heap.size A n l) (hc : n ≤ c) (hn : n ≤ 10000) :
    Calls Tryd.prog 11 #[.slice A n c] w (OutDo l w) := by
  have hl := hR.1
  by_cases h11 : n < 11
  · exact (refDecode_short l n A c w hR.1 h11).mono (fun e w' h => h.o (by rw [errT_seal (by rw [sealE_short (by omega)]; decide), sealE_short (by omega)]; decide))
  by_cases h4 : l.take 4 = markB
  · by_cases h5 : numL (l.drop (l.length - 4)) = sumL (l.take (l.length - 4))
    · by_cases h6 : cntB (l[4]?.getD 0) (l[5]?.getD 0) (l[6]?.getD 0) = true ∧ lenT (l[4]?.getD 0) (l[5]?.getD 0) (l[6]?.getD 0) = l.length
      · exact refDecode_rest l n A c w hR hc hn h11 h4 h5 h6.1 h6.2
      · exact (refDecode_count l n A c w hR hc hn h11 h4 h5 h6).mono (fun e w' h => h.o (by rw [errT_count (sealE_ok (by omega) h4 h5) h6]; decide))
    · exact (refDecode_sum l n A c w hR hc hn h11 h4 h5).mono (fun e w' h => h.o (by rw [errT_seal (by rw [sealE_sum (by omega) h4 h5]; decide), sealE_sum (by omega) h4 h5]; decide))
  · exact (refDecode_mark l n A c w hR hc hn h11 h4).mono (fun e w' h => h.o (by rw [errT_seal (by rw [sealE_mark (by omega) h4]; decide), sealE_mark (by omega) h4]; decide))
/-- What the document's Decode returns. -/
theorem refDecode_any (l : List Nat) (n : Nat) (A : Option Addr) (c : Nat) (w : World) (hR : RB w w.heap.size A n l) (hc : n ≤ c) (hn : n ≤ 10000) :
    Calls Tryd.prog 11 #[.slice A n c] w (OutDc l w) :=
  (refDecodeO_any l n A c w hR hc hn).mono (fun e w' ⟨V, h1, h2, h3, h4, _⟩ => ⟨V, h1, h2, h3, h4⟩)
end Go.Proofs.YtnilejdokgagbaaDoor
