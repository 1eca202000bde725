/- What rowsOf returns. -/
import Derived.Test.YtbnconieedgcmaaDoorEnc
import Derived.Deep.AppendLies
import Derived.Laws.MakeOwn
namespace Go.Proofs.YtbnconieedgcmaaDoor
open Go.RowKit Go.BigFrame
set_option linter.unusedVariables false
set_option maxRecDepth 4000
set_option linter.unusedSimpArgs false

/-- A new row of rows. -/
def OutRN (L : List (List Int)) (n : Nat) (w : World) (e : Ending) (w' : World) : Prop := ∃ (A : Option Addr) (c : Nat) (H : List Hi), e = .returned (.slice A n c) ∧ listsOf H = L ∧ OwnI w' w.heap.size A n c H ∧ Below w.heap.size w w'
theorem lit1 {w : World} {b : Nat} {u : Value} (h0 : w.cell? ⟨b, 0, none⟩ = some u) : ∀ j y, [u][j]? = some y → w.cell? ((⟨b, 0, none⟩ : Addr).add j) = some y := by
  intro j y hj
  match j, hj with
  | 0, hj => simp at hj; subst hj; simpa [Addr.add] using h0
theorem icells_set (l : List Int) (k : Nat) (y : Int) : (icells l).set k (.int .i64 y) = icells (l.set k y) := by
  unfold icells; rw [List.map_set]
theorem icells_rep (m : Nat) : (madeCells #[Value.int .i64 0] m).toList = icells (List.replicate m 0) := by rw [toList_madeCells_one]; simp [icells]
/-- The first q are laid. -/
def RInv (ch : List Nat) (q c : Nat) (xs : List Int) : Prop := xs.length = c ∧ ∀ j, j < q → xs[j]? = some ((ch[j]?.getD 0 : Nat) : Int)
theorem rinv_set {ch : List Nat} {q c : Nat} {xs : List Int} (h : RInv ch q c xs) (hq : q < c) : RInv ch (q + 1) c (xs.set q ((ch[q]?.getD 0 : Nat) : Int)) := by
  refine ⟨by rw [List.length_set]; exact h.1, fun j hj => ?_⟩
  rw [List.getElem?_set]
  by_cases e : q = j
  · subst e; rw [if_pos rfl, if_pos (by rw [h.1]; exact hq)]
  · rw [if_neg e]; exact h.2 j (by omega)
theorem rinv_all {ch : List Nat} {c : Nat} {xs : List Int} (h : RInv ch c c xs) (hl : ch.length = c) : xs = ch.map Int.ofNat := by
  apply List.ext_getElem?
  intro j
  by_cases hj : j < c
  · rw [h.2 j hj, List.getElem?_map, List.getElem?_eq_getElem (by omega)]; rfl
  · rw [List.getElem?_eq_none (by rw [h.1]; omega), List.getElem?_eq_none (by rw [List.length_map]; omega)]
theorem chunk_get (l : List Nat) (c j q : Nat) (hq : q < c) : (chunk c l j)[q]?.getD 0 = l[c * j + q]?.getD 0 := by
  unfold chunk
  rw [List.getElem?_take_of_lt hq, List.getElem?_drop]
set_option maxRecDepth 4000 in
set_option maxHeartbeats 2000000 in
theorem rowsOf_any (l : List Nat) (n c s : Nat) (A : Option Addr) (cc : Nat) (w : World) (hR : RB w w.heap.size A n l) (hn : n = c * s) (hc : 1 ≤ c) (hc2 : c ≤ 8) (hs : s ≤ 1000) (hnb : n ≤ 10000) :
    Calls Tryd.prog 58 #[.slice A n cc, .int .i64 c] w (OutRN ((List.range s).map fun i => (chunk c l i).map Int.ofNat) s w) := by
  obtain ⟨i0, hi0, hz0, hz1, hz2⟩ := info_parts info3
  obtain ⟨j0, hj0, hy0, hy1, hy2⟩ := info_parts info53
  have HR := Lib.hid hR
  have HN := Lib.hid hn
  clear hR hn
  go_enter Tryd.func58, Tryd.ntmps58
  go_wp2_with fail
  go_loopw [5, 6] (fun vo vi wr => ∃ (j a : Nat) (A2 : Option Addr) (c2 : Nat) (H : List Hi), j ≤ s ∧ Hid (a = c * j) ∧ a ≤ n ∧ vi = .int .i64 a ∧ vo = .slice A2 j c2 ∧ Hid (listsOf H = (List.range j).map fun i => (chunk c l i).map Int.ofNat) ∧ Hid (OwnI wr w.heap.size A2 j c2 H) ∧ Below w.heap.size w wr) (fun _ i _ => n - (intOf i).toNat)
  case atStart => exact ⟨0, 0, none, 0, [], Nat.zero_le _, Lib.hid (by simp), Nat.zero_le _, rfl, rfl, Lib.hid rfl, Lib.hid (OwnI.nil _ _), Below.refl _ _⟩
  case round =>
    obtain ⟨j, a, A2, c2, H, hj, HA, ha, rfl, rfl, HL, HO, hb⟩ := hrel
    have hsz := hb.size
    by_cases hlt : a < n
    · have hjs : j < s := by
        rcases Nat.lt_or_ge j s with h | h
        · exact h
        · exfalso
          have h1 := HA.out
          have h2 := HN.out
          have h3 := Nat.mul_le_mul_left c h
          omega
      have hac : a + c ≤ n := by
        have h1 := HA.out
        have h2 := HN.out
        have h3 := Nat.mul_le_mul_left c hjs
        rw [Nat.mul_succ] at h3
        omega
      rename World => w2
      go_wp2_with (at_make; refine wpList_make_full _ rfl _ _ 49 rfl w2.heap.size 3 i0 _ 1 Tryd.underlying49 hi0 hz0 hz1 .i64 .i64 c c c rfl rfl rfl rfl ?k1 ?k2 (Nat.le_refl _) ?_)
      case k1 => first | omega | (rw [hz2]; omega)
      case k2 => unfold maxLen; omega
      first | (intro w3 hown3 hgrow3) | (rename_i w3 hown3 hgrow3)
      have HW : Hid (w3.ownsRow w2.heap.size 3 1 (.slice (some ⟨w2.heap.size, 0, none⟩) c c) c (icells (List.replicate c 0))) := Lib.hid (by
        rw [← icells_rep]; exact hown3)
      have b3 : Below w2.heap.size w2 w3 := (Below.refl _ _).grown hgrow3 (Nat.le_refl _) (fun k hk => by cases hk)
      clear hown3 hgrow3
      go_wp2_with fail
      go_loopw [20] (fun i wr => ∃ (q : Nat) (xs : List Int), q ≤ c ∧ i = .int .i64 q ∧ Hid (RInv (chunk c l j) q c xs) ∧ Hid (wr.ownsRow w2.heap.size 3 1 (.slice (some ⟨w2.heap.size, 0, none⟩) c c) c (icells xs)) ∧ Below w2.heap.size w2 wr) (fun i _ => c - (intOf i).toNat)
      case atStart => exact ⟨0, _, Nat.zero_le _, rfl, Lib.hid ⟨by simp, fun j hj => by omega⟩, HW, b3⟩
      case round =>
        clear HW b3
        obtain ⟨q, xs, hq, rfl, HI, HX, hbq⟩ := hrel
        have hsq := hbq.size
        by_cases hlt2 : q < c
        · have kl : a + q < l.length := by rw [HR.out.1]; omega
          obtain ⟨b, o, rfl, hbb, p0, px⟩ := (HR.out.on (hb.trans (hbq.mono hsz))).at kl
          have HI' := Lib.hid (rinv_set HI.out hlt2)
          have HCg : Hid ((chunk c l j)[q]?.getD 0 = l[a + q]) := Lib.hid (by rw [chunk_get l c j q hlt2, ← HA.out, getD_at l _ kl])
          rw [HCg.out] at HI'
          have ql : q < xs.length := by rw [HI.out.1]; exact hlt2
          have q0 : wr.cell? ⟨w2.heap.size, q, none⟩ = some (.int .i64 xs[q]) := (HX.out.cellAt q (by omega)).trans (by unfold icells; rw [List.getElem?_map, List.getElem?_eq_getElem ql]; rfl)
          have f0 := HX.out.frozenAt q
          have HSt : Hid ((wr.setCell ⟨w2.heap.size, q, none⟩ (.int .i64 ((l[a + q] : Nat) : Int))).ownsRow w2.heap.size 3 1 (.slice (some ⟨w2.heap.size, 0, none⟩) c c) c (icells (xs.set q ((l[a + q] : Nat) : Int)))) := Lib.hid (by
            have h := (HX.out.stored q (.int .i64 ((l[a + q] : Nat) : Int))).1
            rwa [icells_set] at h)
          have b9 : Below w2.heap.size w2 (wr.setCell ⟨w2.heap.size, q, none⟩ (.int .i64 ((l[a + q] : Nat) : Int))) := hbq.setCell (p := ⟨w2.heap.size, q, none⟩) (Nat.le_refl _) _
          generalize l[a + q] = x at *
          generalize xs[q] = y at *
          have haq : (a : Int) + (q : Int) < (n : Int) := by omega
          clear HI HX hbq ql HCg
          go_wp2_with fail
          go_roundw
          case rel => exact ⟨q + 1, _, by omega, by go_num, HI', HSt, b9⟩
          case measure => simp [intOf]; omega
        · have hb5 := hb.trans (hbq.mono hsz)
          have hs5 := hb5.size
          have HCl : Hid ((chunk c l j).length = c) := Lib.hid (chunk_len c l j s (by rw [HR.out.1]; exact HN.out) hjs)
          have HXs : Hid (xs = (chunk c l j).map Int.ofNat) := Lib.hid (rinv_all (by have h := HI.out; rwa [show q = c by omega] at h) HCl.out)
          have HO5 := Lib.hid (HO.out.on hbq)
          have hownO := HO5.out.out
          have HXX : Hid ((⟨some ⟨w2.heap.size, 0, none⟩, c, c, xs⟩ : Hi).l.length = (⟨some ⟨w2.heap.size, 0, none⟩, c, c, xs⟩ : Hi).n ∧ wr.ownsRow w.heap.size 3 1 (⟨some ⟨w2.heap.size, 0, none⟩, c, c, xs⟩ : Hi).v (⟨some ⟨w2.heap.size, 0, none⟩, c, c, xs⟩ : Hi).n (icells (⟨some ⟨w2.heap.size, 0, none⟩, c, c, xs⟩ : Hi).l)) := Lib.hid ⟨HI.out.1, own_base HX.out hsz⟩
          have HL5 : Hid (listsOf (H ++ [(⟨some ⟨w2.heap.size, 0, none⟩, c, c, xs⟩ : Hi)]) = (List.range (j + 1)).map fun i => (chunk c l i).map Int.ofNat) := Lib.hid (by
            have e : listsOf (H ++ [(⟨some ⟨w2.heap.size, 0, none⟩, c, c, xs⟩ : Hi)]) = listsOf H ++ [xs] := by simp [listsOf]
            rw [e, HL.out, HXs.out, List.range_succ, List.map_append]
            rfl)
          clear HI HX HXs HCl HO HL
          go_wp2_with (at_builtin; refine wpList_append_lies _ rfl _ _ 23 rfl w.heap.size 49 j0 _ 1 24 Tryd.underlying23 hj0 hy0 hy1 hy2 rfl (by decide) _ _ _ rfl (hownO.alloc _) ⟨wr.heap.size, 0, none⟩ 1 1 [.slice (some ⟨w2.heap.size, 0, none⟩) c c] rfl rfl ?k1 ?k2 (by omega) ?k3 ?k4 ?k5 _ rfl ?_)
          try (case k1 => exact lit1 (by simp))
          case k2 => first | rfl | (intro u hu; simp at hu; subst hu; rfl)
          case k3 => unfold maxLen; omega
          case k4 => omega
          case k5 => first | omega | (simp; omega)
          intro g5 cap5 w5 hown5 hgrow5 hat5 hlt5
          have HO9 : Hid (OwnI w5 w.heap.size (some ⟨g5, 0, none⟩) (j + 1) cap5 (H ++ [(⟨some ⟨w2.heap.size, 0, none⟩, c, c, xs⟩ : Hi)])) := Lib.hid ((HO5.out.on (below_new wr (.cells #[.slice (some ⟨w2.heap.size, 0, none⟩) c c] 49))).snoc ⟨HXX.out.1, HXX.out.2.alloc _⟩ hown5 hgrow5)
          have b9 : Below w.heap.size w w5 := below_grown (hb5.alloc hs5 _) (by simp; omega) (hownO.alloc _) hgrow5
          clear hown5 hgrow5 hat5 hownO HXX HO5
          go_wp2_with fail
          go_roundw
          case rel => exact ⟨j + 1, a + c, some ⟨g5, 0, none⟩, cap5, _, by omega, Lib.hid (by have := HA.out; rw [Nat.mul_succ]; omega), by omega, by go_num, rfl, HL5, HO9, b9⟩
          case measure => simp [intOf]; omega
    · obtain rfl : j = s := by
        have h1 := HA.out
        have h2 := HN.out
        rcases Nat.lt_or_ge j s with h | h
        · have h3 := Nat.mul_le_mul_left c h
          rw [Nat.mul_succ] at h3
          omega
        · omega
      go_wp2_with fail
      go_ret
      exact ⟨A2, c2, H, rfl, HL.out, HO.out, hb⟩
end Go.Proofs.YtbnconieedgcmaaDoor
