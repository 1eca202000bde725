/- Flips, SortLay, Sort, MapKit, SwMath, Swept, Changes, PMath, SMath, CMath, Own2: joined. -/
import Derived.Test.YthaageiflimnnaaGrpB
import Derived.Laws.ShiftsVar
import Derived.Shelf.SlSortCmp.NoneTotal
import Derived.Test.YthaageiflimnnaaProg
import Derived.DeepKeys4
import Derived.Maps.OwnOps
import Derived.Maps.OwnSet
import Derived.BigRegion
import Derived.Laws.Bits64
import Derived.Maps.RangeWalk
import Derived.Test.YthaageiflimnnaaGrpC
/- What flipsOfSets returns: where each set begins and ceases to have scalars. -/
namespace Go.Proofs.Ythaageiflimnnaa
open Go.RowKit Go.BigFrame
set_option linter.unusedVariables false
set_option linter.unusedSimpArgs false

abbrev Fl := Int × Int × Int
def fcell (p : Fl) : List Value := [.int .i64 p.1, .int .i64 p.2.1, .int .u64 p.2.2]
def fcells (l : List Fl) : List Value := l.flatMap fcell
theorem fcells_snoc (l : List Fl) (p : Fl) : fcells (l ++ [p]) = fcells l ++ fcell p := by simp [fcells]
/-- The flips of a range of the i-th set. -/
def fl1 (i : Nat) (r : Rg) : List Fl := if nextB r.2 then [(r.1, (i / 64 : Nat), 2 ^ (i % 64)), (nextN r.2, (i / 64 : Nat), 2 ^ (i % 64))] else [(r.1, (i / 64 : Nat), 2 ^ (i % 64))]
def flS (i : Nat) (s : List Rg) : List Fl := s.flatMap (fl1 i)
def flUp (L : List (List Rg)) : Nat → List Fl
  | 0 => []
  | k + 1 => flUp L k ++ flS k (L.getD k [])
theorem flS_take (i : Nat) (s : List Rg) (k : Nat) (hk : k < s.length) : flS i (s.take (k + 1)) = flS i (s.take k) ++ fl1 i s[k] := by
  unfold flS
  rw [List.take_succ_eq_append_getElem hk, List.flatMap_append]
  simp
theorem info89 : (Try.prog.info? 89).map (fun i => (i.zero, i.size, i.bytes)) = some (some (.agg #[.int .i64 0, .int .i64 0, .int .u64 0]), 3, 24) := by kernel_rfl

theorem u64_pow (n : Nat) (h : n < 64) : IntKind.u64.wrap ((2 : Int) ^ n) = 2 ^ n := by
  have h1 : (2 : Int) ^ n = ((2 ^ n : Nat) : Int) := by rw [Int.natCast_pow]; rfl
  have h2 : 2 ^ n < 2 ^ 64 := Nat.pow_lt_pow_right (by omega) h
  rw [h1]
  generalize 2 ^ n = m at h2 ⊢
  exact IntWalk.u64_in _ (by omega)

theorem lit3 {w : World} {b : Nat} {u v x : Value} (h0 : w.cell? ⟨b, 0, none⟩ = some u) (h1 : w.cell? ⟨b, 1, none⟩ = some v) (h2 : w.cell? ⟨b, 2, none⟩ = some x) : ∀ j y, [u, v, x][j]? = some y → w.cell? ((⟨b, 0, none⟩ : Addr).add j) = some y := by
  intro j y hj
  match j, hj with
  | 0, hj => simp at hj; subst hj; simpa [Addr.add] using h0
  | 1, hj => simp at hj; subst hj; simpa [Addr.add] using h1
  | 2, hj => simp at hj; subst hj; simpa [Addr.add] using h2

/-- Ahead of each round. -/
def FlRel (L : List (List Rg)) (n : Nat) (w : World) (vo vi : Value) (wr : World) : Prop :=
  ∃ (k z : Nat) (A2 : Option Addr) (c2 : Nat) (acc : List Fl), k ≤ n ∧ vi = .int .i64 k ∧ vo = .slice A2 z c2 ∧ Hid (acc.length = z) ∧ z ≤ 2000 * k ∧ Hid (acc = flUp L k) ∧ wr.ownsRow w.heap.size 89 3 (.slice A2 z c2) z (fcells acc) ∧ Below w.heap.size w wr
def FlRel2 (s : List Rg) (pre : List Fl) (i n z0 : Nat) (w : World) (vo vi : Value) (wr : World) : Prop :=
  ∃ (k z : Nat) (A2 : Option Addr) (c2 : Nat) (acc : List Fl), k ≤ n ∧ vi = .int .i64 k ∧ vo = .slice A2 z c2 ∧ Hid (acc.length = z) ∧ z ≤ z0 + 2 * k ∧ Hid (acc = pre ++ flS i (s.take k)) ∧ wr.ownsRow w.heap.size 89 3 (.slice A2 z c2) z (fcells acc) ∧ Below w.heap.size w wr
/-- A row of flips of the call's own. -/
def OutF (l : List Fl) (w : World) (e : Ending) (w' : World) : Prop :=
  ∃ (A : Option Addr) (c n : Nat), e = .returned (.slice A n c) ∧ l.length = n ∧ w'.ownsRow w.heap.size 89 3 (.slice A n c) n (fcells l) ∧ Below w.heap.size w w'

set_option maxRecDepth 4000 in
set_option maxHeartbeats 2000000 in
theorem flips_n (H : List Hd) (n : Nat) (A : Option Addr) (c : Nat) (w : World) (hN : Nest w w.heap.size A n H) (hn : n ≤ 256) (hm : ∀ h ∈ H, h.n ≤ 1000) :
    Calls Try.prog 48 #[.slice A n c] w (OutF (flUp (setsOf H) n) w) := by
  obtain ⟨i0, hi0, hz0, hz1, hz2⟩ := info_parts info89
  have HN := Lib.hid hN
  have HM := Lib.hid hm
  clear hN hm
  go_enter Try.func48, Try.ntmps48
  go_wp2_with fail
  go_loopw [3, 14] (fun vo vi wr => FlRel (setsOf H) n w vo vi wr) (fun _ i _ => n - (intOf i).toNat)
  case atStart => exact ⟨0, 0, none, 0, [], Nat.zero_le _, rfl, rfl, Lib.hid rfl, by omega, Lib.hid rfl, World.ownsRow_nil _ _ _ _, Below.refl _ _⟩
  case round =>
    obtain ⟨k, z, A2, c2, acc, hk, rfl, rfl, HLz, hz, HE, hown, hb⟩ := hrel
    have hsz := hb.size
    by_cases hlt : k < n
    · have kl : k < H.length := by rw [HN.out.1]; exact hlt
      obtain ⟨b, o, rfl, hbb, p0, q1, q2, _⟩ := (HN.out.below hb).at kl
      have q3 := (HN.out.2.2 _ (List.getElem_mem kl)).2.2
      have hm1 := HM.out _ (List.getElem_mem kl)
      have HG : Hid ((setsOf H).getD k [] = H[k].s) := Lib.hid (by unfold setsOf; rw [List.getD_eq_getElem?_getD, List.getElem?_map, List.getElem?_eq_getElem kl]; rfl)
      generalize H[k] = x at *
      obtain ⟨xa, xn, xc, xs⟩ := x
      simp only [] at p0 hm1 q1 q3 HG
      have HSt : Hid (flUp (setsOf H) (k + 1) = flUp (setsOf H) k ++ flS k xs) := Lib.hid (by
        show flUp (setsOf H) k ++ flS k ((setsOf H).getD k []) = _
        rw [HG.out])
      have Q3 := Lib.hid q3
      have Q1 := Lib.hid q1
      have fw : IntKind.u64.wrap (2 ^ (k % 64)) = 2 ^ (k % 64) := u64_pow _ (by omega)
      clear q1 q2 q3 HG
      go_wp2_with fail
      go_quiet (fail)
      rw [fw]
      have hown1 := own_below hown (below_drewN (Below.refl _ wr) nq)
      have hb1 : Below w.heap.size w (wr.drewN nq) := below_drewN hb nq
      clear hown hb fw p0
      generalize wr.drewN nq = w0 at *
      clear hsz
      have hk64 : ((k : Int) / 64) = ((k / 64 : Nat) : Int) := by omega
      rw [hk64]
      clear hk64
      obtain ⟨wd, hwd⟩ : ∃ wd : Int, ((k / 64 : Nat) : Int) = wd := ⟨_, rfl⟩
      obtain ⟨mk, hmk⟩ : ∃ mk : Int, (2 : Int) ^ (k % 64) = mk := ⟨_, rfl⟩
      have HF1 : Hid (∀ r : Rg, fl1 k r = if nextB r.2 then [(r.1, wd, mk), (nextN r.2, wd, mk)] else [(r.1, wd, mk)]) := Lib.hid (fun r => by unfold fl1; rw [hwd, hmk])
      rw [hwd, hmk]
      clear hwd hmk
      go_wp2_with fail
      go_loopw [3, 26] (fun vo vi wr => FlRel2 xs acc k xn z w vo vi wr) (fun _ i _ => xn - (intOf i).toNat)
      case atStart => exact ⟨0, z, A2, c2, acc, Nat.zero_le _, rfl, rfl, HLz, by omega, Lib.hid (by simp [flS]), hown1, hb1⟩
      case round =>
        obtain ⟨j, y, A3, c3, acc3, hj, rfl, rfl, HLy, hy, HE3, hown3, hb3⟩ := hrel
        have hsz := hb3.size
        clear hown1
        by_cases hjl : j < xn
        · have jl : j < xs.length := by rw [Q1.out]; exact hjl
          obtain ⟨b2, o2, rfl, hbb2, r0, r1⟩ := (Q3.out.below hb3).rg jl
          have HT : Hid (flS k (xs.take (j + 1)) = flS k (xs.take j) ++ (if nextB xs[j].2 then [(xs[j].1, wd, mk), (nextN xs[j].2, wd, mk)] else [(xs[j].1, wd, mk)])) := Lib.hid (by rw [flS_take k xs j jl, HF1.out])
          generalize xs[j] = x at *
          obtain ⟨x0, x1⟩ := x
          simp only [] at r0 r1 HT
          have hnx := fun W => next_any x1 W
          have c1 : (wr.alloc (.cells #[.int .i64 x0, .int .i64 x1] 50)).cell? ⟨wr.heap.size, 1, none⟩ = some (.int .i64 x1) := by simp
          have hb2 : Below w.heap.size w (wr.alloc (.cells #[.int .i64 x0, .int .i64 x1] 50)) := hb3.alloc hsz _
          have hown4 := hown3.alloc (.cells #[.int .i64 x0, .int .i64 x1] 50)
          go_wp2_with (at_builtin; refine wpList_append_lies _ rfl _ _ 84 rfl w.heap.size 89 i0 _ 3 24 Try.underlying84 hi0 hz0 hz1 hz2 rfl (by decide) _ _ _ rfl (hown4.alloc _) ⟨wr.heap.size + 1, 0, none⟩ 1 1 [.int .i64 x0, .int .i64 wd, .int .u64 mk] rfl rfl ?k1 ?k2 (by omega) ?k3 ?k4 ?k5 _ rfl ?_)
          case k1 => exact lit3 (by simp) (by simp) (by simp)
          case k2 => intro u hu; simp at hu; rcases hu with rfl | rfl | rfl <;> rfl
          case k3 => unfold maxLen; omega
          case k4 => omega
          case k5 => simp; omega
          · intro g cap w5 hown5 hgrow hat hlt5
            have b5 : Below w.heap.size w w5 := below_grown (hb2.alloc (by simp; omega) _) (by simp; omega) (hown4.alloc _) hgrow
            have d1 : w5.cell? ⟨wr.heap.size, 1, none⟩ = some (.int .i64 x1) := hgrow.cell (cell_alloc _ c1) (fun e => by have := (hown3.lt _ e.symm).2; simp at this)
            have HO5 : Hid (w5.ownsRow w.heap.size 89 3 (.slice (some ⟨g, 0, none⟩) (y + 1) cap) (y + 1) (fcells (acc3 ++ [(x0, wd, mk)]))) := Lib.hid (by rw [fcells_snoc]; exact hown5)
            have HL5 : Hid ((acc3 ++ [(x0, wd, mk)]).length = y + 1) := Lib.hid (by rw [List.length_append, HLy.out]; rfl)
            have HT5 : Hid (nextB x1 = true → acc3 ++ [(x0, wd, mk)] ++ [(nextN x1, wd, mk)] = acc ++ flS k (xs.take (j + 1))) := Lib.hid (fun h => by rw [HT.out, if_pos h, HE3.out]; simp)
            have HF5 : Hid (nextB x1 = false → acc3 ++ [(x0, wd, mk)] = acc ++ flS k (xs.take (j + 1))) := Lib.hid (fun h => by rw [HT.out, if_neg (by rw [h]; decide), HE3.out]; simp)
            generalize acc3 ++ [(x0, wd, mk)] = acc5 at *
            have hs5 := b5.size
            clear hown5 hgrow hat hown4 hown3 HT HE3 c1 r0 r1 hb2 hb3 HLy
            go_wp2_with fail
            refine (hnx _).mono ?_
            rintro e w6 ⟨rfl, rfl⟩
            have hown6 := HO5.out
            cases hnb : nextB x1
            · have HE5 := Lib.hid (HF5.out hnb)
              rw [hnb] at hnx
              clear HF5 HT5 hnx
              go_wp2_with fail
              go_roundw
              case rel => exact ⟨j + 1, y + 1, some ⟨g, 0, none⟩, cap, acc5, by omega, by go_num, rfl, HL5, by omega, HE5, hown6, b5⟩
              case measure => simp [intOf]; omega
            · have HE5 := Lib.hid (HT5.out hnb)
              generalize nextN x1 = nn at *
              clear HF5 HT5 hnx HO5
              go_wp2_with (at_builtin; refine wpList_append_lies _ rfl _ _ 84 rfl w.heap.size 89 i0 _ 3 24 Try.underlying84 hi0 hz0 hz1 hz2 rfl (by decide) _ _ _ rfl (hown6.alloc _) ⟨w5.heap.size, 0, none⟩ 1 1 [.int .i64 nn, .int .i64 wd, .int .u64 mk] rfl rfl ?k1 ?k2 (by omega) ?k3 ?k4 ?k5 _ rfl ?_)
              case k1 => exact lit3 (by simp) (by simp) (by simp)
              case k2 => intro u hu; simp at hu; rcases hu with rfl | rfl | rfl <;> rfl
              case k3 => unfold maxLen; omega
              case k4 => omega
              case k5 => simp; omega
              · intro g7 cap7 w7 hown7 hgrow7 hat7 hlt7
                have b7 : Below w.heap.size w w7 := below_grown (b5.alloc (by omega) _) (by simp; omega) (hown6.alloc _) hgrow7
                have HO7 : Hid (w7.ownsRow w.heap.size 89 3 (.slice (some ⟨g7, 0, none⟩) (y + 1 + 1) cap7) (y + 1 + 1) (fcells (acc5 ++ [(nn, wd, mk)]))) := Lib.hid (by rw [fcells_snoc]; exact hown7)
                have HL7 : Hid ((acc5 ++ [(nn, wd, mk)]).length = y + 1 + 1) := Lib.hid (by rw [List.length_append, HL5.out]; rfl)
                clear hown7 hgrow7 hat7 hown6 hnb
                go_wp2_with fail
                go_roundw
                case rel => exact ⟨j + 1, y + 1 + 1, some ⟨g7, 0, none⟩, cap7, acc5 ++ [(nn, wd, mk)], by omega, by go_num, rfl, HL7, by omega, HE5, HO7.out, b7⟩
                case measure => simp [intOf]; omega
        · have HD : Hid (acc3 = flUp (setsOf H) (k + 1)) := Lib.hid (by
            have h := HE3.out
            rw [List.take_of_length_le (by rw [Q1.out]; omega)] at h
            rw [HSt.out, ← HE.out]
            exact h)
          clear HE3 HE HSt
          go_wp2_with fail
          go_roundw
          case rel => exact ⟨k + 1, y, A3, c3, acc3, by omega, by go_num, rfl, HLy, by omega, HD, hown3, hb3⟩
          case measure => simp [intOf]; omega
    · have e : k = n := by omega
      subst e
      go_wp2_with fail
      go_ret
      exact ⟨A2, c2, z, rfl, by rw [← HE.out]; exact HLz.out, by rw [← HE.out]; exact hown, hb⟩
end Go.Proofs.Ythaageiflimnnaa
/- The library's slices.SortFunc as this program holds it, at flips and at placed ranges: its bodies, one by one, are those that the library's contract was proved of. -/
namespace Go.Proofs.Ythaageiflimnnaa
open Go.Shelf
def sortF_ren : Go.Shelf.Ren := ⟨fun | 6 => 65 | 15 => 54 | 14 => 79 | 28 => 76 | 29 => 77 | 20 => 85 | 21 => 86 | 22 => 87 | 23 => 88 | 24 => 89 | 25 => 90 | 26 => 91 | 27 => 92 | 46 => 94 | 47 => 81 | 48 => 82 | 49 => 95 | 50 => 96 | 57 => 97 | n => n, fun | 22 => 84 | 24 => 89 | 25 => 104 | 3 => 3 | 39 => 94 | 0 => 0 | 53 => 118 | 55 => 87 | 4 => 4 | 46 => 112 | 45 => 111 | 50 => 33 | 5 => 5 | 9 => 9 | 66 => 121 | 70 => 125 | 76 => 132 | 77 => 133 | n => n, fun | n => n⟩
theorem sortF : Go.Proofs.SlLaysF0.n6 Try.prog sortF_ren := {
  mixed := by kernel_rfl
  f6 := ⟨Try.f65.name, by decide, Try.func65.trans (congrArg some (by kernel_rfl))⟩
  f14 := ⟨Try.f79.name, by decide, Try.func79.trans (congrArg some (by kernel_rfl))⟩
  f15 := Try.func54.trans (congrArg some (by kernel_rfl))
  f20 := ⟨Try.f85.name, by decide, Try.func85.trans (congrArg some (by kernel_rfl))⟩
  f21 := ⟨Try.f86.name, by decide, Try.func86.trans (congrArg some (by kernel_rfl))⟩
  f22 := ⟨Try.f87.name, by decide, Try.func87.trans (congrArg some (by kernel_rfl))⟩
  f23 := ⟨Try.f88.name, by decide, Try.func88.trans (congrArg some (by kernel_rfl))⟩
  f24 := ⟨Try.f89.name, by decide, Try.func89.trans (congrArg some (by kernel_rfl))⟩
  f25 := ⟨Try.f90.name, by decide, Try.func90.trans (congrArg some (by kernel_rfl))⟩
  f26 := ⟨Try.f91.name, by decide, Try.func91.trans (congrArg some (by kernel_rfl))⟩
  f27 := ⟨Try.f92.name, by decide, Try.func92.trans (congrArg some (by kernel_rfl))⟩
  f28 := Try.func76.trans (congrArg some (by kernel_rfl))
  f29 := Try.func77.trans (congrArg some (by kernel_rfl))
  f46 := ⟨Try.f94.name, by decide, Try.func94.trans (congrArg some (by kernel_rfl))⟩
  f47 := Try.func81.trans (congrArg some (by kernel_rfl))
  f48 := Try.func82.trans (congrArg some (by kernel_rfl))
  f49 := ⟨Try.f95.name, by decide, Try.func95.trans (congrArg some (by kernel_rfl))⟩
  f50 := ⟨Try.f96.name, by decide, Try.func96.trans (congrArg some (by kernel_rfl))⟩
  f57 := ⟨Try.f97.name, by decide, Try.func97.trans (congrArg some (by kernel_rfl))⟩
  t0 := Try.underlying0
  a0 := Try.isAgg0
  z0 := Try.sizeOf0
  v0 := Try.zeroValue0
  t3 := Try.underlying3
  a3 := Try.isAgg3
  z3 := Try.sizeOf3
  v3 := Try.zeroValue3
  t4 := Try.underlying4
  a4 := Try.isAgg4
  z4 := Try.sizeOf4
  v4 := Try.zeroValue4
  t5 := Try.underlying5
  a5 := Try.isAgg5
  z5 := Try.sizeOf5
  v5 := Try.zeroValue5
  t9 := Try.underlying9
  a9 := Try.isAgg9
  z9 := Try.sizeOf9
  v9 := Try.zeroValue9
  t22 := Try.underlying84
  a22 := Try.isAgg84
  z22 := Try.sizeOf84
  v22 := Try.zeroValue84
  t25 := Try.underlying104
  a25 := Try.isAgg104
  z25 := Try.sizeOf104
  v25 := Try.zeroValue104
  t39 := Try.underlying94
  a39 := Try.isAgg94
  z39 := Try.sizeOf94
  v39 := Try.zeroValue94
  t45 := Try.underlying111
  a45 := Try.isAgg111
  z45 := Try.sizeOf111
  v45 := Try.zeroValue111
  t46 := Try.underlying112
  a46 := Try.isAgg112
  z46 := Try.sizeOf112
  v46 := Try.zeroValue112
  t50 := Try.underlying33
  a50 := Try.isAgg33
  z50 := Try.sizeOf33
  v50 := Try.zeroValue33
  t53 := Try.underlying118
  a53 := Try.isAgg118
  z53 := Try.sizeOf118
  v53 := Try.zeroValue118
  t55 := Try.underlying87
  a55 := Try.isAgg87
  z55 := Try.sizeOf87
  v55 := Try.zeroValue87
  t66 := Try.underlying121
  a66 := Try.isAgg121
  z66 := Try.sizeOf121
  v66 := Try.zeroValue121
  t70 := Try.underlying125
  a70 := Try.isAgg125
  z70 := Try.sizeOf125
  v70 := Try.zeroValue125
  t76 := Try.underlying132
  a76 := Try.isAgg132
  z76 := Try.sizeOf132
  v76 := Try.zeroValue132
  t77 := Try.underlying133
  a77 := Try.isAgg133
  z77 := Try.sizeOf133
  v77 := Try.zeroValue133 }
def sortP_ren : Go.Shelf.Ren := ⟨fun | 6 => 34 | 15 => 54 | 14 => 53 | 28 => 76 | 29 => 77 | 20 => 68 | 21 => 69 | 22 => 70 | 23 => 71 | 24 => 72 | 25 => 73 | 26 => 74 | 27 => 75 | 46 => 80 | 47 => 81 | 48 => 82 | 49 => 83 | 50 => 84 | 57 => 93 | n => n, fun | 22 => 65 | 24 => 67 | 25 => 70 | 3 => 3 | 39 => 94 | 0 => 0 | 53 => 118 | 55 => 87 | 4 => 4 | 46 => 112 | 45 => 111 | 50 => 33 | 5 => 5 | 9 => 9 | 66 => 121 | 70 => 125 | 76 => 132 | 77 => 133 | n => n, fun | n => n⟩
theorem sortP : Go.Proofs.SlLaysF0.n6 Try.prog sortP_ren := {
  mixed := by kernel_rfl
  f6 := ⟨Try.f34.name, by decide, Try.func34.trans (congrArg some (by kernel_rfl))⟩
  f14 := ⟨Try.f53.name, by decide, Try.func53.trans (congrArg some (by kernel_rfl))⟩
  f15 := Try.func54.trans (congrArg some (by kernel_rfl))
  f20 := ⟨Try.f68.name, by decide, Try.func68.trans (congrArg some (by kernel_rfl))⟩
  f21 := ⟨Try.f69.name, by decide, Try.func69.trans (congrArg some (by kernel_rfl))⟩
  f22 := ⟨Try.f70.name, by decide, Try.func70.trans (congrArg some (by kernel_rfl))⟩
  f23 := ⟨Try.f71.name, by decide, Try.func71.trans (congrArg some (by kernel_rfl))⟩
  f24 := ⟨Try.f72.name, by decide, Try.func72.trans (congrArg some (by kernel_rfl))⟩
  f25 := ⟨Try.f73.name, by decide, Try.func73.trans (congrArg some (by kernel_rfl))⟩
  f26 := ⟨Try.f74.name, by decide, Try.func74.trans (congrArg some (by kernel_rfl))⟩
  f27 := ⟨Try.f75.name, by decide, Try.func75.trans (congrArg some (by kernel_rfl))⟩
  f28 := Try.func76.trans (congrArg some (by kernel_rfl))
  f29 := Try.func77.trans (congrArg some (by kernel_rfl))
  f46 := ⟨Try.f80.name, by decide, Try.func80.trans (congrArg some (by kernel_rfl))⟩
  f47 := Try.func81.trans (congrArg some (by kernel_rfl))
  f48 := Try.func82.trans (congrArg some (by kernel_rfl))
  f49 := ⟨Try.f83.name, by decide, Try.func83.trans (congrArg some (by kernel_rfl))⟩
  f50 := ⟨Try.f84.name, by decide, Try.func84.trans (congrArg some (by kernel_rfl))⟩
  f57 := ⟨Try.f93.name, by decide, Try.func93.trans (congrArg some (by kernel_rfl))⟩
  t0 := Try.underlying0
  a0 := Try.isAgg0
  z0 := Try.sizeOf0
  v0 := Try.zeroValue0
  t3 := Try.underlying3
  a3 := Try.isAgg3
  z3 := Try.sizeOf3
  v3 := Try.zeroValue3
  t4 := Try.underlying4
  a4 := Try.isAgg4
  z4 := Try.sizeOf4
  v4 := Try.zeroValue4
  t5 := Try.underlying5
  a5 := Try.isAgg5
  z5 := Try.sizeOf5
  v5 := Try.zeroValue5
  t9 := Try.underlying9
  a9 := Try.isAgg9
  z9 := Try.sizeOf9
  v9 := Try.zeroValue9
  t22 := Try.underlying65
  a22 := Try.isAgg65
  z22 := Try.sizeOf65
  v22 := Try.zeroValue65
  t25 := Try.underlying70
  a25 := Try.isAgg70
  z25 := Try.sizeOf70
  v25 := Try.zeroValue70
  t39 := Try.underlying94
  a39 := Try.isAgg94
  z39 := Try.sizeOf94
  v39 := Try.zeroValue94
  t45 := Try.underlying111
  a45 := Try.isAgg111
  z45 := Try.sizeOf111
  v45 := Try.zeroValue111
  t46 := Try.underlying112
  a46 := Try.isAgg112
  z46 := Try.sizeOf112
  v46 := Try.zeroValue112
  t50 := Try.underlying33
  a50 := Try.isAgg33
  z50 := Try.sizeOf33
  v50 := Try.zeroValue33
  t53 := Try.underlying118
  a53 := Try.isAgg118
  z53 := Try.sizeOf118
  v53 := Try.zeroValue118
  t55 := Try.underlying87
  a55 := Try.isAgg87
  z55 := Try.sizeOf87
  v55 := Try.zeroValue87
  t66 := Try.underlying121
  a66 := Try.isAgg121
  z66 := Try.sizeOf121
  v66 := Try.zeroValue121
  t70 := Try.underlying125
  a70 := Try.isAgg125
  z70 := Try.sizeOf125
  v70 := Try.zeroValue125
  t76 := Try.underlying132
  a76 := Try.isAgg132
  z76 := Try.sizeOf132
  v76 := Try.zeroValue132
  t77 := Try.underlying133
  a77 := Try.isAgg133
  z77 := Try.sizeOf133
  v77 := Try.zeroValue133 }
end Go.Proofs.Ythaageiflimnnaa
/- What slices.SortFunc leaves of a row of flips, and of placed ranges: the same ones, in order; nothing else that was there is turned. -/
namespace Go.Proofs.Ythaageiflimnnaa
open Go.RowKit Go.Shelf Go.Lib Go.Sort
set_option linter.unusedVariables false
set_option linter.unusedSimpArgs false

def pcell (p : Fl) : List Value := [.int .i64 p.1, .int .i64 p.2.1, .int .i64 p.2.2]
def pcells (l : List Fl) : List Value := l.flatMap pcell
theorem pcells_snoc (l : List Fl) (p : Fl) : pcells (l ++ [p]) = pcells l ++ pcell p := by simp [pcells]
def cmpF (x y : Fl) : Int := cmpI x.1 y.1
theorem lt_cmpF (x y : Fl) : ltOf cmpF x y = decide (x.1 < y.1) := cmpI_lt _ _
theorem swoF : SWO (ltOf cmpF) where
  irrefl x := by rw [lt_cmpF]; simp
  trans x y z h1 h2 := by rw [lt_cmpF] at *; simp at *; omega
  ntrans x y z h1 h2 := by rw [lt_cmpF] at *; simp at *; omega
def Srt (l : List Fl) : Prop := ∀ i j (hi : i < l.length) (hj : j < l.length), i < j → l[i].1 ≤ l[j].1

theorem fcells_len (l : List Fl) : (fcells l).length = l.length * 3 := by
  induction l with
  | nil => rfl
  | cons p l ih =>
    have e : fcells (p :: l) = fcell p ++ fcells l := by simp [fcells]
    rw [e, List.length_append, ih]
    simp [fcell]
    omega
theorem fcells_at (l : List Fl) : ∀ (k : Nat) (h : k < l.length), (fcells l)[k * 3]? = some (.int .i64 l[k].1) ∧ (fcells l)[k * 3 + 1]? = some (.int .i64 l[k].2.1) ∧ (fcells l)[k * 3 + 2]? = some (.int .u64 l[k].2.2) := by
  induction l with
  | nil => intro k h; simp at h
  | cons p l ih =>
    intro k h
    have e : fcells (p :: l) = .int .i64 p.1 :: .int .i64 p.2.1 :: .int .u64 p.2.2 :: fcells l := by simp [fcells, fcell]
    rw [e]
    match k, h with
    | 0, _ => exact ⟨rfl, rfl, rfl⟩
    | k + 1, h =>
      have := ih k (by simpa using h)
      rw [show (k + 1) * 3 = k * 3 + 1 + 1 + 1 by omega, show k * 3 + 1 + 1 + 1 + 1 = (k * 3 + 1) + 1 + 1 + 1 by omega, show k * 3 + 1 + 1 + 1 + 2 = (k * 3 + 2) + 1 + 1 + 1 by omega]
      simpa using this
theorem fcells_one (l : List Fl) : ∀ u ∈ fcells l, u.oneCell' = true := by
  intro u hu
  simp only [fcells, List.mem_flatMap] at hu
  obtain ⟨p, _, hp⟩ := hu
  simp [fcell] at hp
  rcases hp with rfl | rfl | rfl <;> rfl
theorem Reads.fl {w : World} {B n : Nat} {A : Option Addr} {P : List Fl} (h : Reads w B 3 A n (fcells P)) {k : Nat} (hk : k < P.length) :
    ∃ b o, A = some ⟨b, o, none⟩ ∧ b < B ∧ w.cell? ⟨b, o + k * 3, none⟩ = some (.int .i64 P[k].1) ∧ w.cell? ⟨b, o + k * 3 + 1, none⟩ = some (.int .i64 P[k].2.1) ∧ w.cell? ⟨b, o + k * 3 + 2, none⟩ = some (.int .u64 P[k].2.2) := by
  have h1 := h.1
  rw [fcells_len] at h1
  obtain ⟨b, o, rfl, hb, hc⟩ := h.2 (by omega)
  obtain ⟨h0, h1, h2⟩ := fcells_at P k hk
  exact ⟨b, o, rfl, hb, hc _ _ h0, by rw [Nat.add_assoc]; exact hc _ _ h1, by rw [Nat.add_assoc]; exact hc _ _ h2⟩

theorem compareF_any (x y : Fl) (w : World) :
    Calls Try.prog 66 #[.agg #[.int .i64 x.1, .int .i64 x.2.1, .int .u64 x.2.2], .agg #[.int .i64 y.1, .int .i64 y.2.1, .int .u64 y.2.2]] w fun e w' => e = .returned (.int .i64 (cmpF x y)) ∧ Below w.heap.size w w' ∧ w.drawn ≤ w'.drawn := by
  have hd : cmpF x y = cmpI x.1 y.1 := rfl
  rw [hd]
  clear hd
  obtain ⟨a, b, c⟩ := x
  obtain ⟨a', b', c'⟩ := y
  have hc := fun W => cmpI_any a a' W
  go_enter Try.func66, Try.ntmps66
  go_wp2_with fail
  refine (hc _).mono ?_
  rintro e w9 ⟨rfl, rfl⟩
  go_wp2_with fail
  go_ret
  exact ⟨rfl, (below_new _ _).alloc (by simp) _, Nat.le_refl _⟩
theorem cmpLays66 (blk off size : Nat) (w : World) : CmpLays Try.prog 66 #[] fcell 3 cmpF blk off size w :=
  fun _ _ _ _ x y => lay_of (compareF_any x y _)
theorem flatF_at (l : List Fl) (j : Nat) (hj : j < l.length * 3) : (fcells l)[j]? = some ((fcell l.toArray[j / 3]!)[j % 3]!) := by
  have hk : j / 3 < l.length := by omega
  obtain ⟨h0, h1, h2⟩ := fcells_at l (j / 3) hk
  rw [getElem!_pos l.toArray (j / 3) (by simpa using hk)]
  simp only [List.getElem_toArray]
  have h3 : j % 3 = 0 ∨ j % 3 = 1 ∨ j % 3 = 2 := by omega
  rcases h3 with e | e | e
  · have ej : j = j / 3 * 3 := by omega
    rw [e]
    conv => lhs; rw [ej]
    exact h0
  · have ej : j = j / 3 * 3 + 1 := by omega
    rw [e]
    conv => lhs; rw [ej]
    exact h1
  · have ej : j = j / 3 * 3 + 2 := by omega
    rw [e]
    conv => lhs; rw [ej]
    exact h2
theorem holdsF_own {w : World} {base g n cap : Nat} {l : List Fl} (hl : l.length = n) (h : w.ownsRow base 89 3 (.slice (some ⟨g, 0, none⟩) n cap) n (fcells l)) : HoldsK fcell 3 w g 0 l.toArray := by
  intro j hj
  rw [size_flatK] at hj
  have hj' : j < l.length * 3 := by simpa using hj
  rw [get_flatK _ _ _ _ hj, Nat.zero_add]
  exact ⟨(h.cellAt j (by omega)).trans (flatF_at l j hj'), h.frozenAt j⟩
theorem readsF_holds {w : World} {g : Nat} {l : List Fl} (hg : g < w.heap.size) (h : HoldsK fcell 3 w g 0 l.toArray) : Reads w w.heap.size 3 (some ⟨g, 0, none⟩) l.length (fcells l) := by
  refine ⟨fcells_len l, fun _ => ⟨g, 0, rfl, hg, fun j u hu => ?_⟩⟩
  have hj : j < l.length * 3 := by
    have := (List.getElem?_eq_some_iff.1 hu).1
    rwa [fcells_len] at this
  have hc := (h j (by rw [size_flatK]; simpa using hj)).1
  rw [get_flatK _ _ _ _ (by simpa using hj)] at hc
  rw [hc]
  exact (flatF_at l j hj).symm.trans hu
/-- What the sort leaves. -/
def OutSortF (A : Option Addr) (n base : Nat) (l : List Fl) (w : World) (e : Ending) (w' : World) : Prop :=
  ∃ l' : List Fl, e = .returned (.tuple #[]) ∧ l'.length = n ∧ l'.Perm l ∧ Srt l' ∧ Reads w' w'.heap.size 3 A n (fcells l') ∧ Below base w w'
theorem sortF_any (l : List Fl) (n : Nat) (hl : l.length = n) (A : Option Addr) (c base : Nat) (w : World) (h : w.ownsRow base 89 3 (.slice A n c) n (fcells l)) (hn : n ≤ 1000000) (hbase : base ≤ w.heap.size) :
    Calls Try.prog 65 #[.slice A n c, .func (.func 66) #[] #[]] w (OutSortF A n base l w) := by
  by_cases h0 : n = 0
  · subst h0
    obtain rfl : l = [] := List.eq_nil_of_length_eq_zero hl
    have hcon := AnyF.slices_SortFunc_none (P := Try.prog) (ρ := sortF_ren) { sortF with } A c (.func (.func 66) #[] #[]) w
    refine Calls.mono (show Calls Try.prog 65 _ _ _ from hcon) ?_
    rintro e w' ⟨rfl, rfl⟩
    exact ⟨[], rfl, rfl, List.Perm.refl _, fun i j hi => by simp at hi, ⟨rfl, fun h => absurd h (by omega)⟩, Below.refl _ _⟩
  · obtain ⟨g, cap, hv, hg0, hg⟩ := h.form (by omega)
    injection hv with e1 e2 e3
    subst e1 e3
    have hH := holdsF_own hl h
    have eg : ∀ args w, (callFunc 66 args).run Try.prog w = .ok (.enter 66 args) w := enters_of Try.func66 (by kernel_rfl) rfl
    have hcon := AnyQ.slices_SortFunc (P := Try.prog) (ρ := sortF_ren) sortF 3 Try.isAgg89 Try.sizeOf89 fcell (fun _ => rfl) (fun x v hv => by simp [fcell] at hv; rcases hv with rfl | rfl | rfl <;> rfl) cmpF swoF 66 #[] g 0 c l.toArray w eg (cmpLays66 g 0 _ w) hH hg (by simp; omega)
    have es : l.toArray.size = n := by simp [hl]
    rw [es] at hcon
    have hcon' := (show Calls Try.prog 65 #[.slice (some ⟨g, 0, none⟩) n c, .func (.func 66) #[] #[]] w (fun e w' => e = .returned (.tuple #[]) ∧ ∃ d' m os, PermIn 0 n l.toArray d' ∧ SortedIn (ltOf cmpF) 0 n d' ∧ w' = sortWorldK fcell 3 w g 0 m d' os) from hcon)
    refine hcon'.mono ?_
    rintro e w' ⟨rfl, d', m, os, hp, hs, rfl⟩
    obtain ⟨hsz, _, hperm⟩ := hp
    have hsz' : d'.size = n := by rw [hsz, es]
    have hH' : HoldsK fcell 3 (sortWorldK fcell 3 w g 0 m d' os) g 0 d' := holdsK_sortWorldK_c fcell 3 w g 0 l.toArray d' m os hH hg (by simpa using hsz)
    have hlt := lt_sortWorldK fcell 3 w g 0 m d' os hg
    refine ⟨d'.toList, rfl, by simpa using hsz', ?_, ?_, ?_, ?_⟩
    · have e1 : (d'.extract 0 n).toList = d'.toList := by rw [← hsz']; simp
      have e2 : (l.toArray.extract 0 n).toList = l := by rw [← hl]; simp
      rw [e1, e2] at hperm
      exact hperm
    · intro i j hi hj hij
      have h1 := hs i j (Nat.zero_le _) hij (by rw [← hsz']; simpa using hj)
      rw [lt_cmpF, getElem!_pos d' j (by simpa using hj), getElem!_pos d' i (by simpa using hi)] at h1
      simp at h1
      have e1 : d'.toList[i] = d'[i]'(by simpa using hi) := by simp
      have e2 : d'.toList[j] = d'[j]'(by simpa using hj) := by simp
      rw [e1, e2]
      exact h1
    · have h2 : HoldsK fcell 3 (sortWorldK fcell 3 w g 0 m d' os) g 0 d'.toList.toArray := by simpa using hH'
      have h3 := readsF_holds hlt h2
      rw [show d'.toList.length = n by simpa using hsz'] at h3
      exact h3
    · refine ⟨rfl, rfl, rfl, size_sortWorldK_c fcell 3 w g 0 m d' os, fun k hk => ?_⟩
      unfold sortWorldK putRowK putRow mapBlock grow
      show ((w.heap.modify g _) ++ os)[k]? = _
      rw [Array.getElem?_append_left (by simp; omega), Array.getElem?_modify, if_neg (by omega)]

theorem pcells_len (l : List Fl) : (pcells l).length = l.length * 3 := by
  induction l with
  | nil => rfl
  | cons p l ih =>
    have e : pcells (p :: l) = pcell p ++ pcells l := by simp [pcells]
    rw [e, List.length_append, ih]
    simp [pcell]
    omega
theorem pcells_at (l : List Fl) : ∀ (k : Nat) (h : k < l.length), (pcells l)[k * 3]? = some (.int .i64 l[k].1) ∧ (pcells l)[k * 3 + 1]? = some (.int .i64 l[k].2.1) ∧ (pcells l)[k * 3 + 2]? = some (.int .i64 l[k].2.2) := by
  induction l with
  | nil => intro k h; simp at h
  | cons p l ih =>
    intro k h
    have e : pcells (p :: l) = .int .i64 p.1 :: .int .i64 p.2.1 :: .int .i64 p.2.2 :: pcells l := by simp [pcells, pcell]
    rw [e]
    match k, h with
    | 0, _ => exact ⟨rfl, rfl, rfl⟩
    | k + 1, h =>
      have := ih k (by simpa using h)
      rw [show (k + 1) * 3 = k * 3 + 1 + 1 + 1 by omega, show k * 3 + 1 + 1 + 1 + 1 = (k * 3 + 1) + 1 + 1 + 1 by omega, show k * 3 + 1 + 1 + 1 + 2 = (k * 3 + 2) + 1 + 1 + 1 by omega]
      simpa using this
theorem pcells_one (l : List Fl) : ∀ u ∈ pcells l, u.oneCell' = true := by
  intro u hu
  simp only [pcells, List.mem_flatMap] at hu
  obtain ⟨p, _, hp⟩ := hu
  simp [pcell] at hp
  rcases hp with rfl | rfl | rfl <;> rfl
theorem Reads.pl {w : World} {B n : Nat} {A : Option Addr} {P : List Fl} (h : Reads w B 3 A n (pcells P)) {k : Nat} (hk : k < P.length) :
    ∃ b o, A = some ⟨b, o, none⟩ ∧ b < B ∧ w.cell? ⟨b, o + k * 3, none⟩ = some (.int .i64 P[k].1) ∧ w.cell? ⟨b, o + k * 3 + 1, none⟩ = some (.int .i64 P[k].2.1) ∧ w.cell? ⟨b, o + k * 3 + 2, none⟩ = some (.int .i64 P[k].2.2) := by
  have h1 := h.1
  rw [pcells_len] at h1
  obtain ⟨b, o, rfl, hb, hc⟩ := h.2 (by omega)
  obtain ⟨h0, h1, h2⟩ := pcells_at P k hk
  exact ⟨b, o, rfl, hb, hc _ _ h0, by rw [Nat.add_assoc]; exact hc _ _ h1, by rw [Nat.add_assoc]; exact hc _ _ h2⟩

theorem compareP_any (x y : Fl) (w : World) :
    Calls Try.prog 35 #[.agg #[.int .i64 x.1, .int .i64 x.2.1, .int .i64 x.2.2], .agg #[.int .i64 y.1, .int .i64 y.2.1, .int .i64 y.2.2]] w fun e w' => e = .returned (.int .i64 (cmpF x y)) ∧ Below w.heap.size w w' ∧ w.drawn ≤ w'.drawn := by
  have hd : cmpF x y = cmpI x.1 y.1 := rfl
  rw [hd]
  clear hd
  obtain ⟨a, b, c⟩ := x
  obtain ⟨a', b', c'⟩ := y
  have hc := fun W => cmpI_any a a' W
  go_enter Try.func35, Try.ntmps35
  go_wp2_with fail
  refine (hc _).mono ?_
  rintro e w9 ⟨rfl, rfl⟩
  go_wp2_with fail
  go_ret
  exact ⟨rfl, (below_new _ _).alloc (by simp) _, Nat.le_refl _⟩
theorem cmpLays35 (blk off size : Nat) (w : World) : CmpLays Try.prog 35 #[] pcell 3 cmpF blk off size w :=
  fun _ _ _ _ x y => lay_of (compareP_any x y _)
theorem flatP_at (l : List Fl) (j : Nat) (hj : j < l.length * 3) : (pcells l)[j]? = some ((pcell l.toArray[j / 3]!)[j % 3]!) := by
  have hk : j / 3 < l.length := by omega
  obtain ⟨h0, h1, h2⟩ := pcells_at l (j / 3) hk
  rw [getElem!_pos l.toArray (j / 3) (by simpa using hk)]
  simp only [List.getElem_toArray]
  have h3 : j % 3 = 0 ∨ j % 3 = 1 ∨ j % 3 = 2 := by omega
  rcases h3 with e | e | e
  · have ej : j = j / 3 * 3 := by omega
    rw [e]
    conv => lhs; rw [ej]
    exact h0
  · have ej : j = j / 3 * 3 + 1 := by omega
    rw [e]
    conv => lhs; rw [ej]
    exact h1
  · have ej : j = j / 3 * 3 + 2 := by omega
    rw [e]
    conv => lhs; rw [ej]
    exact h2
theorem holdsP_own {w : World} {base g n cap : Nat} {l : List Fl} (hl : l.length = n) (h : w.ownsRow base 67 3 (.slice (some ⟨g, 0, none⟩) n cap) n (pcells l)) : HoldsK pcell 3 w g 0 l.toArray := by
  intro j hj
  rw [size_flatK] at hj
  have hj' : j < l.length * 3 := by simpa using hj
  rw [get_flatK _ _ _ _ hj, Nat.zero_add]
  exact ⟨(h.cellAt j (by omega)).trans (flatP_at l j hj'), h.frozenAt j⟩
theorem readsP_holds {w : World} {g : Nat} {l : List Fl} (hg : g < w.heap.size) (h : HoldsK pcell 3 w g 0 l.toArray) : Reads w w.heap.size 3 (some ⟨g, 0, none⟩) l.length (pcells l) := by
  refine ⟨pcells_len l, fun _ => ⟨g, 0, rfl, hg, fun j u hu => ?_⟩⟩
  have hj : j < l.length * 3 := by
    have := (List.getElem?_eq_some_iff.1 hu).1
    rwa [pcells_len] at this
  have hc := (h j (by rw [size_flatK]; simpa using hj)).1
  rw [get_flatK _ _ _ _ (by simpa using hj)] at hc
  rw [hc]
  exact (flatP_at l j hj).symm.trans hu
/-- What the sort leaves. -/
def OutSortP (A : Option Addr) (n base : Nat) (l : List Fl) (w : World) (e : Ending) (w' : World) : Prop :=
  ∃ l' : List Fl, e = .returned (.tuple #[]) ∧ l'.length = n ∧ l'.Perm l ∧ Srt l' ∧ Reads w' w'.heap.size 3 A n (pcells l') ∧ Below base w w'
theorem sortP_any (l : List Fl) (n : Nat) (hl : l.length = n) (A : Option Addr) (c base : Nat) (w : World) (h : w.ownsRow base 67 3 (.slice A n c) n (pcells l)) (hn : n ≤ 1000000) (hbase : base ≤ w.heap.size) :
    Calls Try.prog 34 #[.slice A n c, .func (.func 35) #[] #[]] w (OutSortP A n base l w) := by
  by_cases h0 : n = 0
  · subst h0
    obtain rfl : l = [] := List.eq_nil_of_length_eq_zero hl
    have hcon := AnyF.slices_SortFunc_none (P := Try.prog) (ρ := sortP_ren) { sortP with } A c (.func (.func 35) #[] #[]) w
    refine Calls.mono (show Calls Try.prog 34 _ _ _ from hcon) ?_
    rintro e w' ⟨rfl, rfl⟩
    exact ⟨[], rfl, rfl, List.Perm.refl _, fun i j hi => by simp at hi, ⟨rfl, fun h => absurd h (by omega)⟩, Below.refl _ _⟩
  · obtain ⟨g, cap, hv, hg0, hg⟩ := h.form (by omega)
    injection hv with e1 e2 e3
    subst e1 e3
    have hH := holdsP_own hl h
    have eg : ∀ args w, (callFunc 35 args).run Try.prog w = .ok (.enter 35 args) w := enters_of Try.func35 (by kernel_rfl) rfl
    have hcon := AnyQ.slices_SortFunc (P := Try.prog) (ρ := sortP_ren) sortP 3 Try.isAgg67 Try.sizeOf67 pcell (fun _ => rfl) (fun x v hv => by simp [pcell] at hv; rcases hv with rfl | rfl | rfl <;> rfl) cmpF swoF 35 #[] g 0 c l.toArray w eg (cmpLays35 g 0 _ w) hH hg (by simp; omega)
    have es : l.toArray.size = n := by simp [hl]
    rw [es] at hcon
    have hcon' := (show Calls Try.prog 34 #[.slice (some ⟨g, 0, none⟩) n c, .func (.func 35) #[] #[]] w (fun e w' => e = .returned (.tuple #[]) ∧ ∃ d' m os, PermIn 0 n l.toArray d' ∧ SortedIn (ltOf cmpF) 0 n d' ∧ w' = sortWorldK pcell 3 w g 0 m d' os) from hcon)
    refine hcon'.mono ?_
    rintro e w' ⟨rfl, d', m, os, hp, hs, rfl⟩
    obtain ⟨hsz, _, hperm⟩ := hp
    have hsz' : d'.size = n := by rw [hsz, es]
    have hH' : HoldsK pcell 3 (sortWorldK pcell 3 w g 0 m d' os) g 0 d' := holdsK_sortWorldK_c pcell 3 w g 0 l.toArray d' m os hH hg (by simpa using hsz)
    have hlt := lt_sortWorldK pcell 3 w g 0 m d' os hg
    refine ⟨d'.toList, rfl, by simpa using hsz', ?_, ?_, ?_, ?_⟩
    · have e1 : (d'.extract 0 n).toList = d'.toList := by rw [← hsz']; simp
      have e2 : (l.toArray.extract 0 n).toList = l := by rw [← hl]; simp
      rw [e1, e2] at hperm
      exact hperm
    · intro i j hi hj hij
      have h1 := hs i j (Nat.zero_le _) hij (by rw [← hsz']; simpa using hj)
      rw [lt_cmpF, getElem!_pos d' j (by simpa using hj), getElem!_pos d' i (by simpa using hi)] at h1
      simp at h1
      have e1 : d'.toList[i] = d'[i]'(by simpa using hi) := by simp
      have e2 : d'.toList[j] = d'[j]'(by simpa using hj) := by simp
      rw [e1, e2]
      exact h1
    · have h2 : HoldsK pcell 3 (sortWorldK pcell 3 w g 0 m d' os) g 0 d'.toList.toArray := by simpa using hH'
      have h3 := readsP_holds hlt h2
      rw [show d'.toList.length = n by simpa using hsz'] at h3
      exact h3
    · refine ⟨rfl, rfl, rfl, size_sortWorldK_c pcell 3 w g 0 m d' os, fun k hk => ?_⟩
      unfold sortWorldK putRowK putRow mapBlock grow
      show ((w.heap.modify g _) ++ os)[k]? = _
      rw [Array.getElem?_append_left (by simp; omega), Array.getElem?_modify, if_neg (by omega)]
end Go.Proofs.Ythaageiflimnnaa
/- The map of sweeping: keys of four words, each with the place at which it was met. -/
namespace Go.Proofs.Ythaageiflimnnaa
open Go.RowKit Go.Maps
set_option linter.unusedVariables false

abbrev K4 := Int × Int × Int × Int
def k0 : K4 := (0, 0, 0, 0)
def U64 (x : Int) : Prop := 0 ≤ x ∧ x ≤ 18446744073709551615
def Kwf (k : K4) : Prop := U64 k.1 ∧ U64 k.2.1 ∧ U64 k.2.2.1 ∧ U64 k.2.2.2
def kget (k : K4) : Nat → Int
  | 0 => k.1
  | 1 => k.2.1
  | 2 => k.2.2.1
  | _ => k.2.2.2
def kset (k : K4) (i : Nat) (x : Int) : K4 :=
  match i with
  | 0 => (x, k.2)
  | 1 => (k.1, x, k.2.2)
  | 2 => (k.1, k.2.1, x, k.2.2.2)
  | _ => (k.1, k.2.1, k.2.2.1, x)
def kval (k : K4) : Value := .agg #[.int .u64 k.1, .int .u64 k.2.1, .int .u64 k.2.2.1, .int .u64 k.2.2.2]
def klit (k : K4) : Lit := .string (keyBytes [.int .u64 k.1, .int .u64 k.2.1, .int .u64 k.2.2.1, .int .u64 k.2.2.2])
theorem u64_wf {x : Int} (h : U64 x) : (Lit.int .u64 x).wf = true := by
  unfold U64 at h
  simp only [Lit.wf, decide_eq_true_eq, Bool.and_eq_true]
  exact ⟨h.1, h.2⟩
theorem lo107 : laidOutB Try.prog = true := by kernel_rfl
theorem row107 : (107 : TypeId) < Try.prog.types.size := of_decide_eq_true (by kernel_rfl)
theorem cells107 : Try.prog.cellsOf 107 = 4 := by kernel_rfl
theorem cells87 : Try.prog.cellsOf 87 = 1 := by kernel_rfl
theorem wide107 : (match Try.prog.underlying 107 with | some (.array _ _) | some (.struct _) => true | _ => false) = true := by rw [Try.underlying107]
set_option maxRecDepth 8000 in
theorem law107 : Keyed Try.prog 107 := Keyed.of_law (deep_law_laid lo107 (m := 2) (by omega) row107 (by kernel_rfl) wide107)
theorem ktype107 : Try.prog.keyType 107 = true := by kernel_rfl
theorem tsize : ∃ m, Try.prog.types.size = m + 1 := by
  have h : (107 : Nat) < Try.prog.types.size := row107
  exact ⟨Try.prog.types.size - 1, by omega⟩
theorem keyOf_k (k : K4) (h : Kwf k) : keyOf Try.prog 107 (kval k) = some (klit k) := by
  obtain ⟨a, b, c, d⟩ := k
  obtain ⟨ha, hb, hc, hd⟩ := h
  simp only [] at ha hb hc hd
  obtain ⟨m, hm⟩ := tsize
  have hf : (kval (a, b, c, d)).formed Try.prog 107 = true := by simp [kval, Value.formed, Try.underlying107, cells107]
  have e : ∀ x, U64 x → Try.prog.keyLits (m + 1) 87 [.int .u64 x] = some [.int .u64 x] := by
    intro x hx
    unfold Program.keyLits
    rw [Try.underlying87]
    simp [u64_wf hx]
  have hl : Try.prog.keyLits (Try.prog.types.size + 1) 107 (kval (a, b, c, d)).cells.toList = some [.int .u64 a, .int .u64 b, .int .u64 c, .int .u64 d] := by
    rw [hm]
    unfold Program.keyLits
    rw [Try.underlying107]
    simp only [kval, Value.cells, cells107, cells87]
    simp [List.range, List.range.loop, e a ha, e b hb, e c hc, e d hd]
  unfold keyOf
  rw [Try.underlying107]
  simp only [ktype107, hf, hl, Bool.and_self, if_true, Option.map_some]
  rfl
theorem klit_inj {k k' : K4} (h : Kwf k) (h' : Kwf k') (e : klit k = klit k') : k = k' := by
  have h1 := keyOf_k k h
  have h2 := keyOf_k k' h'
  rw [e] at h1
  have h3 := law107.inj h1 h2
  obtain ⟨a, b, c, d⟩ := k
  obtain ⟨a', b', c', d'⟩ := k'
  simp only [kval, Value.agg.injEq, Array.mk.injEq, List.cons.injEq, Value.int.injEq, true_and, and_true] at h3
  obtain ⟨rfl, rfl, rfl, rfl⟩ := h3
  rfl
theorem klit_key (k : K4) (h : Kwf k) : WideAt.IsKeyLit (klit k) := law107.key (keyOf_k k h)

/-- A map that holds just these keys, each with its place. -/
structure Rep (D : DataW Unit) (ks : List K4) : Prop where
  wf : ∀ k ∈ ks, Kwf k
  nd : ks.Nodup
  has : ∀ k, Kwf k → Maps.has D (klit k) = decide (k ∈ ks)
  at_ : ∀ k, Kwf k → k ∈ ks → D.atKey (klit k) (.lit (.int .i64 0)) = .lit (.int .i64 (ks.idxOf k))
  size : Maps.size D = ks.length
theorem rep_nil : Rep (.map []) [] := ⟨fun k h => by simp at h, List.nodup_nil, fun k h => by simp [Maps.has], fun k h h' => by simp at h', rfl⟩
theorem rep_put {D : DataW Unit} {ks : List K4} (h : Rep D ks) (ht : Tidy D) {k : K4} (hk : Kwf k) (hn : k ∉ ks) : Rep (D.put (klit k) (.lit (.int .i64 (ks.length : Int)))) (ks ++ [k]) := by
  have hidx : (ks ++ [k]).idxOf k = ks.length := by
    rw [List.idxOf_append, if_neg hn]
    simp
  refine ⟨?_, ?_, ?_, ?_, ?_⟩
  · intro x hx
    rcases List.mem_append.1 hx with hx | hx
    · exact h.wf x hx
    · rw [List.mem_singleton] at hx; subst hx; exact hk
  · rw [List.nodup_append]
    exact ⟨h.nd, by simp, fun a ha b hb => by rw [List.mem_singleton] at hb; subst hb; exact fun e => hn (e ▸ ha)⟩
  · intro x hx
    by_cases e : x = k
    · subst e
      rw [has_put_same ht.isMap (klit_key x hx)]
      simp
    · rw [has_put_other (fun he => e (klit_inj hx hk he)), h.has x hx]
      simp [e]
  · intro x hx hm
    by_cases e : x = k
    · subst e
      rw [atKey_put_same ht.isMap (klit_key x hx), hidx]
    · rw [atKey_put_other (fun he => e (klit_inj hx hk he))]
      have hm' : x ∈ ks := by
        rcases List.mem_append.1 hm with hm | hm
        · exact hm
        · exact absurd (List.mem_singleton.1 hm) e
      rw [h.at_ x hx hm', List.idxOf_append, if_pos hm']
  · rw [size_put ht, h.has k hk]
    simp [hn, h.size]
end Go.Proofs.Ythaageiflimnnaa
/- Sweeping through sorted flips, as a function. -/
namespace Go.Proofs.Ythaageiflimnnaa
set_option linter.unusedVariables false
def xorI (x y : Int) : Int := ((x.toNat ^^^ y.toNat : Nat) : Int)
def kflip (k : K4) (f : Fl) : K4 := kset k f.2.1.toNat (xorI (kget k f.2.1.toNat) f.2.2)
def sameAt (f : Fl) : List Fl → Bool
  | [] => false
  | g :: _ => g.1 == f.1
def swp (now : K4) (ks : List K4) (bs : List Rg) : List Fl → Option (List Rg)
  | [] => some bs
  | f :: G =>
    if sameAt f G then swp (kflip now f) ks bs G
    else if kflip now f ∈ ks then swp (kflip now f) ks (bs ++ [(f.1, (ks.idxOf (kflip now f) : Int))]) G
    else if 256 ≤ ks.length then none
    else swp (kflip now f) (ks ++ [kflip now f]) (bs ++ [(f.1, (ks.length : Int))]) G
theorem xorI_u64 {x y : Int} (hx : U64 x) (hy : U64 y) : U64 (xorI x y) := by
  unfold U64 xorI at *
  have h : x.toNat ^^^ y.toNat < 2 ^ 64 := Nat.xor_lt_two_pow (by omega) (by omega)
  omega
theorem kget_u64 {k : K4} (h : Kwf k) (i : Nat) : U64 (kget k i) := by
  obtain ⟨a, b, c, d⟩ := h
  match i with
  | 0 => exact a
  | 1 => exact b
  | 2 => exact c
  | _ + 3 => exact d
theorem kset_wf {k : K4} (h : Kwf k) (i : Nat) {x : Int} (hx : U64 x) : Kwf (kset k i x) := by
  obtain ⟨a, b, c, d⟩ := h
  match i with
  | 0 => exact ⟨hx, b, c, d⟩
  | 1 => exact ⟨a, hx, c, d⟩
  | 2 => exact ⟨a, b, hx, d⟩
  | _ + 3 => exact ⟨a, b, c, hx⟩
theorem kflip_wf {k : K4} (h : Kwf k) {f : Fl} (hf : U64 f.2.2) : Kwf (kflip k f) := kset_wf h _ (xorI_u64 (kget_u64 h _) hf)
theorem kget_set (k : K4) (i j : Nat) (x : Int) (hi : i < 4) (hj : j < 4) : kget (kset k i x) j = if j = i then x else kget k j := by
  match i, j, hi, hj with
  | 0, 0, _, _ | 0, 1, _, _ | 0, 2, _, _ | 0, 3, _, _ | 1, 0, _, _ | 1, 1, _, _ | 1, 2, _, _ | 1, 3, _, _ | 2, 0, _, _ | 2, 1, _, _ | 2, 2, _, _ | 2, 3, _, _ | 3, 0, _, _ | 3, 1, _, _ | 3, 2, _, _ | 3, 3, _, _ => rfl
/-- A flip whose word and bits may be. -/
def Fwf (f : Fl) : Prop := 0 ≤ f.2.1 ∧ f.2.1 < 4 ∧ U64 f.2.2
end Go.Proofs.Ythaageiflimnnaa
/- What swept returns. -/
namespace Go.Proofs.Ythaageiflimnnaa
open Go.RowKit Go.BigFrame Go.Maps
set_option linter.unusedVariables false
set_option linter.unusedSimpArgs false

theorem info40 : (Try.prog.info? 40).map (fun i => (i.zero, i.size, i.bytes)) = some (some (.agg #[.int .i64 0, .int .i64 0]), 2, 16) := by kernel_rfl
theorem zero3 (w : World) : (zeroValue 3).run Try.prog w = .ok (.int .i64 0) w := by kernel_rfl
def Now (w : World) (B : Nat) (k : K4) : Prop := (∀ j, j < 4 → w.cell? ⟨B, j, none⟩ = some (.int .u64 (kget k j))) ∧ ∀ j, w.frozen? ⟨B, j, none⟩ = false
theorem now_alloc {w : World} {B : Nat} {k : K4} (h : Now w B k) (o : Obj) : Now (w.alloc o) B k :=
  ⟨fun j hj => cell_alloc o (h.1 j hj), fun j => by
    have h0 := h.1 0 (by omega)
    have hl : B < w.heap.size := World.block_lt_of_cell? _ _ h0
    rw [← h.2 j]
    exact ((below_new w o).frozen (p := ⟨B, j, none⟩) hl)⟩
theorem bits_xor {x y : Int} (hx : U64 x) (hy : U64 y) : bits BinOp.xor IntKind.u64 x y = xorI x y := by
  unfold U64 at *
  obtain ⟨a, rfl⟩ : ∃ a : Nat, x = a := ⟨x.toNat, by omega⟩
  obtain ⟨b, rfl⟩ : ∃ b : Nat, y = b := ⟨y.toNat, by omega⟩
  rw [bits_xor_u64_nat a b (by omega) (by omega)]
  simp [xorI]
theorem lit2 {w : World} {b : Nat} {u v : Value} (h0 : w.cell? ⟨b, 0, none⟩ = some u) (h1 : w.cell? ⟨b, 1, none⟩ = some v) : ∀ j y, [u, v][j]? = some y → w.cell? ((⟨b, 0, none⟩ : Addr).add j) = some y := by
  intro j y hj
  match j, hj with
  | 0, hj => simp at hj; subst hj; simpa [Addr.add] using h0
  | 1, hj => simp at hj; subst hj; simpa [Addr.add] using h1
theorem now_set {w : World} {B : Nat} {k : K4} {a mk : Int} {wn : Nat} (h : Now w B k) (hw : wn < 4) : Now (w.setCell ⟨B, wn, none⟩ (.int .u64 (xorI (kget k wn) mk))).drew B (kflip k (a, (wn : Int), mk)) := by
  refine ⟨fun j hj => ?_, fun j => ?_⟩
  · show (w.setCell ⟨B, wn, none⟩ (.int .u64 (xorI (kget k wn) mk))).cell? ⟨B, j, none⟩ = _
    unfold kflip
    simp only [Int.toNat_natCast]
    rw [kget_set k wn j _ hw hj]
    by_cases e : j = wn
    · subst e
      rw [if_pos rfl]
      exact World.cell?_setCell_same _ _ _ (h.1 j hj)
    · rw [if_neg e]
      exact (World.cell?_setCell_other _ _ _ _ (fun e' => by injection e' with _ e'; exact e e'.symm)).trans (h.1 j hj)
  · show (w.setCell ⟨B, wn, none⟩ (.int .u64 (xorI (kget k wn) mk))).frozen? ⟨B, j, none⟩ = _
    rw [World.frozen?_setCell]
    exact h.2 j
theorem now_drewN {w : World} {B : Nat} {k : K4} (h : Now w B k) (n : Nat) : Now (w.drewN n) B k := h
theorem now_grown {w w' : World} {B : Nat} {k : K4} {row : Option Nat} (h : Now w B k) (g : w.grownBy w' row) (hn : some B ≠ row) : Now w' B k :=
  ⟨fun j hj => g.cell (h.1 j hj) hn, fun j => by
    have hl : B < w.heap.size := World.block_lt_of_cell? _ _ (h.1 0 (by omega))
    have e := g.block B hl hn
    have h2 := h.2 j
    unfold World.frozen? at h2 ⊢
    simp only [] at h2 ⊢
    rw [e]
    exact h2⟩
theorem ownsMap_drewN {w : World} {P : Program} {k : TypeId} {R : Value → Option (DataW Unit × List MemPlace)} {b n : Nat} {D : DataW Unit} (h : w.ownsMap P k R b n D) (m : Nat) : (w.drewN m).ownsMap P k R b n D := h
theorem ownsMap_more {w : World} {P : Program} {k : TypeId} {R : Value → Option (DataW Unit × List MemPlace)} {b n : Nat} {D : DataW Unit} (h : w.ownsMap P k R b n D) : w.ownsMap P k R b (n + 1) D := by
  obtain ⟨es, clock, hb, F, hs, hD⟩ := h
  exact ⟨es, clock, hb, F, by omega, hD⟩
theorem shp_own {w : World} {base n c : Nat} {A : Option Addr} {e : TypeId} {size : Nat} {xs : List Value} (h : w.ownsRow base e size (.slice A n c) n xs) (hn : n ≤ 10000000) : Shp A n c := by
  rcases h.2 with ⟨e, _⟩ | ⟨g, cap, cur, e, _, _, h1, h2, _⟩
  · injection e with e1 e2 e3
    subst e1 e2 e3
    exact ⟨fun _ => rfl, Nat.le_refl _, Nat.zero_le _⟩
  · injection e with e1 e2 e3
    subst e1 e3
    exact ⟨fun h => (by cases h), h1, h2⟩
theorem wf_len (n : Nat) (h : n ≤ 256) : (Lit.int .i64 (n : Int)).wf = true := by
  simp only [Lit.wf, decide_eq_true_eq, Bool.and_eq_true]
  exact ⟨show (-9223372036854775808 : Int) ≤ n by omega, show (n : Int) ≤ 9223372036854775807 by omega⟩
theorem own_drewN {w : World} {base : Nat} {e : TypeId} {size n : Nat} {v : Value} {xs : List Value} (h : w.ownsRow base e size v n xs) (m : Nat) : (w.drewN m).ownsRow base e size v n xs := h
theorem swp_same {f : Fl} {G : List Fl} {now : K4} {ks : List K4} {bs : List Rg} (h : sameAt f G = true) : swp now ks bs (f :: G) = swp (kflip now f) ks bs G := by
  conv => lhs; unfold swp
  rw [if_pos h]
theorem swp_step {f : Fl} {G : List Fl} {now : K4} {ks : List K4} {bs : List Rg} (h : sameAt f G = false) : swp now ks bs (f :: G) = if kflip now f ∈ ks then swp (kflip now f) ks (bs ++ [(f.1, (ks.idxOf (kflip now f) : Int))]) G else if 256 ≤ ks.length then none else swp (kflip now f) (ks ++ [kflip now f]) (bs ++ [(f.1, (ks.length : Int))]) G := by
  conv => lhs; unfold swp
  rw [if_neg (by rw [h]; decide)]
/-- Bands, or that there are too many. -/
def OutBd (r : Option (List Rg)) (base : Nat) (w : World) (e : Ending) (w' : World) : Prop :=
  match r with
  | some bs => ∃ (A : Option Addr) (c n : Nat), e = .returned (.tuple #[.slice A n c, .bool true]) ∧ bs.length = n ∧ Shp A n c ∧ Reads w' w'.heap.size 2 A n (rcells bs) ∧ Below base w w'
  | none => e = .returned (.tuple #[.slice none 0 0, .bool false]) ∧ Below base w w'
/-- Ahead of each round. -/
def SwRel (G : List Fl) (n MB base : Nat) (w w2 : World) (vo vi : Value) (wr : World) : Prop :=
  ∃ (k z : Nat) (A2 : Option Addr) (c2 : Nat) (now : K4) (ks : List K4) (bs : List Rg) (D : DataW Unit), k ≤ n ∧ vi = .int .i64 k ∧ vo = .slice A2 z c2 ∧ Hid (bs.length = z) ∧ z ≤ k ∧ Hid (Kwf now) ∧ Hid (Rep D ks) ∧ ks.length ≤ 256 ∧ Hid (swp k0 [] [] G = swp now ks bs (G.drop k))
    ∧ wr.ownsRow (MB + 2) 40 2 (.slice A2 z c2) z (rcells bs) ∧ wr.ownsMap Try.prog 107 (plainElem Try.prog 3) MB k D ∧ Now wr (MB + 1) now ∧ Below MB w2 wr ∧ MB + 2 ≤ wr.heap.size

set_option maxRecDepth 4000 in
set_option maxHeartbeats 4000000 in
theorem swept_any (F : List Fl) (n : Nat) (hl : F.length = n) (A : Option Addr) (c base : Nat) (w : World) (h : w.ownsRow base 89 3 (.slice A n c) n (fcells F)) (hn : n ≤ 600000) (hbase : base ≤ w.heap.size) (hF : ∀ f ∈ F, Fwf f) :
    Calls Try.prog 47 #[.slice A n c] w fun e w' => ∃ G, G.Perm (F ++ [(0, 0, 0)]) ∧ Srt G ∧ OutBd (swp k0 [] [] G) base w e w' := by
  obtain ⟨i0, hi0, hz0, hz1, hz2⟩ := info_parts info89
  obtain ⟨j0, hj0, hy0, hy1, hy2⟩ := info_parts info40
  have HL := Lib.hid hl
  have HF := Lib.hid hF
  have hmm := @run_makeMap Try.prog
  clear hl hF
  go_enter Try.func47, Try.ntmps47
  go_wp2_with (at_builtin; refine wpList_append_lies _ rfl _ _ 84 rfl base 89 i0 _ 3 24 Try.underlying84 hi0 hz0 hz1 hz2 rfl (by decide) _ _ _ rfl (h.alloc _) ⟨w.heap.size, 0, none⟩ 1 1 [.int .i64 0, .int .i64 0, .int .u64 0] rfl rfl ?k1 ?k2 (by omega) ?k3 ?k4 ?k5 _ rfl ?_)
  case k1 => exact lit3 (by simp) (by simp) (by simp)
  case k2 => intro u hu; simp at hu; rcases hu with rfl | rfl | rfl <;> rfl
  case k3 => unfold maxLen; omega
  case k4 => omega
  case k5 => simp; omega
  intro g cap w1 hown1 hgrow1 hat1 hlt1
  have b1 : Below base w w1 := below_grown ((Below.refl _ _).alloc hbase _) (by simp; omega) (h.alloc _) hgrow1
  have hs1 := b1.size
  have HO1 : Hid (w1.ownsRow base 89 3 (.slice (some ⟨g, 0, none⟩) (n + 1) cap) (n + 1) (fcells (F ++ [(0, 0, 0)]))) := Lib.hid (by rw [fcells_snoc]; exact hown1)
  have HL1 : Hid ((F ++ [(0, 0, 0)]).length = n + 1) := Lib.hid (by rw [List.length_append, HL.out]; rfl)
  clear hown1 hgrow1 hat1 h
  go_wp2_with fail
  refine (sortF_any (F ++ [(0, 0, 0)]) (n + 1) HL1.out _ cap base w1 HO1.out (by omega) (by omega)).mono ?_
  rintro e w2 ⟨G, rfl, hGl, hGp, hGs, hGr, g2⟩
  have b2 := b1.trans g2
  have HGl := Lib.hid hGl
  have HGp := Lib.hid hGp
  have HGs := Lib.hid hGs
  have HGr := Lib.hid hGr
  clear hGl hGp hGs hGr g2 HO1 HL1
  go_wp2_with fail
  go_loopw [6, 20] (fun vo vi wr => SwRel G (n + 1) w2.heap.size base w w2 vo vi wr) (fun _ i _ => n + 1 - (intOf i).toNat)
  case atStart =>
    refine ⟨0, 0, none, 0, k0, [], [], .map [], Nat.zero_le _, rfl, rfl, Lib.hid rfl, Nat.le_refl _, Lib.hid (by simp [Kwf, U64, k0]), Lib.hid rep_nil, by simp, Lib.hid rfl, World.ownsRow_nil _ _ _ _, ?_, ?_, ?_, ?_⟩
    · exact (World.ownsMap_made _ _ _ _).alloc _
    · refine ⟨fun j hj => ?_, fun j => ?_⟩
      · match j, hj with
        | 0, _ | 1, _ | 2, _ | 3, _ => simp [kget, k0]
      · simp
    · exact (below_new _ _).alloc (by simp) _
    · simp
  case round =>
    obtain ⟨k, z, A2, c2, now, ks, bs, D, hk, rfl, rfl, HLz, hz, HKw, HRep, hks, HE, hown, hmap, hnow, hb, hsz⟩ := hrel
    by_cases hlt : k < n + 1
    · have kl : k < G.length := by rw [HGl.out]; exact hlt
      have HR := Lib.hid (HGr.out.below hb)
      obtain ⟨_, _, ea, hbb, p0, p1, p2⟩ := HR.out.fl kl
      injection ea with ea
      injection ea with ea1 ea2
      subst ea1 ea2
      simp only [Nat.zero_add] at p0 p1 p2
      have HW : Hid (Fwf G[k]) := Lib.hid (by
        have hm := HGp.out.mem_iff.1 (List.getElem_mem kl)
        rcases List.mem_append.1 hm with hm | hm
        · exact HF.out _ hm
        · rw [List.mem_singleton] at hm; rw [hm]; simp [Fwf, U64])
      have HDr : Hid (G.drop k = G[k] :: G.drop (k + 1)) := Lib.hid (List.drop_eq_getElem_cons kl)
      generalize hx : G[k] = x at *
      obtain ⟨a, wd, mk⟩ := x
      simp only [] at p0 p1 p2
      obtain ⟨hw0, hw4, hmk⟩ := HW.out
      simp only [] at hw0 hw4 hmk
      obtain ⟨wn, rfl⟩ : ∃ wn : Nat, wd = wn := ⟨wd.toNat, by omega⟩
      have hwn : wn < 4 := by omega
      have c0 : (wr.alloc (.cells #[.int .i64 a, .int .i64 wn, .int .u64 mk] 89)).cell? ⟨wr.heap.size, 0, none⟩ = some (.int .i64 a) := by simp
      have c1 : (wr.alloc (.cells #[.int .i64 a, .int .i64 wn, .int .u64 mk] 89)).cell? ⟨wr.heap.size, 1, none⟩ = some (.int .i64 wn) := by simp
      have c2' : (wr.alloc (.cells #[.int .i64 a, .int .i64 wn, .int .u64 mk] 89)).cell? ⟨wr.heap.size, 2, none⟩ = some (.int .u64 mk) := by simp
      have d0 := cell_alloc (.cells #[.int .i64 a, .int .i64 wn, .int .u64 mk] 89) (hnow.1 wn hwn)
      have hnow1 : Now (wr.alloc (.cells #[.int .i64 a, .int .i64 wn, .int .u64 mk] 89)) (w2.heap.size + 1) now := now_alloc hnow _
      have hown1 := hown.alloc (.cells #[.int .i64 a, .int .i64 wn, .int .u64 mk] 89)
      have hmap1 := hmap.alloc (.cells #[.int .i64 a, .int .i64 wn, .int .u64 mk] 89)
      have hb1 := hb.alloc (by omega) (.cells #[.int .i64 a, .int .i64 wn, .int .u64 mk] 89)
      have hwz : wr.heap.size < (wr.alloc (.cells #[.int .i64 a, .int .i64 wn, .int .u64 mk] 89)).heap.size := by simp
      have hsz1 : w2.heap.size + 2 ≤ (wr.alloc (.cells #[.int .i64 a, .int .i64 wn, .int .u64 mk] 89)).heap.size := by omega
      go_wp2_with fail
      generalize wr.alloc (.cells #[.int .i64 a, .int .i64 wn, .int .u64 mk] 89) = wa at *
      generalize wr.heap.size = FB at *
      have fz := hnow1.2 wn
      clear hown hmap hnow hb
      go_region
      have hbx : bits BinOp.xor IntKind.u64 (kget now wn) mk = xorI (kget now wn) mk := bits_xor (kget_u64 HKw.out wn) hmk
      rw [hbx]
      have hnow2 : Now (wa.setCell ⟨w2.heap.size + 1, wn, none⟩ (.int .u64 (xorI (kget now wn) mk))).drew (w2.heap.size + 1) (kflip now (a, (wn : Int), mk)) := now_set hnow1 hwn
      have hown2 : (wa.setCell ⟨w2.heap.size + 1, wn, none⟩ (.int .u64 (xorI (kget now wn) mk))).drew.ownsRow (w2.heap.size + 2) 40 2 (.slice A2 z c2) z (rcells bs) := ownsRow_setCell_below hown1 (a := ⟨w2.heap.size + 1, wn, none⟩) (by simp) _
      have hmap2 : (wa.setCell ⟨w2.heap.size + 1, wn, none⟩ (.int .u64 (xorI (kget now wn) mk))).drew.ownsMap Try.prog 107 (plainElem Try.prog 3) w2.heap.size k D := (hmap1.setCell (a := ⟨w2.heap.size + 1, wn, none⟩) (by simp) _).drew
      have hb2 : Below w2.heap.size w2 (wa.setCell ⟨w2.heap.size + 1, wn, none⟩ (.int .u64 (xorI (kget now wn) mk))).drew := Below.drew (hb1.setCell (p := ⟨w2.heap.size + 1, wn, none⟩) (by simp) _)
      have c02 : (wa.setCell ⟨w2.heap.size + 1, wn, none⟩ (.int .u64 (xorI (kget now wn) mk))).drew.cell? ⟨FB, 0, none⟩ = some (.int .i64 a) := (World.cell?_setCell_other _ _ _ _ (fun e => by injection e; omega)).trans c0
      have hsz2 : w2.heap.size + 2 ≤ (wa.setCell ⟨w2.heap.size + 1, wn, none⟩ (.int .u64 (xorI (kget now wn) mk))).drew.heap.size := by
        have e : (wa.setCell ⟨w2.heap.size + 1, wn, none⟩ (.int .u64 (xorI (kget now wn) mk))).drew.heap.size = wa.heap.size := by simp [World.setCell, World.drew]
        omega
      have hfb : FB < (wa.setCell ⟨w2.heap.size + 1, wn, none⟩ (.int .u64 (xorI (kget now wn) mk))).drew.heap.size := by
        have e : (wa.setCell ⟨w2.heap.size + 1, wn, none⟩ (.int .u64 (xorI (kget now wn) mk))).drew.heap.size = wa.heap.size := by simp [World.setCell, World.drew]
        omega
      generalize (wa.setCell ⟨w2.heap.size + 1, wn, none⟩ (.int .u64 (xorI (kget now wn) mk))).drew = wb at *
      have HGr' := Lib.hid (HGr.out.below hb2)
      have HKw' : Hid (Kwf (kflip now (a, (wn : Int), mk))) := Lib.hid (kflip_wf HKw.out hmk)
      have HEd : Hid (swp k0 [] [] G = swp now ks bs ((a, (wn : Int), mk) :: G.drop (k + 1))) := Lib.hid (by rw [HE.out, HDr.out])
      have hb2s : base ≤ w2.heap.size := by have := b2.size; omega
      clear hown1 hmap1 hnow1 hb1 c0 c1 c2' d0 fz HE HDr hbx hwz hsz1 HKw p0 p1 p2 HR
      have hwr : IntKind.i64.wrap ((k : Int) + 1) = (k : Int) + 1 := IntWalk.i64_in _ (by omega)
      by_cases hk1 : k + 1 < n + 1
      · have kl1 : k + 1 < G.length := by rw [HGl.out]; exact hk1
        obtain ⟨_, _, ea, hbb', q0, _, _⟩ := HGr'.out.fl kl1
        injection ea with ea
        injection ea with ea1 ea2
        subst ea1 ea2
        simp only [Nat.zero_add] at q0
        have HD1 : Hid (sameAt (a, (wn : Int), mk) (G.drop (k + 1)) = (G[k + 1].1 == a)) := Lib.hid (by rw [List.drop_eq_getElem_cons kl1]; rfl)
        generalize G[k + 1].1 = a1 at *
        have hd0 : decide (k < n) = true := decide_eq_true (by omega)
        by_cases hsame : a1 = a
        · have hs1' : (a1 == a) = true := by rw [beq_iff_eq]; exact hsame
          have HE' : Hid (swp k0 [] [] G = swp (kflip now (a, (wn : Int), mk)) ks bs (G.drop (k + 1))) := Lib.hid (by rw [HEd.out]; exact swp_same (by rw [HD1.out]; exact hs1'))
          generalize kflip now (a, (wn : Int), mk) = now' at *
          clear HEd HD1 HGr'
          go_wp2_with fail
          go_quiet (fail)
          go_wp2_with fail
          go_roundw
          case rel => exact ⟨k + 1, z, A2, c2, now', ks, bs, D, by omega, by go_num, rfl, HLz, by omega, HKw', HRep, hks, HE', own_drewN hown2 _, ownsMap_more (ownsMap_drewN hmap2 _), now_drewN hnow2 _, below_drewN hb2 _, hsz2⟩
          case measure => simp [intOf]; omega
        · have hs1' : (a1 == a) = false := by rw [beq_eq_false_iff_ne]; exact hsame
          have HEn : Hid (swp k0 [] [] G = if kflip now (a, (wn : Int), mk) ∈ ks then swp (kflip now (a, (wn : Int), mk)) ks (bs ++ [(a, (ks.idxOf (kflip now (a, (wn : Int), mk)) : Int))]) (G.drop (k + 1)) else if 256 ≤ ks.length then none else swp (kflip now (a, (wn : Int), mk)) (ks ++ [kflip now (a, (wn : Int), mk)]) (bs ++ [(a, (ks.length : Int))]) (G.drop (k + 1))) := Lib.hid (by rw [HEd.out]; exact swp_step (by rw [HD1.out]; exact hs1'))
          generalize kflip now (a, (wn : Int), mk) = now' at *
          clear HEd HD1
          go_wp2_with fail
          go_quiet (fail)
          have hnow2 := now_drewN hnow2 nq
          have hown2 : (wb.drewN nq).ownsRow (w2.heap.size + 2) 40 2 (.slice A2 z c2) z (rcells bs) := own_drewN hown2 nq
          have hmap2 := ownsMap_drewN hmap2 nq
          have hb2 := below_drewN hb2 nq
          have c02 : (wb.drewN nq).cell? ⟨FB, 0, none⟩ = some (.int .i64 a) := c02
          have hsz2 : w2.heap.size + 2 ≤ (wb.drewN nq).heap.size := hsz2
          have hfb : FB < (wb.drewN nq).heap.size := hfb
          clear q0
          generalize wb.drewN nq = wb at *
          clear HGr'
          obtain ⟨n0, n1, n2, n3⟩ := now'
          have e0 : wb.cell? ⟨w2.heap.size + 1, 0, none⟩ = some (.int .u64 n0) := hnow2.1 0 (by omega)
          have e1 : wb.cell? ⟨w2.heap.size + 1, 1, none⟩ = some (.int .u64 n1) := hnow2.1 1 (by omega)
          have e2 : wb.cell? ⟨w2.heap.size + 1, 2, none⟩ = some (.int .u64 n2) := hnow2.1 2 (by omega)
          have e3 : wb.cell? ⟨w2.heap.size + 1, 3, none⟩ = some (.int .u64 n3) := hnow2.1 3 (by omega)
          obtain ⟨now', hnow'⟩ : ∃ now' : K4, now' = (n0, n1, n2, n3) := ⟨_, rfl⟩
          rw [← hnow'] at hnow2 HKw' HEn
          have hkey : keyOf Try.prog 107 (.agg #[.int .u64 n0, .int .u64 n1, .int .u64 n2, .int .u64 n3]) = some (klit now') := by
            have := keyOf_k now' HKw'.out
            rw [hnow'] at this ⊢
            exact this
          have hsize : Maps.size D = ks.length := HRep.out.size
          have hdk : decide ((256 : Int) < (ks.length : Int)) = false := decide_eq_false (by omega)
          have hval : plainElem (H := Unit) Try.prog 3 (.int .i64 (ks.length : Int)) = some (.lit (.int .i64 (ks.length : Int)), []) := plainElem_int Try.underlying3 (wf_len ks.length hks)
          have htidy := Lib.hid (hmap2.tidy law107)
          by_cases hin : now' ∈ ks
          · have hhas : Maps.has D (klit now') = true := by rw [HRep.out.has now' HKw'.out]; exact decide_eq_true hin
            have hat0 := Lib.hid (HRep.out.at_ now' HKw'.out hin)
            have HE' : Hid (swp k0 [] [] G = swp now' ks (bs ++ [(a, (ks.idxOf now' : Int))]) (G.drop (k + 1))) := Lib.hid (by rw [HEn.out, if_pos hin])
            clear HEn hin htidy hnow'
            go_wp2_with (at_lookup; refine wpList_lookup_own_ok_int _ rfl _ _ 105 rfl 107 3 .i64 law107 Try.underlying105 Try.underlying3 (zero3 _) w2.heap.size k D rfl hmap2 _ _ rfl hkey ?_)
            intro c hat hwc
            have hcp : c = (ks.idxOf now' : Int) := by
              have h1 := hat0.out
              rw [hat] at h1
              simpa using h1
            rw [← hcp] at HE'
            clear hat hat0 hcp hwc
            go_wp2_with (first | (at_len; refine wpList_len_own _ rfl _ 105 rfl 107 3 Try.underlying105 _ w2.heap.size k D rfl hmap2 ?_) | (at_builtin; refine wpList_append_lies _ rfl _ _ 23 rfl (w2.heap.size + 2) 40 j0 _ 2 16 Try.underlying23 hj0 hy0 hy1 hy2 rfl (by decide) _ _ _ rfl (hown2.alloc _) ⟨wb.heap.size, 0, none⟩ 1 1 [.int .i64 a, .int .i64 c] rfl rfl ?k1 ?k2 (by omega) ?k3 ?k4 ?k5 _ rfl ?_))
            case k1 => exact lit2 (by simp) (by simp)
            case k2 => intro u hu; simp at hu; rcases hu with rfl | rfl <;> rfl
            case k3 => unfold maxLen; omega
            case k4 => omega
            case k5 => simp; omega
            intro g5 cap5 w5 hown5 hgrow5 hat5 hlt5
            have hO5 : w5.ownsRow (w2.heap.size + 2) 40 2 (.slice (some ⟨g5, 0, none⟩) (z + 1) cap5) (z + 1) (rcells (bs ++ [(a, c)])) := by rw [rcells_snoc]; exact hown5
            have hm5 := (hmap2.alloc (.cells #[.int .i64 a, .int .i64 c] 40)).kept hgrow5 (fun e => by have := (hown2.lt _ e.symm).1; omega)
            have hn5 : Now w5 (w2.heap.size + 1) now' := now_grown (now_alloc hnow2 (.cells #[.int .i64 a, .int .i64 c] 40)) hgrow5 (fun e => by have := (hown2.lt _ e.symm).1; omega)
            have hb5 : Below w2.heap.size w2 w5 := (hb2.alloc (by omega) _).grown hgrow5 (by simp; omega) (fun q hq => by have := (hown2.lt _ hq).1; omega)
            have hs5 : w2.heap.size + 2 ≤ w5.heap.size := by have := hgrow5.size; simp at this; omega
            have HL5 : Hid ((bs ++ [(a, c)]).length = z + 1) := Lib.hid (by rw [List.length_append, HLz.out]; rfl)
            clear hown5 hgrow5 hat5
            go_wp2_with fail
            go_roundw
            case rel => exact ⟨k + 1, z + 1, some ⟨g5, 0, none⟩, cap5, now', ks, bs ++ [(a, c)], D, by omega, by go_num, rfl, HL5, by omega, HKw', HRep, hks, HE', hO5, ownsMap_more hm5, hn5, hb5, hs5⟩
            case measure => simp [intOf]; omega
          · have hhas : Maps.has D (klit now') = false := by rw [HRep.out.has now' HKw'.out]; exact decide_eq_false hin
            have HRep' := Lib.hid (rep_put HRep.out htidy.out HKw'.out hin)
            have hsize' : Maps.size (D.put (klit now') (.lit (.int .i64 (ks.length : Int)))) = ks.length + 1 := by rw [HRep'.out.size]; simp
            have HIn := Lib.hid hin
            clear hin htidy hnow'
            go_wp2_with (at_lookup; refine wpList_lookup_own_ok_int _ rfl _ _ 105 rfl 107 3 .i64 law107 Try.underlying105 Try.underlying3 (zero3 _) w2.heap.size k D rfl hmap2 _ _ rfl hkey ?_)
            intro c hat hwc
            clear hat hwc
            go_wp2_with (first | (at_len; refine wpList_len_own _ rfl _ 105 rfl 107 3 Try.underlying105 _ w2.heap.size k D rfl hmap2 ?_) | (at_mapUpdate; refine wpList_mapUpdate_own _ rfl _ _ _ 105 rfl 107 3 law107 Try.underlying105 _ w2.heap.size k D rfl hmap2 (by unfold maxLen; omega) _ _ _ rfl rfl hkey (.lit (.int .i64 (ks.length : Int))) [] hval ?_))
            intro wc hmap3 hgrow3
            have hown3 := hown2.kept hgrow3 (.inr (fun e => by have := (hown2.lt _ e).1; omega))
            have hnow3 := now_grown hnow2 hgrow3 (fun e => by injection e with e; omega)
            have hb3 : Below w2.heap.size w2 wc := hb2.grown hgrow3 (by omega) (fun q hq => by injection hq with hq; omega)
            have hsz3 : w2.heap.size + 2 ≤ wc.heap.size := by have := hgrow3.size; omega
            have c03 : wc.cell? ⟨FB, 0, none⟩ = some (.int .i64 a) := hgrow3.cell c02 (fun e => by simp at e; omega)
            clear hgrow3 hmap2 hnow2 hb2 c02 hown2 e0 e1 e2 e3
            by_cases hbig : 256 ≤ ks.length
            · have HE' : Hid (swp k0 [] [] G = none) := Lib.hid (by rw [HEn.out, if_neg HIn.out, if_pos hbig])
              have hd : decide ((256 : Int) < ((ks.length + 1 : Nat) : Int)) = true := decide_eq_true (by omega)
              have hd' : decide ((256 : Int) < (ks.length : Int) + 1) = true := decide_eq_true (by omega)
              go_wp2_with (at_len; refine wpList_len_own _ rfl _ 105 rfl 107 3 Try.underlying105 _ w2.heap.size (k + 1) _ rfl hmap3 ?_)
              go_ret2
              refine ⟨G, HGp.out, HGs.out, ?_⟩
              rw [HE'.out]
              exact ⟨rfl, b2.trans (hb3.mono hb2s)⟩
            · have HE' : Hid (swp k0 [] [] G = swp now' (ks ++ [now']) (bs ++ [(a, (ks.length : Int))]) (G.drop (k + 1))) := Lib.hid (by rw [HEn.out, if_neg HIn.out, if_neg hbig])
              have hd : decide ((256 : Int) < ((ks.length + 1 : Nat) : Int)) = false := decide_eq_false (by omega)
              have hd' : decide ((256 : Int) < (ks.length : Int) + 1) = false := decide_eq_false (by omega)
              have hks' : (ks ++ [now']).length ≤ 256 := by simp; omega
              clear HEn HIn
              go_wp2_with (first | (at_len; refine wpList_len_own _ rfl _ 105 rfl 107 3 Try.underlying105 _ w2.heap.size (k + 1) _ rfl hmap3 ?_) | (at_builtin; refine wpList_append_lies _ rfl _ _ 23 rfl (w2.heap.size + 2) 40 j0 _ 2 16 Try.underlying23 hj0 hy0 hy1 hy2 rfl (by decide) _ _ _ rfl (hown3.alloc _) ⟨wc.heap.size, 0, none⟩ 1 1 [.int .i64 a, .int .i64 (ks.length : Int)] rfl rfl ?k1 ?k2 (by omega) ?k3 ?k4 ?k5 _ rfl ?_))
              case k1 => exact lit2 (by simp) (by simp)
              case k2 => intro u hu; simp at hu; rcases hu with rfl | rfl <;> rfl
              case k3 => unfold maxLen; omega
              case k4 => omega
              case k5 => simp; omega
              intro g5 cap5 w5 hown5 hgrow5 hat5 hlt5
              have hO5 : w5.ownsRow (w2.heap.size + 2) 40 2 (.slice (some ⟨g5, 0, none⟩) (z + 1) cap5) (z + 1) (rcells (bs ++ [(a, (ks.length : Int))])) := by rw [rcells_snoc]; exact hown5
              have hm5 := (hmap3.alloc (.cells #[.int .i64 a, .int .i64 (ks.length : Int)] 40)).kept hgrow5 (fun e => by have := (hown3.lt _ e.symm).1; omega)
              have hn5 : Now w5 (w2.heap.size + 1) now' := now_grown (now_alloc hnow3 (.cells #[.int .i64 a, .int .i64 (ks.length : Int)] 40)) hgrow5 (fun e => by have := (hown3.lt _ e.symm).1; omega)
              have hb5 : Below w2.heap.size w2 w5 := (hb3.alloc (by omega) _).grown hgrow5 (by simp; omega) (fun q hq => by have := (hown3.lt _ hq).1; omega)
              have hs5 : w2.heap.size + 2 ≤ w5.heap.size := by have := hgrow5.size; simp at this; omega
              have HL5 : Hid ((bs ++ [(a, (ks.length : Int))]).length = z + 1) := Lib.hid (by rw [List.length_append, HLz.out]; rfl)
              clear hown5 hgrow5 hat5
              go_wp2_with fail
              go_roundw
              case rel => exact ⟨k + 1, z + 1, some ⟨g5, 0, none⟩, cap5, now', (ks ++ [now']), bs ++ [(a, (ks.length : Int))], (D.put (klit now') (.lit (.int .i64 (ks.length : Int)))), by omega, by go_num, rfl, HL5, by omega, HKw', HRep', hks', HE', hO5,  hm5, hn5, hb5, hs5⟩
              case measure => simp [intOf]; omega
      · have HEn : Hid (swp k0 [] [] G = if kflip now (a, (wn : Int), mk) ∈ ks then swp (kflip now (a, (wn : Int), mk)) ks (bs ++ [(a, (ks.idxOf (kflip now (a, (wn : Int), mk)) : Int))]) (G.drop (k + 1)) else if 256 ≤ ks.length then none else swp (kflip now (a, (wn : Int), mk)) (ks ++ [kflip now (a, (wn : Int), mk)]) (bs ++ [(a, (ks.length : Int))]) (G.drop (k + 1))) := Lib.hid (by
          rw [HEd.out]
          exact swp_step (by rw [List.drop_of_length_le (by rw [HGl.out]; omega)]; rfl))
        generalize kflip now (a, (wn : Int), mk) = now' at *
        clear HEd
        have hd0 : decide (k < n) = false := decide_eq_false (by omega)
        go_wp2_with fail
        go_quiet (fail)
        have hnow2 := now_drewN hnow2 nq
        have hown2 : (wb.drewN nq).ownsRow (w2.heap.size + 2) 40 2 (.slice A2 z c2) z (rcells bs) := own_drewN hown2 nq
        have hmap2 := ownsMap_drewN hmap2 nq
        have hb2 := below_drewN hb2 nq
        have c02 : (wb.drewN nq).cell? ⟨FB, 0, none⟩ = some (.int .i64 a) := c02
        have hsz2 : w2.heap.size + 2 ≤ (wb.drewN nq).heap.size := hsz2
        have hfb : FB < (wb.drewN nq).heap.size := hfb
        generalize wb.drewN nq = wb at *
        clear HGr'
        obtain ⟨n0, n1, n2, n3⟩ := now'
        have e0 : wb.cell? ⟨w2.heap.size + 1, 0, none⟩ = some (.int .u64 n0) := hnow2.1 0 (by omega)
        have e1 : wb.cell? ⟨w2.heap.size + 1, 1, none⟩ = some (.int .u64 n1) := hnow2.1 1 (by omega)
        have e2 : wb.cell? ⟨w2.heap.size + 1, 2, none⟩ = some (.int .u64 n2) := hnow2.1 2 (by omega)
        have e3 : wb.cell? ⟨w2.heap.size + 1, 3, none⟩ = some (.int .u64 n3) := hnow2.1 3 (by omega)
        obtain ⟨now', hnow'⟩ : ∃ now' : K4, now' = (n0, n1, n2, n3) := ⟨_, rfl⟩
        rw [← hnow'] at hnow2 HKw' HEn
        have hkey : keyOf Try.prog 107 (.agg #[.int .u64 n0, .int .u64 n1, .int .u64 n2, .int .u64 n3]) = some (klit now') := by
          have := keyOf_k now' HKw'.out
          rw [hnow'] at this ⊢
          exact this
        have hsize : Maps.size D = ks.length := HRep.out.size
        have hdk : decide ((256 : Int) < (ks.length : Int)) = false := decide_eq_false (by omega)
        have hval : plainElem (H := Unit) Try.prog 3 (.int .i64 (ks.length : Int)) = some (.lit (.int .i64 (ks.length : Int)), []) := plainElem_int Try.underlying3 (wf_len ks.length hks)
        have htidy := Lib.hid (hmap2.tidy law107)
        by_cases hin : now' ∈ ks
        · have hhas : Maps.has D (klit now') = true := by rw [HRep.out.has now' HKw'.out]; exact decide_eq_true hin
          have hat0 := Lib.hid (HRep.out.at_ now' HKw'.out hin)
          have HE' : Hid (swp k0 [] [] G = swp now' ks (bs ++ [(a, (ks.idxOf now' : Int))]) (G.drop (k + 1))) := Lib.hid (by rw [HEn.out, if_pos hin])
          clear HEn hin htidy hnow'
          go_wp2_with (at_lookup; refine wpList_lookup_own_ok_int _ rfl _ _ 105 rfl 107 3 .i64 law107 Try.underlying105 Try.underlying3 (zero3 _) w2.heap.size k D rfl hmap2 _ _ rfl hkey ?_)
          intro c hat hwc
          have hcp : c = (ks.idxOf now' : Int) := by
            have h1 := hat0.out
            rw [hat] at h1
            simpa using h1
          rw [← hcp] at HE'
          clear hat hat0 hcp hwc
          go_wp2_with (first | (at_len; refine wpList_len_own _ rfl _ 105 rfl 107 3 Try.underlying105 _ w2.heap.size k D rfl hmap2 ?_) | (at_builtin; refine wpList_append_lies _ rfl _ _ 23 rfl (w2.heap.size + 2) 40 j0 _ 2 16 Try.underlying23 hj0 hy0 hy1 hy2 rfl (by decide) _ _ _ rfl (hown2.alloc _) ⟨wb.heap.size, 0, none⟩ 1 1 [.int .i64 a, .int .i64 c] rfl rfl ?k1 ?k2 (by omega) ?k3 ?k4 ?k5 _ rfl ?_))
          case k1 => exact lit2 (by simp) (by simp)
          case k2 => intro u hu; simp at hu; rcases hu with rfl | rfl <;> rfl
          case k3 => unfold maxLen; omega
          case k4 => omega
          case k5 => simp; omega
          intro g5 cap5 w5 hown5 hgrow5 hat5 hlt5
          have hO5 : w5.ownsRow (w2.heap.size + 2) 40 2 (.slice (some ⟨g5, 0, none⟩) (z + 1) cap5) (z + 1) (rcells (bs ++ [(a, c)])) := by rw [rcells_snoc]; exact hown5
          have hm5 := (hmap2.alloc (.cells #[.int .i64 a, .int .i64 c] 40)).kept hgrow5 (fun e => by have := (hown2.lt _ e.symm).1; omega)
          have hn5 : Now w5 (w2.heap.size + 1) now' := now_grown (now_alloc hnow2 (.cells #[.int .i64 a, .int .i64 c] 40)) hgrow5 (fun e => by have := (hown2.lt _ e.symm).1; omega)
          have hb5 : Below w2.heap.size w2 w5 := (hb2.alloc (by omega) _).grown hgrow5 (by simp; omega) (fun q hq => by have := (hown2.lt _ hq).1; omega)
          have hs5 : w2.heap.size + 2 ≤ w5.heap.size := by have := hgrow5.size; simp at this; omega
          have HL5 : Hid ((bs ++ [(a, c)]).length = z + 1) := Lib.hid (by rw [List.length_append, HLz.out]; rfl)
          clear hown5 hgrow5 hat5
          go_wp2_with fail
          go_roundw
          case rel => exact ⟨k + 1, z + 1, some ⟨g5, 0, none⟩, cap5, now', ks, bs ++ [(a, c)], D, by omega, by go_num, rfl, HL5, by omega, HKw', HRep, hks, HE', hO5, ownsMap_more hm5, hn5, hb5, hs5⟩
          case measure => simp [intOf]; omega
        · have hhas : Maps.has D (klit now') = false := by rw [HRep.out.has now' HKw'.out]; exact decide_eq_false hin
          have HRep' := Lib.hid (rep_put HRep.out htidy.out HKw'.out hin)
          have hsize' : Maps.size (D.put (klit now') (.lit (.int .i64 (ks.length : Int)))) = ks.length + 1 := by rw [HRep'.out.size]; simp
          have HIn := Lib.hid hin
          clear hin htidy hnow'
          go_wp2_with (at_lookup; refine wpList_lookup_own_ok_int _ rfl _ _ 105 rfl 107 3 .i64 law107 Try.underlying105 Try.underlying3 (zero3 _) w2.heap.size k D rfl hmap2 _ _ rfl hkey ?_)
          intro c hat hwc
          clear hat hwc
          go_wp2_with (first | (at_len; refine wpList_len_own _ rfl _ 105 rfl 107 3 Try.underlying105 _ w2.heap.size k D rfl hmap2 ?_) | (at_mapUpdate; refine wpList_mapUpdate_own _ rfl _ _ _ 105 rfl 107 3 law107 Try.underlying105 _ w2.heap.size k D rfl hmap2 (by unfold maxLen; omega) _ _ _ rfl rfl hkey (.lit (.int .i64 (ks.length : Int))) [] hval ?_))
          intro wc hmap3 hgrow3
          have hown3 := hown2.kept hgrow3 (.inr (fun e => by have := (hown2.lt _ e).1; omega))
          have hnow3 := now_grown hnow2 hgrow3 (fun e => by injection e with e; omega)
          have hb3 : Below w2.heap.size w2 wc := hb2.grown hgrow3 (by omega) (fun q hq => by injection hq with hq; omega)
          have hsz3 : w2.heap.size + 2 ≤ wc.heap.size := by have := hgrow3.size; omega
          have c03 : wc.cell? ⟨FB, 0, none⟩ = some (.int .i64 a) := hgrow3.cell c02 (fun e => by simp at e; omega)
          clear hgrow3 hmap2 hnow2 hb2 c02 hown2 e0 e1 e2 e3
          by_cases hbig : 256 ≤ ks.length
          · have HE' : Hid (swp k0 [] [] G = none) := Lib.hid (by rw [HEn.out, if_neg HIn.out, if_pos hbig])
            have hd : decide ((256 : Int) < ((ks.length + 1 : Nat) : Int)) = true := decide_eq_true (by omega)
            have hd' : decide ((256 : Int) < (ks.length : Int) + 1) = true := decide_eq_true (by omega)
            go_wp2_with (at_len; refine wpList_len_own _ rfl _ 105 rfl 107 3 Try.underlying105 _ w2.heap.size (k + 1) _ rfl hmap3 ?_)
            go_ret2
            refine ⟨G, HGp.out, HGs.out, ?_⟩
            rw [HE'.out]
            exact ⟨rfl, b2.trans (hb3.mono hb2s)⟩
          · have HE' : Hid (swp k0 [] [] G = swp now' (ks ++ [now']) (bs ++ [(a, (ks.length : Int))]) (G.drop (k + 1))) := Lib.hid (by rw [HEn.out, if_neg HIn.out, if_neg hbig])
            have hd : decide ((256 : Int) < ((ks.length + 1 : Nat) : Int)) = false := decide_eq_false (by omega)
            have hd' : decide ((256 : Int) < (ks.length : Int) + 1) = false := decide_eq_false (by omega)
            have hks' : (ks ++ [now']).length ≤ 256 := by simp; omega
            clear HEn HIn
            go_wp2_with (first | (at_len; refine wpList_len_own _ rfl _ 105 rfl 107 3 Try.underlying105 _ w2.heap.size (k + 1) _ rfl hmap3 ?_) | (at_builtin; refine wpList_append_lies _ rfl _ _ 23 rfl (w2.heap.size + 2) 40 j0 _ 2 16 Try.underlying23 hj0 hy0 hy1 hy2 rfl (by decide) _ _ _ rfl (hown3.alloc _) ⟨wc.heap.size, 0, none⟩ 1 1 [.int .i64 a, .int .i64 (ks.length : Int)] rfl rfl ?k1 ?k2 (by omega) ?k3 ?k4 ?k5 _ rfl ?_))
            case k1 => exact lit2 (by simp) (by simp)
            case k2 => intro u hu; simp at hu; rcases hu with rfl | rfl <;> rfl
            case k3 => unfold maxLen; omega
            case k4 => omega
            case k5 => simp; omega
            intro g5 cap5 w5 hown5 hgrow5 hat5 hlt5
            have hO5 : w5.ownsRow (w2.heap.size + 2) 40 2 (.slice (some ⟨g5, 0, none⟩) (z + 1) cap5) (z + 1) (rcells (bs ++ [(a, (ks.length : Int))])) := by rw [rcells_snoc]; exact hown5
            have hm5 := (hmap3.alloc (.cells #[.int .i64 a, .int .i64 (ks.length : Int)] 40)).kept hgrow5 (fun e => by have := (hown3.lt _ e.symm).1; omega)
            have hn5 : Now w5 (w2.heap.size + 1) now' := now_grown (now_alloc hnow3 (.cells #[.int .i64 a, .int .i64 (ks.length : Int)] 40)) hgrow5 (fun e => by have := (hown3.lt _ e.symm).1; omega)
            have hb5 : Below w2.heap.size w2 w5 := (hb3.alloc (by omega) _).grown hgrow5 (by simp; omega) (fun q hq => by have := (hown3.lt _ hq).1; omega)
            have hs5 : w2.heap.size + 2 ≤ w5.heap.size := by have := hgrow5.size; simp at this; omega
            have HL5 : Hid ((bs ++ [(a, (ks.length : Int))]).length = z + 1) := Lib.hid (by rw [List.length_append, HLz.out]; rfl)
            clear hown5 hgrow5 hat5
            go_wp2_with fail
            go_roundw
            case rel => exact ⟨k + 1, z + 1, some ⟨g5, 0, none⟩, cap5, now', (ks ++ [now']), bs ++ [(a, (ks.length : Int))], (D.put (klit now') (.lit (.int .i64 (ks.length : Int)))), by omega, by go_num, rfl, HL5, by omega, HKw', HRep', hks', HE', hO5,  hm5, hn5, hb5, hs5⟩
            case measure => simp [intOf]; omega
    · have HD : Hid (swp k0 [] [] G = some bs) := Lib.hid (by
        rw [HE.out, List.drop_of_length_le (by rw [HGl.out]; omega)]
        rfl)
      have hb2s : base ≤ w2.heap.size := by have := b2.size; omega
      go_wp2_with fail
      go_ret2
      refine ⟨G, HGp.out, HGs.out, ?_⟩
      rw [HD.out]
      exact ⟨A2, c2, z, rfl, HLz.out, shp_own hown (by omega), Reads.of_own hown, b2.trans (hb.mono hb2s)⟩
end Go.Proofs.Ythaageiflimnnaa
/- What changes returns, of at most 256 sets. -/
namespace Go.Proofs.Ythaageiflimnnaa
open Go.RowKit Go.BigFrame
set_option linter.unusedVariables false
set_option linter.unusedSimpArgs false

theorem fl1_wf {i : Nat} (hi : i < 256) (r : Rg) : ∀ f ∈ fl1 i r, Fwf f := by
  intro f hf
  have h64 : ((2 : Int) ^ (i % 64)) = ((2 ^ (i % 64) : Nat) : Int) := by rw [Int.natCast_pow]; rfl
  have h2 : 2 ^ (i % 64) < 2 ^ 64 := Nat.pow_lt_pow_right (by omega) (by omega)
  have hu : U64 ((2 : Int) ^ (i % 64)) := by rw [h64]; unfold U64; generalize 2 ^ (i % 64) = m at *; omega
  have hw : (0 : Int) ≤ ((i / 64 : Nat) : Int) ∧ ((i / 64 : Nat) : Int) < 4 := by omega
  unfold fl1 at hf
  split at hf
  · simp only [List.mem_cons, List.not_mem_nil, or_false] at hf
    rcases hf with rfl | rfl <;> exact ⟨hw.1, hw.2, hu⟩
  · simp only [List.mem_cons, List.not_mem_nil, or_false] at hf
    subst hf
    exact ⟨hw.1, hw.2, hu⟩
theorem flUp_wf (L : List (List Rg)) : ∀ k, k ≤ 256 → ∀ f ∈ flUp L k, Fwf f
  | 0, _, f, hf => by simp [flUp] at hf
  | k + 1, hk, f, hf => by
    rcases List.mem_append.1 hf with hf | hf
    · exact flUp_wf L k (by omega) f hf
    · obtain ⟨r, _, hr⟩ := List.mem_flatMap.1 hf
      exact fl1_wf (by omega) r f hr
theorem flS_len (i : Nat) : ∀ s : List Rg, (flS i s).length ≤ 2 * s.length
  | [] => by simp [flS]
  | r :: s => by
    have e : flS i (r :: s) = fl1 i r ++ flS i s := by simp [flS]
    have h := flS_len i s
    have h1 : (fl1 i r).length ≤ 2 := by unfold fl1; split <;> simp
    rw [e, List.length_append, List.length_cons]
    omega
theorem flUp_len (L : List (List Rg)) : ∀ k, (∀ i, i < k → (L.getD i []).length ≤ 1000) → (flUp L k).length ≤ 2000 * k
  | 0, _ => by simp [flUp]
  | k + 1, h => by
    have h1 := flUp_len L k (fun i hi => h i (by omega))
    have h2 := flS_len k (L.getD k [])
    have h3 := h k (by omega)
    unfold flUp
    rw [List.length_append]
    omega

/-- Bands of sets, by sweeping, or that there are too many. -/
def OutCh (L : List (List Rg)) (w : World) (e : Ending) (w' : World) : Prop :=
  ∃ G : List Fl, G.Perm (flUp L L.length ++ [(0, 0, 0)]) ∧ Srt G ∧ OutBd (swp k0 [] [] G) w.heap.size w e w'
theorem outBd_ret {r : Option (List Rg)} {base : Nat} {w : World} {e : Ending} {w' : World} (h : OutBd r base w e w') : ∃ (v : Value) (b : Bool), e = .returned (.tuple #[v, .bool b]) := by
  cases r with
  | none => exact ⟨_, _, h.1⟩
  | some bs => obtain ⟨A, c, n, he, _⟩ := h; exact ⟨_, _, he⟩
set_option maxHeartbeats 1000000 in
theorem changes_n (H : List Hd) (n : Nat) (A : Option Addr) (c : Nat) (w : World) (hN : Nest w w.heap.size A n H) (hn : n ≤ 256) (hm : ∀ h ∈ H, h.n ≤ 1000) :
    Calls Try.prog 30 #[.slice A n c] w (OutCh (setsOf H) w) := by
  have hHl : (setsOf H).length = n := by rw [← hN.1]; simp [setsOf]
  have hlen : (flUp (setsOf H) n).length ≤ 2000 * n := flUp_len _ n (fun i hi => by
    have hil : i < H.length := by rw [hN.1]; exact hi
    unfold setsOf
    rw [List.getD_eq_getElem?_getD, List.getElem?_map, List.getElem?_eq_getElem hil]
    show (H[i].s).length ≤ 1000
    rw [(hN.2.2 _ (List.getElem_mem hil)).1]
    exact hm _ (List.getElem_mem hil))
  have hfl := flips_n H n A c w hN hn hm
  have hwf := flUp_wf (setsOf H) n hn
  have HL := Lib.hid hHl
  have HFL := Lib.hid hfl
  have HLn := Lib.hid hlen
  have HWf := Lib.hid hwf
  clear hHl hlen hfl hwf hN hm
  have hd : decide ((n : Int) ≤ 256) = true := decide_eq_true (by omega)
  go_enter Try.func30, Try.ntmps30
  go_wp2_with fail
  refine HFL.out.mono ?_
  rintro e w1 ⟨A1, c1, z, rfl, hz, hown, g1⟩
  have HO := Lib.hid hown
  have hs1 := g1.size
  have hzb : z ≤ 512000 := by have := HLn.out; omega
  have HZ := Lib.hid hz
  clear hown hz HFL
  go_wp2_with fail
  refine (swept_any _ z HZ.out A1 c1 w.heap.size w1 HO.out (by omega) hs1 HWf.out).mono ?_
  rintro e w2 ⟨G, hGp, hGs, hG⟩
  obtain ⟨v, b, rfl⟩ := outBd_ret hG
  have HG : Hid (OutCh (setsOf H) w (.returned (.tuple #[v, .bool b])) w2) := Lib.hid (by
    refine ⟨G, by rw [HL.out]; exact hGp, hGs, ?_⟩
    cases hr : swp k0 [] [] G with
    | none => rw [hr] at hG; exact ⟨hG.1, g1.trans hG.2⟩
    | some bs => rw [hr] at hG; obtain ⟨A5, c5, n5, h1, h2, h3, h4, h5⟩ := hG; exact ⟨A5, c5, n5, h1, h2, h3, h4, g1.trans h5⟩)
  clear hGp hGs hG
  go_wp2_with fail
  go_ret2
  exact HG.out
end Go.Proofs.Ythaageiflimnnaa
/- Parts, in plain mathematics: classes of scalars that no set parts. -/
namespace Go.Proofs.Ythaageiflimnnaa
set_option linter.unusedSimpArgs false
set_option linter.unusedVariables false

/-- Which of the sets have it. -/
def sg (L : List (List Rg)) (v : Int) : List Bool := L.map (fun s => inB s v)

/-- The words of flips up to v. -/
def xrw (k : Nat) (v : Int) : List Fl → Nat
  | [] => 0
  | f :: F => (if f.2.1.toNat = k ∧ f.1 ≤ v then f.2.2.toNat else 0) ^^^ xrw k v F
theorem xrw_app (k : Nat) (v : Int) : ∀ a b, xrw k v (a ++ b) = xrw k v a ^^^ xrw k v b
  | [], b => by simp [xrw]
  | f :: a, b => by
    show _ ^^^ xrw k v (a ++ b) = _ ^^^ xrw k v a ^^^ xrw k v b
    rw [xrw_app k v a b, Nat.xor_assoc]
theorem xrw_perm {k : Nat} {v : Int} {a b : List Fl} (h : a.Perm b) : xrw k v a = xrw k v b := by
  induction h with
  | nil => rfl
  | cons x _ ih => show _ ^^^ _ = _ ^^^ _; rw [ih]
  | swap x y l =>
    show _ ^^^ (_ ^^^ xrw k v l) = _ ^^^ (_ ^^^ xrw k v l)
    rw [← Nat.xor_assoc, ← Nat.xor_assoc]
    congr 1
    exact Nat.xor_comm _ _
  | trans _ _ ih1 ih2 => exact ih1.trans ih2
theorem toNat_pow (n : Nat) : ((2 : Int) ^ n).toNat = 2 ^ n := by
  have h1 : (2 : Int) ^ n = ((2 ^ n : Nat) : Int) := by rw [Int.natCast_pow]; rfl
  rw [h1, Int.toNat_natCast]
/-- What a set's flips come to. -/
theorem xrw_above (k i : Nat) (v : Int) : ∀ (s : List Rg) (m : Int), Gd m s → v ≤ m → xrw k v (flS i s) = 0
  | [], m, _, _ => rfl
  | r :: s, m, h, hv => by
    have e : flS i (r :: s) = fl1 i r ++ flS i s := by simp [flS]
    obtain ⟨h1, h2, h3⟩ := h
    have hn := nx_gt r.2
    have hle := h2.2.2
    rw [e, xrw_app, xrw_above k i v s _ h3 (by omega), Nat.xor_zero]
    unfold fl1
    split
    · have hlt : r.2 < 1114111 := of_decide_eq_true (by assumption)
      have hnn := nextN_nx h2.2.1 hlt
      simp only [xrw]
      rw [if_neg (by omega), if_neg (by omega)]; rfl
    · simp only [xrw]
      rw [if_neg (by omega)]; rfl
theorem xrw_set (k i : Nat) (v : Int) (hv : Sc v) : ∀ (s : List Rg) (m : Int), Gd m s → xrw k v (flS i s) = if i / 64 = k ∧ inB s v = true then 2 ^ (i % 64) else 0
  | [], m, _ => by simp [flS, xrw, inB]
  | r :: s, m, h => by
    have e : flS i (r :: s) = fl1 i r ++ flS i s := by simp [flS]
    have eIn : inB (r :: s) v = ((decide (r.1 ≤ v) && decide (v ≤ r.2)) || inB s v) := by simp [inB]
    obtain ⟨h1, h2, h3⟩ := h
    have hn := nx_gt r.2
    have hle := h2.2.2
    have hi : ((i / 64 : Nat) : Int).toNat = i / 64 := Int.toNat_natCast _
    rcases Int.lt_or_le v r.1 with c1 | c1
    · rw [e, xrw_app, xrw_above k i v s _ h3 (by omega), Nat.xor_zero]
      have hno : inB (r :: s) v = false := by
        rw [Bool.eq_false_iff]
        intro hh
        rcases (In_cons ..).1 ((inB_iff _ _).1 hh) with h4 | h4
        · omega
        · have := h3.in_gt h4; omega
      rw [hno, if_neg (by simp)]
      unfold fl1
      split
      · have hlt : r.2 < 1114111 := of_decide_eq_true (by assumption)
        have hnn := nextN_nx h2.2.1 hlt
        simp only [xrw]
        rw [if_neg (by omega), if_neg (by omega)]; rfl
      · simp only [xrw]
        rw [if_neg (by omega)]; rfl
    · rcases Int.lt_or_le r.2 v with c2 | c2
      · have hlt : r.2 < 1114111 := by unfold Sc at hv; omega
        have hnn := nextN_nx h2.2.1 hlt
        have hnl := nx_le h2.2.1 hv c2
        have hf : fl1 i r = [(r.1, ((i / 64 : Nat) : Int), (2 : Int) ^ (i % 64)), (nextN r.2, ((i / 64 : Nat) : Int), (2 : Int) ^ (i % 64))] := by
          unfold fl1
          rw [if_pos (show nextB r.2 = true from decide_eq_true hlt)]
        rw [e, xrw_app, xrw_set k i v hv s _ h3, hf, eIn, decide_eq_false (show ¬ v ≤ r.2 by omega), Bool.and_false, Bool.false_or]
        simp only [xrw, hi, toNat_pow]
        have c1' : r.1 ≤ v ∧ nextN r.2 ≤ v := by omega
        simp only [c1'.1, c1'.2, and_true]
        rw [Nat.xor_zero, Nat.xor_self, Nat.zero_xor]
      · have hin : inB (r :: s) v = true := by rw [eIn, decide_eq_true c1, decide_eq_true c2]; rfl
        rw [e, xrw_app, xrw_above k i v s _ h3 (by omega), Nat.xor_zero, hin]
        unfold fl1
        split
        · have hlt : r.2 < 1114111 := of_decide_eq_true (by assumption)
          have hnn := nextN_nx h2.2.1 hlt
          simp only [xrw, hi, toNat_pow]
          rw [if_neg (show ¬ (i / 64 = k ∧ nextN r.2 ≤ v) by omega)]
          simp only [c1, and_true, Nat.xor_zero]
        · simp only [xrw, hi, toNat_pow]
          simp only [c1, and_true, Nat.xor_zero]
/-- Bit by bit: the words of all sets' flips are which sets have it. -/
theorem xrw_bit (L : List (List Rg)) (hL : ∀ s ∈ L, Gd (-1) s) (v : Int) (hv : Sc v) (k j : Nat) (hj : j < 64) : ∀ n, n ≤ L.length → (xrw k v (flUp L n)).testBit j = (decide (64 * k + j < n) && (sg L v).getD (64 * k + j) false)
  | 0, _ => by simp [flUp, xrw]
  | n + 1, hn => by
    have hm : L[n] ∈ L := List.getElem_mem (by omega)
    have eg : L.getD n [] = L[n] := by rw [List.getD_eq_getElem?_getD, List.getElem?_eq_getElem (by omega)]; rfl
    have es : (sg L v).getD n false = inB L[n] v := by
      unfold sg
      rw [List.getD_eq_getElem?_getD, List.getElem?_map, List.getElem?_eq_getElem (show n < L.length by omega)]; rfl
    show (xrw k v (flUp L n ++ flS n (L.getD n []))).testBit j = _
    rw [xrw_app, Nat.testBit_xor, xrw_bit L hL v hv k j hj n (by omega), eg, xrw_set k n v hv _ _ (hL _ hm)]
    by_cases e : 64 * k + j = n
    · have e1 : n / 64 = k := by omega
      have e2 : n % 64 = j := by omega
      rw [e, es, decide_eq_false (show ¬ n < n by omega), decide_eq_true (show n < n + 1 by omega), e1, e2]
      cases hb : inB L[n] v
      · simp
      · simp [Nat.testBit_two_pow]
    · have e3 : (if n / 64 = k ∧ inB L[n] v = true then 2 ^ (n % 64) else 0).testBit j = false := by
        split
        · rename_i hh
          rw [Nat.testBit_two_pow]
          exact decide_eq_false (by omega)
        · simp
      rw [e3, Bool.xor_false]
      congr 1
      have : (64 * k + j < n) ↔ (64 * k + j < n + 1) := by omega
      simp [this]
/-- Words alike: the same sets. -/
theorem sg_of_words (L : List (List Rg)) (hL : ∀ s ∈ L, Gd (-1) s) (hn : L.length ≤ 256) {u v : Int} (hu : Sc u) (hv : Sc v) (h : ∀ k, k < 4 → xrw k u (flUp L L.length) = xrw k v (flUp L L.length)) : sg L u = sg L v := by
  apply List.ext_getElem (by simp [sg])
  intro i h1 h2
  have hi : i < L.length := by simpa [sg] using h1
  have hk : i / 64 < 4 := by omega
  have e : (xrw (i / 64) u (flUp L L.length)).testBit (i % 64) = (xrw (i / 64) v (flUp L L.length)).testBit (i % 64) := by rw [h (i / 64) hk]
  rw [xrw_bit L hL u hu _ _ (by omega) _ (Nat.le_refl _), xrw_bit L hL v hv _ _ (by omega) _ (Nat.le_refl _)] at e
  have ei : 64 * (i / 64) + i % 64 = i := by omega
  rw [ei, decide_eq_true hi, Bool.true_and, Bool.true_and, List.getD_eq_getElem?_getD, List.getD_eq_getElem?_getD, List.getElem?_eq_getElem h1, List.getElem?_eq_getElem h2] at e
  exact e
theorem words_of_sg (L : List (List Rg)) (hL : ∀ s ∈ L, Gd (-1) s) {u v : Int} (hu : Sc u) (hv : Sc v) (h : sg L u = sg L v) (k : Nat) : ∀ n, n ≤ L.length → xrw k u (flUp L n) = xrw k v (flUp L n)
  | 0, _ => rfl
  | n + 1, hn => by
    have hm : L[n] ∈ L := List.getElem_mem (by omega)
    have eg : L.getD n [] = L[n] := by rw [List.getD_eq_getElem?_getD, List.getElem?_eq_getElem (by omega)]; rfl
    have ei : inB L[n] u = inB L[n] v := by
      have e := congrArg (fun l => l[n]?) h
      simp only [sg, List.getElem?_map, List.getElem?_eq_getElem (show n < L.length by omega), Option.map_some, Option.some.injEq] at e
      exact e
    show xrw k u (flUp L n ++ flS n (L.getD n [])) = xrw k v (flUp L n ++ flS n (L.getD n []))
    rw [xrw_app, xrw_app, words_of_sg L hL hu hv h k n (by omega), eg, xrw_set k n u hu _ _ (hL _ hm), xrw_set k n v hv _ _ (hL _ hm), ei]
end Go.Proofs.Ythaageiflimnnaa
/- What sweeping tells. -/
namespace Go.Proofs.Ythaageiflimnnaa
set_option linter.unusedSimpArgs false
set_option linter.unusedVariables false

def xall (k : Nat) : List Fl → Nat
  | [] => 0
  | f :: F => (if f.2.1.toNat = k then f.2.2.toNat else 0) ^^^ xall k F
theorem xrw_all {k : Nat} {v : Int} : ∀ {F : List Fl}, (∀ f ∈ F, f.1 ≤ v) → xrw k v F = xall k F
  | [], _ => rfl
  | f :: F, h => by
    show (if f.2.1.toNat = k ∧ f.1 ≤ v then f.2.2.toNat else 0) ^^^ xrw k v F = (if f.2.1.toNat = k then f.2.2.toNat else 0) ^^^ xall k F
    rw [xrw_all (F := F) (fun g hg => h g (List.mem_cons_of_mem _ hg))]
    simp [h f (List.mem_cons_self ..)]
theorem xrw_none {k : Nat} {v : Int} : ∀ {F : List Fl}, (∀ f ∈ F, v < f.1) → xrw k v F = 0
  | [], _ => rfl
  | f :: F, h => by
    show (if f.2.1.toNat = k ∧ f.1 ≤ v then f.2.2.toNat else 0) ^^^ xrw k v F = 0
    rw [xrw_none (F := F) (fun g hg => h g (List.mem_cons_of_mem _ hg)), if_neg (by have := h f (List.mem_cons_self ..); omega)]
    rfl
def kfold (k : K4) (F : List Fl) : K4 := F.foldl kflip k
theorem kget_flip (k : K4) (f : Fl) (hf : Fwf f) (j : Nat) (hj : j < 4) : (kget (kflip k f) j).toNat = (kget k j).toNat ^^^ (if f.2.1.toNat = j then f.2.2.toNat else 0) := by
  obtain ⟨h0, h4, _⟩ := hf
  unfold kflip
  rw [kget_set k _ j _ (by omega) hj]
  by_cases e : j = f.2.1.toNat
  · rw [if_pos e, if_pos e.symm, ← e]
    simp [xorI]
  · rw [if_neg e, if_neg (fun h => e h.symm)]
    simp
theorem kget_fold (j : Nat) (hj : j < 4) : ∀ (F : List Fl) (k : K4), (∀ f ∈ F, Fwf f) → (kget (kfold k F) j).toNat = (kget k j).toNat ^^^ xall j F
  | [], k, _ => by simp [kfold, xall]
  | f :: F, k, h => by
    show (kget (kfold (kflip k f) F) j).toNat = _ ^^^ (_ ^^^ xall j F)
    rw [kget_fold j hj F _ (fun g hg => h g (List.mem_cons_of_mem _ hg)), kget_flip k f (h f (List.mem_cons_self ..)) j hj, Nat.xor_assoc]
theorem kwf_fold : ∀ (F : List Fl) (k : K4), Kwf k → (∀ f ∈ F, Fwf f) → Kwf (kfold k F)
  | [], k, hk, _ => hk
  | f :: F, k, hk, h => kwf_fold F _ (kflip_wf hk (h f (List.mem_cons_self ..)).2.2) (fun g hg => h g (List.mem_cons_of_mem _ hg))
theorem kwf_k0 : Kwf k0 := by simp [Kwf, U64, k0]
/-- The words at v. -/
def kk (G : List Fl) (v : Int) : K4 := ((xrw 0 v G : Nat), (xrw 1 v G : Nat), (xrw 2 v G : Nat), (xrw 3 v G : Nat))
theorem k4_ext {a b : K4} (ha : Kwf a) (h : ∀ j, j < 4 → (kget a j).toNat = (kget b j).toNat) (hb : ∀ j, j < 4 → 0 ≤ kget b j) : a = b := by
  obtain ⟨a0, a1, a2, a3⟩ := a
  obtain ⟨b0, b1, b2, b3⟩ := b
  obtain ⟨w0, w1, w2, w3⟩ := ha
  unfold U64 at *
  have e0 := h 0 (by omega)
  have e1 := h 1 (by omega)
  have e2 := h 2 (by omega)
  have e3 := h 3 (by omega)
  have f0 := hb 0 (by omega)
  have f1 := hb 1 (by omega)
  have f2 := hb 2 (by omega)
  have f3 := hb 3 (by omega)
  simp only [kget] at *
  simp only [Prod.mk.injEq]
  refine ⟨?_, ?_, ?_, ?_⟩ <;> omega
theorem kk_get (G : List Fl) (v : Int) (j : Nat) (hj : j < 4) : kget (kk G v) j = (xrw j v G : Nat) := by
  match j, hj with
  | 0, _ | 1, _ | 2, _ | 3, _ => rfl
theorem kk_fold {pre rest : List Fl} {v : Int} (hw : ∀ f ∈ pre, Fwf f) (h1 : ∀ f ∈ pre, f.1 ≤ v) (h2 : ∀ f ∈ rest, v < f.1) : kfold k0 pre = kk (pre ++ rest) v := by
  refine k4_ext (kwf_fold _ _ kwf_k0 hw) (fun j hj => ?_) (fun j hj => by rw [kk_get _ _ j hj]; omega)
  rw [kget_fold j hj _ _ hw, kk_get _ _ j hj, xrw_app, xrw_all h1, xrw_none h2]
  have e : (kget k0 j).toNat = 0 := by
    match j, hj with
    | 0, _ | 1, _ | 2, _ | 3, _ => rfl
  rw [e]
  simp
theorem kk_words {G : List Fl} {u v : Int} : kk G u = kk G v ↔ ∀ k, k < 4 → xrw k u G = xrw k v G := by
  constructor
  · intro h k hk
    have := congrArg (fun x => kget x k) h
    simp only [kk_get _ _ k hk] at this
    omega
  · intro h
    unfold kk
    rw [h 0 (by omega), h 1 (by omega), h 2 (by omega), h 3 (by omega)]

/-- In sweeping: what has been told of the flips gone through. -/
structure SwI (G pre rest : List Fl) (ks : List K4) (bs : List Rg) : Prop where
  eq : G = pre ++ rest
  inc : (bs.map (·.1)).Pairwise (· < ·)
  low : ∀ b ∈ bs, ∀ f ∈ rest, b.1 < f.1
  cov : ∀ f ∈ pre, (∃ b ∈ bs, b.1 = f.1) ∨ ∃ g t, rest = g :: t ∧ g.1 = f.1
  from_ : ∀ b ∈ bs, ∃ f ∈ pre, f.1 = b.1
  cls : ∀ b ∈ bs, ∃ c : Nat, b.2 = c ∧ ks[c]? = some (kk G b.1)
  nd : ks.Nodup
  met : ∀ i (hi : i < bs.length) (c : Nat), (c : Int) < bs[i].2 → ∃ j, ∃ hj : j < i, (bs[j]'(by omega)).2 = c
  all : ∀ c, c < ks.length → ∃ b ∈ bs, b.2 = (c : Int)
theorem swI_start (G : List Fl) : SwI G [] G [] [] := ⟨rfl, List.Pairwise.nil, fun b h => by simp at h, fun f h => by simp at h, fun b h => by simp at h, fun b h => by simp at h, List.nodup_nil, fun i hi => by simp at hi, fun c hc => by simp at hc⟩
theorem sorted_rest {f : Fl} {t : List Fl} (hs : (f :: t).Pairwise (fun a b : Fl => a.1 ≤ b.1)) (h : sameAt f t = false) : ∀ g ∈ t, f.1 < g.1 := by
  intro g hg
  rw [List.pairwise_cons] at hs
  have h1 := hs.1 g hg
  cases t with
  | nil => simp at hg
  | cons x t =>
    have hx : x.1 ≠ f.1 := by
      intro e
      simp [sameAt, e] at h
    have h2 := hs.1 x (List.mem_cons_self ..)
    rcases List.mem_cons.1 hg with rfl | hg'
    · omega
    · have := (List.pairwise_cons.1 hs.2).1 g hg'
      omega
theorem swI_same {G pre t : List Fl} {f : Fl} {ks : List K4} {bs : List Rg} (h : SwI G pre (f :: t) ks bs) (hs : sameAt f t = true) : SwI G (pre ++ [f]) t ks bs := by
  have hne : ∃ g t', t = g :: t' ∧ g.1 = f.1 := by
    cases t with
    | nil => simp [sameAt] at hs
    | cons g t' => exact ⟨g, t', rfl, by simpa [sameAt] using hs⟩
  refine ⟨by rw [h.eq]; simp, h.inc, fun b hb g hg => h.low b hb g (List.mem_cons_of_mem _ hg), ?_, ?_, h.cls, h.nd, h.met, h.all⟩
  · intro g hg
    rcases List.mem_append.1 hg with hg | hg
    · rcases h.cov g hg with h1 | ⟨x, t', e, h1⟩
      · exact .inl h1
      · injection e with e1 e2
        subst e1
        obtain ⟨y, t'', e, h2⟩ := hne
        exact .inr ⟨y, t'', e, by omega⟩
    · rw [List.mem_singleton] at hg
      subst hg
      exact .inr hne
  · intro b hb
    obtain ⟨g, hg, e⟩ := h.from_ b hb
    exact ⟨g, List.mem_append.2 (.inl hg), e⟩
/-- A band more. -/
theorem swI_band {G pre t : List Fl} {f : Fl} {ks ks' : List K4} {bs : List Rg} {c : Nat} (hp : G.Pairwise (fun a b : Fl => a.1 ≤ b.1)) (h : SwI G pre (f :: t) ks bs) (hs : sameAt f t = false)
    (hc : ks'[c]? = some (kk G f.1)) (hpre : ∀ (i : Nat) (x : K4), ks[i]? = some x → ks'[i]? = some x) (hnd : ks'.Nodup) (hle : c ≤ ks.length) (hall : ∀ i, i < ks'.length → i < ks.length ∨ i = c) : SwI G (pre ++ [f]) t ks' (bs ++ [(f.1, (c : Int))]) := by
  have hsf : (f :: t).Pairwise (fun a b : Fl => a.1 ≤ b.1) := by rw [h.eq] at hp; exact (List.pairwise_append.1 hp).2.1
  have hr := sorted_rest hsf hs
  refine ⟨by rw [h.eq]; simp, ?_, ?_, ?_, ?_, ?_, hnd, ?_, ?_⟩
  · rw [List.map_append, List.pairwise_append]
    refine ⟨h.inc, List.pairwise_singleton _ _, fun x hx y hy => ?_⟩
    obtain ⟨b, hb, rfl⟩ := List.mem_map.1 hx
    simp at hy
    subst hy
    exact h.low b hb f (List.mem_cons_self ..)
  · intro b hb g hg
    rcases List.mem_append.1 hb with hb | hb
    · exact h.low b hb g (List.mem_cons_of_mem _ hg)
    · rw [List.mem_singleton] at hb
      subst hb
      exact hr g hg
  · intro g hg
    rcases List.mem_append.1 hg with hg | hg
    · rcases h.cov g hg with ⟨b, hb, e⟩ | ⟨x, t', e, h1⟩
      · exact .inl ⟨b, List.mem_append.2 (.inl hb), e⟩
      · injection e with e1 e2
        subst e1
        exact .inl ⟨_, List.mem_append.2 (.inr (List.mem_singleton.2 rfl)), h1⟩
    · rw [List.mem_singleton] at hg
      subst hg
      exact .inl ⟨_, List.mem_append.2 (.inr (List.mem_singleton.2 rfl)), rfl⟩
  · intro b hb
    rcases List.mem_append.1 hb with hb | hb
    · obtain ⟨g, hg, e⟩ := h.from_ b hb
      exact ⟨g, List.mem_append.2 (.inl hg), e⟩
    · rw [List.mem_singleton] at hb
      subst hb
      exact ⟨f, List.mem_append.2 (.inr (List.mem_singleton.2 rfl)), rfl⟩
  · intro b hb
    rcases List.mem_append.1 hb with hb | hb
    · obtain ⟨c', e, h1⟩ := h.cls b hb
      exact ⟨c', e, hpre _ _ h1⟩
    · rw [List.mem_singleton] at hb
      subst hb
      exact ⟨c, rfl, hc⟩
  · intro i hi c' hc'
    rw [List.length_append] at hi
    simp only [List.length_cons, List.length_nil] at hi
    by_cases hi' : i < bs.length
    · rw [List.getElem_append_left hi'] at hc'
      obtain ⟨j, hj, e⟩ := h.met i hi' c' hc'
      exact ⟨j, hj, by rw [List.getElem_append_left (by omega)]; exact e⟩
    · rw [List.getElem_append_right (by omega)] at hc'
      simp at hc'
      obtain ⟨b, hb, e⟩ := h.all c' (by omega)
      obtain ⟨j, hj, rfl⟩ := List.getElem_of_mem hb
      exact ⟨j, by omega, by rw [List.getElem_append_left hj]; exact e⟩
  · intro i hi
    rcases hall i hi with h1 | h1
    · obtain ⟨b, hb, e⟩ := h.all i h1
      exact ⟨b, List.mem_append.2 (.inl hb), e⟩
    · subst h1
      exact ⟨_, List.mem_append.2 (.inr (List.mem_singleton.2 rfl)), rfl⟩
/-- What sweeping returns. -/
theorem swp_tells {G : List Fl} (hp : G.Pairwise (fun a b : Fl => a.1 ≤ b.1)) (hw : ∀ f ∈ G, Fwf f) : ∀ (rest pre : List Fl) (ks : List K4) (bs : List Rg), SwI G pre rest ks bs → ks.length ≤ 256 →
    match swp (kfold k0 pre) ks bs rest with
    | some r => ∃ ks', ks'.length ≤ 256 ∧ SwI G G [] ks' r
    | none => ∃ ks' : List K4, ks'.Nodup ∧ 257 ≤ ks'.length ∧ ∀ k ∈ ks', ∃ f ∈ G, kk G f.1 = k
  | [], pre, ks, bs, h, hk => by
    have e : G = pre := by rw [h.eq]; simp
    simp only [swp]
    rw [← e] at h
    exact ⟨ks, hk, h⟩
  | f :: t, pre, ks, bs, h, hk => by
    have hfold : kflip (kfold k0 pre) f = kfold k0 (pre ++ [f]) := by simp [kfold]
    have hfm : f ∈ G := by rw [h.eq]; simp
    cases hs : sameAt f t
    · have hsf : (f :: t).Pairwise (fun a b : Fl => a.1 ≤ b.1) := by rw [h.eq] at hp; exact (List.pairwise_append.1 hp).2.1
      have hr := sorted_rest hsf hs
      have hle : ∀ g ∈ pre ++ [f], g.1 ≤ f.1 := by
        intro g hg
        rcases List.mem_append.1 hg with hg | hg
        · rw [h.eq] at hp
          exact (List.pairwise_append.1 hp).2.2 g hg f (List.mem_cons_self ..)
        · rw [List.mem_singleton] at hg; subst hg; exact Int.le_refl _
      have hwp : ∀ g ∈ pre ++ [f], Fwf g := by
        intro g hg
        rcases List.mem_append.1 hg with hg | hg
        · exact hw g (by rw [h.eq]; exact List.mem_append.2 (.inl hg))
        · rw [List.mem_singleton] at hg; subst hg; exact hw _ hfm
      have hkey : kfold k0 (pre ++ [f]) = kk G f.1 := by
        have h1 := kk_fold (pre := pre ++ [f]) (rest := t) (v := f.1) hwp hle hr
        rw [h1, h.eq]
        simp
      have hstep : swp (kfold k0 pre) ks bs (f :: t) = if kk G f.1 ∈ ks then swp (kfold k0 (pre ++ [f])) ks (bs ++ [(f.1, (ks.idxOf (kk G f.1) : Int))]) t else if 256 ≤ ks.length then none else swp (kfold k0 (pre ++ [f])) (ks ++ [kk G f.1]) (bs ++ [(f.1, (ks.length : Int))]) t := by
        rw [swp_step hs, hfold, hkey]
      rw [hstep]
      by_cases hin : kk G f.1 ∈ ks
      · rw [if_pos hin]
        have hidx : ks.idxOf (kk G f.1) < ks.length := List.idxOf_lt_length_of_mem hin
        have hI := swI_band (c := ks.idxOf (kk G f.1)) (ks' := ks) hp h hs (by rw [List.getElem?_eq_getElem hidx, List.getElem_idxOf]) (fun i x hx => hx) h.nd (by omega) (fun i hi => .inl hi)
        exact swp_tells hp hw t _ _ _ hI hk
      · rw [if_neg hin]
        have hnd : (ks ++ [kk G f.1]).Nodup := by
          rw [List.nodup_append]
          exact ⟨h.nd, by simp, fun a ha b hb => by rw [List.mem_singleton] at hb; subst hb; exact fun e => hin (e ▸ ha)⟩
        by_cases hbig : 256 ≤ ks.length
        · rw [if_pos hbig]
          refine ⟨ks ++ [kk G f.1], hnd, by rw [List.length_append]; simp; omega, ?_⟩
          intro k hk'
          rcases List.mem_append.1 hk' with hk' | hk'
          · obtain ⟨i, hi, rfl⟩ := List.getElem_of_mem hk'
            obtain ⟨b, hb, e⟩ := h.all i hi
            obtain ⟨c', e', h1⟩ := h.cls b hb
            obtain ⟨g, hg, e2⟩ := h.from_ b hb
            have hci : c' = i := by omega
            subst hci
            rw [List.getElem?_eq_getElem hi] at h1
            exact ⟨g, by rw [h.eq]; exact List.mem_append.2 (.inl hg), by rw [e2]; exact (Option.some.inj h1).symm⟩
          · rw [List.mem_singleton] at hk'
            subst hk'
            exact ⟨f, hfm, rfl⟩
        · rw [if_neg hbig]
          have hI := swI_band (c := ks.length) (ks' := ks ++ [kk G f.1]) hp h hs (by simp) (fun i x hx => by rw [List.getElem?_append_left (List.getElem?_eq_some_iff.1 hx).1]; exact hx) hnd (Nat.le_refl _) (fun i hi => by rw [List.length_append] at hi; simp at hi; omega)
          exact swp_tells hp hw t _ _ _ hI (by rw [List.length_append]; simp; omega)
    · have e : swp (kfold k0 pre) ks bs (f :: t) = swp (kfold k0 (pre ++ [f])) ks bs t := by rw [swp_same hs, hfold]
      rw [e]
      exact swp_tells hp hw t _ _ _ (swI_same h hs) hk
end Go.Proofs.Ythaageiflimnnaa
/- Bands where the class changes, and the parts gathered of them. -/
namespace Go.Proofs.Ythaageiflimnnaa
set_option linter.unusedSimpArgs false
set_option linter.unusedVariables false

/-- Alike to all sets. -/
def Ek (L : List (List Rg)) (u v : Int) : Prop := sg L u = sg L v
structure IsEq (E : Int → Int → Prop) : Prop where
  refl : ∀ v, E v v
  symm : ∀ {u v}, E u v → E v u
  trans : ∀ {u v x}, E u v → E v x → E u x
theorem ek_eq (L : List (List Rg)) : IsEq (Ek L) := ⟨fun _ => rfl, fun h => h.symm, fun h1 h2 => h1.trans h2⟩
/-- Bands that tell the class of each scalar. -/
structure Chg (E : Int → Int → Prop) (bs : List Rg) : Prop where
  inc : Inc (-1) (bs.map (·.1))
  sc : ∀ b ∈ bs, Sc b.1
  zero : ∃ h : 0 < bs.length, bs[0].1 = 0
  const : ∀ i (hi : i < bs.length) v, Sc v → bs[i].1 ≤ v → (∀ hh : i + 1 < bs.length, v < bs[i + 1].1) → E v bs[i].1
  cls : ∀ i j (hi : i < bs.length) (hj : j < bs.length), bs[i].2 = bs[j].2 ↔ E bs[i].1 bs[j].1
  nn : ∀ b ∈ bs, 0 ≤ b.2
  met : ∀ i (hi : i < bs.length) (c : Nat), (c : Int) < bs[i].2 → ∃ j, ∃ hj : j < i, (bs[j]'(by omega)).2 = c
  step : ∀ i (h : i + 1 < bs.length), ¬ E bs[i].1 bs[i + 1].1

theorem inc_of : ∀ (l : List Int) (m : Int), l.Pairwise (· < ·) → (∀ x ∈ l, m < x) → Inc m l
  | [], _, _, _ => trivial
  | x :: l, m, h, hm => by
    rw [List.pairwise_cons] at h
    exact ⟨hm x (List.mem_cons_self ..), inc_of l x h.2 h.1⟩
theorem flUp_mem (L : List (List Rg)) : ∀ n, n ≤ L.length → ∀ f ∈ flUp L n, ∃ s ∈ L, ∃ r ∈ s, f.1 = r.1 ∨ (nextB r.2 = true ∧ f.1 = nextN r.2)
  | 0, _, f, hf => by simp [flUp] at hf
  | n + 1, hn, f, hf => by
    rcases List.mem_append.1 hf with hf | hf
    · exact flUp_mem L n (by omega) f hf
    · have eg : L.getD n [] = L[n] := by rw [List.getD_eq_getElem?_getD, List.getElem?_eq_getElem (by omega)]; rfl
      rw [eg] at hf
      obtain ⟨r, hr, hf⟩ := List.mem_flatMap.1 hf
      refine ⟨L[n], List.getElem_mem _, r, hr, ?_⟩
      unfold fl1 at hf
      split at hf
      · rename_i hb
        simp only [List.mem_cons, List.not_mem_nil, or_false] at hf
        rcases hf with rfl | rfl
        · exact .inl rfl
        · exact .inr ⟨hb, rfl⟩
      · simp only [List.mem_cons, List.not_mem_nil, or_false] at hf
        subst hf
        exact .inl rfl
theorem flUp_has (L : List (List Rg)) : ∀ n, n ≤ L.length → ∀ i (hi : i < n) (hL : i < L.length) r, r ∈ L[i] → (∃ f ∈ flUp L n, f.1 = r.1) ∧ (nextB r.2 = true → ∃ f ∈ flUp L n, f.1 = nextN r.2)
  | n + 1, hn, i, hi, hL, r, hr => by
    by_cases e : i = n
    · subst e
      have eg : L.getD i [] = L[i] := by rw [List.getD_eq_getElem?_getD, List.getElem?_eq_getElem (by omega)]; rfl
      have hm : ∀ f ∈ fl1 i r, f ∈ flUp L (i + 1) := fun f hf => List.mem_append.2 (.inr (List.mem_flatMap.2 ⟨r, by rw [eg]; exact hr, hf⟩))
      constructor
      · refine ⟨_, hm (r.1, ((i / 64 : Nat) : Int), 2 ^ (i % 64)) ?_, rfl⟩
        unfold fl1
        split <;> simp
      · intro hb
        refine ⟨_, hm (nextN r.2, ((i / 64 : Nat) : Int), 2 ^ (i % 64)) ?_, rfl⟩
        unfold fl1
        rw [if_pos hb]
        simp
    · obtain ⟨⟨f, hf, h1⟩, h2⟩ := flUp_has L n (by omega) i (by omega) hL r hr
      refine ⟨⟨f, List.mem_append.2 (.inl hf), h1⟩, fun hb => ?_⟩
      obtain ⟨g, hg, h3⟩ := h2 hb
      exact ⟨g, List.mem_append.2 (.inl hg), h3⟩
theorem sc0 : Sc 0 := by unfold Sc; omega
theorem sg_ne {L : List (List Rg)} {s : List Rg} (hs : s ∈ L) {u v : Int} (h : inB s u ≠ inB s v) : ¬ Ek L u v := by
  intro e
  obtain ⟨i, hi, rfl⟩ := List.getElem_of_mem hs
  have e' := congrArg (fun l => l[i]?) e
  simp only [sg, List.getElem?_map, List.getElem?_eq_getElem hi, Option.map_some, Option.some.injEq] at e'
  exact h e'
/-- In a set that may be, a range's beginning is in it and what is ahead is not. -/
theorem gd_edge : ∀ (s : List Rg) (m : Int), Gd m s → ∀ r ∈ s, (∀ u, Sc u → u < r.1 → nx u = r.1 → ¬ In s u) ∧ (r.2 < 1114111 → ¬ In s (nx r.2))
  | x :: s, m, h, r, hr => by
    obtain ⟨h1, h2, h3⟩ := h
    have hle := h2.2.2
    have hg := nx_gt x.2
    rcases List.mem_cons.1 hr with rfl | hr
    · constructor
      · intro u hu hlt hnx hi
        rcases (In_cons ..).1 hi with h4 | h4
        · omega
        · have := h3.in_gt h4; omega
      · intro hlt hi
        rcases (In_cons ..).1 hi with h4 | h4
        · omega
        · have := h3.in_gt h4; omega
    · obtain ⟨e1, e2⟩ := gd_edge s _ h3 r hr
      have hrl := h3.lo r hr
      constructor
      · intro u hu hlt hnx hi
        rcases (In_cons ..).1 hi with h4 | h4
        · have hmono : nx u ≤ nx x.2 := by
            rcases Int.lt_or_le u x.2 with h5 | h5
            · have := nx_le hu h2.2.1 h5; omega
            · have : u = x.2 := by omega
              subst this; exact Int.le_refl _
          omega
        · exact e1 u hu hlt hnx h4
      · intro hlt hi
        rcases (In_cons ..).1 hi with h4 | h4
        · have := nx_gt r.2
          have := hrl.2.2.2
          omega
        · exact e2 hlt h4
/-- What sweeping gives are bands. -/
theorem chg_of {L : List (List Rg)} (hL : ∀ s ∈ L, Gd (-1) s) (hn : L.length ≤ 256) {G : List Fl} (hG : G.Perm (flUp L L.length ++ [(0, 0, 0)])) {ks : List K4} {bs : List Rg} (h : SwI G G [] ks bs) : Chg (Ek L) bs := by
  have hx : ∀ k v, xrw k v G = xrw k v (flUp L L.length) := by
    intro k v
    rw [xrw_perm hG, xrw_app]
    have : xrw k v [(0, 0, 0)] = 0 := by simp [xrw]
    rw [this, Nat.xor_zero]
  have hsc : ∀ f ∈ G, Sc f.1 := by
    intro f hf
    rcases List.mem_append.1 (hG.mem_iff.1 hf) with hf | hf
    · obtain ⟨s, hs, r, hr, e⟩ := flUp_mem L _ (Nat.le_refl _) f hf
      have ho := ((hL s hs).lo r hr).2
      rcases e with e | ⟨hb, e⟩
      · rw [e]; exact ho.1
      · have hlt : r.2 < 1114111 := of_decide_eq_true hb
        rw [e, nextN_nx ho.2.1 hlt]
        exact nx_sc ho.2.1 hlt
    · rw [List.mem_singleton] at hf; subst hf; exact sc0
  have hbs : ∀ b ∈ bs, Sc b.1 := fun b hb => by
    obtain ⟨f, hf, e⟩ := h.from_ b hb
    rw [← e]; exact hsc f hf
  have hkk : ∀ {u v}, Sc u → Sc v → (kk G u = kk G v ↔ Ek L u v) := by
    intro u v hu hv
    rw [kk_words]
    constructor
    · intro hh
      exact sg_of_words L hL hn hu hv (fun k hk => by rw [← hx, ← hx]; exact hh k hk)
    · intro hh k hk
      rw [hx, hx]
      exact words_of_sg L hL hu hv hh k _ (Nat.le_refl _)
  have hin : Inc (-1) (bs.map (·.1)) := inc_of _ _ h.inc (fun x hx => by
    obtain ⟨b, hb, rfl⟩ := List.mem_map.1 hx
    have := hbs b hb
    unfold Sc at this
    omega)
  have hcov : ∀ f ∈ G, f.1 ∈ bs.map (·.1) := fun f hf => by
    rcases h.cov f hf with ⟨b, hb, e⟩ | ⟨g, t, e, _⟩
    · exact List.mem_map.2 ⟨b, hb, e⟩
    · simp at e
  have h0 : (0 : Int) ∈ bs.map (·.1) := hcov (0, 0, 0) (hG.mem_iff.2 (List.mem_append.2 (.inr (List.mem_singleton.2 rfl))))
  have hz := zero_first hin h0
  have hcon : ∀ i (hi : i < bs.length) v, Sc v → bs[i].1 ≤ v → (∀ hh : i + 1 < bs.length, v < bs[i + 1].1) → Ek L v bs[i].1 := by
    intro i hi v hv h1 h2
    have hbi := hbs _ (List.getElem_mem hi)
    refine (hkk hv hbi).1 (kk_words.2 fun k hk => ?_)
    have key : ∀ f ∈ G, f.1 ≤ v → f.1 ≤ bs[i].1 := by
      intro f hf hfv
      obtain ⟨j, hj, e⟩ := List.getElem_of_mem (hcov f hf)
      have hj' : j < bs.length := by simpa using hj
      have e' : bs[j].1 = f.1 := by simpa using e
      rcases Nat.lt_or_ge i j with hij | hij
      · exfalso
        have h3 := h2 (by omega)
        have h4 : bs[i + 1].1 ≤ bs[j].1 := by
          rcases Nat.lt_or_ge (i + 1) j with h5 | h5
          · have := hin.mono (i + 1) j (by simp; omega) (by simpa using hj') h5
            simp at this
            omega
          · have e5 : j = i + 1 := by omega
            subst e5; exact Int.le_refl _
        omega
      · rcases Nat.lt_or_ge j i with h5 | h5
        · have := hin.mono j i (by simpa using hj') (by simpa using hi) h5
          simp at this
          omega
        · have e5 : j = i := by omega
          subst e5; omega
    have hxx : ∀ (F : List Fl), (∀ f ∈ F, f ∈ G) → xrw k v F = xrw k bs[i].1 F := by
      intro F
      induction F with
      | nil => intro _; rfl
      | cons f F ih =>
        intro hF
        show _ ^^^ xrw k v F = _ ^^^ xrw k bs[i].1 F
        rw [ih (fun g hg => hF g (List.mem_cons_of_mem _ hg))]
        have : (f.2.1.toNat = k ∧ f.1 ≤ v) ↔ (f.2.1.toNat = k ∧ f.1 ≤ bs[i].1) := by
          have := key f (hF f (List.mem_cons_self ..))
          constructor
          · rintro ⟨a, b⟩; exact ⟨a, this b⟩
          · rintro ⟨a, b⟩; exact ⟨a, by omega⟩
        simp only [this]
    exact hxx G (fun f hf => hf)
  refine ⟨hin, hbs, ⟨by simpa using hz.1, by have := hz.2; simpa using this⟩, hcon, ?_, ?_, h.met, ?_⟩
  · intro i j hi hj
    obtain ⟨c, e1, h1⟩ := h.cls _ (List.getElem_mem hi)
    obtain ⟨d, e2, h2⟩ := h.cls _ (List.getElem_mem hj)
    rw [← hkk (hbs _ (List.getElem_mem hi)) (hbs _ (List.getElem_mem hj))]
    constructor
    · intro e
      have : c = d := by omega
      subst this
      rw [h1] at h2
      exact Option.some.inj h2
    · intro e
      rw [e] at h1
      obtain ⟨hc, hc'⟩ := List.getElem?_eq_some_iff.1 h1
      obtain ⟨hd, hd'⟩ := List.getElem?_eq_some_iff.1 h2
      have := (List.getElem_inj h.nd (i := c) (j := d) (h₀ := hc) (h₁ := hd)).1 (by rw [hc', hd'])
      omega
  · intro b hb
    obtain ⟨c, e1, h1⟩ := h.cls b hb
    omega
  · intro i hi
    have hb1 := hbs _ (List.getElem_mem hi)
    have hb0 := hbs _ (List.getElem_mem (show i < bs.length by omega))
    have hlt : bs[i].1 < bs[i + 1].1 := by
      have := hin.mono i (i + 1) (by simp; omega) (by simpa using hi) (by omega)
      simpa using this
    have hpos : 0 < bs[i + 1].1 := by unfold Sc at hb0; omega
    obtain ⟨p1, p2, p3⟩ := prev_facts hb1 hpos
    have hge := prev_ge hb0 hb1 hlt
    have hsame : Ek L (prevN bs[i + 1].1) bs[i].1 := hcon i (by omega) _ p1 hge (fun _ => by omega)
    obtain ⟨f, hf, e⟩ := h.from_ _ (List.getElem_mem hi)
    rcases List.mem_append.1 (hG.mem_iff.1 hf) with hf | hf
    · obtain ⟨s, hs, r, hr, e2⟩ := flUp_mem L _ (Nat.le_refl _) f hf
      have ho := ((hL s hs).lo r hr).2
      obtain ⟨g1, g2⟩ := gd_edge s _ (hL s hs) r hr
      have hne : inB s (prevN bs[i + 1].1) ≠ inB s bs[i + 1].1 := by
        rcases e2 with e2 | ⟨hb, e2⟩
        · have ha : inB s bs[i + 1].1 = true := (inB_iff _ _).2 ⟨r, hr, by omega, by have := ho.2.2; omega⟩
          have hb' : inB s (prevN bs[i + 1].1) = false := by
            rw [Bool.eq_false_iff]
            exact fun hh => g1 _ p1 (by omega) (by omega) ((inB_iff _ _).1 hh)
          rw [ha, hb']; decide
        · have hlt' : r.2 < 1114111 := of_decide_eq_true hb
          have hnn := nextN_nx ho.2.1 hlt'
          have ha : inB s bs[i + 1].1 = false := by
            rw [Bool.eq_false_iff]
            intro hh
            have h5 := (inB_iff _ _).1 hh
            rw [← e, e2, hnn] at h5
            exact g2 hlt' h5
          have hpr : prevN bs[i + 1].1 = r.2 := by
            have h6 : nx (prevN bs[i + 1].1) = nx r.2 := by omega
            have h7 := nx_gt r.2
            rcases Int.lt_or_le (prevN bs[i + 1].1) r.2 with h8 | h8
            · have := nx_le p1 ho.2.1 h8; omega
            · rcases Int.lt_or_le r.2 (prevN bs[i + 1].1) with h9 | h9
              · have := nx_le ho.2.1 p1 h9; omega
              · omega
          have hb' : inB s (prevN bs[i + 1].1) = true := (inB_iff _ _).2 ⟨r, hr, by rw [hpr]; exact ho.2.2, by omega⟩
          rw [ha, hb']; decide
      intro hE
      exact sg_ne hs hne ((ek_eq L).trans hsame hE)
    · rw [List.mem_singleton] at hf
      subst hf
      omega
end Go.Proofs.Ythaageiflimnnaa
/- A slice of slices that the call itself builds. -/
namespace Go.Proofs.Ythaageiflimnnaa
open Go.RowKit Go.BigFrame
set_option linter.unusedVariables false
set_option linter.unusedSimpArgs false

structure Own2 (w : World) (base : Nat) (A : Option Addr) (z c : Nat) (H : List Hd) : Prop where
  len : H.length = z
  out : w.ownsRow base 48 1 (.slice A z c) z (hcells H)
  inn : ∀ h ∈ H, h.s.length = h.n ∧ w.ownsRow base 50 2 h.v h.n (rcells h.s)
  apart : ∀ i j (hi : i < H.length) (hj : j < H.length), i ≠ j → H[i].v.ownBlock = none ∨ H[i].v.ownBlock ≠ H[j].v.ownBlock

theorem own_block {w : World} {base : Nat} {e : TypeId} {size n : Nat} {v : Value} {xs : List Value} (h : w.ownsRow base e size v n xs) {g : Nat} (hg : v.ownBlock = some g) : ∃ cur, w.heap[g]? = some (.cells cur e (0, 0)) := by
  rcases h.2 with ⟨rfl, _⟩ | ⟨g', cap, cur, rfl, _, hc, _⟩
  · simp [Value.ownBlock] at hg
  · simp [Value.ownBlock] at hg
    subst hg
    exact ⟨cur, hc⟩
/-- Rows of two kinds lie in two blocks. -/
theorem own_unlike {w : World} {base base' : Nat} {size size' n n' : Nat} {v v' : Value} {xs xs' : List Value} (h : w.ownsRow base 48 size v n xs) (h' : w.ownsRow base' 50 size' v' n' xs') : v.ownBlock = none ∨ v.ownBlock ≠ v'.ownBlock := by
  cases hg : v.ownBlock with
  | none => exact .inl rfl
  | some g =>
    refine .inr fun e => ?_
    obtain ⟨c1, h1⟩ := own_block h hg
    obtain ⟨c2, h2⟩ := own_block h' e.symm
    rw [h1] at h2
    injection h2 with h2
    injection h2 with _ h2
    exact absurd h2 (by decide)
theorem ne_sym {x y : Option Nat} (h : x = none ∨ x ≠ y) : y = none ∨ y ≠ x := by
  rcases h with h | h
  · cases hy : y with
    | none => exact .inl rfl
    | some g => exact .inr (by rw [h]; simp)
  · exact .inr (Ne.symm h)
theorem Own2.nil (w : World) (base : Nat) : Own2 w base none 0 0 [] := ⟨rfl, World.ownsRow_nil _ _ _ _, fun h hh => by simp at hh, fun i j hi => by simp at hi⟩
theorem Own2.kept {w w' : World} {base z c : Nat} {A : Option Addr} {H : List Hd} (h : Own2 w base A z c H) (g : w.grownBy w' none) : Own2 w' base A z c H :=
  ⟨h.len, h.out.kept g (by cases hh : (Value.slice A z c).ownBlock with | none => exact .inl rfl | some g => exact .inr (by simp)), fun x hx => ⟨(h.inn x hx).1, (h.inn x hx).2.kept g (by cases hh : x.v.ownBlock with | none => exact .inl rfl | some g => exact .inr (by simp))⟩, h.apart⟩
theorem grown_of_below' {w w' : World} (hb : Below w.heap.size w w') : w.grownBy w' none := ⟨hb.os, hb.tape, hb.output, hb.size, fun i hi _ => hb.block i hi⟩
theorem Own2.on {w w' : World} {base z c : Nat} {A : Option Addr} {H : List Hd} (h : Own2 w base A z c H) (g : Below w.heap.size w w') : Own2 w' base A z c H := h.kept (grown_of_below' g)
theorem Own2.alloc {w : World} {base z c : Nat} {A : Option Addr} {H : List Hd} (h : Own2 w base A z c H) (o : Obj) : Own2 (w.alloc o) base A z c H := h.kept (World.grownBy_alloc w o none)
/-- A nil set put behind. -/
theorem Own2.snoc {w w' : World} {base z c g cap : Nat} {A : Option Addr} {H : List Hd} (h : Own2 w base A z c H) (ho : w'.ownsRow base 48 1 (.slice (some ⟨g, 0, none⟩) (z + 1) cap) (z + 1) (hcells H ++ [.slice none 0 0])) (hg : w.grownBy w' (Value.slice A z c).ownBlock) :
    Own2 w' base (some ⟨g, 0, none⟩) (z + 1) cap (H ++ [⟨none, 0, 0, []⟩]) := by
  refine ⟨by rw [List.length_append, h.len]; rfl, ?_, ?_, ?_⟩
  · have e : hcells (H ++ [⟨none, 0, 0, []⟩]) = hcells H ++ [.slice none 0 0] := by simp [hcells, Hd.v]
    rw [e]; exact ho
  · intro x hx
    rcases List.mem_append.1 hx with hx | hx
    · refine ⟨(h.inn x hx).1, (h.inn x hx).2.kept hg ?_⟩
      exact ne_sym (own_unlike h.out (h.inn x hx).2)
    · rw [List.mem_singleton] at hx
      subst hx
      exact ⟨rfl, World.ownsRow_nil _ _ _ _⟩
  · intro i j hi hj hij
    rw [List.length_append] at hi hj
    simp only [List.length_cons, List.length_nil] at hi hj
    by_cases hi' : i < H.length
    · rw [List.getElem_append_left hi']
      by_cases hj' : j < H.length
      · rw [List.getElem_append_left hj']
        exact h.apart i j hi' hj' hij
      · rw [List.getElem_append_right (by omega)]
        cases hh : H[i].v.ownBlock with
        | none => exact .inl rfl
        | some g => exact .inr (by simp [Hd.v, Value.ownBlock])
    · rw [List.getElem_append_right (by omega)]
      exact .inl (by simp [Hd.v, Value.ownBlock])
/-- A range put behind the i-th set's. -/
theorem Own2.set {w w5 : World} {base z c PG i g cap : Nat} {H : List Hd} {r : Rg} {o : Obj} (h : Own2 w base (some ⟨PG, 0, none⟩) z c H) (hi : i < H.length)
    (ho : w5.ownsRow base 50 2 (.slice (some ⟨g, 0, none⟩) (H[i].n + 1) cap) (H[i].n + 1) (rcells H[i].s ++ rcell r)) (hg : (w.alloc o).grownBy w5 H[i].v.ownBlock) (hat : H[i].v.ownBlock = some g ∨ g = (w.alloc o).heap.size) :
    Own2 (w5.setCell ⟨PG, i, none⟩ (.slice (some ⟨g, 0, none⟩) (H[i].n + 1) cap)) base (some ⟨PG, 0, none⟩) z c (H.set i ⟨some ⟨g, 0, none⟩, H[i].n + 1, cap, H[i].s ++ [r]⟩) := by
  have hs : ∀ {v n xs} , (w.alloc o).ownsRow base 50 2 v n xs → (Value.slice (some (⟨PG, 0, none⟩ : Addr)) z c).ownBlock ≠ v.ownBlock := fun hv => by
    rcases own_unlike (h.alloc o).out hv with e | e
    · simp [Value.ownBlock] at e
    · exact e
  have hout : w5.ownsRow base 48 1 (.slice (some ⟨PG, 0, none⟩) z c) z (hcells H) := (h.alloc o).out.kept hg (by
    rcases own_unlike (h.alloc o).out ((h.alloc o).inn _ (List.getElem_mem hi)).2 with e | e
    · exact .inl e
    · exact .inr e)
  refine ⟨by rw [List.length_set, h.len], ?_, ?_, ?_⟩
  · have e : hcells (H.set i ⟨some ⟨g, 0, none⟩, H[i].n + 1, cap, H[i].s ++ [r]⟩) = (hcells H).set i (.slice (some ⟨g, 0, none⟩) (H[i].n + 1) cap) := by
      unfold hcells
      rw [List.map_set]
      rfl
    rw [e]
    exact (hout.stored i _).1
  · intro x hx
    obtain ⟨j, hj, e⟩ := List.getElem_of_mem hx
    rw [List.length_set] at hj
    rw [List.getElem_set] at e
    by_cases hij : i = j
    · rw [if_pos hij] at e
      subst e
      refine ⟨by simp [((h.inn _ (List.getElem_mem hi)).1)], ?_⟩
      have ho' : w5.ownsRow base 50 2 (.slice (some ⟨g, 0, none⟩) (H[i].n + 1) cap) (H[i].n + 1) (rcells (H[i].s ++ [r])) := by rw [rcells_snoc]; exact ho
      refine ownsRow_setCell_other ho' (a := ⟨PG, i, none⟩) ?_ _
      intro e
      rcases own_unlike hout ho with e' | e'
      · simp [Value.ownBlock] at e'
      · exact e' (by rw [e]; rfl)
    · rw [if_neg hij] at e
      subst e
      have hm := (h.alloc o).inn _ (List.getElem_mem hj)
      refine ⟨hm.1, ownsRow_setCell_other (hm.2.kept hg (h.apart j i hj hi (fun e => hij e.symm))) (a := ⟨PG, i, none⟩) ?_ _⟩
      intro e
      exact hs hm.2 (by rw [e]; rfl)
  · intro a b ha hb hab
    rw [List.length_set] at ha hb
    rw [List.getElem_set, List.getElem_set]
    have key : ∀ k (hk : k < H.length), i ≠ k → H[k].v.ownBlock = none ∨ H[k].v.ownBlock ≠ some g := by
      intro k hk hik
      rcases hat with hat | hat
      · rw [← hat]
        exact h.apart k i hk hi (fun e => hik e.symm)
      · cases hh : H[k].v.ownBlock with
        | none => exact .inl rfl
        | some q =>
          refine .inr fun e => ?_
          injection e with e
          have := (h.inn _ (List.getElem_mem hk)).2.lt q hh
          simp at hat
          omega
    by_cases hia : i = a
    · rw [if_pos hia]
      have hib : i ≠ b := fun e => hab (by omega)
      rw [if_neg hib]
      exact ne_sym (key b hb hib)
    · rw [if_neg hia]
      by_cases hib : i = b
      · rw [if_pos hib]
        exact key a ha hia
      · rw [if_neg hib]
        exact h.apart a b ha hb hab
theorem Own2.drew {w : World} {base z c : Nat} {A : Option Addr} {H : List Hd} (h : Own2 w base A z c H) : Own2 w.drew base A z c H := ⟨h.len, h.out, h.inn, h.apart⟩
theorem Own2.nest {w : World} {base z c : Nat} {A : Option Addr} {H : List Hd} (h : Own2 w base A z c H) : Nest w w.heap.size A z H ∧ Shp A z c := by
  have hs : ∀ {A n c e size xs}, w.ownsRow base e size (.slice A n c) n xs → Shp A n c := fun h => by
    rcases h.2 with ⟨e, _⟩ | ⟨g, cap, cur, e, _, _, h1, h2, _⟩
    · injection e with e1 e2 e3
      subst e1 e2 e3
      exact ⟨fun _ => rfl, Nat.le_refl _, Nat.zero_le _⟩
    · injection e with e1 e2 e3
      subst e1 e3
      exact ⟨fun h => (by cases h), h1, h2⟩
  exact ⟨⟨h.len, Reads.of_own h.out, fun x hx => ⟨(h.inn x hx).1, hs (h.inn x hx).2, Reads.of_own (h.inn x hx).2⟩⟩, hs h.out⟩
end Go.Proofs.Ythaageiflimnnaa
