/- PWalkA, PWalkB: joined. -/
import Derived.Test.YthaageiflimnnaaGrpH
import Derived.Test.YthaageiflimnnaaGrpF
import Derived.Deep.RegionHeld3
/- The law of parts, where there are none. -/
namespace Go.Proofs.Ythaageiflimnnaa.refineParts
open Go.ChangeShapes Go.WideShapes Go.ChangeAt Go.RowKit Go.BigFrame
set_option linter.unusedVariables false
set_option linter.unusedSimpArgs false

set_option maxRecDepth 100000 in
set_option maxHeartbeats 4000000 in
theorem walk_unfair (H : List Hd) (n : Nat) (A : Option Addr) (c : Nat) (v : List Int) (m : Nat) (B : Option Addr) (d : Nat) (w : World) (hN : Nest w w.heap.size A n H) (hf : fairB H = false) :
    Calls Try.prog 4 #[.slice A n c, .slice B m d] w fun e w' => e = .returned (.bool true) ∧ Below w.heap.size w w' := by
  have HF := fun W h => fair_n H n A c W h
  rw [hf] at HF
  have HX := Lib.hid (HF _ hN)
  clear hN HF hf
  go_enter Try.func4, Try.ntmps4
  go_wp2_with fail
  refine HX.out.mono ?_
  rintro e w1 ⟨rfl, rfl⟩
  go_wp2_with fail
  refine (wakes_any _).mono ?_
  rintro e w2 ⟨rfl, g⟩
  go_wp2_with fail
  go_ret
  exact ⟨rfl, g⟩

set_option maxRecDepth 100000 in
set_option maxHeartbeats 4000000 in
theorem walk_large (H : List Hd) (n : Nat) (A : Option Addr) (c : Nat) (v : List Int) (m : Nat) (B : Option Addr) (d : Nat) (w : World) (hN : Nest w w.heap.size A n H) (hf : fairB H = true) (hm : 40 < m) :
    Calls Try.prog 4 #[.slice A n c, .slice B m d] w fun e w' => e = .returned (.bool true) ∧ Below w.heap.size w w' := by
  have HF := fun W h => fair_n H n A c W h
  rw [hf] at HF
  have HX := Lib.hid (HF _ hN)
  clear hN HF hf
  go_enter Try.func4, Try.ntmps4
  go_wp2_with fail
  refine HX.out.mono ?_
  rintro e w1 ⟨rfl, rfl⟩
  go_wp2_with fail
  refine (wakes_any _).mono ?_
  rintro e w2 ⟨rfl, g⟩
  go_wp2_with fail
  go_ret
  exact ⟨rfl, g⟩

set_option maxRecDepth 100000 in
set_option maxHeartbeats 4000000 in
theorem walk_none (H : List Hd) (n : Nat) (A : Option Addr) (c : Nat) (v : List Int) (m : Nat) (B : Option Addr) (d : Nat) (w : World) (hN : Nest w w.heap.size A n H) (hf : fairB H = true) (hm : m ≤ 40)
    (hp : Calls Try.prog 11 #[.slice A n c] w (OutNil w)) (hw : allB (setsOf H) = false ∨ 7 < n) :
    Calls Try.prog 4 #[.slice A n c, .slice B m d] w fun e w' => e = .returned (.bool true) ∧ Below w.heap.size w w' := by
  have HF := fun W h => fair_n H n A c W h
  rw [hf] at HF
  have HX := Lib.hid (HF _ hN)
  have HN := Lib.hid hN
  have HP := Lib.hid hp
  obtain ⟨f1, f2, _⟩ := fair_facts hf
  have hn : n ≤ 150 := by rw [← hN.1]; exact f1
  have HM := Lib.hid f2
  have HW := Lib.hid hw
  clear hN HF hf hp f1 f2 hw
  go_enter Try.func4, Try.ntmps4
  go_wp2_with fail
  refine HX.out.mono ?_
  rintro e w1 ⟨rfl, rfl⟩
  go_wp2_with fail
  refine HP.out.mono ?_
  rintro e w2 ⟨rfl, g2⟩
  go_wp2_with fail
  go_loopw [7] (fun i wr => ∃ (k : Nat), k ≤ n ∧ i = .int .i64 k ∧ Below w.heap.size w wr ∧ Hid (allB (setsOf (H.take k)) = true)) (fun i _ => n - (intOf i).toNat)
  case atStart => exact ⟨0, Nat.zero_le _, rfl, g2, Lib.hid rfl⟩
  case round =>
    clear g2
    obtain ⟨k, hk, rfl, hb, HG⟩ := hrel
    have hsz := hb.size
    by_cases hlt : k < n
    · have kl : k < H.length := by rw [HN.out.1]; exact hlt
      obtain ⟨b, o, rfl, hbb, p0, q1, q2, q3⟩ := (HN.out.below hb).at kl
      have HX := Lib.hid (refGood_n _ _ q1 H[k].a H[k].c wr (q3.more hsz) (by have := HM.out _ (List.getElem_mem kl); omega))
      have HT := Lib.hid (allB_take H k kl)
      generalize H[k] = x at *
      obtain ⟨xa, xn, xc, xs⟩ := x
      simp only [] at p0 HX HT
      clear q1 q2 q3
      cases hg : goodB xs
      · rw [hg] at HX
        clear HT HG hg
        go_wp2_with fail
        refine HX.out.mono ?_
        rintro e w1 ⟨rfl, g1⟩
        go_wp2_with fail
        refine (wakes_any _).mono ?_
        rintro e w3 ⟨rfl, g3⟩
        go_wp2_with fail
        go_ret
        exact ⟨rfl, (hb.trans (g1.mono hsz)).trans (g3.mono (hb.trans (g1.mono hsz)).size)⟩
      · have HT' : Hid (allB (setsOf (H.take (k + 1))) = true) := Lib.hid (by rw [HT.out, HG.out, hg]; rfl)
        rw [hg] at HX
        clear HT HG hg
        go_wp2_with fail
        refine HX.out.mono ?_
        rintro e w1 ⟨rfl, g1⟩
        have b1 := hb.trans (g1.mono hsz)
        clear HX g1
        go_wp2_with fail
        go_roundw
        case rel => exact ⟨k + 1, by omega, by go_num, b1, HT'⟩
        case measure => simp [intOf]; omega
    · have h7 : 7 < n := by
        rcases HW.out with h | h
        · have h2 := HG.out
          rw [List.take_of_length_le (by rw [HN.out.1]; omega), h] at h2
          cases h2
        · exact h
      go_wp2_with fail
      refine (wakes_any _).mono ?_
      rintro e w3 ⟨rfl, g3⟩
      go_wp2_with fail
      go_ret
      exact ⟨rfl, hb.trans (g3.mono hsz)⟩
end Go.Proofs.Ythaageiflimnnaa.refineParts
/- The law of parts, where there are some. -/
namespace Go.Proofs.Ythaageiflimnnaa.refineParts
open Go.ChangeShapes Go.WideShapes Go.ChangeAt Go.RowKit Go.BigFrame
set_option linter.unusedVariables false
set_option linter.unusedSimpArgs false

theorem fst1_at : ∀ (s : List Rg) (h : 0 < s.length), fst1 s = s[0].1
  | x :: s, _ => rfl
def S2Rel (P : List (List Rg)) (z : Nat) (w : World) (vs vl vi : Value) (wr : World) : Prop :=
  ∃ (k : Nat) (S la : Int), k ≤ z ∧ vs = .int .i64 S ∧ vl = .int .i64 la ∧ vi = .int .i64 k ∧ 0 ≤ S ∧ S ≤ 1112064 ∧ Hid (S = sumS (P.take k)) ∧ Hid (la = lastF P k) ∧ Below w.heap.size w wr

set_option maxRecDepth 100000 in
set_option maxHeartbeats 8000000 in
theorem walk_some (H : List Hd) (n : Nat) (A : Option Addr) (c : Nat) (v : List Int) (m : Nat) (hv : v.length = m) (B : Option Addr) (d : Nat) (w : World) (hN : Nest w w.heap.size A n H) (hR : Reads w w.heap.size 1 B m (icells v)) (hf : fairB H = true) (hm : m ≤ 40)
    (hg : ∀ s ∈ setsOf H, Gd (-1) s) (hp : Calls Try.prog 11 #[.slice A n c] w (OutPY (setsOf H) w)) :
    Calls Try.prog 4 #[.slice A n c, .slice B m d] w fun e w' => e = .returned (.bool true) ∧ Below w.heap.size w w' := by
  have HF := fun W h => fair_n H n A c W h
  rw [hf] at HF
  have HX := Lib.hid (HF _ hN)
  obtain ⟨f1, f2, f3⟩ := fair_facts hf
  have hn : n ≤ 150 := by rw [← hN.1]; exact f1
  have HM := Lib.hid f2
  have HT : Hid (tot (setsOf H) ≤ 150) := Lib.hid (by rw [tot_lens hN]; exact f3)
  have HN_0 := Lib.hid hN
  have HR_0 := Lib.hid hR
  have HP := Lib.hid hp
  have HG := Lib.hid hg
  have HV := Lib.hid hv
  clear hN HF hf hp f1 f2 f3 hR hg hv
  go_enter Try.func4, Try.ntmps4
  go_wp2_with fail
  refine HX.out.mono ?_
  rintro e w1 ⟨rfl, rfl⟩
  clear HX
  go_wp2_with fail
  refine HP.out.mono ?_
  rintro e W1 ⟨P, A4, c4, z4, H4, rfl, hs4, hp4, hz4, hm4, hn4, hsh4, g⟩
  have HP4 : Hid (Parts (Ek (setsOf H)) (setsOf H4)) := Lib.hid (by rw [hs4]; exact hp4)
  have HM4 : Hid (∀ h ∈ H4, h.n ≤ 1000) := Lib.hid (fun h hh => by have h1 := hm4 h hh; have := HT.out; omega)
  have HN4 : Hid (Nest W1 W1.heap.size A4 z4 H4) := Lib.hid hn4
  have hz0 : 0 < z4 := by
    obtain ⟨p, hp, _⟩ := HP4.out.cov 0 sc0
    rw [hn4.len]
    exact List.length_pos_of_mem hp
  have HN_1 := Lib.hid (HN_0.out.on g)
  have HR_1 := Lib.hid (reads_on HR_0.out g)
  have bb_1 := g
  clear hs4 hp4 hm4 hn4 hsh4 g HP HN_0 HR_0
  go_wp2_with fail
  refine (bands_yes H4 z4 A4 c4 W1 HN4.out (by omega) HM4.out HP4.out.gd (fun h => HP4.out.ne _ h rfl) (parts_once HP4.out)).mono ?_
  rintro e W2 ⟨bs, A5, c5, n5, rfl, hb5, hl5, ht5, hsh5, hr5, g⟩
  have HB5 := Lib.hid hb5
  have HL5 := Lib.hid hl5
  have hn5 : n5 ≤ 256000 := by
    have h1 := sum_le (setsOf H4) 1000 (fun p hp => by
      obtain ⟨h, hh, rfl⟩ := List.mem_map.1 hp
      rw [(HN4.out.2.2 h hh).1]
      exact HM4.out h hh)
    rw [← HN4.out.len] at h1
    omega
  have HN4_2 := Lib.hid (HN4.out.on g)
  have HN_2 := Lib.hid (HN_1.out.on g)
  have HR_2 := Lib.hid (reads_on HR_1.out g)
  have HB_2 := Lib.hid hr5
  have bb_2 := bb_1.trans (g.mono bb_1.size)
  clear hb5 hl5 ht5 hsh5 hr5 g HN_1 HR_1 HN4 bb_1
  obtain ⟨r, hr, hrl⟩ := parts_within HP4.out
  have hrl' : r.length = n := by rw [hrl]; exact HN_2.out.len.symm
  have HRr := Lib.hid hr
  clear hr hrl
  go_wp2_with fail
  refine (within_yes H n A c H4 z4 A4 c4 W2 HN_2.out HN4_2.out (by omega) (by omega) (fun h hh => Nat.le_trans (HM.out h hh) (by omega)) (fun h hh => Nat.le_trans (HM4.out h hh) (by omega)) HG.out HP4.out.gd HRr.out).mono ?_
  rintro e W3 ⟨A7, c7, z7, H7, rfl, hl7, hn7, g⟩
  obtain rfl : z7 = n := by rw [← hn7.1, ← hrl', ← hl7]; simp [listsOf]
  have HN4_3 := Lib.hid (HN4_2.out.on g)
  have HN_3 := Lib.hid (HN_2.out.on g)
  have HR_3 := Lib.hid (reads_on HR_2.out g)
  have HB_3 := Lib.hid (reads_on HB_2.out g)
  have bb_3 := bb_2.trans (g.mono bb_2.size)
  clear hl7 hn7 g hrl' HRr HN4_2 HN_2 HR_2 HB_2 bb_2
  have hzz : ((z4 : Int) == 0) = false := by rw [beq_eq_false_iff_ne]; omega
  have hnn : ((z7 : Int) != (z7 : Int)) = false := by simp
  go_wp2_with fail
  go_loopw [12, 13, 14] (fun vs vl vi wr => S2Rel (setsOf H4) z4 W3 vs vl vi wr) (fun _ _ i _ => z4 - (intOf i).toNat)
  case atStart => exact ⟨0, 0, -1, Nat.zero_le _, rfl, rfl, rfl, by omega, by omega, Lib.hid rfl, Lib.hid rfl, Below.refl _ _⟩
  case round =>
    obtain ⟨k, S, la, hk, rfl, rfl, rfl, hS0, hS1, HS, HLa, hb⟩ := hrel
    have hsz := hb.size
    by_cases hlt : k < z4
    · have kl : k < H4.length := by rw [HN4_3.out.1]; exact hlt
      have kP : k < (setsOf H4).length := by rw [setsOf_len]; exact kl
      obtain ⟨b, o, rfl, hbb, p0, q1, q2, q3⟩ := (HN4_3.out.below hb).at kl
      have e0 : (setsOf H4)[k] = H4[k].s := by simp [setsOf]
      have HNx : Hid (S + sizeL H4[k].s = sumS ((setsOf H4).take (k + 1))) := Lib.hid (by rw [sum_next _ k kP, HS.out, e0])
      have HLx : Hid (fst1 H4[k].s = lastF (setsOf H4) (k + 1)) := Lib.hid (by
        show _ = fst1 ((setsOf H4).getD k [])
        rw [getD_eq kP, e0])
      have hla : la < fst1 H4[k].s := by rw [HLa.out, ← e0]; exact last_lt HP4.out k kP
      have hgx : Gd (-1) H4[k].s := HP4.out.gd _ (List.mem_map.2 ⟨_, List.getElem_mem kl, rfl⟩)
      have hne : H4[k].s ≠ [] := HP4.out.ne _ (List.mem_map.2 ⟨_, List.getElem_mem kl, rfl⟩)
      have hbd := sum_take HP4.out (k + 1)
      rw [← HNx.out] at hbd
      have hm1 := HM4.out _ (List.getElem_mem kl)
      have hsn := size_nn hgx
      have lp : 0 < H4[k].s.length := List.length_pos_iff.2 hne
      obtain ⟨b2, o2, e2, hb2, r0, r1⟩ := q3.rg lp
      have ef : fst1 H4[k].s = H4[k].s[0].1 := fst1_at _ lp
      rw [← ef, Nat.zero_mul, Nat.add_zero] at r0
      have HQ := Lib.hid (fun (W : World) (g : Below wr.heap.size wr W) => refGood_yes q1 (c := H4[k].c) (reads_on (q3.more hsz) g) (by omega) hgx)
      have HQ2 := Lib.hid (fun (W : World) (g : Below wr.heap.size wr W) => refSize_n H4[k].s H4[k].n q1 H4[k].a H4[k].c W (reads_on (q3.more hsz) g) (by omega))
      rw [(goodB_iff _).2 hgx] at HQ2
      simp only [if_true] at HQ2
      have hxn : ((H4[k].n : Int) == 0) = false := by rw [beq_eq_false_iff_ne]; omega
      have hxp : 0 < H4[k].n := by omega
      clear q1 q2 q3 r1 ef lp hne hgx e0 kP
      generalize sizeL H4[k].s = sz at *
      generalize fst1 H4[k].s = f1 at *
      generalize H4[k] = x at *
      obtain ⟨xa, xn, xc, xs⟩ := x
      simp only [] at p0 hm1 e2 HQ HQ2 hxn hxp
      subst e2
      have hla' : decide (f1 ≤ la) = false := decide_eq_false (by omega)
      go_wp2_with fail
      refine (HQ.out wr (Below.refl _ _)).mono ?_
      rintro e w5 ⟨rfl, g5⟩
      have p5 := kept_cell g5 p0
      have r5 := kept_cell g5 r0
      have HQ3 := Lib.hid (HQ2.out w5 g5)
      have b5 := hb.trans (g5.mono hsz)
      have hs5 := b5.size
      clear HQ HQ2 p0 r0 hb g5
      go_wp2_with fail
      refine HQ3.out.mono ?_
      rintro e w6 ⟨rfl, g6⟩
      have b6 := b5.trans (g6.mono hs5)
      clear HQ3 p5 r5 b5 g6
      go_wp2_with fail
      go_roundw
      case rel => exact ⟨k + 1, S + sz, f1, by omega, by go_num, rfl, by go_num, by omega, by omega, HNx, HLx, b6⟩
      case measure => simp [intOf]; omega
    · have e : S = 1112064 := by
        rw [HS.out, List.take_of_length_le (by rw [setsOf_len, HN4_3.out.1]; omega)]
        exact parts_sum HP4.out
      subst e
      clear HS HLa
      go_wp2_with fail
      rename World => w8
      go_loopw [15] (fun vi wr => ∃ k : Nat, k ≤ m ∧ vi = .int .i64 k ∧ Below W3.heap.size W3 wr) (fun i _ => m - (intOf i).toNat)
      case atStart => exact ⟨0, Nat.zero_le _, rfl, hb⟩
      case round =>
        clear hb hsz hlt
        obtain ⟨i, hi, rfl, hb⟩ := hrel
        have hsz := hb.size
        by_cases hlt : i < m
        · have iv : i < v.length := by rw [HV.out]; exact hlt
          obtain ⟨bv, ov, rfl, hbv, pv⟩ := (HR_3.out.below hb).int iv
          have HOf := fun W h => of_n bs n5 HL5.out A5 c5 v[i] W h (by omega)
          have HRv : Hid (∀ j (hj : j < i) (W : World), Below W3.heap.size W3 W → W.cell? ⟨bv, ov + j, none⟩ = some (.int .i64 (v[j]'(by omega)))) := Lib.hid (fun j hj W g => by
            obtain ⟨b', o', e', _, p'⟩ := (HR_3.out.below g).int (k := j) (by omega)
            injection e' with e'
            injection e' with e1 e2
            subst e1 e2
            exact p')
          cases hB : isB v[i]
          · have ho := of_not (bs := bs) hB
            rw [ho.1, ho.2] at HOf
            have HO := Lib.hid (HOf wr (reads_on HB_3.out hb))
            have his := fun W => refIs_any v[i] W
            rw [hB] at his
            generalize v[i] = u at *
            clear HOf ho hB HRv
            go_wp2_with fail
            refine HO.out.mono ?_
            rintro e w9 ⟨rfl, g9⟩
            have p9 := kept_cell g9 pv
            have b9 := hb.trans (g9.mono hsz)
            clear HO pv hb g9
            have d0 := fun n os => cell_grown (World.block_lt_of_cell? _ _ p9) p9 n os
            have hic := fun W => lay_of ((his W).mono fun e w' ⟨h1, h2⟩ => ⟨h1, h2 ▸ Below.refl _ _, h2 ▸ Nat.le_refl _⟩)
            go_wp2_with fail
            refine wp_region_quiet_grown mixedTry (by kernel_rfl) ?_
            repeat (go_big_quiet_step (first | (go_at_call 24; refine Calls.grown_of (hic _))))
            refine wpQuiet_nil ?_
            intro _ hw'
            obtain ⟨⟨nq, osq⟩, hw''⟩ := hw'
            subst hw''
            have b10 := b9.trans ((below_grown_of w9 nq osq).1.mono b9.size)
            obtain ⟨w10, hw10⟩ : ∃ w10, w10 = Go.Sort.grow (w9.drewN nq) osq := ⟨_, rfl⟩
            rw [← hw10] at b10 ⊢
            clear hw10
            clear p9 d0 hic his b9
            go_wp2_with fail
            refine wp_loop_rounds 1 ?_
            rw [rounds_succ]
            by_cases hi0 : i = 0
            · subst hi0
              go_wp2_with fail
              go_roundw
              case rel => exact ⟨0 + 1, by omega, by go_num, b10⟩
              case measure => simp [intOf]; omega
            · have hd0 : decide ((0 : Int) < (i : Int)) = true := decide_eq_true (by omega)
              go_wp2_with fail
              go_roundw
              case rel => exact ⟨i + 1, by omega, by go_num, b10⟩
              case measure => simp [intOf]; omega
          · have hu := (isB_iff _).1 hB
            obtain ⟨h1, h2, h3, h4⟩ := of_bands HB5.out hu
            obtain ⟨c0, hc0⟩ : ∃ c0 : Nat, ofN bs v[i] = (c0 : Int) := ⟨(ofN bs v[i]).toNat, by omega⟩
            rw [hc0] at HOf h3 h4
            rw [h1] at HOf
            rw [Int.toNat_natCast] at h4
            have HO := Lib.hid (HOf wr (reads_on HB_3.out hb))
            have his := fun W => refIs_any v[i] W
            rw [hB] at his
            have cl : c0 < H4.length := by rw [setsOf_len] at h3; omega
            obtain ⟨bp, op, rfl, hbp, pp, q1, q2, q3⟩ := (HN4_3.out.below hb).at cl
            have hcl : c0 < z4 := by rw [← HN4_3.out.1]; exact cl
            have hm1 := HM4.out _ (List.getElem_mem cl)
            have e0 : (setsOf H4).getD c0 [] = H4[c0].s := setsOf_get H4 c0 cl
            rw [e0] at h4
            have hgx : Gd (-1) H4[c0].s := HP4.out.gd _ (List.mem_map.2 ⟨_, List.getElem_mem cl, rfl⟩)
            have hhas : hasB H4[c0].s v[i] = true := (hasB_in hgx hu).2 h4
            have HHas := Lib.hid (fun (W : World) (g : Below wr.heap.size wr W) => refHas_n H4[c0].s H4[c0].n q1 H4[c0].a H4[c0].c v[i] W (reads_on (q3.more hsz) g) (by omega))
            rw [hhas] at HHas
            have HEq : Hid (∀ x, Sc x → (ofN bs v[i] == ofN bs x) = eqvB (setsOf H) v[i] x) := Lib.hid (fun x hx => of_eqv HG.out HP4.out HB5.out hu hx)
            rw [hc0] at HEq
            have HVj : Hid (∀ j, j < i → ∃ x : Int, ∀ W : World, Below W3.heap.size W3 W → W.cell? ⟨bv, ov + j, none⟩ = some (.int .i64 x)) := Lib.hid (fun j hj => ⟨_, fun W g => HRv.out j hj W g⟩)
            have HUi : Hid (∀ W : World, Below W3.heap.size W3 W → W.cell? ⟨bv, ov + i, none⟩ = some (.int .i64 v[i])) := Lib.hid (fun W g => by
              obtain ⟨b', o', e', _, p'⟩ := (HR_3.out.below g).int (k := i) iv
              injection e' with e'
              injection e' with e1 e2
              subst e1 e2
              exact p')
            have HSu := Lib.hid hu
            have hcz : decide ((c0 : Int) < 0) = false := decide_eq_false (by omega)
            have hcg : decide ((z4 : Int) ≤ (c0 : Int)) = false := decide_eq_false (by omega)
            have hcg2 : decide (z4 ≤ c0) = false := decide_eq_false (by omega)
            have hcg3 : decide ((c0 : Int) ≥ (z4 : Int)) = false := decide_eq_false (by omega)
            have hcg4 : ¬ ((z4 : Int) ≤ (c0 : Int)) := by omega
            clear HOf h1 h2 h3 h4 hc0 q1 q2 q3 e0 hgx hhas HRv hB hu
            generalize v[i] = u at *
            generalize H4[c0] = x at *
            obtain ⟨xa, xn, xc, xs⟩ := x
            simp only [] at pp hm1 HHas
            go_wp2_with fail
            refine HO.out.mono ?_
            rintro e w9 ⟨rfl, g9⟩
            have p9 := kept_cell g9 pv
            have pp9 := kept_cell g9 pp
            have HHas9 := Lib.hid (fun (W : World) (g : Below w9.heap.size w9 W) => HHas.out W (g9.trans (g.mono g9.size)))
            have b9 := hb.trans (g9.mono hsz)
            have hs9 := b9.size
            clear HO pv pp hb g9 HHas
            have pv := p9
            have pp := pp9
            clear p9 pp9
            have hca : Hid (∀ W : World, W.cell? ⟨bv, ov + i, none⟩ = some (.int .i64 u) ∧ W.cell? ⟨bp, op + c0, none⟩ = some (.slice xa xn xc) ∧ Below w9.heap.size w9 W → Calls Try.prog 25 #[.slice xa xn xc, .int .i64 u] W fun e w' => e = .returned (.bool true) ∧ (w'.cell? ⟨bv, ov + i, none⟩ = some (.int .i64 u) ∧ w'.cell? ⟨bp, op + c0, none⟩ = some (.slice xa xn xc) ∧ Below w9.heap.size w9 w')) := Lib.hid (fun W hW =>
              (HHas9.out W hW.2.2).mono (fun e w' h => ⟨h.1, kept_cell h.2 hW.1, kept_cell h.2 hW.2.1, hW.2.2.trans (h.2.mono hW.2.2.size)⟩))
            have bR := Below.refl w9.heap.size w9
            clear HHas9
            go_wp2_with fail
            go_region_held3 (fun w' => w'.cell? ⟨bv, ov + i, none⟩ = some (.int .i64 u) ∧ w'.cell? ⟨bp, op + c0, none⟩ = some (.slice xa xn xc) ∧ Below w9.heap.size w9 w') (first | assumption | exact ⟨pv, pp, bR⟩ | exact ⟨pv, pp, Below.drew bR⟩ | exact ⟨by assumption, by assumption, by assumption⟩ | exact ⟨by assumption, by assumption, Below.drew (by assumption)⟩) (first | (go_at_call 24; refine (his _).mono ?_; rintro e w7 ⟨rfl, rfl⟩) | (go_at_call 25; with_reducible refine Calls.mono (hca.out _ ?_) ?_; (first | assumption | exact ⟨pv, pp, bR⟩ | exact ⟨pv, pp, Below.drew bR⟩ | exact ⟨by assumption, by assumption, by assumption⟩ | exact ⟨by assumption, by assumption, Below.drew (by assumption)⟩); rintro e w7 ⟨rfl, q7, q8, b7⟩))
            have b10 := b9.trans (b7.mono hs9)
            clear hca pv pp b9 hs9 bR b7 q7 q8
            go_wp2_with fail
            rename World => w10
            go_loopw [18] (fun vj wr => ∃ j : Nat, j ≤ i ∧ vj = .int .i64 j ∧ Below W3.heap.size W3 wr) (fun j _ => i - (intOf j).toNat)
            case atStart => exact ⟨0, Nat.zero_le _, rfl, b10⟩
            case round =>
              clear b10 hsz
              obtain ⟨j, hj, rfl, hb⟩ := hrel
              have hsz := hb.size
              by_cases hjl : j < i
              · have hjm : j < m := by omega
                obtain ⟨x, hx⟩ := HVj.out j hjl
                have pj := hx wr hb
                have HXj := Lib.hid hx
                have HOf := fun W h => of_n bs n5 HL5.out A5 c5 x W h (by omega)
                clear hx
                cases hB : isB x
                · have ho := of_not (bs := bs) hB
                  rw [ho.1, ho.2] at HOf
                  have HO := Lib.hid (HOf wr (reads_on HB_3.out hb))
                  clear HOf ho hB
                  go_wp2_with fail
                  refine HO.out.mono ?_
                  rintro e w11 ⟨rfl, g11⟩
                  have b11 := hb.trans (g11.mono hsz)
                  clear HO pj hb g11
                  go_wp2_with fail
                  go_roundw
                  case rel => exact ⟨j + 1, by omega, by go_num, b11⟩
                  case measure => simp [intOf]; omega
                · have hxs := (isB_iff _).1 hB
                  obtain ⟨h1, h2, h3, h4⟩ := of_bands HB5.out hxs
                  have HE := HEq.out x hxs
                  obtain ⟨d0, hd0⟩ : ∃ d0 : Nat, ofN bs x = (d0 : Int) := ⟨(ofN bs x).toNat, by omega⟩
                  rw [hd0] at HOf HE
                  rw [h1] at HOf
                  have HO := Lib.hid (HOf wr (reads_on HB_3.out hb))
                  have HE' := Lib.hid HE
                  clear HOf h1 h2 h3 h4 hd0 HE hxs hB
                  go_wp2_with fail
                  refine HO.out.mono ?_
                  rintro e w11 ⟨rfl, g11⟩
                  have b11 := hb.trans (g11.mono hsz)
                  clear HO pj hb g11
                  go_wp2_with fail
                  rename World => w12
                  go_loopw [21, 22] (fun vs vq wr => ∃ q : Nat, q ≤ z7 ∧ vs = .bool (eqvB ((setsOf H).take q) u x) ∧ vq = .int .i64 q ∧ Below W3.heap.size W3 wr) (fun _ q _ => z7 - (intOf q).toNat)
                  case atStart => exact ⟨0, Nat.zero_le _, rfl, rfl, b11⟩
                  case round =>
                    clear b11 hsz
                    obtain ⟨q, hq, rfl, rfl, hb⟩ := hrel
                    have hsz := hb.size
                    by_cases hql : q < z7
                    · have kl : q < H.length := by rw [HN_3.out.1]; exact hql
                      have kL : q < (setsOf H).length := by rw [setsOf_len]; exact kl
                      obtain ⟨bl, ol, rfl, hbl, pl, q1, q2, q3⟩ := (HN_3.out.below hb).at kl
                      have hm2 := HM.out _ (List.getElem_mem kl)
                      have pv := HUi.out wr hb
                      have pj := HXj.out wr hb
                      have e0 : (setsOf H)[q] = H[q].s := by simp [setsOf]
                      have HNx := Lib.hid (eqv_next (setsOf H) q kL u x)
                      rw [e0] at HNx
                      have HC_hcu := Lib.hid (fun (W : World) (g : Below wr.heap.size wr W) => refHas_n H[q].s H[q].n q1 H[q].a H[q].c u W (reads_on (q3.more hsz) g) (by omega))
                      have HC_hcx := Lib.hid (fun (W : World) (g : Below wr.heap.size wr W) => refHas_n H[q].s H[q].n q1 H[q].a H[q].c x W (reads_on (q3.more hsz) g) (by omega))
                      clear q1 q2 q3 e0 kL
                      generalize hasB H[q].s u = hu at *
                      generalize hasB H[q].s x = hx at *
                      generalize H[q] = y at *
                      obtain ⟨ya, yn, yc, ys⟩ := y
                      simp only [] at pl hm2 HC_hcu HC_hcx
                      generalize eqvB (List.take q (setsOf H)) u x = sm at *
                      have hcu : Hid (∀ W : World, W.cell? ⟨bl, ol + q, none⟩ = some (.slice ya yn yc) ∧ W.cell? ⟨bv, ov + i, none⟩ = some (.int .i64 u) ∧ W.cell? ⟨bv, ov + j, none⟩ = some (.int .i64 x) ∧ Below wr.heap.size wr W → Calls Try.prog 25 #[.slice ya yn yc, .int .i64 u] W fun e w' => e = .returned (.bool hu) ∧ (w'.cell? ⟨bl, ol + q, none⟩ = some (.slice ya yn yc) ∧ w'.cell? ⟨bv, ov + i, none⟩ = some (.int .i64 u) ∧ w'.cell? ⟨bv, ov + j, none⟩ = some (.int .i64 x) ∧ Below wr.heap.size wr w')) := Lib.hid (fun W hW => (HC_hcu.out W hW.2.2.2).mono (fun e w' h => ⟨h.1, kept_cell h.2 hW.1, kept_cell h.2 hW.2.1, kept_cell h.2 hW.2.2.1, hW.2.2.2.trans (h.2.mono hW.2.2.2.size)⟩))
                      have hcx : Hid (∀ W : World, W.cell? ⟨bl, ol + q, none⟩ = some (.slice ya yn yc) ∧ W.cell? ⟨bv, ov + i, none⟩ = some (.int .i64 u) ∧ W.cell? ⟨bv, ov + j, none⟩ = some (.int .i64 x) ∧ Below wr.heap.size wr W → Calls Try.prog 25 #[.slice ya yn yc, .int .i64 x] W fun e w' => e = .returned (.bool hx) ∧ (w'.cell? ⟨bl, ol + q, none⟩ = some (.slice ya yn yc) ∧ w'.cell? ⟨bv, ov + i, none⟩ = some (.int .i64 u) ∧ w'.cell? ⟨bv, ov + j, none⟩ = some (.int .i64 x) ∧ Below wr.heap.size wr w')) := Lib.hid (fun W hW => (HC_hcx.out W hW.2.2.2).mono (fun e w' h => ⟨h.1, kept_cell h.2 hW.1, kept_cell h.2 hW.2.1, kept_cell h.2 hW.2.2.1, hW.2.2.2.trans (h.2.mono hW.2.2.2.size)⟩))
                      have bR := Below.refl wr.heap.size wr
                      clear HC_hcu HC_hcx
                      cases sm
                      · have HF : Hid (false = eqvB (List.take (q + 1) (setsOf H)) u x) := Lib.hid (by rw [HNx.out]; rfl)
                        clear HNx hcu hcx pl pv pj
                        go_wp2_with fail
                        refine wp_region_quiet_grown mixedTry (by kernel_rfl) ?_
                        repeat (go_big_quiet_step (fail))
                        refine wpQuiet_nil ?_
                        intro _ hw'
                        obtain ⟨⟨nq, osq⟩, hw''⟩ := hw'
                        subst hw''
                        have b12 := hb.trans ((below_grown_of wr nq osq).1.mono hsz)
                        go_wp2_with fail
                        go_roundw
                        case rel => exact ⟨q + 1, by omega, by rw [← HF.out], by go_num, b12⟩
                        case measure => simp [intOf]; omega
                      · have HF : Hid ((hu == hx) = eqvB (List.take (q + 1) (setsOf H)) u x) := Lib.hid (by rw [HNx.out]; simp)
                        clear HNx
                        go_wp2_with fail
                        go_region_held3 (fun w' => w'.cell? ⟨bl, ol + q, none⟩ = some (.slice ya yn yc) ∧ w'.cell? ⟨bv, ov + i, none⟩ = some (.int .i64 u) ∧ w'.cell? ⟨bv, ov + j, none⟩ = some (.int .i64 x) ∧ Below wr.heap.size wr w') (first | assumption | exact ⟨pl, pv, pj, bR⟩ | exact ⟨pl, pv, pj, Below.drew bR⟩ | exact ⟨by assumption, by assumption, by assumption, by assumption⟩ | exact ⟨by assumption, by assumption, by assumption, Below.drew (by assumption)⟩) (first | (go_at_call 25; with_reducible refine Calls.mono (hcu.out _ ?_) ?_; (first | assumption | exact ⟨pl, pv, pj, bR⟩ | exact ⟨pl, pv, pj, Below.drew bR⟩ | exact ⟨by assumption, by assumption, by assumption, by assumption⟩ | exact ⟨by assumption, by assumption, by assumption, Below.drew (by assumption)⟩); rintro e w13 ⟨rfl, r1, r2, r3, r4⟩) | (go_at_call 25; with_reducible refine Calls.mono (hcx.out _ ?_) ?_; (first | assumption | exact ⟨pl, pv, pj, bR⟩ | exact ⟨pl, pv, pj, Below.drew bR⟩ | exact ⟨by assumption, by assumption, by assumption, by assumption⟩ | exact ⟨by assumption, by assumption, by assumption, Below.drew (by assumption)⟩); rintro e w14 ⟨rfl, t1, t2, t3, t4⟩))
                        have b12 := hb.trans (t4.mono hsz)
                        clear hcu hcx pl pv pj bR r1 r2 r3 r4 t1 t2 t3 t4
                        rename_i hHeld
                        clear hHeld
                        go_wp2_with fail
                        go_roundw
                        case rel => exact ⟨q + 1, by omega, by rw [← HF.out], by go_num, b12⟩
                        case measure => simp [intOf]; omega
                    · have e1 : q = z7 := by omega
                      subst e1
                      have HE2 : Hid (((c0 : Int) == (d0 : Int)) = eqvB (List.take q (setsOf H)) u x) := Lib.hid (by
                        rw [List.take_of_length_le (by rw [setsOf_len, HN_3.out.1]; omega)]
                        exact HE'.out)
                      generalize eqvB (List.take q (setsOf H)) u x = sm at *
                      have he := HE2.out
                      clear HE2 HE'
                      cases sm
                      · go_wp2_with fail
                        go_roundw
                        case rel => exact ⟨j + 1, by omega, by go_num, hb⟩
                        case measure => simp [intOf]; omega
                      · go_wp2_with fail
                        go_roundw
                        case rel => exact ⟨j + 1, by omega, by go_num, hb⟩
                        case measure => simp [intOf]; omega
              · have hd1 : decide ((j : Int) < (i : Int)) = false := decide_eq_false (by omega)
                go_wp2_with fail
                go_roundw
                case rel => exact ⟨i + 1, by omega, by go_num, hb⟩
                case measure => simp [intOf]; omega
        · go_wp2_with fail
          refine (wakes_any _).mono ?_
          rintro e w9 ⟨rfl, g9⟩
          go_wp2_with fail
          go_ret
          exact ⟨rfl, bb_3.trans ((hb.trans (g9.mono hsz)).mono bb_3.size)⟩
end Go.Proofs.Ythaageiflimnnaa.refineParts
