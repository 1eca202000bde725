/- TreeSizes: a tree that may be has as many leaves as forks, and one; each node but the last is the child of just one; cut short it may not be, but where a child's tree ends.
   Conditions: none but the row's own. -/
import Derived.Test.YtfpiackfhdiapaaTrKit
import Derived.Test.YtfpiackfhdiapaaTrC
namespace Go.Proofs.Ytfpiackfhdiapaa.S.treeSizes
open Go.ChangeShapes Go.WideShapes Go.ChangeAt Go.RowKit Go.Deep Go.BigFrame
set_option linter.unusedVariables false
set_option maxRecDepth 4000
set_option linter.unusedSimpArgs false

theorem wf_u16 {r : Int} (h : (Lit.int .u16 r).wf = true) : 0 ≤ r ∧ r < (65536 : Nat) := by
  simp [Lit.wf, IntKind.min, IntKind.max, IntKind.bits, IntKind.signed] at h; omega
/-- A row of counts. -/
def FL (f : Nat → Nat) (n : Nat) : List Int := (List.range n).map fun j => ((f j : Nat) : Int)
def bump (f : Nat → Nat) (a : Nat) : Nat → Nat := fun j => f j + b1 ((a : Int) == (j : Int))
theorem FL_len (f : Nat → Nat) (n : Nat) : (FL f n).length = n := by simp [FL]
theorem FL_at (f : Nat → Nat) {n j : Nat} (h : j < n) : (FL f n)[j]? = some ((f j : Nat) : Int) := by simp [FL, h]
theorem FL_zero (n : Nat) : FL (fun _ => 0) n = List.replicate n 0 := by
  apply List.ext_getElem
  · simp [FL]
  · intro i h1 h2; simp [FL]
theorem FL_set (f : Nat → Nat) {n a : Nat} (h : a < n) : (FL f n).set a ((f a : Nat) + 1 : Int) = FL (bump f a) n := by
  apply List.ext_getElem
  · simp [FL]
  · intro i h1 h2
    rw [List.getElem_set]
    simp only [FL, List.getElem_map, List.getElem_range, bump, b1]
    by_cases e : a = i
    · subst e; simp
    · rw [if_neg e, if_neg (by rw [beq_iff_eq]; omega)]; simp
theorem FL_same {f g : Nat → Nat} (h : ∀ j, f j = g j) (n : Nat) : FL f n = FL g n := by rw [show f = g from funext h]
theorem own_at {w : World} {base g n cap : Nat} {f : Nat → Nat} (h : w.ownsRow base 3 1 (.slice (some ⟨g, 0, none⟩) n cap) n (icells (FL f n))) {j : Nat} (hj : j < n) : w.cell? ⟨g, j, none⟩ = some (.int .i64 (f j : Nat)) := by
  rw [h.cellAt j (by omega)]
  unfold icells
  rw [List.getElem?_map, FL_at f hj]
  rfl
theorem own_bump {w : World} {base g n cap : Nat} {f : Nat → Nat} (h : w.ownsRow base 3 1 (.slice (some ⟨g, 0, none⟩) n cap) n (icells (FL f n))) {a : Nat} (ha : a < n) {u : Nat} (hu : (u : Int) = (f a : Nat) + 1) :
    (w.setCell ⟨g, a, none⟩ (.int .i64 (u : Nat))).ownsRow base 3 1 (.slice (some ⟨g, 0, none⟩) n cap) n (icells (FL (bump f a) n)) := by
  have h2 := (h.stored a (.int .i64 (u : Nat))).1
  rw [icells_set] at h2
  rw [hu] at h2 ⊢
  rwa [FL_set f ha] at h2

set_option maxHeartbeats 32000000 in
theorem walk (La : List NV) (A : Option Addr) (na ca : Nat) (v : Nat) (W : World) (hA : RT W W.heap.size A na La) (sA : Shp A na ca) (mA : ∀ y ∈ La, y.m.size ≤ maxLen) (hv : (v : Int) < (65536 : Nat)) :
    Calls Try.prog 6 #[.slice A na ca, .int .u16 (v : Int)] W fun e W' => e = .returned (.bool true) ∧ Below W.heap.size W W' := by
  have bb := Below.refl W.heap.size W
  obtain ⟨i0, hi0, hi1, hi2, hi3⟩ := info_parts info3
  have HLa := Lib.hid (fun V (g : Below W.heap.size W V) => largeTree_any La A na ca V (hA.on g) (Nat.le_trans sA.2.1 sA.2.2) mA)
  have HGa := Lib.hid (fun (h : SmT La) (hn : na ≤ 600) V (g : Below W.heap.size W V) => refGoodT_any La A na ca V (hA.on g) h (by omega))
  have HRa := Lib.hid (fun V (g : Below W.heap.size W V) => hA.on g)
  have HNa := Lib.hid hA.1
  have HCa := Lib.hid sA
  have hv2 : v < 65536 := by omega
  clear hA sA mA hv
  go_enter Try.func6, Try.ntmps6
  go_wp2_with fail
  refine (HLa.out _ bb).mono ?_
  rintro e w1 ⟨q, rfl, g, hq⟩
  replace bb := bb.trans (g.mono bb.size)
  have HQa := Lib.hid hq
  clear hq g HLa
  cases q
  case true =>
    go_wp2_with fail
    refine (wakes_any _).mono ?_
    rintro e w9 ⟨rfl, g9⟩
    have bf := bb.trans (g9.mono bb.size)
    clear g9
    go_wp2_with fail
    go_ret
    exact ⟨rfl, bf⟩
  have HSa : Hid (SmT La) := Lib.hid (HQa.out rfl).2
  have hna : na ≤ 600 := (HQa.out rfl).1
  clear HQa
  go_wp2_with fail
  obtain ⟨ga, hga⟩ : ∃ g, treeB (nds La) = g := ⟨_, rfl⟩
  have HC := Lib.hid (HGa.out HSa.out hna _ bb)
  rw [hga] at HC
  have HGa' := Lib.hid hga
  clear hga HGa
  refine HC.out.mono ?_
  rintro e w1 ⟨rfl, g⟩
  replace bb := bb.trans (g.mono bb.size)
  clear g HC
  cases ga
  case false =>
    go_wp2_with fail
    refine (wakes_any _).mono ?_
    rintro e w9 ⟨rfl, g9⟩
    have bf := bb.trans (g9.mono bb.size)
    clear g9
    go_wp2_with fail
    go_ret
    exact ⟨rfl, bf⟩
  obtain ⟨ea, ga, hea, hla⟩ := (treeB_iff _).1 HGa'.out
  have hza : sz ea = na := by have h := congrArg List.length hea; rw [nds_len, HNa.out, flat_len] at h; exact h.symm
  have hn0 : 0 < na := by rw [← hza]; exact sz_pos _
  have HLN : Hid ((nds La).length = na) := Lib.hid (by rw [nds_len, HNa.out])
  obtain ⟨bs, hbs⟩ : ∃ bs, bgs (nds La) = some bs := by
    have h := HGa'.out
    cases hb : bgs (nds La) with
    | none => rw [treeB_none hb] at h; cases h
    | some bs => exact ⟨bs, rfl⟩
  have HBS := Lib.hid hbs
  have HBL : Hid (bs.length = na) := Lib.hid (by rw [bgs_len _ _ hbs, nds_len, HNa.out])
  have HLv : Hid (lvs (nds La) = fks (nds La) + 1) := Lib.hid (by rw [hea]; exact lvs_flat ea 0)
  have HCn : Hid (∀ j : Nat, cnt (nds La) (j : Int) = if j + 1 < na then 1 else 0) := Lib.hid (fun j => by
    rw [hea, cnt_flat]
    by_cases c : j + 1 < na
    · rw [if_pos c, if_pos (by omega)]
    · rw [if_neg c, if_neg (by omega)])
  have HKi : Hid (∀ x ∈ nds La, (isFork x = true → (0 : Int) ≤ x.a ∧ x.a < (na : Int) ∧ (0 : Int) ≤ x.b ∧ x.b < (na : Int)) ∧ (x.k = 5 → (0 : Int) ≤ x.a ∧ x.a < (na : Int))) := Lib.hid (fun x hx => by
    rw [hea] at hx
    have h := kids_in ea 0 x hx
    rw [hza] at h
    exact ⟨fun g => by have := h.1 g; omega, fun g => by have := h.2 g; omega⟩)
  have HTk : Hid (treeB (nds La) = true) := HGa'
  clear hea ga hla hza hbs HGa'
  rename World => w0
  go_wp2_with (at_make; refine wpList_make_full _ rfl _ _ 26 rfl w0.heap.size 3 i0 _ 1 Try.underlying26 hi0 hi1 hi2 .i64 .i64 na na na rfl rfl rfl rfl ?k1 ?k2 (Nat.le_refl _) ?_)
  case k1 => first | omega | (rw [hi3]; omega)
  case k2 => unfold maxLen; omega
  first | (intro w1 hown1 hgrow1) | (rename_i w1 hown1 hgrow1)
  have b1' : Below w0.heap.size w0 w1 := (Below.refl _ _).grown hgrow1 (Nat.le_refl _) (fun k hk => by cases hk)
  have HO : Hid (w1.ownsRow w0.heap.size 3 1 (.slice (some ⟨w0.heap.size, 0, none⟩) na na) na (icells (FL (fun _ => 0) na))) := Lib.hid (by
    have h := hown1
    rw [icells_rep] at h
    rwa [FL_zero])
  clear hown1 hgrow1
  go_wp2_with fail
  go_loopw [5, 6, 8] (fun v5 v6 v8 V => ∃ (k lv fk : Nat) (f : Nat → Nat), k ≤ na ∧ v5 = .int .i64 lv ∧ v6 = .int .i64 fk ∧ v8 = .int .i64 k ∧ Hid (lv = lvs ((nds La).take k)) ∧ Hid (fk = fks ((nds La).take k)) ∧ Hid (∀ j : Nat, f j = cnt ((nds La).take k) (j : Int)) ∧ Hid (Below w0.heap.size w0 V) ∧ Hid (V.ownsRow w0.heap.size 3 1 (.slice (some ⟨w0.heap.size, 0, none⟩) na na) na (icells (FL f na)))) (fun _ _ v8 _ => na - (intOf v8).toNat)
  case atStart => exact ⟨0, 0, 0, fun _ => 0, Nat.zero_le _, rfl, rfl, rfl, Lib.hid rfl, Lib.hid rfl, Lib.hid (fun _ => rfl), Lib.hid b1', HO⟩
  case round =>
    rename World => V
    clear HO
    obtain ⟨k, lv, fk, f, hk, rfl, rfl, rfl, HV, HF, HC, HB, HO⟩ := hrel
    by_cases hlt : k < na
    · have kl : k < La.length := by rw [HNa.out]; exact hlt
      obtain ⟨b, o, hAe, hbb, p0, p1, p2, _, _, _⟩ := (HRa.out V (bb.trans (HB.out.mono bb.size))).at kl
      subst hAe
      have hbw : b < w0.heap.size := by
        obtain ⟨b', o', e, h1, _⟩ := (HRa.out w0 bb).at kl
        injection e with e
        injection e with e1
        omega
      have HX := Lib.hid (HKi.out _ (List.getElem_mem (by rw [HLN.out]; exact hlt : k < (nds La).length)))
      rw [nds_at kl] at HX
      have hT := nds_take_succ kl
      have HV' : Hid (lvs ((nds La).take (k + 1)) = lv + S.b1 (isLeaf La[k].nd)) := Lib.hid (by rw [hT, lvs_app, lvs_one, ← HV.out])
      have HF' : Hid (fks ((nds La).take (k + 1)) = fk + S.b1 (isFork La[k].nd)) := Lib.hid (by rw [hT, fks_app, fks_one, ← HF.out])
      have HC' : Hid (∀ j : Nat, cnt ((nds La).take (k + 1)) (j : Int) = f j + refs (j : Int) La[k].nd) := Lib.hid (fun j => by rw [hT, cnt_app, cnt_one, ← HC.out])
      have hlv : lv ≤ 600 := by have h := lvs_le ((nds La).take k); rw [List.length_take, ← HV.out] at h; omega
      have hfk : fk ≤ 600 := by have h := fks_le ((nds La).take k); rw [List.length_take, ← HF.out] at h; omega
      have hfl : ∀ j, f j ≤ 1200 := fun j => by have h := cnt_le ((nds La).take k) (j : Int); rw [List.length_take, ← HC.out] at h; omega
      have q1 : IntKind.i64.wrap ((lv : Int) + 1) = ((lv + 1 : Nat) : Int) := by rw [IntWalk.i64_in _ (by omega)]; rfl
      have q2 : IntKind.i64.wrap ((fk : Int) + 1) = ((fk + 1 : Nat) : Int) := by rw [IntWalk.i64_in _ (by omega)]; rfl
      obtain ⟨lw, hlw⟩ : ∃ m, m = lv + 1 := ⟨_, rfl⟩
      obtain ⟨fw, hfw⟩ : ∃ m, m = fk + 1 := ⟨_, rfl⟩
      rw [← hlw] at q1
      rw [← hfw] at q2
      have HLW := Lib.hid hlw
      have HFW := Lib.hid hfw
      have HFL := Lib.hid hfl
      clear hT HV HF HC hlv hfk hfl hlw hfw
      generalize La[k] = x at *
      obtain ⟨xk, xa, xb, xA, xn, xc, xs, xm⟩ := x
      simp only [NV.nd] at p0 p1 p2 HX HV' HF' HC'
      have hkI : (k : Int) < (na : Int) := by omega
      have hkI0 : (0 : Int) ≤ (k : Int) := by omega
      by_cases hk3 : xk = 3
      · subst hk3
        obtain ⟨ha0, ha1, hc0, hc1⟩ := HX.out.1 rfl
        obtain ⟨a, rfl⟩ := Int.eq_ofNat_of_zero_le ha0
        obtain ⟨c, rfl⟩ := Int.eq_ofNat_of_zero_le hc0
        obtain ⟨u1, hu1⟩ : ∃ m, m = f a := ⟨_, rfl⟩
        have c1 : V.cell? ⟨w0.heap.size, a, none⟩ = some (.int .i64 (u1 : Nat)) := by rw [hu1]; exact own_at HO.out (by omega)
        obtain ⟨y1, hy1⟩ : ∃ m, m = u1 + 1 := ⟨_, rfl⟩
        have s1 : IntKind.i64.wrap ((u1 : Int) + 1) = (y1 : Nat) := by rw [IntWalk.i64_in _ (by have h := HFL.out a; rw [← hu1] at h; omega), hy1]; rfl
        have f1 := HO.out.frozenAt a
        have HO1 : Hid ((V.setCell ⟨w0.heap.size, a, none⟩ (.int .i64 (y1 : Nat))).ownsRow w0.heap.size 3 1 (.slice (some ⟨w0.heap.size, 0, none⟩) na na) na (icells (FL (bump f a) na))) := Lib.hid (own_bump HO.out (by omega) (by rw [hy1, hu1]; rfl))
        have p2 : (V.setCell ⟨w0.heap.size, a, none⟩ (.int .i64 (y1 : Nat))).cell? ⟨b, o + k * 5 + 2, none⟩ = some (.int .i64 (c : Int)) := by rw [World.cell?_setCell_far _ _ _ _ (show w0.heap.size ≠ b by omega)]; exact p2
        obtain ⟨u2, hu2⟩ : ∃ m, m = (bump f a) c := ⟨_, rfl⟩
        have c2 : (V.setCell ⟨w0.heap.size, a, none⟩ (.int .i64 (y1 : Nat))).cell? ⟨w0.heap.size, c, none⟩ = some (.int .i64 (u2 : Nat)) := by rw [hu2]; exact own_at HO1.out (by omega)
        obtain ⟨y2, hy2⟩ : ∃ m, m = u2 + 1 := ⟨_, rfl⟩
        have s2 : IntKind.i64.wrap ((u2 : Int) + 1) = (y2 : Nat) := by rw [IntWalk.i64_in _ (by have h := HFL.out c; have h2 := S.b1_le ((a : Int) == (c : Int)); have h3 : u2 = f c + S.b1 ((a : Int) == (c : Int)) := hu2; omega), hy2]; rfl
        have f2 := HO1.out.frozenAt c
        have HO2 : Hid (((V.setCell ⟨w0.heap.size, a, none⟩ (.int .i64 (y1 : Nat))).setCell ⟨w0.heap.size, c, none⟩ (.int .i64 (y2 : Nat))).ownsRow w0.heap.size 3 1 (.slice (some ⟨w0.heap.size, 0, none⟩) na na) na (icells (FL (bump (bump f a) c) na))) := Lib.hid (own_bump HO1.out (by omega) (by rw [hy2, hu2]; rfl))
        have HN : Hid (∀ j : Nat, bump (bump f a) c j = cnt ((nds La).take (k + 1)) (j : Int)) := Lib.hid (fun j => by
          rw [HC'.out]
          show f j + S.b1 ((a : Int) == (j : Int)) + S.b1 ((c : Int) == (j : Int)) = f j + (S.b1 ((a : Int) == (j : Int)) + S.b1 ((c : Int) == (j : Int)))
          omega)
        have HN1 : Hid (lv = lvs ((nds La).take (k + 1))) := Lib.hid (by rw [HV'.out]; rfl)
        have HN2 : Hid (fw = fks ((nds La).take (k + 1))) := Lib.hid (by rw [HF'.out, HFW.out]; rfl)
        have HBn : Hid (Below w0.heap.size w0 ((V.setCell ⟨w0.heap.size, a, none⟩ (.int .i64 (y1 : Nat))).setCell ⟨w0.heap.size, c, none⟩ (.int .i64 (y2 : Nat)))) := Lib.hid ((HB.out.setCell (p := ⟨w0.heap.size, a, none⟩) (Nat.le_refl _) _).setCell (p := ⟨w0.heap.size, c, none⟩) (Nat.le_refl _) _)
        clear hu1 hy1 hu2 hy2 HX HV' HF' HC' HFW HLW HFL HB HO HO1
        go_wp2_with fail
        go_roundw
        case rel => exact ⟨k + 1, lv, fw, bump (bump f a) c, by omega, rfl, rfl, by go_num, HN1, HN2, HN, HBn, HO2⟩
        case measure => simp [intOf] <;> omega
      by_cases hk4 : xk = 4
      · subst hk4
        obtain ⟨ha0, ha1, hc0, hc1⟩ := HX.out.1 rfl
        obtain ⟨a, rfl⟩ := Int.eq_ofNat_of_zero_le ha0
        obtain ⟨c, rfl⟩ := Int.eq_ofNat_of_zero_le hc0
        obtain ⟨u1, hu1⟩ : ∃ m, m = f a := ⟨_, rfl⟩
        have c1 : V.cell? ⟨w0.heap.size, a, none⟩ = some (.int .i64 (u1 : Nat)) := by rw [hu1]; exact own_at HO.out (by omega)
        obtain ⟨y1, hy1⟩ : ∃ m, m = u1 + 1 := ⟨_, rfl⟩
        have s1 : IntKind.i64.wrap ((u1 : Int) + 1) = (y1 : Nat) := by rw [IntWalk.i64_in _ (by have h := HFL.out a; rw [← hu1] at h; omega), hy1]; rfl
        have f1 := HO.out.frozenAt a
        have HO1 : Hid ((V.setCell ⟨w0.heap.size, a, none⟩ (.int .i64 (y1 : Nat))).ownsRow w0.heap.size 3 1 (.slice (some ⟨w0.heap.size, 0, none⟩) na na) na (icells (FL (bump f a) na))) := Lib.hid (own_bump HO.out (by omega) (by rw [hy1, hu1]; rfl))
        have p2 : (V.setCell ⟨w0.heap.size, a, none⟩ (.int .i64 (y1 : Nat))).cell? ⟨b, o + k * 5 + 2, none⟩ = some (.int .i64 (c : Int)) := by rw [World.cell?_setCell_far _ _ _ _ (show w0.heap.size ≠ b by omega)]; exact p2
        obtain ⟨u2, hu2⟩ : ∃ m, m = (bump f a) c := ⟨_, rfl⟩
        have c2 : (V.setCell ⟨w0.heap.size, a, none⟩ (.int .i64 (y1 : Nat))).cell? ⟨w0.heap.size, c, none⟩ = some (.int .i64 (u2 : Nat)) := by rw [hu2]; exact own_at HO1.out (by omega)
        obtain ⟨y2, hy2⟩ : ∃ m, m = u2 + 1 := ⟨_, rfl⟩
        have s2 : IntKind.i64.wrap ((u2 : Int) + 1) = (y2 : Nat) := by rw [IntWalk.i64_in _ (by have h := HFL.out c; have h2 := S.b1_le ((a : Int) == (c : Int)); have h3 : u2 = f c + S.b1 ((a : Int) == (c : Int)) := hu2; omega), hy2]; rfl
        have f2 := HO1.out.frozenAt c
        have HO2 : Hid (((V.setCell ⟨w0.heap.size, a, none⟩ (.int .i64 (y1 : Nat))).setCell ⟨w0.heap.size, c, none⟩ (.int .i64 (y2 : Nat))).ownsRow w0.heap.size 3 1 (.slice (some ⟨w0.heap.size, 0, none⟩) na na) na (icells (FL (bump (bump f a) c) na))) := Lib.hid (own_bump HO1.out (by omega) (by rw [hy2, hu2]; rfl))
        have HN : Hid (∀ j : Nat, bump (bump f a) c j = cnt ((nds La).take (k + 1)) (j : Int)) := Lib.hid (fun j => by
          rw [HC'.out]
          show f j + S.b1 ((a : Int) == (j : Int)) + S.b1 ((c : Int) == (j : Int)) = f j + (S.b1 ((a : Int) == (j : Int)) + S.b1 ((c : Int) == (j : Int)))
          omega)
        have HN1 : Hid (lv = lvs ((nds La).take (k + 1))) := Lib.hid (by rw [HV'.out]; rfl)
        have HN2 : Hid (fw = fks ((nds La).take (k + 1))) := Lib.hid (by rw [HF'.out, HFW.out]; rfl)
        have HBn : Hid (Below w0.heap.size w0 ((V.setCell ⟨w0.heap.size, a, none⟩ (.int .i64 (y1 : Nat))).setCell ⟨w0.heap.size, c, none⟩ (.int .i64 (y2 : Nat)))) := Lib.hid ((HB.out.setCell (p := ⟨w0.heap.size, a, none⟩) (Nat.le_refl _) _).setCell (p := ⟨w0.heap.size, c, none⟩) (Nat.le_refl _) _)
        clear hu1 hy1 hu2 hy2 HX HV' HF' HC' HFW HLW HFL HB HO HO1
        go_wp2_with fail
        go_roundw
        case rel => exact ⟨k + 1, lv, fw, bump (bump f a) c, by omega, rfl, rfl, by go_num, HN1, HN2, HN, HBn, HO2⟩
        case measure => simp [intOf] <;> omega
      by_cases hk5 : xk = 5
      · subst hk5
        obtain ⟨ha0, ha1⟩ := HX.out.2 rfl
        obtain ⟨a, rfl⟩ := Int.eq_ofNat_of_zero_le ha0
        obtain ⟨u1, hu1⟩ : ∃ m, m = f a := ⟨_, rfl⟩
        have c1 : V.cell? ⟨w0.heap.size, a, none⟩ = some (.int .i64 (u1 : Nat)) := by rw [hu1]; exact own_at HO.out (by omega)
        obtain ⟨y1, hy1⟩ : ∃ m, m = u1 + 1 := ⟨_, rfl⟩
        have s1 : IntKind.i64.wrap ((u1 : Int) + 1) = (y1 : Nat) := by rw [IntWalk.i64_in _ (by have h := HFL.out a; rw [← hu1] at h; omega), hy1]; rfl
        have f1 := HO.out.frozenAt a
        have HO1 : Hid ((V.setCell ⟨w0.heap.size, a, none⟩ (.int .i64 (y1 : Nat))).ownsRow w0.heap.size 3 1 (.slice (some ⟨w0.heap.size, 0, none⟩) na na) na (icells (FL (bump f a) na))) := Lib.hid (own_bump HO.out (by omega) (by rw [hy1, hu1]; rfl))
        have HN : Hid (∀ j : Nat, bump f a j = cnt ((nds La).take (k + 1)) (j : Int)) := Lib.hid (fun j => by rw [HC'.out]; rfl)
        have HN1 : Hid (lv = lvs ((nds La).take (k + 1))) := Lib.hid (by rw [HV'.out]; rfl)
        have HN2 : Hid (fk = fks ((nds La).take (k + 1))) := Lib.hid (by rw [HF'.out]; rfl)
        have HBn : Hid (Below w0.heap.size w0 (V.setCell ⟨w0.heap.size, a, none⟩ (.int .i64 (y1 : Nat)))) := Lib.hid (HB.out.setCell (p := ⟨w0.heap.size, a, none⟩) (Nat.le_refl _) _)
        clear hu1 hy1 HX HV' HF' HC' HFW HLW HFL HB HO
        go_wp2_with fail
        go_roundw
        case rel => exact ⟨k + 1, lv, fk, bump f a, by omega, rfl, rfl, by go_num, HN1, HN2, HN, HBn, HO1⟩
        case measure => simp [intOf] <;> omega
      have hlf : isFork ⟨xk, xa, xb, xs, xm⟩ = false := by unfold isFork; simp [hk3, hk4]
      have h5b : (xk == 5) = false := by simpa using hk5
      have HN : Hid (∀ j : Nat, f j = cnt ((nds La).take (k + 1)) (j : Int)) := Lib.hid (fun j => by rw [HC'.out]; unfold refs; rw [hlf, h5b]; rfl)
      have HN1 : Hid (lw = lvs ((nds La).take (k + 1))) := Lib.hid (by rw [HV'.out, HLW.out]; unfold isLeaf; rw [hlf, h5b]; rfl)
      have HN2 : Hid (fk = fks ((nds La).take (k + 1))) := Lib.hid (by rw [HF'.out, hlf]; rfl)
      have h3b : (xk == 3) = false := by simpa using hk3
      have h4b : (xk == 4) = false := by simpa using hk4
      clear HX HV' HF' HC' HFW HLW HFL hlf
      go_wp2_with fail
      go_roundw
      case rel => exact ⟨k + 1, lw, fk, f, by omega, rfl, rfl, by go_num, HN1, HN2, HN, HB, HO⟩
      case measure => simp [intOf] <;> omega
    have hkn : k = na := by omega
    have hkI : ¬ (k : Int) < (na : Int) := by omega
    have HFc : Hid (∀ j, f j = if j + 1 < na then 1 else 0) := Lib.hid (fun j => by rw [HC.out, hkn, List.take_of_length_le (by rw [HLN.out]; exact Nat.le_refl _), HCn.out])
    have hlf0 : lv = fk + 1 := by rw [HV.out, HF.out, hkn, List.take_of_length_le (by rw [HLN.out]; exact Nat.le_refl _), HLv.out]
    have HLF := Lib.hid hlf0
    have hfk : fk ≤ 600 := by have h := fks_le ((nds La).take k); rw [List.length_take, ← HF.out] at h; omega
    clear HV HF HC HCn HLv HKi hkn hlf0
    go_wp2_with fail
    go_loopw [9] (fun v9 Z => ∃ (i : Nat), i ≤ na ∧ v9 = .int .i64 i ∧ Z = V) (fun v9 _ => na - (intOf v9).toNat)
    case atStart => exact ⟨0, Nat.zero_le _, rfl, rfl⟩
    case round =>
      obtain ⟨i, hi, rfl, rfl⟩ := hrel
      by_cases hin : i < na
      · have c1 := own_at HO.out hin
        have hI : (i : Int) < (na : Int) := by omega
        have hI0 : (0 : Int) ≤ (i : Int) := by omega
        have qi : IntKind.i64.wrap ((i : Int) + 1) = ((i + 1 : Nat) : Int) := by rw [IntWalk.i64_in _ (by omega)]; rfl
        obtain ⟨i1, hi1⟩ : ∃ m, m = i + 1 := ⟨_, rfl⟩
        rw [← hi1] at qi
        by_cases hlast : i + 1 < na
        · rw [HFc.out, if_pos hlast] at c1
          have hIl : (i1 : Int) < (na : Int) := by omega
          have HI1 := Lib.hid hi1
          clear hi1 hlast
          go_wp2_with fail
          go_roundw
          case rel => exact ⟨i1, by omega, by first | rfl | trivial | go_num, by first | trivial | rfl⟩
          case measure => simp [intOf] <;> (have := HI1.out; omega)
        · rw [HFc.out, if_neg hlast] at c1
          have hIl : ¬ (i1 : Int) < (na : Int) := by omega
          have HI1 := Lib.hid hi1
          clear hi1 hlast
          go_wp2_with fail
          go_roundw
          case rel => exact ⟨i1, by have := HI1.out; omega, by first | rfl | trivial | go_num, by first | trivial | rfl⟩
          case measure => simp [intOf] <;> (have := HI1.out; omega)
      · have hI : ¬ (i : Int) < (na : Int) := by omega
        obtain ⟨m, hm⟩ : ∃ m, v % (na + 1) = m := ⟨_, rfl⟩
        have hmle : m ≤ na := by have := Nat.mod_lt v (show 0 < na + 1 by omega); omega
        have i1 : (v : Int) % ((na : Int) + 1) = (m : Int) := by rw [← hm]; exact (Int.natCast_emod v (na + 1)).symm
        have i2 : Int.tmod (v : Int) ((na : Int) + 1) = (m : Int) := by rw [Int.tmod_eq_emod_of_nonneg (by omega)]; exact i1
        have q3 : IntKind.i64.wrap ((na : Int) + 1) = (na : Int) + 1 := IntWalk.i64_in _ (by omega)
        have q4 : IntKind.i64.wrap (v : Int) = (v : Int) := IntWalk.i64_in _ (by omega)
        have q5 : IntKind.i64.wrap (m : Int) = (m : Int) := IntWalk.i64_in _ (by omega)
        have q6 : ((na : Int) + 1 == 0) = false := by rw [beq_eq_false_iff_ne]; omega
        have q7 : ¬ (na : Int) + 1 = 0 := by omega
        clear hm HFc HO
        have bd := HB.out
        have HC := Lib.hid (refBegin_any La A na ca _ (HRa.out _ (bb.trans (bd.mono bb.size))) HSa.out (by omega))
        rw [HBS.out] at HC
        go_wp2_with fail
        refine HC.out.mono ?_
        intro en w5 hO
        obtain ⟨Ab, nb, cb, rfl, hbl, hbo, g5⟩ := hO
        replace bd := bd.trans (g5.mono bd.size)
        have hbl' : bs.length = nb := hbl
        have HBO : Hid (Reads w5 w5.heap.size 1 Ab nb (nats bs)) := Lib.hid (Reads.of_own hbo)
        have HBN := Lib.hid hbl'
        clear hbl hbl' hbo g5 HC
        have q8 : IntKind.i64.wrap ((fk : Int) + 1) = (lv : Int) := by rw [IntWalk.i64_in _ (by omega), HLF.out]; rfl
        have HC := Lib.hid (treeGood_any La A na ca _ (HRa.out _ (bb.trans (bd.mono bb.size))) HSa.out (by omega))
        rw [HTk.out] at HC
        go_wp2_with fail
        refine HC.out.mono ?_
        rintro e w6 ⟨rfl, g6⟩
        replace bd := bd.trans (g6.mono bd.size)
        replace HBO := Lib.hid ((HBO.out.below g6).more g6.size)
        clear HC g6
        obtain ⟨b, o, hAe, _, _⟩ := (HRa.out _ (bb.trans (bd.mono bb.size))).at (k := 0) (by rw [HNa.out]; exact hn0)
        subst hAe
        have hmc : m ≤ ca := by have := HCa.out.2.1; omega
        have hmI : (m : Int) ≤ (ca : Int) := by omega
        have hmI0 : (0 : Int) ≤ (m : Int) := by omega
        have HC := Lib.hid (treeGood_any (La.take m) (some ⟨b, o, none⟩) m ca _ ((HRa.out _ (bb.trans (bd.mono bb.size))).pre m hmle) (HSa.out.sub (fun x hx => List.mem_of_mem_take hx)) (by omega))
        have HE : Hid (treeB (nds (La.take m)) = (decide (0 < m) && (bs[m - 1]? == some 0))) := Lib.hid (by
          have h := treeB_take HBS.out (by rw [HLN.out]; omega) m (by rw [HLN.out]; exact hmle)
          rw [← h]
          unfold nds
          rw [List.map_take])
        rw [HE.out] at HC
        clear HE
        by_cases hm0 : m = 0
        · subst hm0
          simp only [Nat.lt_irrefl, decide_false, Bool.false_and] at HC
          go_wp2_with fail
          refine HC.out.mono ?_
          rintro e w7 ⟨rfl, g7⟩
          replace bd := bd.trans (g7.mono bd.size)
          clear HC g7
          go_wp2_with fail
          refine (wakes_any _).mono ?_
          rintro e w9 ⟨rfl, g9⟩
          have bf := bb.trans (bd.trans (g9.mono bd.size) |>.mono bb.size)
          clear g9
          go_wp2_with fail
          go_ret
          exact ⟨rfl, bf⟩
        · have hmp : 0 < m := by omega
          have hmpI : (0 : Int) < (m : Int) := by omega
          obtain ⟨m1, hm1⟩ : ∃ m1, m = m1 + 1 := ⟨m - 1, by omega⟩
          have hmb : m1 < bs.length := by have := HBL.out; omega
          have q9 : IntKind.i64.wrap ((m : Int) - 1) = (m1 : Int) := by rw [IntWalk.i64_in _ (by omega)]; omega
          have h1I : (m1 : Int) < (nb : Int) := by have := HBN.out; omega
          have h1I0 : (0 : Int) ≤ (m1 : Int) := by omega
          rw [decide_eq_true hmp, Bool.true_and, show m - 1 = m1 by omega, List.getElem?_eq_getElem hmb] at HC
          obtain ⟨z, hz⟩ : ∃ z, bs[m1] = z := ⟨_, rfl⟩
          rw [hz] at HC
          obtain ⟨b6, o6, hA6, _, c6⟩ := nats_at HBO.out hmb
          subst hA6
          rw [hz] at c6
          have HZ := Lib.hid hz
          clear hz hm1 hm0
          go_wp2_with fail
          refine HC.out.mono ?_
          rintro e w7 ⟨rfl, g7⟩
          replace bd := bd.trans (g7.mono bd.size)
          have HB7 := Lib.hid ((HBO.out.below g7).more g7.size)
          have c7 : w7.cell? ⟨b6, o6 + m1, none⟩ = some (.int .i64 (z : Nat)) := by
            have h := nats_at HB7.out (k := m1) (by have := HBN.out; omega)
            obtain ⟨b6', o6', e6, _, c7⟩ := h
            injection e6 with e6
            injection e6 with e1 e2
            subst e1 e2
            rw [HZ.out] at c7
            exact c7
          clear HC g7 c6
          by_cases hz0 : z = 0
          · subst hz0
            simp only [beq_self_eq_true] at *
            go_wp2_with fail
            refine (wakes_any _).mono ?_
            rintro e w9 ⟨rfl, g9⟩
            have bf := bb.trans (bd.trans (g9.mono bd.size) |>.mono bb.size)
            clear g9
            go_wp2_with fail
            go_ret
            exact ⟨rfl, bf⟩
          · have e1 : (some z == some 0) = false := by simpa using hz0
            have e2 : ((z : Int) == 0) = false := by rw [beq_eq_false_iff_ne]; omega
            rw [e1]
            go_wp2_with fail
            refine (wakes_any _).mono ?_
            rintro e w9 ⟨rfl, g9⟩
            have bf := bb.trans (bd.trans (g9.mono bd.size) |>.mono bb.size)
            clear g9
            go_wp2_with fail
            go_ret
            exact ⟨rfl, bf⟩

/-! From the walk to the row. -/
set_option maxRecDepth 100000 in
theorem contract (H : Type) (enc : TypeId × Value → H) (W : World) (base : Nat) (args : Array Value) (ds gs : List (DataW H)) (before : List MemPlace)
    (hval0 : ∀ (j : Nat) t v, Try.f6.params[j]? = some t → args[j]? = some v → Value.okWide Try.prog W .any base t v)
    (hW : DataW.Whole enc Try.prog Try.f6.params.toList Rows.treeSizesSpec.vars false W args.toList ds gs before) :
    Calls Try.prog 6 args W fun e W' => ∃ v, e = .returned v ∧ Rows.treeSizesSpec.post enc Try.prog Try.f6 false true false false W args v W' := by
  have hval : ∀ (j : Nat) t v, Try.f6.params[j]? = some t → args[j]? = some v → Value.okWide Try.prog W .any base t v := hval0
  have hW' := hW
  obtain ⟨p, q, hA0, hV, rfl, hfz, hnd⟩ := hW
  have hA : DataW.TrodAll enc Try.prog W 0 (fun _ => true) true Try.f6.params.toList args.toList ds p := hA0
  rw [Try.params6] at hA hval
  obtain ⟨v0, vs0, d0, ds0, p0, q0, hargs, rfl, rfl, h0, r0⟩ := trodAll_cons hA
  obtain ⟨v1, vs1, d1, ds1, p1, q1, rfl, rfl, rfl, h1, r1⟩ := trodAll_cons r0
  obtain ⟨rfl, rfl, rfl⟩ := trodAll_nil r1
  obtain rfl : args = #[v0, v1] := by cases args; simp_all
  obtain ⟨rfl, rfl⟩ := trodVars_none hV
  obtain ⟨a0, len0, cap0, rfl⟩ := okWide_slice Try.underlying23 (hval 0 23 v0 rfl rfl)
  have k0 := h0
  have lt0 : ∀ x ∈ p0, x.block < W.heap.size := by obtain ⟨m, hm⟩ := k0; exact DataW.trod_lt m _ _ _ hm
  obtain ⟨l0, hs0, hr0, hm0⟩ : ∃ L : List NV, Shp a0 len0 cap0 ∧ RT W W.heap.size a0 len0 L ∧ ∀ y ∈ L, y.m.size ≤ maxLen := by
    obtain ⟨fuel, hf⟩ := h0
    exact open_tree (by simpa [Value.cells] using hf)
  obtain ⟨z1, rfl, rfl, rfl, wf1⟩ := open_int Try.underlying50 (hval 1 50 v1 rfl rfl) h1
  obtain ⟨zl1, zu1⟩ := wf_u16 wf1
  obtain ⟨a1, rfl⟩ := Int.eq_ofNat_of_zero_le zl1
  clear hA0 hval0
  refine (walk l0 a0 len0 cap0 a1 W hr0 hs0 hm0 zu1).mono fun e W' ⟨he, bel⟩ => ?_
  subst he
  exact ⟨_, rfl, _, _, _, [], _, [], hW', trodAll_mk1 (shut_bool Try.underlying4 _), (trodAll_cons_mk (Below.trod laidOut (by kernel_rfl) (of_decide_eq_true (by kernel_rfl)) k0 bel lt0) (trodAll_cons_mk (shut_int Try.underlying50 wf1) trodAll_mk0)), rfl, bel.frame _, fun h => by cases h⟩

set_option maxRecDepth 100000 in
theorem lifted (os : Os) (started : os.Started) (H : Type) (enc : TypeId × Value → H) :
    ReturnsInHanded {} Try.checked os 6 .any (Rows.treeSizesSpec.pre6 enc Try.prog Try.f6 Rows.treeSizesRow.domain false) (Rows.treeSizesSpec.post enc Try.prog Try.f6 false true false false) := by
  refine returnsInHanded_of_change (C := Try.checked) own started (by kernel_rfl) Try.func6
    (ChangeSpec.witness6 (enc := enc) (C := Try.checked) false ⟨#[], #[.slice none 0 0, .int .u16 0], []⟩ 8 (by kernel_rfl) (by kernel_rfl) (by kernel_rfl) (by kernel_rfl)) ?_
  intro W base args ds gs before hval hW _ _
  exact contract H enc W base args ds gs before hval hW

set_option maxRecDepth 100000 in
theorem over : Rows.treeSizesRow.holds Try.pinned (OpenSpec.ofChange Rows.treeSizesSpec) :=
  OpenClaim.holds_of_wide 6 Try.f6 rfl rfl rfl rfl rfl rfl rfl ⟨rfl, rfl, rfl, rfl, rfl⟩ rfl rfl rfl rfl rfl (by kernel_rfl) Try.func6 (by kernel_rfl)
    (of_decide_eq_true (by kernel_rfl)) (by unfold Func.isWrapper; first | (rw [if_pos (by decide +kernel)]; kernel_rfl) | (rw [if_neg (by decide +kernel)]; exact ⟨rfl, rfl⟩))
    (fun os started H enc _ => lifted os started H enc)
end Go.Proofs.Ytfpiackfhdiapaa.S.treeSizes

namespace Go.Proofs.Ytfpiackfhdiapaa
/-- The given statement, under a short name. -/
theorem treeSizes_holds : Rows.TreeSizesSaid := S.treeSizes.over
#print axioms treeSizes_holds
end Go.Proofs.Ytfpiackfhdiapaa
