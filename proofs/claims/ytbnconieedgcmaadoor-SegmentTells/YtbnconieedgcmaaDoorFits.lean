/- What within, inByte, byteOf, allInByte and fits return. -/
import Derived.Test.YtbnconieedgcmaaDoorEqs
namespace Go.Proofs.YtbnconieedgcmaaDoor
open Go.RowKit Go.BigFrame
set_option linter.unusedVariables false
set_option maxRecDepth 4000
set_option linter.unusedSimpArgs false

theorem within_t (v a b : Int) (h : a ≤ v ∧ v ≤ b) (w : World) : Calls Tryd.prog 94 #[.int .i64 v, .int .i64 a, .int .i64 b] w fun e w' => e = .returned (.bool true) ∧ w' = w := by
  obtain ⟨h1, h2⟩ := h
  go_enter Tryd.func94, Tryd.ntmps94
  go_wp2_with fail
  go_ret
  exact ⟨rfl, rfl⟩
theorem within_f (v a b : Int) (h : ¬ (a ≤ v ∧ v ≤ b)) (w : World) : Calls Tryd.prog 94 #[.int .i64 v, .int .i64 a, .int .i64 b] w fun e w' => e = .returned (.bool false) ∧ w' = w := by
  by_cases h1 : a ≤ v
  · have h2 : ¬ v ≤ b := fun h2 => h ⟨h1, h2⟩
    clear h
    go_enter Tryd.func94, Tryd.ntmps94
    go_wp2_with fail
    go_ret
    exact ⟨rfl, rfl⟩
  · clear h
    go_enter Tryd.func94, Tryd.ntmps94
    go_wp2_with fail
    go_ret
    exact ⟨rfl, rfl⟩
/-- A byte's number? -/
def byB (v : Int) : Bool := decide (0 ≤ v ∧ v ≤ 255)
theorem byB_yes {v : Int} (h : 0 ≤ v ∧ v ≤ 255) : byB v = true := decide_eq_true h
theorem byB_no {v : Int} (h : ¬ (0 ≤ v ∧ v ≤ 255)) : byB v = false := decide_eq_false h
theorem byB_iff (v : Int) : byB v = true ↔ byteI v := by unfold byB byteI; simp
theorem inByte_any (v : Int) (w : World) : Calls Tryd.prog 68 #[.int .i64 v] w fun e w' => e = .returned (.bool (byB v)) ∧ w' = w := by
  by_cases h : 0 ≤ v ∧ v ≤ 255
  · have H := Lib.hid (byB_yes h)
    go_enter Tryd.func68, Tryd.ntmps68
    go_wp2_with fail
    refine (within_t _ _ _ h _).mono ?_
    rintro e w1 ⟨rfl, rfl⟩
    go_wp2_with fail
    go_ret
    exact ⟨ret_bool H.out.symm, rfl⟩
  · have H := Lib.hid (byB_no h)
    go_enter Tryd.func68, Tryd.ntmps68
    go_wp2_with fail
    refine (within_f _ _ _ h _).mono ?_
    rintro e w1 ⟨rfl, rfl⟩
    go_wp2_with fail
    go_ret
    exact ⟨ret_bool H.out.symm, rfl⟩
theorem byteOf_any (v : Int) (w : World) : Calls Tryd.prog 48 #[.int .i64 v] w fun e w' => e = .returned (.bool (byB v)) ∧ w' = w := by
  by_cases h1 : 0 ≤ v
  · by_cases h2 : v ≤ 255
    · have H := Lib.hid (byB_yes ⟨h1, h2⟩)
      go_enter Tryd.func48, Tryd.ntmps48
      go_wp2_with fail
      go_ret
      exact ⟨ret_bool H.out.symm, rfl⟩
    · have H := Lib.hid (byB_no (fun h => h2 h.2))
      go_enter Tryd.func48, Tryd.ntmps48
      go_wp2_with fail
      go_ret
      exact ⟨ret_bool H.out.symm, rfl⟩
  · have H := Lib.hid (byB_no (fun h => h1 h.1))
    go_enter Tryd.func48, Tryd.ntmps48
    go_wp2_with fail
    go_ret
    exact ⟨ret_bool H.out.symm, rfl⟩
theorem notByte_any (v : Int) (w : World) : Calls Tryd.prog 115 #[.int .i64 v] w fun e w' => e = .returned (.bool (!byB v)) ∧ w' = w := by
  go_enter Tryd.func115, Tryd.ntmps115
  go_wp2_with fail
  refine (inByte_any v _).mono ?_
  rintro e w1 ⟨rfl, rfl⟩
  go_wp2_with fail
  go_ret
  exact ⟨rfl, rfl⟩
def OutIx (l : List Int) (w : World) (e : Ending) (w' : World) : Prop := ∃ r : Int, e = .returned (.int .i64 r) ∧ decide (0 ≤ r) = (!l.all byB) ∧ r ≤ 1048576 ∧ w' = w
set_option maxHeartbeats 1000000 in
theorem index_any (l : List Int) (n : Nat) (A : Option Addr) (c : Nat) (w : World) (hR : RI w w.heap.size A n l) (hn : n ≤ 1048576) :
    Calls Tryd.prog 124 #[.slice A n c, .func (.func 115) #[] #[]] w (OutIx l w) := by
  have HR := Lib.hid hR
  clear hR
  go_enter Tryd.func124, Tryd.ntmps124
  go_wp2_with fail
  go_loopw [8] (fun i wr => ∃ (k : Nat), k ≤ n ∧ i = .int .i64 k ∧ wr = w ∧ Hid ((l.take k).all byB = true)) (fun i _ => n - (intOf i).toNat)
  case atStart => exact ⟨0, Nat.zero_le _, rfl, rfl, Lib.hid rfl⟩
  case round =>
    obtain ⟨k, hk, rfl, rfl, HE⟩ := hrel
    by_cases hlt : k < n
    · have kl : k < l.length := by rw [HR.out.1]; exact hlt
      obtain ⟨b, o, rfl, _, p0⟩ := HR.out.at kl
      have HT : Hid ((l.take (k + 1)).all byB = ((l.take k).all byB && byB l[k])) := Lib.hid (by rw [List.take_succ_eq_append_getElem kl, List.all_append]; simp)
      have HF : Hid (byB l[k] = false → l.all byB = false) := Lib.hid (fun h => List.all_eq_false.2 ⟨l[k], List.getElem_mem kl, by simp [h]⟩)
      generalize l[k] = x at *
      have HC := Lib.hid (notByte_any x wr)
      cases hx : byB x
      · rw [hx] at HC
        have HD := Lib.hid (HF.out hx)
        clear HF HT HE hx
        go_wp2_with fail
        refine HC.out.mono ?_
        rintro e w1 ⟨rfl, rfl⟩
        go_wp2_with fail
        go_ret
        exact ⟨k, rfl, by rw [HD.out]; simp, by omega, rfl⟩
      · rw [hx] at HC
        have HE' : Hid ((l.take (k + 1)).all byB = true) := Lib.hid (by rw [HT.out, HE.out, hx]; rfl)
        clear HF HT HE hx
        go_wp2_with fail
        refine HC.out.mono ?_
        rintro e w1 ⟨rfl, rfl⟩
        go_wp2_with fail
        go_roundw
        case rel => exact ⟨k + 1, by omega, by go_num, trivial, HE'⟩
        case measure => simp [intOf]; omega
    · have HD : Hid (l.all byB = true) := Lib.hid (by
        have h := HE.out
        rwa [List.take_of_length_le (by rw [HR.out.1]; omega)] at h)
      go_wp2_with fail
      go_ret
      exact ⟨-1, rfl, by rw [HD.out]; rfl, by omega, rfl⟩
theorem allInByte_any (l : List Int) (n : Nat) (A : Option Addr) (c : Nat) (w : World) (hR : RI w w.heap.size A n l) (hn : n ≤ 1048576) :
    Calls Tryd.prog 95 #[.slice A n c] w fun e w' => e = .returned (.bool (l.all byB)) ∧ w' = w := by
  have HC : Hid (Calls Tryd.prog 114 #[.slice A n c, .func (.func 115) #[] #[]] w fun e w' => e = .returned (.bool (!l.all byB)) ∧ w' = w) := Lib.hid (by
    have HI := Lib.hid (index_any l n A c w hR hn)
    clear hR
    go_enter Tryd.func114, Tryd.ntmps114
    go_wp2_with fail
    refine HI.out.mono ?_
    rintro e w1 ⟨r, rfl, hr, hb, rfl⟩
    have HH := Lib.hid hr
    clear hr
    go_wp2_with fail
    go_ret
    exact ⟨ret_bool HH.out, rfl⟩)
  clear hR
  go_enter Tryd.func95, Tryd.ntmps95
  go_wp2_with fail
  refine HC.out.mono ?_
  rintro e w1 ⟨rfl, rfl⟩
  generalize hq : l.all byB = q
  have H := Lib.hid hq
  clear hq HC
  go_wp2_with fail
  go_ret
  exact ⟨ret_bool H.out.symm, rfl⟩
theorem all_byB {l : List Int} : l.all byB = true ↔ ∀ x ∈ l, byteI x := by
  rw [List.all_eq_true]
  exact ⟨fun h x hx => (byB_iff x).1 (h x hx), fun h x hx => (byB_iff x).2 (h x hx)⟩
theorem rows_ok {hs : List Hi} {cl : Int} (h1 : ∀ h ∈ hs, (h.l.length : Int) = cl ∧ h.l.all byB = true) : ∀ r ∈ listsOf hs, (r.length : Int) = cl ∧ ∀ x ∈ r, byteI x := fun r hr => by
  obtain ⟨h, hh, rfl⟩ := List.mem_map.1 hr
  exact ⟨(h1 h hh).1, all_byB.1 (h1 h hh).2⟩
noncomputable def mayB (t : Tb) : Bool := @decide (MayT t) (Classical.propDecidable _)
theorem mayB_yes {t : Tb} (h : MayT t) : mayB t = true := @decide_eq_true _ (Classical.propDecidable _) h
theorem mayB_no {t : Tb} (h : ¬ MayT t) : mayB t = false := @decide_eq_false _ (Classical.propDecidable _) h
set_option maxRecDepth 4000 in
set_option maxHeartbeats 2000000 in
theorem fits_any (T : TV) (w : World) (hT : T.ok w) (hS : Small T.tb) :
    Calls Tryd.prog 44 #[T.v] w fun e w' => e = .returned (.bool (mayB T.tb)) ∧ Below w.heap.size w w' := by
  obtain ⟨cl, a1, n1, c1, bd, a2, n2, c2, hs, a3, n3, c3, br⟩ := T
  simp only [TV.v] at *
  have L1 : bd.length = n1 := hT.r1.1
  have L2 : hs.length = n2 := hT.r2.1
  have L3 : br.length = n3 := hT.r3.1
  have L2' : (listsOf hs).length = n2 := by rw [listsOf_len, L2]
  have B1 : n1 ≤ 400 := by have := hS.k; simp only [TV.tb] at this; omega
  have B2 : n2 ≤ 3000 := by have := hS.n; have := bulk_len (listsOf hs); simp only [TV.tb] at *; omega
  have B3 : n3 ≤ 1000 := by have := hS.b; simp only [TV.tb] at this; omega
  have BR : ∀ h ∈ hs, h.n ≤ 3000 := fun h hh => by
    have h1 := hS.n
    have h2 := bulk_mem (L := listsOf hs) (r := h.l) (List.mem_map.2 ⟨h, hh, rfl⟩)
    have h3 := (hT.r2.2.2 h hh).1.1
    simp only [TV.tb] at h1
    omega
  have HBR := Lib.hid BR
  have HT := Lib.hid hT
  have HL1 := Lib.hid L1
  have HL2 := Lib.hid L2
  have HL2' := Lib.hid L2'
  have HL3 := Lib.hid L3
  clear hT hS BR L1 L2 L2' L3
  by_cases g1 : 1 ≤ cl ∧ cl ≤ 255
  case neg =>
    have HN : Hid (mayB (TV.tb ⟨cl, a1, n1, c1, bd, a2, n2, c2, hs, a3, n3, c3, br⟩) = false) := Lib.hid (mayB_no (fun h => g1 ⟨h.c1, h.c2⟩))
    clear HT
    go_enter Tryd.func44, Tryd.ntmps44
    go_wp2_with fail
    refine (within_f _ _ _ g1 _).mono ?_
    rintro e w1 ⟨rfl, rfl⟩
    go_wp2_with fail
    go_ret
    exact ⟨ret_bool HN.out.symm, below_new _ _⟩

  by_cases g2 : 1 ≤ (n2 : Int) ∧ (n2 : Int) ≤ 255
  case neg =>
    have HN : Hid (mayB (TV.tb ⟨cl, a1, n1, c1, bd, a2, n2, c2, hs, a3, n3, c3, br⟩) = false) := Lib.hid (mayB_no (fun h => g2 (by have h1 := h.n1; have h2 := h.n2; have := HL2'.out; simp only [TV.tb] at h1 h2; omega)))
    clear HT
    go_enter Tryd.func44, Tryd.ntmps44
    go_wp2_with fail
    refine (within_t _ _ _ g1 _).mono ?_
    rintro e w1 ⟨rfl, rfl⟩
    go_wp2_with fail
    refine (within_f _ _ _ g2 _).mono ?_
    rintro e w1 ⟨rfl, rfl⟩
    go_wp2_with fail
    go_ret
    exact ⟨ret_bool HN.out.symm, below_new _ _⟩

  by_cases g3 : n3 = n2
  case neg =>
    have HN : Hid (mayB (TV.tb ⟨cl, a1, n1, c1, bd, a2, n2, c2, hs, a3, n3, c3, br⟩) = false) := Lib.hid (mayB_no (fun h => g3 (by have h1 := h.b1; have := HL2'.out; have := HL3.out; simp only [TV.tb] at h1; omega)))
    clear HT
    have g3 : ((n3 : Int) != (n2 : Int)) = true := by rw [bne_iff_ne]; omega
    go_enter Tryd.func44, Tryd.ntmps44
    go_wp2_with fail
    refine (within_t _ _ _ g1 _).mono ?_
    rintro e w1 ⟨rfl, rfl⟩
    go_wp2_with fail
    refine (within_t _ _ _ g2 _).mono ?_
    rintro e w1 ⟨rfl, rfl⟩
    go_wp2_with fail
    go_ret
    exact ⟨ret_bool HN.out.symm, below_new _ _⟩

  by_cases g4 : n1 ≤ 255
  case neg =>
    have HN : Hid (mayB (TV.tb ⟨cl, a1, n1, c1, bd, a2, n2, c2, hs, a3, n3, c3, br⟩) = false) := Lib.hid (mayB_no (fun h => g4 (by have h1 := h.k1; have := HL1.out; simp only [TV.tb] at h1; omega)))
    clear HT
    have g3 : ((n3 : Int) != (n2 : Int)) = false := by rw [bne_eq_false_iff_eq]; omega
    have HI := Lib.hid (inByte_any n1)
    rw [byB_no (by omega)] at HI
    go_enter Tryd.func44, Tryd.ntmps44
    go_wp2_with fail
    refine (within_t _ _ _ g1 _).mono ?_
    rintro e w1 ⟨rfl, rfl⟩
    go_wp2_with fail
    refine (within_t _ _ _ g2 _).mono ?_
    rintro e w1 ⟨rfl, rfl⟩
    go_wp2_with fail
    refine (HI.out _).mono ?_
    rintro e w1 ⟨rfl, rfl⟩
    go_wp2_with fail
    go_ret
    exact ⟨ret_bool HN.out.symm, below_new _ _⟩

  have HMay : Hid ((∀ h ∈ hs, (h.l.length : Int) = cl ∧ h.l.all byB = true) → (∀ x ∈ bd, (0 ≤ x.1 ∧ x.1 ≤ 16777215) ∧ byB x.2 = true) → mayB (TV.tb ⟨cl, a1, n1, c1, bd, a2, n2, c2, hs, a3, n3, c3, br⟩) = true) := Lib.hid (fun h1 h2 => mayB_yes { c1 := g1.1, c2 := g1.2, n1 := by have := HL2'.out; simp only [TV.tb]; omega, n2 := by have := HL2'.out; simp only [TV.tb]; omega, b1 := by have := HL2'.out; have := HL3.out; simp only [TV.tb]; omega, k1 := by have := HL1.out; simp only [TV.tb]; omega, bd := fun x hx => ⟨(h2 x hx).1, (byB_iff _).1 (h2 x hx).2⟩, nx := rows_ok h1 })
  have HNo1 : Hid (∀ h ∈ hs, ¬ ((h.l.length : Int) = cl ∧ h.l.all byB = true) → mayB (TV.tb ⟨cl, a1, n1, c1, bd, a2, n2, c2, hs, a3, n3, c3, br⟩) = false) := Lib.hid (fun h hh hn => mayB_no (fun hm => hn (by
    have := hm.nx h.l (List.mem_map.2 ⟨h, hh, rfl⟩)
    exact ⟨this.1, all_byB.2 this.2⟩)))
  have HNo2 : Hid (∀ x ∈ bd, ¬ ((0 ≤ x.1 ∧ x.1 ≤ 16777215) ∧ byB x.2 = true) → mayB (TV.tb ⟨cl, a1, n1, c1, bd, a2, n2, c2, hs, a3, n3, c3, br⟩) = false) := Lib.hid (fun x hx hn => mayB_no (fun hm => hn (by
    have := hm.bd x hx
    exact ⟨this.1, (byB_iff _).2 this.2⟩)))
  generalize mayB (TV.tb ⟨cl, a1, n1, c1, bd, a2, n2, c2, hs, a3, n3, c3, br⟩) = q at *
  obtain rfl := g3
  have g3' : ((n3 : Int) != (n3 : Int)) = false := by simp
  have HI := Lib.hid (inByte_any n1)
  rw [byB_yes (by omega)] at HI
  go_enter Tryd.func44, Tryd.ntmps44
  go_wp2_with fail
  have q0 : (w.alloc (.cells #[.int .i64 cl, .slice a1 n1 c1, .slice a2 n3 c2, .slice a3 n3 c3] 26)).cell? ⟨w.heap.size, 0, none⟩ = some (.int .i64 cl) := by simp
  have q1 : (w.alloc (.cells #[.int .i64 cl, .slice a1 n1 c1, .slice a2 n3 c2, .slice a3 n3 c3] 26)).cell? ⟨w.heap.size, 1, none⟩ = some (.slice a1 n1 c1) := by simp
  have q2 : (w.alloc (.cells #[.int .i64 cl, .slice a1 n1 c1, .slice a2 n3 c2, .slice a3 n3 c3] 26)).cell? ⟨w.heap.size, 2, none⟩ = some (.slice a2 n3 c2) := by simp
  have q3 : (w.alloc (.cells #[.int .i64 cl, .slice a1 n1 c1, .slice a2 n3 c2, .slice a3 n3 c3] 26)).cell? ⟨w.heap.size, 3, none⟩ = some (.slice a3 n3 c3) := by simp
  have b0 := below_new w (.cells #[.int .i64 cl, .slice a1 n1 c1, .slice a2 n3 c2, .slice a3 n3 c3] 26)
  have HT0 := Lib.hid (HT.out.on b0)
  generalize w.alloc (.cells #[.int .i64 cl, .slice a1 n1 c1, .slice a2 n3 c2, .slice a3 n3 c3] 26) = W at *
  have hszW := b0.size
  refine (within_t _ _ _ g1 _).mono ?_
  rintro e w1 ⟨rfl, rfl⟩
  go_wp2_with fail
  refine (within_t _ _ _ g2 _).mono ?_
  rintro e w2 ⟨rfl, rfl⟩
  go_wp2_with fail
  refine (HI.out _).mono ?_
  rintro e w3 ⟨rfl, rfl⟩
  go_wp2_with fail
  go_loopw [37] (fun i wr => ∃ (k : Nat), k ≤ n3 ∧ i = .int .i64 k ∧ wr = w3 ∧ Hid (∀ h ∈ hs.take k, (h.l.length : Int) = cl ∧ h.l.all byB = true)) (fun i _ => n3 - (intOf i).toNat)
  case atStart => exact ⟨0, Nat.zero_le _, rfl, rfl, Lib.hid (fun h hh => by simp at hh)⟩
  case round =>
    obtain ⟨k, hk, rfl, rfl, HE⟩ := hrel
    by_cases hlt : k < n3
    · have kl : k < hs.length := by rw [HL2.out]; exact hlt
      obtain ⟨b, o, rfl, _, p0, pr, _⟩ := HT0.out.r2.at kl
      have HT1 : Hid (∀ h ∈ hs.take (k + 1), h ∈ hs.take k ∨ h = hs[k]) := Lib.hid (fun h hh => by
        rw [List.take_succ_eq_append_getElem kl] at hh
        exact (List.mem_append.1 hh).imp id List.mem_singleton.1)
      have HF1 := Lib.hid (HNo1.out hs[k] (List.getElem_mem kl))
      have hxn := HBR.out hs[k] (List.getElem_mem kl)
      have HLx := Lib.hid pr.1
      generalize hs[k] = x at *
      obtain ⟨xa, xn, xc, xs⟩ := x
      simp only [] at p0 pr HF1 hxn HLx HT1
      by_cases hxc : (xn : Int) = cl
      · have hne : ((xn : Int) != cl) = false := by rw [bne_eq_false_iff_eq]; exact hxc
        have HX := Lib.hid hxc
        have HC := Lib.hid (allInByte_any xs xn xa xc wr pr (by omega))
        clear hxc pr
        cases hx : xs.all byB
        · rw [hx] at HC
          have HD := Lib.hid (HF1.out (fun h => by rw [hx] at h; cases h.2))
          clear HF1 HT1 HE hx
          go_wp2_with fail
          refine HC.out.mono ?_
          rintro e w4 ⟨rfl, rfl⟩
          go_wp2_with fail
          go_ret
          exact ⟨ret_bool HD.out.symm, b0⟩
        · rw [hx] at HC
          have HE' : Hid (∀ h ∈ hs.take (k + 1), (h.l.length : Int) = cl ∧ h.l.all byB = true) := Lib.hid (fun h hh => by
            rcases HT1.out h hh with hh | hh
            · exact HE.out h hh
            · subst hh; exact ⟨by rw [HLx.out]; exact HX.out, hx⟩)
          clear HF1 HT1 HE hx
          go_wp2_with fail
          refine HC.out.mono ?_
          rintro e w4 ⟨rfl, rfl⟩
          go_wp2_with fail
          go_roundw
          case rel => exact ⟨k + 1, by omega, by go_num, trivial, HE'⟩
          case measure => simp [intOf]; omega
      · have hne : ((xn : Int) != cl) = true := by rw [bne_iff_ne]; exact hxc
        have HD := Lib.hid (HF1.out (fun h => by rw [HLx.out] at h; exact hxc h.1))
        clear HF1 HT1 HE hxc pr
        go_wp2_with fail
        go_ret
        exact ⟨ret_bool HD.out.symm, b0⟩
    · have HR : Hid (∀ h ∈ hs, (h.l.length : Int) = cl ∧ h.l.all byB = true) := Lib.hid (by
        have h := HE.out
        rwa [List.take_of_length_le (by rw [HL2.out]; omega)] at h)
      clear HE
      rename World => w4
      go_wp2_with fail
      go_loopw [55] (fun i wr => ∃ (k : Nat), k ≤ n1 ∧ i = .int .i64 k ∧ Below w4.heap.size w4 wr ∧ Hid (∀ x ∈ bd.take k, (0 ≤ x.1 ∧ x.1 ≤ 16777215) ∧ byB x.2 = true)) (fun i _ => n1 - (intOf i).toNat)
      case atStart => exact ⟨0, Nat.zero_le _, rfl, Below.refl _ _, Lib.hid (fun h hh => by simp at hh)⟩
      case round =>
        obtain ⟨j, hj, rfl, hb, HE⟩ := hrel
        have hszr := hb.size
        by_cases hjl : j < n1
        · have jl : j < bd.length := by rw [HL1.out]; exact hjl
          obtain ⟨b, o, rfl, _, p0, p1⟩ := (HT0.out.r1.on hb).at jl
          have HT1 : Hid (∀ h ∈ bd.take (j + 1), h ∈ bd.take j ∨ h = bd[j]) := Lib.hid (fun h hh => by
            rw [List.take_succ_eq_append_getElem jl] at hh
            exact (List.mem_append.1 hh).imp id List.mem_singleton.1)
          have HF1 := Lib.hid (HNo2.out bd[j] (List.getElem_mem jl))
          generalize bd[j] = x at *
          obtain ⟨x0, x1⟩ := x
          simp only [] at p0 p1 HF1 HT1
          have b9 : Below w4.heap.size w4 (wr.alloc (.cells #[.int .i64 x0, .int .i64 x1] 52)) := hb.alloc hszr _
          have b8 := b0.trans (b9.mono hszW)
          by_cases hx0 : 0 ≤ x0 ∧ x0 ≤ 16777215
          · have HC := Lib.hid (inByte_any x1)
            cases hx : byB x1
            · rw [hx] at HC
              have HD := Lib.hid (HF1.out (fun h => by rw [hx] at h; cases h.2))
              clear HF1 HT1 HE hx
              go_wp2_with fail
              refine (within_t _ _ _ hx0 _).mono ?_
              rintro e w5 ⟨rfl, rfl⟩
              go_wp2_with fail
              refine (HC.out _).mono ?_
              rintro e w6 ⟨rfl, rfl⟩
              go_wp2_with fail
              go_ret
              exact ⟨ret_bool HD.out.symm, b8⟩
            · rw [hx] at HC
              have HE' : Hid (∀ x ∈ bd.take (j + 1), (0 ≤ x.1 ∧ x.1 ≤ 16777215) ∧ byB x.2 = true) := Lib.hid (fun h hh => by
                rcases HT1.out h hh with hh | hh
                · exact HE.out h hh
                · subst hh; exact ⟨hx0, hx⟩)
              clear HF1 HT1 HE hx
              go_wp2_with fail
              refine (within_t _ _ _ hx0 _).mono ?_
              rintro e w5 ⟨rfl, rfl⟩
              go_wp2_with fail
              refine (HC.out _).mono ?_
              rintro e w6 ⟨rfl, rfl⟩
              go_wp2_with fail
              go_roundw
              case rel => exact ⟨j + 1, by omega, by go_num, b9, HE'⟩
              case measure => simp [intOf]; omega
          · have HD := Lib.hid (HF1.out (fun h => hx0 h.1))
            clear HF1 HT1 HE
            go_wp2_with fail
            refine (within_f _ _ _ hx0 _).mono ?_
            rintro e w5 ⟨rfl, rfl⟩
            go_wp2_with fail
            go_ret
            exact ⟨ret_bool HD.out.symm, b8⟩
        · have HD : Hid (q = true) := Lib.hid (HMay.out HR.out (by
            have h := HE.out
            rwa [List.take_of_length_le (by rw [HL1.out]; omega)] at h))
          go_wp2_with fail
          go_ret
          exact ⟨ret_bool HD.out.symm, b0.trans (hb.mono hszW)⟩
end Go.Proofs.YtbnconieedgcmaaDoor
