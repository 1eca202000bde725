/- What add of package tree's question returns: places that are new, put behind; what is remembered grows by them. -/
import Derived.Test.YtfpiackfhdiapaaTrK
namespace Go.Proofs.Ytfpiackfhdiapaa.S
open Go.RowKit Go.BigFrame
set_option linter.unusedVariables false
set_option linter.unusedSimpArgs false

theorem Reads.grown {w w' : World} {C size n : Nat} {A : Option Addr} {xs : List Value} {row : Option Nat} (h : Reads w C size A n xs) (hC : C ≤ w.heap.size) (g : w.grownBy w' row) (hne : ∀ b o, A = some ⟨b, o, none⟩ → row ≠ some b) : Reads w' C size A n xs :=
  ⟨h.1, fun hn => by
    obtain ⟨b, o, e, hb, hc⟩ := h.2 hn
    exact ⟨b, o, e, hb, fun j u hu => (g.cell_far ⟨b, o + j, none⟩ (Nat.lt_of_lt_of_le hb hC) (fun e' => hne b o e e'.symm)).trans (hc j u hu)⟩⟩
def nats (l : List Nat) : List Value := icells (l.map Int.ofNat)
theorem nats_len (l : List Nat) : (nats l).length = l.length := by simp [nats, icells]
theorem nats_snoc (l : List Nat) (j : Nat) : nats (l ++ [j]) = nats l ++ [.int .i64 (j : Nat)] := by simp [nats, icells]
theorem nats_at {w : World} {B n : Nat} {A : Option Addr} {l : List Nat} (h : Reads w B 1 A n (nats l)) {k : Nat} (hk : k < l.length) : ∃ b o, A = some ⟨b, o, none⟩ ∧ b < B ∧ w.cell? ⟨b, o + k, none⟩ = some (.int .i64 (l[k] : Nat)) := icells_nat h hk
theorem lit1 {w : World} {a : Addr} {u : Value} (h : w.cell? a = some u) : ∀ j x, [u][j]? = some x → w.cell? (a.add j) = some x := by
  intro j x hj
  match j, hj with
  | 0, hj => simp at hj; subst hj; simpa [Addr.add] using h
def OutAd (m base : Nat) (L : List Tri) (k f : Nat) (R Q : List Nat) (w : World) (e : Ending) (w' : World) : Prop :=
  ∃ (A : Option Addr) (c : Nat), e = .returned (.slice A (R ++ adds L k f Q).length c) ∧ w'.ownsRow base 3 1 (.slice A (R ++ adds L k f Q).length c) (R ++ adds L k f Q).length (nats (R ++ adds L k f Q)) ∧
    Mp w' m (L ++ lay k f (adds L k f Q)) ∧ Bx m base w w'

set_option maxHeartbeats 8000000 in
theorem add_any (m base qb : Nat) (L : List Tri) (k f : Nat) (R Q : List Nat) (A P : Option Addr) (c n pc pn : Nat) (w : World)
    (hq : w.cell? ⟨qb, 2, none⟩ = some (.map (some m))) (hm : Mp w m L) (ho : w.ownsRow base 3 1 (.slice A n c) n (nats R)) (hn : R.length = n) (hP : Reads w w.heap.size 1 P pn (nats Q)) (hne : ∀ b o, P = some ⟨b, o, none⟩ → (Value.slice A n c).ownBlock ≠ some b)
    (hb : base ≤ w.heap.size) (hmb : m < base) (hqb : qb < base) (hs : n + pn ≤ 1000000) :
    Calls Try.prog 44 #[.pointer (some ⟨qb, 0, none⟩), .slice A n c, .int .i64 (k : Nat), .int .i64 (f : Nat), .slice P pn pc] w (OutAd m base L k f R Q w) := by
  obtain ⟨i0, hi0, hz0, hz1, hz2⟩ := info_parts info3
  have HM0 := Lib.hid hm
  have HO0 := Lib.hid ho
  have HP0 := Lib.hid hP
  have HNe := Lib.hid hne
  have HQl : Hid (Q.length = pn) := Lib.hid (by have := hP.1; rw [nats_len] at this; omega)
  have HRl := Lib.hid hn
  have HQ0 := Lib.hid hq
  clear hm ho hP hne hn hq
  go_enter Try.func44, Try.ntmps44
  go_wp2_with fail
  go_loopw [1, 18] (fun ve vi wr => ∃ (i z c2 : Nat) (A2 : Option Addr) (N : List Nat), i ≤ pn ∧ vi = .int .i64 i ∧ ve = .slice A2 z c2 ∧ Hid (N = adds L k f (Q.take i)) ∧ Hid ((R ++ N).length = z) ∧ Hid (N.length ≤ i) ∧ Hid (wr.ownsRow base 3 1 (.slice A2 z c2) z (nats (R ++ N))) ∧ Hid (Mp wr m (L ++ lay k f N)) ∧ Hid (Bx m base w wr) ∧ Hid (Reads wr w.heap.size 1 P pn (nats Q)) ∧ Hid (∀ b o, P = some ⟨b, o, none⟩ → (Value.slice A2 z c2).ownBlock ≠ some b)) (fun _ vi _ => pn - (intOf vi).toNat)
  case atStart => exact ⟨0, n, c, A, [], Nat.zero_le _, rfl, rfl, Lib.hid rfl, Lib.hid (by simp [HRl.out]), Lib.hid (Nat.zero_le _), Lib.hid (by simpa using HO0.out), Lib.hid (by simpa [lay] using HM0.out), Lib.hid (Bx.refl _ _ _), HP0, HNe⟩
  case round =>
    obtain ⟨i, z, c2, A2, N, hi, rfl, rfl, HN, HZ, HNl, HO, HM, HB, HP, HD⟩ := hrel
    by_cases hlt : i < pn
    · have il : i < Q.length := by rw [HQl.out]; exact hlt
      obtain ⟨b, o, rfl, hbb, p0⟩ := nats_at HP.out il
      have HTk : Hid (adds L k f (Q.take (i + 1)) = addS L k f N Q[i]) := Lib.hid (by rw [List.take_succ_eq_append_getElem il, adds_snoc, HN.out])
      generalize Q[i] = j at *
      have hsz := HB.out.size
      have hzz : z ≤ 900000000 := by have h1 := HZ.out; have h2 := HNl.out; have h3 := HRl.out; rw [List.length_append] at h1; omega
      have hq1 : wr.cell? ⟨qb, 2, none⟩ = some (.map (some m)) := HB.out.cell HM0.out hqb HQ0.out
      have b5 := below_new wr (.cells #[.int .i64 (k : Nat), .int .i64 (f : Nat), .int .i64 (j : Nat)] 69)
      have HM5 := Lib.hid (HM.out.on b5)
      have HO5 := Lib.hid (own_below HO.out b5)
      have HB5 := Lib.hid (HB.out.trans (Bx.of (b5.mono (show base ≤ wr.heap.size by omega))))
      have HP5 := Lib.hid (HP.out.below (b5.mono (show w.heap.size ≤ wr.heap.size by omega)))
      have hq5 := kept_cell b5 hq1
      have k0 : (wr.alloc (.cells #[.int .i64 (k : Nat), .int .i64 (f : Nat), .int .i64 (j : Nat)] 69)).cell? ⟨wr.heap.size, 0, none⟩ = some (.int .i64 (k : Nat)) := by simp
      have k1 : (wr.alloc (.cells #[.int .i64 (k : Nat), .int .i64 (f : Nat), .int .i64 (j : Nat)] 69)).cell? ⟨wr.heap.size, 1, none⟩ = some (.int .i64 (f : Nat)) := by simp
      have k2 : (wr.alloc (.cells #[.int .i64 (k : Nat), .int .i64 (f : Nat), .int .i64 (j : Nat)] 69)).cell? ⟨wr.heap.size, 2, none⟩ = some (.int .i64 (j : Nat)) := by simp
      go_upto_region 5 with (fail)
      generalize wr.alloc (.cells #[.int .i64 (k : Nat), .int .i64 (f : Nat), .int .i64 (j : Nat)] 69) = w5 at *
      generalize hkb : wr.heap.size = kb at *
      clear HM HO HB HP p0 hq1 b5 hbb
      have hl1 := HM5.out.drew.has (k, f, j)
      have b6 := below_new w5 (.cells #[] 67)
      have HM6 := Lib.hid (HM5.out.on b6)
      have hl2 := HM6.out.drew.has (k, f, j)
      have j0 := kept_cell b6 k0
      have j1 := kept_cell b6 k1
      have j2 := kept_cell b6 k2
      have hq6 := kept_cell b6 hq5
      obtain ⟨kn, hkn⟩ : ∃ q, decide (((k, f, j) : Tri) ∈ L ++ lay k f N) = q := ⟨_, rfl⟩
      rw [hkn] at hl1 hl2
      have HKn := Lib.hid hkn
      clear hkn
      go_region
      all_goals
        have HO6 := Lib.hid (own_below HO5.out b6).drew
        have HM7 := Lib.hid HM6.out.drew
        have HB6 := Lib.hid (HB5.out.trans (Bx.of ((Below.drew b6).mono (show base ≤ w5.heap.size by have := HB5.out.size; omega))))
        have HP6 := Lib.hid (HP5.out.below ((Below.drew b6).mono (show w.heap.size ≤ w5.heap.size from HB5.out.size)))
        have j0 : (w5.alloc (.cells #[] 67)).drew.cell? ⟨kb, 0, none⟩ = some (.int .i64 (k : Nat)) := j0
        have j1 : (w5.alloc (.cells #[] 67)).drew.cell? ⟨kb, 1, none⟩ = some (.int .i64 (f : Nat)) := j1
        have j2 : (w5.alloc (.cells #[] 67)).drew.cell? ⟨kb, 2, none⟩ = some (.int .i64 (j : Nat)) := j2
        have hq6 : (w5.alloc (.cells #[] 67)).drew.cell? ⟨qb, 2, none⟩ = some (.map (some m)) := hq6
        generalize (w5.alloc (.cells #[] 67)).drew = w6 at *
        clear hl1 hl2 k0 k1 k2 hq5 b6 HM5 HM6 HO5 HB5 HP5
        cases kn with
        | true =>
          have HN' : Hid (N = adds L k f (Q.take (i + 1))) := Lib.hid (by rw [HTk.out, addS_yes (of_decide_eq_true HKn.out)])
          have HNl' : Hid (N.length ≤ i + 1) := Lib.hid (by have := HNl.out; omega)
          clear HTk HKn HN HNl j0 j1 j2 hq6
          go_wp2_with fail
          go_roundw
          case rel => exact ⟨i + 1, z, c2, A2, N, by omega, by go_num, rfl, HN', HZ, HNl', HO6, HM7, HB6, HP6, HD⟩
          case measure => simp [intOf]; omega
        | false =>
          have HN' : Hid (N ++ [j] = adds L k f (Q.take (i + 1))) := Lib.hid (by rw [HTk.out, addS_no (of_decide_eq_false HKn.out)])
          have HNl' : Hid ((N ++ [j]).length ≤ i + 1) := Lib.hid (by have := HNl.out; simp; omega)
          obtain ⟨w9, hput, hm9, hg9⟩ := HM7.out.drew.put (of_decide_eq_false HKn.out)
          have hsz6 := HB6.out.size
          have HM9 : Hid (Mp w9 m (L ++ lay k f (N ++ [j]))) := Lib.hid (by rw [lay_snoc, ← List.append_assoc]; exact hm9)
          have HO9 : Hid (w9.ownsRow base 3 1 (.slice A2 z c2) z (nats (R ++ N))) := Lib.hid (HO6.out.drew.kept hg9 (by
            by_cases h0 : (Value.slice A2 z c2).ownBlock = none
            · exact .inl h0
            · exact .inr (fun e => by have := (HO6.out.lt m e).1; omega)))
          have HB9 := Lib.hid ((HB6.out.trans (Bx.of (Below.drew (Below.refl base w6)))).grown hg9 (show base ≤ w6.heap.size by omega) (fun q hq => .inr (by cases hq; rfl)))
          have HP9 : Hid (Reads w9 w.heap.size 1 (some ⟨b, o, none⟩) pn (nats Q)) := Lib.hid (by
            refine (HP6.out.below (Below.drew (Below.refl _ w6))).grown (w := w6.drew) (show w.heap.size ≤ w6.heap.size by omega) hg9 (fun b' o' e => ?_)
            cases e
            intro e
            cases e
            obtain ⟨b2, o2, e2, _, hc⟩ := HP6.out.2 (by omega)
            injection e2 with e2
            injection e2 with e3 e4
            subst e3 e4
            have hl : 0 < (nats Q).length := by rw [nats_len]; omega
            exact cell_not_map HM7.out (hc 0 _ (List.getElem?_eq_getElem hl)) rfl)
          clear HM7 HO6 HB6 HP6 hm9 hg9 HKn HTk HN HNl
          go_wp2_with fail
          go_region
          clear j0 j1 j2 hq6 hput
          have hsz9 := HB9.out.size
          have HO10 := Lib.hid (own_below HO9.out (below_new w9 (.cells #[.int .i64 (j : Nat)] 3)))
          go_wp2_with (at_builtin; refine wpList_append_lies _ rfl _ _ 26 rfl base 3 i0 _ 1 8 Try.underlying26 hi0 hz0 hz1 hz2 rfl (by decide) _ _ _ rfl HO10.out ⟨w9.heap.size, 0, none⟩ 1 1 [.int .i64 (j : Nat)] rfl rfl ?k1 ?k2 (by omega) ?k3 ?k4 ?k5 _ rfl ?_)
          try (case k1 => exact lit1 (by simp))
          case k2 => first | rfl | (intro u hu; simp at hu; subst hu; rfl)
          case k3 => unfold maxLen; omega
          case k4 => omega
          case k5 => first | omega | (simp; omega)
          intro g10 cap10 w10 hown10 hgrow10 hat10 hlt10
          have hsA : (w9.alloc (.cells #[.int .i64 (j : Nat)] 3)).heap.size = w9.heap.size + 1 := by simp
          have HO11 : Hid (w10.ownsRow base 3 1 (.slice (some ⟨g10, 0, none⟩) (z + 1) cap10) (z + 1) (nats (R ++ (N ++ [j])))) := Lib.hid (by rw [← List.append_assoc, nats_snoc]; exact hown10)
          have HM11 : Hid (Mp w10 m (L ++ lay k f (N ++ [j]))) := Lib.hid ((HM9.out.on (below_new w9 _)).block (hgrow10.block m (by have := HM9.out.lt; omega) (fun e => by have := (HO10.out.lt m e.symm).1; omega)))
          have HB11 : Hid (Bx m base w w10) := Lib.hid ((HB9.out.trans (Bx.of ((below_new w9 (.cells #[.int .i64 (j : Nat)] 3)).mono (show base ≤ w9.heap.size by omega)))).grown hgrow10 (by omega) (fun q hq => .inl (HO10.out.lt q hq).1))
          have HP11 : Hid (Reads w10 w.heap.size 1 (some ⟨b, o, none⟩) pn (nats Q)) := Lib.hid ((HP9.out.below ((below_new w9 (.cells #[.int .i64 (j : Nat)] 3)).mono (show w.heap.size ≤ w9.heap.size from hsz9))).grown (by omega) hgrow10 (fun b' o' e => HD.out b' o' e))
          have HD11 : Hid (∀ b' o', (some ⟨b, o, none⟩ : Option Addr) = some ⟨b', o', none⟩ → (Value.slice (some ⟨g10, 0, none⟩) (z + 1) cap10).ownBlock ≠ some b') := Lib.hid (fun b' o' e e2 => by
            rcases hat10 with h | h
            · exact HD.out b' o' e (h.trans e2)
            · obtain ⟨b3, o3, e3, hb3, _⟩ := HP9.out.2 (by omega)
              rw [e] at e3
              injection e3 with e3
              injection e3 with e3 _
              injection e2 with e2
              simp only [] at e2
              omega)
          have HZ11 : Hid ((R ++ (N ++ [j])).length = z + 1) := Lib.hid (by have := HZ.out; simp at this ⊢; omega)
          clear hown10 hgrow10 hat10 hlt10 HO9 HM9 HB9 HP9 HD HZ HO10 hsA
          go_wp2_with fail
          go_roundw
          case rel => exact ⟨i + 1, z + 1, cap10, some ⟨g10, 0, none⟩, N ++ [j], by omega, by go_num, by go_num, HN', HZ11, HNl', HO11, HM11, HB11, HP11, HD11⟩
          case measure => simp [intOf]; omega
    · obtain rfl : pn = i := by omega
      have HN2 : Hid (N = adds L k f Q) := Lib.hid (by
        have h := HN.out
        rwa [List.take_of_length_le (by rw [HQl.out]; exact Nat.le_refl _)] at h)
      have hiI : ¬ ((pn : Int) < (pn : Int)) := by omega
      clear HN
      go_wp2_with fail
      go_ret
      refine ⟨A2, c2, ?_, ?_, ?_, HB.out⟩
      · rw [← HN2.out, HZ.out]; rfl
      · rw [← HN2.out, HZ.out]; exact HO.out
      · rw [← HN2.out]; exact HM.out
end Go.Proofs.Ytfpiackfhdiapaa.S
