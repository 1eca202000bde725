/- The document's parts, in plain mathematics: stretch by stretch. -/
import Derived.Test.YthaageiflimnnaaGrpH
import Derived.Test.YthaageiflimnnaaGrpC
import Derived.Test.YthaageiflimnnaaGrpE
import Derived.Deep.RegionHeld3
namespace Go.Proofs.Ythaageiflimnnaa
open Go.RowKit Go.BigFrame
set_option linter.unusedVariables false
set_option linter.unusedSimpArgs false

/-- Places where no set changes between. -/
structure Sts (L : List (List Rg)) (ats : List Int) : Prop where
  inc : Inc (-1) ats
  zero : 0 ∈ ats
  sc : ∀ x ∈ ats, Sc x
  const : ∀ i (hi : i < ats.length) v, Sc v → ats[i] ≤ v → (∀ hh : i + 1 < ats.length, v < ats[i + 1]) → Ek L v ats[i]
theorem sts_of {L : List (List Rg)} (hL : ∀ s ∈ L, Gd (-1) s) : Sts L (stL [0] L.flatten) := by
  have hok : ∀ r ∈ L.flatten, Ok r := fun r hr => by
    obtain ⟨s, hs, hr⟩ := List.mem_flatten.1 hr
    exact ((hL s hs).lo r hr).2
  have hS := st_all L.flatten hok
  refine ⟨hS.1, hS.2.1, hS.2.2.1, fun i hi v hv h1 h2 => ?_⟩
  rw [ek_iff]
  intro s hs
  have h := st_const hS (q := s) (fun r hr => List.mem_flatten.2 ⟨s, hs, hr⟩) (fun r hr => ((hL s hs).lo r hr).2) i hi v hv h1 h2
  rw [Bool.eq_iff_iff, inB_iff, inB_iff]
  exact h
/-- The stretch of a scalar. -/
theorem sts_at {L : List (List Rg)} {ats : List Int} (h : Sts L ats) {v : Int} (hv : Sc v) : ∃ i, ∃ hi : i < ats.length, ats[i] ≤ v ∧ (∀ hh : i + 1 < ats.length, v < ats[i + 1]) := by
  obtain ⟨h0, e0⟩ := zero_first h.inc h.zero
  have key : ∀ n, n < ats.length → (∀ j (hj : j < ats.length), n < j → v < ats[j]) → ∃ i, ∃ hi : i < ats.length, ats[i] ≤ v ∧ (∀ hh : i + 1 < ats.length, v < ats[i + 1]) := by
    intro n
    induction n with
    | zero =>
      intro hn hj
      exact ⟨0, hn, by rw [e0]; unfold Sc at hv; omega, fun hh => hj 1 hh (by omega)⟩
    | succ n ih =>
      intro hn hj
      by_cases hle : ats[n + 1] ≤ v
      · exact ⟨n + 1, hn, hle, fun hh => hj (n + 2) hh (by omega)⟩
      · refine ih (by omega) fun j hjl hlt => ?_
        rcases Nat.lt_or_ge (n + 1) j with h1 | h1
        · exact hj j hjl h1
        · have e : j = n + 1 := by omega
          subst e
          omega
  exact key (ats.length - 1) (by omega) fun j hj hlt => by omega
theorem sts_places {L : List (List Rg)} {ats : List Int} (h : Sts L ats) (u : Int) : Places ats (fun v => Ek L v u) := by
  have hE := ek_eq L
  refine ⟨h.inc, h.sc, zero_first h.inc h.zero, fun i hi v hv h1 h2 => ?_⟩
  have h3 := h.const i hi v hv h1 h2
  exact ⟨fun h4 => hE.trans (hE.symm h3) h4, fun h4 => hE.trans h3 h4⟩
/-- What is done: the stretches alike to one ahead of the i-th. -/
def Done (L : List (List Rg)) (ats : List Int) (i : Nat) (dl : List Bool) : Prop :=
  ∀ k (hk : k < ats.length) (hd : k < dl.length), dl[k] = true ↔ ∃ j, ∃ hj : j < ats.length, j < i ∧ Ek L ats[k] ats[j]
structure PInv (L : List (List Rg)) (ats : List Int) (i : Nat) (PL : List (List Rg)) : Prop where
  cl : ∀ p ∈ PL, ∃ j, ∃ hj : j < ats.length, j < i ∧ IsSet p (fun v => Ek L v ats[j]) ∧ fst1 p = ats[j] ∧ p ≠ []
  inc : PL.Pairwise (fun p q => fst1 p < fst1 q)
  cov : ∀ j (hj : j < ats.length), j < i → ∃ p ∈ PL, In p ats[j]
theorem pinv0 (L : List (List Rg)) (ats : List Int) : PInv L ats 0 [] := ⟨fun p hp => by simp at hp, List.Pairwise.nil, fun j _ h => by omega⟩
theorem done0 (L : List (List Rg)) (ats : List Int) (n : Nat) : Done L ats 0 (List.replicate n false) := fun k hk hd => by
  simp
/-- A stretch that is done already. -/
theorem skip_step {L : List (List Rg)} {ats : List Int} (hS : Sts L ats) {i : Nat} {dl : List Bool} {PL : List (List Rg)} (hi : i < ats.length) (hd : i < dl.length) (hD : Done L ats i dl) (hP : PInv L ats i PL) (h : dl[i] = true) : Done L ats (i + 1) dl ∧ PInv L ats (i + 1) PL := by
  have hE := ek_eq L
  obtain ⟨j, hj, hji, he⟩ := (hD i hi hd).1 h
  refine ⟨fun k hk hkd => ?_, fun p hp => ?_, hP.inc, fun k hk hki => ?_⟩
  · rw [hD k hk hkd]
    constructor
    · rintro ⟨a, ha, h1, h2⟩
      exact ⟨a, ha, by omega, h2⟩
    · rintro ⟨a, ha, h1, h2⟩
      rcases Nat.lt_or_ge a i with h3 | h3
      · exact ⟨a, ha, h3, h2⟩
      · have e : a = i := by omega
        subst e
        exact ⟨j, hj, hji, hE.trans h2 he⟩
  · obtain ⟨a, ha, h1, h2⟩ := hP.cl p hp
    exact ⟨a, ha, by omega, h2⟩
  · rcases Nat.lt_or_ge k i with h3 | h3
    · exact hP.cov k hk h3
    · have e : k = i := by omega
      subst e
      obtain ⟨p, hp, hin⟩ := hP.cov j hj hji
      obtain ⟨a, ha, h1, h2, _⟩ := hP.cl p hp
      refine ⟨p, hp, (h2.2 _ (hS.sc _ (List.getElem_mem hk))).2 ?_⟩
      exact hE.trans he ((h2.2 _ (hS.sc _ (List.getElem_mem hj))).1 hin)
/-- A stretch that is new: its part. -/
theorem new_fst {L : List (List Rg)} {ats : List Int} (hS : Sts L ats) {i : Nat} {dl : List Bool} (hi : i < ats.length) (hd : i < dl.length) (hD : Done L ats i dl) (h : dl[i] = false) {p : List Rg} (hp : IsSet p (fun v => Ek L v ats[i])) : fst1 p = ats[i] ∧ p ≠ [] := by
  have hE := ek_eq L
  have hsi := hS.sc _ (List.getElem_mem hi)
  have hin : In p ats[i] := (hp.2 _ hsi).2 (hE.refl _)
  have hne : p ≠ [] := fun e => by rw [e] at hin; exact In_nil _ hin
  obtain ⟨k1, k2⟩ := fst1_in hp.1 hne
  refine ⟨?_, hne⟩
  have hle : fst1 p ≤ ats[i] := by
    obtain ⟨r, hr, h1, h2⟩ := hin
    cases p with
    | nil => exact absurd rfl hne
    | cons x t =>
      show x.1 ≤ _
      rcases List.mem_cons.1 hr with e | hr
      · subst e; exact h1
      · have h3 := (hp.1.2.2.lo r hr).1
        have h4 := nx_gt x.2
        have h5 := hp.1.2.1.2.2
        omega
  rcases Int.lt_or_le (fst1 p) ats[i] with hlt | hge
  · exfalso
    obtain ⟨j, hj, h1, h2⟩ := sts_at hS k1
    have hji : j < i := by
      rcases Nat.lt_or_ge j i with h3 | h3
      · exact h3
      · exfalso
        rcases Nat.lt_or_ge i j with h4 | h4
        · have := hS.inc.mono i j hi hj h4; omega
        · have e : i = j := by omega
          subst e; omega
    have h3 := hS.const j hj _ k1 h1 h2
    have h4 := (hp.2 _ k1).1 k2
    have h5 := (hD i hi hd).2 ⟨j, hj, hji, hE.trans (hE.symm h4) h3⟩
    rw [h] at h5
    cases h5
  · omega
theorem new_step {L : List (List Rg)} {ats : List Int} (hS : Sts L ats) {i : Nat} {dl : List Bool} {PL : List (List Rg)} (hi : i < ats.length) (hd : i < dl.length) (hD : Done L ats i dl) (hP : PInv L ats i PL) (h : dl[i] = false) {p : List Rg} (hp : IsSet p (fun v => Ek L v ats[i])) : PInv L ats (i + 1) (PL ++ [p]) := by
  have hE := ek_eq L
  obtain ⟨e1, hne⟩ := new_fst hS hi hd hD h hp
  refine ⟨fun q hq => ?_, ?_, fun k hk hki => ?_⟩
  · rcases List.mem_append.1 hq with hq | hq
    · obtain ⟨a, ha, h1, h2⟩ := hP.cl q hq
      exact ⟨a, ha, by omega, h2⟩
    · rw [List.mem_singleton] at hq
      subst hq
      exact ⟨i, hi, by omega, hp, e1, hne⟩
  · rw [List.pairwise_append]
    refine ⟨hP.inc, by simp, ?_⟩
    intro a ha b hb
    rw [List.mem_singleton] at hb
    subst hb
    obtain ⟨j, hj, h1, _, h3, _⟩ := hP.cl a ha
    rw [h3, e1]
    exact hS.inc.mono j i hj hi h1
  · rcases Nat.lt_or_ge k i with h3 | h3
    · obtain ⟨q, hq, hin⟩ := hP.cov k hk h3
      exact ⟨q, List.mem_append.2 (.inl hq), hin⟩
    · have e : k = i := by omega
      subst e
      exact ⟨p, by simp, (hp.2 _ (hS.sc _ (List.getElem_mem hk))).2 (hE.refl _)⟩
/-- What is marked on the way: the stretches from the i-th up to the k-th. -/
def Marks (L : List (List Rg)) (ats : List Int) (i k : Nat) (il dl0 dl : List Bool) : Prop :=
  (∀ a (h : a < il.length), il[a] = if i ≤ a ∧ a < k then eqvB L (ats.getD i 0) (ats.getD a 0) else false) ∧
  ∀ a (h : a < dl.length) (h0 : a < dl0.length), dl[a] = if i ≤ a ∧ a < k then (dl0[a] || eqvB L (ats.getD i 0) (ats.getD a 0)) else dl0[a]
theorem marks0 (L : List (List Rg)) (ats : List Int) (i n : Nat) (dl : List Bool) : Marks L ats i i (List.replicate n false) dl dl := by
  refine ⟨fun a h => ?_, fun a h _ => ?_⟩
  · rw [if_neg (by omega)]; simp
  · rw [if_neg (by omega)]
theorem marks_step {L : List (List Rg)} {ats : List Int} {i k : Nat} {il dl0 dl : List Bool} (h : Marks L ats i k il dl0 dl) (hik : i ≤ k) (hk : k < dl.length) (hk0 : k < dl0.length) : Marks L ats i (k + 1) (il.set k (eqvB L (ats.getD i 0) (ats.getD k 0))) dl0 (dl.set k (dl[k] || eqvB L (ats.getD i 0) (ats.getD k 0))) := by
  refine ⟨fun a ha => ?_, fun a ha ha0 => ?_⟩
  · rw [List.getElem_set]
    split
    · rename_i e; subst e; rw [if_pos (by omega)]
    · rename_i e
      rw [h.1 a (by simpa using ha)]
      by_cases hc : i ≤ a ∧ a < k
      · rw [if_pos hc, if_pos (by omega)]
      · rw [if_neg hc, if_neg (by omega)]
  · rw [List.getElem_set]
    split
    · rename_i e; subst e
      rw [if_pos (by omega), h.2 k hk hk0, if_neg (by omega)]
    · rename_i e
      rw [h.2 a (by simpa using ha) ha0]
      by_cases hc : i ≤ a ∧ a < k
      · rw [if_pos hc, if_pos (by omega)]
      · rw [if_neg hc, if_neg (by omega)]
theorem getI {l : List Int} {k : Nat} (h : k < l.length) : l.getD k 0 = l[k] := by
  rw [List.getD_eq_getElem?_getD, List.getElem?_eq_getElem h]; rfl
/-- All marked: what is done, and what is in the part. -/
theorem marks_end {L : List (List Rg)} (hL : ∀ s ∈ L, Gd (-1) s) {ats : List Int} (hS : Sts L ats) {i n : Nat} (hn : ats.length = n) {il dl0 dl : List Bool} (hil : il.length = n) (hl0 : dl0.length = n) (hl : dl.length = n) (hi : i < ats.length) (hd : i < dl0.length) (hD : Done L ats i dl0) (h0 : dl0[i] = false) (h : Marks L ats i n il dl0 dl) :
    Done L ats (i + 1) dl ∧ ∀ a (ha : a < il.length) (ha2 : a < ats.length), il[a] = true ↔ Ek L ats[a] ats[i] := by
  have hE := ek_eq L
  have hnot : ∀ a (ha : a < ats.length), a < i → ¬ Ek L ats[i] ats[a] := by
    intro a ha hai he
    have h5 := (hD i hi hd).2 ⟨a, ha, hai, he⟩
    rw [h0] at h5
    cases h5
  have heq : ∀ a (ha : a < ats.length), eqvB L (ats.getD i 0) (ats.getD a 0) = true ↔ Ek L ats[a] ats[i] := by
    intro a ha
    rw [getI hi, getI ha]
    exact eqv_iff hL (hS.sc _ (List.getElem_mem hi)) (hS.sc _ (List.getElem_mem ha))
  refine ⟨fun k hk hkd => ?_, fun a ha ha2 => ?_⟩
  · rw [h.2 k hkd (by omega)]
    by_cases hc : i ≤ k
    · rw [if_pos ⟨hc, by omega⟩, Bool.or_eq_true, hD k hk (by omega), heq k hk]
      constructor
      · rintro (⟨a, ha, h1, h2⟩ | h1)
        · exact ⟨a, ha, by omega, h2⟩
        · exact ⟨i, hi, by omega, h1⟩
      · rintro ⟨a, ha, h1, h2⟩
        rcases Nat.lt_or_ge a i with h3 | h3
        · exact .inl ⟨a, ha, h3, h2⟩
        · have e : a = i := by omega
          subst e
          exact .inr h2
    · rw [if_neg (by omega), hD k hk (by omega)]
      constructor
      · rintro ⟨a, ha, h1, h2⟩
        exact ⟨a, ha, by omega, h2⟩
      · rintro _
        exact ⟨k, hk, by omega, hE.refl _⟩
  · rw [h.1 a ha]
    by_cases hc : i ≤ a
    · rw [if_pos ⟨hc, by omega⟩, heq a ha2]
    · rw [if_neg (by omega)]
      constructor
      · intro e; cases e
      · intro e; exact absurd (hE.symm e) (hnot a ha2 (by omega))
/-- At the end they are the parts. -/
theorem pinv_parts {L : List (List Rg)} {ats : List Int} (hS : Sts L ats) {PL : List (List Rg)} (hP : PInv L ats ats.length PL) : Parts (Ek L) PL := by
  have hE := ek_eq L
  refine ⟨fun p hp => ?_, fun p hp => ?_, fun p hp u v hu hv hi => ?_, fun v hv => ?_, hP.inc⟩
  · obtain ⟨_, _, _, h, _⟩ := hP.cl p hp; exact h.1
  · obtain ⟨_, _, _, _, _, h⟩ := hP.cl p hp; exact h
  · obtain ⟨j, hj, _, h, _⟩ := hP.cl p hp
    have h1 := (h.2 u hu).1 hi
    rw [h.2 v hv]
    exact ⟨fun h2 => hE.trans h2 (hE.symm h1), fun h2 => hE.trans h2 h1⟩
  · obtain ⟨i, hi, h1, h2⟩ := sts_at hS hv
    have h3 := hS.const i hi v hv h1 h2
    obtain ⟨p, hp, hin⟩ := hP.cov i hi hi
    obtain ⟨j, hj, _, h, _⟩ := hP.cl p hp
    exact ⟨p, hp, (h.2 v hv).2 (hE.trans h3 ((h.2 _ (hS.sc _ (List.getElem_mem hi))).1 hin))⟩
theorem pinv_many {L : List (List Rg)} {ats : List Int} (hS : Sts L ats) {i : Nat} {PL : List (List Rg)} (hP : PInv L ats i PL) (h : 257 ≤ PL.length) : Many (Ek L) := by
  have hE := ek_eq L
  refine ⟨PL.map fst1, by simpa using h, ?_, ?_⟩
  · intro v hv
    obtain ⟨p, hp, rfl⟩ := List.mem_map.1 hv
    obtain ⟨j, hj, _, _, e, _⟩ := hP.cl p hp
    rw [e]
    exact hS.sc _ (List.getElem_mem hj)
  · rw [List.pairwise_map]
    refine hP.inc.imp_of_mem fun {a b} ha hb hab he => ?_
    obtain ⟨j, hj, _, h1, e1, _⟩ := hP.cl a ha
    obtain ⟨k, hk, _, h2, e2, _⟩ := hP.cl b hb
    have : a = b := h1.uniq h2 fun v hv => by
      rw [e1, e2] at he
      exact ⟨fun h => hE.trans h he, fun h => hE.trans h (hE.symm he)⟩
    subst this
    omega
theorem eqv_false {L : List (List Rg)} {u v : Int} {k : Nat} (h : eqvB (L.take k) u v = false) : eqvB L u v = false := by
  have e : eqvB L u v = (eqvB (L.take k) u v && eqvB (L.drop k) u v) := by
    unfold eqvB
    rw [← List.all_append, List.take_append_drop]
  rw [e, h]
  rfl
end Go.Proofs.Ythaageiflimnnaa
/- What the document's Build returns: a row of the call's own. -/
namespace Go.Proofs.Ythaageiflimnnaa
open Go.RowKit Go.BigFrame
set_option linter.unusedVariables false
set_option linter.unusedSimpArgs false

/-- What Build leaves, as its own. -/
def OutBO (p : Int → Prop) (n : Nat) (w : World) (e : Ending) (w' : World) : Prop :=
  ∃ (s : List Rg) (k : Nat) (A : Option Addr) (c : Nat), e = .returned (.slice A k c) ∧ s.length = k ∧ k ≤ n ∧ IsSet s p ∧ w'.ownsRow w.heap.size 50 2 (.slice A k c) k (rcells s) ∧ Below w.heap.size w w'
set_option maxRecDepth 100000 in
set_option maxHeartbeats 4000000 in
theorem build_own (at_ : List Int) (inn : List Bool) (p : Int → Prop) (n : Nat) (hl : at_.length = n) (hi : inn.length = n) (A B : Option Addr) (c d : Nat) (w : World) (hP : Places at_ p) (hI : ∀ i (h : i < inn.length) (h2 : i < at_.length), inn[i] = true ↔ p at_[i])
    (hRa : Reads w w.heap.size 1 A n (icells at_)) (hRb : Reads w w.heap.size 1 B n (bcells inn)) (hn : n ≤ 10000) :
    Calls Try.prog 33 #[.slice A n c, .slice B n d] w (OutBO p n w) := by
  obtain ⟨i0, hi0, hz0, hz1, hz2⟩ := info_parts info41
  have hf58 := field58
  have HRa := Lib.hid hRa
  have HRb := Lib.hid hRb
  have HL := Lib.hid hl
  have HLi := Lib.hid hi
  have HP := Lib.hid hP
  have HI := Lib.hid hI
  clear hRa hRb hl hi hP hI
  go_enter Try.func33, Try.ntmps33
  go_wp2_with fail
  go_loopw [5, 6] (fun vo vi wr => BdRel at_ p n w vo vi wr) (fun _ i _ => n - (intOf i).toNat)
  case atStart => exact ⟨0, 0, none, 0, [], Nat.zero_le _, rfl, rfl, Lib.hid rfl, Nat.le_refl _, Lib.hid (bd_start HP.out), World.ownsRow_nil _ _ _ _, Below.refl _ _⟩
  case round =>
    obtain ⟨k, z, A2, c2, acc, hk, rfl, rfl, HZ, hzk, HJ, hown, hb⟩ := hrel
    have hsz := hb.size
    by_cases hlt : k < n
    · have kl : k < at_.length := by rw [HL.out]; exact hlt
      have ki : k < inn.length := by rw [HLi.out]; exact hlt
      obtain ⟨ba, oa, rfl, hba, pa⟩ := (HRa.out.below hb).int kl
      obtain ⟨bb, ob, rfl, hbb, pb⟩ := (HRb.out.below hb).bool ki
      have hik := HI.out k ki kl
      cases hin : inn[k]
      · have HX : Hid (BdInv at_ p (k + 1) acc) := Lib.hid (bd_skip HP.out HJ.out kl (fun hp => by rw [hik.2 hp] at hin; cases hin))
        rw [hin] at pb
        have HO := Lib.hid hown
        clear HJ hik hin hown
        go_wp2_with fail
        go_roundw
        case rel => exact ⟨k + 1, z, A2, c2, acc, by omega, by go_num, rfl, HZ, by omega, HX, HO.out, hb⟩
        case measure => simp [intOf]; omega
      · rw [hin] at pb
        have hpk := hik.1 hin
        rcases List.eq_nil_or_concat acc with rfl | ⟨t, x, rfl⟩
        · have HX : Hid (BdInv at_ p (k + 1) ([] ++ [(at_[k], hiN at_ k)])) := Lib.hid (bd_new HP.out HJ.out kl hpk (fun t x h => by simp at h))
          obtain rfl : z = 0 := by have := HZ.out; simpa using this.symm
          clear HJ hik hin hpk HZ
          by_cases hk1 : k + 1 < n
          · have kl1 : k + 1 < at_.length := by rw [HL.out]; exact hk1
            have hh : prevN at_[k + 1] = hiN at_ k := by unfold hiN; rw [dif_pos kl1]
            have hcp := fun W => refPrev_n at_[k + 1] W
            rw [hh] at hcp
            have pn := Reads.int_at (HRa.out.below hb) kl1
            generalize at_[k + 1] = an at *
            generalize at_[k] = ak at *
            generalize hiN at_ k = hiv at *
            go_wp2_with fail
            refine (hcp _).mono ?_
            rintro e w2 ⟨rfl, g2, _⟩
            have b2 := hb.trans (g2.mono hsz)
            have own2 := own_below hown g2
            have pa2 := kept_cell g2 pa
            clear hcp g2 hown hb pa pn pb
            go_wp2_with fail
            have d0 := fun n os => cell_grown (World.block_lt_of_cell? _ _ pa2) pa2 n os
            refine wp_region_quiet_grown mixedTry (by kernel_rfl) ?_
            repeat (go_big_quiet_step (fail))
            refine wpQuiet_nil ?_
            intro _ hw'
            obtain ⟨⟨nq, osq⟩, hw''⟩ := hw'
            subst hw''
            have hb9 := b2.trans ((below_grown_of w2 nq osq).1.mono b2.size)
            have hown9 := own_below own2 (below_grown_of w2 nq osq).1
            have e0 := d0 nq osq
            clear d0 own2 b2 pa2
            generalize Go.Sort.grow (w2.drewN nq) osq = w9 at *
            have hsz9 := hb9.size
            go_wp2_with (at_builtin; refine wpList_append_lies _ rfl _ _ 48 rfl w.heap.size 50 i0 _ 2 16 Try.underlying48 hi0 hz0 hz1 hz2 rfl (by decide) _ _ _ rfl (hown9.alloc _) ⟨w9.heap.size, 0, none⟩ 1 1 [.int .i64 ak, .int .i64 hiv] rfl rfl ?k1 ?k2 (by omega) ?k3 ?k4 ?k5 _ rfl ?_)
            case k1 =>
              intro j u hj
              match j, hj with
              | 0, hj => simp at hj; subst hj; simp [Addr.add]
              | 1, hj => simp at hj; subst hj; simp [Addr.add]
            case k2 => intro u hu; simp at hu; rcases hu with rfl | rfl <;> rfl
            case k3 => unfold maxLen; omega
            case k4 => omega
            case k5 => simp; omega
            · intro g cap w5 hown5 hgrow hat hlt5
              have b5 : Below w.heap.size w w5 := below_grown (hb9.alloc (by omega) _) (by simp; omega) (hown9.alloc _) hgrow
              have HO5 : Hid (w5.ownsRow w.heap.size 50 2 (.slice (some ⟨g, 0, none⟩) (0 + 1) cap) (0 + 1) (rcells ([] ++ [(ak, hiv)]))) := Lib.hid (by rw [rcells_snoc]; exact hown5)
              have HL5 : Hid (([] ++ [(ak, hiv)]).length = 0 + 1) := Lib.hid (by simp)
              clear hown5 hgrow hat hown9
              go_wp2_with fail
              go_roundw
              case rel => exact ⟨k + 1, 0 + 1, some ⟨g, 0, none⟩, cap, ([] ++ [(ak, hiv)]), by omega, by go_num, rfl, HL5, by omega, HX, HO5.out, b5⟩
              case measure => simp [intOf]; omega
          · have hh : hiN at_ k = 1114111 := by unfold hiN; rw [dif_neg (by rw [HL.out]; exact hk1)]
            rw [hh] at HX
            clear hh
            generalize at_[k] = ak at *
            go_wp2_with fail
            have d0 := fun n os => cell_grown (World.block_lt_of_cell? _ _ pa) pa n os
            refine wp_region_quiet_grown mixedTry (by kernel_rfl) ?_
            repeat (go_big_quiet_step (fail))
            refine wpQuiet_nil ?_
            intro _ hw'
            obtain ⟨⟨nq, osq⟩, hw''⟩ := hw'
            subst hw''
            have hb9 := hb.trans ((below_grown_of wr nq osq).1.mono hb.size)
            have hown9 := own_below hown (below_grown_of wr nq osq).1
            have e0 := d0 nq osq
            clear d0 hown hb pa
            generalize Go.Sort.grow (wr.drewN nq) osq = w9 at *
            have hsz9 := hb9.size
            go_wp2_with (at_builtin; refine wpList_append_lies _ rfl _ _ 48 rfl w.heap.size 50 i0 _ 2 16 Try.underlying48 hi0 hz0 hz1 hz2 rfl (by decide) _ _ _ rfl (hown9.alloc _) ⟨w9.heap.size, 0, none⟩ 1 1 [.int .i64 ak, .int .i64 1114111] rfl rfl ?k1 ?k2 (by omega) ?k3 ?k4 ?k5 _ rfl ?_)
            case k1 =>
              intro j u hj
              match j, hj with
              | 0, hj => simp at hj; subst hj; simp [Addr.add]
              | 1, hj => simp at hj; subst hj; simp [Addr.add]
            case k2 => intro u hu; simp at hu; rcases hu with rfl | rfl <;> rfl
            case k3 => unfold maxLen; omega
            case k4 => omega
            case k5 => simp; omega
            · intro g cap w5 hown5 hgrow hat hlt5
              have b5 : Below w.heap.size w w5 := below_grown (hb9.alloc (by omega) _) (by simp; omega) (hown9.alloc _) hgrow
              have HO5 : Hid (w5.ownsRow w.heap.size 50 2 (.slice (some ⟨g, 0, none⟩) (0 + 1) cap) (0 + 1) (rcells ([] ++ [(ak, 1114111)]))) := Lib.hid (by rw [rcells_snoc]; exact hown5)
              have HL5 : Hid (([] ++ [(ak, 1114111)]).length = 0 + 1) := Lib.hid (by simp)
              clear hown5 hgrow hat hown9
              go_wp2_with fail
              go_roundw
              case rel => exact ⟨k + 1, 0 + 1, some ⟨g, 0, none⟩, cap, ([] ++ [(ak, 1114111)]), by omega, by go_num, rfl, HL5, by omega, HX, HO5.out, b5⟩
              case measure => simp [intOf]; omega
        · rw [List.concat_eq_append] at *
          obtain ⟨m, hm⟩ : ∃ m, t.length = m := ⟨_, rfl⟩
          obtain rfl : z = m + 1 := by have := HZ.out; rw [← this]; simp [hm]
          have HM := Lib.hid hm
          obtain ⟨g, cap, hv, hg0, hg⟩ := hown.form (by omega)
          injection hv with e1 e2 e3
          subst e1 e3
          have q1 : wr.cell? ⟨g, m * 2 + 1, none⟩ = some (.int .i64 x.2) := by
            rw [hown.cellAt (m * 2 + 1) (by omega)]
            have := (rcells_at (t ++ [x]) m (by simp [hm])).2
            rw [this]; simp [← hm]
          by_cases hnx : nextN x.2 = at_[k]
          · have HX : Hid (BdInv at_ p (k + 1) (t ++ [(x.1, hiN at_ k)])) := Lib.hid (bd_more HP.out HJ.out kl hpk hnx)
            have heq : (nextN x.2 == at_[k]) = true := by rw [beq_iff_eq]; exact hnx
            clear HJ hik hin hpk HZ hm e2 hnx
            by_cases hk1 : k + 1 < n
            · have kl1 : k + 1 < at_.length := by rw [HL.out]; exact hk1
              have hh : prevN at_[k + 1] = hiN at_ k := by unfold hiN; rw [dif_pos kl1]
              have hcp := fun W => refPrev_n at_[k + 1] W
              rw [hh] at hcp
              have pn := Reads.int_at (HRa.out.below hb) kl1
              generalize at_[k + 1] = an at *
              generalize at_[k] = ak at *
              generalize hiN at_ k = hiv at *
              obtain ⟨x0, x1⟩ := x
              simp only [] at HX heq q1
              have hcx := fun W => lay_of (refNext_n x1 W)
              generalize nextN x1 = nx1 at *
              go_wp2_with fail
              refine (hcp _).mono ?_
              rintro e w2 ⟨rfl, g2, _⟩
              have b2 := hb.trans (g2.mono hsz)
              have own2 := own_below hown g2
              have pa2 := kept_cell g2 pa
              have q1' := kept_cell g2 q1
              clear hcp g2 hown hb pa pn pb
              go_wp2_with fail
              have d0 := fun n os => cell_grown (World.block_lt_of_cell? _ _ pa2) pa2 n os
              have d1 := fun n os => cell_grown (World.block_lt_of_cell? _ _ q1') q1' n os
              refine wp_region_quiet_grown mixedTry (by kernel_rfl) ?_
              repeat (go_big_quiet_step (first | (go_at_call 42; refine Calls.grown_of (hcx _))))
              refine wpQuiet_nil ?_
              intro _ hw'
              obtain ⟨⟨nq, osq⟩, hw''⟩ := hw'
              subst hw''
              have hb9 := b2.trans ((below_grown_of w2 nq osq).1.mono b2.size)
              have hown9 := own_below own2 (below_grown_of w2 nq osq).1
              have e0 := d0 nq osq
              clear d0 d1 hcx own2 b2 pa2
              generalize Go.Sort.grow (w2.drewN nq) osq = w9 at *
              have hsz9 := hb9.size
              have f1 := hown9.frozenAt (m * 2 + 1)
              have hst := (hown9.stored (m * 2 + 1) (.int .i64 hiv)).1
              have hset : (rcells (t ++ [(x0, x1)])).set (m * 2 + 1) (.int .i64 hiv) = rcells (t ++ [(x0, hiv)]) := by
                have hm := HM.out
                rw [rcells_snoc, rcells_snoc, List.set_append_right _ _ (by rw [rcells_len]; omega), rcells_len, hm, show m * 2 + 1 - m * 2 = 1 by omega]
                rfl
              rw [hset] at hst
              have b5 : Below w.heap.size w (w9.setCell ⟨g, m * 2 + 1, none⟩ (.int .i64 hiv)) := hb9.setCell (p := ⟨g, m * 2 + 1, none⟩) hg0 _
              have HO5 := Lib.hid hst
              have HL5 : Hid ((t ++ [(x0, hiv)]).length = m + 1) := Lib.hid (by simp [HM.out])
              have c9 : ∃ u, w9.cell? ⟨g, m * 2 + 1, none⟩ = some u := ⟨_, (hown9.cellAt (m * 2 + 1) (by omega)).trans (by
                have := (rcells_at (t ++ [(x0, x1)]) m (by simp [HM.out])).2
                exact this)⟩
              obtain ⟨u9, hu9⟩ := c9
              clear hst hset hown9
              go_wp2_with fail
              go_roundw
              case rel => exact ⟨k + 1, m + 1, some ⟨g, 0, none⟩, c2, t ++ [(x0, hiv)], by omega, by go_num, rfl, HL5, by omega, HX, HO5.out, b5⟩
              case measure => simp [intOf]; omega
            · have hh : hiN at_ k = 1114111 := by unfold hiN; rw [dif_neg (by rw [HL.out]; exact hk1)]
              rw [hh] at HX
              clear hh
              generalize at_[k] = ak at *
              obtain ⟨x0, x1⟩ := x
              simp only [] at HX heq q1
              have hcx := fun W => lay_of (refNext_n x1 W)
              generalize nextN x1 = nx1 at *
              go_wp2_with fail
              have d0 := fun n os => cell_grown (World.block_lt_of_cell? _ _ pa) pa n os
              have d1 := fun n os => cell_grown (World.block_lt_of_cell? _ _ q1) q1 n os
              refine wp_region_quiet_grown mixedTry (by kernel_rfl) ?_
              repeat (go_big_quiet_step (first | (go_at_call 42; refine Calls.grown_of (hcx _))))
              refine wpQuiet_nil ?_
              intro _ hw'
              obtain ⟨⟨nq, osq⟩, hw''⟩ := hw'
              subst hw''
              have hb9 := hb.trans ((below_grown_of wr nq osq).1.mono hb.size)
              have hown9 := own_below hown (below_grown_of wr nq osq).1
              have e0 := d0 nq osq
              clear d0 d1 hcx hown hb pa
              generalize Go.Sort.grow (wr.drewN nq) osq = w9 at *
              have hsz9 := hb9.size
              have f1 := hown9.frozenAt (m * 2 + 1)
              have hst := (hown9.stored (m * 2 + 1) (.int .i64 1114111)).1
              have hset : (rcells (t ++ [(x0, x1)])).set (m * 2 + 1) (.int .i64 1114111) = rcells (t ++ [(x0, 1114111)]) := by
                have hm := HM.out
                rw [rcells_snoc, rcells_snoc, List.set_append_right _ _ (by rw [rcells_len]; omega), rcells_len, hm, show m * 2 + 1 - m * 2 = 1 by omega]
                rfl
              rw [hset] at hst
              have b5 : Below w.heap.size w (w9.setCell ⟨g, m * 2 + 1, none⟩ (.int .i64 1114111)) := hb9.setCell (p := ⟨g, m * 2 + 1, none⟩) hg0 _
              have HO5 := Lib.hid hst
              have HL5 : Hid ((t ++ [(x0, 1114111)]).length = m + 1) := Lib.hid (by simp [HM.out])
              have c9 : ∃ u, w9.cell? ⟨g, m * 2 + 1, none⟩ = some u := ⟨_, (hown9.cellAt (m * 2 + 1) (by omega)).trans (by
                have := (rcells_at (t ++ [(x0, x1)]) m (by simp [HM.out])).2
                exact this)⟩
              obtain ⟨u9, hu9⟩ := c9
              clear hst hset hown9
              go_wp2_with fail
              go_roundw
              case rel => exact ⟨k + 1, m + 1, some ⟨g, 0, none⟩, c2, t ++ [(x0, 1114111)], by omega, by go_num, rfl, HL5, by omega, HX, HO5.out, b5⟩
              case measure => simp [intOf]; omega
          · have HX : Hid (BdInv at_ p (k + 1) (t ++ [x] ++ [(at_[k], hiN at_ k)])) := Lib.hid (bd_new HP.out HJ.out kl hpk (fun t' x' h => by
              obtain ⟨_, e⟩ := List.append_inj' h rfl
              simp at e
              subst e; exact hnx))
            have heq : (nextN x.2 == at_[k]) = false := by rw [beq_eq_false_iff_ne]; exact hnx
            clear HJ hik hin hpk HZ hm e2 hnx
            by_cases hk1 : k + 1 < n
            · have kl1 : k + 1 < at_.length := by rw [HL.out]; exact hk1
              have hh : prevN at_[k + 1] = hiN at_ k := by unfold hiN; rw [dif_pos kl1]
              have hcp := fun W => refPrev_n at_[k + 1] W
              rw [hh] at hcp
              have pn := Reads.int_at (HRa.out.below hb) kl1
              generalize at_[k + 1] = an at *
              generalize at_[k] = ak at *
              generalize hiN at_ k = hiv at *
              obtain ⟨x0, x1⟩ := x
              simp only [] at HX heq q1
              have hcx := fun W => lay_of (refNext_n x1 W)
              generalize nextN x1 = nx1 at *
              go_wp2_with fail
              refine (hcp _).mono ?_
              rintro e w2 ⟨rfl, g2, _⟩
              have b2 := hb.trans (g2.mono hsz)
              have own2 := own_below hown g2
              have pa2 := kept_cell g2 pa
              have q1' := kept_cell g2 q1
              clear hcp g2 hown hb pa pn pb
              go_wp2_with fail
              have d0 := fun n os => cell_grown (World.block_lt_of_cell? _ _ pa2) pa2 n os
              have d1 := fun n os => cell_grown (World.block_lt_of_cell? _ _ q1') q1' n os
              refine wp_region_quiet_grown mixedTry (by kernel_rfl) ?_
              repeat (go_big_quiet_step (first | (go_at_call 42; refine Calls.grown_of (hcx _))))
              refine wpQuiet_nil ?_
              intro _ hw'
              obtain ⟨⟨nq, osq⟩, hw''⟩ := hw'
              subst hw''
              have hb9 := b2.trans ((below_grown_of w2 nq osq).1.mono b2.size)
              have hown9 := own_below own2 (below_grown_of w2 nq osq).1
              have e0 := d0 nq osq
              clear d0 d1 hcx own2 b2 pa2
              generalize Go.Sort.grow (w2.drewN nq) osq = w9 at *
              have hsz9 := hb9.size
              go_wp2_with (at_builtin; refine wpList_append_lies _ rfl _ _ 48 rfl w.heap.size 50 i0 _ 2 16 Try.underlying48 hi0 hz0 hz1 hz2 rfl (by decide) _ _ _ rfl (hown9.alloc _) ⟨w9.heap.size, 0, none⟩ 1 1 [.int .i64 ak, .int .i64 hiv] rfl rfl ?k1 ?k2 (by omega) ?k3 ?k4 ?k5 _ rfl ?_)
              case k1 =>
                intro j u hj
                match j, hj with
                | 0, hj => simp at hj; subst hj; simp [Addr.add]
                | 1, hj => simp at hj; subst hj; simp [Addr.add]
              case k2 => intro u hu; simp at hu; rcases hu with rfl | rfl <;> rfl
              case k3 => unfold maxLen; omega
              case k4 => omega
              case k5 => simp; omega
              · intro g cap w5 hown5 hgrow hat hlt5
                have b5 : Below w.heap.size w w5 := below_grown (hb9.alloc (by omega) _) (by simp; omega) (hown9.alloc _) hgrow
                have HO5 : Hid (w5.ownsRow w.heap.size 50 2 (.slice (some ⟨g, 0, none⟩) ((m + 1) + 1) cap) ((m + 1) + 1) (rcells ((t ++ [(x0, x1)]) ++ [(ak, hiv)]))) := Lib.hid (by rw [rcells_snoc]; exact hown5)
                have HL5 : Hid (((t ++ [(x0, x1)]) ++ [(ak, hiv)]).length = (m + 1) + 1) := Lib.hid (by simp [HM.out])
                clear hown5 hgrow hat hown9
                go_wp2_with fail
                go_roundw
                case rel => exact ⟨k + 1, (m + 1) + 1, some ⟨g, 0, none⟩, cap, ((t ++ [(x0, x1)]) ++ [(ak, hiv)]), by omega, by go_num, rfl, HL5, by omega, HX, HO5.out, b5⟩
                case measure => simp [intOf]; omega
            · have hh : hiN at_ k = 1114111 := by unfold hiN; rw [dif_neg (by rw [HL.out]; exact hk1)]
              rw [hh] at HX
              clear hh
              generalize at_[k] = ak at *
              obtain ⟨x0, x1⟩ := x
              simp only [] at HX heq q1
              have hcx := fun W => lay_of (refNext_n x1 W)
              generalize nextN x1 = nx1 at *
              go_wp2_with fail
              have d0 := fun n os => cell_grown (World.block_lt_of_cell? _ _ pa) pa n os
              have d1 := fun n os => cell_grown (World.block_lt_of_cell? _ _ q1) q1 n os
              refine wp_region_quiet_grown mixedTry (by kernel_rfl) ?_
              repeat (go_big_quiet_step (first | (go_at_call 42; refine Calls.grown_of (hcx _))))
              refine wpQuiet_nil ?_
              intro _ hw'
              obtain ⟨⟨nq, osq⟩, hw''⟩ := hw'
              subst hw''
              have hb9 := hb.trans ((below_grown_of wr nq osq).1.mono hb.size)
              have hown9 := own_below hown (below_grown_of wr nq osq).1
              have e0 := d0 nq osq
              clear d0 d1 hcx hown hb pa
              generalize Go.Sort.grow (wr.drewN nq) osq = w9 at *
              have hsz9 := hb9.size
              go_wp2_with (at_builtin; refine wpList_append_lies _ rfl _ _ 48 rfl w.heap.size 50 i0 _ 2 16 Try.underlying48 hi0 hz0 hz1 hz2 rfl (by decide) _ _ _ rfl (hown9.alloc _) ⟨w9.heap.size, 0, none⟩ 1 1 [.int .i64 ak, .int .i64 1114111] rfl rfl ?k1 ?k2 (by omega) ?k3 ?k4 ?k5 _ rfl ?_)
              case k1 =>
                intro j u hj
                match j, hj with
                | 0, hj => simp at hj; subst hj; simp [Addr.add]
                | 1, hj => simp at hj; subst hj; simp [Addr.add]
              case k2 => intro u hu; simp at hu; rcases hu with rfl | rfl <;> rfl
              case k3 => unfold maxLen; omega
              case k4 => omega
              case k5 => simp; omega
              · intro g cap w5 hown5 hgrow hat hlt5
                have b5 : Below w.heap.size w w5 := below_grown (hb9.alloc (by omega) _) (by simp; omega) (hown9.alloc _) hgrow
                have HO5 : Hid (w5.ownsRow w.heap.size 50 2 (.slice (some ⟨g, 0, none⟩) ((m + 1) + 1) cap) ((m + 1) + 1) (rcells ((t ++ [(x0, x1)]) ++ [(ak, 1114111)]))) := Lib.hid (by rw [rcells_snoc]; exact hown5)
                have HL5 : Hid (((t ++ [(x0, x1)]) ++ [(ak, 1114111)]).length = (m + 1) + 1) := Lib.hid (by simp [HM.out])
                clear hown5 hgrow hat hown9
                go_wp2_with fail
                go_roundw
                case rel => exact ⟨k + 1, (m + 1) + 1, some ⟨g, 0, none⟩, cap, ((t ++ [(x0, x1)]) ++ [(ak, 1114111)]), by omega, by go_num, rfl, HL5, by omega, HX, HO5.out, b5⟩
                case measure => simp [intOf]; omega
    · have HE : Hid (IsSet acc p) := Lib.hid (bd_end HJ.out (by rw [HL.out]; exact hlt))
      have HR2 := Lib.hid hown
      clear HJ
      go_wp2_with fail
      go_ret
      exact ⟨acc, z, A2, c2, rfl, HZ.out, by omega, HE.out, HR2.out, hb⟩
end Go.Proofs.Ythaageiflimnnaa
/- Sets gathered by the call itself; the places of all sets. -/
namespace Go.Proofs.Ythaageiflimnnaa
open Go.RowKit Go.BigFrame
set_option linter.unusedVariables false
set_option linter.unusedSimpArgs false

structure OwnS (w : World) (base : Nat) (A : Option Addr) (z c : Nat) (H : List Hd) : Prop where
  len : H.length = z
  out : w.ownsRow base 48 1 (.slice A z c) z (hcells H)
  inn : ∀ h ∈ H, h.s.length = h.n ∧ w.ownsRow base 50 2 h.v h.n (rcells h.s)
theorem OwnS.nil (w : World) (base : Nat) : OwnS w base none 0 0 [] := ⟨rfl, World.ownsRow_nil _ _ _ _, fun h hh => by simp at hh⟩
theorem OwnS.on {w w' : World} {base z c : Nat} {A : Option Addr} {H : List Hd} (h : OwnS w base A z c H) (g : Below w.heap.size w w') : OwnS w' base A z c H := ⟨h.len, own_below h.out g, fun x hx => ⟨(h.inn x hx).1, own_below (h.inn x hx).2 g⟩⟩
theorem OwnS.snoc {w w' : World} {base z c g cap : Nat} {A : Option Addr} {H : List Hd} {x : Hd} (h : OwnS w base A z c H) (hx : x.s.length = x.n ∧ w.ownsRow base 50 2 x.v x.n (rcells x.s)) (ho : w'.ownsRow base 48 1 (.slice (some ⟨g, 0, none⟩) (z + 1) cap) (z + 1) (hcells H ++ [x.v])) (hg : w.grownBy w' (Value.slice A z c).ownBlock) :
    OwnS w' base (some ⟨g, 0, none⟩) (z + 1) cap (H ++ [x]) := by
  refine ⟨by rw [List.length_append, h.len]; rfl, ?_, ?_⟩
  · have e : hcells (H ++ [x]) = hcells H ++ [x.v] := by simp [hcells]
    rw [e]; exact ho
  · intro y hy
    have key : ∀ y : Hd, y.s.length = y.n ∧ w.ownsRow base 50 2 y.v y.n (rcells y.s) → y.s.length = y.n ∧ w'.ownsRow base 50 2 y.v y.n (rcells y.s) := fun y hy => ⟨hy.1, hy.2.kept hg (ne_sym (own_unlike' (by decide) h.out hy.2))⟩
    rcases List.mem_append.1 hy with hy | hy
    · exact key y (h.inn y hy)
    · rw [List.mem_singleton] at hy; subst hy; exact key _ hx
theorem own_not {w : World} {base base' : Nat} {e e' : TypeId} {size size' n n' g m : Nat} {v : Value} {xs xs' : List Value} (hne : e ≠ e') (h : w.ownsRow base e size v n xs) (h' : w.ownsRow base' e' size' (.slice (some ⟨g, 0, none⟩) m m) n' xs') : v.ownBlock ≠ some g := by
  intro he
  rcases own_unlike' hne h h' with e1 | e1
  · rw [he] at e1; cases e1
  · exact e1 (by rw [he]; rfl)
theorem OwnS.set {w : World} {base z c g n m : Nat} {A : Option Addr} {H : List Hd} {xs : List Value} (h : OwnS w base A z c H) (hb : w.ownsRow base 4 1 (.slice (some ⟨g, 0, none⟩) m m) n xs) (k : Nat) (v : Value) : OwnS (w.setCell ⟨g, k, none⟩ v) base A z c H :=
  ⟨h.len, ownsRow_setCell_other h.out (a := ⟨g, k, none⟩) (own_not (by decide) h.out hb) v, fun x hx => ⟨(h.inn x hx).1, ownsRow_setCell_other (h.inn x hx).2 (a := ⟨g, k, none⟩) (own_not (by decide) (h.inn x hx).2 hb) v⟩⟩
theorem OwnS.nest {w : World} {base z c : Nat} {A : Option Addr} {H : List Hd} (h : OwnS w base A z c H) : Nest w w.heap.size A z H ∧ Shp A z c :=
  ⟨⟨h.len, Reads.of_own h.out, fun x hx => ⟨(h.inn x hx).1, own_shp (h.inn x hx).2, Reads.of_own (h.inn x hx).2⟩⟩, own_shp h.out⟩
theorem flat_len (L : List (List Rg)) : L.flatten.length = tot L := by unfold tot; rw [List.length_flatten]
theorem flat_take (L : List (List Rg)) (k : Nat) (hk : k < L.length) : (L.take (k + 1)).flatten = (L.take k).flatten ++ L[k] := by
  rw [List.take_succ_eq_append_getElem hk, List.flatten_append]
  simp
theorem tot_take (L : List (List Rg)) (k : Nat) : tot (L.take k) ≤ tot L := by
  have h : tot L = tot (L.take k) + tot (L.drop k) := by
    unfold tot
    rw [← List.sum_append, ← List.map_append, List.take_append_drop]
  omega
def SaRel (L : List (List Rg)) (n : Nat) (w : World) (vo vi : Value) (wr : World) : Prop :=
  ∃ (k z : Nat) (A2 : Option Addr) (c2 : Nat) (acc : List Rg), k ≤ n ∧ vi = .int .i64 k ∧ vo = .slice A2 z c2 ∧ Hid (acc.length = z) ∧ z ≤ 4000 ∧ Hid (acc = (L.take k).flatten) ∧ wr.ownsRow w.heap.size 50 2 (.slice A2 z c2) z (rcells acc) ∧ Below w.heap.size w wr

set_option maxHeartbeats 1000000 in
theorem starts_all (H : List Hd) (n : Nat) (A : Option Addr) (c : Nat) (w : World) (hN : Nest w w.heap.size A n H) (hn : n ≤ 4000) (ht : tot (setsOf H) ≤ 4000) :
    Calls Try.prog 32 #[.slice A n c] w (OutI (stL [0] (setsOf H).flatten) w) := by
  obtain ⟨i0, hi0, hz0, hz1, hz2⟩ := info_parts info41
  have HN := Lib.hid hN
  have HT := Lib.hid ht
  clear hN ht
  go_enter Try.func32, Try.ntmps32
  go_wp2_with fail
  go_loopw [3, 4] (fun vo vi wr => SaRel (setsOf H) n w vo vi wr) (fun _ i _ => n - (intOf i).toNat)
  case atStart => exact ⟨0, 0, none, 0, [], Nat.zero_le _, rfl, rfl, Lib.hid rfl, by omega, Lib.hid rfl, World.ownsRow_nil _ _ _ _, Below.refl _ _⟩
  case round =>
    obtain ⟨k, z, A2, c2, acc, hk, rfl, rfl, HLz, hz, HE, hown, hb⟩ := hrel
    have hsz := hb.size
    by_cases hlt : k < n
    · have kl : k < H.length := by rw [HN.out.1]; exact hlt
      have kL : k < (setsOf H).length := by rw [setsOf_len]; exact kl
      obtain ⟨b, o, rfl, hbb, p0, q1, q2, q3⟩ := (HN.out.below hb).at kl
      have HE1 : Hid (acc ++ H[k].s = ((setsOf H).take (k + 1)).flatten) := Lib.hid (by
        rw [flat_take _ k kL, HE.out]
        simp [setsOf])
      have hzb : z + H[k].n ≤ 4000 := by
        have h1 := tot_take (setsOf H) (k + 1)
        rw [← flat_len, ← HE1.out, List.length_append, HLz.out, q1] at h1
        have := HT.out
        omega
      have HL1 : Hid ((acc ++ H[k].s).length = z + H[k].n) := Lib.hid (by rw [List.length_append, HLz.out, q1])
      have HQ2 := Lib.hid q2.1
      have HQ3 := Lib.hid (q3.more hsz)
      clear q1 q2 q3 HE kL
      generalize H[k] = x at *
      obtain ⟨xa, xn, xc, xs⟩ := x
      simp only [] at p0 HE1 hzb HL1 HQ2 HQ3
      go_wp2_with (at_builtin; refine wpList_append_named rfl _ _ 47 48 rfl w.heap.size 50 50 i0 _ 2 16 Try.underlying47 Try.underlying48 hi0 hz0 hz1 hz2 rfl (by decide) _ _ _ rfl hown xa xn xc wr.heap.size (rcells xs) rfl HQ2.out HQ3.out (rcells_one xs) ?c3 ?c4 ?c5 ?_)
      case c3 => unfold maxLen; omega
      case c4 => omega
      case c5 => exact hsz
      intro A3 c3 w3 hown3 hn3 hgrow3
      have b3 : Below w.heap.size w w3 := below_grown hb hsz hown hgrow3
      have hown4 : w3.ownsRow w.heap.size 50 2 (.slice A3 (z + xn) c3) (z + xn) (rcells (acc ++ xs)) := by rw [rcells_app]; exact hown3
      clear hown3 hgrow3 hown hb HQ2 HQ3 p0
      go_wp2_with fail
      go_roundw
      case rel => exact ⟨k + 1, z + xn, A3, c3, acc ++ xs, by omega, by go_num, by first | rfl | simp, HL1, hzb, HE1, hown4, b3⟩
      case measure => simp [intOf]; omega
    · have HF : Hid (acc = (setsOf H).flatten) := Lib.hid (by rw [HE.out, List.take_of_length_le (by rw [setsOf_len, HN.out.1]; omega)])
      have HR := Lib.hid (Reads.of_own hown)
      clear HE
      go_wp2_with fail
      refine (starts_any acc z HLz.out A2 c2 wr HR.out (by omega)).mono ?_
      rintro e w5 ⟨A5, c5, n5, rfl, h5, s5, r5, g5⟩
      have HX : Hid (OutI (stL [0] (setsOf H).flatten) w (.returned (.slice A5 n5 c5)) w5) := Lib.hid ⟨A5, c5, n5, rfl, by rw [← HF.out]; exact h5, s5, by rw [← HF.out]; exact r5, hb.trans (g5.mono hsz)⟩
      clear h5 s5 r5 g5
      go_wp2_with fail
      go_ret
      exact HX.out
end Go.Proofs.Ythaageiflimnnaa
/- What the document's Parts returns. -/
namespace Go.Proofs.Ythaageiflimnnaa
open Go.RowKit Go.BigFrame
set_option linter.unusedVariables false
set_option linter.unusedSimpArgs false

def P2Rel (L : List (List Rg)) (ats : List Int) (z base gd : Nat) (W1 : World) (vo vi : Value) (wr : World) : Prop :=
  ∃ (i o : Nat) (A2 : Option Addr) (c2 : Nat) (HO : List Hd) (dl : List Bool), i ≤ z ∧ o ≤ 256 ∧ vo = .slice A2 o c2 ∧ vi = .int .i64 i ∧ Hid (dl.length = z) ∧ Hid (Done L ats i dl) ∧ Hid (PInv L ats i (setsOf HO)) ∧ Hid (∀ h ∈ HO, h.n ≤ z) ∧ Hid (wr.ownsRow base 4 1 (.slice (some ⟨gd, 0, none⟩) z z) z (bcells dl)) ∧ Hid (OwnS wr base A2 o c2 HO) ∧ Below base W1 wr
def P3Rel (L : List (List Rg)) (ats : List Int) (z base gd gi i : Nat) (dl0 : List Bool) (A2 : Option Addr) (o c2 : Nat) (HO : List Hd) (W1 : World) (vk : Value) (wr : World) : Prop :=
  ∃ (k : Nat) (il dl : List Bool), i ≤ k ∧ k ≤ z ∧ vk = .int .i64 k ∧ Hid (il.length = z) ∧ Hid (dl.length = z) ∧ Hid (Marks L ats i k il dl0 dl) ∧ Hid (wr.ownsRow base 4 1 (.slice (some ⟨gi, 0, none⟩) z z) z (bcells il)) ∧ Hid (wr.ownsRow base 4 1 (.slice (some ⟨gd, 0, none⟩) z z) z (bcells dl)) ∧ Hid (OwnS wr base A2 o c2 HO) ∧ Below base W1 wr
theorem setsOf_app' (HO : List Hd) (x : Hd) : setsOf (HO ++ [x]) = setsOf HO ++ [x.s] := by simp [setsOf]
theorem own_bool {w : World} {base g z : Nat} {dl : List Bool} (h : w.ownsRow base 4 1 (.slice (some ⟨g, 0, none⟩) z z) z (bcells dl)) {k : Nat} (hk : k < dl.length) : w.cell? ⟨g, k, none⟩ = some (.bool dl[k]) := by
  have q := h.cellAt k (by have := h.1; rw [bcells_len] at this; omega)
  rwa [show (bcells dl)[k]? = some (.bool dl[k]) by unfold bcells; rw [List.getElem?_map, List.getElem?_eq_getElem hk]; rfl] at q

set_option maxRecDepth 100000 in
set_option maxHeartbeats 8000000 in
theorem refParts_n (H : List Hd) (n : Nat) (A : Option Addr) (c : Nat) (w : World) (hN : Nest w w.heap.size A n H) (hn : n ≤ 1000) (hm : ∀ h ∈ H, h.n ≤ 1000) (ht : tot (setsOf H) ≤ 1000) :
    Calls Try.prog 12 #[.slice A n c] w (OutPa (setsOf H) w) := by
  obtain ⟨i0, hi0, hz0, hz1, hz2⟩ := info_parts info4
  obtain ⟨j0, hj0, hy0, hy1, hy2⟩ := info_parts info48
  have HN := Lib.hid hN
  have HM := Lib.hid hm
  have HT := Lib.hid ht
  clear hN hm ht
  go_enter Try.func12, Try.ntmps12
  go_wp2_with fail
  go_loopw [4] (fun i wr => ∃ (k : Nat), k ≤ n ∧ i = .int .i64 k ∧ Below w.heap.size w wr ∧ Hid (allB (setsOf (H.take k)) = true)) (fun i _ => n - (intOf i).toNat)
  case atStart => exact ⟨0, Nat.zero_le _, rfl, Below.refl _ _, Lib.hid rfl⟩
  case round =>
    obtain ⟨k, hk, rfl, hb, HG⟩ := hrel
    have hsz := hb.size
    by_cases hlt : k < n
    · have kl : k < H.length := by rw [HN.out.1]; exact hlt
      obtain ⟨b, o, rfl, hbb, p0, q1, q2, q3⟩ := (HN.out.below hb).at kl
      have HX := Lib.hid (refGood_n _ _ q1 H[k].a H[k].c wr (q3.more hsz) (by have := HM.out _ (List.getElem_mem kl); omega))
      have HT := Lib.hid (allB_take H k kl)
      have HF := Lib.hid (allB_at H k kl)
      generalize H[k] = x at *
      obtain ⟨xa, xn, xc, xs⟩ := x
      simp only [] at p0 HX HT HF
      clear q1 q2 q3
      cases hg : goodB xs
      · have HF' := Lib.hid (HF.out hg)
        rw [hg] at HX
        clear HT HF HG hg
        go_wp2_with fail
        refine HX.out.mono ?_
        rintro e w1 ⟨rfl, g1⟩
        go_wp2_with fail
        go_ret2
        exact .inl ⟨HF'.out, rfl, hb.trans (g1.mono hsz)⟩
      · have HT' : Hid (allB (setsOf (H.take (k + 1))) = true) := Lib.hid (by rw [HT.out, HG.out, hg]; rfl)
        rw [hg] at HX
        clear HT HF HG hg
        go_wp2_with fail
        refine HX.out.mono ?_
        rintro e w1 ⟨rfl, g1⟩
        have b1 := hb.trans (g1.mono hsz)
        clear HX g1
        go_wp2_with fail
        go_roundw
        case rel => exact ⟨k + 1, by omega, by go_num, b1, HT'⟩
        case measure => simp [intOf]; omega
    · have HAll : Hid (allB (setsOf H) = true) := Lib.hid (by
        have h := HG.out
        rwa [List.take_of_length_le (by rw [HN.out.1]; omega)] at h)
      have HGd := Lib.hid ((allB_iff _).1 HAll.out)
      clear HG
      go_wp2_with fail
      refine (starts_all H n A c wr (HN.out.on hb) (by omega) (by have := HT.out; omega)).mono ?_
      rintro e W1 ⟨A1, c1, z, rfl, h1, s1, r1, g1⟩
      have hz : z ≤ 2001 := by have h2 := stL_len (setsOf H).flatten [0]; rw [h1, flat_len] at h2; have := HT.out; simp at h2; omega
      have HZt : Hid (z ≤ 2 * tot (setsOf H) + 1) := Lib.hid (by have h2 := stL_len (setsOf H).flatten [0]; rw [h1, flat_len] at h2; simp at h2; omega)
      have HZ := Lib.hid h1
      have HR1 := Lib.hid r1
      have HS := Lib.hid (sts_of HGd.out)
      have bb_1 := hb.trans (g1.mono hsz)
      have HN1 := Lib.hid (HN.out.on bb_1)
      clear h1 s1 r1 g1 hb hsz hlt hk
      generalize stL [0] (setsOf H).flatten = ats at *
      go_wp2_with (at_make; refine wpList_make_full _ rfl _ _ 63 rfl W1.heap.size 4 i0 _ 1 Try.underlying63 hi0 hz0 hz1 .i64 .i64 z z z rfl rfl rfl rfl ?k1 ?k2 (Nat.le_refl _) ?_)
      case k1 => rw [hz2]; omega
      case k2 => unfold maxLen; omega
      first | (intro w3 hown3 hgrow3) | (rename_i w3 hown3 hgrow3)
      have HW : Hid (w3.ownsRow W1.heap.size 4 1 (.slice (some ⟨W1.heap.size, 0, none⟩) z z) z (bcells (List.replicate z false))) := Lib.hid (by
        have e : (madeCells #[Value.bool false] z).toList = bcells (List.replicate z false) := by rw [toList_madeCells_one]; simp [bcells]
        rw [← e]; exact hown3)
      have b3 : Below W1.heap.size W1 w3 := (Below.refl _ _).grown hgrow3 (Nat.le_refl _) (fun k hk => by cases hk)
      clear hown3 hgrow3
      go_wp2_with fail
      go_loopw [7, 8] (fun vo vi wr => P2Rel (setsOf H) ats z W1.heap.size W1.heap.size W1 vo vi wr) (fun _ i _ => z - (intOf i).toNat)
      case atStart => exact ⟨0, 0, none, 0, [], List.replicate z false, Nat.zero_le _, by omega, rfl, rfl, Lib.hid (by simp), Lib.hid (done0 _ _ _), Lib.hid (pinv0 _ _), Lib.hid (fun h hh => by simp at hh), HW, Lib.hid (OwnS.nil _ _), b3⟩
      case round =>
        clear HW b3
        obtain ⟨i, o, A2, c2, HO, dl, hi, ho, rfl, rfl, HLd, HD, HP, HOm, HDn, HOw, hb⟩ := hrel
        have hsz := hb.size
        by_cases hlt : i < z
        · have il : i < ats.length := by rw [HZ.out]; exact hlt
          have id : i < dl.length := by rw [HLd.out]; exact hlt
          have pd := own_bool HDn.out id
          cases hdi : dl[i]
          · rw [hdi] at pd
            have HDi := Lib.hid hdi
            clear hdi
            go_wp2_with (at_make; refine wpList_make_full _ rfl _ _ 63 rfl wr.heap.size 4 i0 _ 1 Try.underlying63 hi0 hz0 hz1 .i64 .i64 z z z rfl rfl rfl rfl ?k1 ?k2 (Nat.le_refl _) ?_)
            case k1 => rw [hz2]; omega
            case k2 => unfold maxLen; omega
            first | (intro w4 hown4 hgrow4) | (rename_i w4 hown4 hgrow4)
            have HW : Hid (w4.ownsRow wr.heap.size 4 1 (.slice (some ⟨wr.heap.size, 0, none⟩) z z) z (bcells (List.replicate z false))) := Lib.hid (by
              have e : (madeCells #[Value.bool false] z).toList = bcells (List.replicate z false) := by rw [toList_madeCells_one]; simp [bcells]
              rw [← e]; exact hown4)
            have g4 : Below wr.heap.size wr w4 := (Below.refl _ _).grown hgrow4 (Nat.le_refl _) (fun k hk => by cases hk)
            have HDn4 := Lib.hid (own_below HDn.out g4)
            have HOw4 := Lib.hid (HOw.out.on g4)
            have HIn4 := Lib.hid (own_base HW.out hsz)
            have b4 := hb.trans (g4.mono hsz)
            have hgd : W1.heap.size < wr.heap.size := World.block_lt_of_cell? _ _ pd
            generalize hgi : wr.heap.size = gi at *
            clear hown4 hgrow4 HW g4 hb hsz pd HDn HOw hgi
            go_wp2_with fail
            go_loopw [10] (fun vk wr => P3Rel (setsOf H) ats z W1.heap.size W1.heap.size gi i dl A2 o c2 HO W1 vk wr) (fun k _ => z - (intOf k).toNat)
            case atStart => exact ⟨i, List.replicate z false, dl, Nat.le_refl _, by omega, rfl, Lib.hid (by simp), HLd, Lib.hid (marks0 _ _ _ _ _), HIn4, HDn4, HOw4, b4⟩
            case round =>
              clear HIn4 HDn4 HOw4 b4
              obtain ⟨k, il', dl', hik, hkz, rfl, HLi, HLd', HMk, HIn, HDn, HOw, hb⟩ := hrel
              have hsz := hb.size
              by_cases hkl : k < z
              · have kl : k < ats.length := by rw [HZ.out]; exact hkl
                have HAt : Hid (∀ W : World, Below W1.heap.size W1 W → ∃ ba oa, A1 = some ⟨ba, oa, none⟩ ∧ W.cell? ⟨ba, oa + i, none⟩ = some (.int .i64 ats[i]) ∧ W.cell? ⟨ba, oa + k, none⟩ = some (.int .i64 ats[k])) := Lib.hid (fun W g => by
                  obtain ⟨b1, o1, e1, _, p1⟩ := (HR1.out.below g).int il
                  obtain ⟨b2, o2, e2, _, p2⟩ := (HR1.out.below g).int kl
                  rw [e1] at e2
                  injection e2 with e2
                  injection e2 with e3 e4
                  subst e3 e4
                  exact ⟨b1, o1, e1, p1, p2⟩)
                have HMs := Lib.hid (marks_step HMk.out hik (by rw [HLd'.out]; exact hkl) (by rw [HLd.out]; exact hkl))
                rw [getI il, getI kl] at HMs
                clear HMk
                generalize ats[i] = u at *
                generalize ats[k] = x at *
                go_wp2_with fail
                rename World => w6
                go_loopw [11, 12] (fun vs vq wr => ∃ q : Nat, q ≤ n ∧ vs = .bool (eqvB ((setsOf H).take q) u x) ∧ vq = .int .i64 q ∧ Below w6.heap.size w6 wr) (fun _ q _ => n - (intOf q).toNat)
                case atStart => exact ⟨0, Nat.zero_le _, rfl, rfl, Below.refl _ _⟩
                case round =>
                  obtain ⟨q, hq, rfl, rfl, hb6⟩ := hrel
                  have hsz6 := hb6.size
                  have hbw := hb.trans (hb6.mono hsz)
                  have fin : Hid (eqvB ((setsOf H).take q) u x = eqvB (setsOf H) u x ∨ (q < n ∧ eqvB ((setsOf H).take q) u x = true)) := Lib.hid (by
                    rcases Nat.lt_or_ge q n with h1 | h1
                    · cases h2 : eqvB ((setsOf H).take q) u x
                      · exact .inl (eqv_false h2).symm
                      · exact .inr ⟨h1, rfl⟩
                    · exact .inl (by rw [List.take_of_length_le (by rw [setsOf_len, HN.out.1]; omega)]))
                  by_cases hgo : q < n ∧ eqvB ((setsOf H).take q) u x = true
                  · obtain ⟨hql, hsm⟩ := hgo
                    obtain ⟨ba, oa, e1, pv, pj⟩ := HAt.out wr hbw
                    have ql : q < H.length := by rw [HN.out.1]; exact hql
                    have qL : q < (setsOf H).length := by rw [setsOf_len]; exact ql
                    have hsw := hbw.size
                    obtain ⟨bl, ol, e2, hbl, pl, q1, q2, q3⟩ := (HN1.out.below hbw).at ql
                    have hm2 := HM.out _ (List.getElem_mem ql)
                    have HNx := Lib.hid (eqv_next (setsOf H) q qL u x)
                    rw [show (setsOf H)[q] = H[q].s by simp [setsOf], hsm] at HNx
                    have HC_hcu := Lib.hid (fun (W : World) (g : Below wr.heap.size wr W) => refHas_n H[q].s H[q].n q1 H[q].a H[q].c u W (reads_on (q3.more hsw) g) (by omega))
                    have HC_hcx := Lib.hid (fun (W : World) (g : Below wr.heap.size wr W) => refHas_n H[q].s H[q].n q1 H[q].a H[q].c x W (reads_on (q3.more hsw) g) (by omega))
                    rw [hsm]
                    clear q1 q2 q3 qL hsm fin
                    generalize hasB H[q].s u = hu at *
                    generalize hasB H[q].s x = hx at *
                    generalize H[q] = y at *
                    obtain ⟨ya, yn, yc, ys⟩ := y
                    simp only [] at pl hm2 HC_hcu HC_hcx
                    have hcu : Hid (∀ W : World, W.cell? ⟨bl, ol + q, none⟩ = some (.slice ya yn yc) ∧ W.cell? ⟨ba, oa + i, none⟩ = some (.int .i64 u) ∧ W.cell? ⟨ba, oa + k, none⟩ = some (.int .i64 x) ∧ Below wr.heap.size wr W → Calls Try.prog 25 #[.slice ya yn yc, .int .i64 u] W fun e w' => e = .returned (.bool hu) ∧ (w'.cell? ⟨bl, ol + q, none⟩ = some (.slice ya yn yc) ∧ w'.cell? ⟨ba, oa + i, none⟩ = some (.int .i64 u) ∧ w'.cell? ⟨ba, oa + k, none⟩ = some (.int .i64 x) ∧ Below wr.heap.size wr w')) := Lib.hid (fun W hW => (HC_hcu.out W hW.2.2.2).mono (fun e w' h => ⟨h.1, kept_cell h.2 hW.1, kept_cell h.2 hW.2.1, kept_cell h.2 hW.2.2.1, hW.2.2.2.trans (h.2.mono hW.2.2.2.size)⟩))
                    have hcx : Hid (∀ W : World, W.cell? ⟨bl, ol + q, none⟩ = some (.slice ya yn yc) ∧ W.cell? ⟨ba, oa + i, none⟩ = some (.int .i64 u) ∧ W.cell? ⟨ba, oa + k, none⟩ = some (.int .i64 x) ∧ Below wr.heap.size wr W → Calls Try.prog 25 #[.slice ya yn yc, .int .i64 x] W fun e w' => e = .returned (.bool hx) ∧ (w'.cell? ⟨bl, ol + q, none⟩ = some (.slice ya yn yc) ∧ w'.cell? ⟨ba, oa + i, none⟩ = some (.int .i64 u) ∧ w'.cell? ⟨ba, oa + k, none⟩ = some (.int .i64 x) ∧ Below wr.heap.size wr w')) := Lib.hid (fun W hW => (HC_hcx.out W hW.2.2.2).mono (fun e w' h => ⟨h.1, kept_cell h.2 hW.1, kept_cell h.2 hW.2.1, kept_cell h.2 hW.2.2.1, hW.2.2.2.trans (h.2.mono hW.2.2.2.size)⟩))
                    have HF : Hid ((hu == hx) = eqvB (List.take (q + 1) (setsOf H)) u x) := Lib.hid (by rw [HNx.out]; simp)
                    have bR := Below.refl wr.heap.size wr
                    clear HC_hcu HC_hcx HNx
                    have hiz : i < z := hlt
                    subst e1 e2
                    go_wp2_with fail
                    go_region_held3 (fun w' => w'.cell? ⟨bl, ol + q, none⟩ = some (.slice ya yn yc) ∧ w'.cell? ⟨ba, oa + i, none⟩ = some (.int .i64 u) ∧ w'.cell? ⟨ba, oa + k, none⟩ = some (.int .i64 x) ∧ Below wr.heap.size wr w') (first | assumption | exact ⟨pl, pv, pj, bR⟩ | exact ⟨pl, pv, pj, Below.drew bR⟩ | exact ⟨by assumption, by assumption, by assumption, by assumption⟩ | exact ⟨by assumption, by assumption, by assumption, Below.drew (by assumption)⟩) (first | (go_at_call 25; with_reducible refine Calls.mono (hcu.out _ ?_) ?_; (first | assumption | exact ⟨pl, pv, pj, bR⟩ | exact ⟨pl, pv, pj, Below.drew bR⟩ | exact ⟨by assumption, by assumption, by assumption, by assumption⟩ | exact ⟨by assumption, by assumption, by assumption, Below.drew (by assumption)⟩); rintro e w13 ⟨rfl, r1, r2, r3, r4⟩) | (go_at_call 25; with_reducible refine Calls.mono (hcx.out _ ?_) ?_; (first | assumption | exact ⟨pl, pv, pj, bR⟩ | exact ⟨pl, pv, pj, Below.drew bR⟩ | exact ⟨by assumption, by assumption, by assumption, by assumption⟩ | exact ⟨by assumption, by assumption, by assumption, Below.drew (by assumption)⟩); rintro e w14 ⟨rfl, t1, t2, t3, t4⟩))
                    have b12 := hb6.trans (t4.mono hsz6)
                    clear hcu hcx pl pv pj bR r1 r2 r3 r4 t1 t2 t3 t4
                    rename_i hHeld
                    clear hHeld
                    go_wp2_with fail
                    go_roundw
                    case rel => exact ⟨q + 1, by omega, by rw [← HF.out], by go_num, b12⟩
                    case measure => simp [intOf]; omega
                  · have HE : Hid (eqvB ((setsOf H).take q) u x = eqvB (setsOf H) u x) := Lib.hid (fin.out.resolve_right hgo)
                    have hcond : (q < n ∧ eqvB ((setsOf H).take q) u x = false) ∨ q = n := by
                      rcases Nat.lt_or_ge q n with h1 | h1
                      · refine .inl ⟨h1, ?_⟩
                        cases h2 : eqvB ((setsOf H).take q) u x
                        · rfl
                        · exact absurd ⟨h1, h2⟩ hgo
                      · exact .inr (by omega)
                    have HIn6 := Lib.hid (own_below HIn.out hb6)
                    have HDn6 := Lib.hid (own_below HDn.out hb6)
                    have HOw6 := Lib.hid (HOw.out.on hb6)
                    clear fin hgo HIn HDn HOw hb6 hsz6 HAt
                    rw [HE.out] at hcond ⊢
                    clear HE
                    generalize eqvB (setsOf H) u x = sm at *
                    have kd : k < dl'.length := by rw [HLd'.out]; exact hkl
                    have ki : k < il'.length := by rw [HLi.out]; exact hkl
                    have HDn7 := Lib.hid (ownsRow_setCell_other HDn6.out (a := ⟨gi, k, none⟩) (by simp [Value.ownBlock]; omega) (.bool sm))
                    have f1 := HIn6.out.frozenAt k
                    have c1' := own_bool HIn6.out ki
                    have d2 := own_bool HDn7.out kd
                    have f2 := HDn7.out.frozenAt k
                    have HLi2 : Hid ((il'.set k sm).length = z) := Lib.hid (by rw [List.length_set]; exact HLi.out)
                    have HIn8 : Hid (∀ db : Bool, ((wr.setCell ⟨gi, k, none⟩ (.bool sm)).setCell ⟨W1.heap.size, k, none⟩ (.bool (db || sm))).ownsRow W1.heap.size 4 1 (.slice (some ⟨gi, 0, none⟩) z z) z (bcells (il'.set k sm))) := Lib.hid (fun db => by
                      have h := (HIn6.out.stored k (.bool sm)).1
                      rw [bcells_set] at h
                      exact ownsRow_setCell_other h (a := ⟨W1.heap.size, k, none⟩) (by simp [Value.ownBlock]; omega) _)
                    have HDn8 : Hid (∀ db : Bool, ((wr.setCell ⟨gi, k, none⟩ (.bool sm)).setCell ⟨W1.heap.size, k, none⟩ (.bool (db || sm))).ownsRow W1.heap.size 4 1 (.slice (some ⟨W1.heap.size, 0, none⟩) z z) z (bcells (dl'.set k (db || sm)))) := Lib.hid (fun db => by
                      have h := (HDn7.out.stored k (.bool (db || sm))).1
                      rw [bcells_set] at h
                      exact h)
                    have HOw8 : Hid (∀ db : Bool, OwnS ((wr.setCell ⟨gi, k, none⟩ (.bool sm)).setCell ⟨W1.heap.size, k, none⟩ (.bool (db || sm))) W1.heap.size A2 o c2 HO) := Lib.hid (fun db => (HOw6.out.set HIn6.out k _).set HDn7.out k _)
                    have HB8 : Hid (∀ db : Bool, Below W1.heap.size W1 ((wr.setCell ⟨gi, k, none⟩ (.bool sm)).setCell ⟨W1.heap.size, k, none⟩ (.bool (db || sm)))) := Lib.hid (fun db => (hbw.setCell (p := ⟨gi, k, none⟩) (show W1.heap.size ≤ gi by omega) _).setCell (p := ⟨W1.heap.size, k, none⟩) (Nat.le_refl _) _)
                    generalize il'[k] = ib at *
                    generalize dl'[k] = db at *
                    clear HDn7
                    rcases hcond with ⟨hql, hsm⟩ | hqn
                    · subst hsm
                      clear HIn6 HDn6 HOw6
                      cases db
                      · go_wp2_with fail
                        go_roundw
                        case rel => exact ⟨k + 1, il'.set k false, dl'.set k (false || false), by omega, by omega, by go_num, HLi2, Lib.hid (by rw [List.length_set]; exact HLd'.out), HMs, Lib.hid (HIn8.out false), Lib.hid (HDn8.out false), Lib.hid (HOw8.out false), HB8.out false⟩
                        case measure => simp [intOf]; omega
                      · go_wp2_with fail
                        go_roundw
                        case rel => exact ⟨k + 1, il'.set k false, dl'.set k (true || false), by omega, by omega, by go_num, HLi2, Lib.hid (by rw [List.length_set]; exact HLd'.out), HMs, Lib.hid (HIn8.out true), Lib.hid (HDn8.out true), Lib.hid (HOw8.out true), HB8.out true⟩
                        case measure => simp [intOf]; omega
                    · subst hqn
                      have hqq : decide ((q : Int) < (q : Int)) = false := decide_eq_false (by omega)
                      clear HIn6 HDn6 HOw6
                      cases db
                      · go_wp2_with fail
                        go_roundw
                        case rel => exact ⟨k + 1, il'.set k sm, dl'.set k (false || sm), by omega, by omega, by go_num, HLi2, Lib.hid (by rw [List.length_set]; exact HLd'.out), HMs, Lib.hid (HIn8.out false), Lib.hid (HDn8.out false), Lib.hid (HOw8.out false), HB8.out false⟩
                        case measure => simp [intOf]; omega
                      · go_wp2_with fail
                        go_roundw
                        case rel => exact ⟨k + 1, il'.set k sm, dl'.set k (true || sm), by omega, by omega, by go_num, HLi2, Lib.hid (by rw [List.length_set]; exact HLd'.out), HMs, Lib.hid (HIn8.out true), Lib.hid (HDn8.out true), Lib.hid (HOw8.out true), HB8.out true⟩
                        case measure => simp [intOf]; omega
              · have ek : k = z := by omega
                subst ek
                have HMe := Lib.hid (marks_end HGd.out HS.out HZ.out HLi.out HLd.out HLd'.out il id HD.out HDi.out HMk.out)
                have HNew := Lib.hid (fun (p : List Rg) (hp : IsSet p (fun v => Ek (setsOf H) v ats[i])) => new_step HS.out il id HD.out HP.out HDi.out hp)
                have HRa := Lib.hid ((HR1.out.below hb).more hsz)
                have HRb := Lib.hid (Reads.of_own HIn.out)
                have HBu := Lib.hid (build_own ats il' (fun v => Ek (setsOf H) v ats[i]) k HZ.out HLi.out A1 (some ⟨gi, 0, none⟩) c1 k wr (sts_places HS.out _) HMe.out.2 HRa.out HRb.out (by omega))
                clear HMk HRa HRb HD HP
                go_wp2_with fail
                refine HBu.out.mono ?_
                rintro e w7 ⟨s7, k7, A7, c7, rfl, hk7, hkz7, hi7, ho7, g7⟩
                have HDn7 := Lib.hid (own_below HDn.out g7)
                have HOw7 := Lib.hid (HOw.out.on g7)
                have b7 := hb.trans (g7.mono hsz)
                have hs7 := b7.size
                have HPn := Lib.hid (HNew.out s7 hi7)
                have HX7 : Hid ((⟨A7, k7, c7, s7⟩ : Hd).s.length = (⟨A7, k7, c7, s7⟩ : Hd).n ∧ w7.ownsRow W1.heap.size 50 2 (⟨A7, k7, c7, s7⟩ : Hd).v (⟨A7, k7, c7, s7⟩ : Hd).n (rcells (⟨A7, k7, c7, s7⟩ : Hd).s)) := Lib.hid ⟨hk7, own_base ho7 hsz⟩
                have hown7 := HOw7.out.out
                clear HBu HNew hi7 ho7 hk7 HIn HDn HOw hb hsz g7
                go_wp2_with (at_builtin; refine wpList_append_lies _ rfl _ _ 22 rfl W1.heap.size 48 j0 _ 1 24 Try.underlying22 hj0 hy0 hy1 hy2 rfl (by decide) _ _ _ rfl (hown7.alloc _) ⟨w7.heap.size, 0, none⟩ 1 1 [.slice A7 k7 c7] rfl rfl ?k1 ?k2 (by omega) ?k3 ?k4 ?k5 _ rfl ?_)
                case k1 => exact lit1 (by simp)
                case k2 => intro u hu; simp at hu; subst hu; rfl
                case k3 => unfold maxLen; omega
                case k4 => omega
                case k5 => simp; omega
                intro g9 cap9 w9 hown9 hgrow9 hat9 hlt9
                have HOw9 : Hid (OwnS w9 W1.heap.size (some ⟨g9, 0, none⟩) (o + 1) cap9 (HO ++ [⟨A7, k7, c7, s7⟩])) := Lib.hid ((HOw7.out.on (below_new w7 (.cells #[.slice A7 k7 c7] 48))).snoc ⟨HX7.out.1, HX7.out.2.alloc _⟩ hown9 hgrow9)
                have b9 : Below W1.heap.size W1 w9 := below_grown (b7.alloc hs7 _) (by simp; omega) (hown7.alloc _) hgrow9
                have HDn9 : Hid (w9.ownsRow W1.heap.size 4 1 (.slice (some ⟨W1.heap.size, 0, none⟩) k k) k (bcells dl')) := Lib.hid ((HDn7.out.alloc (.cells #[.slice A7 k7 c7] 48)).kept hgrow9 (ne_sym (own_unlike' (by decide) hown7 HDn7.out)))
                have HPn9 : Hid (PInv (setsOf H) ats (i + 1) (setsOf (HO ++ [⟨A7, k7, c7, s7⟩]))) := Lib.hid (by rw [setsOf_app']; exact HPn.out)
                have HOm9 : Hid (∀ h ∈ HO ++ [(⟨A7, k7, c7, s7⟩ : Hd)], h.n ≤ k) := Lib.hid (fun h hh => by
                  rcases List.mem_append.1 hh with hh | hh
                  · exact HOm.out h hh
                  · rw [List.mem_singleton] at hh; subst hh; exact hkz7)
                clear hown9 hgrow9 hat9 HX7 hown7 HPn HOw7 HDn7 b7 hs7
                by_cases h256 : o + 1 ≤ 256
                · have hdc : decide ((256 : Int) < (o : Int) + 1) = false := decide_eq_false (by omega)
                  go_wp2_with fail
                  go_roundw
                  case rel => exact ⟨i + 1, o + 1, some ⟨g9, 0, none⟩, cap9, HO ++ [⟨A7, k7, c7, s7⟩], dl', by omega, h256, by first | rfl | simp, by go_num, HLd', Lib.hid HMe.out.1, HPn9, HOm9, HDn9, HOw9, b9⟩
                  case measure => simp [intOf]; omega
                · have hdc : decide ((256 : Int) < (o : Int) + 1) = true := decide_eq_true (by omega)
                  have HMy : Hid (Many (Ek (setsOf H))) := Lib.hid (pinv_many HS.out HPn9.out (by rw [setsOf_len, HOw9.out.len]; omega))
                  have bbF := bb_1.trans (b9.mono bb_1.size)
                  clear HOw9 HDn9 HPn9 HOm9 b9
                  go_wp2_with fail
                  go_ret2
                  exact .inr (.inl ⟨HAll.out, HMy.out, rfl, bbF⟩)
          · rw [hdi] at pd
            have HX := Lib.hid (skip_step HS.out il id HD.out HP.out hdi)
            clear hdi HD HP
            go_wp2_with fail
            go_roundw
            case rel => exact ⟨i + 1, o, A2, c2, HO, dl, by omega, ho, rfl, by go_num, HLd, Lib.hid HX.out.1, Lib.hid HX.out.2, HOm, HDn, HOw, hb⟩
            case measure => simp [intOf]; omega
        · have e : i = z := by omega
          have HF : Hid (OutPa (setsOf H) w (.returned (.tuple #[.slice A2 o c2, .bool true])) wr) := Lib.hid (.inr (.inr ⟨HAll.out, setsOf HO, pinv_parts HS.out (by have h := HP.out; rwa [e, ← HZ.out] at h), by rw [setsOf_len, HOw.out.len]; exact ho, fun p hp => by
            obtain ⟨h, hh, rfl⟩ := List.mem_map.1 hp
            rw [(HOw.out.inn h hh).1]
            exact Nat.le_trans (HOm.out h hh) HZt.out, A2, c2, o, HO, rfl, rfl, HOw.out.nest.1, HOw.out.nest.2, bb_1.trans (hb.mono bb_1.size)⟩))
          clear e
          go_wp2_with fail
          go_ret2
          exact HF.out
end Go.Proofs.Ythaageiflimnnaa
