/- Parts cut in two by a set more. -/
import Derived.Test.YthaageiflimnnaaGrpH
import Derived.Test.YthaageiflimnnaaGrpF
import Derived.Test.YthaageiflimnnaaGrpC
import Derived.Deep.RegionHeld3
namespace Go.Proofs.Ythaageiflimnnaa
open Go.RowKit Go.BigFrame
set_option linter.unusedVariables false
set_option linter.unusedSimpArgs false

theorem prev_of {v : Int} (hv : Sc v) (h0 : 0 < v) : ∃ u, Sc u ∧ u < v ∧ nx u = v := by
  by_cases h : v = 57344
  · exact ⟨55295, by unfold Sc; omega, by omega, by unfold nx; rw [if_pos rfl, h]⟩
  · refine ⟨v - 1, by unfold Sc at *; omega, by omega, ?_⟩
    unfold nx
    unfold Sc at hv
    split <;> omega
theorem gd_lo : ∀ (s : List Rg) (m : Int), Gd m s → (s.map (·.1)).Nodup
  | [], _, _ => List.nodup_nil
  | r :: s, m, h => by
    rw [List.map_cons, List.nodup_cons]
    refine ⟨?_, gd_lo s _ h.2.2⟩
    intro hm
    obtain ⟨x, hx, e⟩ := List.mem_map.1 hm
    have h1 := (h.2.2.lo x hx).1
    have h2 := nx_gt r.2
    have h3 := h.2.1.2.2
    omega
/-- All others are at most one range more. -/
theorem not_len {s t : List Rg} (gs : Gd (-1) s) (ht : IsSet t (fun v => ¬ In s v)) : t.length ≤ s.length + 1 := by
  have hm : ∀ r ∈ t, 0 < r.1 → r.1 ∈ s.map (fun x => nx x.2) := by
    intro r hr h0
    have ho := (ht.1.lo r hr).2
    obtain ⟨u, hu, hlt, hnx⟩ := prev_of ho.1 h0
    have h1 := (gd_edge t _ ht.1 r hr).1 u hu hlt hnx
    have h2 : In s u := by
      by_cases h : In s u
      · exact h
      · exact absurd ((ht.2 u hu).2 h) h1
    obtain ⟨x, hx, h3, h4⟩ := h2
    have hin : ¬ In s r.1 := (ht.2 r.1 ho.1).1 ⟨r, hr, Int.le_refl _, ho.2.2⟩
    have hox := (gs.lo x hx).2
    rcases Int.lt_or_le u x.2 with h5 | h5
    · have h6 := nx_le hu hox.2.1 h5
      exact absurd ⟨x, hx, by omega, by omega⟩ hin
    · have e : u = x.2 := by omega
      exact List.mem_map.2 ⟨x, hx, by rw [← e, hnx]⟩
  cases t with
  | nil => simp
  | cons r t =>
    have hn := gd_lo _ _ ht.1.2.2
    have hs : t.map (·.1) ⊆ s.map (fun x => nx x.2) := by
      intro v hv
      obtain ⟨x, hx, rfl⟩ := List.mem_map.1 hv
      refine hm x (List.mem_cons_of_mem _ hx) ?_
      have h1 := (ht.1.2.2.lo x hx).1
      have h2 := nx_gt r.2
      have h3 := ht.1.2.1.2.2
      have h4 := ht.1.1
      omega
    have := hn.length_le_of_subset hs
    rw [List.length_map, List.length_map] at this
    simp only [List.length_cons]
    omega
/-- The wants so far: the parts of Q of which R tells. -/
structure Wants (Q : List (List Rg)) (R : List Rg → Prop) (Wl : List (List Rg)) : Prop where
  nd : Wl.Nodup
  mem : ∀ q, q ∈ Wl ↔ q ∈ Q ∧ R q
theorem Wants.conv {Q : List (List Rg)} {R R' : List Rg → Prop} {Wl : List (List Rg)} (h : Wants Q R Wl) (hR : ∀ q ∈ Q, R q ↔ R' q) : Wants Q R' Wl :=
  ⟨h.nd, fun q => (h.mem q).trans ⟨fun ⟨h1, h2⟩ => ⟨h1, (hR q h1).1 h2⟩, fun ⟨h1, h2⟩ => ⟨h1, (hR q h1).2 h2⟩⟩⟩
/-- A want that is something is a part. -/
theorem want_in {L P Q : List (List Rg)} {s : List Rg} (hP : Parts (Ek L) P) (hQ : Parts (Ek (L ++ [s])) Q) {p : List Rg} (hp : p ∈ P) (b : Bool) {t : List Rg} (ht : IsSet t (fun v => In p v ∧ inB s v = b)) : (t ≠ [] → t ∈ Q) ∧ ∀ q ∈ Q, In p (fst1 q) → inB s (fst1 q) = b → q = t := by
  have key : ∀ q ∈ Q, In p (fst1 q) → inB s (fst1 q) = b → q = t := by
    intro q hq h1 h2
    obtain ⟨k1, k2⟩ := fst1_in (hQ.gd q hq) (hQ.ne q hq)
    refine uniq q t _ _ (hQ.gd q hq) ht.1 fun v hv => ?_
    have e := ht.2 v hv
    simp only at e
    rw [hQ.cl q hq _ v k1 hv k2, ek_app, ek_one, e, hP.cl p hp _ v k1 hv h1, h2]
  refine ⟨fun hne => ?_, key⟩
  obtain ⟨k1, k2⟩ := fst1_in ht.1 hne
  obtain ⟨q, hq, hi⟩ := hQ.cov _ k1
  have h1 := (ht.2 _ k1).1 k2
  obtain ⟨j1, j2⟩ := fst1_in (hQ.gd q hq) (hQ.ne q hq)
  have h2 := (hQ.cl q hq _ _ k1 j1 hi).1 j2
  rw [ek_app, ek_one] at h2
  have h3 := key q hq ((hP.cl p hp _ _ k1 j1 h1.1).2 h2.1) (by rw [h2.2]; exact h1.2)
  rw [← h3]
  exact hq
theorem wants_step {L P Q : List (List Rg)} {s : List Rg} (hP : Parts (Ek L) P) (hQ : Parts (Ek (L ++ [s])) Q) {p : List Rg} (hp : p ∈ P) (b : Bool) {t : List Rg} (ht : IsSet t (fun v => In p v ∧ inB s v = b)) {R : List Rg → Prop} {Wl : List (List Rg)} (h : Wants Q R Wl) (hd : ∀ q ∈ Q, In p (fst1 q) → inB s (fst1 q) = b → ¬ R q) :
    (t = [] → Wants Q (fun q => R q ∨ (In p (fst1 q) ∧ inB s (fst1 q) = b)) Wl) ∧ (t ≠ [] → Wants Q (fun q => R q ∨ (In p (fst1 q) ∧ inB s (fst1 q) = b)) (Wl ++ [t])) := by
  obtain ⟨w1, w2⟩ := want_in hP hQ hp b ht
  constructor
  · intro e
    refine h.conv fun q hq => ⟨.inl, ?_⟩
    rintro (h1 | ⟨h1, h2⟩)
    · exact h1
    · have := w2 q hq h1 h2
      rw [e] at this
      exact absurd this (hQ.ne q hq)
  · intro hne
    have htQ := w1 hne
    obtain ⟨k1, k2⟩ := fst1_in ht.1 hne
    have h1 := (ht.2 _ k1).1 k2
    have hR := hd t htQ h1.1 h1.2
    constructor
    · rw [List.nodup_append]
      refine ⟨h.nd, by simp, ?_⟩
      intro a ha c hc e
      rw [List.mem_singleton] at hc
      subst hc
      subst e
      exact hR ((h.mem a).1 ha).2
    · intro q
      rw [List.mem_append, List.mem_singleton, h.mem]
      constructor
      · rintro (⟨h3, h4⟩ | rfl)
        · exact ⟨h3, .inl h4⟩
        · exact ⟨htQ, .inr h1⟩
      · rintro ⟨h3, h4 | ⟨h4, h5⟩⟩
        · exact .inl ⟨h3, h4⟩
        · exact .inr (w2 q h3 h4 h5)
/-- Parts up to the i-th, and h halves of it. -/
def RH (P : List (List Rg)) (s : List Rg) (i h : Nat) (q : List Rg) : Prop :=
  ((∃ j, j < i ∧ In (P.getD j []) (fst1 q)) ∨ (0 < h ∧ In (P.getD i []) (fst1 q) ∧ inB s (fst1 q) = true)) ∨ (1 < h ∧ In (P.getD i []) (fst1 q) ∧ inB s (fst1 q) = false)
theorem rh_start {Q : List (List Rg)} (P : List (List Rg)) (s : List Rg) : Wants Q (RH P s 0 0) [] := ⟨List.nodup_nil, fun q => by simp [RH]⟩
theorem rh_next {P Q : List (List Rg)} {s : List Rg} {i : Nat} {Wl : List (List Rg)} (h : Wants Q (RH P s i 2) Wl) : Wants Q (RH P s (i + 1) 0) Wl := by
  refine h.conv fun q _ => ?_
  unfold RH
  constructor
  · rintro ((⟨j, h1, h2⟩ | ⟨_, h1, _⟩) | ⟨_, h1, _⟩)
    · exact .inl (.inl ⟨j, by omega, h2⟩)
    · exact .inl (.inl ⟨i, by omega, h1⟩)
    · exact .inl (.inl ⟨i, by omega, h1⟩)
  · rintro ((⟨j, h1, h2⟩ | ⟨h1, _⟩) | ⟨h1, _⟩)
    · rcases Nat.lt_or_ge j i with h3 | h3
      · exact .inl (.inl ⟨j, h3, h2⟩)
      · have e : j = i := by omega
        subst e
        cases hb : inB s (fst1 q)
        · exact .inr ⟨by omega, h2, rfl⟩
        · exact .inl (.inr ⟨by omega, h2, rfl⟩)
    · omega
    · omega
theorem rh_in {L P Q : List (List Rg)} {s : List Rg} (hP : Parts (Ek L) P) (hQ : Parts (Ek (L ++ [s])) Q) {i : Nat} (hi : i < P.length) {t : List Rg} (ht : IsSet t (fun v => In (P.getD i []) v ∧ inB s v = true)) {Wl : List (List Rg)} (h : Wants Q (RH P s i 0) Wl) :
    (t = [] → Wants Q (RH P s i 1) Wl) ∧ (t ≠ [] → t ∈ Q ∧ Wants Q (RH P s i 1) (Wl ++ [t])) := by
  have hd : ∀ q ∈ Q, In (P.getD i []) (fst1 q) → inB s (fst1 q) = true → ¬ RH P s i 0 q := by
    rintro q hq h1 h2 ((⟨j, h3, h4⟩ | ⟨h3, _⟩) | ⟨h3, _⟩)
    · obtain ⟨c, _, _, hu⟩ := parts_once hP _ (fst1_in (hQ.gd q hq) (hQ.ne q hq)).1
      have e1 := hu j (by omega) h4
      have e2 := hu i hi h1
      omega
    · omega
    · omega
  have hc : ∀ q ∈ Q, (RH P s i 0 q ∨ (In (P.getD i []) (fst1 q) ∧ inB s (fst1 q) = true)) ↔ RH P s i 1 q := by
    intro q _
    unfold RH
    constructor
    · rintro (((h3 | ⟨h3, _⟩) | ⟨h3, _⟩) | h3)
      · exact .inl (.inl h3)
      · omega
      · omega
      · exact .inl (.inr ⟨by omega, h3⟩)
    · rintro ((h3 | ⟨_, h3⟩) | ⟨h3, _⟩)
      · exact .inl (.inl (.inl h3))
      · exact .inr h3
      · omega
  obtain ⟨a, b⟩ := wants_step hP hQ (getD_mem hi) true ht h hd
  exact ⟨fun e => (a e).conv hc, fun e => ⟨(want_in hP hQ (getD_mem hi) true ht).1 e, (b e).conv hc⟩⟩
theorem rh_out {L P Q : List (List Rg)} {s : List Rg} (hP : Parts (Ek L) P) (hQ : Parts (Ek (L ++ [s])) Q) {i : Nat} (hi : i < P.length) {t : List Rg} (ht : IsSet t (fun v => In (P.getD i []) v ∧ inB s v = false)) {Wl : List (List Rg)} (h : Wants Q (RH P s i 1) Wl) :
    (t = [] → Wants Q (RH P s i 2) Wl) ∧ (t ≠ [] → t ∈ Q ∧ Wants Q (RH P s i 2) (Wl ++ [t])) := by
  have hd : ∀ q ∈ Q, In (P.getD i []) (fst1 q) → inB s (fst1 q) = false → ¬ RH P s i 1 q := by
    rintro q hq h1 h2 ((⟨j, h3, h4⟩ | ⟨_, _, h3⟩) | ⟨h3, _⟩)
    · obtain ⟨c, _, _, hu⟩ := parts_once hP _ (fst1_in (hQ.gd q hq) (hQ.ne q hq)).1
      have e1 := hu j (by omega) h4
      have e2 := hu i hi h1
      omega
    · rw [h2] at h3; cases h3
    · omega
  have hc : ∀ q ∈ Q, (RH P s i 1 q ∨ (In (P.getD i []) (fst1 q) ∧ inB s (fst1 q) = false)) ↔ RH P s i 2 q := by
    intro q _
    unfold RH
    constructor
    · rintro (((h3 | ⟨_, h3⟩) | ⟨h3, _⟩) | h3)
      · exact .inl (.inl h3)
      · exact .inl (.inr ⟨by omega, h3⟩)
      · omega
      · exact .inr ⟨by omega, h3⟩
    · rintro ((h3 | ⟨_, h3⟩) | ⟨_, h3⟩)
      · exact .inl (.inl (.inl h3))
      · exact .inl (.inl (.inr ⟨by omega, h3⟩))
      · exact .inr h3
  obtain ⟨a, b⟩ := wants_step hP hQ (getD_mem hi) false ht h hd
  exact ⟨fun e => (a e).conv hc, fun e => ⟨(want_in hP hQ (getD_mem hi) false ht).1 e, (b e).conv hc⟩⟩
/-- At the end there are as many as parts. -/
theorem rh_end {L P Q : List (List Rg)} {s : List Rg} (hP : Parts (Ek L) P) (hQ : Parts (Ek (L ++ [s])) Q) {Wl : List (List Rg)} (h : Wants Q (RH P s P.length 0) Wl) : Wl.length = Q.length := by
  refine ((List.perm_ext_iff_of_nodup h.nd (parts_nodup hQ)).2 fun q => ?_).length_eq
  rw [h.mem]
  refine ⟨fun h => h.1, fun hq => ⟨hq, .inl (.inl ?_)⟩⟩
  obtain ⟨c, hc, hi, _⟩ := parts_once hP _ (fst1_in (hQ.gd q hq) (hQ.ne q hq)).1
  exact ⟨c, hc, hi⟩
theorem set_both {p s t : List Rg} (h : IsSet t (fun v => twP true (In p v) (In s v))) : IsSet t (fun v => In p v ∧ inB s v = true) := h.conv fun v _ => by
  unfold twP
  simp only [if_true]
  rw [inB_iff]
theorem set_less {p s n t : List Rg} (hn : IsSet n (fun v => ¬ In s v)) (h : IsSet t (fun v => twP true (In p v) (In n v))) : IsSet t (fun v => In p v ∧ inB s v = false) := h.conv fun v hv => by
  unfold twP
  simp only [if_true]
  rw [hn.2 v hv, ← Bool.not_eq_true, inB_iff]
/-- Is it among the first k? -/
def amB (Q : List (List Rg)) (t : List Rg) (k : Nat) : Bool := (Q.take k).any (fun q => eqL q t)
theorem am_next (Q : List (List Rg)) (t : List Rg) (k : Nat) (hk : k < Q.length) : amB Q t (k + 1) = (amB Q t k || eqL Q[k] t) := by
  unfold amB
  rw [List.take_succ_eq_append_getElem hk, List.any_append]
  simp
theorem am_end {Q : List (List Rg)} {t : List Rg} (h : t ∈ Q) {k : Nat} (hk : Q.length ≤ k) : amB Q t k = true := by
  unfold amB
  rw [List.take_of_length_le hk, List.any_eq_true]
  exact ⟨t, h, decide_eq_true rfl⟩
/-- A slice of sets of the call's own. -/
theorem nest_own {w : World} {base n c : Nat} {A : Option Addr} {H : List Hd} (h : w.ownsRow base 48 1 (.slice A n c) n (hcells H)) (hok : ∀ x ∈ H, x.ok w w.heap.size) : Nest w w.heap.size A n H := by
  have h1 := h.1
  rw [hcells_len, Nat.mul_one] at h1
  exact ⟨h1, Reads.of_own h, hok⟩
theorem hcells_app (H G : List Hd) : hcells (H ++ G) = hcells H ++ hcells G := by simp [hcells]
theorem setsOf_app (H G : List Hd) : setsOf (H ++ G) = setsOf H ++ setsOf G := by simp [setsOf]
theorem tot_app (L M : List (List Rg)) : tot (L ++ M) = tot L + tot M := by simp [tot]
end Go.Proofs.Ythaageiflimnnaa
/- The law of a set more, where sets are too many, too large, or may not be. -/
namespace Go.Proofs.Ythaageiflimnnaa.refineMore
open Go.ChangeShapes Go.WideShapes Go.ChangeAt Go.RowKit Go.BigFrame
set_option linter.unusedVariables false
set_option linter.unusedSimpArgs false

set_option maxRecDepth 100000 in
set_option maxHeartbeats 4000000 in
theorem walk_unfair (H : List Hd) (n : Nat) (A : Option Addr) (c : Nat) (s : List Rg) (m : Nat) (hs : s.length = m) (B : Option Addr) (d : Nat) (w : World) (hN : Nest w w.heap.size A n H) (hR : Reads w w.heap.size 2 B m (rcells s)) (hf : fairB H = false) :
    Calls Try.prog 5 #[.slice A n c, .slice B m d] w fun e w' => e = .returned (.bool true) ∧ Below w.heap.size w w' := by
  have HF := fun W h => fair_n H n A c W h
  rw [hf] at HF
  have HX := Lib.hid (HF _ hN)
  clear hN HF hf hR
  go_enter Try.func5, Try.ntmps5
  go_wp2_with fail
  refine HX.out.mono ?_
  rintro e w1 ⟨rfl, rfl⟩
  go_wp2_with fail
  refine (wakes_any _).mono ?_
  rintro e w2 ⟨rfl, g⟩
  go_wp2_with fail
  go_ret
  exact ⟨rfl, g⟩

set_option maxRecDepth 100000 in
set_option maxHeartbeats 4000000 in
theorem walk_many (H : List Hd) (n : Nat) (A : Option Addr) (c : Nat) (s : List Rg) (m : Nat) (hs : s.length = m) (B : Option Addr) (d : Nat) (w : World) (hN : Nest w w.heap.size A n H) (hR : Reads w w.heap.size 2 B m (rcells s)) (hf : fairB H = true) (hn : 5 < n) :
    Calls Try.prog 5 #[.slice A n c, .slice B m d] w fun e w' => e = .returned (.bool true) ∧ Below w.heap.size w w' := by
  have HF := fun W h => fair_n H n A c W h
  rw [hf] at HF
  have HX := Lib.hid (HF _ hN)
  clear hN HF hf hR
  go_enter Try.func5, Try.ntmps5
  go_wp2_with fail
  refine HX.out.mono ?_
  rintro e w1 ⟨rfl, rfl⟩
  go_wp2_with fail
  refine (wakes_any _).mono ?_
  rintro e w2 ⟨rfl, g⟩
  go_wp2_with fail
  go_ret
  exact ⟨rfl, g⟩

set_option maxRecDepth 100000 in
set_option maxHeartbeats 4000000 in
theorem walk_large (H : List Hd) (n : Nat) (A : Option Addr) (c : Nat) (s : List Rg) (m : Nat) (hs : s.length = m) (B : Option Addr) (d : Nat) (w : World) (hN : Nest w w.heap.size A n H) (hR : Reads w w.heap.size 2 B m (rcells s)) (hf : fairB H = true) (hn : n ≤ 5) (hm : 40 < m) :
    Calls Try.prog 5 #[.slice A n c, .slice B m d] w fun e w' => e = .returned (.bool true) ∧ Below w.heap.size w w' := by
  have HF := fun W h => fair_n H n A c W h
  rw [hf] at HF
  have HX := Lib.hid (HF _ hN)
  clear hN HF hf hR
  go_enter Try.func5, Try.ntmps5
  go_wp2_with fail
  refine HX.out.mono ?_
  rintro e w1 ⟨rfl, rfl⟩
  go_wp2_with fail
  refine (wakes_any _).mono ?_
  rintro e w2 ⟨rfl, g⟩
  go_wp2_with fail
  go_ret
  exact ⟨rfl, g⟩

set_option maxRecDepth 100000 in
set_option maxHeartbeats 4000000 in
theorem walk_bad (H : List Hd) (n : Nat) (A : Option Addr) (c : Nat) (s : List Rg) (m : Nat) (hs : s.length = m) (B : Option Addr) (d : Nat) (w : World) (hN : Nest w w.heap.size A n H) (hR : Reads w w.heap.size 2 B m (rcells s)) (hf : fairB H = true) (hn : n ≤ 5) (hm : m ≤ 40) (hw : allB (setsOf H) = false ∨ goodB s = false) :
    Calls Try.prog 5 #[.slice A n c, .slice B m d] w fun e w' => e = .returned (.bool true) ∧ Below w.heap.size w w' := by
  have HF := fun W h => fair_n H n A c W h
  rw [hf] at HF
  have HX := Lib.hid (HF _ hN)
  have HN := Lib.hid hN
  have HR := Lib.hid hR
  have HS := Lib.hid hs
  obtain ⟨f1, f2, _⟩ := fair_facts hf
  have HM := Lib.hid f2
  clear hN HF hf f1 f2 hR hs
  have HW := Lib.hid hw
  clear hw
  go_enter Try.func5, Try.ntmps5
  go_wp2_with fail
  refine HX.out.mono ?_
  rintro e w1 ⟨rfl, rfl⟩
  go_wp2_with fail
  go_loopw [5] (fun i wr => ∃ (k : Nat), k ≤ n ∧ i = .int .i64 k ∧ Below w.heap.size w wr ∧ Hid (allB (setsOf (H.take k)) = true)) (fun i _ => n - (intOf i).toNat)
  case atStart => exact ⟨0, Nat.zero_le _, rfl, Below.refl _ _, Lib.hid rfl⟩
  case round =>
    obtain ⟨k, hk, rfl, hb, HG⟩ := hrel
    have hsz := hb.size
    by_cases hlt : k < n
    · have kl : k < H.length := by rw [HN.out.1]; exact hlt
      obtain ⟨b, o, rfl, hbb, p0, q1, q2, q3⟩ := (HN.out.below hb).at kl
      have HX := Lib.hid (refGood_n _ _ q1 H[k].a H[k].c wr (q3.more hsz) (by have := HM.out _ (List.getElem_mem kl); omega))
      have HT := Lib.hid (allB_take H k kl)
      generalize H[k] = x at *
      obtain ⟨xa, xn, xc, xs⟩ := x
      simp only [] at p0 HX HT
      clear q1 q2 q3
      cases hg : goodB xs
      · rw [hg] at HX
        clear HT HG hg
        go_wp2_with fail
        refine HX.out.mono ?_
        rintro e w1 ⟨rfl, g1⟩
        go_wp2_with fail
        refine (wakes_any _).mono ?_
        rintro e w3 ⟨rfl, g3⟩
        go_wp2_with fail
        go_ret
        exact ⟨rfl, (hb.trans (g1.mono hsz)).trans (g3.mono (hb.trans (g1.mono hsz)).size)⟩
      · have HT' : Hid (allB (setsOf (H.take (k + 1))) = true) := Lib.hid (by rw [HT.out, HG.out, hg]; rfl)
        rw [hg] at HX
        clear HT HG hg
        go_wp2_with fail
        refine HX.out.mono ?_
        rintro e w1 ⟨rfl, g1⟩
        have b1 := hb.trans (g1.mono hsz)
        clear HX g1
        go_wp2_with fail
        go_roundw
        case rel => exact ⟨k + 1, by omega, by go_num, b1, HT'⟩
        case measure => simp [intOf]; omega
    · have hbad : goodB s = false := by
        rcases HW.out with h | h
        · have h2 := HG.out
          rw [List.take_of_length_le (by rw [HN.out.1]; omega), h] at h2
          cases h2
        · exact h
      have HB := Lib.hid (refGood_no HS.out (c := d) (reads_on HR.out hb) (by omega) hbad)
      clear hbad HG
      go_wp2_with fail
      refine HB.out.mono ?_
      rintro e w2 ⟨rfl, g2⟩
      have b2 := hb.trans (g2.mono hsz)
      go_wp2_with fail
      refine (wakes_any _).mono ?_
      rintro e w3 ⟨rfl, g3⟩
      go_wp2_with fail
      go_ret
      exact ⟨rfl, b2.trans (g3.mono b2.size)⟩
end Go.Proofs.Ythaageiflimnnaa.refineMore
/- The law of a set more, where all may be. -/
namespace Go.Proofs.Ythaageiflimnnaa.refineMore
open Go.ChangeShapes Go.WideShapes Go.ChangeAt Go.RowKit Go.BigFrame
set_option linter.unusedVariables false
set_option linter.unusedSimpArgs false
theorem field56 (A : Option Addr) (n c : Nat) (y : Bool) (W : World) : (Instr.field 56 (.agg #[.slice A n c, .bool y]) 0).run Try.prog W = .ok (.slice A n c) W := by kernel_rfl
theorem made48 (w : World) : (w.alloc (.cells #[] 48)).ownsRow w.heap.size 48 1 (.slice (some ⟨w.heap.size, 0, none⟩) 0 0) 0 [] := World.ownsRow_made (size := 1) w #[] 0 (Nat.le_refl _) (Nat.zero_le _) (by simp)
def N2Rel (P Q : List (List Rg)) (s : List Rg) (z : Nat) (w : World) (vn vi : Value) (wr : World) : Prop :=
  ∃ (k nn : Nat) (Wl : List (List Rg)), k ≤ z ∧ vn = .int .i64 nn ∧ vi = .int .i64 k ∧ Hid (nn = Wl.length) ∧ nn ≤ 2 * k ∧ Hid (Wants Q (RH P s k 0) Wl) ∧ Below w.heap.size w wr
def N3Rel (P Q : List (List Rg)) (s : List Rg) (k : Nat) (w : World) (vn vi : Value) (wr : World) : Prop :=
  ∃ (h nn : Nat) (Wl : List (List Rg)), h ≤ 2 ∧ vn = .int .i64 nn ∧ vi = .int .i64 h ∧ Hid (nn = Wl.length) ∧ nn ≤ 2 * k + h ∧ Hid (Wants Q (RH P s k h) Wl) ∧ Below w.heap.size w wr

set_option maxRecDepth 100000 in
set_option maxHeartbeats 8000000 in
theorem walk_good (H : List Hd) (n : Nat) (A : Option Addr) (c : Nat) (s : List Rg) (m : Nat) (hs : s.length = m) (B : Option Addr) (d : Nat) (w : World) (hA : Shp A n c) (hB : Shp B m d) (hN : Nest w w.heap.size A n H) (hR : Reads w w.heap.size 2 B m (rcells s)) (hf : fairB H = true) (hn : n ≤ 5) (hm : m ≤ 40) (hg : ∀ x ∈ setsOf H, Gd (-1) x) (gs : Gd (-1) s) :
    Calls Try.prog 5 #[.slice A n c, .slice B m d] w fun e w' => e = .returned (.bool true) ∧ Below w.heap.size w w' := by
  obtain ⟨i0, hi0, hz0, hz1, hz2⟩ := info_parts info48
  have HF := fun W h => fair_n H n A c W h
  rw [hf] at HF
  have HX := Lib.hid (HF _ hN)
  have HN := Lib.hid hN
  have HR := Lib.hid hR
  have HS := Lib.hid hs
  have HA := Lib.hid hA
  have HB := Lib.hid hB
  have HG := Lib.hid hg
  have HGs := Lib.hid gs
  obtain ⟨f1, f2, f3⟩ := fair_facts hf
  have HM := Lib.hid f2
  have HT : Hid (tot (setsOf H) ≤ 150) := Lib.hid (by rw [tot_lens hN]; exact f3)
  clear hN HF hf f1 f2 f3 hR hs hg gs hA hB
  go_enter Try.func5, Try.ntmps5
  go_wp2_with fail
  refine HX.out.mono ?_
  rintro e w1 ⟨rfl, rfl⟩
  go_wp2_with fail
  go_loopw [5] (fun i wr => ∃ (k : Nat), k ≤ n ∧ i = .int .i64 k ∧ Below w.heap.size w wr) (fun i _ => n - (intOf i).toNat)
  case atStart => exact ⟨0, Nat.zero_le _, rfl, Below.refl _ _⟩
  case round =>
    obtain ⟨k, hk, rfl, hb⟩ := hrel
    have hsz := hb.size
    by_cases hlt : k < n
    · have kl : k < H.length := by rw [HN.out.1]; exact hlt
      obtain ⟨b, o, rfl, hbb, p0, q1, q2, q3⟩ := (HN.out.below hb).at kl
      have HX := Lib.hid (refGood_yes q1 (c := H[k].c) (q3.more hsz) (by have := HM.out _ (List.getElem_mem kl); omega) (HG.out _ (List.mem_map.2 ⟨_, List.getElem_mem kl, rfl⟩)))
      generalize H[k] = x at *
      obtain ⟨xa, xn, xc, xs⟩ := x
      simp only [] at p0 HX
      clear q1 q2 q3
      go_wp2_with fail
      refine HX.out.mono ?_
      rintro e w1 ⟨rfl, g1⟩
      have b1 := hb.trans (g1.mono hsz)
      clear HX g1
      go_wp2_with fail
      go_roundw
      case rel => exact ⟨k + 1, by omega, by go_num, b1⟩
      case measure => first | (simp [intOf]; done) | (simp [intOf]; omega)
    · have HN_1 := Lib.hid (HN.out.on hb)
      have HR_1 := Lib.hid (reads_on HR.out hb)
      clear HX
      go_wp2_with fail
      rename World => W1
      refine (refGood_yes HS.out (c := d) HR_1.out (by omega) HGs.out).mono ?_
      rintro e W2 ⟨rfl, g⟩
      have HN_2 := Lib.hid (HN_1.out.on g)
      have HR_2 := Lib.hid (reads_on HR_1.out g)
      have bb_2 := hb.trans (g.mono hsz)
      clear HN_1 HR_1 hb hsz g HN HR
      go_wp2_with fail
      refine (parts_yes H n A c W2 HN_2.out (by omega) (fun h hh => by have := HM.out h hh; omega) (by have := HT.out; omega) HG.out (not_many (by rw [← HN_2.out.len]; omega))).mono ?_
      rintro e W3 ⟨P, A4, c4, z4, H4, rfl, hs4, hp4, hz4, hm4, hn4, hsh4, g⟩
      have HP4 : Hid (Parts (Ek (setsOf H)) (setsOf H4)) := Lib.hid (by rw [hs4]; exact hp4)
      have HM4 : Hid (∀ h ∈ H4, h.n ≤ 1000) := Lib.hid (fun h hh => by have h1 := hm4 h hh; have := HT.out; omega)
      have HN4_3 := Lib.hid hn4
      have HN_3 := Lib.hid (HN_2.out.on g)
      have HR_3 := Lib.hid (reads_on HR_2.out g)
      have bb_3 := bb_2.trans (g.mono bb_2.size)
      clear HN_2 HR_2 bb_2 g hs4 hp4 hm4 hn4 hsh4
      go_wp2_with (at_builtin; refine wpList_append_src rfl _ _ 22 rfl W3.heap.size 48 i0 _ 1 24 Try.underlying22 hi0 hz0 hz1 hz2 rfl (by decide) _ _ _ rfl (made48 W3) A n c W3.heap.size (hcells H) rfl HA.out.1 (HN_3.out.2.1.alloc (Nat.le_refl _) _) (hcells_one H) ?c3 ?c4 ?c5 ?_)
      case c3 => unfold maxLen; omega
      case c4 => omega
      case c5 => simp
      intro A5 c5 W4 hown4 hnil4 hgrow4
      have b4 : Below W3.heap.size W3 W4 := below_grown (w := W3.alloc _) (below_new _ _) (by simp) (made48 W3) hgrow4
      try simp only [Nat.zero_add, List.nil_append] at hown4
      try simp only [Nat.zero_add]
      have hs4 := b4.size
      clear hgrow4
      go_wp2_with (at_builtin; refine wpList_append_src rfl _ _ 22 rfl W3.heap.size 48 i0 _ 1 24 Try.underlying22 hi0 hz0 hz1 hz2 rfl (by decide) _ _ _ rfl (hown4.alloc _) (some ⟨W4.heap.size, 0, none⟩) 1 1 (W4.heap.size + 1) (hcells [⟨B, m, d, s⟩]) rfl (fun h => by cases h) (by have h := reads_litT W4 48 1 1 (hcells [⟨B, m, d, s⟩]) #[.slice B m d] rfl rfl; simpa using h) (hcells_one _) ?c3 ?c4 ?c5 ?_)
      case c3 => unfold maxLen; omega
      case c4 => omega
      case c5 => simp; omega
      intro A6 c6 W5 hown5 hnil5 hgrow5
      have b5 : Below W3.heap.size W3 W5 := below_grown (w := W4.alloc _) (b4.alloc hs4 _) (by simp; omega) (hown4.alloc _) hgrow5
      have HN_5 := Lib.hid (HN_3.out.on b5)
      have HR_5 := Lib.hid (reads_on HR_3.out b5)
      have HN4_5 := Lib.hid (HN4_3.out.on b5)
      have HNa : Hid (Nest W5 W5.heap.size A6 (n + 1) (H ++ [⟨B, m, d, s⟩])) := Lib.hid (nest_own (base := W3.heap.size) (c := c6) (by rw [hcells_app]; exact hown5) (fun x hx => by
        rcases List.mem_append.1 hx with hx | hx
        · exact HN_5.out.2.2 x hx
        · rw [List.mem_singleton] at hx; subst hx; exact ⟨HS.out, HB.out, HR_5.out⟩))
      have bb_5 := bb_3.trans (b5.mono bb_3.size)
      have HMa : Hid (∀ h ∈ H ++ [(⟨B, m, d, s⟩ : Hd)], h.n ≤ 1000) := Lib.hid (fun x hx => by
        rcases List.mem_append.1 hx with hx | hx
        · have := HM.out x hx; omega
        · rw [List.mem_singleton] at hx; subst hx; show m ≤ 1000; omega)
      have HSa : Hid (setsOf (H ++ [(⟨B, m, d, s⟩ : Hd)]) = setsOf H ++ [s]) := Lib.hid (by rw [setsOf_app]; rfl)
      have HTa : Hid (tot (setsOf H ++ [s]) ≤ 190) := Lib.hid (by have h1 := HT.out; have h2 := HS.out; rw [tot_app]; simp only [tot, List.map_cons, List.map_nil, List.sum_cons, List.sum_nil] at h1 ⊢; omega)
      clear hown4 hown5 hgrow5 b4 hs4 b5 HN_3 HR_3 HN4_3 bb_3
      go_wp2_with fail
      refine (parts_yes (H ++ [⟨B, m, d, s⟩]) (n + 1) A6 c6 W5 HNa.out (by omega) HMa.out (by rw [HSa.out]; have := HTa.out; omega) (by
        rw [HSa.out]
        intro x hx
        rcases List.mem_append.1 hx with hx | hx
        · exact HG.out x hx
        · rw [List.mem_singleton] at hx; subst hx; exact HGs.out) (not_many (by rw [← HNa.out.len]; omega))).mono ?_
      rintro e W6 ⟨P', A7, c7, z5, H5, rfl, hs5, hp5, hz5, hm5, hn5, hsh5, g⟩
      rw [HSa.out] at hp5 hm5
      have HP5 : Hid (Parts (Ek (setsOf H ++ [s])) (setsOf H5)) := Lib.hid (by rw [hs5]; exact hp5)
      have HM5 : Hid (∀ h ∈ H5, h.n ≤ 1000) := Lib.hid (fun h hh => by have h1 := hm5 h hh; have := HTa.out; omega)
      have HN5_6 := Lib.hid hn5
      have HN_6 := Lib.hid (HN_5.out.on g)
      have HR_6 := Lib.hid (reads_on HR_5.out g)
      have HN4_6 := Lib.hid (HN4_5.out.on g)
      have bb_6 := bb_5.trans (g.mono bb_5.size)
      clear HN_5 HR_5 HN4_5 bb_5 g hs5 hp5 hm5 hn5 hsh5 HNa HMa HSa HTa
      go_wp2_with (at_builtin; refine wpList_append_src rfl _ _ 22 rfl W6.heap.size 48 i0 _ 1 24 Try.underlying22 hi0 hz0 hz1 hz2 rfl (by decide) _ _ _ rfl (made48 W6) A n c W6.heap.size (hcells H) rfl HA.out.1 (HN_6.out.2.1.alloc (Nat.le_refl _) _) (hcells_one H) ?c3 ?c4 ?c5 ?_)
      case c3 => unfold maxLen; omega
      case c4 => omega
      case c5 => simp
      intro A8 c8 W7 hown7 hnil7 hgrow7
      have b7 : Below W6.heap.size W6 W7 := below_grown (w := W6.alloc _) (below_new _ _) (by simp) (made48 W6) hgrow7
      try simp only [Nat.zero_add, List.nil_append] at hown7
      try simp only [Nat.zero_add]
      have hs7 := b7.size
      clear hgrow7
      go_wp2_with (at_builtin; refine wpList_append_src rfl _ _ 22 rfl W6.heap.size 48 i0 _ 1 24 Try.underlying22 hi0 hz0 hz1 hz2 rfl (by decide) _ _ _ rfl hown7 A n c W6.heap.size (hcells H) rfl HA.out.1 (HN_6.out.2.1.below b7) (hcells_one H) ?c3 ?c4 ?c5 ?_)
      case c3 => unfold maxLen; omega
      case c4 => omega
      case c5 => exact hs7
      intro A9 c9 W8 hown8 hnil8 hgrow8
      have b8 : Below W6.heap.size W6 W8 := below_grown b7 hs7 hown7 hgrow8
      have HR_8 := Lib.hid (reads_on HR_6.out b8)
      have HN4_8 := Lib.hid (HN4_6.out.on b8)
      have HN5_8 := Lib.hid (HN5_6.out.on b8)
      have HNa : Hid (Nest W8 W8.heap.size A9 (n + n) (H ++ H)) := Lib.hid (nest_own (base := W6.heap.size) (c := c9) (by rw [hcells_app]; exact hown8) (fun x hx => by
        have hx' : x ∈ H := by rcases List.mem_append.1 hx with hx | hx <;> exact hx
        exact (HN_6.out.on b8).2.2 x hx'))
      have bb_8 := bb_6.trans (b8.mono bb_6.size)
      have HMa : Hid (∀ h ∈ H ++ H, h.n ≤ 1000) := Lib.hid (fun x hx => by
        have hx' : x ∈ H := by rcases List.mem_append.1 hx with hx | hx <;> exact hx
        have := HM.out x hx'; omega)
      have HSa : Hid (setsOf (H ++ H) = setsOf H ++ setsOf H) := Lib.hid (setsOf_app _ _)
      have HTa : Hid (tot (setsOf H ++ setsOf H) ≤ 300) := Lib.hid (by have h1 := HT.out; rw [tot_app]; omega)
      clear hown7 hown8 hgrow8 b7 hs7 b8 HN_6 HR_6 HN4_6 HN5_6 bb_6
      go_wp2_with fail
      refine (parts_yes (H ++ H) (n + n) A9 c9 W8 HNa.out (by omega) HMa.out (by rw [HSa.out]; have := HTa.out; omega) (by
        rw [HSa.out]
        intro x hx
        have hx' : x ∈ setsOf H := by rcases List.mem_append.1 hx with hx | hx <;> exact hx
        exact HG.out x hx') (by
        rw [HSa.out]
        intro hmany
        refine not_many (L := setsOf H) (by rw [setsOf_len, show H.length = n by have := HNa.out.1; rw [List.length_append] at this; omega]; omega) (hmany.conv fun u v _ _ => ek_dup _ u v))).mono ?_
      rintro e W9 ⟨P', A10, c10, z6, H6, rfl, hs6, hp6, hz6, hm6, hn6, hsh6, g⟩
      rw [HSa.out] at hp6 hm6
      have HE6 : Hid (setsOf H4 = setsOf H6) := Lib.hid (by rw [hs6]; exact HP4.out.uniq (fun u v _ _ => (ek_dup _ u v).symm) hp6)
      have HN6_9 := Lib.hid hn6
      have HR_9 := Lib.hid (reads_on HR_8.out g)
      have HN4_9 := Lib.hid (HN4_8.out.on g)
      have HN5_9 := Lib.hid (HN5_8.out.on g)
      have bb_9 := bb_8.trans (g.mono bb_8.size)
      clear HR_8 HN4_8 HN5_8 bb_8 g hs6 hp6 hm6 hn6 hsh6 HNa HMa HSa HTa
      go_wp2_with fail
      refine (keepSets_yes HN4_9.out HN6_9.out (by omega) (fun h hh => Nat.le_trans (HM4.out h hh) (by omega)) HE6.out).mono ?_
      rintro e W0 ⟨rfl, g⟩
      have HR_0 := Lib.hid (reads_on HR_9.out g)
      have HN4_0 := Lib.hid (HN4_9.out.on g)
      have HN5_0 := Lib.hid (HN5_9.out.on g)
      have bb_0 := bb_9.trans (g.mono bb_9.size)
      clear HR_9 HN4_9 HN5_9 HN6_9 HE6 bb_9 g
      go_wp2_with fail
      go_loopw [12, 13] (fun vn vi wr => N2Rel (setsOf H4) (setsOf H5) s z4 W0 vn vi wr) (fun _ i _ => z4 - (intOf i).toNat)
      case atStart => exact ⟨0, 0, [], Nat.zero_le _, rfl, rfl, Lib.hid rfl, by omega, Lib.hid (rh_start _ _), Below.refl _ _⟩
      case round =>
        clear hlt hk
        obtain ⟨k, nn, Wl, hk, rfl, rfl, hnn, hn2, HWl, hb⟩ := hrel
        have hsz := hb.size
        by_cases hlt : k < z4
        · have kl : k < H4.length := by rw [HN4_0.out.1]; exact hlt
          have kP : k < (setsOf H4).length := by rw [setsOf_len]; exact kl
          obtain ⟨bp, op, rfl, hbp, pp, q1, q2, q3⟩ := (HN4_0.out.below hb).at kl
          have hm1 := HM4.out _ (List.getElem_mem kl)
          have hgx : Gd (-1) H4[k].s := HP4.out.gd _ (List.mem_map.2 ⟨_, List.getElem_mem kl, rfl⟩)
          have e0 : (setsOf H4).getD k [] = H4[k].s := setsOf_get H4 k kl
          have HBo := Lib.hid (fun (W : World) (g : Below wr.heap.size wr W) (t : List Rg) (kt : Nat) (At : Option Addr) (ct : Nat) (h1 : t.length = kt) (h2 : kt ≤ 2000) (h3 : At = none → ct = 0) (h4 : Gd (-1) t) (h5 : Reads W W.heap.size 2 At kt (rcells t)) =>
            refBoth_good H4[k].s t H4[k].n kt q1 h1 H4[k].a At H4[k].c ct W q2.1 h3 (reads_on (q3.more hsz) g) h5 (by omega) h2 hgx h4)
          have HI1 : Hid (∀ t, IsSet t (fun v => twP true (In H4[k].s v) (In s v)) → IsSet t (fun v => In ((setsOf H4).getD k []) v ∧ inB s v = true)) := Lib.hid (fun t h => by rw [e0]; exact set_both h)
          have HI2 : Hid (∀ u t, IsSet u (fun v => ¬ In s v) → IsSet t (fun v => twP true (In H4[k].s v) (In u v)) → IsSet t (fun v => In ((setsOf H4).getD k []) v ∧ inB s v = false)) := Lib.hid (fun u t hu h => by rw [e0]; exact set_less hu h)
          clear q1 q2 q3 hgx e0
          generalize H4[k] = x at *
          obtain ⟨xa, xn, xc, xs⟩ := x
          simp only [] at pp hm1 HBo HI1 HI2
          have hf := field56
          go_wp2_with fail
          refine (HBo.out wr (Below.refl _ _) s m B d HS.out (by omega) HB.out.1 HGs.out (reads_on HR_0.out hb)).mono ?_
          rintro e w9 ⟨t1, k1, A1, c1, rfl, hk1, hkm1, hs1, hi1, hr1, g9⟩
          have HL1 := Lib.hid hk1
          have HT1 := Lib.hid (HI1.out t1 hi1)
          have HR1_9 := Lib.hid hr1
          have pp9 := kept_cell g9 pp
          have HBo9 := Lib.hid (fun (W : World) (g : Below w9.heap.size w9 W) => HBo.out W (g9.trans (g.mono g9.size)))
          have b9 := hb.trans (g9.mono hsz)
          clear hk1 hs1 hi1 hr1 pp HBo hb g9 HI1
          have pp := pp9
          clear pp9
          have hs9 := b9.size
          have HNot : Hid (∀ W : World, W.cell? ⟨bp, op + k, none⟩ = some (.slice xa xn xc) ∧ Below w9.heap.size w9 W → Calls Try.prog 27 #[.slice B m d] W fun e w' => ∃ (t : List Rg) (kt : Nat) (At : Option Addr) (ct : Nat), e = .returned (.agg #[.slice At kt ct, .bool true]) ∧ t.length = kt ∧ kt ≤ 2000 ∧ (At = none → ct = 0) ∧ IsSet t (fun v => ¬ In s v) ∧ Reads w' w'.heap.size 2 At kt (rcells t) ∧ (w'.cell? ⟨bp, op + k, none⟩ = some (.slice xa xn xc) ∧ Below w9.heap.size w9 w')) := Lib.hid (fun W hW =>
            (refNot_good s m HS.out B d W (reads_on HR_0.out (b9.trans (hW.2.mono hs9))) (by omega) HGs.out).mono (fun e w' ⟨t, kt, At, ct, h1, h2, h3, h4, h5, h6, h7⟩ => ⟨t, kt, At, ct, h1, h2, by have := not_len HGs.out h5; rw [h2, HS.out] at this; omega, h4.1, h5, h6, kept_cell h7 hW.1, hW.2.trans (h7.mono hW.2.size)⟩))
          have HBo2 : Hid (∀ (W : World) (t : List Rg) (kt : Nat) (At : Option Addr) (ct : Nat), t.length = kt → kt ≤ 2000 → (At = none → ct = 0) → IsSet t (fun v => ¬ In s v) → Reads W W.heap.size 2 At kt (rcells t) → (W.cell? ⟨bp, op + k, none⟩ = some (.slice xa xn xc) ∧ Below w9.heap.size w9 W) → Calls Try.prog 26 #[.slice xa xn xc, .slice At kt ct] W fun e w' => ∃ (t2 : List Rg) (k2 : Nat) (A2 : Option Addr) (c2 : Nat), e = .returned (.agg #[.slice A2 k2 c2, .bool true]) ∧ t2.length = k2 ∧ IsSet t2 (fun v => In ((setsOf H4).getD k []) v ∧ inB s v = false) ∧ Reads w' w'.heap.size 2 A2 k2 (rcells t2) ∧ (w'.cell? ⟨bp, op + k, none⟩ = some (.slice xa xn xc) ∧ Below w9.heap.size w9 w')) := Lib.hid (fun W t kt At ct h1 h2 h3 h4 h5 hW =>
            (HBo9.out W hW.2 t kt At ct h1 h2 h3 h4.1 h5).mono (fun e w' ⟨t2, k2, A2, c2, j1, j2, j3, j4, j5, j6, j7⟩ => ⟨t2, k2, A2, c2, j1, j2, HI2.out t t2 h4 j5, j6, kept_cell j7 hW.1, hW.2.trans (j7.mono hW.2.size)⟩))
          have bR := Below.refl w9.heap.size w9
          clear HBo9 HI2
          go_wp2_with fail
          go_region_held3 (fun w' => w'.cell? ⟨bp, op + k, none⟩ = some (.slice xa xn xc) ∧ Below w9.heap.size w9 w') (first | assumption | exact ⟨pp, bR⟩ | exact ⟨pp, Below.drew bR⟩ | exact ⟨by assumption, by assumption⟩ | exact ⟨by assumption, Below.drew (by assumption)⟩) (first | (go_at_call 27; with_reducible refine Calls.mono (HNot.out _ ?_) ?_; (first | assumption | exact ⟨pp, bR⟩ | exact ⟨pp, Below.drew bR⟩ | exact ⟨by assumption, by assumption⟩ | exact ⟨by assumption, Below.drew (by assumption)⟩); rintro e w10 ⟨tt, kt, At, ct, rfl, v1, v2, v3, v4, v5, v6, v7⟩) | (go_at_call 26; with_reducible refine Calls.mono (HBo2.out _ tt kt At ct v1 v2 v3 v4 ?_ ?_) ?_; exact v5; (first | assumption | exact ⟨pp, bR⟩ | exact ⟨pp, Below.drew bR⟩ | exact ⟨by assumption, by assumption⟩ | exact ⟨by assumption, Below.drew (by assumption)⟩); rintro e W10 ⟨t2, k2, A2, c2, rfl, y1, y2, y3, y4, y5⟩))
          have HL2 := Lib.hid y1
          have HT2 := Lib.hid y2
          have HR2_10 := Lib.hid y3
          have HR1_10 := Lib.hid (reads_on HR1_9.out y5)
          have b10 := b9.trans (y5.mono hs9)
          have HN5_10 := Lib.hid (HN5_0.out.on b10)
          clear HNot HBo2 y1 y2 y3 y4 y5 v1 v2 v3 v4 v5 v6 v7 bR pp HR1_9 b9 hs9
          rename_i hHeld
          clear hHeld
          go_wp2_with fail
          go_loopw [12, 16] (fun vn vh wr => N3Rel (setsOf H4) (setsOf H5) s k W10 vn vh wr) (fun _ h _ => 2 - (intOf h).toNat)
          case atStart => exact ⟨0, nn, Wl, by omega, rfl, rfl, hnn, by omega, HWl, Below.refl _ _⟩
          case round =>
            clear HWl hnn hn2 hsz
            obtain ⟨h, nn, Wl, hh, rfl, rfl, hnn, hn2, HWl, hb⟩ := hrel
            have hsz := hb.size
            rcases (by omega : h = 0 ∨ h = 1 ∨ h = 2) with eh | eh | eh
            · have HEh := Lib.hid eh
              rw [eh] at HWl
              have hh1 : decide ((h : Int) < 2) = true := decide_eq_true (by omega)
              have hh2 : ((h : Int) == 1) = false := by rw [beq_eq_false_iff_ne]; omega
              have hh3 : h < 2 := by omega
              clear eh
              have hw := rh_in HP4.out HP5.out kP HT1.out HWl.out
              have HW1 := Lib.hid hw.1
              have HW2 := Lib.hid hw.2
              clear hw HWl
              by_cases hk0 : k1 = 0
              · have HWn : Hid (Wants (setsOf H5) (RH (setsOf H4) s k 1) Wl) := Lib.hid (HW1.out (List.eq_nil_of_length_eq_zero (by rw [HL1.out, hk0])))
                have hke : ((k1 : Int) == 0) = true := by rw [hk0]; rfl
                clear HW1 HW2
                go_wp2_with fail
                go_roundw
                case rel => exact ⟨h + 1, nn, Wl, by omega, by go_num, by go_num, hnn, by omega, Lib.hid (by rw [HEh.out]; exact HWn.out), hb⟩
                case measure => first | (simp [intOf]; done) | (simp [intOf]; omega)
              · have hte : t1 ≠ [] := fun e => hk0 (by rw [← HL1.out, e]; rfl)
                have HMm := Lib.hid (HW2.out hte).1
                have HWn : Hid (Wants (setsOf H5) (RH (setsOf H4) s k 1) (Wl ++ [t1])) := Lib.hid (HW2.out hte).2
                have hke : ((k1 : Int) == 0) = false := by rw [beq_eq_false_iff_ne]; omega
                clear HW1 HW2 hte
                go_wp2_with fail
                rename World => w12
                go_loopw [18, 19] (fun vt vj wr => ∃ j : Nat, j ≤ z5 ∧ vt = .bool (amB (setsOf H5) t1 j) ∧ vj = .int .i64 j ∧ Below W10.heap.size W10 wr) (fun _ j _ => z5 - (intOf j).toNat)
                case atStart => exact ⟨0, Nat.zero_le _, rfl, rfl, hb⟩
                case round =>
                  clear hb hsz
                  obtain ⟨j, hj, rfl, rfl, hb⟩ := hrel
                  have hsz := hb.size
                  by_cases hjl : j < z5
                  · have jl : j < H5.length := by rw [HN5_10.out.1]; exact hjl
                    have jQ : j < (setsOf H5).length := by rw [setsOf_len]; exact jl
                    have HAm := Lib.hid (am_next (setsOf H5) t1 j jQ)
                    rw [show (setsOf H5)[j] = H5[j].s by simp [setsOf]] at HAm
                    obtain ⟨b5, o5, rfl, hb5, p5, q1, q2, q3⟩ := (HN5_10.out.below hb).at jl
                    have HK := Lib.hid (keep_n H5[j].s t1 H5[j].n k1 q1 HL1.out H5[j].a A1 H5[j].c c1 wr (q3.more hsz) (reads_on HR1_10.out hb) (by have := HM5.out _ (List.getElem_mem jl); omega))
                    clear q1 q2 q3 jQ
                    generalize eqL H5[j].s t1 = ev at *
                    generalize H5[j] = y at *
                    obtain ⟨ya, yn, yc, ys⟩ := y
                    simp only [] at p5 HK
                    generalize amB (setsOf H5) t1 j = am at *
                    cases am
                    · have HF : Hid (ev = amB (setsOf H5) t1 (j + 1)) := Lib.hid (by rw [HAm.out]; simp)
                      clear HAm
                      go_wp2_with fail
                      refine HK.out.mono ?_
                      rintro e w13 ⟨rfl, g13⟩
                      have b13 := hb.trans (g13.mono hsz)
                      clear HK p5 g13 hb
                      go_wp2_with fail
                      go_roundw
                      case rel => exact ⟨j + 1, by omega, by rw [← HF.out], by go_num, b13⟩
                      case measure => first | (simp [intOf]; done) | (simp [intOf]; omega)
                    · have HF : Hid (true = amB (setsOf H5) t1 (j + 1)) := Lib.hid (by rw [HAm.out]; simp)
                      clear HAm HK
                      go_wp2_with fail
                      go_roundw
                      case rel => exact ⟨j + 1, by omega, by rw [← HF.out], by go_num, hb⟩
                      case measure => first | (simp [intOf]; done) | (simp [intOf]; omega)
                  · have HF : Hid (amB (setsOf H5) t1 j = true) := Lib.hid (am_end HMm.out (by rw [setsOf_len, HN5_10.out.1]; omega))
                    rw [HF.out]
                    clear HF HMm
                    go_wp2_with fail
                    go_roundw
                    case rel => exact ⟨h + 1, nn + 1, Wl ++ [t1], by omega, by go_num, by go_num, Lib.hid (by rw [List.length_append, ← hnn.out]; rfl), by omega, Lib.hid (by rw [HEh.out]; exact HWn.out), hb⟩
                    case measure => first | (simp [intOf]; done) | (simp [intOf]; omega)
            · have HEh := Lib.hid eh
              rw [eh] at HWl
              have hh1 : decide ((h : Int) < 2) = true := decide_eq_true (by omega)
              have hh2 : ((h : Int) == 1) = true := by rw [beq_iff_eq]; omega
              have hh3 : h < 2 := by omega
              clear eh
              have hw := rh_out HP4.out HP5.out kP HT2.out HWl.out
              have HW1 := Lib.hid hw.1
              have HW2 := Lib.hid hw.2
              clear hw HWl
              by_cases hk0 : k2 = 0
              · have HWn : Hid (Wants (setsOf H5) (RH (setsOf H4) s k 2) Wl) := Lib.hid (HW1.out (List.eq_nil_of_length_eq_zero (by rw [HL2.out, hk0])))
                have hke : ((k2 : Int) == 0) = true := by rw [hk0]; rfl
                clear HW1 HW2
                go_wp2_with fail
                go_roundw
                case rel => exact ⟨h + 1, nn, Wl, by omega, by go_num, by go_num, hnn, by omega, Lib.hid (by rw [HEh.out]; exact HWn.out), hb⟩
                case measure => first | (simp [intOf]; done) | (simp [intOf]; omega)
              · have hte : t2 ≠ [] := fun e => hk0 (by rw [← HL2.out, e]; rfl)
                have HMm := Lib.hid (HW2.out hte).1
                have HWn : Hid (Wants (setsOf H5) (RH (setsOf H4) s k 2) (Wl ++ [t2])) := Lib.hid (HW2.out hte).2
                have hke : ((k2 : Int) == 0) = false := by rw [beq_eq_false_iff_ne]; omega
                clear HW1 HW2 hte
                go_wp2_with fail
                rename World => w12
                go_loopw [18, 19] (fun vt vj wr => ∃ j : Nat, j ≤ z5 ∧ vt = .bool (amB (setsOf H5) t2 j) ∧ vj = .int .i64 j ∧ Below W10.heap.size W10 wr) (fun _ j _ => z5 - (intOf j).toNat)
                case atStart => exact ⟨0, Nat.zero_le _, rfl, rfl, hb⟩
                case round =>
                  clear hb hsz
                  obtain ⟨j, hj, rfl, rfl, hb⟩ := hrel
                  have hsz := hb.size
                  by_cases hjl : j < z5
                  · have jl : j < H5.length := by rw [HN5_10.out.1]; exact hjl
                    have jQ : j < (setsOf H5).length := by rw [setsOf_len]; exact jl
                    have HAm := Lib.hid (am_next (setsOf H5) t2 j jQ)
                    rw [show (setsOf H5)[j] = H5[j].s by simp [setsOf]] at HAm
                    obtain ⟨b5, o5, rfl, hb5, p5, q1, q2, q3⟩ := (HN5_10.out.below hb).at jl
                    have HK := Lib.hid (keep_n H5[j].s t2 H5[j].n k2 q1 HL2.out H5[j].a A2 H5[j].c c2 wr (q3.more hsz) (reads_on HR2_10.out hb) (by have := HM5.out _ (List.getElem_mem jl); omega))
                    clear q1 q2 q3 jQ
                    generalize eqL H5[j].s t2 = ev at *
                    generalize H5[j] = y at *
                    obtain ⟨ya, yn, yc, ys⟩ := y
                    simp only [] at p5 HK
                    generalize amB (setsOf H5) t2 j = am at *
                    cases am
                    · have HF : Hid (ev = amB (setsOf H5) t2 (j + 1)) := Lib.hid (by rw [HAm.out]; simp)
                      clear HAm
                      go_wp2_with fail
                      refine HK.out.mono ?_
                      rintro e w13 ⟨rfl, g13⟩
                      have b13 := hb.trans (g13.mono hsz)
                      clear HK p5 g13 hb
                      go_wp2_with fail
                      go_roundw
                      case rel => exact ⟨j + 1, by omega, by rw [← HF.out], by go_num, b13⟩
                      case measure => first | (simp [intOf]; done) | (simp [intOf]; omega)
                    · have HF : Hid (true = amB (setsOf H5) t2 (j + 1)) := Lib.hid (by rw [HAm.out]; simp)
                      clear HAm HK
                      go_wp2_with fail
                      go_roundw
                      case rel => exact ⟨j + 1, by omega, by rw [← HF.out], by go_num, hb⟩
                      case measure => first | (simp [intOf]; done) | (simp [intOf]; omega)
                  · have HF : Hid (amB (setsOf H5) t2 j = true) := Lib.hid (am_end HMm.out (by rw [setsOf_len, HN5_10.out.1]; omega))
                    rw [HF.out]
                    clear HF HMm
                    go_wp2_with fail
                    go_roundw
                    case rel => exact ⟨h + 1, nn + 1, Wl ++ [t2], by omega, by go_num, by go_num, Lib.hid (by rw [List.length_append, ← hnn.out]; rfl), by omega, Lib.hid (by rw [HEh.out]; exact HWn.out), hb⟩
                    case measure => first | (simp [intOf]; done) | (simp [intOf]; omega)
            · have hh1 : decide ((h : Int) < 2) = false := decide_eq_false (by omega)
              rw [eh] at HWl
              have hn2' : nn ≤ 2 * (k + 1) := by omega
              clear eh
              have HWn := Lib.hid (rh_next HWl.out)
              clear HWl
              go_wp2_with fail
              go_roundw
              case rel => exact ⟨k + 1, nn, Wl, by omega, by go_num, by go_num, hnn, hn2', HWn, b10.trans (hb.mono b10.size)⟩
              case measure => first | (simp [intOf]; done) | (simp [intOf]; omega)
        · have e1 : k = (setsOf H4).length := by rw [setsOf_len, HN4_0.out.1]; omega
          have e2 : nn = z5 := by
            rw [hnn.out, HN5_0.out.len]
            have h1 := HWl.out
            rw [e1] at h1
            exact rh_end HP4.out HP5.out h1
          subst e2
          have hee : ((nn : Int) == (nn : Int)) = true := by simp
          clear HWl e1
          go_wp2_with fail
          refine (wakes_any _).mono ?_
          rintro e w12 ⟨rfl, g12⟩
          go_wp2_with fail
          go_ret
          exact ⟨rfl, bb_0.trans ((hb.trans (g12.mono hsz)).mono bb_0.size)⟩
end Go.Proofs.Ythaageiflimnnaa.refineMore
