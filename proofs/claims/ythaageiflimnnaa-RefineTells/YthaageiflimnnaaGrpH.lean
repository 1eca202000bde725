/- Fair, PLaw: joined. -/
import Derived.Test.YthaageiflimnnaaGrpB
import Derived.Test.YthaageiflimnnaaGrpF
import Derived.Test.YthaageiflimnnaaGrpC
/- Whether sets are not too many, nor too large. -/
namespace Go.Proofs.Ythaageiflimnnaa
open Go.RowKit Go.BigFrame
set_option linter.unusedVariables false
set_option linter.unusedSimpArgs false

def fairA (acc : Nat) : List Nat → Bool
  | [] => true
  | x :: t => if 150 < acc + (1 + min x 200) then false else fairA (acc + (1 + min x 200)) t
def lens (H : List Hd) : List Nat := H.map (·.n)
def fairB (H : List Hd) : Bool := fairA 0 (lens H)
theorem fair_sum : ∀ (l : List Nat) (acc : Nat), acc ≤ 150 → fairA acc l = true → acc + l.length + l.sum ≤ 150
  | [], acc, h, _ => by simpa using h
  | x :: t, acc, h, hf => by
    unfold fairA at hf
    split at hf
    · cases hf
    · rename_i hn
      have := fair_sum t _ (by omega) hf
      simp only [List.length_cons, List.sum_cons]
      omega
theorem mem_le_sum : ∀ (l : List Nat) (x : Nat), x ∈ l → x ≤ l.sum
  | y :: l, x, h => by
    rw [List.sum_cons]
    rcases List.mem_cons.1 h with rfl | h
    · omega
    · have := mem_le_sum l x h; omega
theorem fair_facts {H : List Hd} (h : fairB H = true) : H.length ≤ 150 ∧ (∀ x ∈ H, x.n ≤ 150) ∧ (lens H).sum ≤ 150 := by
  have h1 := fair_sum (lens H) 0 (by omega) h
  have h2 : (lens H).length = H.length := by simp [lens]
  refine ⟨by omega, fun x hx => ?_, by omega⟩
  have := mem_le_sum (lens H) x.n (List.mem_map.2 ⟨x, hx, rfl⟩)
  omega
set_option maxHeartbeats 1000000 in
theorem fair_n (H : List Hd) (n : Nat) (A : Option Addr) (c : Nat) (w : World) (hN : Nest w w.heap.size A n H) :
    Calls Try.prog 8 #[.slice A n c] w fun e w' => e = .returned (.bool (fairB H)) ∧ w = w' := by
  have HN := Lib.hid hN
  clear hN
  go_enter Try.func8, Try.ntmps8
  go_wp2_with fail
  go_loopw [3, 4] (fun v i wr => ∃ (k acc : Nat), k ≤ n ∧ k ≤ acc ∧ acc ≤ 150 ∧ i = .int .i64 k ∧ v = .int .i64 acc ∧ wr = w ∧ Hid (fairB H = fairA acc ((lens H).drop k))) (fun _ i _ => n - (intOf i).toNat)
  case atStart => exact ⟨0, 0, Nat.zero_le _, Nat.le_refl _, by omega, rfl, rfl, rfl, Lib.hid rfl⟩
  case round =>
    obtain ⟨k, acc, hk, hka, ha, rfl, rfl, rfl, HE⟩ := hrel
    by_cases hlt : k < n
    · have kl : k < H.length := by rw [HN.out.1]; exact hlt
      obtain ⟨b, o, rfl, hbb, p0, _⟩ := HN.out.at kl
      have HD : Hid ((lens H).drop k = H[k].n :: (lens H).drop (k + 1)) := Lib.hid (by
        rw [List.drop_eq_getElem_cons (by simp [lens]; exact kl)]; simp [lens])
      generalize H[k] = x at *
      obtain ⟨xa, xn, xc, xs⟩ := x
      simp only [] at p0 HD
      obtain ⟨m, hm⟩ : ∃ m : Nat, m = min xn 200 := ⟨_, rfl⟩
      have hmi : min (xn : Int) 200 = (m : Int) := by omega
      have HE1 : Hid (fairB H = if 150 < acc + (1 + m) then false else fairA (acc + (1 + m)) ((lens H).drop (k + 1))) := Lib.hid (by rw [HE.out, HD.out, hm]; rfl)
      have hm2 : m ≤ 200 := by omega
      clear HE HD hm
      by_cases hbig : 150 < acc + (1 + m)
      · have HF : Hid (fairB H = false) := Lib.hid (by rw [HE1.out, if_pos hbig])
        clear HE1
        have hb1 : decide ((150 : Int) < (acc : Int) + (1 + (m : Int))) = true := decide_eq_true (by omega)
        go_wp2_with fail
        trace_state
        go_ret
        exact ⟨ret_bool HF.out.symm, (by first | rfl | trivial)⟩
      · have HF : Hid (fairB H = fairA (acc + (1 + m)) ((lens H).drop (k + 1))) := Lib.hid (by rw [HE1.out, if_neg hbig])
        have hb1 : decide ((150 : Int) < (acc : Int) + (1 + (m : Int))) = false := decide_eq_false (by omega)
        clear HE1
        go_wp2_with fail
        trace_state
        go_roundw
        case rel => exact ⟨k + 1, acc + (1 + m), by omega, by omega, by omega, by go_num, by go_num, (by first | rfl | trivial), HF⟩
        case measure => simp [intOf]; omega
    · have HF : Hid (fairB H = true) := Lib.hid (by
        rw [HE.out, List.drop_of_length_le (by simp [lens]; rw [HN.out.1]; omega)]; rfl)
      go_wp2_with fail
      go_ret
      exact ⟨ret_bool HF.out.symm, (by first | rfl | trivial)⟩
end Go.Proofs.Ythaageiflimnnaa
/- What the law of parts asks, in plain mathematics. -/
namespace Go.Proofs.Ythaageiflimnnaa
open Go.RowKit Go.BigFrame
set_option linter.unusedVariables false
set_option linter.unusedSimpArgs false

theorem cnt_nn (p : Int → Bool) : ∀ N, 0 ≤ cnt N p
  | 0 => Int.le_refl _
  | N + 1 => by
    have := cnt_nn p N
    have h : 0 ≤ b01 (p N) := by cases p N <;> decide
    unfold cnt
    omega
theorem size_nn {s : List Rg} (h : Gd (-1) s) : 0 ≤ sizeL s := by
  obtain ⟨N, hN⟩ : ∃ N : Nat, N = 1114112 := ⟨_, rfl⟩
  rw [size_cnt hN s _ h]
  exact cnt_nn _ _
theorem sumS_app (P Q : List (List Rg)) : sumS (P ++ Q) = sumS P + sumS Q := by simp [sumS]
theorem sumS_nn : ∀ (P : List (List Rg)), (∀ p ∈ P, Gd (-1) p) → 0 ≤ sumS P
  | [], _ => by simp [sumS]
  | p :: P, h => by
    have h1 := size_nn (h p (List.mem_cons_self ..))
    have h2 := sumS_nn P fun q hq => h q (List.mem_cons_of_mem _ hq)
    have e : sumS (p :: P) = sizeL p + sumS P := by simp [sumS]
    omega
theorem sum_take {E : Int → Int → Prop} {P : List (List Rg)} (h : Parts E P) (k : Nat) : 0 ≤ sumS (P.take k) ∧ sumS (P.take k) ≤ 1112064 := by
  have h1 := sumS_nn (P.take k) fun p hp => h.gd p (List.mem_of_mem_take hp)
  have h2 := sumS_nn (P.drop k) fun p hp => h.gd p (List.mem_of_mem_drop hp)
  have h3 := parts_sum h
  rw [← List.take_append_drop k P, sumS_app] at h3
  omega
theorem sum_next (P : List (List Rg)) (k : Nat) (hk : k < P.length) : sumS (P.take (k + 1)) = sumS (P.take k) + sizeL P[k] := by
  rw [List.take_succ_eq_append_getElem hk, sumS_app]
  simp [sumS]
/-- The least scalar of the part ahead. -/
def lastF (P : List (List Rg)) : Nat → Int
  | 0 => -1
  | k + 1 => fst1 (P.getD k [])
theorem last_lt {E : Int → Int → Prop} {P : List (List Rg)} (h : Parts E P) (k : Nat) (hk : k < P.length) : lastF P k < fst1 P[k] := by
  cases k with
  | zero =>
    have := (fst1_in (h.gd _ (List.getElem_mem hk)) (h.ne _ (List.getElem_mem hk))).1
    unfold Sc at this
    show -1 < _
    omega
  | succ k =>
    show fst1 (P.getD k []) < _
    rw [getD_eq (by omega)]
    exact List.pairwise_iff_getElem.1 h.inc k (k + 1) (by omega) hk (by omega)
/-- Have the same sets two scalars? -/
def eqvB (L : List (List Rg)) (u v : Int) : Bool := L.all (fun s => hasB s u == hasB s v)
theorem eqv_next (L : List (List Rg)) (k : Nat) (hk : k < L.length) (u v : Int) : eqvB (L.take (k + 1)) u v = (eqvB (L.take k) u v && (hasB L[k] u == hasB L[k] v)) := by
  unfold eqvB
  rw [List.take_succ_eq_append_getElem hk, List.all_append]
  simp
theorem hasB_eq {s : List Rg} (h : Gd (-1) s) {u : Int} (hu : Sc u) : hasB s u = inB s u := by
  unfold hasB
  rw [(goodB_iff s).2 h, (isB_iff u).2 hu, Bool.true_and, Bool.true_and]
theorem eqv_iff {L : List (List Rg)} (hL : ∀ s ∈ L, Gd (-1) s) {u v : Int} (hu : Sc u) (hv : Sc v) : eqvB L u v = true ↔ Ek L v u := by
  unfold eqvB
  rw [List.all_eq_true, ek_iff]
  constructor
  · intro h s hs
    have h1 := h s hs
    rw [beq_iff_eq, hasB_eq (hL s hs) hu, hasB_eq (hL s hs) hv] at h1
    exact h1.symm
  · intro h s hs
    rw [beq_iff_eq, hasB_eq (hL s hs) hu, hasB_eq (hL s hs) hv]
    exact (h s hs).symm
/-- Bands tell alike just those that no set parts. -/
theorem of_eqv {L P : List (List Rg)} (hL : ∀ s ∈ L, Gd (-1) s) (hP : Parts (Ek L) P) {bs : List Rg} (hb : BandsOf P bs) {u v : Int} (hu : Sc u) (hv : Sc v) : (ofN bs u == ofN bs v) = eqvB L u v := by
  obtain ⟨_, h1, h2, h3⟩ := of_bands hb hu
  obtain ⟨_, k1, k2, k3⟩ := of_bands hb hv
  have h := parts_same hP hu hv (c := (ofN bs u).toNat) (d := (ofN bs v).toNat) (by omega) (by omega) h3 k3
  rw [Bool.eq_iff_iff, beq_iff_eq, eqv_iff hL hu hv, ← h]
  omega
/-- Where many scalars are unlike there are many parts. -/
theorem many_parts {E : Int → Int → Prop} {P : List (List Rg)} (hP : Parts E P) (h : Many E) : ¬ P.length ≤ 256 := by
  obtain ⟨vs, h1, h2, h3⟩ := h
  have hch : ∀ v, ∃ p : List Rg, Sc v → p ∈ P ∧ In p v := by
    intro v
    by_cases hv : Sc v
    · obtain ⟨p, hp, hi⟩ := hP.cov v hv
      exact ⟨p, fun _ => ⟨hp, hi⟩⟩
    · exact ⟨[], fun h => absurd h hv⟩
  have hn : (vs.map (fun v => Classical.choose (hch v))).Nodup := by
    rw [List.nodup_iff_pairwise_ne, List.pairwise_map]
    refine h3.imp_of_mem fun {a b} ha hb hab e => hab ?_
    have k1 := Classical.choose_spec (hch a) (h2 a ha)
    have k2 := Classical.choose_spec (hch b) (h2 b hb)
    rw [← e] at k2
    exact (hP.cl _ k1.1 b a (h2 b hb) (h2 a ha) k2.2).1 k1.2
  have hs : vs.map (fun v => Classical.choose (hch v)) ⊆ P := by
    intro p hp
    obtain ⟨v, hv, rfl⟩ := List.mem_map.1 hp
    exact (Classical.choose_spec (hch v) (h2 v hv)).1
  have := hn.length_le_of_subset hs
  rw [List.length_map] at this
  omega
theorem tot_lens {w : World} {B n : Nat} {A : Option Addr} {H : List Hd} (h : Nest w B A n H) : tot (setsOf H) = (lens H).sum := by
  unfold tot setsOf lens
  rw [List.map_map]
  congr 1
  refine List.map_congr_left fun x hx => ?_
  exact (h.2.2 x hx).1
theorem sum_le : ∀ (P : List (List Rg)) (M : Nat), (∀ p ∈ P, p.length ≤ M) → tot P ≤ P.length * M
  | [], M, _ => by simp [tot]
  | p :: P, M, h => by
    have h1 := h p (List.mem_cons_self ..)
    have h2 := sum_le P M fun q hq => h q (List.mem_cons_of_mem _ hq)
    have e : tot (p :: P) = p.length + tot P := by simp [tot]
    rw [e, List.length_cons, Nat.add_mul]
    omega
end Go.Proofs.Ythaageiflimnnaa
