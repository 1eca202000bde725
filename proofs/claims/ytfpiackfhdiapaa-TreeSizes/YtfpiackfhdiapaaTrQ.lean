/- What Parts of package tree returns. -/
import Derived.Test.YtfpiackfhdiapaaTrS
import Derived.Deep.RegionHeld3
namespace Go.Proofs.Ytfpiackfhdiapaa.S
open Go.RowKit Go.BigFrame
set_option linter.unusedVariables false
set_option linter.unusedSimpArgs false

theorem Reads.mid {w : World} {B size n : Nat} {b o : Nat} {xs : List Value} (h : Reads w B size (some ⟨b, o, none⟩) n xs) (k m : Nat) (hk : k + m ≤ n) : Reads w B size (some ⟨b, o + k * size, none⟩) m ((xs.drop (k * size)).take (m * size)) := by
  have h1 := h.1
  have hle : (k + m) * size ≤ n * size := Nat.mul_le_mul_right _ hk
  rw [Nat.add_mul] at hle
  refine ⟨by rw [List.length_take, List.length_drop, h1]; omega, fun hm => ?_⟩
  by_cases h0 : 0 < n
  · obtain ⟨b', o', e, hb, hc⟩ := h.2 h0
    injection e with e
    injection e with e1 e2
    subst e1 e2
    refine ⟨b, o + k * size, rfl, hb, fun j u hj => ?_⟩
    have hj' : j < m * size := by
      have := (List.getElem?_eq_some_iff.1 hj).1
      rw [List.length_take] at this
      omega
    rw [List.getElem?_take_of_lt hj', List.getElem?_drop] at hj
    rw [Nat.add_assoc]
    exact hc _ _ hj
  · omega
theorem ncells_drop (L : List NV) (k : Nat) : (ncells L).drop (k * 5) = ncells (L.drop k) := by
  by_cases h : k ≤ L.length
  · have e : L = L.take k ++ L.drop k := (List.take_append_drop k L).symm
    have hl : (ncells (L.take k)).length = k * 5 := by rw [ncells_len, List.length_take]; congr 1; omega
    conv => lhs; rw [e]
    rw [ncells_app, ← hl, List.drop_left]
  · rw [List.drop_eq_nil_of_le (by rw [ncells_len]; omega), List.drop_eq_nil_of_le (by omega)]
    rfl
theorem ncells_take (L : List NV) (k : Nat) : (ncells L).take (k * 5) = ncells (L.take k) := by
  by_cases h : k ≤ L.length
  · have e : L = L.take k ++ L.drop k := (List.take_append_drop k L).symm
    have hl : (ncells (L.take k)).length = k * 5 := by rw [ncells_len, List.length_take]; congr 1; omega
    conv => lhs; rw [e]
    rw [ncells_app, ← hl, List.take_left]
  · rw [List.take_of_length_le (by rw [ncells_len]; omega), List.take_of_length_le (by omega)]
theorem RT.mid {w : World} {B n b o : Nat} {L : List NV} (h : RT w B (some ⟨b, o, none⟩) n L) (k m : Nat) (hk : k + m ≤ n) : RT w B (some ⟨b, o + k * 5, none⟩) m ((L.drop k).take m) := by
  refine ⟨by rw [List.length_take, List.length_drop, h.1]; omega, ?_, fun x hx => h.2.2 x (List.mem_of_mem_drop (List.mem_of_mem_take hx))⟩
  have h2 := h.2.1.mid k m hk
  rwa [ncells_drop, ncells_take] at h2
theorem RT.pre {w : World} {B n b o : Nat} {L : List NV} (h : RT w B (some ⟨b, o, none⟩) n L) (m : Nat) (hk : m ≤ n) : RT w B (some ⟨b, o, none⟩) m (L.take m) := by
  have := h.mid 0 m (by omega)
  simpa using this
theorem SmT.sub {L M : List NV} (h : SmT L) (hs : ∀ x ∈ M, x ∈ L) : SmT M := fun x hx => h x (hs x hx)
theorem NumT.sub {L M : List NV} (h : NumT L) (hs : ∀ x ∈ M, x ∈ L) : NumT M := fun x hx => h x (hs x hx)

/-- The children's trees. -/
def partsE : Ex → Option (List Nd × List Nd)
  | .star x => some (flat x 0, [])
  | .cat x y => some (flat x 0, flat y 0)
  | .alt x y => some (flat x 0, flat y 0)
  | _ => none
def OutP3 (P : Option (List Nd × List Nd)) (w : World) (e : Ending) (w' : World) : Prop :=
  ∃ (A1 : Option Addr) (n1 c1 : Nat) (L1 : List NV) (A2 : Option Addr) (n2 c2 : Nat) (L2 : List NV), e = .returned (.tuple #[.slice A1 n1 c1, .slice A2 n2 c2, .bool P.isSome]) ∧
    OwnTr w' w.heap.size A1 n1 c1 L1 ∧ OwnTr w' w.heap.size A2 n2 c2 L2 ∧ nds L1 = (P.map (·.1)).getD [] ∧ nds L2 = (P.map (·.2)).getD [] ∧ SmT L1 ∧ SmT L2 ∧ Below w.heap.size w w'
theorem outP3_no {P : Option (List Nd × List Nd)} {w w' : World} (h : P = none) (g : Below w.heap.size w w') : OutP3 P w (.returned (.tuple #[.slice none 0 0, .slice none 0 0, .bool false])) w' :=
  ⟨none, 0, 0, [], none, 0, 0, [], by rw [h]; rfl, OwnTr.nil _ _, OwnTr.nil _ _, by rw [h]; rfl, by rw [h]; rfl, fun x h => by simp at h, fun x h => by simp at h, g⟩
theorem flat_mv0 (e : Ex) : (flat e 0).map (mv 0) = flat e 0 := flat_mv e 0 0
theorem flat_mvd (e : Ex) (o : Nat) : (flat e o).map (mv (-(o : Int))) = flat e 0 := by
  have := flat_mv e o 0
  rwa [show ((0 : Nat) : Int) - (o : Int) = -(o : Int) by omega] at this
set_option maxHeartbeats 4000000 in
theorem parts_no (L : List NV) (A : Option Addr) (n c : Nat) (w : World) (hT : RT w w.heap.size A n L) (hS : SmT L) (hn : n ≤ 100000) (hg : treeB (nds L) = false) :
    Calls Try.prog 14 #[.slice A n c] w (OutP3 none w) := by
  have HG := Lib.hid (treeGood_any L A n c w hT hS (by omega))
  rw [hg] at HG
  clear hT hS hg
  go_enter Try.func14, Try.ntmps14
  go_wp2_with fail
  refine HG.out.mono ?_
  rintro e w1 ⟨rfl, b1⟩
  go_wp2_with fail
  exact bodyPost_ret (v := .tuple #[.slice none 0 0, .slice none 0 0, .bool false]) (by simp [results, Try.results14, go_sem]) rfl (outP3_no rfl b1)
set_option maxHeartbeats 8000000 in
theorem parts_never (L : List NV) (A : Option Addr) (n c : Nat) (w : World) (hT : RT w w.heap.size A n L) (hS : SmT L) (hn : n ≤ 40000) (hc : n ≤ c) (hE : nds L = flat (.never) 0) (hg : treeB (nds L) = true) :
    Calls Try.prog 14 #[.slice A n c] w (OutP3 (partsE (.never)) w) := by
  have hsz : n = sz (.never) := by have h := congrArg List.length hE; rw [nds_len, hT.1, flat_len] at h; exact h
  have h0 : 0 < n := by rw [hsz]; exact sz_pos _
  have HG := Lib.hid (treeGood_any L A n c w hT hS (by omega))
  rw [hg] at HG
  obtain ⟨m, hm⟩ : ∃ m, n = m + 1 := ⟨n - 1, by omega⟩
  have kl : m < L.length := by rw [hT.1]; omega
  obtain ⟨b, o, rfl, hb, p0, p1, p2, p3, p4, _⟩ := hT.at kl
  have hrt : L[m].nd = rootN (.never) 0 := by
    have h1 := nds_at kl
    rw [← h1]
    have h2 := flat_kids (.never) 0
    have h3 : (kids flat (.never) 0).length = m := by have h4 := congrArg List.length h2; rw [flat_len, List.length_append] at h4; simp at h4; omega
    have h5 : (nds L)[m]? = some (rootN (.never) 0) := by rw [hE, h2, List.getElem?_append_right (by omega), h3]; simp
    rw [List.getElem?_eq_getElem (by rw [nds_len]; exact kl)] at h5
    exact Option.some.inj h5
  have k0 : L[m].k = (rootN (.never) 0).k := congrArg Nd.k hrt
  have k1 : L[m].a = (rootN (.never) 0).a := congrArg Nd.a hrt
  have fm : IntKind.i64.wrap ((n : Int) - 1) = (m : Int) := by rw [IntWalk.i64_in _ (by omega)]; omega
  have hmI : (m : Int) < (n : Int) := by omega
  have hmI0 : (0 : Int) ≤ (m : Int) := by omega
  have k0' : L[m].k = 0 := k0
  clear hrt k0 k1 hT hS hE hg hsz
  generalize L[m] = x at *
  obtain ⟨xk, xa, xb, xA, xn, xc, xs, xm⟩ := x
  simp only [] at k0' p0 p1 p2 p3 p4
  subst k0'
  clear hm kl
  go_enter Try.func14, Try.ntmps14
  go_wp2_with fail
  refine HG.out.mono ?_
  rintro e w1 ⟨rfl, b1⟩
  have p0 := kept_cell b1 p0
  have p1 := kept_cell b1 p1
  have p2 := kept_cell b1 p2
  have p3 := kept_cell b1 p3
  have p4 := kept_cell b1 p4
  go_wp2_with fail
  exact bodyPost_ret (v := .tuple #[.slice none 0 0, .slice none 0 0, .bool false]) (by simp [results, Try.results14, go_sem]) rfl (outP3_no rfl (b1.alloc b1.size _))

set_option maxHeartbeats 8000000 in
theorem parts_empty (L : List NV) (A : Option Addr) (n c : Nat) (w : World) (hT : RT w w.heap.size A n L) (hS : SmT L) (hn : n ≤ 40000) (hc : n ≤ c) (hE : nds L = flat (.empty) 0) (hg : treeB (nds L) = true) :
    Calls Try.prog 14 #[.slice A n c] w (OutP3 (partsE (.empty)) w) := by
  have hsz : n = sz (.empty) := by have h := congrArg List.length hE; rw [nds_len, hT.1, flat_len] at h; exact h
  have h0 : 0 < n := by rw [hsz]; exact sz_pos _
  have HG := Lib.hid (treeGood_any L A n c w hT hS (by omega))
  rw [hg] at HG
  obtain ⟨m, hm⟩ : ∃ m, n = m + 1 := ⟨n - 1, by omega⟩
  have kl : m < L.length := by rw [hT.1]; omega
  obtain ⟨b, o, rfl, hb, p0, p1, p2, p3, p4, _⟩ := hT.at kl
  have hrt : L[m].nd = rootN (.empty) 0 := by
    have h1 := nds_at kl
    rw [← h1]
    have h2 := flat_kids (.empty) 0
    have h3 : (kids flat (.empty) 0).length = m := by have h4 := congrArg List.length h2; rw [flat_len, List.length_append] at h4; simp at h4; omega
    have h5 : (nds L)[m]? = some (rootN (.empty) 0) := by rw [hE, h2, List.getElem?_append_right (by omega), h3]; simp
    rw [List.getElem?_eq_getElem (by rw [nds_len]; exact kl)] at h5
    exact Option.some.inj h5
  have k0 : L[m].k = (rootN (.empty) 0).k := congrArg Nd.k hrt
  have k1 : L[m].a = (rootN (.empty) 0).a := congrArg Nd.a hrt
  have fm : IntKind.i64.wrap ((n : Int) - 1) = (m : Int) := by rw [IntWalk.i64_in _ (by omega)]; omega
  have hmI : (m : Int) < (n : Int) := by omega
  have hmI0 : (0 : Int) ≤ (m : Int) := by omega
  have k0' : L[m].k = 1 := k0
  clear hrt k0 k1 hT hS hE hg hsz
  generalize L[m] = x at *
  obtain ⟨xk, xa, xb, xA, xn, xc, xs, xm⟩ := x
  simp only [] at k0' p0 p1 p2 p3 p4
  subst k0'
  clear hm kl
  go_enter Try.func14, Try.ntmps14
  go_wp2_with fail
  refine HG.out.mono ?_
  rintro e w1 ⟨rfl, b1⟩
  have p0 := kept_cell b1 p0
  have p1 := kept_cell b1 p1
  have p2 := kept_cell b1 p2
  have p3 := kept_cell b1 p3
  have p4 := kept_cell b1 p4
  go_wp2_with fail
  exact bodyPost_ret (v := .tuple #[.slice none 0 0, .slice none 0 0, .bool false]) (by simp [results, Try.results14, go_sem]) rfl (outP3_no rfl (b1.alloc b1.size _))

set_option maxHeartbeats 8000000 in
theorem parts_one (L : List NV) (A : Option Addr) (n c : Nat) (w : World) (s0 : List Rg) (m0 : ByteArray) (hT : RT w w.heap.size A n L) (hS : SmT L) (hn : n ≤ 40000) (hc : n ≤ c) (hE : nds L = flat (.one s0 m0) 0) (hg : treeB (nds L) = true) :
    Calls Try.prog 14 #[.slice A n c] w (OutP3 (partsE (.one s0 m0)) w) := by
  have hsz : n = sz (.one s0 m0) := by have h := congrArg List.length hE; rw [nds_len, hT.1, flat_len] at h; exact h
  have h0 : 0 < n := by rw [hsz]; exact sz_pos _
  have HG := Lib.hid (treeGood_any L A n c w hT hS (by omega))
  rw [hg] at HG
  obtain ⟨m, hm⟩ : ∃ m, n = m + 1 := ⟨n - 1, by omega⟩
  have kl : m < L.length := by rw [hT.1]; omega
  obtain ⟨b, o, rfl, hb, p0, p1, p2, p3, p4, _⟩ := hT.at kl
  have hrt : L[m].nd = rootN (.one s0 m0) 0 := by
    have h1 := nds_at kl
    rw [← h1]
    have h2 := flat_kids (.one s0 m0) 0
    have h3 : (kids flat (.one s0 m0) 0).length = m := by have h4 := congrArg List.length h2; rw [flat_len, List.length_append] at h4; simp at h4; omega
    have h5 : (nds L)[m]? = some (rootN (.one s0 m0) 0) := by rw [hE, h2, List.getElem?_append_right (by omega), h3]; simp
    rw [List.getElem?_eq_getElem (by rw [nds_len]; exact kl)] at h5
    exact Option.some.inj h5
  have k0 : L[m].k = (rootN (.one s0 m0) 0).k := congrArg Nd.k hrt
  have k1 : L[m].a = (rootN (.one s0 m0) 0).a := congrArg Nd.a hrt
  have fm : IntKind.i64.wrap ((n : Int) - 1) = (m : Int) := by rw [IntWalk.i64_in _ (by omega)]; omega
  have hmI : (m : Int) < (n : Int) := by omega
  have hmI0 : (0 : Int) ≤ (m : Int) := by omega
  have k0' : L[m].k = 2 := k0
  clear hrt k0 k1 hT hS hE hg hsz
  generalize L[m] = x at *
  obtain ⟨xk, xa, xb, xA, xn, xc, xs, xm⟩ := x
  simp only [] at k0' p0 p1 p2 p3 p4
  subst k0'
  clear hm kl
  go_enter Try.func14, Try.ntmps14
  go_wp2_with fail
  refine HG.out.mono ?_
  rintro e w1 ⟨rfl, b1⟩
  have p0 := kept_cell b1 p0
  have p1 := kept_cell b1 p1
  have p2 := kept_cell b1 p2
  have p3 := kept_cell b1 p3
  have p4 := kept_cell b1 p4
  go_wp2_with fail
  exact bodyPost_ret (v := .tuple #[.slice none 0 0, .slice none 0 0, .bool false]) (by simp [results, Try.results14, go_sem]) rfl (outP3_no rfl (b1.alloc b1.size _))

set_option maxHeartbeats 8000000 in
theorem parts_star (L : List NV) (A : Option Addr) (n c : Nat) (w : World) (x0 : Ex) (hT : RT w w.heap.size A n L) (hS : SmT L) (hn : n ≤ 40000) (hc : n ≤ c) (hE : nds L = flat (.star x0) 0) (hg : treeB (nds L) = true) :
    Calls Try.prog 14 #[.slice A n c] w (OutP3 (partsE (.star x0)) w) := by
  have hsz : n = sz (.star x0) := by have h := congrArg List.length hE; rw [nds_len, hT.1, flat_len] at h; exact h
  have h0 : 0 < n := by rw [hsz]; exact sz_pos _
  have HG := Lib.hid (treeGood_any L A n c w hT hS (by omega))
  rw [hg] at HG
  obtain ⟨m, hm⟩ : ∃ m, n = m + 1 := ⟨n - 1, by omega⟩
  have kl : m < L.length := by rw [hT.1]; omega
  obtain ⟨b, o, rfl, hb, p0, p1, p2, p3, p4, _⟩ := hT.at kl
  have hrt : L[m].nd = rootN (.star x0) 0 := by
    have h1 := nds_at kl
    rw [← h1]
    have h2 := flat_kids (.star x0) 0
    have h3 : (kids flat (.star x0) 0).length = m := by have h4 := congrArg List.length h2; rw [flat_len, List.length_append] at h4; simp at h4; omega
    have h5 : (nds L)[m]? = some (rootN (.star x0) 0) := by rw [hE, h2, List.getElem?_append_right (by omega), h3]; simp
    rw [List.getElem?_eq_getElem (by rw [nds_len]; exact kl)] at h5
    exact Option.some.inj h5
  have k0 : L[m].k = (rootN (.star x0) 0).k := congrArg Nd.k hrt
  have k1 : L[m].a = (rootN (.star x0) 0).a := congrArg Nd.a hrt
  have fm : IntKind.i64.wrap ((n : Int) - 1) = (m : Int) := by rw [IntWalk.i64_in _ (by omega)]; omega
  have hmI : (m : Int) < (n : Int) := by omega
  have hmI0 : (0 : Int) ≤ (m : Int) := by omega
  have k0' : L[m].k = 5 := k0
  have HX : Hid (nds (L.take m) = flat x0 0) := Lib.hid (by
    rw [nds_take, hE]
    show (flat x0 0 ++ [_]).take m = _
    have h6 : (flat x0 0).length = m := by rw [flat_len]; simp only [sz] at hsz; omega
    rw [← h6, List.take_left])
  have HM := Lib.hid (fun V (g : Below w.heap.size w V) => moved_any (L.take m) (some ⟨b, o, none⟩) m c 0 V ((hT.pre m (by omega)).on g) (hS.sub fun x hx => List.mem_of_mem_take hx) ((treeB_num hg).sub fun x hx => List.mem_of_mem_take hx) num0 (by omega))
  have hmc : (m : Int) ≤ (c : Int) := by omega
  clear hrt k0 k1 hT hS hE hg hsz
  generalize L[m] = x at *
  obtain ⟨xk, xa, xb, xA, xn, xc, xs, xm⟩ := x
  simp only [] at k0' p0 p1 p2 p3 p4
  subst k0'
  clear hm kl
  go_enter Try.func14, Try.ntmps14
  go_wp2_with fail
  refine HG.out.mono ?_
  rintro e w1 ⟨rfl, b1⟩
  have p0 := kept_cell b1 p0
  have p1 := kept_cell b1 p1
  have p2 := kept_cell b1 p2
  have p3 := kept_cell b1 p3
  have p4 := kept_cell b1 p4
  have b2 := b1.alloc b1.size (.cells #[.int .i64 5, .int .i64 xa, .int .i64 xb, .slice xA xn xc, .string xm] 48)
  have hz2 := b2.size
  go_wp2_with fail
  refine (HM.out _ b2).mono ?_
  rintro e w3 ⟨A1, c1, L1, rfl, o1, v1, s1, g3⟩
  have b3 := b2.trans (g3.mono hz2)
  have HO := Lib.hid (o1.lower hz2)
  have HV := Lib.hid v1
  clear o1 v1
  go_wp2_with fail
  refine bodyPost_ret (v := .tuple #[.slice A1 m c1, .slice none 0 0, .bool true]) (by simp [results, Try.results14, go_sem]) rfl ⟨A1, m, c1, L1, none, 0, 0, [], rfl, HO.out, OwnTr.nil _ _, ?_, rfl, s1, fun x h => by simp at h, b3⟩
  rw [HV.out, HX.out]
  exact flat_mv0 x0

set_option maxHeartbeats 8000000 in
theorem parts_cat (L : List NV) (A : Option Addr) (n c : Nat) (w : World) (x0 y0 : Ex) (hT : RT w w.heap.size A n L) (hS : SmT L) (hn : n ≤ 40000) (hc : n ≤ c) (hE : nds L = flat (.cat x0 y0) 0) (hg : treeB (nds L) = true) :
    Calls Try.prog 14 #[.slice A n c] w (OutP3 (partsE (.cat x0 y0)) w) := by
  have hsz : n = sz (.cat x0 y0) := by have h := congrArg List.length hE; rw [nds_len, hT.1, flat_len] at h; exact h
  have h0 : 0 < n := by rw [hsz]; exact sz_pos _
  have HG := Lib.hid (treeGood_any L A n c w hT hS (by omega))
  rw [hg] at HG
  obtain ⟨m, hm⟩ : ∃ m, n = m + 1 := ⟨n - 1, by omega⟩
  have kl : m < L.length := by rw [hT.1]; omega
  obtain ⟨b, o, rfl, hb, p0, p1, p2, p3, p4, _⟩ := hT.at kl
  have hrt : L[m].nd = rootN (.cat x0 y0) 0 := by
    have h1 := nds_at kl
    rw [← h1]
    have h2 := flat_kids (.cat x0 y0) 0
    have h3 : (kids flat (.cat x0 y0) 0).length = m := by have h4 := congrArg List.length h2; rw [flat_len, List.length_append] at h4; simp at h4; omega
    have h5 : (nds L)[m]? = some (rootN (.cat x0 y0) 0) := by rw [hE, h2, List.getElem?_append_right (by omega), h3]; simp
    rw [List.getElem?_eq_getElem (by rw [nds_len]; exact kl)] at h5
    exact Option.some.inj h5
  have k0 : L[m].k = (rootN (.cat x0 y0) 0).k := congrArg Nd.k hrt
  have k1 : L[m].a = (rootN (.cat x0 y0) 0).a := congrArg Nd.a hrt
  have fm : IntKind.i64.wrap ((n : Int) - 1) = (m : Int) := by rw [IntWalk.i64_in _ (by omega)]; omega
  have hmI : (m : Int) < (n : Int) := by omega
  have hmI0 : (0 : Int) ≤ (m : Int) := by omega
  have k0' : L[m].k = 3 := k0
  obtain ⟨p, hp⟩ : ∃ p, sz x0 = p := ⟨_, rfl⟩
  obtain ⟨q, hq⟩ : ∃ q, sz y0 = q := ⟨_, rfl⟩
  have hpp := sz_pos x0
  have hqp := sz_pos y0
  have k1' : L[m].a = (p : Int) - 1 := by rw [k1, ← hp]; show ((0 + sz x0 : Nat) : Int) - 1 = _; omega
  have hmpq : m = p + q := by simp only [sz] at hsz; omega
  rw [hp] at hpp
  rw [hq] at hqp
  have HX : Hid (nds (L.take p) = flat x0 0) := Lib.hid (by
    rw [nds_take, hE]
    show ((flat x0 0 ++ flat y0 (0 + sz x0)) ++ [_]).take p = _
    have h6 : (flat x0 0).length = p := by rw [flat_len, hp]
    rw [List.append_assoc, ← h6, List.take_left])
  have HYy : Hid (nds ((L.drop p).take q) = flat y0 p) := Lib.hid (by
    have e : nds ((L.drop p).take q) = ((nds L).drop p).take q := by simp [nds, List.map_take, List.map_drop]
    rw [e, hE]
    show ((((flat x0 0 ++ flat y0 (0 + sz x0)) ++ [_]).drop p).take q) = _
    have h6 : (flat x0 0).length = p := by rw [flat_len, hp]
    have h7 : (flat y0 (0 + sz x0)).length = q := by rw [flat_len, hq]
    rw [List.append_assoc, ← h6, List.drop_left, ← h7, List.take_left, Nat.zero_add, h6, hp])
  have HM1 := Lib.hid (fun V (g : Below w.heap.size w V) => moved_any (L.take p) (some ⟨b, o, none⟩) p c 0 V ((hT.pre p (by omega)).on g) (hS.sub fun x hx => List.mem_of_mem_take hx) ((treeB_num hg).sub fun x hx => List.mem_of_mem_take hx) num0 (by omega))
  have HM2 := Lib.hid (fun V (g : Below w.heap.size w V) => moved_any ((L.drop p).take q) (some ⟨b, o + p * 5, none⟩) q (c - p) (-(p : Int)) V ((hT.mid p q (by omega)).on g) (hS.sub fun x hx => List.mem_of_mem_drop (List.mem_of_mem_take hx)) ((treeB_num hg).sub fun x hx => List.mem_of_mem_drop (List.mem_of_mem_take hx)) ⟨by omega, by omega⟩ (by omega))
  have hmc : (m : Int) ≤ (c : Int) := by omega
  clear hrt k0 k1 hT hS hE hg hsz hp hq
  generalize L[m] = x at *
  obtain ⟨xk, xa, xb, xA, xn, xc, xs, xm⟩ := x
  simp only [] at k0' k1' p0 p1 p2 p3 p4
  subst k0' k1'
  clear hm kl
  have f1 : IntKind.i64.wrap ((p : Int) - 1 + 1) = (p : Int) := by rw [IntWalk.i64_in _ (by omega)]; omega
  have f2 : IntKind.i64.wrap (-(p : Int)) = -(p : Int) := IntWalk.i64_in _ (by omega)
  have hpc : (p : Int) ≤ (c : Int) := by omega
  have hp0 : (0 : Int) ≤ (p : Int) := by omega
  have hpm : (p : Int) ≤ (m : Int) := by omega
  have hcp : ¬ c = p := by omega
  have hpn : ¬ p = 0 := by omega
  have hpcN : p ≤ c := by omega
  have hmcN : m ≤ c := by omega
  have hpmN : p ≤ m := by omega
  have hmp : m - p = q := by omega
  have hmpI : ((m : Int) - (p : Int)).toNat = q := by omega
  clear hmpq
  go_enter Try.func14, Try.ntmps14
  go_wp2_with fail
  refine HG.out.mono ?_
  rintro e w1 ⟨rfl, b1⟩
  have p0 := kept_cell b1 p0
  have p1 := kept_cell b1 p1
  have p2 := kept_cell b1 p2
  have p3 := kept_cell b1 p3
  have p4 := kept_cell b1 p4
  have b2 := b1.alloc b1.size (.cells #[.int .i64 3, .int .i64 ((p : Int) - 1), .int .i64 xb, .slice xA xn xc, .string xm] 48)
  have hz2 := b2.size
  go_upto_region 11 with (fail)
  generalize w1.alloc (.cells #[.int .i64 3, .int .i64 ((p : Int) - 1), .int .i64 xb, .slice xA xn xc, .string xm] 48) = w2 at *
  clear p0 p1 p2 p3 p4 b1
  have bR := Below.refl w2.heap.size w2
  have C1 : Hid (∀ V, Below w2.heap.size w2 V → Calls Try.prog 29 #[.slice (some ⟨b, o, none⟩) p c, .int .i64 0] V fun e w' => (∃ (A : Option Addr) (c : Nat) (M : List NV), e = .returned (.slice A p c) ∧ OwnTr w' w.heap.size A p c M ∧ nds M = flat x0 0 ∧ SmT M) ∧ Below w2.heap.size w2 w' ∧ Below V.heap.size V w') := Lib.hid (fun V h =>
    (HM1.out V (b2.trans (h.mono hz2))).mono (fun e w' ⟨A, c, M, h1, h2, h3, h4, h5⟩ => ⟨⟨A, c, M, h1, h2.lower (Nat.le_trans hz2 h.size), by rw [h3, HX.out]; exact flat_mv0 x0, h4⟩, h.trans (h5.mono h.size), h5⟩))
  have C2 : Hid (∀ V, Below w2.heap.size w2 V → Calls Try.prog 29 #[.slice (some ⟨b, o + p * 5, none⟩) q (c - p), .int .i64 (-(p : Int))] V fun e w' => (∃ (A : Option Addr) (c : Nat) (M : List NV), e = .returned (.slice A q c) ∧ OwnTr w' w.heap.size A q c M ∧ nds M = flat y0 0 ∧ SmT M) ∧ Below w2.heap.size w2 w' ∧ Below V.heap.size V w') := Lib.hid (fun V h =>
    (HM2.out V (b2.trans (h.mono hz2))).mono (fun e w' ⟨A, c, M, h1, h2, h3, h4, h5⟩ => ⟨⟨A, c, M, h1, h2.lower (Nat.le_trans hz2 h.size), by rw [h3, HYy.out]; exact flat_mvd y0 p, h4⟩, h.trans (h5.mono h.size), h5⟩))
  clear HM1 HM2 HX HYy HG
  go_wp2_with fail
  go_region_held3 (fun V => Below w2.heap.size w2 V) (first | assumption | exact Below.drew bR) (first | (go_at_call 29; with_reducible refine Calls.mono (C1.out _ ?_) ?_; (first | assumption | exact Below.drew bR | exact bR); rintro e V1 ⟨⟨A1, c1, M1, rfl, o1, v1, s1⟩, b1, g1⟩) | (go_at_call 29; with_reducible refine Calls.mono (C2.out _ ?_) ?_; (first | assumption | exact Below.drew bR | exact bR); rintro e V2 ⟨⟨A2, c2, M2, rfl, o2, v2, s2⟩, b2', g2⟩))
  all_goals
    go_wp2_with fail
    refine bodyPost_ret (v := .tuple #[.slice A1 p c1, .slice A2 q c2, .bool true]) (by simp [results, Try.results14, go_sem]) rfl ⟨A1, p, c1, M1, A2, q, c2, M2, rfl, ?_, ?_, v1, v2, s1, s2, ?_⟩
    · first | exact o1 | exact o1.on g2
    · first | exact o2 | exact o2.on g1
    · first | exact b2.trans (b2'.mono hz2) | exact b2.trans (b1.mono hz2)

set_option maxHeartbeats 8000000 in
theorem parts_alt (L : List NV) (A : Option Addr) (n c : Nat) (w : World) (x0 y0 : Ex) (hT : RT w w.heap.size A n L) (hS : SmT L) (hn : n ≤ 40000) (hc : n ≤ c) (hE : nds L = flat (.alt x0 y0) 0) (hg : treeB (nds L) = true) :
    Calls Try.prog 14 #[.slice A n c] w (OutP3 (partsE (.alt x0 y0)) w) := by
  have hsz : n = sz (.alt x0 y0) := by have h := congrArg List.length hE; rw [nds_len, hT.1, flat_len] at h; exact h
  have h0 : 0 < n := by rw [hsz]; exact sz_pos _
  have HG := Lib.hid (treeGood_any L A n c w hT hS (by omega))
  rw [hg] at HG
  obtain ⟨m, hm⟩ : ∃ m, n = m + 1 := ⟨n - 1, by omega⟩
  have kl : m < L.length := by rw [hT.1]; omega
  obtain ⟨b, o, rfl, hb, p0, p1, p2, p3, p4, _⟩ := hT.at kl
  have hrt : L[m].nd = rootN (.alt x0 y0) 0 := by
    have h1 := nds_at kl
    rw [← h1]
    have h2 := flat_kids (.alt x0 y0) 0
    have h3 : (kids flat (.alt x0 y0) 0).length = m := by have h4 := congrArg List.length h2; rw [flat_len, List.length_append] at h4; simp at h4; omega
    have h5 : (nds L)[m]? = some (rootN (.alt x0 y0) 0) := by rw [hE, h2, List.getElem?_append_right (by omega), h3]; simp
    rw [List.getElem?_eq_getElem (by rw [nds_len]; exact kl)] at h5
    exact Option.some.inj h5
  have k0 : L[m].k = (rootN (.alt x0 y0) 0).k := congrArg Nd.k hrt
  have k1 : L[m].a = (rootN (.alt x0 y0) 0).a := congrArg Nd.a hrt
  have fm : IntKind.i64.wrap ((n : Int) - 1) = (m : Int) := by rw [IntWalk.i64_in _ (by omega)]; omega
  have hmI : (m : Int) < (n : Int) := by omega
  have hmI0 : (0 : Int) ≤ (m : Int) := by omega
  have k0' : L[m].k = 4 := k0
  obtain ⟨p, hp⟩ : ∃ p, sz x0 = p := ⟨_, rfl⟩
  obtain ⟨q, hq⟩ : ∃ q, sz y0 = q := ⟨_, rfl⟩
  have hpp := sz_pos x0
  have hqp := sz_pos y0
  have k1' : L[m].a = (p : Int) - 1 := by rw [k1, ← hp]; show ((0 + sz x0 : Nat) : Int) - 1 = _; omega
  have hmpq : m = p + q := by simp only [sz] at hsz; omega
  rw [hp] at hpp
  rw [hq] at hqp
  have HX : Hid (nds (L.take p) = flat x0 0) := Lib.hid (by
    rw [nds_take, hE]
    show ((flat x0 0 ++ flat y0 (0 + sz x0)) ++ [_]).take p = _
    have h6 : (flat x0 0).length = p := by rw [flat_len, hp]
    rw [List.append_assoc, ← h6, List.take_left])
  have HYy : Hid (nds ((L.drop p).take q) = flat y0 p) := Lib.hid (by
    have e : nds ((L.drop p).take q) = ((nds L).drop p).take q := by simp [nds, List.map_take, List.map_drop]
    rw [e, hE]
    show ((((flat x0 0 ++ flat y0 (0 + sz x0)) ++ [_]).drop p).take q) = _
    have h6 : (flat x0 0).length = p := by rw [flat_len, hp]
    have h7 : (flat y0 (0 + sz x0)).length = q := by rw [flat_len, hq]
    rw [List.append_assoc, ← h6, List.drop_left, ← h7, List.take_left, Nat.zero_add, h6, hp])
  have HM1 := Lib.hid (fun V (g : Below w.heap.size w V) => moved_any (L.take p) (some ⟨b, o, none⟩) p c 0 V ((hT.pre p (by omega)).on g) (hS.sub fun x hx => List.mem_of_mem_take hx) ((treeB_num hg).sub fun x hx => List.mem_of_mem_take hx) num0 (by omega))
  have HM2 := Lib.hid (fun V (g : Below w.heap.size w V) => moved_any ((L.drop p).take q) (some ⟨b, o + p * 5, none⟩) q (c - p) (-(p : Int)) V ((hT.mid p q (by omega)).on g) (hS.sub fun x hx => List.mem_of_mem_drop (List.mem_of_mem_take hx)) ((treeB_num hg).sub fun x hx => List.mem_of_mem_drop (List.mem_of_mem_take hx)) ⟨by omega, by omega⟩ (by omega))
  have hmc : (m : Int) ≤ (c : Int) := by omega
  clear hrt k0 k1 hT hS hE hg hsz hp hq
  generalize L[m] = x at *
  obtain ⟨xk, xa, xb, xA, xn, xc, xs, xm⟩ := x
  simp only [] at k0' k1' p0 p1 p2 p3 p4
  subst k0' k1'
  clear hm kl
  have f1 : IntKind.i64.wrap ((p : Int) - 1 + 1) = (p : Int) := by rw [IntWalk.i64_in _ (by omega)]; omega
  have f2 : IntKind.i64.wrap (-(p : Int)) = -(p : Int) := IntWalk.i64_in _ (by omega)
  have hpc : (p : Int) ≤ (c : Int) := by omega
  have hp0 : (0 : Int) ≤ (p : Int) := by omega
  have hpm : (p : Int) ≤ (m : Int) := by omega
  have hcp : ¬ c = p := by omega
  have hpn : ¬ p = 0 := by omega
  have hpcN : p ≤ c := by omega
  have hmcN : m ≤ c := by omega
  have hpmN : p ≤ m := by omega
  have hmp : m - p = q := by omega
  have hmpI : ((m : Int) - (p : Int)).toNat = q := by omega
  clear hmpq
  go_enter Try.func14, Try.ntmps14
  go_wp2_with fail
  refine HG.out.mono ?_
  rintro e w1 ⟨rfl, b1⟩
  have p0 := kept_cell b1 p0
  have p1 := kept_cell b1 p1
  have p2 := kept_cell b1 p2
  have p3 := kept_cell b1 p3
  have p4 := kept_cell b1 p4
  have b2 := b1.alloc b1.size (.cells #[.int .i64 4, .int .i64 ((p : Int) - 1), .int .i64 xb, .slice xA xn xc, .string xm] 48)
  have hz2 := b2.size
  go_upto_region 11 with (fail)
  generalize w1.alloc (.cells #[.int .i64 4, .int .i64 ((p : Int) - 1), .int .i64 xb, .slice xA xn xc, .string xm] 48) = w2 at *
  clear p0 p1 p2 p3 p4 b1
  have bR := Below.refl w2.heap.size w2
  have C1 : Hid (∀ V, Below w2.heap.size w2 V → Calls Try.prog 29 #[.slice (some ⟨b, o, none⟩) p c, .int .i64 0] V fun e w' => (∃ (A : Option Addr) (c : Nat) (M : List NV), e = .returned (.slice A p c) ∧ OwnTr w' w.heap.size A p c M ∧ nds M = flat x0 0 ∧ SmT M) ∧ Below w2.heap.size w2 w' ∧ Below V.heap.size V w') := Lib.hid (fun V h =>
    (HM1.out V (b2.trans (h.mono hz2))).mono (fun e w' ⟨A, c, M, h1, h2, h3, h4, h5⟩ => ⟨⟨A, c, M, h1, h2.lower (Nat.le_trans hz2 h.size), by rw [h3, HX.out]; exact flat_mv0 x0, h4⟩, h.trans (h5.mono h.size), h5⟩))
  have C2 : Hid (∀ V, Below w2.heap.size w2 V → Calls Try.prog 29 #[.slice (some ⟨b, o + p * 5, none⟩) q (c - p), .int .i64 (-(p : Int))] V fun e w' => (∃ (A : Option Addr) (c : Nat) (M : List NV), e = .returned (.slice A q c) ∧ OwnTr w' w.heap.size A q c M ∧ nds M = flat y0 0 ∧ SmT M) ∧ Below w2.heap.size w2 w' ∧ Below V.heap.size V w') := Lib.hid (fun V h =>
    (HM2.out V (b2.trans (h.mono hz2))).mono (fun e w' ⟨A, c, M, h1, h2, h3, h4, h5⟩ => ⟨⟨A, c, M, h1, h2.lower (Nat.le_trans hz2 h.size), by rw [h3, HYy.out]; exact flat_mvd y0 p, h4⟩, h.trans (h5.mono h.size), h5⟩))
  clear HM1 HM2 HX HYy HG
  go_wp2_with fail
  go_region_held3 (fun V => Below w2.heap.size w2 V) (first | assumption | exact Below.drew bR) (first | (go_at_call 29; with_reducible refine Calls.mono (C1.out _ ?_) ?_; (first | assumption | exact Below.drew bR | exact bR); rintro e V1 ⟨⟨A1, c1, M1, rfl, o1, v1, s1⟩, b1, g1⟩) | (go_at_call 29; with_reducible refine Calls.mono (C2.out _ ?_) ?_; (first | assumption | exact Below.drew bR | exact bR); rintro e V2 ⟨⟨A2, c2, M2, rfl, o2, v2, s2⟩, b2', g2⟩))
  all_goals
    go_wp2_with fail
    refine bodyPost_ret (v := .tuple #[.slice A1 p c1, .slice A2 q c2, .bool true]) (by simp [results, Try.results14, go_sem]) rfl ⟨A1, p, c1, M1, A2, q, c2, M2, rfl, ?_, ?_, v1, v2, s1, s2, ?_⟩
    · first | exact o1 | exact o1.on g2
    · first | exact o2 | exact o2.on g1
    · first | exact b2.trans (b2'.mono hz2) | exact b2.trans (b1.mono hz2)

/-- What Parts tells of a tree that may be. -/
theorem parts_yes (L : List NV) (A : Option Addr) (n c : Nat) (w : World) (e : Ex) (hT : RT w w.heap.size A n L) (hS : SmT L) (hn : n ≤ 40000) (hc : n ≤ c) (hE : nds L = flat e 0) (hg : treeB (nds L) = true) :
    Calls Try.prog 14 #[.slice A n c] w (OutP3 (partsE e) w) := by
  cases e with
  | never => exact parts_never L A n c w hT hS hn hc hE hg
  | empty => exact parts_empty L A n c w hT hS hn hc hE hg
  | one s m => exact parts_one L A n c w s m hT hS hn hc hE hg
  | star x => exact parts_star L A n c w x hT hS hn hc hE hg
  | cat x y => exact parts_cat L A n c w x y hT hS hn hc hE hg
  | alt x y => exact parts_alt L A n c w x y hT hS hn hc hE hg
end Go.Proofs.Ytfpiackfhdiapaa.S
