/- Plain mathematics of a table as bytes (for stage 6): Decode of Encode, Encode of Decode, one byte turned. No program. -/
import Derived.Test.YtbnconieedgcmaaDoorTMath
namespace Go.Proofs.YtbnconieedgcmaaDoor

theorem unb_of_bits {b : List Nat} {l : List Bool} (h : IsBits b l) : unbR b l.length = some l := by
  have hb := h.1
  have hr : (List.range l.length).map (bitY b) = l := by
    apply List.ext_getElem?
    intro j
    by_cases hj : j < l.length
    · rw [List.getElem?_map, List.getElem?_range hj, Option.map_some, h.2.2 j, List.getElem?_eq_getElem hj]; rfl
    · rw [List.getElem?_eq_none (by simp; omega), List.getElem?_eq_none (by omega)]
  unfold unbR
  rw [if_pos ⟨by omega, by omega, by omega, fun i h1 _ => by rw [Int.toNat_natCast] at h1; rw [h.2.2 i, List.getElem?_eq_none h1]; rfl⟩, Int.toNat_natCast, hr]
theorem bits_of_unb {b : List Nat} {n : Nat} {l : List Bool} (hb : ∀ x ∈ b, x < 256) (h : unbR b n = some l) : IsBits b l ∧ l.length = n := by
  unfold unbR at h
  split at h
  · rename_i hc
    obtain ⟨_, h2, h3, h4⟩ := hc
    rw [Int.toNat_natCast] at h4
    injection h with h
    rw [Int.toNat_natCast] at h
    subst h
    refine ⟨⟨by simp; omega, hb, fun i => ?_⟩, by simp⟩
    by_cases hi : i < n
    · rw [List.getElem?_map, List.getElem?_range hi]; rfl
    · rw [List.getElem?_eq_none (by simp; omega)]
      by_cases hl : i < 8 * b.length
      · exact h4 i (by omega) hl
      · exact bitY_out b i (by omega)
  · cases h

section
variable {t : Tb} {y : List Nat}
theorem body_rest (h : MayT t) : (bodyB t y).drop (7 + 4 * t.bd.length + t.nx.length * t.cl.toNat) = y := by
  obtain ⟨_, _, _, _, e7⟩ := body_parts (t := t) (y := y) []
  rw [List.append_nil] at e7
  rw [← List.drop_drop, ← List.drop_drop, e7, List.drop_left' (bands_len t), List.drop_left' (by rw [rows_len h, Nat.mul_comm]), List.append_nil]
/-- What Decode says of Encode's bytes. -/
theorem err_enc {b : List Nat} (h : IsEnc b t) : errT b = (if (t.cl ≤ 8 ∧ t.nx.length ≤ 5 ∧ 1 ≤ t.bd.length ∧ t.bd.length ≤ 60) then 0 else 24) ∧ decT b = t := by
  have hlen := enc_len h
  obtain ⟨hm, y, hy, rfl⟩ := h
  have hbl := body_len hm hy
  have c1 := hm.c1
  have n1 := hm.n1
  obtain ⟨e0, e4, e5, e6, _⟩ := body_parts (t := t) (y := y) (lowB (sumL (bodyB t y) : Nat) 4)
  have hsl := sealB_len (bodyB t y)
  have e1 : (sealB (bodyB t y)).length - 4 = (bodyB t y).length := by omega
  have e2 : (sealB (bodyB t y)).take (bodyB t y).length = bodyB t y := seal_take _
  obtain ⟨s1, s2⟩ := seal_sum (bodyB t y)
  have e3 : unbR ((bodyB t y).drop (7 + 4 * t.bd.length + t.nx.length * t.cl.toNat)) (t.nx.length : Nat) = some t.br := by
    rw [body_rest hm, ← hm.b1]; exact unb_of_bits hy
  have d4 : (sealB (bodyB t y))[4]?.getD 0 = t.cl.toNat := e4
  have d5 : (sealB (bodyB t y))[5]?.getD 0 = t.nx.length := e5
  have d6 : (sealB (bodyB t y))[6]?.getD 0 = t.bd.length := e6
  have d0 : (sealB (bodyB t y)).take 4 = markB := e0
  constructor
  · unfold errT
    rw [if_neg (by omega), if_neg (by rw [d0]; simp), e1, s1, e2, if_neg (by rw [s2]; simp), d4, d5, d6, e3]
    by_cases hc : t.cl ≤ 8 ∧ t.nx.length ≤ 5 ∧ 1 ≤ t.bd.length ∧ t.bd.length ≤ 60
    · rw [if_pos hc, if_neg (by
        rw [Decidable.not_not]
        exact ⟨⟨by omega, by omega⟩, ⟨by omega, by omega⟩, ⟨by omega, by omega⟩, by omega⟩), if_neg (by simp)]
    · rw [if_neg hc, if_pos (by intro hh; exact hc ⟨by omega, by omega, by omega, by omega⟩)]
  · unfold decT
    rw [e1, e2, d4, d5, d6, e3]
    exact tabOf_body hm _
end
theorem lt_of_mem {b : List Nat} (hb : ∀ x ∈ b, x < 256) (i : Nat) : b[i]?.getD 0 < 256 := by
  by_cases h : i < b.length
  · rw [List.getElem?_eq_getElem h]; exact hb _ (List.getElem_mem h)
  · rw [List.getElem?_eq_none (by omega)]; decide
theorem chunk_take (w k : Nat) (B : List Nat) (i : Nat) (hi : i < k) : chunk w (B.take (w * k)) i = chunk w B i := by
  unfold chunk
  have : w * (i + 1) ≤ w * k := Nat.mul_le_mul_left w hi
  rw [Nat.mul_succ] at this
  rw [List.drop_take, List.take_take, Nat.min_eq_left (by omega)]
theorem three {b : List Nat} (h : 6 < b.length) : (b.drop 4).take 3 = [b[4]?.getD 0, b[5]?.getD 0, b[6]?.getD 0] := by
  rw [List.drop_eq_getElem_cons (show 4 < b.length by omega), List.drop_eq_getElem_cons (show 4 + 1 < b.length by omega), List.drop_eq_getElem_cons (show 4 + 1 + 1 < b.length by omega), List.getElem?_eq_getElem (show 4 < b.length by omega), List.getElem?_eq_getElem (show 5 < b.length by omega), List.getElem?_eq_getElem (show 6 < b.length by omega)]
  rfl
/-- What is decoded is encoded to the same bytes. -/
theorem enc_dec {b : List Nat} (hb : ∀ x ∈ b, x < 256) (h : errT b = 0) : IsEnc b (decT b) := by
  unfold errT at h
  split at h
  · cases h
  split at h
  · cases h
  split at h
  · cases h
  split at h
  · cases h
  split at h
  · cases h
  rename_i h1 h2 h3 h4 h5
  rw [Decidable.not_not] at h2 h3 h4
  obtain ⟨⟨c1, c2⟩, ⟨n1, n2⟩, ⟨k1, k2⟩, hl⟩ := h4
  obtain ⟨l, hu⟩ := Option.ne_none_iff_exists'.1 h5
  unfold decT
  rw [hu, Option.getD_some]
  generalize hc : b[4]?.getD 0 = c at *
  generalize hn : b[5]?.getD 0 = n at *
  generalize hk : b[6]?.getD 0 = k at *
  obtain ⟨D, hD⟩ : ∃ D, b.take (b.length - 4) = D := ⟨_, rfl⟩
  obtain ⟨S, hS⟩ : ∃ S, b.drop (b.length - 4) = S := ⟨_, rfl⟩
  have hbDS : b = D ++ S := by rw [← hD, ← hS, List.take_append_drop]
  have lS : S.length = 4 := by rw [← hS, List.length_drop]; omega
  have lD : D.length = 7 + (4 * k + (c * n + (n + 7) / 8)) := by
    have : b.length = D.length + 4 := by rw [hbDS, List.length_append, lS]
    unfold lenT at hl
    rw [Nat.mul_comm n c] at hl
    omega
  rw [hD, hS] at h3
  rw [hD] at hu
  have hDb : ∀ x ∈ D, x < 256 := fun x hx => hb x (by rw [hbDS]; exact List.mem_append_left _ hx)
  have hSb : ∀ x ∈ S, x < 256 := fun x hx => hb x (by rw [hbDS]; exact List.mem_append_right _ hx)
  have hSeal : S = lowB (sumL D : Nat) 4 := by
    rw [← h3]
    match S, lS with
    | [a, b, c, d], _ => exact (low_num4 a b c d (hSb a (by simp)) (hSb b (by simp)) (hSb c (by simp)) (hSb d (by simp))).symm
  -- the rest behind the head
  have hb7 : b.drop 7 = D.drop 7 ++ S := by rw [hbDS, List.drop_append_of_le_length (by omega)]
  obtain ⟨E, hE⟩ : ∃ E, D.drop 7 = E := ⟨_, rfl⟩
  have lE : E.length = 4 * k + (c * n + (n + 7) / 8) := by rw [← hE, List.length_drop]; omega
  have hEb : ∀ x ∈ E, x < 256 := fun x hx => hDb x (by rw [← hE] at hx; exact List.mem_of_mem_drop hx)
  have hHead : D.take 7 = markB ++ [c, n, k] := by
    have hx : b.take 7 = D.take 7 := by rw [hbDS, List.take_append_of_le_length (by omega)]
    rw [← hx]
    have l7 : (b.drop 4).take 3 = [c, n, k] := by rw [three (show 6 < b.length by omega), hc, hn, hk]
    rw [show (7 : Nat) = 4 + 3 from rfl, List.take_add, h2, l7]
  -- bands
  have lB : (E.take (4 * k)).length = 4 * k := by rw [List.length_take]; omega
  have hBands : ((List.range k).map fun i => bandOf (chunk 4 (E ++ S) i)).flatMap bandB = E.take (4 * k) := by
    rw [List.flatMap_map]
    conv => rhs; rw [← chunk_flat 4 k _ lB]
    rw [List.flatMap_def, List.flatMap_def]
    congr 1
    refine List.map_congr_left fun i hi => ?_
    have hik := List.mem_range.1 hi
    have e : chunk 4 (E ++ S) i = chunk 4 (E.take (4 * k)) i := by
      rw [chunk_take 4 k E i hik]
      have := Nat.mul_le_mul_left 4 hik
      unfold chunk
      rw [List.drop_append_of_le_length (by omega), List.take_append_of_le_length (by rw [List.length_drop]; omega)]
    rw [e]
    exact (band_bandOf _ (chunk_len 4 _ i k lB hik) (fun x hx => hEb x (List.mem_of_mem_take (chunk_mem hx)))).1
  have hBandsOk : ∀ x ∈ (List.range k).map fun i => bandOf (chunk 4 (E ++ S) i), (0 ≤ x.1 ∧ x.1 ≤ 16777215) ∧ byteI x.2 := fun x hx => by
    obtain ⟨i, hi, rfl⟩ := List.mem_map.1 hx
    have hik := List.mem_range.1 hi
    have := Nat.mul_le_mul_left 4 hik
    refine (band_bandOf _ ?_ (fun x hx => ?_)).2
    · unfold chunk; rw [List.length_take, List.length_drop, List.length_append]; omega
    · have := chunk_mem hx
      rcases List.mem_append.1 this with h | h
      · exact hEb x h
      · exact hSb x h
  -- rows
  obtain ⟨F, hF⟩ : ∃ F, E.drop (4 * k) = F := ⟨_, rfl⟩
  have lF : F.length = c * n + (n + 7) / 8 := by rw [← hF, List.length_drop]; omega
  have hFb : ∀ x ∈ F, x < 256 := fun x hx => hEb x (by rw [← hF] at hx; exact List.mem_of_mem_drop hx)
  have hb8 : b.drop (7 + 4 * k) = F ++ S := by rw [← List.drop_drop, hb7, hE, List.drop_append_of_le_length (by omega), hF]
  have lR : (F.take (c * n)).length = c * n := by rw [List.length_take]; omega
  have eR : ∀ i, i < n → chunk c (F ++ S) i = chunk c (F.take (c * n)) i := fun i hi => by
    rw [chunk_take c n F i hi]
    have h9 := Nat.mul_le_mul_left c hi
    rw [Nat.mul_succ] at h9
    unfold chunk
    rw [List.drop_append_of_le_length (by omega), List.take_append_of_le_length (by rw [List.length_drop]; omega)]
  have hRows : ((List.range n).map fun s => (chunk c (F ++ S) s).map Int.ofNat).flatMap rowB = F.take (c * n) := by
    rw [List.flatMap_map]
    conv => rhs; rw [← chunk_flat c n _ lR]
    rw [List.flatMap_def, List.flatMap_def]
    congr 1
    refine List.map_congr_left fun i hi => ?_
    rw [eR i (List.mem_range.1 hi)]
    unfold rowB
    rw [List.map_map]
    conv => rhs; rw [← List.map_id (chunk c (F.take (c * n)) i)]
    exact List.map_congr_left fun x _ => rfl
  have hRowsOk : ∀ r ∈ (List.range n).map fun s => (chunk c (F ++ S) s).map Int.ofNat, (r.length : Int) = ((c : Nat) : Int) ∧ ∀ x ∈ r, byteI x := fun r hr => by
    obtain ⟨i, hi, rfl⟩ := List.mem_map.1 hr
    have hin := List.mem_range.1 hi
    rw [eR i hin]
    refine ⟨by rw [List.length_map, chunk_len c _ i n lR hin], fun x hx => ?_⟩
    obtain ⟨v, hv, rfl⟩ := List.mem_map.1 hx
    have := hFb v (List.mem_of_mem_take (chunk_mem hv))
    exact ⟨Int.natCast_nonneg _, by show (v : Int) ≤ 255; omega⟩
  -- bits
  have hY : D.drop (7 + 4 * k + n * c) = F.drop (c * n) := by
    rw [← List.drop_drop, ← List.drop_drop, hE, hF, Nat.mul_comm]
  rw [hY] at hu
  obtain ⟨hbits, hll⟩ := bits_of_unb (fun x hx => hFb x (List.mem_of_mem_drop hx)) hu
  unfold tabOf
  rw [hc, hn, hk, hb7, hE, hb8]
  refine ⟨⟨by show (1 : Int) ≤ (c : Int); omega, by show (c : Int) ≤ 255; omega, by simp; omega, by simp; omega, by simp [hll], by simp; omega, hBandsOk, hRowsOk⟩, F.drop (c * n), hbits, ?_⟩
  have hBody : bodyB { cl := ((c : Nat) : Int), bd := (List.range k).map fun i => bandOf (chunk 4 (E ++ S) i), nx := (List.range n).map fun s => (chunk c (F ++ S) s).map Int.ofNat, br := l } (F.drop (c * n)) = D := by
    unfold bodyB headB
    simp only [List.length_map, List.length_range, Int.toNat_natCast]
    rw [hBands, hRows, List.take_append_drop, ← hF, List.take_append_drop, ← hHead, ← hE, List.take_append_drop]
  rw [hBody]
  unfold sealB
  rw [← hSeal]
  exact hbDS

/-- One byte of a table's bytes turned: the mark is another, or the sum. -/
theorem err_turn {b : List Nat} {t : Tb} (h : IsEnc b t) (i y : Nat) (hi : i < b.length) (hy : y < 256) (hne : b[i] ≠ y) : errT (b.set i y) = 22 ∨ errT (b.set i y) = 23 := by
  have hlen := enc_len h
  obtain ⟨hm, z, hz, rfl⟩ := h
  have hbl := body_len hm hz
  have hlt := body_lt hm hz
  have hsl := sealB_len (bodyB t z)
  generalize hX : bodyB t z = X at *
  have e1 : ((sealB X).set i y).length - 4 = X.length := by rw [List.length_set]; omega
  unfold errT
  rw [if_neg (by rw [List.length_set]; omega)]
  by_cases hmk : ((sealB X).set i y).take 4 ≠ markB
  · rw [if_pos hmk]; exact .inl rfl
  · rw [if_neg hmk, if_pos]
    · exact .inr rfl
    · rw [e1]
      intro hs
      by_cases hiX : i < X.length
      · have d1 : ((sealB X).set i y).drop X.length = lowB (sumL X : Nat) 4 := by
          unfold sealB
          rw [List.set_append, if_pos hiX, List.drop_left' (by rw [List.length_set])]
        have d2 : ((sealB X).set i y).take X.length = X.set i y := by
          unfold sealB
          rw [List.set_append, if_pos hiX, List.take_left' (by rw [List.length_set])]
        rw [d1, d2, (seal_sum X).2] at hs
        have := (sumL_set X hlt i y hiX hy).1 hs
        apply hne
        rw [← this]
        simp only [sealB]
        rw [List.getElem_append_left hiX]
      · have d2 : ((sealB X).set i y).take X.length = X := by
          unfold sealB
          rw [List.set_append, if_neg hiX, List.take_left]
        have d1 : ((sealB X).set i y).drop X.length = (lowB (sumL X : Nat) 4).set (i - X.length) y := by
          unfold sealB
          rw [List.set_append, if_neg hiX, List.drop_left]
        rw [d1, d2] at hs
        have hq := (seal_sum X).2
        have hlow := lowB_lt (sumL X : Nat) 4
        have hll := lowB_len (sumL X : Nat) 4
        have hne' : (lowB (sumL X : Nat) 4)[i - X.length]? ≠ some y := by
          intro e
          apply hne
          have e9 : (sealB X)[i]? = some y := by
            unfold sealB
            rw [List.getElem?_append_right (by omega)]; exact e
          rw [List.getElem?_eq_getElem hi] at e9
          exact Option.some.inj e9
        generalize lowB (sumL X : Nat) 4 = L at *
        obtain ⟨j, hj⟩ : ∃ j, i - X.length = j := ⟨_, rfl⟩
        have hj4 : j < 4 := by omega
        simp only [hj] at hs hne'
        match L, hll with
        | [a, b, c, d], _ =>
          have ha := hlow a (by simp)
          have hb := hlow b (by simp)
          have hc := hlow c (by simp)
          have hd := hlow d (by simp)
          rw [← hq] at hs
          match j, hj4 with
          | 0, _ => exact hne' (congrArg some (numL_inj4 hs hb hc hd hb hc hd).1.symm)
          | 1, _ => exact hne' (congrArg some (numL_inj4 hs hy hc hd hb hc hd).2.1.symm)
          | 2, _ => exact hne' (congrArg some (numL_inj4 hs hb hy hd hb hc hd).2.2.1.symm)
          | 3, _ => exact hne' (congrArg some (numL_inj4 hs hb hc hy hb hc hd).2.2.2.symm)
end Go.Proofs.YtbnconieedgcmaaDoor
