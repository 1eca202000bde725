/- Words for TablePlaces: where each part stands in a table's bytes. -/
import Derived.Test.YtkmkkbilnflpjaaDoorLawKit3
namespace Go.Proofs.YtkmkkbilnflpjaaDoor
open Go.RowKit Go.BigFrame
set_option linter.unusedVariables false
set_option linter.unusedSimpArgs false

section
variable {t : Tb} {y : List Nat}
theorem chunk_q {w : Nat} {B : List Nat} {i q : Nat} (hq : q < w) : (chunk w B i)[q]? = B[w * i + q]? := by
  unfold chunk
  rw [List.getElem?_take_of_lt hq, List.getElem?_drop]
theorem head_at (h : MayT t) (hy : IsBits y t.br) : (sealB (bodyB t y))[4]? = some t.cl.toNat ∧ (sealB (bodyB t y))[5]? = some t.nx.length ∧ (sealB (bodyB t y))[6]? = some t.bd.length ∧ (sealB (bodyB t y)).take 4 = markB := by
  unfold sealB bodyB headB markB
  exact ⟨by simp, by simp, by simp, by simp⟩
theorem seal_drop7 : (sealB (bodyB t y)).drop 7 = t.bd.flatMap bandB ++ (t.nx.flatMap rowB ++ (y ++ lowB (sumL (bodyB t y) : Nat) 4)) := (body_parts (t := t) (y := y) _).2.2.2.2
theorem band_q (i q : Nat) (hi : i < t.bd.length) (hq : q < 4) : (sealB (bodyB t y))[7 + 4 * i + q]? = (bandB t.bd[i])[q]? := by
  have h := chunk_flatMap bandB 4 t.bd (fun x _ => bandB_len x) (t.nx.flatMap rowB ++ (y ++ lowB (sumL (bodyB t y) : Nat) 4)) i hi
  rw [← seal_drop7] at h
  rw [← h, chunk_q hq, List.getElem?_drop, Nat.add_assoc]
theorem row_q (h : MayT t) (s c : Nat) (hs : s < t.nx.length) (hc : c < t.cl.toNat) : (sealB (bodyB t y))[7 + 4 * t.bd.length + t.cl.toNat * s + c]? = (rowB t.nx[s])[c]? := by
  have k := chunk_flatMap rowB t.cl.toNat t.nx (rows_w h) (y ++ lowB (sumL (bodyB t y) : Nat) 4) s hs
  have e : (sealB (bodyB t y)).drop (7 + 4 * t.bd.length) = t.nx.flatMap rowB ++ (y ++ lowB (sumL (bodyB t y) : Nat) 4) := by
    rw [← List.drop_drop, seal_drop7, List.drop_left' (bands_len t)]
  rw [← e] at k
  rw [← k, chunk_q hc, List.getElem?_drop]
  congr 1
  omega
theorem bit_q (h : MayT t) (hy : IsBits y t.br) (k : Nat) (hk : k < y.length) : (sealB (bodyB t y))[7 + 4 * t.bd.length + t.cl.toNat * t.nx.length + k]? = y[k]? := by
  have e : (sealB (bodyB t y)).drop (7 + 4 * t.bd.length + t.cl.toNat * t.nx.length) = y ++ lowB (sumL (bodyB t y) : Nat) 4 := by
    rw [← List.drop_drop, ← List.drop_drop, seal_drop7, List.drop_left' (bands_len t), List.drop_left' (rows_len h)]
  have e2 : (y ++ lowB (sumL (bodyB t y) : Nat) 4)[k]? = y[k]? := List.getElem?_append_left hk
  rw [← e2, ← e, List.getElem?_drop]
theorem sum_q (i : Nat) (hi : i < 4) : (sealB (bodyB t y))[(bodyB t y).length + i]? = (lowB (sumL (bodyB t y) : Nat) 4)[i]? := by
  unfold sealB
  rw [List.getElem?_append_right (by omega)]
  congr 1
  omega
theorem low_sum (v : Nat) (hv : v < 4294967296) : ∃ a b c d, lowB (v : Int) 4 = [a, b, c, d] ∧ a < 256 ∧ b < 256 ∧ c < 256 ∧ d < 256 ∧ v = a * 16777216 + b * 65536 + c * 256 + d := by
  refine ⟨byteN v 3, byteN v 2, byteN v 1, byteN v 0, rfl, byteN_lt _ _, byteN_lt _ _, byteN_lt _ _, byteN_lt _ _, ?_⟩
  unfold byteN
  omega
theorem low_first (v : Int) (h : 0 ≤ v ∧ v ≤ 16777215) : ∃ a b c : Nat, lowB v 3 = [a, b, c] ∧ a < 256 ∧ b < 256 ∧ c < 256 ∧ v = (a * 65536 + b * 256 + c : Nat) := by
  refine ⟨byteN v 2, byteN v 1, byteN v 0, rfl, byteN_lt _ _, byteN_lt _ _, byteN_lt _ _, ?_⟩
  unfold byteN
  omega
theorem band_bytes (h : MayT t) (i : Nat) (hi : i < t.bd.length) : ∃ a b c d : Nat, (sealB (bodyB t y))[7 + 4 * i]? = some a ∧ (sealB (bodyB t y))[7 + 4 * i + 1]? = some b ∧ (sealB (bodyB t y))[7 + 4 * i + 2]? = some c ∧ (sealB (bodyB t y))[7 + 4 * i + 3]? = some d ∧ a < 256 ∧ b < 256 ∧ c < 256 ∧ d < 256 ∧ t.bd[i].1 = ((a * 65536 + b * 256 + c : Nat) : Int) ∧ t.bd[i].2 = (d : Int) := by
  have hb := h.bd t.bd[i] (List.getElem_mem hi)
  obtain ⟨a, b, c, e, ha, hb', hc, hv⟩ := low_first t.bd[i].1 hb.1
  have h1 := hb.2.1
  have h2 := hb.2.2
  have eb : bandB t.bd[i] = [a, b, c, t.bd[i].2.toNat] := by unfold bandB; rw [e]; rfl
  have q0 := band_q (y := y) i 0 hi (by decide)
  have q1 := band_q (y := y) i 1 hi (by decide)
  have q2 := band_q (y := y) i 2 hi (by decide)
  have q3 := band_q (y := y) i 3 hi (by decide)
  rw [eb] at q0 q1 q2 q3
  exact ⟨a, b, c, t.bd[i].2.toNat, q0, q1, q2, q3, ha, hb', hc, by omega, hv, by omega⟩
theorem bit_byte (h : MayT t) (hy : IsBits y t.br) (s : Nat) (hs : s < t.br.length) : ∃ v : Nat, (sealB (bodyB t y))[7 + 4 * t.bd.length + t.cl.toNat * t.nx.length + s / 8]? = some v ∧ v < 256 ∧ v.testBit (s % 8) = t.br[s] := by
  have hl := hy.1
  have hk : s / 8 < y.length := by omega
  refine ⟨y[s / 8], ?_, hy.2.1 _ (List.getElem_mem hk), ?_⟩
  · rw [bit_q h hy _ hk, List.getElem?_eq_getElem hk]
  · have := hy.2.2 s
    rw [bitY_eq y s hk, List.getElem?_eq_getElem hs] at this
    exact this
end
theorem and_i64_7 (s : Nat) (hs : s < 4294967296) : bits .and .i64 (s : Int) 7 = ((s % 8 : Nat) : Int) := by
  have h : s &&& 7 = s % 8 := Nat.and_two_pow_sub_one_eq_mod s 3
  show IntKind.i64.wrap ((BitVec.ofInt 64 (s : Int) &&& BitVec.ofInt 64 (7 : Int)).toNat : Int) = _
  have e1 : (BitVec.ofInt 64 (s : Int)).toNat = s := by rw [BitVec.ofInt_natCast, BitVec.toNat_ofNat]; exact Nat.mod_eq_of_lt (by omega)
  have e2 : (BitVec.ofInt 64 (7 : Int)).toNat = 7 := by decide
  rw [BitVec.toNat_and, e1, e2, h, IntKind.wrap_i64]
  omega
theorem strMark : strY markB = ⟨#[66, 82, 75, 49]⟩ := by decide
theorem conv_mark {w : World} {B c : Nat} {A : Option Addr} (h : RB w B A 4 markB) : (convert 27 9 (.slice A 4 c)).run Tryd.prog w = .ok (.string ⟨#[66, 82, 75, 49]⟩) w := by
  rw [← strMark]; exact conv_y h
end Go.Proofs.YtkmkkbilnflpjaaDoor
