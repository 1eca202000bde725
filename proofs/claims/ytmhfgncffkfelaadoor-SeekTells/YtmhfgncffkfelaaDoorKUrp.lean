/- What the document's own Pieces returns: a new row that holds the pieces of the text, the same as the program's. -/
import Derived.Test.YtmhfgncffkfelaaDoorKUr
namespace Go.Proofs.YtmhfgncffkfelaaDoor.U
open Go.RowKit
set_option linter.unusedVariables false
set_option linter.unusedSimpArgs false

theorem size_list (s : ByteArray) : s.size = s.data.toList.length := (Array.length_toList).symm
theorem extract_mid (s : ByteArray) (k m : Nat) : (s.extract k (k + m)).data.toList = (s.data.toList.drop k).take m := by
  simp [ByteArray.data_extract, List.take_drop]

/-- begins, at a piece of a text. -/
theorem beg_call (s : ByteArray) (k m : Nat) (W : World) (hk : k + m < s.size) (hm : m < 4) (N : Nat) (hN : findN (s[k]'(by omega)) (s.data.toList.drop (k + 1)) = N) :
    Calls Tryd.prog 109 #[.string (s.extract k (k + m + 1))] W (OutB (decide (m < N)) W) := by
  have hk0 : k < s.size := by omega
  have hd := drop_cons s k hk0
  have hl : (s.data.toList.drop (k + 1)).length = s.size - (k + 1) := by simp
  have e : (s.extract k (k + m + 1)).data.toList = s[k] :: (s.data.toList.drop (k + 1)).take m := by
    rw [Nat.add_assoc, extract_mid, hd]; rfl
  have hz : (s.extract k (k + m + 1)).size = m + 1 := by
    rw [size_list, e, List.length_cons, List.length_take, hl]; omega
  have h := refBegins_any (s.extract k (k + m + 1)) W (by omega) (by omega)
  rw [e, begL_take _ _ _ (by omega), hN] at h
  exact h
theorem beg_yes (s : ByteArray) (k m : Nat) (W : World) (hk : k + m < s.size) (hm : m < 4) (N : Nat) (hN : findN (s[k]'(by omega)) (s.data.toList.drop (k + 1)) = N) (h : m < N) :
    Calls Tryd.prog 109 #[.string (s.extract k (k + m + 1))] W fun e w' => e = .returned (.bool true) ∧ Below W.heap.size W w' := by
  have := beg_call s k m W hk hm N hN
  unfold OutB at this
  rwa [decide_eq_true h] at this
theorem beg_no (s : ByteArray) (k m : Nat) (W : World) (hk : k + m < s.size) (hm : m < 4) (N : Nat) (hN : findN (s[k]'(by omega)) (s.data.toList.drop (k + 1)) = N) (h : ¬ m < N) :
    Calls Tryd.prog 109 #[.string (s.extract k (k + m + 1))] W fun e w' => e = .returned (.bool false) ∧ Below W.heap.size W w' := by
  have := beg_call s k m W hk hm N hN
  unfold OutB at this
  rwa [decide_eq_false h] at this

/-- A piece of the text where it stands, by the document's own way. -/
theorem ref_step (s : ByteArray) (k : Nat) (hk : k < s.size) : ∃ p : Pc, Way s[k] (s.data.toList.drop (k + 1)) p ∧ findN s[k] (s.data.toList.drop (k + 1)) = (if needN (nb s[k]) = 0 then 0 else p.n) ∧ 1 ≤ p.n ∧ p.n ≤ 4 ∧ k + p.n ≤ s.size ∧
    piecesAt k (s.data.toList.drop k) = ⟨p.v, k, p.n, p.ok⟩ :: piecesAt (k + p.n) (s.data.toList.drop (k + p.n)) := by
  have hf := piece_fits s[k] (s.data.toList.drop (k + 1))
  have hw := way_of s[k] (s.data.toList.drop (k + 1))
  have hd := drop_cons s k hk
  have hl : (s.data.toList.drop k).length = s.size - k := by simp
  have hp := piecesAt_step k (s.data.toList.drop k) (by rw [hd]; simp)
  have hfn : findN s[k] (s.data.toList.drop (k + 1)) = (if needN (nb s[k]) = 0 then 0 else (pieceOf (s[k] :: s.data.toList.drop (k + 1))).n) := rfl
  rw [← hd] at hf hw hfn
  generalize pieceOf (s.data.toList.drop k) = p at *
  obtain ⟨f1, f2, f3, _⟩ := hf
  refine ⟨p, hw, hfn, f1, f2, by omega, ?_⟩
  rw [hp, List.drop_drop]

theorem drop_head {s : ByteArray} {k : Nat} {y : UInt8} {q : List UInt8} (h : s.data.toList.drop k = y :: q) : ∃ hk : k < s.size, s[k] = y ∧ s.data.toList.drop (k + 1) = q := by
  by_cases hk : k < s.size
  · rw [drop_cons s k hk] at h
    injection h with h1 h2
    exact ⟨hk, h1, h2⟩
  · rw [drop_none s k hk] at h; cases h

/-- What the row is, behind a round of the loop. -/
def Row (w w' : World) (acc : List Pp) (x : Value) : Prop := ∃ A c, x = .slice A acc.length c ∧ w'.ownsRow w.heap.size 70 3 (.slice A acc.length c) acc.length (pcells acc)
theorem row_snoc {w w2 : World} {acc : List Pp} {p : Pp} {g cap : Nat} (h : w2.ownsRow w.heap.size 70 3 (.slice (some ⟨g, 0, none⟩) (acc.length + 1) cap) (acc.length + 1) (pcells acc ++ [.int .i64 p.v, .int .i64 p.at_, .int .i64 p.n])) : Row w w2 (acc ++ [p]) (.slice (some ⟨g, 0, none⟩) (acc.length + 1) cap) := by
  refine ⟨some ⟨g, 0, none⟩, cap, by simp, ?_⟩
  rw [pcells_snoc, List.length_append]
  exact h
theorem three_cells (b : Nat) (x y z : Value) (W : World) (h0 : W.cell? ⟨b, 0, none⟩ = some x) (h1 : W.cell? ⟨b, 1, none⟩ = some y) (h2 : W.cell? ⟨b, 2, none⟩ = some z) : ∀ (j : Nat) (t : Value), [x, y, z][j]? = some t → W.cell? ((⟨b, 0, none⟩ : Addr).add j) = some t := by
  intro j t hj
  match j, hj with
  | 0, hj => simp at hj; subst hj; simpa [Addr.add] using h0
  | 1, hj => simp at hj; subst hj; simpa [Addr.add] using h1
  | 2, hj => simp at hj; subst hj; simpa [Addr.add] using h2
theorem cell_new {W : World} {C : Array Value} {t : TypeId} {b j : Nat} {u : Value} (hb : b = W.heap.size) (hu : C[j]? = some u) : (W.alloc (.cells C t)).cell? ⟨b, j, none⟩ = some u := by
  subst hb; rw [World.cell?_alloc_mark]; exact hu
theorem cell_old1 {W : World} {C : Array Value} {t : TypeId} {o : Obj} {j : Nat} {u : Value} (hu : C[j]? = some u) : ((W.alloc (.cells C t)).alloc o).cell? ⟨W.heap.size, j, none⟩ = some u := by
  rw [World.cell?_alloc_lt _ _ _ (by simp)]; exact cell_new rfl hu
theorem cell_old2 {W : World} {C : Array Value} {t : TypeId} {o o' : Obj} {j : Nat} {u : Value} (hu : C[j]? = some u) : (((W.alloc (.cells C t)).alloc o).alloc o').cell? ⟨W.heap.size, j, none⟩ = some u := by
  rw [World.cell?_alloc_lt _ _ _ (by simp; omega)]; exact cell_old1 hu
theorem three_oneCell (k : IntKind) (a b c : Int) : ∀ u ∈ [Value.int k a, Value.int k b, Value.int k c], u.oneCell' = true := by
  intro u hu; simp at hu; rcases hu with rfl | rfl | rfl <;> rfl

/-- What a round is told, and what it leaves. -/
def Told (s : ByteArray) (acc : List Pp) (k : Nat) (p : Pc) : Prop := acc ++ ⟨p.v, k, p.n, p.ok⟩ :: piecesAt (k + p.n) (s.data.toList.drop (k + p.n)) = piecesAt 0 s.data.toList

set_option maxRecDepth 100000 in
set_option maxHeartbeats 8000000 in
theorem refPieces_any (s : ByteArray) (w : World) (hs : s.size ≤ 1048576) : Calls Tryd.prog 99 #[.string s] w (OutPs (piecesAt 0 s.data.toList) w) := by
  obtain ⟨i0, hi0, hz0, hz1, hz2⟩ := info_parts info35
  go_enter Tryd.func99, Tryd.ntmps99
  go_wp2_with fail
  go_loopw [3, 4] (fun v i wr => ∃ (k : Nat) (A : Option Addr) (c : Nat) (acc : List Pp), k ≤ s.size ∧ acc.length ≤ k ∧ i = .int .i64 k ∧ v = .slice A acc.length c ∧ Hid (acc ++ piecesAt k (s.data.toList.drop k) = piecesAt 0 s.data.toList) ∧ wr.ownsRow w.heap.size 70 3 (.slice A acc.length c) acc.length (pcells acc) ∧ Below w.heap.size w wr) (fun _ i _ => s.size - (intOf i).toNat)
  case atStart => exact ⟨0, none, 0, [], Nat.zero_le _, Nat.le_refl _, rfl, rfl, Lib.hid rfl, World.ownsRow_nil _ _ _ _, Below.refl _ _⟩
  case round =>
    obtain ⟨k, A, c, acc, hk, hak, rfl, rfl, HV, hown, hb⟩ := hrel
    rename World => w0
    have hw0 := hb.size
    have HOWN := Lib.hid hown
    clear hown
    by_cases hlt : k < s.size
    · have xb : s[k].toNat < 256 := UInt8.toNat_lt _
      obtain ⟨p, hway, hfn, p1, p2, p3, hp⟩ := ref_step s k hlt
      have HT : Hid (Told s acc k p) := Lib.hid (by unfold Told; rw [← HV.out, hp])
      clear HV hp
      rcases hway with ⟨hz, rfl⟩ | ⟨N, K, hK, hK0, N1, N2, hNK, rfl⟩ | ⟨hx, rfl⟩ | ⟨y, q, hr, x0, x1, hy, rfl⟩ | ⟨y, z, q, hr, x0, x1, hy, hz, rfl⟩ | ⟨y, z, u, q, hr, x0, x1, hy, hz, hu, rfl⟩
      · have HN : Hid (findN (s[k]'hlt) (s.data.toList.drop (k + 1)) = 0) := Lib.hid (by rw [hfn, if_pos hz])
        clear hfn hz p1 p2
        have p3x : k + 1 ≤ s.size := p3
        go_wp2_with fail
        go_loopw [5] (fun i wr => ∃ n : Nat, n ≤ 0 ∧ i = .int .i64 n ∧ Below w0.heap.size w0 wr) (fun i _ => 0 - (intOf i).toNat)
        case atStart => exact ⟨0, Nat.zero_le _, rfl, Below.refl _ _⟩
        case round =>
          obtain ⟨n, hn, rfl, h9⟩ := hrel
          have s9 := h9.size
          obtain rfl : n = 0 := by omega
          have f1 : k + 0 < s.size := hlt
          have f3 : (k : Int) + 1 ≤ s.size := by omega
          have f4 : (k : Int) ≤ k + 1 := by omega
          have f5 : ((k : Int) + 1).toNat = k + 1 := by omega
          go_wp2_with fail
          refine (beg_no s k 0 _ f1 (by omega) 0 HN.out (Nat.lt_irrefl _)).mono ?_
          rintro e w9 ⟨rfl, g9⟩
          have h9' := h9.trans (g9.mono s9)
          clear g9 h9 s9 f3 f4 f5
          have h9 := h9'
          have s9 := h9.size
          have b9 : Below w.heap.size w w9 := hb.trans (h9.mono hw0)
          have hown9 := own_below HOWN.out h9
          have s9w : w.heap.size ≤ w9.heap.size := by omega
          have HQ : Hid (∀ W : World, Below w9.heap.size w9 W → W.ownsRow w.heap.size 70 3 (.slice A acc.length c) acc.length (pcells acc)) := Lib.hid (fun W hW => own_below hown9 hW)
          have hlt9 := hown9.lt
          have HLT := Lib.hid hlt9
          clear hown9 hlt9
          go_wp2_with (at_builtin; refine wpList_append_lies _ rfl _ _ 67 rfl w.heap.size 70 i0 _ 3 24 Tryd.underlying67 hi0 hz0 hz1 hz2 rfl (by decide) _ _ _ rfl (by refine HQ.out _ ?_; go_grown) ⟨w9.heap.size + 1, 0, none⟩ 1 1 [.int .i64 (65533), .int .i64 k, .int .i64 1] rfl rfl (three_cells _ _ _ _ _ (cell_new (by simp) rfl) (cell_new (by simp) rfl) (cell_new (by simp) rfl)) (three_oneCell _ _ _ _) (by omega) (by unfold maxLen; omega) (by omega) (by first | omega | (simp; omega)) _ rfl ?_)
          intro g cap w2 hown2 hgrow hat hlt2
          have hc2 : w2.cell? ⟨w9.heap.size, 2, none⟩ = some (.int .i64 1) := by
            refine hgrow.cell (cell_old1 rfl) ?_
            intro he
            have := (HLT.out _ he.symm).2
            simp at this
          have b2 : Below w.heap.size w w2 := below_grown (by go_grown) (by first | omega | (simp; omega)) (by refine HQ.out _ ?_; go_grown) hgrow
          have HR : Hid (Row w w2 (acc ++ [⟨65533, k, 1, false⟩]) (.slice (some ⟨g, 0, none⟩) (acc.length + 1) cap)) := Lib.hid (row_snoc (by simpa using hown2))
          have HV' : Hid ((acc ++ [⟨65533, k, 1, false⟩]) ++ piecesAt (k + 1) (s.data.toList.drop (k + 1)) = piecesAt 0 s.data.toList) := Lib.hid (by have := HT.out; unfold Told at this; rw [List.append_assoc]; exact this)
          clear hown2 hgrow hat HQ HLT h9 b9
          go_wp2_with fail
          go_roundw
          case rel =>
            obtain ⟨A', c', e1, o1⟩ := HR.out
            exact ⟨k + 1, A', c', acc ++ [⟨65533, k, 1, false⟩], p3x, by simp; omega, by go_num, e1, HV', o1, b2⟩
          case measure => simp [intOf]; omega
      · have HK : Hid (needN (s[k].toNat : Int) = K) := Lib.hid hK
        have HN : Hid (findN (s[k]'hlt) (s.data.toList.drop (k + 1)) = N) := Lib.hid (by rw [hfn, if_neg (by rw [hK]; exact hK0)]; rfl)
        have p3' : k + N ≤ s.size := p3
        have hkn : ((N : Int) == K) = false := by rw [beq_eq_false_iff_ne]; exact hNK
        clear hfn hK hNK p1 p2
        obtain rfl | rfl | rfl : N = 1 ∨ N = 2 ∨ N = 3 := by omega
        · have hkn2 : ((1 : Int) == K) = false := hkn
          clear hkn
          have p3x : k + 1 ≤ s.size := p3
          go_wp2_with fail
          go_loopw [5] (fun i wr => ∃ n : Nat, n ≤ 1 ∧ i = .int .i64 n ∧ Below w0.heap.size w0 wr) (fun i _ => 1 - (intOf i).toNat)
          case atStart => exact ⟨0, Nat.zero_le _, rfl, Below.refl _ _⟩
          case round =>
            obtain ⟨n, hn, rfl, h9⟩ := hrel
            have s9 := h9.size
            by_cases hnl : n < 1
            · have f1 : k + n < s.size := by omega
              have f2 : n < 4 := by omega
              have f3 : (k : Int) + n + 1 ≤ s.size := by omega
              have f4 : (k : Int) ≤ k + n + 1 := by omega
              have f5 : ((k : Int) + n + 1).toNat = k + n + 1 := by omega
              go_wp2_with fail
              refine (beg_yes s k n _ f1 f2 1 HN.out hnl).mono ?_
              rintro e w8 ⟨rfl, g8⟩
              have h8 := h9.trans (g8.mono s9)
              clear g8 f3 f4 f5
              go_wp2_with fail
              go_roundw
              case rel => exact ⟨n + 1, by omega, by go_num, h8⟩
              case measure => simp [intOf]; omega
            obtain rfl : n = 1 := by omega
            by_cases f1 : k + 1 < s.size
            · have f3 : (k : Int) + 1 + 1 ≤ s.size := by omega
              have f4 : (k : Int) ≤ k + 1 + 1 := by omega
              have f5 : ((k : Int) + 1 + 1).toNat = k + 1 + 1 := by omega
              go_wp2_with fail
              refine (beg_no s k 1 _ f1 (by omega) 1 HN.out (Nat.lt_irrefl _)).mono ?_
              rintro e w9 ⟨rfl, g9⟩
              have h9' := h9.trans (g9.mono s9)
              clear g9 h9 s9 f3 f4 f5
              have h9 := h9'
              have s9 := h9.size
              have b9 : Below w.heap.size w w9 := hb.trans (h9.mono hw0)
              have hown9 := own_below HOWN.out h9
              have s9w : w.heap.size ≤ w9.heap.size := by omega
              have HQ : Hid (∀ W : World, Below w9.heap.size w9 W → W.ownsRow w.heap.size 70 3 (.slice A acc.length c) acc.length (pcells acc)) := Lib.hid (fun W hW => own_below hown9 hW)
              have hlt9 := hown9.lt
              have HLT := Lib.hid hlt9
              clear hown9 hlt9
              go_wp2_with fail
              refine (need_any _ _ (by omega) (by omega)).mono ?_
              rintro e w' ⟨rfl, rfl⟩
              rw [HK.out]
              go_wp2_with (at_builtin; refine wpList_append_lies _ rfl _ _ 67 rfl w.heap.size 70 i0 _ 3 24 Tryd.underlying67 hi0 hz0 hz1 hz2 rfl (by decide) _ _ _ rfl (by refine HQ.out _ ?_; go_grown) ⟨w9.heap.size + 1, 0, none⟩ 1 1 [.int .i64 (65533), .int .i64 k, .int .i64 1] rfl rfl (three_cells _ _ _ _ _ (cell_new (by simp) rfl) (cell_new (by simp) rfl) (cell_new (by simp) rfl)) (three_oneCell _ _ _ _) (by omega) (by unfold maxLen; omega) (by omega) (by first | omega | (simp; omega)) _ rfl ?_)
              intro g cap w2 hown2 hgrow hat hlt2
              have hc2 : w2.cell? ⟨w9.heap.size, 2, none⟩ = some (.int .i64 1) := by
                refine hgrow.cell (cell_old1 rfl) ?_
                intro he
                have := (HLT.out _ he.symm).2
                simp at this
              have b2 : Below w.heap.size w w2 := below_grown (by go_grown) (by first | omega | (simp; omega)) (by refine HQ.out _ ?_; go_grown) hgrow
              have HR : Hid (Row w w2 (acc ++ [⟨65533, k, 1, false⟩]) (.slice (some ⟨g, 0, none⟩) (acc.length + 1) cap)) := Lib.hid (row_snoc (by simpa using hown2))
              have HV' : Hid ((acc ++ [⟨65533, k, 1, false⟩]) ++ piecesAt (k + 1) (s.data.toList.drop (k + 1)) = piecesAt 0 s.data.toList) := Lib.hid (by have := HT.out; unfold Told at this; rw [List.append_assoc]; exact this)
              clear hown2 hgrow hat HQ HLT h9 b9
              go_wp2_with fail
              go_roundw
              case rel =>
                obtain ⟨A', c', e1, o1⟩ := HR.out
                exact ⟨k + 1, A', c', acc ++ [⟨65533, k, 1, false⟩], p3x, by simp; omega, by go_num, e1, HV', o1, b2⟩
              case measure => simp [intOf]; omega
            · rename World => w9
              have b9 : Below w.heap.size w w9 := hb.trans (h9.mono hw0)
              have hown9 := own_below HOWN.out h9
              have s9w : w.heap.size ≤ w9.heap.size := by omega
              have HQ : Hid (∀ W : World, Below w9.heap.size w9 W → W.ownsRow w.heap.size 70 3 (.slice A acc.length c) acc.length (pcells acc)) := Lib.hid (fun W hW => own_below hown9 hW)
              have hlt9 := hown9.lt
              have HLT := Lib.hid hlt9
              clear hown9 hlt9
              go_wp2_with fail
              refine (need_any _ _ (by omega) (by omega)).mono ?_
              rintro e w' ⟨rfl, rfl⟩
              rw [HK.out]
              go_wp2_with (at_builtin; refine wpList_append_lies _ rfl _ _ 67 rfl w.heap.size 70 i0 _ 3 24 Tryd.underlying67 hi0 hz0 hz1 hz2 rfl (by decide) _ _ _ rfl (by refine HQ.out _ ?_; go_grown) ⟨w9.heap.size + 1, 0, none⟩ 1 1 [.int .i64 (65533), .int .i64 k, .int .i64 1] rfl rfl (three_cells _ _ _ _ _ (cell_new (by simp) rfl) (cell_new (by simp) rfl) (cell_new (by simp) rfl)) (three_oneCell _ _ _ _) (by omega) (by unfold maxLen; omega) (by omega) (by first | omega | (simp; omega)) _ rfl ?_)
              intro g cap w2 hown2 hgrow hat hlt2
              have hc2 : w2.cell? ⟨w9.heap.size, 2, none⟩ = some (.int .i64 1) := by
                refine hgrow.cell (cell_old1 rfl) ?_
                intro he
                have := (HLT.out _ he.symm).2
                simp at this
              have b2 : Below w.heap.size w w2 := below_grown (by go_grown) (by first | omega | (simp; omega)) (by refine HQ.out _ ?_; go_grown) hgrow
              have HR : Hid (Row w w2 (acc ++ [⟨65533, k, 1, false⟩]) (.slice (some ⟨g, 0, none⟩) (acc.length + 1) cap)) := Lib.hid (row_snoc (by simpa using hown2))
              have HV' : Hid ((acc ++ [⟨65533, k, 1, false⟩]) ++ piecesAt (k + 1) (s.data.toList.drop (k + 1)) = piecesAt 0 s.data.toList) := Lib.hid (by have := HT.out; unfold Told at this; rw [List.append_assoc]; exact this)
              clear hown2 hgrow hat HQ HLT h9 b9
              go_wp2_with fail
              go_roundw
              case rel =>
                obtain ⟨A', c', e1, o1⟩ := HR.out
                exact ⟨k + 1, A', c', acc ++ [⟨65533, k, 1, false⟩], p3x, by simp; omega, by go_num, e1, HV', o1, b2⟩
              case measure => simp [intOf]; omega
        · have hkn2 : ((2 : Int) == K) = false := hkn
          clear hkn
          have p3x : k + 2 ≤ s.size := p3
          go_wp2_with fail
          go_loopw [5] (fun i wr => ∃ n : Nat, n ≤ 2 ∧ i = .int .i64 n ∧ Below w0.heap.size w0 wr) (fun i _ => 2 - (intOf i).toNat)
          case atStart => exact ⟨0, Nat.zero_le _, rfl, Below.refl _ _⟩
          case round =>
            obtain ⟨n, hn, rfl, h9⟩ := hrel
            have s9 := h9.size
            by_cases hnl : n < 2
            · have f1 : k + n < s.size := by omega
              have f2 : n < 4 := by omega
              have f3 : (k : Int) + n + 1 ≤ s.size := by omega
              have f4 : (k : Int) ≤ k + n + 1 := by omega
              have f5 : ((k : Int) + n + 1).toNat = k + n + 1 := by omega
              go_wp2_with fail
              refine (beg_yes s k n _ f1 f2 2 HN.out hnl).mono ?_
              rintro e w8 ⟨rfl, g8⟩
              have h8 := h9.trans (g8.mono s9)
              clear g8 f3 f4 f5
              go_wp2_with fail
              go_roundw
              case rel => exact ⟨n + 1, by omega, by go_num, h8⟩
              case measure => simp [intOf]; omega
            obtain rfl : n = 2 := by omega
            by_cases f1 : k + 2 < s.size
            · have f3 : (k : Int) + 2 + 1 ≤ s.size := by omega
              have f4 : (k : Int) ≤ k + 2 + 1 := by omega
              have f5 : ((k : Int) + 2 + 1).toNat = k + 2 + 1 := by omega
              go_wp2_with fail
              refine (beg_no s k 2 _ f1 (by omega) 2 HN.out (Nat.lt_irrefl _)).mono ?_
              rintro e w9 ⟨rfl, g9⟩
              have h9' := h9.trans (g9.mono s9)
              clear g9 h9 s9 f3 f4 f5
              have h9 := h9'
              have s9 := h9.size
              have b9 : Below w.heap.size w w9 := hb.trans (h9.mono hw0)
              have hown9 := own_below HOWN.out h9
              have s9w : w.heap.size ≤ w9.heap.size := by omega
              have HQ : Hid (∀ W : World, Below w9.heap.size w9 W → W.ownsRow w.heap.size 70 3 (.slice A acc.length c) acc.length (pcells acc)) := Lib.hid (fun W hW => own_below hown9 hW)
              have hlt9 := hown9.lt
              have HLT := Lib.hid hlt9
              clear hown9 hlt9
              go_wp2_with fail
              refine (need_any _ _ (by omega) (by omega)).mono ?_
              rintro e w' ⟨rfl, rfl⟩
              rw [HK.out]
              go_wp2_with (at_builtin; refine wpList_append_lies _ rfl _ _ 67 rfl w.heap.size 70 i0 _ 3 24 Tryd.underlying67 hi0 hz0 hz1 hz2 rfl (by decide) _ _ _ rfl (by refine HQ.out _ ?_; go_grown) ⟨w9.heap.size + 1, 0, none⟩ 1 1 [.int .i64 (65533), .int .i64 k, .int .i64 2] rfl rfl (three_cells _ _ _ _ _ (cell_new (by simp) rfl) (cell_new (by simp) rfl) (cell_new (by simp) rfl)) (three_oneCell _ _ _ _) (by omega) (by unfold maxLen; omega) (by omega) (by first | omega | (simp; omega)) _ rfl ?_)
              intro g cap w2 hown2 hgrow hat hlt2
              have hc2 : w2.cell? ⟨w9.heap.size, 2, none⟩ = some (.int .i64 2) := by
                refine hgrow.cell (cell_old1 rfl) ?_
                intro he
                have := (HLT.out _ he.symm).2
                simp at this
              have b2 : Below w.heap.size w w2 := below_grown (by go_grown) (by first | omega | (simp; omega)) (by refine HQ.out _ ?_; go_grown) hgrow
              have HR : Hid (Row w w2 (acc ++ [⟨65533, k, 2, false⟩]) (.slice (some ⟨g, 0, none⟩) (acc.length + 1) cap)) := Lib.hid (row_snoc (by simpa using hown2))
              have HV' : Hid ((acc ++ [⟨65533, k, 2, false⟩]) ++ piecesAt (k + 2) (s.data.toList.drop (k + 2)) = piecesAt 0 s.data.toList) := Lib.hid (by have := HT.out; unfold Told at this; rw [List.append_assoc]; exact this)
              clear hown2 hgrow hat HQ HLT h9 b9
              go_wp2_with fail
              go_roundw
              case rel =>
                obtain ⟨A', c', e1, o1⟩ := HR.out
                exact ⟨k + 2, A', c', acc ++ [⟨65533, k, 2, false⟩], p3x, by simp; omega, by go_num, e1, HV', o1, b2⟩
              case measure => simp [intOf]; omega
            · rename World => w9
              have b9 : Below w.heap.size w w9 := hb.trans (h9.mono hw0)
              have hown9 := own_below HOWN.out h9
              have s9w : w.heap.size ≤ w9.heap.size := by omega
              have HQ : Hid (∀ W : World, Below w9.heap.size w9 W → W.ownsRow w.heap.size 70 3 (.slice A acc.length c) acc.length (pcells acc)) := Lib.hid (fun W hW => own_below hown9 hW)
              have hlt9 := hown9.lt
              have HLT := Lib.hid hlt9
              clear hown9 hlt9
              go_wp2_with fail
              refine (need_any _ _ (by omega) (by omega)).mono ?_
              rintro e w' ⟨rfl, rfl⟩
              rw [HK.out]
              go_wp2_with (at_builtin; refine wpList_append_lies _ rfl _ _ 67 rfl w.heap.size 70 i0 _ 3 24 Tryd.underlying67 hi0 hz0 hz1 hz2 rfl (by decide) _ _ _ rfl (by refine HQ.out _ ?_; go_grown) ⟨w9.heap.size + 1, 0, none⟩ 1 1 [.int .i64 (65533), .int .i64 k, .int .i64 2] rfl rfl (three_cells _ _ _ _ _ (cell_new (by simp) rfl) (cell_new (by simp) rfl) (cell_new (by simp) rfl)) (three_oneCell _ _ _ _) (by omega) (by unfold maxLen; omega) (by omega) (by first | omega | (simp; omega)) _ rfl ?_)
              intro g cap w2 hown2 hgrow hat hlt2
              have hc2 : w2.cell? ⟨w9.heap.size, 2, none⟩ = some (.int .i64 2) := by
                refine hgrow.cell (cell_old1 rfl) ?_
                intro he
                have := (HLT.out _ he.symm).2
                simp at this
              have b2 : Below w.heap.size w w2 := below_grown (by go_grown) (by first | omega | (simp; omega)) (by refine HQ.out _ ?_; go_grown) hgrow
              have HR : Hid (Row w w2 (acc ++ [⟨65533, k, 2, false⟩]) (.slice (some ⟨g, 0, none⟩) (acc.length + 1) cap)) := Lib.hid (row_snoc (by simpa using hown2))
              have HV' : Hid ((acc ++ [⟨65533, k, 2, false⟩]) ++ piecesAt (k + 2) (s.data.toList.drop (k + 2)) = piecesAt 0 s.data.toList) := Lib.hid (by have := HT.out; unfold Told at this; rw [List.append_assoc]; exact this)
              clear hown2 hgrow hat HQ HLT h9 b9
              go_wp2_with fail
              go_roundw
              case rel =>
                obtain ⟨A', c', e1, o1⟩ := HR.out
                exact ⟨k + 2, A', c', acc ++ [⟨65533, k, 2, false⟩], p3x, by simp; omega, by go_num, e1, HV', o1, b2⟩
              case measure => simp [intOf]; omega
        · have hkn2 : ((3 : Int) == K) = false := hkn
          clear hkn
          have p3x : k + 3 ≤ s.size := p3
          go_wp2_with fail
          go_loopw [5] (fun i wr => ∃ n : Nat, n ≤ 3 ∧ i = .int .i64 n ∧ Below w0.heap.size w0 wr) (fun i _ => 3 - (intOf i).toNat)
          case atStart => exact ⟨0, Nat.zero_le _, rfl, Below.refl _ _⟩
          case round =>
            obtain ⟨n, hn, rfl, h9⟩ := hrel
            have s9 := h9.size
            by_cases hnl : n < 3
            · have f1 : k + n < s.size := by omega
              have f2 : n < 4 := by omega
              have f3 : (k : Int) + n + 1 ≤ s.size := by omega
              have f4 : (k : Int) ≤ k + n + 1 := by omega
              have f5 : ((k : Int) + n + 1).toNat = k + n + 1 := by omega
              go_wp2_with fail
              refine (beg_yes s k n _ f1 f2 3 HN.out hnl).mono ?_
              rintro e w8 ⟨rfl, g8⟩
              have h8 := h9.trans (g8.mono s9)
              clear g8 f3 f4 f5
              go_wp2_with fail
              go_roundw
              case rel => exact ⟨n + 1, by omega, by go_num, h8⟩
              case measure => simp [intOf]; omega
            obtain rfl : n = 3 := by omega
            by_cases f1 : k + 3 < s.size
            · have f3 : (k : Int) + 3 + 1 ≤ s.size := by omega
              have f4 : (k : Int) ≤ k + 3 + 1 := by omega
              have f5 : ((k : Int) + 3 + 1).toNat = k + 3 + 1 := by omega
              go_wp2_with fail
              refine (beg_no s k 3 _ f1 (by omega) 3 HN.out (Nat.lt_irrefl _)).mono ?_
              rintro e w9 ⟨rfl, g9⟩
              have h9' := h9.trans (g9.mono s9)
              clear g9 h9 s9 f3 f4 f5
              have h9 := h9'
              have s9 := h9.size
              have b9 : Below w.heap.size w w9 := hb.trans (h9.mono hw0)
              have hown9 := own_below HOWN.out h9
              have s9w : w.heap.size ≤ w9.heap.size := by omega
              have HQ : Hid (∀ W : World, Below w9.heap.size w9 W → W.ownsRow w.heap.size 70 3 (.slice A acc.length c) acc.length (pcells acc)) := Lib.hid (fun W hW => own_below hown9 hW)
              have hlt9 := hown9.lt
              have HLT := Lib.hid hlt9
              clear hown9 hlt9
              go_wp2_with fail
              refine (need_any _ _ (by omega) (by omega)).mono ?_
              rintro e w' ⟨rfl, rfl⟩
              rw [HK.out]
              go_wp2_with (at_builtin; refine wpList_append_lies _ rfl _ _ 67 rfl w.heap.size 70 i0 _ 3 24 Tryd.underlying67 hi0 hz0 hz1 hz2 rfl (by decide) _ _ _ rfl (by refine HQ.out _ ?_; go_grown) ⟨w9.heap.size + 1, 0, none⟩ 1 1 [.int .i64 (65533), .int .i64 k, .int .i64 3] rfl rfl (three_cells _ _ _ _ _ (cell_new (by simp) rfl) (cell_new (by simp) rfl) (cell_new (by simp) rfl)) (three_oneCell _ _ _ _) (by omega) (by unfold maxLen; omega) (by omega) (by first | omega | (simp; omega)) _ rfl ?_)
              intro g cap w2 hown2 hgrow hat hlt2
              have hc2 : w2.cell? ⟨w9.heap.size, 2, none⟩ = some (.int .i64 3) := by
                refine hgrow.cell (cell_old1 rfl) ?_
                intro he
                have := (HLT.out _ he.symm).2
                simp at this
              have b2 : Below w.heap.size w w2 := below_grown (by go_grown) (by first | omega | (simp; omega)) (by refine HQ.out _ ?_; go_grown) hgrow
              have HR : Hid (Row w w2 (acc ++ [⟨65533, k, 3, false⟩]) (.slice (some ⟨g, 0, none⟩) (acc.length + 1) cap)) := Lib.hid (row_snoc (by simpa using hown2))
              have HV' : Hid ((acc ++ [⟨65533, k, 3, false⟩]) ++ piecesAt (k + 3) (s.data.toList.drop (k + 3)) = piecesAt 0 s.data.toList) := Lib.hid (by have := HT.out; unfold Told at this; rw [List.append_assoc]; exact this)
              clear hown2 hgrow hat HQ HLT h9 b9
              go_wp2_with fail
              go_roundw
              case rel =>
                obtain ⟨A', c', e1, o1⟩ := HR.out
                exact ⟨k + 3, A', c', acc ++ [⟨65533, k, 3, false⟩], p3x, by simp; omega, by go_num, e1, HV', o1, b2⟩
              case measure => simp [intOf]; omega
            · rename World => w9
              have b9 : Below w.heap.size w w9 := hb.trans (h9.mono hw0)
              have hown9 := own_below HOWN.out h9
              have s9w : w.heap.size ≤ w9.heap.size := by omega
              have HQ : Hid (∀ W : World, Below w9.heap.size w9 W → W.ownsRow w.heap.size 70 3 (.slice A acc.length c) acc.length (pcells acc)) := Lib.hid (fun W hW => own_below hown9 hW)
              have hlt9 := hown9.lt
              have HLT := Lib.hid hlt9
              clear hown9 hlt9
              go_wp2_with fail
              refine (need_any _ _ (by omega) (by omega)).mono ?_
              rintro e w' ⟨rfl, rfl⟩
              rw [HK.out]
              go_wp2_with (at_builtin; refine wpList_append_lies _ rfl _ _ 67 rfl w.heap.size 70 i0 _ 3 24 Tryd.underlying67 hi0 hz0 hz1 hz2 rfl (by decide) _ _ _ rfl (by refine HQ.out _ ?_; go_grown) ⟨w9.heap.size + 1, 0, none⟩ 1 1 [.int .i64 (65533), .int .i64 k, .int .i64 3] rfl rfl (three_cells _ _ _ _ _ (cell_new (by simp) rfl) (cell_new (by simp) rfl) (cell_new (by simp) rfl)) (three_oneCell _ _ _ _) (by omega) (by unfold maxLen; omega) (by omega) (by first | omega | (simp; omega)) _ rfl ?_)
              intro g cap w2 hown2 hgrow hat hlt2
              have hc2 : w2.cell? ⟨w9.heap.size, 2, none⟩ = some (.int .i64 3) := by
                refine hgrow.cell (cell_old1 rfl) ?_
                intro he
                have := (HLT.out _ he.symm).2
                simp at this
              have b2 : Below w.heap.size w w2 := below_grown (by go_grown) (by first | omega | (simp; omega)) (by refine HQ.out _ ?_; go_grown) hgrow
              have HR : Hid (Row w w2 (acc ++ [⟨65533, k, 3, false⟩]) (.slice (some ⟨g, 0, none⟩) (acc.length + 1) cap)) := Lib.hid (row_snoc (by simpa using hown2))
              have HV' : Hid ((acc ++ [⟨65533, k, 3, false⟩]) ++ piecesAt (k + 3) (s.data.toList.drop (k + 3)) = piecesAt 0 s.data.toList) := Lib.hid (by have := HT.out; unfold Told at this; rw [List.append_assoc]; exact this)
              clear hown2 hgrow hat HQ HLT h9 b9
              go_wp2_with fail
              go_roundw
              case rel =>
                obtain ⟨A', c', e1, o1⟩ := HR.out
                exact ⟨k + 3, A', c', acc ++ [⟨65533, k, 3, false⟩], p3x, by simp; omega, by go_num, e1, HV', o1, b2⟩
              case measure => simp [intOf]; omega
      · have x1 : s[k].toNat < 128 := by unfold nb at hx; omega
        have HK : Hid (needN (s[k].toNat : Int) = 1) := Lib.hid (needN1 (by omega))
        have HN : Hid (findN (s[k]'hlt) (s.data.toList.drop (k + 1)) = 1) := Lib.hid (by rw [hfn, if_neg (by unfold nb; rw [HK.out]; omega)])
        clear hfn hx p1 p2
        have p3x : k + 1 ≤ s.size := p3
        go_wp2_with fail
        go_loopw [5] (fun i wr => ∃ n : Nat, n ≤ 1 ∧ i = .int .i64 n ∧ Below w0.heap.size w0 wr) (fun i _ => 1 - (intOf i).toNat)
        case atStart => exact ⟨0, Nat.zero_le _, rfl, Below.refl _ _⟩
        case round =>
          obtain ⟨n, hn, rfl, h9⟩ := hrel
          have s9 := h9.size
          by_cases hnl : n < 1
          · have f1 : k + n < s.size := by omega
            have f2 : n < 4 := by omega
            have f3 : (k : Int) + n + 1 ≤ s.size := by omega
            have f4 : (k : Int) ≤ k + n + 1 := by omega
            have f5 : ((k : Int) + n + 1).toNat = k + n + 1 := by omega
            go_wp2_with fail
            refine (beg_yes s k n _ f1 f2 1 HN.out hnl).mono ?_
            rintro e w8 ⟨rfl, g8⟩
            have h8 := h9.trans (g8.mono s9)
            clear g8 f3 f4 f5
            go_wp2_with fail
            go_roundw
            case rel => exact ⟨n + 1, by omega, by go_num, h8⟩
            case measure => simp [intOf]; omega
          obtain rfl : n = 1 := by omega
          by_cases f1 : k + 1 < s.size
          · have f3 : (k : Int) + 1 + 1 ≤ s.size := by omega
            have f4 : (k : Int) ≤ k + 1 + 1 := by omega
            have f5 : ((k : Int) + 1 + 1).toNat = k + 1 + 1 := by omega
            go_wp2_with fail
            refine (beg_no s k 1 _ f1 (by omega) 1 HN.out (Nat.lt_irrefl _)).mono ?_
            rintro e w9 ⟨rfl, g9⟩
            have h9' := h9.trans (g9.mono s9)
            clear g9 h9 s9 f3 f4 f5
            have h9 := h9'
            have s9 := h9.size
            have b9 : Below w.heap.size w w9 := hb.trans (h9.mono hw0)
            have hown9 := own_below HOWN.out h9
            have s9w : w.heap.size ≤ w9.heap.size := by omega
            have HQ : Hid (∀ W : World, Below w9.heap.size w9 W → W.ownsRow w.heap.size 70 3 (.slice A acc.length c) acc.length (pcells acc)) := Lib.hid (fun W hW => own_below hown9 hW)
            have hlt9 := hown9.lt
            have HLT := Lib.hid hlt9
            clear hown9 hlt9
            go_wp2_with fail
            refine (need_any _ _ (by omega) (by omega)).mono ?_
            rintro e w' ⟨rfl, rfl⟩
            rw [HK.out]
            go_wp2_with fail
            refine wp_loop_rounds 1 ?_
            rw [rounds_succ]
            go_wp2_with (at_builtin; refine wpList_append_lies _ rfl _ _ 67 rfl w.heap.size 70 i0 _ 3 24 Tryd.underlying67 hi0 hz0 hz1 hz2 rfl (by decide) _ _ _ rfl (by refine HQ.out _ ?_; go_grown) ⟨w9.heap.size + 1, 0, none⟩ 1 1 [.int .i64 ((s[k].toNat : Int)), .int .i64 k, .int .i64 1] rfl rfl (three_cells _ _ _ _ _ (cell_new (by simp) rfl) (cell_new (by simp) rfl) (cell_new (by simp) rfl)) (three_oneCell _ _ _ _) (by omega) (by unfold maxLen; omega) (by omega) (by first | omega | (simp; omega)) _ rfl ?_)
            intro g cap w2 hown2 hgrow hat hlt2
            have hc2 : w2.cell? ⟨w9.heap.size, 2, none⟩ = some (.int .i64 1) := by
              refine hgrow.cell (cell_old1 rfl) ?_
              intro he
              have := (HLT.out _ he.symm).2
              simp at this
            have b2 : Below w.heap.size w w2 := below_grown (by go_grown) (by first | omega | (simp; omega)) (by refine HQ.out _ ?_; go_grown) hgrow
            have HR : Hid (Row w w2 (acc ++ [⟨(s[k].toNat : Int), k, 1, true⟩]) (.slice (some ⟨g, 0, none⟩) (acc.length + 1) cap)) := Lib.hid (row_snoc (by simpa using hown2))
            have HV' : Hid ((acc ++ [⟨(s[k].toNat : Int), k, 1, true⟩]) ++ piecesAt (k + 1) (s.data.toList.drop (k + 1)) = piecesAt 0 s.data.toList) := Lib.hid (by have := HT.out; unfold Told at this; rw [List.append_assoc]; exact this)
            clear hown2 hgrow hat HQ HLT h9 b9
            go_wp2_with fail
            go_roundw
            case rel =>
              obtain ⟨A', c', e1, o1⟩ := HR.out
              exact ⟨k + 1, A', c', acc ++ [⟨(s[k].toNat : Int), k, 1, true⟩], p3x, by simp; omega, by go_num, e1, HV', o1, b2⟩
            case measure => simp [intOf]; omega
          · rename World => w9
            have b9 : Below w.heap.size w w9 := hb.trans (h9.mono hw0)
            have hown9 := own_below HOWN.out h9
            have s9w : w.heap.size ≤ w9.heap.size := by omega
            have HQ : Hid (∀ W : World, Below w9.heap.size w9 W → W.ownsRow w.heap.size 70 3 (.slice A acc.length c) acc.length (pcells acc)) := Lib.hid (fun W hW => own_below hown9 hW)
            have hlt9 := hown9.lt
            have HLT := Lib.hid hlt9
            clear hown9 hlt9
            go_wp2_with fail
            refine (need_any _ _ (by omega) (by omega)).mono ?_
            rintro e w' ⟨rfl, rfl⟩
            rw [HK.out]
            go_wp2_with fail
            refine wp_loop_rounds 1 ?_
            rw [rounds_succ]
            go_wp2_with (at_builtin; refine wpList_append_lies _ rfl _ _ 67 rfl w.heap.size 70 i0 _ 3 24 Tryd.underlying67 hi0 hz0 hz1 hz2 rfl (by decide) _ _ _ rfl (by refine HQ.out _ ?_; go_grown) ⟨w9.heap.size + 1, 0, none⟩ 1 1 [.int .i64 ((s[k].toNat : Int)), .int .i64 k, .int .i64 1] rfl rfl (three_cells _ _ _ _ _ (cell_new (by simp) rfl) (cell_new (by simp) rfl) (cell_new (by simp) rfl)) (three_oneCell _ _ _ _) (by omega) (by unfold maxLen; omega) (by omega) (by first | omega | (simp; omega)) _ rfl ?_)
            intro g cap w2 hown2 hgrow hat hlt2
            have hc2 : w2.cell? ⟨w9.heap.size, 2, none⟩ = some (.int .i64 1) := by
              refine hgrow.cell (cell_old1 rfl) ?_
              intro he
              have := (HLT.out _ he.symm).2
              simp at this
            have b2 : Below w.heap.size w w2 := below_grown (by go_grown) (by first | omega | (simp; omega)) (by refine HQ.out _ ?_; go_grown) hgrow
            have HR : Hid (Row w w2 (acc ++ [⟨(s[k].toNat : Int), k, 1, true⟩]) (.slice (some ⟨g, 0, none⟩) (acc.length + 1) cap)) := Lib.hid (row_snoc (by simpa using hown2))
            have HV' : Hid ((acc ++ [⟨(s[k].toNat : Int), k, 1, true⟩]) ++ piecesAt (k + 1) (s.data.toList.drop (k + 1)) = piecesAt 0 s.data.toList) := Lib.hid (by have := HT.out; unfold Told at this; rw [List.append_assoc]; exact this)
            clear hown2 hgrow hat HQ HLT h9 b9
            go_wp2_with fail
            go_roundw
            case rel =>
              obtain ⟨A', c', e1, o1⟩ := HR.out
              exact ⟨k + 1, A', c', acc ++ [⟨(s[k].toNat : Int), k, 1, true⟩], p3x, by simp; omega, by go_num, e1, HV', o1, b2⟩
            case measure => simp [intOf]; omega
      · obtain ⟨k1, rfl, _⟩ := drop_head hr
        unfold nb at x0 x1
        unfold tl nb at hy
        obtain ⟨y0, y1⟩ := hy
        have HK : Hid (needN (s[k].toNat : Int) = 2) := Lib.hid (needN2 (by omega) (by omega))
        have HN : Hid (findN (s[k]'hlt) (s.data.toList.drop (k + 1)) = 2) := Lib.hid (by rw [hfn, if_neg (by unfold nb; rw [HK.out]; omega)])
        clear hfn hr p1 p2
        have p3x : k + 2 ≤ s.size := p3
        go_wp2_with fail
        go_loopw [5] (fun i wr => ∃ n : Nat, n ≤ 2 ∧ i = .int .i64 n ∧ Below w0.heap.size w0 wr) (fun i _ => 2 - (intOf i).toNat)
        case atStart => exact ⟨0, Nat.zero_le _, rfl, Below.refl _ _⟩
        case round =>
          obtain ⟨n, hn, rfl, h9⟩ := hrel
          have s9 := h9.size
          by_cases hnl : n < 2
          · have f1 : k + n < s.size := by omega
            have f2 : n < 4 := by omega
            have f3 : (k : Int) + n + 1 ≤ s.size := by omega
            have f4 : (k : Int) ≤ k + n + 1 := by omega
            have f5 : ((k : Int) + n + 1).toNat = k + n + 1 := by omega
            go_wp2_with fail
            refine (beg_yes s k n _ f1 f2 2 HN.out hnl).mono ?_
            rintro e w8 ⟨rfl, g8⟩
            have h8 := h9.trans (g8.mono s9)
            clear g8 f3 f4 f5
            go_wp2_with fail
            go_roundw
            case rel => exact ⟨n + 1, by omega, by go_num, h8⟩
            case measure => simp [intOf]; omega
          obtain rfl : n = 2 := by omega
          by_cases f1 : k + 2 < s.size
          · have f3 : (k : Int) + 2 + 1 ≤ s.size := by omega
            have f4 : (k : Int) ≤ k + 2 + 1 := by omega
            have f5 : ((k : Int) + 2 + 1).toNat = k + 2 + 1 := by omega
            go_wp2_with fail
            refine (beg_no s k 2 _ f1 (by omega) 2 HN.out (Nat.lt_irrefl _)).mono ?_
            rintro e w9 ⟨rfl, g9⟩
            have h9' := h9.trans (g9.mono s9)
            clear g9 h9 s9 f3 f4 f5
            have h9 := h9'
            have s9 := h9.size
            have b9 : Below w.heap.size w w9 := hb.trans (h9.mono hw0)
            have hown9 := own_below HOWN.out h9
            have s9w : w.heap.size ≤ w9.heap.size := by omega
            have HQ : Hid (∀ W : World, Below w9.heap.size w9 W → W.ownsRow w.heap.size 70 3 (.slice A acc.length c) acc.length (pcells acc)) := Lib.hid (fun W hW => own_below hown9 hW)
            have hlt9 := hown9.lt
            have HLT := Lib.hid hlt9
            clear hown9 hlt9
            go_wp2_with fail
            refine (need_any _ _ (by omega) (by omega)).mono ?_
            rintro e w' ⟨rfl, rfl⟩
            rw [HK.out]
            go_wp2_with fail
            refine wp_loop_rounds 2 ?_
            rw [rounds_succ]
            go_wp2_with fail
            rw [rounds_succ]
            go_wp2_with (at_builtin; refine wpList_append_lies _ rfl _ _ 67 rfl w.heap.size 70 i0 _ 3 24 Tryd.underlying67 hi0 hz0 hz1 hz2 rfl (by decide) _ _ _ rfl (by refine HQ.out _ ?_; go_grown) ⟨w9.heap.size + 2, 0, none⟩ 1 1 [.int .i64 (((s[k].toNat : Int) - 192) * 64 + (s[k + 1].toNat : Int) - 128), .int .i64 k, .int .i64 2] rfl rfl (three_cells _ _ _ _ _ (cell_new (by simp) rfl) (cell_new (by simp) rfl) (cell_new (by simp) rfl)) (three_oneCell _ _ _ _) (by omega) (by unfold maxLen; omega) (by omega) (by first | omega | (simp; omega)) _ rfl ?_)
            intro g cap w2 hown2 hgrow hat hlt2
            have hc2 : w2.cell? ⟨w9.heap.size, 2, none⟩ = some (.int .i64 2) := by
              refine hgrow.cell (cell_old2 rfl) ?_
              intro he
              have := (HLT.out _ he.symm).2
              simp at this
            have b2 : Below w.heap.size w w2 := below_grown (by go_grown) (by first | omega | (simp; omega)) (by refine HQ.out _ ?_; go_grown) hgrow
            have HR : Hid (Row w w2 (acc ++ [⟨((s[k].toNat : Int) - 192) * 64 + (s[k + 1].toNat : Int) - 128, k, 2, true⟩]) (.slice (some ⟨g, 0, none⟩) (acc.length + 1) cap)) := Lib.hid (row_snoc (by simpa using hown2))
            have HV' : Hid ((acc ++ [⟨((s[k].toNat : Int) - 192) * 64 + (s[k + 1].toNat : Int) - 128, k, 2, true⟩]) ++ piecesAt (k + 2) (s.data.toList.drop (k + 2)) = piecesAt 0 s.data.toList) := Lib.hid (by have := HT.out; unfold Told at this; rw [List.append_assoc]; exact this)
            clear hown2 hgrow hat HQ HLT h9 b9
            go_wp2_with fail
            go_roundw
            case rel =>
              obtain ⟨A', c', e1, o1⟩ := HR.out
              exact ⟨k + 2, A', c', acc ++ [⟨((s[k].toNat : Int) - 192) * 64 + (s[k + 1].toNat : Int) - 128, k, 2, true⟩], p3x, by simp; omega, by go_num, e1, HV', o1, b2⟩
            case measure => simp [intOf]; omega
          · rename World => w9
            have b9 : Below w.heap.size w w9 := hb.trans (h9.mono hw0)
            have hown9 := own_below HOWN.out h9
            have s9w : w.heap.size ≤ w9.heap.size := by omega
            have HQ : Hid (∀ W : World, Below w9.heap.size w9 W → W.ownsRow w.heap.size 70 3 (.slice A acc.length c) acc.length (pcells acc)) := Lib.hid (fun W hW => own_below hown9 hW)
            have hlt9 := hown9.lt
            have HLT := Lib.hid hlt9
            clear hown9 hlt9
            go_wp2_with fail
            refine (need_any _ _ (by omega) (by omega)).mono ?_
            rintro e w' ⟨rfl, rfl⟩
            rw [HK.out]
            go_wp2_with fail
            refine wp_loop_rounds 2 ?_
            rw [rounds_succ]
            go_wp2_with fail
            rw [rounds_succ]
            go_wp2_with (at_builtin; refine wpList_append_lies _ rfl _ _ 67 rfl w.heap.size 70 i0 _ 3 24 Tryd.underlying67 hi0 hz0 hz1 hz2 rfl (by decide) _ _ _ rfl (by refine HQ.out _ ?_; go_grown) ⟨w9.heap.size + 2, 0, none⟩ 1 1 [.int .i64 (((s[k].toNat : Int) - 192) * 64 + (s[k + 1].toNat : Int) - 128), .int .i64 k, .int .i64 2] rfl rfl (three_cells _ _ _ _ _ (cell_new (by simp) rfl) (cell_new (by simp) rfl) (cell_new (by simp) rfl)) (three_oneCell _ _ _ _) (by omega) (by unfold maxLen; omega) (by omega) (by first | omega | (simp; omega)) _ rfl ?_)
            intro g cap w2 hown2 hgrow hat hlt2
            have hc2 : w2.cell? ⟨w9.heap.size, 2, none⟩ = some (.int .i64 2) := by
              refine hgrow.cell (cell_old2 rfl) ?_
              intro he
              have := (HLT.out _ he.symm).2
              simp at this
            have b2 : Below w.heap.size w w2 := below_grown (by go_grown) (by first | omega | (simp; omega)) (by refine HQ.out _ ?_; go_grown) hgrow
            have HR : Hid (Row w w2 (acc ++ [⟨((s[k].toNat : Int) - 192) * 64 + (s[k + 1].toNat : Int) - 128, k, 2, true⟩]) (.slice (some ⟨g, 0, none⟩) (acc.length + 1) cap)) := Lib.hid (row_snoc (by simpa using hown2))
            have HV' : Hid ((acc ++ [⟨((s[k].toNat : Int) - 192) * 64 + (s[k + 1].toNat : Int) - 128, k, 2, true⟩]) ++ piecesAt (k + 2) (s.data.toList.drop (k + 2)) = piecesAt 0 s.data.toList) := Lib.hid (by have := HT.out; unfold Told at this; rw [List.append_assoc]; exact this)
            clear hown2 hgrow hat HQ HLT h9 b9
            go_wp2_with fail
            go_roundw
            case rel =>
              obtain ⟨A', c', e1, o1⟩ := HR.out
              exact ⟨k + 2, A', c', acc ++ [⟨((s[k].toNat : Int) - 192) * 64 + (s[k + 1].toNat : Int) - 128, k, 2, true⟩], p3x, by simp; omega, by go_num, e1, HV', o1, b2⟩
            case measure => simp [intOf]; omega
      · obtain ⟨k1, rfl, hr2⟩ := drop_head hr
        obtain ⟨k2, rfl, _⟩ := drop_head hr2
        unfold nb at x0 x1
        unfold tl nb at hy hz
        obtain ⟨y0, y1⟩ := hy
        have k2' : k + 2 < s.size := k2
        have z0 : 128 ≤ (s[k + 2]'k2').toNat := by have := hz.1; exact Int.ofNat_le.1 this
        have z1 : (s[k + 2]'k2').toNat < 192 := by have := hz.2; exact Int.ofNat_lt.1 this
        have HK : Hid (needN (s[k].toNat : Int) = 3) := Lib.hid (needN3 (by omega) (by omega))
        have HN : Hid (findN (s[k]'hlt) (s.data.toList.drop (k + 1)) = 3) := Lib.hid (by rw [hfn, if_neg (by unfold nb; rw [HK.out]; omega)])
        clear hfn hr hr2 p1 p2 hz
        have p3x : k + 3 ≤ s.size := p3
        go_wp2_with fail
        go_loopw [5] (fun i wr => ∃ n : Nat, n ≤ 3 ∧ i = .int .i64 n ∧ Below w0.heap.size w0 wr) (fun i _ => 3 - (intOf i).toNat)
        case atStart => exact ⟨0, Nat.zero_le _, rfl, Below.refl _ _⟩
        case round =>
          obtain ⟨n, hn, rfl, h9⟩ := hrel
          have s9 := h9.size
          by_cases hnl : n < 3
          · have f1 : k + n < s.size := by omega
            have f2 : n < 4 := by omega
            have f3 : (k : Int) + n + 1 ≤ s.size := by omega
            have f4 : (k : Int) ≤ k + n + 1 := by omega
            have f5 : ((k : Int) + n + 1).toNat = k + n + 1 := by omega
            go_wp2_with fail
            refine (beg_yes s k n _ f1 f2 3 HN.out hnl).mono ?_
            rintro e w8 ⟨rfl, g8⟩
            have h8 := h9.trans (g8.mono s9)
            clear g8 f3 f4 f5
            go_wp2_with fail
            go_roundw
            case rel => exact ⟨n + 1, by omega, by go_num, h8⟩
            case measure => simp [intOf]; omega
          obtain rfl : n = 3 := by omega
          by_cases f1 : k + 3 < s.size
          · have f3 : (k : Int) + 3 + 1 ≤ s.size := by omega
            have f4 : (k : Int) ≤ k + 3 + 1 := by omega
            have f5 : ((k : Int) + 3 + 1).toNat = k + 3 + 1 := by omega
            go_wp2_with fail
            refine (beg_no s k 3 _ f1 (by omega) 3 HN.out (Nat.lt_irrefl _)).mono ?_
            rintro e w9 ⟨rfl, g9⟩
            have h9' := h9.trans (g9.mono s9)
            clear g9 h9 s9 f3 f4 f5
            have h9 := h9'
            have s9 := h9.size
            have b9 : Below w.heap.size w w9 := hb.trans (h9.mono hw0)
            have hown9 := own_below HOWN.out h9
            have s9w : w.heap.size ≤ w9.heap.size := by omega
            have HQ : Hid (∀ W : World, Below w9.heap.size w9 W → W.ownsRow w.heap.size 70 3 (.slice A acc.length c) acc.length (pcells acc)) := Lib.hid (fun W hW => own_below hown9 hW)
            have hlt9 := hown9.lt
            have HLT := Lib.hid hlt9
            clear hown9 hlt9
            go_wp2_with fail
            refine (need_any _ _ (by omega) (by omega)).mono ?_
            rintro e w' ⟨rfl, rfl⟩
            rw [HK.out]
            go_wp2_with fail
            refine wp_loop_rounds 3 ?_
            rw [rounds_succ]
            go_wp2_with fail
            rw [rounds_succ]
            go_wp2_with fail
            rw [rounds_succ]
            go_wp2_with (at_builtin; refine wpList_append_lies _ rfl _ _ 67 rfl w.heap.size 70 i0 _ 3 24 Tryd.underlying67 hi0 hz0 hz1 hz2 rfl (by decide) _ _ _ rfl (by refine HQ.out _ ?_; go_grown) ⟨w9.heap.size + 2, 0, none⟩ 1 1 [.int .i64 ((((s[k].toNat : Int) - 224) * 64 + (s[k + 1].toNat : Int) - 128) * 64 + (s[k + 2].toNat : Int) - 128), .int .i64 k, .int .i64 3] rfl rfl (three_cells _ _ _ _ _ (cell_new (by simp) rfl) (cell_new (by simp) rfl) (cell_new (by simp) rfl)) (three_oneCell _ _ _ _) (by omega) (by unfold maxLen; omega) (by omega) (by first | omega | (simp; omega)) _ rfl ?_)
            intro g cap w2 hown2 hgrow hat hlt2
            have hc2 : w2.cell? ⟨w9.heap.size, 2, none⟩ = some (.int .i64 3) := by
              refine hgrow.cell (cell_old2 rfl) ?_
              intro he
              have := (HLT.out _ he.symm).2
              simp at this
            have b2 : Below w.heap.size w w2 := below_grown (by go_grown) (by first | omega | (simp; omega)) (by refine HQ.out _ ?_; go_grown) hgrow
            have HR : Hid (Row w w2 (acc ++ [⟨(((s[k].toNat : Int) - 224) * 64 + (s[k + 1].toNat : Int) - 128) * 64 + (s[k + 2].toNat : Int) - 128, k, 3, true⟩]) (.slice (some ⟨g, 0, none⟩) (acc.length + 1) cap)) := Lib.hid (row_snoc (by simpa using hown2))
            have HV' : Hid ((acc ++ [⟨(((s[k].toNat : Int) - 224) * 64 + (s[k + 1].toNat : Int) - 128) * 64 + (s[k + 2].toNat : Int) - 128, k, 3, true⟩]) ++ piecesAt (k + 3) (s.data.toList.drop (k + 3)) = piecesAt 0 s.data.toList) := Lib.hid (by have := HT.out; unfold Told at this; rw [List.append_assoc]; exact this)
            clear hown2 hgrow hat HQ HLT h9 b9
            go_wp2_with fail
            go_roundw
            case rel =>
              obtain ⟨A', c', e1, o1⟩ := HR.out
              exact ⟨k + 3, A', c', acc ++ [⟨(((s[k].toNat : Int) - 224) * 64 + (s[k + 1].toNat : Int) - 128) * 64 + (s[k + 2].toNat : Int) - 128, k, 3, true⟩], p3x, by simp; omega, by go_num, e1, HV', o1, b2⟩
            case measure => simp [intOf]; omega
          · rename World => w9
            have b9 : Below w.heap.size w w9 := hb.trans (h9.mono hw0)
            have hown9 := own_below HOWN.out h9
            have s9w : w.heap.size ≤ w9.heap.size := by omega
            have HQ : Hid (∀ W : World, Below w9.heap.size w9 W → W.ownsRow w.heap.size 70 3 (.slice A acc.length c) acc.length (pcells acc)) := Lib.hid (fun W hW => own_below hown9 hW)
            have hlt9 := hown9.lt
            have HLT := Lib.hid hlt9
            clear hown9 hlt9
            go_wp2_with fail
            refine (need_any _ _ (by omega) (by omega)).mono ?_
            rintro e w' ⟨rfl, rfl⟩
            rw [HK.out]
            go_wp2_with fail
            refine wp_loop_rounds 3 ?_
            rw [rounds_succ]
            go_wp2_with fail
            rw [rounds_succ]
            go_wp2_with fail
            rw [rounds_succ]
            go_wp2_with (at_builtin; refine wpList_append_lies _ rfl _ _ 67 rfl w.heap.size 70 i0 _ 3 24 Tryd.underlying67 hi0 hz0 hz1 hz2 rfl (by decide) _ _ _ rfl (by refine HQ.out _ ?_; go_grown) ⟨w9.heap.size + 2, 0, none⟩ 1 1 [.int .i64 ((((s[k].toNat : Int) - 224) * 64 + (s[k + 1].toNat : Int) - 128) * 64 + (s[k + 2].toNat : Int) - 128), .int .i64 k, .int .i64 3] rfl rfl (three_cells _ _ _ _ _ (cell_new (by simp) rfl) (cell_new (by simp) rfl) (cell_new (by simp) rfl)) (three_oneCell _ _ _ _) (by omega) (by unfold maxLen; omega) (by omega) (by first | omega | (simp; omega)) _ rfl ?_)
            intro g cap w2 hown2 hgrow hat hlt2
            have hc2 : w2.cell? ⟨w9.heap.size, 2, none⟩ = some (.int .i64 3) := by
              refine hgrow.cell (cell_old2 rfl) ?_
              intro he
              have := (HLT.out _ he.symm).2
              simp at this
            have b2 : Below w.heap.size w w2 := below_grown (by go_grown) (by first | omega | (simp; omega)) (by refine HQ.out _ ?_; go_grown) hgrow
            have HR : Hid (Row w w2 (acc ++ [⟨(((s[k].toNat : Int) - 224) * 64 + (s[k + 1].toNat : Int) - 128) * 64 + (s[k + 2].toNat : Int) - 128, k, 3, true⟩]) (.slice (some ⟨g, 0, none⟩) (acc.length + 1) cap)) := Lib.hid (row_snoc (by simpa using hown2))
            have HV' : Hid ((acc ++ [⟨(((s[k].toNat : Int) - 224) * 64 + (s[k + 1].toNat : Int) - 128) * 64 + (s[k + 2].toNat : Int) - 128, k, 3, true⟩]) ++ piecesAt (k + 3) (s.data.toList.drop (k + 3)) = piecesAt 0 s.data.toList) := Lib.hid (by have := HT.out; unfold Told at this; rw [List.append_assoc]; exact this)
            clear hown2 hgrow hat HQ HLT h9 b9
            go_wp2_with fail
            go_roundw
            case rel =>
              obtain ⟨A', c', e1, o1⟩ := HR.out
              exact ⟨k + 3, A', c', acc ++ [⟨(((s[k].toNat : Int) - 224) * 64 + (s[k + 1].toNat : Int) - 128) * 64 + (s[k + 2].toNat : Int) - 128, k, 3, true⟩], p3x, by simp; omega, by go_num, e1, HV', o1, b2⟩
            case measure => simp [intOf]; omega
      · obtain ⟨k1, rfl, hr2⟩ := drop_head hr
        obtain ⟨k2, rfl, hr3⟩ := drop_head hr2
        obtain ⟨k3, rfl, _⟩ := drop_head hr3
        unfold nb at x0 x1
        unfold tl nb at hy hz hu
        obtain ⟨y0, y1⟩ := hy
        have k2' : k + 2 < s.size := k2
        have z0 : 128 ≤ (s[k + 2]'k2').toNat := by have := hz.1; exact Int.ofNat_le.1 this
        have z1 : (s[k + 2]'k2').toNat < 192 := by have := hz.2; exact Int.ofNat_lt.1 this
        have k3' : k + 3 < s.size := k3
        have u0 : 128 ≤ (s[k + 3]'k3').toNat := by have := hu.1; exact Int.ofNat_le.1 this
        have u1 : (s[k + 3]'k3').toNat < 192 := by have := hu.2; exact Int.ofNat_lt.1 this
        have HK : Hid (needN (s[k].toNat : Int) = 4) := Lib.hid (needN4 (by omega) (by omega))
        have HN : Hid (findN (s[k]'hlt) (s.data.toList.drop (k + 1)) = 4) := Lib.hid (by rw [hfn, if_neg (by unfold nb; rw [HK.out]; omega)])
        clear hfn hr hr2 hr3 p1 p2 hz hu
        have p3x : k + 4 ≤ s.size := p3
        go_wp2_with fail
        go_loopw [5] (fun i wr => ∃ n : Nat, n ≤ 4 ∧ i = .int .i64 n ∧ Below w0.heap.size w0 wr) (fun i _ => 4 - (intOf i).toNat)
        case atStart => exact ⟨0, Nat.zero_le _, rfl, Below.refl _ _⟩
        case round =>
          obtain ⟨n, hn, rfl, h9⟩ := hrel
          have s9 := h9.size
          by_cases hnl : n < 4
          · have f1 : k + n < s.size := by omega
            have f2 : n < 4 := by omega
            have f3 : (k : Int) + n + 1 ≤ s.size := by omega
            have f4 : (k : Int) ≤ k + n + 1 := by omega
            have f5 : ((k : Int) + n + 1).toNat = k + n + 1 := by omega
            go_wp2_with fail
            refine (beg_yes s k n _ f1 f2 4 HN.out hnl).mono ?_
            rintro e w8 ⟨rfl, g8⟩
            have h8 := h9.trans (g8.mono s9)
            clear g8 f3 f4 f5
            go_wp2_with fail
            go_roundw
            case rel => exact ⟨n + 1, by omega, by go_num, h8⟩
            case measure => simp [intOf]; omega
          obtain rfl : n = 4 := by omega
          rename World => w9
          by_cases f1 : k + 4 < s.size
          ·
            have b9 : Below w.heap.size w w9 := hb.trans (h9.mono hw0)
            have hown9 := own_below HOWN.out h9
            have s9w : w.heap.size ≤ w9.heap.size := by omega
            have HQ : Hid (∀ W : World, Below w9.heap.size w9 W → W.ownsRow w.heap.size 70 3 (.slice A acc.length c) acc.length (pcells acc)) := Lib.hid (fun W hW => own_below hown9 hW)
            have hlt9 := hown9.lt
            have HLT := Lib.hid hlt9
            clear hown9 hlt9
            go_wp2_with fail
            refine (need_any _ _ (by omega) (by omega)).mono ?_
            rintro e w' ⟨rfl, rfl⟩
            rw [HK.out]
            go_wp2_with fail
            refine wp_loop_rounds 4 ?_
            rw [rounds_succ]
            go_wp2_with fail
            rw [rounds_succ]
            go_wp2_with fail
            rw [rounds_succ]
            go_wp2_with fail
            rw [rounds_succ]
            go_wp2_with (at_builtin; refine wpList_append_lies _ rfl _ _ 67 rfl w.heap.size 70 i0 _ 3 24 Tryd.underlying67 hi0 hz0 hz1 hz2 rfl (by decide) _ _ _ rfl (by refine HQ.out _ ?_; go_grown) ⟨w9.heap.size + 2, 0, none⟩ 1 1 [.int .i64 (((((s[k].toNat : Int) - 240) * 64 + (s[k + 1].toNat : Int) - 128) * 64 + (s[k + 2].toNat : Int) - 128) * 64 + (s[k + 3].toNat : Int) - 128), .int .i64 k, .int .i64 4] rfl rfl (three_cells _ _ _ _ _ (cell_new (by simp) rfl) (cell_new (by simp) rfl) (cell_new (by simp) rfl)) (three_oneCell _ _ _ _) (by omega) (by unfold maxLen; omega) (by omega) (by first | omega | (simp; omega)) _ rfl ?_)
            intro g cap w2 hown2 hgrow hat hlt2
            have hc2 : w2.cell? ⟨w9.heap.size, 2, none⟩ = some (.int .i64 4) := by
              refine hgrow.cell (cell_old2 rfl) ?_
              intro he
              have := (HLT.out _ he.symm).2
              simp at this
            have b2 : Below w.heap.size w w2 := below_grown (by go_grown) (by first | omega | (simp; omega)) (by refine HQ.out _ ?_; go_grown) hgrow
            have HR : Hid (Row w w2 (acc ++ [⟨((((s[k].toNat : Int) - 240) * 64 + (s[k + 1].toNat : Int) - 128) * 64 + (s[k + 2].toNat : Int) - 128) * 64 + (s[k + 3].toNat : Int) - 128, k, 4, true⟩]) (.slice (some ⟨g, 0, none⟩) (acc.length + 1) cap)) := Lib.hid (row_snoc (by simpa using hown2))
            have HV' : Hid ((acc ++ [⟨((((s[k].toNat : Int) - 240) * 64 + (s[k + 1].toNat : Int) - 128) * 64 + (s[k + 2].toNat : Int) - 128) * 64 + (s[k + 3].toNat : Int) - 128, k, 4, true⟩]) ++ piecesAt (k + 4) (s.data.toList.drop (k + 4)) = piecesAt 0 s.data.toList) := Lib.hid (by have := HT.out; unfold Told at this; rw [List.append_assoc]; exact this)
            clear hown2 hgrow hat HQ HLT h9 b9
            go_wp2_with fail
            go_roundw
            case rel =>
              obtain ⟨A', c', e1, o1⟩ := HR.out
              exact ⟨k + 4, A', c', acc ++ [⟨((((s[k].toNat : Int) - 240) * 64 + (s[k + 1].toNat : Int) - 128) * 64 + (s[k + 2].toNat : Int) - 128) * 64 + (s[k + 3].toNat : Int) - 128, k, 4, true⟩], p3x, by simp; omega, by go_num, e1, HV', o1, b2⟩
            case measure => simp [intOf]; omega
          ·
            have b9 : Below w.heap.size w w9 := hb.trans (h9.mono hw0)
            have hown9 := own_below HOWN.out h9
            have s9w : w.heap.size ≤ w9.heap.size := by omega
            have HQ : Hid (∀ W : World, Below w9.heap.size w9 W → W.ownsRow w.heap.size 70 3 (.slice A acc.length c) acc.length (pcells acc)) := Lib.hid (fun W hW => own_below hown9 hW)
            have hlt9 := hown9.lt
            have HLT := Lib.hid hlt9
            clear hown9 hlt9
            go_wp2_with fail
            refine (need_any _ _ (by omega) (by omega)).mono ?_
            rintro e w' ⟨rfl, rfl⟩
            rw [HK.out]
            go_wp2_with fail
            refine wp_loop_rounds 4 ?_
            rw [rounds_succ]
            go_wp2_with fail
            rw [rounds_succ]
            go_wp2_with fail
            rw [rounds_succ]
            go_wp2_with fail
            rw [rounds_succ]
            go_wp2_with (at_builtin; refine wpList_append_lies _ rfl _ _ 67 rfl w.heap.size 70 i0 _ 3 24 Tryd.underlying67 hi0 hz0 hz1 hz2 rfl (by decide) _ _ _ rfl (by refine HQ.out _ ?_; go_grown) ⟨w9.heap.size + 2, 0, none⟩ 1 1 [.int .i64 (((((s[k].toNat : Int) - 240) * 64 + (s[k + 1].toNat : Int) - 128) * 64 + (s[k + 2].toNat : Int) - 128) * 64 + (s[k + 3].toNat : Int) - 128), .int .i64 k, .int .i64 4] rfl rfl (three_cells _ _ _ _ _ (cell_new (by simp) rfl) (cell_new (by simp) rfl) (cell_new (by simp) rfl)) (three_oneCell _ _ _ _) (by omega) (by unfold maxLen; omega) (by omega) (by first | omega | (simp; omega)) _ rfl ?_)
            intro g cap w2 hown2 hgrow hat hlt2
            have hc2 : w2.cell? ⟨w9.heap.size, 2, none⟩ = some (.int .i64 4) := by
              refine hgrow.cell (cell_old2 rfl) ?_
              intro he
              have := (HLT.out _ he.symm).2
              simp at this
            have b2 : Below w.heap.size w w2 := below_grown (by go_grown) (by first | omega | (simp; omega)) (by refine HQ.out _ ?_; go_grown) hgrow
            have HR : Hid (Row w w2 (acc ++ [⟨((((s[k].toNat : Int) - 240) * 64 + (s[k + 1].toNat : Int) - 128) * 64 + (s[k + 2].toNat : Int) - 128) * 64 + (s[k + 3].toNat : Int) - 128, k, 4, true⟩]) (.slice (some ⟨g, 0, none⟩) (acc.length + 1) cap)) := Lib.hid (row_snoc (by simpa using hown2))
            have HV' : Hid ((acc ++ [⟨((((s[k].toNat : Int) - 240) * 64 + (s[k + 1].toNat : Int) - 128) * 64 + (s[k + 2].toNat : Int) - 128) * 64 + (s[k + 3].toNat : Int) - 128, k, 4, true⟩]) ++ piecesAt (k + 4) (s.data.toList.drop (k + 4)) = piecesAt 0 s.data.toList) := Lib.hid (by have := HT.out; unfold Told at this; rw [List.append_assoc]; exact this)
            clear hown2 hgrow hat HQ HLT h9 b9
            go_wp2_with fail
            go_roundw
            case rel =>
              obtain ⟨A', c', e1, o1⟩ := HR.out
              exact ⟨k + 4, A', c', acc ++ [⟨((((s[k].toNat : Int) - 240) * 64 + (s[k + 1].toNat : Int) - 128) * 64 + (s[k + 2].toNat : Int) - 128) * 64 + (s[k + 3].toNat : Int) - 128, k, 4, true⟩], p3x, by simp; omega, by go_num, e1, HV', o1, b2⟩
            case measure => simp [intOf]; omega
    · have HV' : Hid (acc = piecesAt 0 s.data.toList) := Lib.hid (by rw [← HV.out, drop_none s k hlt, piecesAt_nil, List.append_nil])
      clear HV
      go_wp2_with fail
      go_ret
      rw [← HV'.out]
      exact ⟨A, c, rfl, HOWN.out, hb⟩
end Go.Proofs.YtmhfgncffkfelaaDoor.U

