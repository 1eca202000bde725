/- What the document's Of and Cut return. -/
import Derived.Test.YtmhfgncffkfelaaDoorKS
import Derived.Test.YtmhfgncffkfelaaDoorKUrp
namespace Go.Proofs.YtmhfgncffkfelaaDoor
open Go.RowKit Go.BigFrame
open U (Tr tcells tcell tris Tab strOf)
set_option linter.unusedVariables false
set_option maxRecDepth 4000
set_option linter.unusedSimpArgs false

/-! The document's Of. -/
theorem refPieces_own (s : ByteArray) (w : World) (hs : s.size ≤ 1048576) : Calls Tryd.prog 99 #[.string s] w fun e w' => ∃ A c, e = .returned (.slice A (nP s.data.toList) c) ∧ w'.ownsRow w.heap.size 70 3 (.slice A (nP s.data.toList) c) (nP s.data.toList) (tcells (tris s.data.toList)) ∧ Below w.heap.size w w' :=
  (U.refPieces_any s w hs).mono fun e w' ⟨A, c, he, ho, hb⟩ => ⟨A, c, he, by unfold U.tris; rw [U.tcells_tri]; exact ho, hb⟩
theorem tris_at (L : List UInt8) {k : Nat} (h : k < (tris L).length) : (tris L)[k].a = (atL L k : Int) := by
  have hl := endE_len L
  have ht := tris_len L
  have h2 : k < (endE L).length := by omega
  have e := endE_at L h2
  have e2 : (endE L)[k] = (tris L)[k] := List.getElem_append_left h
  rwa [e2] at e
theorem vals_take2 (L : List UInt8) {k : Nat} (h : k < (tris L).length) : (valsL L).take (k + 1) = (valsL L).take k ++ [(tris L)[k].v] := by
  have hl := valsL_len L
  have hk3 : k < (valsL L).length := by rw [hl, ← tris_len]; exact h
  have e1 : (valsL L)[k] = (tris L)[k].v := List.getElem_map _
  rw [take_one hk3, e1]
theorem ofA_at (t : Tb) (L : List UInt8) {k : Nat} (h : k < (brN t L).length) : (natI (ofA t L)).take (k + 1) = (natI (ofA t L)).take k ++ [((atL L (brN t L)[k] : Nat) : Int)] := by
  have hl : (natI (ofA t L)).length = (brN t L).length := by simp [natI, ofA]
  have h2 : k < (natI (ofA t L)).length := by omega
  have h3 : k < (ofA t L).length := by rw [ofA_len]; exact h
  have e1 : (natI (ofA t L))[k] = ((ofA t L)[k] : Int) := List.getElem_map _
  have e2 : (ofA t L)[k] = atL L (brN t L)[k] := List.getElem_map _
  rw [take_one h2, e1, e2]
set_option maxHeartbeats 8000000 in
theorem refOf9_any (T : TV) (s : ByteArray) (w : World) (hT : T.ok w) (hs : s.size ≤ 90000) :
    Calls Tryd.prog 83 #[T.v, .string s] w (OutPl (ofS T.tb s.data.toList) w) := by
  obtain ⟨i0, hi0, hz0, hz1, hz2⟩ := info_parts info3
  have HPc := Lib.hid (fun V => refPieces_own s V (by omega))
  obtain ⟨L, hL⟩ : ∃ L, s.data.toList = L := ⟨_, rfl⟩
  have hLl : L.length = s.size := by rw [← hL]; exact Array.length_toList
  have hsz : nP L ≤ 90000 := by have := nP_le L; omega
  obtain ⟨M, hM⟩ : ∃ M, nP L = M := ⟨_, rfl⟩
  rw [hL, hM] at HPc
  rw [hL]
  have HLt : Hid ((tris L).length = M) := Lib.hid (by rw [tris_len, hM])
  have HLv : Hid ((valsL L).length = M) := Lib.hid (by rw [valsL_len, hM])
  have HBr : Hid (∀ A' c' V, Below w.heap.size w V → RI V V.heap.size A' M (valsL L) → Calls Tryd.prog 100 #[T.v, .slice A' M c'] V (OutPl (if errV T.tb = 0 then some (plK T.tb (valsL L) (M + 1)) else none) V)) := Lib.hid (fun A' c' V g h2 => by
    have := refBreaks_any T (valsL L) M A' c' V (hT.on g) h2 (by omega)
    rwa [brW_is, hM] at this)
  have HPl : Hid (plK T.tb (valsL L) (M + 1) = natI (brN T.tb L)) := Lib.hid (by rw [← hM]; rfl)
  have HZl : Hid ((brN T.tb L).length ≤ M + 1) := Lib.hid (by rw [← hM]; exact brN_len T.tb L)
  have HZm : Hid (∀ k (h : k < (brN T.tb L).length), (brN T.tb L)[k] ≤ M) := Lib.hid (fun k h => by have := brN_le (List.getElem_mem h); omega)
  have HEn : Hid (atL L M = s.size) := Lib.hid (by rw [← hM, atL_end, hLl])
  have b0 := below_new w (.cells #[.int .i64 T.cl, .slice T.a1 T.n1 T.c1, .slice T.a2 T.n2 T.c2, .slice T.a3 T.n3 T.c3] 26)
  have HX := Lib.hid (box_new w T)
  have hMb : M ≤ 90000 := by omega
  clear hT hsz hM hL hLl
  simp only [TV.v] at *
  generalize T.tb = tb at *
  go_enter Tryd.func83, Tryd.ntmps83
  go_wp2_with fail
  generalize w.alloc (.cells #[.int .i64 T.cl, .slice T.a1 T.n1 T.c1, .slice T.a2 T.n2 T.c2, .slice T.a3 T.n3 T.c3] 26) = w0 at *
  refine (HPc.out _).mono ?_
  rintro e w1 ⟨A, c, rfl, hown, g⟩
  replace b0 := b0.trans (g.mono b0.size)
  replace HX := Lib.hid (HX.out.on g)
  have HRP := Lib.hid (own_RP hown)
  have hw1 := b0.size
  have HB1 := Lib.hid b0
  clear hown g b0 HPc
  go_wp2_with fail
  go_loopw [7, 8] (fun vs vi wr => ∃ (k c6 : Nat) (A6 : Option Addr), vi = .int .i64 k ∧ k ≤ M ∧ vs = .slice A6 k c6 ∧ Hid (wr.ownsRow w1.heap.size 3 1 (.slice A6 k c6) k (icells ((valsL L).take k))) ∧ Hid (Below w1.heap.size w1 wr)) (fun _ vi _ => M - (intOf vi).toNat)
  case atStart => exact ⟨0, 0, none, rfl, Nat.zero_le _, rfl, Lib.hid (World.ownsRow_nil _ _ _ _), Lib.hid (Below.refl _ _)⟩
  case round =>
    obtain ⟨k, c6, A6, rfl, hk, rfl, HO, HB⟩ := hrel
    by_cases hlt : k < M
    · have kl : k < (tris L).length := by have := HLt.out; omega
      obtain ⟨bb, oo, hA, _, q0, q1, q2⟩ := (HRP.out.on HB.out).at kl
      subst hA
      have HTk := Lib.hid (vals_take2 L kl)
      generalize (tris L)[k].v = x at *
      generalize (tris L)[k].a = y at *
      generalize (tris L)[k].n = z at *
      have hws := HB.out.size
      have HRd := Lib.hid (reads_int wr x)
      have HOne := Lib.hid (icells_one [x])
      have HOa := Lib.hid (HO.out.alloc (.cells #[.int .i64 x] 3))
      have HBa := Lib.hid (HB.out.alloc hws (.cells #[.int .i64 x] 3))
      clear HO HB
      go_wp2_with (at_builtin; refine wpList_append_src rfl _ _ 51 rfl w1.heap.size 3 i0 _ 1 8 Tryd.underlying51 hi0 hz0 hz1 hz2 rfl (by decide) _ _ _ rfl HOa.out (some ⟨wr.heap.size, 0, none⟩) 1 1 (wr.heap.size + 1) (icells [x]) rfl (fun h => by cases h) HRd.out HOne.out ?n3 ?n4 ?n5 ?_)
      case n3 => unfold maxLen; omega
      case n4 => omega
      case n5 => first | omega | (simp; omega)
      intro A9 c9 w9 hown9 hn9 hgrow9
      have HB9 : Hid (Below w1.heap.size w1 w9) := Lib.hid (below_grown HBa.out HBa.out.size HOa.out hgrow9)
      have HO9 : Hid (w9.ownsRow w1.heap.size 3 1 (.slice A9 (k + 1) c9) (k + 1) (icells ((valsL L).take (k + 1)))) := Lib.hid (by rw [HTk.out, icells_snoc']; exact hown9)
      clear hown9 hgrow9 HOa HRd HOne HBa HTk q0 q1 q2
      go_wp2_with fail
      go_roundw
      case rel => exact ⟨k + 1, c9, A9, by go_num, by omega, rfl, HO9, HB9⟩
      case measure => simp [intOf]; omega
    · obtain rfl : k = M := by omega
      have HTl : Hid ((valsL L).take k = valsL L) := Lib.hid (List.take_of_length_le (by rw [HLv.out]; exact Nat.le_refl _))
      rw [HTl.out] at HO
      obtain ⟨_, p0, p1, p2, p3⟩ := HX.out.on HB.out
      have HB2 := Lib.hid (HB1.out.trans (HB.out.mono hw1))
      have HC := Lib.hid (HBr.out A6 c6 wr HB2.out (own_RI HO.out))
      have HRP2 := Lib.hid (HRP.out.on HB.out)
      clear HTl HBr HB1 HB HO HX HRP
      by_cases he : errV tb = 0
      case neg =>
        rw [if_neg he] at HC
        have HE : Hid (ofS tb L = none) := Lib.hid (by unfold ofS; rw [if_neg he])
        clear he
        go_wp2_with fail
        refine HC.out.mono ?_
        rintro e w3 ⟨A3, c3, rfl, hown, g⟩
        simp only [Option.isSome_none, Option.getD_none, List.length_nil]
        have HB3 := Lib.hid (HB2.out.trans (g.mono HB2.out.size))
        clear hown g HC p0 p1 p2 p3
        go_wp2_with fail
        go_loopw [11, 12] (fun vs vi wx => vs = .slice none 0 0 ∧ vi = .int .i64 0 ∧ wx = w3) (fun _ _ _ => 0)
        case atStart => exact ⟨rfl, rfl, rfl⟩
        case round =>
          rename World => wx
          obtain ⟨rfl, rfl, rfl⟩ := hrel
          go_wp2_with fail
          go_ret2
          exact OutPl.no HE.out HB3.out
      case pos =>
        rw [if_pos he, HPl.out] at HC
        have HE : Hid (ofS tb L = some (natI (ofA tb L))) := Lib.hid (by unfold ofS; rw [if_pos he])
        have HNl : Hid ((natI (brN tb L)).length = (brN tb L).length) := Lib.hid (by simp [natI])
        have HAl : Hid ((natI (ofA tb L)).length = (brN tb L).length) := Lib.hid (by simp [natI, ofA])
        have HTa := Lib.hid (fun j (h : j < (brN tb L).length) => ofA_at tb L h)
        clear he HPl
        go_wp2_with fail
        refine HC.out.mono ?_
        rintro e w3 ⟨A3, c3, rfl, hown, g⟩
        simp only [Option.isSome_some, Option.getD_some] at hown ⊢
        have HB3 := Lib.hid (HB2.out.trans (g.mono HB2.out.size))
        have HRI := Lib.hid (own_RI hown)
        have HRP3 := Lib.hid (HRP2.out.on g)
        have hw3 := HB3.out.size
        clear hown g HC HB2 p0 p1 p2 p3 HRP2
        obtain ⟨Z, hZ⟩ : ∃ Z, (brN tb L).length = Z := ⟨_, rfl⟩
        have hZb : Z ≤ 100000 := by have := HZl.out; omega
        rw [HNl.out, hZ] at HRI ⊢
        rw [hZ] at HAl
        have HZ := Lib.hid hZ
        clear hZ
        go_wp2_with fail
        go_loopw [11, 12] (fun vs vi wx => ∃ (j c7 : Nat) (A7 : Option Addr), vi = .int .i64 j ∧ j ≤ Z ∧ vs = .slice A7 j c7 ∧ Hid (wx.ownsRow w3.heap.size 3 1 (.slice A7 j c7) j (icells ((natI (ofA tb L)).take j))) ∧ Hid (Below w3.heap.size w3 wx)) (fun _ vi _ => Z - (intOf vi).toNat)
        case atStart => exact ⟨0, 0, none, rfl, Nat.zero_le _, rfl, Lib.hid (World.ownsRow_nil _ _ _ _), Lib.hid (Below.refl _ _)⟩
        case round =>
          rename World => wx
          obtain ⟨j, c7, A7, rfl, hj, rfl, HO, HB⟩ := hrel
          by_cases hjl : j < Z
          · have jl : j < (brN tb L).length := by rw [HZ.out]; exact hjl
            have jn : j < (natI (brN tb L)).length := by rw [HNl.out]; exact jl
            obtain ⟨b8, o8, hA8, _, r0⟩ := (HRI.out.on HB.out).at jn
            rw [natK_at _ jl jn] at r0
            have hpl := HZm.out j jl
            have HTk := Lib.hid (HTa.out j jl)
            subst hA8
            have hws := HB.out.size
            generalize (brN tb L)[j] = pl at *
            by_cases hend : pl = k
            · have hq : ((pl : Int) == (k : Int)) = true := by rw [beq_iff_eq]; omega
              have HV : Hid (((atL L pl : Nat) : Int) = (s.size : Int)) := Lib.hid (by rw [hend, HEn.out])
              rw [HV.out] at HTk
              have HRd := Lib.hid (reads_int wx (s.size : Int))
              have HOne := Lib.hid (icells_one [(s.size : Int)])
              have HOa := Lib.hid (HO.out.alloc (.cells #[.int .i64 (s.size : Int)] 3))
              have HBa := Lib.hid (HB.out.alloc hws (.cells #[.int .i64 (s.size : Int)] 3))
              clear HO HB HV hend hpl
              go_wp2_with (at_builtin; refine wpList_append_src rfl _ _ 51 rfl w3.heap.size 3 i0 _ 1 8 Tryd.underlying51 hi0 hz0 hz1 hz2 rfl (by decide) _ _ _ rfl HOa.out (some ⟨wx.heap.size, 0, none⟩) 1 1 (wx.heap.size + 1) (icells [(s.size : Int)]) rfl (fun h => by cases h) HRd.out HOne.out ?n3 ?n4 ?n5 ?_)
              case n3 => unfold maxLen; omega
              case n4 => omega
              case n5 => first | omega | (simp; omega)
              intro A9 c9 w9 hown9 hn9 hgrow9
              have HB9 : Hid (Below w3.heap.size w3 w9) := Lib.hid (below_grown HBa.out HBa.out.size HOa.out hgrow9)
              have HO9 : Hid (w9.ownsRow w3.heap.size 3 1 (.slice A9 (j + 1) c9) (j + 1) (icells ((natI (ofA tb L)).take (j + 1)))) := Lib.hid (by rw [HTk.out, icells_snoc']; exact hown9)
              clear hown9 hgrow9 HOa HRd HOne HBa HTk r0
              go_wp2_with fail
              go_roundw
              case rel => exact ⟨j + 1, c9, A9, by go_num, by omega, rfl, HO9, HB9⟩
              case measure => simp [intOf]; omega
            · have hq : ((pl : Int) == (k : Int)) = false := by rw [beq_eq_false_iff_ne]; omega
              have hplk : pl < k := by omega
              have hplI : (pl : Int) < (k : Int) := by omega
              have kl : pl < (tris L).length := by rw [HLt.out]; exact hplk
              obtain ⟨bb, oo, hA, _, q0, q1, q2⟩ := (HRP3.out.on HB.out).at kl
              subst hA
              rw [tris_at L kl] at q1
              generalize ((atL L pl : Nat) : Int) = y at *
              generalize (tris L)[pl].v = x at *
              generalize (tris L)[pl].n = z at *
              have HRd := Lib.hid (reads_int wx y)
              have HOne := Lib.hid (icells_one [y])
              have HOa := Lib.hid (HO.out.alloc (.cells #[.int .i64 y] 3))
              have HBa := Lib.hid (HB.out.alloc hws (.cells #[.int .i64 y] 3))
              clear HO HB hend hpl
              go_wp2_with (at_builtin; refine wpList_append_src rfl _ _ 51 rfl w3.heap.size 3 i0 _ 1 8 Tryd.underlying51 hi0 hz0 hz1 hz2 rfl (by decide) _ _ _ rfl HOa.out (some ⟨wx.heap.size, 0, none⟩) 1 1 (wx.heap.size + 1) (icells [y]) rfl (fun h => by cases h) HRd.out HOne.out ?n3 ?n4 ?n5 ?_)
              case n3 => unfold maxLen; omega
              case n4 => omega
              case n5 => first | omega | (simp; omega)
              intro A9 c9 w9 hown9 hn9 hgrow9
              have HB9 : Hid (Below w3.heap.size w3 w9) := Lib.hid (below_grown HBa.out HBa.out.size HOa.out hgrow9)
              have HO9 : Hid (w9.ownsRow w3.heap.size 3 1 (.slice A9 (j + 1) c9) (j + 1) (icells ((natI (ofA tb L)).take (j + 1)))) := Lib.hid (by rw [HTk.out, icells_snoc']; exact hown9)
              clear hown9 hgrow9 HOa HRd HOne HBa HTk r0 q0 q1 q2
              go_wp2_with fail
              go_roundw
              case rel => exact ⟨j + 1, c9, A9, by go_num, by omega, rfl, HO9, HB9⟩
              case measure => simp [intOf]; omega
          · obtain rfl : j = Z := by omega
            have HTe : Hid ((natI (ofA tb L)).take j = natI (ofA tb L)) := Lib.hid (List.take_of_length_le (by rw [HAl.out]; exact Nat.le_refl _))
            rw [HTe.out] at HO
            have HBf := Lib.hid (HB3.out.trans (HB.out.mono hw3))
            clear HB HB3 HRI HRP3
            go_wp2_with fail
            go_ret2
            exact OutPl.of HE.out HAl.out HO.out hw3 HBf.out

/-! The document's Cut. -/
end Go.Proofs.YtmhfgncffkfelaaDoor

