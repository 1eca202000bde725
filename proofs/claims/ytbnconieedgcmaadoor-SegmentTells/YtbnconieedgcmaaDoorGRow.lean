/- Rows of pieces and of texts (stage 9); what endedPieces and brokenAhead return. -/
import Derived.Test.YtbnconieedgcmaaDoorGMath
import Derived.Test.YtbnconieedgcmaaDoorWRefB
import Derived.Test.YtbnconieedgcmaaDoorClone
import Derived.BigQuiet
import Derived.Deep.RegionLaw
import Derived.Deep.CutRange
import Derived.Deep.RegionHeld3
namespace Go.Proofs.YtbnconieedgcmaaDoor
open Go.RowKit Go.BigFrame
open U (Tr tcells tcell tris Tab)
set_option linter.unusedVariables false
set_option maxRecDepth 4000
set_option linter.unusedSimpArgs false

theorem infoP : (Tryd.prog.info? 65).map (fun i => (i.zero, i.size, i.bytes)) = some (some (.agg #[.int .i64 0, .int .i64 0, .int .i64 0]), 3, 24) := by kernel_rfl
theorem infoSt : (Tryd.prog.info? 9).map (fun i => (i.zero, i.size, i.bytes)) = some (some (.string ⟨#[]⟩), 1, 16) := by kernel_rfl
/-- A row of pieces. -/
def RP (w : World) (B : Nat) (A : Option Addr) (n : Nat) (E : List Tr) : Prop := E.length = n ∧ Reads w B 3 A n (tcells E)
theorem RP.on {w w' : World} {n : Nat} {A : Option Addr} {l : List Tr} (h : RP w w.heap.size A n l) (g : Below w.heap.size w w') : RP w' w'.heap.size A n l := ⟨h.1, reads_on h.2 g⟩
theorem own_RP {w : World} {base n c : Nat} {A : Option Addr} {l : List Tr} (h : w.ownsRow base 65 3 (.slice A n c) n (tcells l)) : RP w w.heap.size A n l := ⟨by have := h.1; rw [U.tcells_len] at this; omega, Reads.of_own h⟩
theorem RP.at {w : World} {B n : Nat} {A : Option Addr} {l : List Tr} (h : RP w B A n l) {k : Nat} (hk : k < l.length) : ∃ b o, A = some ⟨b, o, none⟩ ∧ b < B ∧ w.cell? ⟨b, o + k * 3, none⟩ = some (.int .i64 l[k].v) ∧ w.cell? ⟨b, o + k * 3 + 1, none⟩ = some (.int .i64 l[k].a) ∧ w.cell? ⟨b, o + k * 3 + 2, none⟩ = some (.int .i64 l[k].n) := by
  have h1 := h.1
  obtain ⟨b, o, rfl, hb, hc⟩ := h.2.2 (by omega)
  obtain ⟨h0, h1, h2⟩ := U.tcells_at l k hk
  exact ⟨b, o, rfl, hb, hc _ _ h0, by rw [Nat.add_assoc]; exact hc _ _ h1, by rw [Nat.add_assoc]; exact hc _ _ h2⟩
theorem tcells_one (l : List Tr) : ∀ u ∈ tcells l, u.oneCell' = true := by
  intro u hu
  simp only [tcells, List.mem_flatMap] at hu
  obtain ⟨p, _, hp⟩ := hu
  simp [tcell] at hp
  rcases hp with rfl | rfl | rfl <;> rfl
theorem tcells_snoc (l : List Tr) (p : Tr) : tcells (l ++ [p]) = tcells l ++ tcell p := by simp [tcells]
theorem reads_tr (w : World) (x y z : Int) (t : TypeId) : Reads (w.alloc (.cells #[.int .i64 x, .int .i64 y, .int .i64 z] t)) (w.heap.size + 1) 3 (some ⟨w.heap.size, 0, none⟩) 1 (tcells [⟨x, y, z⟩]) := U.reads_new w [⟨x, y, z⟩] t
theorem RP.take {w : World} {B n : Nat} {A : Option Addr} {l : List Tr} (h : RP w B A n l) {k : Nat} (hk : k ≤ n) : RP w B A k (l.take k) := by
  have hl := h.1
  refine ⟨by rw [List.length_take]; omega, by rw [U.tcells_len, List.length_take]; omega, fun hp => ?_⟩
  obtain ⟨b, o, e, hb, hc⟩ := h.2.2 (by omega)
  refine ⟨b, o, e, hb, fun j u hu => hc j u ?_⟩
  have e2 : tcells l = tcells (l.take k) ++ tcells (l.drop k) := by
    have : l = l.take k ++ l.drop k := (List.take_append_drop k l).symm
    unfold tcells
    rw [← List.flatMap_append, List.take_append_drop]
  rw [e2, List.getElem?_append_left (List.getElem?_eq_some_iff.1 hu).1]
  exact hu
/-- A row of texts. -/
def scells (l : List (List UInt8)) : List Value := l.map fun b => .string (U.strOf b)
theorem scells_len (l : List (List UInt8)) : (scells l).length = l.length := by simp [scells]
theorem scells_snoc (l : List (List UInt8)) (x : List UInt8) : scells (l ++ [x]) = scells l ++ [.string (U.strOf x)] := by simp [scells]
theorem scells_one (l : List (List UInt8)) : ∀ u ∈ scells l, u.oneCell' = true := by
  intro u hu
  simp only [scells, List.mem_map] at hu
  obtain ⟨x, _, rfl⟩ := hu
  rfl
def RS (w : World) (B : Nat) (A : Option Addr) (n : Nat) (l : List (List UInt8)) : Prop := l.length = n ∧ Reads w B 1 A n (scells l)
theorem RS.on {w w' : World} {n : Nat} {A : Option Addr} {l : List (List UInt8)} (h : RS w w.heap.size A n l) (g : Below w.heap.size w w') : RS w' w'.heap.size A n l := ⟨h.1, reads_on h.2 g⟩
theorem own_RS {w : World} {base n c : Nat} {A : Option Addr} {l : List (List UInt8)} (h : w.ownsRow base 9 1 (.slice A n c) n (scells l)) : RS w w.heap.size A n l := ⟨by have := h.1; rw [scells_len] at this; omega, Reads.of_own h⟩
theorem RS.at {w : World} {B n : Nat} {A : Option Addr} {l : List (List UInt8)} (h : RS w B A n l) {k : Nat} (hk : k < l.length) : ∃ b o, A = some ⟨b, o, none⟩ ∧ b < B ∧ w.cell? ⟨b, o + k, none⟩ = some (.string (U.strOf l[k])) := by
  have h1 := h.1
  obtain ⟨b, o, rfl, hb, hc⟩ := h.2.2 (by omega)
  exact ⟨b, o, rfl, hb, hc k _ (by unfold scells; rw [List.getElem?_map, List.getElem?_eq_getElem hk]; rfl)⟩
theorem reads_st (w : World) (x : List UInt8) (t : TypeId) : Reads (w.alloc (.cells #[.string (U.strOf x)] t)) (w.heap.size + 1) 1 (some ⟨w.heap.size, 0, none⟩) 1 (scells [x]) := by
  refine ⟨rfl, fun _ => ⟨w.heap.size, 0, rfl, by omega, fun j u hu => ?_⟩⟩
  rw [World.cell?_alloc_mark, Nat.zero_add]
  simpa [scells] using hu

theorem pieces_own (s : ByteArray) (w : World) (hs : s.size ≤ 1048576) (hT : Tab w) : Calls Tryd.prog 38 #[.string s] w fun e w' => ∃ A c, e = .returned (.slice A (nP s.data.toList) c) ∧ w'.ownsRow w.heap.size 65 3 (.slice A (nP s.data.toList) c) (nP s.data.toList) (tcells (tris s.data.toList)) ∧ Below w.heap.size w w' :=
  (U.pieces_any s w hs hT).mono fun e w' ⟨A, c, he, ho, hb⟩ => ⟨A, c, he, by unfold U.tris; rw [U.tcells_tri]; exact ho, hb⟩
def OutE (L : List UInt8) (w : World) (e : Ending) (w' : World) : Prop := ∃ A c, e = .returned (.slice A (nP L + 1) c) ∧ w'.ownsRow w.heap.size 65 3 (.slice A (nP L + 1) c) (nP L + 1) (tcells (endE L)) ∧ Below w.heap.size w w'
set_option maxHeartbeats 2000000 in
theorem ended_any (s : ByteArray) (w : World) (hs : s.size ≤ 100000) (hT : Tab w) : Calls Tryd.prog 85 #[.string s] w (OutE s.data.toList w) := by
  obtain ⟨i0, hi0, hz0, hz1, hz2⟩ := info_parts infoP
  have HP := Lib.hid (pieces_own s w (by omega) hT)
  have HN : Hid (nP s.data.toList ≤ 100000) := Lib.hid (by have := nP_le s.data.toList; have h2 : s.data.toList.length = s.size := Array.length_toList; omega)
  have HE : Hid (tcells (endE s.data.toList) = tcells (tris s.data.toList) ++ tcells [⟨0, (s.size : Int), 0⟩]) := Lib.hid (by
    have h2 : s.data.toList.length = s.size := Array.length_toList
    unfold endE tcells
    rw [List.flatMap_append, h2])
  clear hT
  unfold OutE
  rw [HE.out]
  generalize tcells (tris s.data.toList) = cs at *
  have hn := HN.out
  generalize nP s.data.toList = n at *
  clear HE HN
  go_enter Tryd.func85, Tryd.ntmps85
  go_wp2_with fail
  refine HP.out.mono ?_
  rintro e w1 ⟨A, c, rfl, hown, g⟩
  have HRd := Lib.hid (reads_tr w1 0 s.size 0 65)
  have HOne := Lib.hid (tcells_one [⟨0, (s.size : Int), 0⟩])
  have HOa := Lib.hid (hown.alloc (.cells #[.int .i64 0, .int .i64 s.size, .int .i64 0] 65))
  have hsz := g.size
  have HB := Lib.hid (g.trans ((below_new w1 (.cells #[.int .i64 0, .int .i64 s.size, .int .i64 0] 65)).mono hsz))
  clear hown g HP
  go_wp2_with (at_builtin; refine wpList_append_src rfl _ _ 62 rfl w.heap.size 65 i0 _ 3 24 Tryd.underlying62 hi0 hz0 hz1 hz2 rfl (by decide) _ _ _ rfl HOa.out (some ⟨w1.heap.size, 0, none⟩) 1 1 (w1.heap.size + 1) (tcells [⟨0, (s.size : Int), 0⟩]) rfl (fun h => by cases h) HRd.out HOne.out ?n3 ?n4 ?n5 ?_)
  case n3 => unfold maxLen; omega
  case n4 => omega
  case n5 => first | omega | (simp; omega)
  intro A9 c9 w9 hown9 hn9 hgrow9
  have HB9 := Lib.hid (below_grown HB.out HB.out.size HOa.out hgrow9)
  have HO9 := Lib.hid hown9
  clear hown9 hgrow9 HOa HRd HOne HB
  go_wp2_with fail
  go_ret
  exact ⟨A9, c9, rfl, HO9.out, HB9.out⟩

/-- The pieces ahead of which there is a break. -/
def trAt (L : List UInt8) (i : Nat) : Tr := (endE L).getD i ⟨0, 0, 0⟩
theorem trAt_is (L : List UInt8) {i : Nat} (h : i < (endE L).length) : trAt L i = (endE L)[i] := by unfold trAt; rw [List.getD_eq_getElem?_getD, List.getElem?_eq_getElem h]; rfl
theorem trAt_a (L : List UInt8) {i : Nat} (h : i ≤ nP L) : (trAt L i).a = (atL L i : Int) := by
  have hl := endE_len L
  rw [trAt_is L (by omega)]; exact endE_at L (by omega)
def brT (t : Tb) (L : List UInt8) : List Tr := (brN t L).map (trAt L)
def brE (t : Tb) (L : List UInt8) : Option (List Tr) := if errV t = 0 then some (brT t L) else none
theorem brT_len (t : Tb) (L : List UInt8) : (brT t L).length = (brN t L).length := by unfold brT; simp
theorem brT_a (t : Tb) (L : List UInt8) : (brT t L).map (·.a) = natI (ofA t L) := by
  unfold brT natI ofA
  rw [List.map_map, List.map_map]
  refine List.map_congr_left fun i hi => ?_
  exact trAt_a L (brN_le hi)
def OutTp (r : Option (List Tr)) (w : World) (e : Ending) (w' : World) : Prop := ∃ (A : Option Addr) (c : Nat), e = .returned (.tuple #[.slice A (r.getD []).length c, .bool r.isSome]) ∧ w'.ownsRow w.heap.size 65 3 (.slice A (r.getD []).length c) (r.getD []).length (tcells (r.getD [])) ∧ Below w.heap.size w w'
theorem OutTp.no {r : Option (List Tr)} {w w' : World} (h : r = none) (b : Below w.heap.size w w') : OutTp r w (.returned (.tuple #[.slice none 0 0, .bool false])) w' := by
  subst h
  exact ⟨none, 0, rfl, World.ownsRow_nil _ _ _ _, b⟩
theorem vals_take (L : List UInt8) {k : Nat} (hk : k < nP L) (h : k < (endE L).length) : (valsL L).take (k + 1) = (valsL L).take k ++ [(endE L)[k].v] := by
  have hl := valsL_len L
  have hk2 : k < (tris L).length := by rw [tris_len]; exact hk
  have hk3 : k < (valsL L).length := by omega
  have e1 : (valsL L)[k] = (tris L)[k].v := List.getElem_map _
  have e2 : (endE L)[k] = (tris L)[k] := List.getElem_append_left hk2
  rw [take_one hk3, e1, e2]
theorem icells_snoc' (l : List Int) (x : Int) : icells (l ++ [x]) = icells l ++ icells [x] := by simp [icells]
theorem natK_at (l : List Nat) {k : Nat} (h : k < l.length) (h2 : k < (natI l).length) : (natI l)[k] = (l[k] : Int) := List.getElem_map _

set_option maxHeartbeats 8000000 in
theorem broken_any (T : TV) (L : List UInt8) (M n : Nat) (hM : nP L = M) (hn : n = M + 1) (A : Option Addr) (c : Nat) (w : World) (hT : T.ok w) (hR : RP w w.heap.size A n (endE L)) (hc : n ≤ c) (hb : M ≤ 99999) :
    Calls Tryd.prog 84 #[T.v, .slice A n c] w (OutTp (brE T.tb L) w) := by
  obtain ⟨i0, hi0, hz0, hz1, hz2⟩ := info_parts info3
  obtain ⟨j0, hj0, hy0, hy1, hy2⟩ := info_parts infoP
  have b0 := below_new w (.cells #[.int .i64 T.cl, .slice T.a1 T.n1 T.c1, .slice T.a2 T.n2 T.c2, .slice T.a3 T.n3 T.c3] 26)
  have HX := Lib.hid (box_new w T)
  have HLe : Hid ((endE L).length = n) := Lib.hid hR.1
  have HMn : Hid (n = M + 1) := Lib.hid hn
  have HLv : Hid ((valsL L).length = M) := Lib.hid (by rw [valsL_len, hM])
  have HMp := Lib.hid hM
  obtain ⟨bA, oA, hA, hcl⟩ := hR.at (k := 0) (by rw [HLe.out]; omega)
  clear hcl
  subst hA
  have HR := Lib.hid (fun W (g : Below w.heap.size w W) => hR.on g)
  have HBr : Hid (∀ A' c' V, Below w.heap.size w V → RI V V.heap.size A' M (valsL L) → Calls Tryd.prog 39 #[T.v, .slice A' M c'] V (OutPl (if errV T.tb = 0 then some (plK T.tb (valsL L) (M + 1)) else none) V)) := Lib.hid (fun A' c' V g h2 => by
    have := wbreaks_any T (valsL L) M A' c' V (hT.on g) h2 (by omega)
    rwa [brW_is, hM] at this)
  have HPl : Hid (plK T.tb (valsL L) (M + 1) = natI (brN T.tb L)) := Lib.hid (by rw [← hM]; rfl)
  have HZl : Hid ((brN T.tb L).length ≤ M + 1) := Lib.hid (by rw [← hM]; exact brN_len T.tb L)
  have HZm : Hid (∀ k (h : k < (brN T.tb L).length), (brN T.tb L)[k] < n) := Lib.hid (fun k h => by have := brN_le (List.getElem_mem h); omega)
  have h1n : 1 ≤ n := by omega
  have hMc : M ≤ c := by omega
  have hnb : n ≤ 100000 := by omega
  have e1 : IntKind.i64.wrap ((n : Int) - 1) = (M : Int) := by rw [IntKind.wrap_i64]; omega
  have e2 : (n : Int) - 1 = (M : Int) := by omega
  clear hT hR hM hn
  simp only [TV.v] at *
  generalize T.tb = tb at *
  obtain ⟨_, p0, p1, p2, p3⟩ := HX.out
  go_enter Tryd.func84, Tryd.ntmps84
  go_wp2_with fail
  generalize w.alloc (.cells #[.int .i64 T.cl, .slice T.a1 T.n1 T.c1, .slice T.a2 T.n2 T.c2, .slice T.a3 T.n3 T.c3] 26) = w1 at *
  clear p0 p1 p2 p3
  have hw1 : w.heap.size ≤ w1.heap.size := b0.size
  have HB1 := Lib.hid b0
  clear b0
  go_loopw [6, 20] (fun vs vi wr => ∃ (k c6 : Nat) (A6 : Option Addr), vi = .int .i64 k ∧ k ≤ M ∧ vs = .slice A6 k c6 ∧ Hid (wr.ownsRow w1.heap.size 3 1 (.slice A6 k c6) k (icells ((valsL L).take k))) ∧ Hid (Below w1.heap.size w1 wr)) (fun _ vi _ => M - (intOf vi).toNat)
  case atStart => exact ⟨0, 0, none, rfl, Nat.zero_le _, rfl, Lib.hid (World.ownsRow_nil _ _ _ _), Lib.hid (Below.refl _ _)⟩
  case round =>
    obtain ⟨k, c6, A6, rfl, hk, rfl, HO, HB⟩ := hrel
    by_cases hlt : k < M
    · have kl : k < (endE L).length := by have := HLe.out; omega
      obtain ⟨bb, oo, hA, _, q0, q1, q2⟩ := (HR.out _ (HB1.out.trans (HB.out.mono hw1))).at kl
      injection hA with hA
      injection hA with hA1 hA2
      subst hA1 hA2
      have HTk : Hid ((valsL L).take (k + 1) = (valsL L).take k ++ [(endE L)[k].v]) := Lib.hid (vals_take L (by rw [HMp.out]; exact hlt) kl)
      generalize (endE L)[k].v = x at *
      generalize (endE L)[k].a = y at *
      generalize (endE L)[k].n = z at *
      have hws := HB.out.size
      have HRd : Hid (Reads ((wr.alloc (.cells #[.int .i64 x, .int .i64 y, .int .i64 z] 65)).alloc (.cells #[.int .i64 x] 3)) (wr.heap.size + 1 + 1) 1 (some ⟨wr.heap.size + 1, 0, none⟩) 1 (icells [x])) := Lib.hid (by
        have h := reads_int (wr.alloc (.cells #[.int .i64 x, .int .i64 y, .int .i64 z] 65)) x
        simpa using h)
      have HOne := Lib.hid (icells_one [x])
      have HOa := Lib.hid ((HO.out.alloc (.cells #[.int .i64 x, .int .i64 y, .int .i64 z] 65)).alloc (.cells #[.int .i64 x] 3))
      have HBa := Lib.hid ((HB.out.alloc hws (.cells #[.int .i64 x, .int .i64 y, .int .i64 z] 65)).alloc (by simp; omega) (.cells #[.int .i64 x] 3))
      clear HO HB
      go_wp2_with (at_builtin; refine wpList_append_src rfl _ _ 49 rfl w1.heap.size 3 i0 _ 1 8 Tryd.underlying49 hi0 hz0 hz1 hz2 rfl (by decide) _ _ _ rfl HOa.out (some ⟨wr.heap.size + 1, 0, none⟩) 1 1 (wr.heap.size + 1 + 1) (icells [x]) rfl (fun h => by cases h) HRd.out HOne.out ?n3 ?n4 ?n5 ?_)
      case n3 => unfold maxLen; omega
      case n4 => omega
      case n5 => first | omega | (simp; omega)
      intro A9 c9 w9 hown9 hn9 hgrow9
      have HB9 : Hid (Below w1.heap.size w1 w9) := Lib.hid (below_grown HBa.out HBa.out.size HOa.out hgrow9)
      have HO9 : Hid (w9.ownsRow w1.heap.size 3 1 (.slice A9 (k + 1) c9) (k + 1) (icells ((valsL L).take (k + 1)))) := Lib.hid (by rw [HTk.out, icells_snoc']; exact hown9)
      clear hown9 hgrow9 HOa HRd HOne HBa HTk q0 q1 q2
      go_wp2_with fail
      go_roundw
      case rel => exact ⟨k + 1, c9, A9, by go_num, by omega, rfl, HO9, HB9⟩
      case measure => simp [intOf]; omega
    · obtain rfl : k = M := by omega
      have HTl : Hid ((valsL L).take k = valsL L) := Lib.hid (List.take_of_length_le (by rw [HLv.out]; exact Nat.le_refl _))
      rw [HTl.out] at HO
      obtain ⟨_, p0, p1, p2, p3⟩ := HX.out.on HB.out
      have HC := Lib.hid (HBr.out A6 c6 wr (HB1.out.trans (HB.out.mono hw1)) (own_RI HO.out))
      have HB2 := Lib.hid (HB1.out.trans (HB.out.mono hw1))
      clear HTl HBr HB1 HB HO HX
      by_cases he : errV tb = 0
      case neg =>
        rw [if_neg he] at HC
        have HE : Hid (brE tb L = none) := Lib.hid (by unfold brE; rw [if_neg he])
        clear he
        go_wp2_with fail
        refine HC.out.mono ?_
        rintro e w3 ⟨A3, c3, rfl, hown, g⟩
        simp only [Option.isSome_none, Option.getD_none, List.length_nil]
        have HB3 := Lib.hid (HB2.out.trans (g.mono HB2.out.size))
        clear hown g HC
        go_wp2_with fail
        go_ret2
        exact OutTp.no HE.out HB3.out
      case pos =>
        rw [if_pos he, HPl.out] at HC
        have HE : Hid (brE tb L = some (brT tb L)) := Lib.hid (by unfold brE; rw [if_pos he])
        have HNl : Hid ((natI (brN tb L)).length = (brN tb L).length) := Lib.hid (by simp [natI])
        have HTl : Hid ((brT tb L).length = (brN tb L).length) := Lib.hid (brT_len tb L)
        have HTa : Hid (∀ j (h : j < (brN tb L).length) (h2 : (brN tb L)[j] < (endE L).length), (brT tb L).take (j + 1) = (brT tb L).take j ++ [(endE L)[(brN tb L)[j]]]) := Lib.hid (fun j h h2 => by
          have h3 : j < (brT tb L).length := by rw [brT_len]; exact h
          have e1 : (brT tb L)[j] = trAt L (brN tb L)[j] := List.getElem_map _
          rw [take_one h3, e1, trAt_is L h2])
        clear he HPl
        go_wp2_with fail
        refine HC.out.mono ?_
        rintro e w3 ⟨A3, c3, rfl, hown, g⟩
        simp only [Option.isSome_some, Option.getD_some] at hown ⊢
        have HB3 := Lib.hid (HB2.out.trans (g.mono HB2.out.size))
        have HRI := Lib.hid (own_RI hown)
        have hw3 := HB3.out.size
        clear hown g HC HB2 p0 p1 p2 p3
        obtain ⟨Z, hZ⟩ : ∃ Z, (brN tb L).length = Z := ⟨_, rfl⟩
        have hZb : Z ≤ 100000 := by have := HZl.out; omega
        rw [HNl.out, hZ] at HRI ⊢
        rw [hZ] at HTl
        have HZ := Lib.hid hZ
        clear hZ
        go_wp2_with fail
        go_loopw [11, 40] (fun vs vi wx => ∃ (j c7 : Nat) (A7 : Option Addr), vi = .int .i64 j ∧ j ≤ Z ∧ vs = .slice A7 j c7 ∧ Hid (wx.ownsRow w3.heap.size 65 3 (.slice A7 j c7) j (tcells ((brT tb L).take j))) ∧ Hid (Below w3.heap.size w3 wx)) (fun _ vi _ => Z - (intOf vi).toNat)
        case atStart => exact ⟨0, 0, none, rfl, Nat.zero_le _, rfl, Lib.hid (World.ownsRow_nil _ _ _ _), Lib.hid (Below.refl _ _)⟩
        case round =>
          rename World => wx
          obtain ⟨j, c7, A7, rfl, hj, rfl, HO, HB⟩ := hrel
          by_cases hjl : j < Z
          · have jl : j < (brN tb L).length := by rw [HZ.out]; exact hjl
            have jn : j < (natI (brN tb L)).length := by rw [HNl.out]; exact jl
            obtain ⟨b8, o8, hA8, _, r0⟩ := (HRI.out.on HB.out).at jn
            rw [natK_at _ jl jn] at r0
            have hpl := HZm.out j jl
            have kl : (brN tb L)[j] < (endE L).length := by rw [HLe.out]; exact hpl
            have HTk := Lib.hid (HTa.out j jl kl)
            obtain ⟨bb, oo, hA, _, q0, q1, q2⟩ := (HR.out _ (HB3.out.trans (HB.out.mono hw3))).at kl
            injection hA with hA
            injection hA with hA1 hA2
            subst hA1 hA2 hA8
            generalize (endE L)[(brN tb L)[j]] = P at *
            generalize (brN tb L)[j] = pl at *
            obtain ⟨x, y, z⟩ := P
            simp only [] at q0 q1 q2
            have hws := HB.out.size
            have HRd := Lib.hid (reads_tr wx x y z 65)
            have HOne := Lib.hid (tcells_one [⟨x, y, z⟩])
            have HOa := Lib.hid (HO.out.alloc (.cells #[.int .i64 x, .int .i64 y, .int .i64 z] 65))
            have HBa := Lib.hid (HB.out.alloc hws (.cells #[.int .i64 x, .int .i64 y, .int .i64 z] 65))
            have hplI : (pl : Int) < (n : Int) := by omega
            clear HO HB
            go_wp2_with (at_builtin; refine wpList_append_src rfl _ _ 62 rfl w3.heap.size 65 j0 _ 3 24 Tryd.underlying62 hj0 hy0 hy1 hy2 rfl (by decide) _ _ _ rfl HOa.out (some ⟨wx.heap.size, 0, none⟩) 1 1 (wx.heap.size + 1) (tcells [⟨x, y, z⟩]) rfl (fun h => by cases h) HRd.out HOne.out ?n3 ?n4 ?n5 ?_)
            case n3 => unfold maxLen; omega
            case n4 => omega
            case n5 => first | omega | (simp; omega)
            intro A9 c9 w9 hown9 hn9 hgrow9
            have HB9 : Hid (Below w3.heap.size w3 w9) := Lib.hid (below_grown HBa.out HBa.out.size HOa.out hgrow9)
            have HO9 : Hid (w9.ownsRow w3.heap.size 65 3 (.slice A9 (j + 1) c9) (j + 1) (tcells ((brT tb L).take (j + 1)))) := Lib.hid (by
              have e : tcells ((brT tb L).take (j + 1)) = tcells ((brT tb L).take j) ++ tcells [⟨x, y, z⟩] := by rw [HTk.out]; unfold tcells; rw [List.flatMap_append]
              rw [e]; exact hown9)
            clear hown9 hgrow9 HOa HRd HOne HBa HTk q0 q1 q2 r0
            go_wp2_with fail
            go_roundw
            case rel => exact ⟨j + 1, c9, A9, by go_num, by omega, rfl, HO9, HB9⟩
            case measure => simp [intOf]; omega
          · obtain rfl : j = Z := by omega
            have HTe : Hid ((brT tb L).take j = brT tb L) := Lib.hid (List.take_of_length_le (by rw [HTl.out]; exact Nat.le_refl _))
            rw [HTe.out] at HO
            have HBf := Lib.hid (HB3.out.trans (HB.out.mono hw3))
            clear HB HB3 HR HRI
            go_wp2_with fail
            go_ret2
            rw [HE.out]
            refine ⟨A7, c7, ?_, ?_, HBf.out⟩
            · rw [Option.getD_some, HTl.out]; rfl
            · rw [Option.getD_some, HTl.out]; exact HO.out.mono hw3
end Go.Proofs.YtbnconieedgcmaaDoor
