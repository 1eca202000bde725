/- What package seek returns: the places that it remembers; whether there is a break, the next one, the one ahead. -/
import Derived.Test.YtmhfgncffkfelaaDoorSMap
import Derived.Test.YtmhfgncffkfelaaDoorSkM
import Derived.BigQuiet
import Derived.Deep.CutRange
namespace Go.Proofs.YtmhfgncffkfelaaDoor
open Go.RowKit Go.BigFrame
open U (Tr tcells tcell tris Tab)
set_option linter.unusedVariables false
set_option maxRecDepth 4000
set_option linter.unusedSimpArgs false

theorem has_any (b : Nat) (p : Addr) (L : List Int) (i : Int) (w : World) (h : Sp w b p L) : Calls Tryd.prog 82 #[.map (some b), spv p i] w fun e w' => e = .returned (.bool (L.contains i)) ∧ Below w.heap.size w w' := by
  have b0 := below_new w (.cells #[.pointer (some p), .int .i64 i] 117)
  have HS := Lib.hid (h.on b0)
  obtain ⟨q, hq⟩ : ∃ q, L.contains i = q := ⟨_, rfl⟩
  have HQ := Lib.hid hq
  rw [hq]
  clear h hq
  go_enter Tryd.func82, Tryd.ntmps82
  go_wp2_with (at_lookup; refine wpList_sp_has _ rfl _ _ rfl b p L i rfl HS.out rfl ?_; rw [HQ.out])
  go_ret
  exact ⟨rfl, below_call b0 b0.size (below_new _ _)⟩

theorem has_q {b : Nat} {p : Addr} {L : List Int} {i : Int} {q : Bool} (hq : L.contains i = q) (w : World) (h : Sp w b p L) : Calls Tryd.prog 82 #[.map (some b), spv p i] w fun e w' => e = .returned (.bool q) ∧ Below w.heap.size w w' := by
  have := has_any b p L i w h
  rwa [hq] at this
/-- What remembered leaves. -/
def OutRm (e0 : Int) (p : Addr) (l : List Int) (w : World) (e : Ending) (w' : World) : Prop := ∃ m, e = .returned (.tuple #[.map m, .int .i64 e0]) ∧ (e0 = 0 → ∃ b, m = some b ∧ Sp w' b p l) ∧ Below w.heap.size w w'
theorem sOn5 {k g : Nat} {T : TV} {s : ByteArray} {w V V' : World} (b : Below V.heap.size V V') (h : V.cell? ⟨k, 0, none⟩ = some (.int .i64 T.cl) ∧ V.cell? ⟨k, 1, none⟩ = some (.slice T.a1 T.n1 T.c1) ∧ V.cell? ⟨k, 2, none⟩ = some (.slice T.a2 T.n2 T.c2) ∧ V.cell? ⟨k, 3, none⟩ = some (.slice T.a3 T.n3 T.c3) ∧ V.cell? ⟨g, 0, none⟩ = some (.string s) ∧ Below w.heap.size w V) :
    V'.cell? ⟨k, 0, none⟩ = some (.int .i64 T.cl) ∧ V'.cell? ⟨k, 1, none⟩ = some (.slice T.a1 T.n1 T.c1) ∧ V'.cell? ⟨k, 2, none⟩ = some (.slice T.a2 T.n2 T.c2) ∧ V'.cell? ⟨k, 3, none⟩ = some (.slice T.a3 T.n3 T.c3) ∧ V'.cell? ⟨g, 0, none⟩ = some (.string s) ∧ Below w.heap.size w V' :=
  ⟨kept_cell b h.1, kept_cell b h.2.1, kept_cell b h.2.2.1, kept_cell b h.2.2.2.1, kept_cell b h.2.2.2.2.1, h.2.2.2.2.2.trans (b.mono h.2.2.2.2.2.size)⟩
set_option maxHeartbeats 8000000 in
theorem rem_any (T : TV) (s : ByteArray) (g : Nat) (a : Int) (w : World) (hT : T.ok w) (hs : s.size ≤ 90000) (hTab : Tab w) (hp : w.cell? ⟨g, 0, none⟩ = some (.string s)) :
    Calls Tryd.prog 81 #[T.v, .pointer (some ⟨g, 0, none⟩), .int .i64 a] w (OutRm (seekE T.tb s.size a) ⟨g, 0, none⟩ (natI (ofA T.tb s.data.toList)) w) := by
  have HOf := Lib.hid (fun V (g : Below w.heap.size w V) => of_any T s V (hT.on g) hs (hTab.below g))
  have b0 := below_new w (.cells #[.int .i64 T.cl, .slice T.a1 T.n1 T.c1, .slice T.a2 T.n2 T.c2, .slice T.a3 T.n3 T.c3] 26)
  have HX := Lib.hid (box_new w T)
  obtain ⟨L, hL⟩ : ∃ L, s.data.toList = L := ⟨_, rfl⟩
  have hLl : L.length = s.size := by rw [← hL]; exact Array.length_toList
  rw [hL] at HOf ⊢
  have HZb : (brN T.tb L).length ≤ 90001 := by have := brN_len T.tb L; have := nP_le L; omega
  have HSo := Lib.hid (brk_sorted T.tb L)
  have HNl : Hid ((natI (ofA T.tb L)).length = (brN T.tb L).length) := Lib.hid (by rw [natI_len, ofA_len])
  obtain ⟨e0, he0⟩ : ∃ e0, seekE T.tb s.size a = e0 := ⟨_, rfl⟩
  rw [he0]
  obtain ⟨l, hl⟩ : ∃ l, natI (ofA T.tb L) = l := ⟨_, rfl⟩
  rw [hl] at HSo HNl ⊢
  clear hT hTab hL
  simp only [TV.v] at *
  obtain ⟨_, p0, p1, p2, p3⟩ := HX.out
  have p4 := kept_cell b0 hp
  go_enter Tryd.func81, Tryd.ntmps81
  go_wp2_with fail
  generalize w.alloc (.cells #[.int .i64 T.cl, .slice T.a1 T.n1 T.c1, .slice T.a2 T.n2 T.c2, .slice T.a3 T.n3 T.c3] 26) = w1 at *
  have hS0 : w1.cell? ⟨w.heap.size, 0, none⟩ = some (.int .i64 T.cl) ∧ w1.cell? ⟨w.heap.size, 1, none⟩ = some (.slice T.a1 T.n1 T.c1) ∧ w1.cell? ⟨w.heap.size, 2, none⟩ = some (.slice T.a2 T.n2 T.c2) ∧ w1.cell? ⟨w.heap.size, 3, none⟩ = some (.slice T.a3 T.n3 T.c3) ∧ w1.cell? ⟨g, 0, none⟩ = some (.string s) ∧ Below w.heap.size w w1 := ⟨p0, p1, p2, p3, p4, b0⟩
  have hS1 := sOn5 (Below.drew (Below.refl w1.heap.size w1)) hS0
  clear p0 p1 p2 p3 p4 b0 HX hp
  go_region_held3 (fun V => V.cell? ⟨w.heap.size, 0, none⟩ = some (.int .i64 T.cl) ∧ V.cell? ⟨w.heap.size, 1, none⟩ = some (.slice T.a1 T.n1 T.c1) ∧ V.cell? ⟨w.heap.size, 2, none⟩ = some (.slice T.a2 T.n2 T.c2) ∧ V.cell? ⟨w.heap.size, 3, none⟩ = some (.slice T.a3 T.n3 T.c3) ∧ V.cell? ⟨g, 0, none⟩ = some (.string s) ∧ Below w.heap.size w V) (with_reducible (first | assumption | exact hS0 | exact hS1)) (first | (go_at_call 36; (with_reducible refine Calls.mono (HOf.out _ ?_) ?_); (first | exact hS1.2.2.2.2.2 | exact hS0.2.2.2.2.2); rintro e v1 ⟨A1, c1, rfl, hown, g1⟩; have hS2 := sOn5 g1 (by with_reducible (first | assumption | exact hS1 | exact hS0))))
  have HB3 := Lib.hid hS2.2.2.2.2.2
  have p4 := hS2.2.2.2.2.1
  clear hS0 hS1 hS2 g1 HOf
  by_cases he : errV T.tb = 0
  case neg =>
    obtain rfl : e0 = 1 := by rw [← he0]; unfold seekE; rw [if_neg he]
    have hE2 : ofS T.tb L = none := by unfold ofS; rw [if_neg he]
    simp only [hE2, Option.isSome_none, Option.getD_none, List.length_nil] at hown ⊢
    clear he he0 hE2 hown
    go_wp2_with fail
    go_ret2
    exact ⟨none, rfl, fun h => absurd h (by decide), HB3.out⟩
  case pos =>
    have hE2 : ofS T.tb L = some l := by rw [← hl]; unfold ofS; rw [if_pos he]
    have hNl := HNl.out
    simp only [hE2, Option.isSome_some, Option.getD_some, hNl] at hown ⊢
    clear hNl
    have HRI := Lib.hid (own_RI hown)
    clear hE2 hown
    by_cases h1 : a < 0
    case pos =>
      obtain rfl : e0 = 2 := by rw [← he0]; unfold seekE; rw [if_pos he, if_pos (.inl h1)]
      clear he he0
      have h1d : decide (a < 0) = true := by simpa using h1
      go_wp2_with fail
      go_ret2
      exact ⟨none, rfl, fun h => absurd h (by decide), HB3.out⟩
    case neg =>
    have h1d : decide (a < 0) = false := by simpa using h1
    by_cases h2 : (s.size : Int) < a
    case pos =>
      obtain rfl : e0 = 2 := by rw [← he0]; unfold seekE; rw [if_pos he, if_pos (.inr h2)]
      clear he he0
      go_wp2_with fail
      go_ret2
      exact ⟨none, rfl, fun h => absurd h (by decide), HB3.out⟩
    case neg =>
    obtain rfl : e0 = 0 := by rw [← he0]; exact seekE_of he (by omega) (by omega)
    clear he he0
    obtain ⟨Z, hZ⟩ : ∃ Z, (brN T.tb L).length = Z := ⟨_, rfl⟩
    rw [hZ] at HRI HNl HZb ⊢
    clear hl hZ
    rename World => w3
    have hmm : (Instr.makeMap 111 none).run Tryd.prog w3 = .ok (.map (some w3.heap.size)) (w3.alloc (.map #[] 0)) := run_makeMap _ _
    have hw3 := HB3.out.size
    have HM0 := Lib.hid (Sp.made w3 ⟨g, 0, none⟩)
    go_wp2_with fail
    go_loopw [36] (fun vi wx => ∃ (j : Nat), vi = .int .i64 j ∧ j ≤ Z ∧ Hid (Sp wx w3.heap.size ⟨g, 0, none⟩ (l.take j)) ∧ Hid (Below w3.heap.size w3 wx)) (fun vi _ => Z - (intOf vi).toNat)
    case atStart => exact ⟨0, rfl, Nat.zero_le _, Lib.hid HM0.out, Lib.hid (below_new _ _)⟩
    case round =>
      obtain ⟨k, rfl, hk, HM, HB⟩ := hrel
      by_cases hlt : k < Z
      · have kl : k < l.length := by rw [HNl.out]; exact hlt
        obtain ⟨b1, o1, hA, _, q0⟩ := (HRI.out.on HB.out).at kl
        subst hA
        have HTk := Lib.hid (take_one kl)
        have HNi : Hid (l[k] ∉ l.take k) := Lib.hid (fun h => by
          obtain ⟨j, hj, e⟩ := List.getElem_of_mem h
          rw [List.length_take] at hj
          rw [List.getElem_take] at e
          have := List.pairwise_iff_getElem.1 HSo.out j k (by omega) kl (by omega)
          omega)
        generalize l[k] = x at *
        go_wp2_with (at_mapUpdate; refine wpList_sp_put _ rfl _ _ _ rfl w3.heap.size ⟨g, 0, none⟩ (l.take k) x rfl HM.out rfl rfl HNi.out ?_; intro w9 hown9 hgrow9)
        have HM9 : Hid (Sp w9 w3.heap.size ⟨g, 0, none⟩ (l.take (k + 1))) := Lib.hid (by rw [HTk.out]; exact hown9)
        have HB9 : Hid (Below w3.heap.size w3 w9) := Lib.hid (HB.out.grown hgrow9 HB.out.size (fun j hj => by cases hj; exact Nat.le_refl _))
        clear hown9 hgrow9 HM HB
        go_wp2_with fail
        go_roundw
        case rel => exact ⟨k + 1, by go_num, by omega, HM9, HB9⟩
        case measure => simp [intOf]; omega
      · obtain rfl : k = Z := by omega
        have HTe : Hid (l.take k = l) := Lib.hid (List.take_of_length_le (by rw [HNl.out]; exact Nat.le_refl _))
        rw [HTe.out] at HM
        go_wp2_with fail
        go_ret2
        exact ⟨_, rfl, fun _ => ⟨_, rfl, HM.out⟩, below_call HB3.out hw3 HB.out⟩
set_option maxHeartbeats 8000000 in
theorem is_any (T : TV) (s : ByteArray) (a : Int) (w : World) (hT : T.ok w) (hs : s.size ≤ 90000) (hTab : Tab w) (ha : -9223372036854775808 ≤ a ∧ a ≤ 9223372036854775807) :
    Calls Tryd.prog 32 #[T.v, .string s, .int .i64 a] w fun e w' => e = .returned (.tuple #[.bool (isA T.tb s.data.toList a), .int .i64 (seekE T.tb s.size a)]) ∧ Below w.heap.size w w' := by
  have b1 := below_new w (.cells #[.int .i64 T.cl, .slice T.a1 T.n1 T.c1, .slice T.a2 T.n2 T.c2, .slice T.a3 T.n3 T.c3] 26)
  have b0 : Below w.heap.size w ((w.alloc (.cells #[.int .i64 T.cl, .slice T.a1 T.n1 T.c1, .slice T.a2 T.n2 T.c2, .slice T.a3 T.n3 T.c3] 26)).alloc (.cells #[.string s] 9)) := b1.trans ((below_new _ _).mono b1.size)
  have HRm := Lib.hid (fun V (g : Below w.heap.size w V) (h : V.cell? ⟨w.heap.size + 1, 0, none⟩ = some (.string s)) => rem_any T s (w.heap.size + 1) a V (hT.on g) hs (hTab.below g) h)
  have HX := Lib.hid ((box_new w T).on (below_new _ (.cells #[.string s] 9)))
  have hp : ((w.alloc (.cells #[.int .i64 T.cl, .slice T.a1 T.n1 T.c1, .slice T.a2 T.n2 T.c2, .slice T.a3 T.n3 T.c3] 26)).alloc (.cells #[.string s] 9)).cell? ⟨w.heap.size + 1, 0, none⟩ = some (.string s) := by simp
  obtain ⟨L, hL⟩ : ∃ L, s.data.toList = L := ⟨_, rfl⟩
  have hLl : L.length = s.size := by rw [← hL]; exact Array.length_toList
  rw [hL] at HRm ⊢
  obtain ⟨ev, hev⟩ : ∃ ev, seekE T.tb s.size a = ev := ⟨_, rfl⟩
  obtain ⟨r, hr⟩ : ∃ r, isA T.tb L a = r := ⟨_, rfl⟩
  rw [hev] at HRm
  rw [hev, hr]
  clear hT hTab hL b1
  simp only [TV.v] at *
  obtain ⟨_, p0, p1, p2, p3⟩ := HX.out
  go_enter Tryd.func32, Tryd.ntmps32
  go_wp2_with fail
  generalize (w.alloc (.cells #[.int .i64 T.cl, .slice T.a1 T.n1 T.c1, .slice T.a2 T.n2 T.c2, .slice T.a3 T.n3 T.c3] 26)).alloc (.cells #[.string s] 9) = w1 at *
  have hw1 : w.heap.size ≤ w1.heap.size := b0.size
  unfold OutRm at HRm
  by_cases hE : ev = 0
  case neg =>
    have hE2 : seekE T.tb L.length a ≠ 0 := by rw [hLl, hev]; exact hE
    obtain rfl : r = false := by rw [← hr]; unfold isA; rw [if_neg hE2]
    have hn : (ev != 0) = true := by rw [bne_iff_ne]; exact hE
    generalize natI (ofA T.tb L) = l at *
    clear hr hE2 hev
    go_wp2_with fail
    refine (HRm.out _ b0 hp).mono ?_
    rintro e w3 ⟨m, rfl, hm, g3⟩
    have bf := below_call b0 hw1 g3
    clear hm g3 HRm p0 p1 p2 p3 hp HX
    go_wp2_with fail
    go_ret2
    exact ⟨rfl, bf⟩
  case pos =>
  subst hE
  have hE2 : seekE T.tb L.length a = 0 := by rw [hLl]; exact hev
  obtain ⟨_, ha0, ha1⟩ := seekE_ok hev
  have HRq : Hid ((natI (ofA T.tb L)).contains a = r) := Lib.hid (by rw [← hr]; exact (isA_is hE2).symm)
  clear hr hev hE2
  generalize natI (ofA T.tb L) = l at *
  go_wp2_with fail
  refine (HRm.out _ b0 hp).mono ?_
  rintro e w3 ⟨m, rfl, hm, g3⟩
  obtain ⟨M, rfl, hms⟩ := hm (by trivial)
  have bf := below_call b0 hw1 g3
  have hw3 := bf.size
  have HM := Lib.hid hms
  have p5 := kept_cell g3 hp
  clear hm hms g3 HRm p0 p1 p2 p3 hp HX b0
  go_wp2_with fail
  refine (has_q HRq.out _ HM.out).mono ?_
  rintro e w4 ⟨rfl, g4⟩
  have bf := below_call bf hw3 g4
  clear g4 HM
  go_wp2_with fail
  go_ret2
  exact ⟨rfl, bf⟩
set_option maxHeartbeats 8000000 in
theorem next_any (T : TV) (s : ByteArray) (a : Int) (w : World) (hT : T.ok w) (hs : s.size ≤ 90000) (hTab : Tab w) (ha : -9223372036854775808 ≤ a ∧ a ≤ 9223372036854775807) :
    Calls Tryd.prog 33 #[T.v, .string s, .int .i64 a] w fun e w' => e = .returned (.tuple #[.int .i64 (nextA T.tb s.data.toList a), .int .i64 (seekE T.tb s.size a)]) ∧ Below w.heap.size w w' := by
  have b1 := below_new w (.cells #[.int .i64 T.cl, .slice T.a1 T.n1 T.c1, .slice T.a2 T.n2 T.c2, .slice T.a3 T.n3 T.c3] 26)
  have b0 : Below w.heap.size w ((w.alloc (.cells #[.int .i64 T.cl, .slice T.a1 T.n1 T.c1, .slice T.a2 T.n2 T.c2, .slice T.a3 T.n3 T.c3] 26)).alloc (.cells #[.string s] 9)) := b1.trans ((below_new _ _).mono b1.size)
  have HRm := Lib.hid (fun V (g : Below w.heap.size w V) (h : V.cell? ⟨w.heap.size + 1, 0, none⟩ = some (.string s)) => rem_any T s (w.heap.size + 1) a V (hT.on g) hs (hTab.below g) h)
  have HX := Lib.hid ((box_new w T).on (below_new _ (.cells #[.string s] 9)))
  have hp : ((w.alloc (.cells #[.int .i64 T.cl, .slice T.a1 T.n1 T.c1, .slice T.a2 T.n2 T.c2, .slice T.a3 T.n3 T.c3] 26)).alloc (.cells #[.string s] 9)).cell? ⟨w.heap.size + 1, 0, none⟩ = some (.string s) := by simp
  obtain ⟨L, hL⟩ : ∃ L, s.data.toList = L := ⟨_, rfl⟩
  have hLl : L.length = s.size := by rw [← hL]; exact Array.length_toList
  rw [hL] at HRm ⊢
  obtain ⟨ev, hev⟩ : ∃ ev, seekE T.tb s.size a = ev := ⟨_, rfl⟩
  obtain ⟨r, hr⟩ : ∃ r, nextA T.tb L a = r := ⟨_, rfl⟩
  rw [hev] at HRm
  rw [hev, hr]
  clear hT hTab hL b1
  simp only [TV.v] at *
  obtain ⟨_, p0, p1, p2, p3⟩ := HX.out
  go_enter Tryd.func33, Tryd.ntmps33
  go_wp2_with fail
  generalize (w.alloc (.cells #[.int .i64 T.cl, .slice T.a1 T.n1 T.c1, .slice T.a2 T.n2 T.c2, .slice T.a3 T.n3 T.c3] 26)).alloc (.cells #[.string s] 9) = w1 at *
  have hw1 : w.heap.size ≤ w1.heap.size := b0.size
  unfold OutRm at HRm
  by_cases hE : ev = 0
  case neg =>
    have hE2 : seekE T.tb L.length a ≠ 0 := by rw [hLl, hev]; exact hE
    obtain rfl : r = 0 := by rw [← hr]; unfold nextA; rw [if_neg hE2]
    have hn : (ev != 0) = true := by rw [bne_iff_ne]; exact hE
    generalize natI (ofA T.tb L) = l at *
    clear hr hE2 hev
    go_wp2_with fail
    refine (HRm.out _ b0 hp).mono ?_
    rintro e w3 ⟨m, rfl, hm, g3⟩
    have bf := below_call b0 hw1 g3
    clear hm g3 HRm p0 p1 p2 p3 hp HX
    go_wp2_with fail
    go_ret2
    exact ⟨rfl, bf⟩
  case pos =>
  subst hE
  have hE2 : seekE T.tb L.length a = 0 := by rw [hLl]; exact hev
  obtain ⟨_, ha0, ha1⟩ := seekE_ok hev
  have HN := Lib.hid (nextA_is hE2)
  rw [hr] at HN
  clear hr hev
  generalize natI (ofA T.tb L) = l at *
  rw [hLl] at HN
  go_wp2_with fail
  refine (HRm.out _ b0 hp).mono ?_
  rintro e w3 ⟨m, rfl, hm, g3⟩
  obtain ⟨M, rfl, hms⟩ := hm (by trivial)
  have bf := below_call b0 hw1 g3
  have hw3 := bf.size
  have HM := Lib.hid hms
  have p5 := kept_cell g3 hp
  clear hm hms g3 HRm p0 p1 p2 p3 hp HX b0
  clear hE2 hLl
  have HB3 := Lib.hid bf
  have HP5 := Lib.hid p5
  clear bf p5
  go_wp2_with fail
  go_loopw [10] (fun v wx => ∃ k : Int, v = .int .i64 k ∧ a < k ∧ k ≤ (s.size : Int) + 1 ∧ Hid (∀ j, a < j → j < k → j ∉ l) ∧ Hid (Below w3.heap.size w3 wx)) (fun v _ => ((s.size : Int) + 1 - intOf v).toNat)
  case atStart => exact ⟨a + 1, by go_num, by omega, by omega, Lib.hid (fun j h1 h2 => by omega), Lib.hid (Below.refl _ _)⟩
  case round =>
    obtain ⟨k, rfl, hk1, hk2, HJ, HB⟩ := hrel
    have p5 := kept_cell HB.out HP5.out
    by_cases hlt : k ≤ (s.size : Int)
    · have hld : decide (k ≤ (s.size : Int)) = true := by simpa using hlt
      obtain ⟨qh, hc⟩ : ∃ q, l.contains k = q := ⟨_, rfl⟩
      have HQh := Lib.hid hc
      clear hc
      go_wp2_with fail
      refine (has_q HQh.out _ (HM.out.on HB.out)).mono ?_
      rintro e w4 ⟨rfl, g4⟩
      have HB4 := Lib.hid (below_call HB.out HB.out.size g4)
      clear g4 HB p5
      cases qh
      case false =>
        have HC : Hid (k ∉ l) := Lib.hid (by simpa using HQh.out)
        clear HQh
        go_wp2_with fail
        go_roundw
        case rel => exact ⟨k + 1, by go_num, by omega, by omega, Lib.hid (fun j h1 h2 => by
          by_cases e : j = k
          · subst e; exact HC.out
          · exact HJ.out j h1 (by omega)), HB4⟩
        case measure => simp [intOf]; omega
      case true =>
        have HC : Hid (k ∈ l) := Lib.hid (by simpa using HQh.out)
        clear HQh
        have hy : r = k := HN.out.uniq ⟨hk1, hk2, HJ.out, fun _ => HC.out⟩
        subst hy
        go_wp2_with fail
        go_ret2
        exact ⟨rfl, below_call HB3.out hw3 HB4.out⟩
    · have hld : decide (k ≤ (s.size : Int)) = false := by simpa using hlt
      have hy : r = k := HN.out.uniq ⟨hk1, hk2, HJ.out, fun h => absurd h hlt⟩
      subst hy
      go_wp2_with fail
      go_ret2
      exact ⟨rfl, below_call HB3.out hw3 HB.out⟩
set_option maxHeartbeats 8000000 in
theorem prev_any (T : TV) (s : ByteArray) (a : Int) (w : World) (hT : T.ok w) (hs : s.size ≤ 90000) (hTab : Tab w) (ha : -9223372036854775808 ≤ a ∧ a ≤ 9223372036854775807) :
    Calls Tryd.prog 34 #[T.v, .string s, .int .i64 a] w fun e w' => e = .returned (.tuple #[.int .i64 (prevA T.tb s.data.toList a), .int .i64 (seekE T.tb s.size a)]) ∧ Below w.heap.size w w' := by
  have b1 := below_new w (.cells #[.int .i64 T.cl, .slice T.a1 T.n1 T.c1, .slice T.a2 T.n2 T.c2, .slice T.a3 T.n3 T.c3] 26)
  have b0 : Below w.heap.size w ((w.alloc (.cells #[.int .i64 T.cl, .slice T.a1 T.n1 T.c1, .slice T.a2 T.n2 T.c2, .slice T.a3 T.n3 T.c3] 26)).alloc (.cells #[.string s] 9)) := b1.trans ((below_new _ _).mono b1.size)
  have HRm := Lib.hid (fun V (g : Below w.heap.size w V) (h : V.cell? ⟨w.heap.size + 1, 0, none⟩ = some (.string s)) => rem_any T s (w.heap.size + 1) a V (hT.on g) hs (hTab.below g) h)
  have HX := Lib.hid ((box_new w T).on (below_new _ (.cells #[.string s] 9)))
  have hp : ((w.alloc (.cells #[.int .i64 T.cl, .slice T.a1 T.n1 T.c1, .slice T.a2 T.n2 T.c2, .slice T.a3 T.n3 T.c3] 26)).alloc (.cells #[.string s] 9)).cell? ⟨w.heap.size + 1, 0, none⟩ = some (.string s) := by simp
  obtain ⟨L, hL⟩ : ∃ L, s.data.toList = L := ⟨_, rfl⟩
  have hLl : L.length = s.size := by rw [← hL]; exact Array.length_toList
  rw [hL] at HRm ⊢
  obtain ⟨ev, hev⟩ : ∃ ev, seekE T.tb s.size a = ev := ⟨_, rfl⟩
  obtain ⟨r, hr⟩ : ∃ r, prevA T.tb L a = r := ⟨_, rfl⟩
  rw [hev] at HRm
  rw [hev, hr]
  clear hT hTab hL b1
  simp only [TV.v] at *
  obtain ⟨_, p0, p1, p2, p3⟩ := HX.out
  go_enter Tryd.func34, Tryd.ntmps34
  go_wp2_with fail
  generalize (w.alloc (.cells #[.int .i64 T.cl, .slice T.a1 T.n1 T.c1, .slice T.a2 T.n2 T.c2, .slice T.a3 T.n3 T.c3] 26)).alloc (.cells #[.string s] 9) = w1 at *
  have hw1 : w.heap.size ≤ w1.heap.size := b0.size
  unfold OutRm at HRm
  by_cases hE : ev = 0
  case neg =>
    have hE2 : seekE T.tb L.length a ≠ 0 := by rw [hLl, hev]; exact hE
    obtain rfl : r = 0 := by rw [← hr]; unfold prevA; rw [if_neg hE2]
    have hn : (ev != 0) = true := by rw [bne_iff_ne]; exact hE
    generalize natI (ofA T.tb L) = l at *
    clear hr hE2 hev
    go_wp2_with fail
    refine (HRm.out _ b0 hp).mono ?_
    rintro e w3 ⟨m, rfl, hm, g3⟩
    have bf := below_call b0 hw1 g3
    clear hm g3 HRm p0 p1 p2 p3 hp HX
    go_wp2_with fail
    go_ret2
    exact ⟨rfl, bf⟩
  case pos =>
  subst hE
  have hE2 : seekE T.tb L.length a = 0 := by rw [hLl]; exact hev
  obtain ⟨_, ha0, ha1⟩ := seekE_ok hev
  have HN := Lib.hid (prevA_is hE2)
  rw [hr] at HN
  clear hr hev
  generalize natI (ofA T.tb L) = l at *
  go_wp2_with fail
  refine (HRm.out _ b0 hp).mono ?_
  rintro e w3 ⟨m, rfl, hm, g3⟩
  obtain ⟨M, rfl, hms⟩ := hm (by trivial)
  have bf := below_call b0 hw1 g3
  have hw3 := bf.size
  have HM := Lib.hid hms
  have p5 := kept_cell g3 hp
  clear hm hms g3 HRm p0 p1 p2 p3 hp HX b0
  clear hE2 hLl
  have HB3 := Lib.hid bf
  have HP5 := Lib.hid p5
  clear bf p5
  go_wp2_with fail
  go_loopw [10] (fun v wx => ∃ k : Int, v = .int .i64 k ∧ -1 ≤ k ∧ k < a ∧ Hid (∀ j, k < j → j < a → j ∉ l) ∧ Hid (Below w3.heap.size w3 wx)) (fun v _ => (intOf v + 1).toNat)
  case atStart => exact ⟨a - 1, by go_num, by omega, by omega, Lib.hid (fun j h1 h2 => by omega), Lib.hid (Below.refl _ _)⟩
  case round =>
    obtain ⟨k, rfl, hk1, hk2, HJ, HB⟩ := hrel
    by_cases hlt : 0 ≤ k
    · have hld : decide (0 ≤ k) = true := by simpa using hlt
      obtain ⟨qh, hc⟩ : ∃ q, l.contains k = q := ⟨_, rfl⟩
      have HQh := Lib.hid hc
      clear hc
      go_wp2_with fail
      refine (has_q HQh.out _ (HM.out.on HB.out)).mono ?_
      rintro e w4 ⟨rfl, g4⟩
      have HB4 := Lib.hid (below_call HB.out HB.out.size g4)
      clear g4 HB
      cases qh
      case false =>
        have HC : Hid (k ∉ l) := Lib.hid (by simpa using HQh.out)
        clear HQh
        go_wp2_with fail
        go_roundw
        case rel => exact ⟨k - 1, by go_num, by omega, by omega, Lib.hid (fun j h1 h2 => by
          by_cases e : j = k
          · subst e; exact HC.out
          · exact HJ.out j (by omega) h2), HB4⟩
        case measure => simp [intOf]; omega
      case true =>
        have HC : Hid (k ∈ l) := Lib.hid (by simpa using HQh.out)
        clear HQh
        have hy : r = k := HN.out.uniq ⟨hk2, hk1, HJ.out, fun _ => HC.out⟩
        subst hy
        go_wp2_with fail
        go_ret2
        exact ⟨rfl, below_call HB3.out hw3 HB4.out⟩
    · have hld : decide (0 ≤ k) = false := by simpa using hlt
      have hy : r = k := HN.out.uniq ⟨hk2, hk1, HJ.out, fun h => absurd h hlt⟩
      subst hy
      go_wp2_with fail
      go_ret2
      exact ⟨rfl, below_call HB3.out hw3 HB.out⟩
end Go.Proofs.YtmhfgncffkfelaaDoor
