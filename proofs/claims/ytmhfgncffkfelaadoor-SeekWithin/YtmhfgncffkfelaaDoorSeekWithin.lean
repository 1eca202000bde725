/- SeekWithin: of every table that may be and every text: within a piece there is never a break; each place between two breaks has them as its neighbors.
   Conditions: none but the row's own (the variable of lead bytes starts as the program's text lays it). -/
import Derived.Test.YtmhfgncffkfelaaDoorSkW
import Derived.Test.YtmhfgncffkfelaaDoorSkN
import Derived.Test.YtmhfgncffkfelaaDoorKR3
import Derived.Test.YtmhfgncffkfelaaDoorSTab
import Derived.BigQuiet
import Derived.Deep.CutRange
namespace Go.Proofs.YtmhfgncffkfelaaDoor.seekWithin
open Go.ChangeShapes Go.WideShapes Go.ChangeAt Go.RowKit Go.Deep Go.BigFrame
open U (Tr tcells tcell tris Tab strOf)
open Go.ChangeMaps (open_string shut_string)
set_option linter.unusedVariables false
set_option maxRecDepth 4000
set_option linter.unusedSimpArgs false

set_option maxHeartbeats 16000000 in
theorem walk (T : TV) (s : ByteArray) (v : Nat) (W : World) (hT : T.ok W) (hTab : Tab W) (hv : v < 65536) :
    Calls Tryd.prog 9 #[T.v, .string s, .int .u16 (v : Int)] W fun e W' => e = .returned (.bool true) ∧ Below W.heap.size W W' := by
  have HRT := Lib.hid (fun V (g : Below W.heap.size W V) => refTable_any T V (hT.on g))
  have HWk := Lib.hid (fun V (g : Below W.heap.size W V) => wakes10_any V (hTab.below g))
  have HOf := Lib.hid (fun (h : s.size ≤ 1000) V (g : Below W.heap.size W V) => of_any T s V (hT.on g) (by omega) (hTab.below g))
  have HPc := Lib.hid (fun (h : s.size ≤ 1000) V (g : Below W.heap.size W V) => pieces_own s V (by omega) (hTab.below g))
  have HIs := Lib.hid (fun (h : s.size ≤ 1000) (a : Int) (ha : -9223372036854775808 ≤ a ∧ a ≤ 9223372036854775807) V (g : Below W.heap.size W V) => is_any T s a V (hT.on g) (by omega) (hTab.below g) ha)
  have HNx := Lib.hid (fun (h : s.size ≤ 1000) (a : Int) (ha : -9223372036854775808 ≤ a ∧ a ≤ 9223372036854775807) V (g : Below W.heap.size W V) => next_any T s a V (hT.on g) (by omega) (hTab.below g) ha)
  have HPv := Lib.hid (fun (h : s.size ≤ 1000) (a : Int) (ha : -9223372036854775808 ≤ a ∧ a ≤ 9223372036854775807) V (g : Below W.heap.size W V) => prev_any T s a V (hT.on g) (by omega) (hTab.below g) ha)
  have HX := Lib.hid (box_new W T)
  have bb := below_new W (.cells #[.int .i64 T.cl, .slice T.a1 T.n1 T.c1, .slice T.a2 T.n2 T.c2, .slice T.a3 T.n3 T.c3] 26)
  clear hT hTab
  simp only [TV.v] at *
  obtain ⟨_, p0, p1, p2, p3⟩ := HX.out
  go_enter Tryd.func9, Tryd.ntmps9
  go_wp2_with fail
  generalize W.alloc (.cells #[.int .i64 T.cl, .slice T.a1 T.n1 T.c1, .slice T.a2 T.n2 T.c2, .slice T.a3 T.n3 T.c3] 26) = V0 at *
  refine (HRT.out _ bb).mono ?_
  rintro e w1 ⟨rfl, g⟩
  replace bb := bb.trans (g.mono bb.size)
  replace HX := Lib.hid (HX.out.on g)
  clear g HRT
  clear p0 p1 p2 p3
  obtain ⟨_, p0, p1, p2, p3⟩ := HX.out
  by_cases he : errV T.tb = 0
  case neg =>
    have hn : (errV T.tb != 0) = true := by rw [bne_iff_ne]; exact he
    generalize errV T.tb = ev at *
    go_wp2_with fail
    refine (HWk.out _ bb).mono ?_
    rintro e w9 ⟨rfl, g9⟩
    have bf := bb.trans (g9.mono bb.size)
    clear g9
    go_wp2_with fail
    go_ret
    exact ⟨rfl, bf⟩
  by_cases hsz : 200 < s.size
  · rw [he]
    have hszI : (200 : Int) < (s.size : Int) := by omega
    go_wp2_with fail
    refine (HWk.out _ bb).mono ?_
    rintro e w9 ⟨rfl, g9⟩
    have bf := bb.trans (g9.mono bb.size)
    clear g9
    go_wp2_with fail
    go_ret
    exact ⟨rfl, bf⟩
  have hszI : ¬ (200 : Int) < (s.size : Int) := by omega
  have hsz1 : s.size ≤ 200 := by omega
  have hs1 : s.size ≤ 1000 := by omega
  obtain ⟨L, hL⟩ : ∃ L, s.data.toList = L := ⟨_, rfl⟩
  have hLl : L.length = s.size := by rw [← hL]; exact Array.length_toList
  have HSE : Hid (∀ a : Int, 0 ≤ a → a ≤ s.size → seekE T.tb L.length a = 0) := Lib.hid (fun a h1 h2 => by rw [hLl]; exact seekE_of he h1 h2)
  have HI1 : Hid (∀ a : Int, 0 ≤ a → a ≤ s.size → ∀ V, Below W.heap.size W V → Calls Tryd.prog 32 #[.agg #[.int .i64 T.cl, .slice T.a1 T.n1 T.c1, .slice T.a2 T.n2 T.c2, .slice T.a3 T.n3 T.c3], .string s, .int .i64 a] V fun e w' => e = .returned (.tuple #[.bool ((natI (ofA T.tb L)).contains a), .int .i64 0]) ∧ Below V.heap.size V w') := Lib.hid (fun a h1 h2 V g => by
    have h := HIs.out hs1 a (by omega) V g
    rw [hL, isA_is (HSE.out a h1 h2), seekE_of he h1 h2] at h
    exact h)
  have HN1 : Hid (∀ a : Int, 0 ≤ a → a ≤ s.size → ∀ V, Below W.heap.size W V → Calls Tryd.prog 33 #[.agg #[.int .i64 T.cl, .slice T.a1 T.n1 T.c1, .slice T.a2 T.n2 T.c2, .slice T.a3 T.n3 T.c3], .string s, .int .i64 a] V fun e w' => ∃ y, e = .returned (.tuple #[.int .i64 y, .int .i64 0]) ∧ NextIs (natI (ofA T.tb L)) s.size a y ∧ Below V.heap.size V w') := Lib.hid (fun a h1 h2 V g => by
    have h := HNx.out hs1 a (by omega) V g
    have hx := nextA_is (HSE.out a h1 h2)
    rw [hL, seekE_of he h1 h2] at h
    rw [hLl] at hx
    exact h.mono fun e w' ⟨e1, e2⟩ => ⟨_, e1, hx, e2⟩)
  have HP1 : Hid (∀ a : Int, 0 ≤ a → a ≤ s.size → ∀ V, Below W.heap.size W V → Calls Tryd.prog 34 #[.agg #[.int .i64 T.cl, .slice T.a1 T.n1 T.c1, .slice T.a2 T.n2 T.c2, .slice T.a3 T.n3 T.c3], .string s, .int .i64 a] V fun e w' => ∃ y, e = .returned (.tuple #[.int .i64 y, .int .i64 0]) ∧ PrevIs (natI (ofA T.tb L)) a y ∧ Below V.heap.size V w') := Lib.hid (fun a h1 h2 V g => by
    have h := HPv.out hs1 a (by omega) V g
    have hx := prevA_is (HSE.out a h1 h2)
    rw [hL, seekE_of he h1 h2] at h
    exact h.mono fun e w' ⟨e1, e2⟩ => ⟨_, e1, hx, e2⟩)
  have HOf1 := Lib.hid (HOf.out hs1)
  unfold OutPl at HOf1
  have HO2 : ofS T.tb L = some (natI (ofA T.tb L)) := by unfold ofS; rw [if_pos he]
  rw [hL, HO2] at HOf1
  simp only [Option.getD_some, Option.isSome_some] at HOf1
  have HPc1 := Lib.hid (HPc.out hs1)
  rw [hL] at HPc1
  have hZb : (natI (ofA T.tb L)).length ≤ 1001 := by
    rw [natI_len, ofA_len]
    have := brN_len T.tb L
    have := nP_le L
    omega
  have hMb : nP L ≤ 1000 := by have := nP_le L; omega
  have HBw := Lib.hid (fun k (h : k < nP L) (a : Int) h1 h2 => brk_within T.tb L h (a := a) h1 h2)
  have HTa := Lib.hid (fun k (h : k < (tris L).length) => tris_a L h)
  have HTl := Lib.hid (tris_len L)
  have HAl := Lib.hid (fun j (h : j ≤ nP L) => show atL L j ≤ 1000 by have := atL_le L h; omega)
  have HAm := Lib.hid (fun j (h : j < nP L) => atL_rise L (i := j) (j := j + 1) (by omega) (by omega))
  clear HOf HPc HO2
  rw [he]
  clear HIs HNx HPv HSE he
  obtain ⟨m, hm⟩ : ∃ m, v % (s.size + 1) = m := ⟨_, rfl⟩
  have hmle : m ≤ s.size := by have := Nat.mod_lt v (show 0 < s.size + 1 by omega); omega
  have i1 : (v : Int) % ((s.size : Int) + 1) = (m : Int) := by rw [← hm]; exact (Int.natCast_emod v (s.size + 1)).symm
  have i2 : Int.tmod (v : Int) ((s.size : Int) + 1) = (m : Int) := by rw [Int.tmod_eq_emod_of_nonneg (by omega)]; exact i1
  clear hm
  generalize natI (ofA T.tb L) = l at *
  obtain ⟨M, hM⟩ : ∃ M, nP L = M := ⟨_, rfl⟩
  rw [hM] at HPc1 hMb HBw HTl HAl HAm
  obtain ⟨Z, hZ⟩ : ∃ Z, l.length = Z := ⟨_, rfl⟩
  rw [hZ] at HOf1 hZb
  have HZl := Lib.hid hZ
  clear hM hZ hL hLl
  obtain ⟨q, hq0⟩ : ∃ q, l.contains (m : Int) = q := ⟨_, rfl⟩
  have HIq := Lib.hid (HI1.out (m : Int) (by omega) (by omega))
  rw [hq0] at HIq
  have hq := Lib.hid hq0
  clear hq0 HI1
  go_wp2_with fail
  refine (HOf1.out _ bb).mono ?_
  rintro e w2 ⟨A1, c1, rfl, hown, g⟩
  replace bb := bb.trans (g.mono bb.size)
  replace HX := Lib.hid (HX.out.on g)
  have HR := Lib.hid (own_RI hown)
  clear g hown HOf1
  clear p0 p1 p2 p3
  obtain ⟨_, p0, p1, p2, p3⟩ := HX.out
  go_wp2_with fail
  refine (HIq.out  _ bb).mono ?_
  rintro e w3 ⟨rfl, g⟩
  replace bb := bb.trans (g.mono bb.size)
  replace HX := Lib.hid (HX.out.on g)
  replace HR := Lib.hid (HR.out.on g)
  clear g
  clear p0 p1 p2 p3
  obtain ⟨_, p0, p1, p2, p3⟩ := HX.out
  go_wp2_with fail
  refine (HN1.out (m : Int) (by omega) (by omega) _ bb).mono ?_
  rintro e w4 ⟨y, rfl, hy, g⟩
  replace bb := bb.trans (g.mono bb.size)
  replace HX := Lib.hid (HX.out.on g)
  replace HR := Lib.hid (HR.out.on g)
  clear g
  clear p0 p1 p2 p3
  obtain ⟨_, p0, p1, p2, p3⟩ := HX.out
  have HY := Lib.hid hy
  have y1 : (m : Int) < y := hy.gt
  have y2 : y ≤ (s.size : Int) + 1 := hy.le
  have y3 : ¬ y ≤ (m : Int) := by omega
  have y4 : ¬ (s.size : Int) + 1 < y := by omega
  clear hy
  go_wp2_with fail
  refine (HP1.out (m : Int) (by omega) (by omega) _ bb).mono ?_
  rintro e w5 ⟨z, rfl, hz, g⟩
  replace bb := bb.trans (g.mono bb.size)
  replace HX := Lib.hid (HX.out.on g)
  replace HR := Lib.hid (HR.out.on g)
  clear g
  clear p0 p1 p2 p3
  obtain ⟨_, p0, p1, p2, p3⟩ := HX.out
  have HZ := Lib.hid hz
  have z1 : z < (m : Int) := hz.lt
  have z2 : -1 ≤ z := hz.ge
  have z3 : ¬ (m : Int) ≤ z := by omega
  have z4 : ¬ z < -1 := by omega
  clear hz i1 i2
  clear p0 p1 p2 p3 HX
  have HB5 := Lib.hid bb
  have hw5 := bb.size
  clear bb
  go_wp2_with fail
  go_loopw [16, 17] (fun vq vi wx => ∃ k : Nat, vi = .int .i64 k ∧ k ≤ Z ∧ vq = .bool ((l.take k).contains (m : Int)) ∧ wx = w5) (fun _ vi _ => Z - (intOf vi).toNat)
  case atStart => exact ⟨0, rfl, Nat.zero_le _, rfl, rfl⟩
  case round =>
    obtain ⟨k, rfl, hk, rfl, rfl⟩ := hrel
    by_cases hlt : k < Z
    · have kl : k < l.length := by rw [HZl.out]; exact hlt
      obtain ⟨b1, o1, hA, hb1, r⟩ := HR.out.at kl
      subst hA
      have HTk := Lib.hid (take_one kl)
      have hmem : l[k] ∈ l := List.getElem_mem kl
      have n1 : ¬ (z < l[k] ∧ l[k] < (m : Int)) := fun h => HZ.out.bt _ h.1 h.2 hmem
      have n2 : ¬ ((m : Int) < l[k] ∧ l[k] < y) := fun h => HY.out.bt _ h.1 h.2 hmem
      generalize l[k] = x at *
      have HC := Lib.hid (cont_snoc (l.take k) x (m : Int))
      generalize (l.take k).contains (m : Int) = qc at *
      clear hmem
      rcases Int.lt_trichotomy x (m : Int) with hx | hx | hx
      · have e1 : (x == (m : Int)) = false := by simp; omega
        have HCe : Hid (((m : Int) == x) = false) := Lib.hid (by simp; omega)
        have e2 : ¬ z < x := by omega
        have e3 : ¬ (m : Int) < x := by omega
        have d2 : decide (z < x) = false := by simpa using e2
        have d3 : decide ((m : Int) < x) = false := by simpa using e3
        clear n1 n2
        cases qc
        all_goals (
          go_wp2_with fail
          go_roundw
          case rel => exact ⟨k + 1, by go_num, by omega, by rw [HTk.out, HC.out, HCe.out]; rfl, by trivial⟩
          case measure => simp [intOf]; omega)
      · have e1 : (x == (m : Int)) = true := by simpa using hx
        have HCe : Hid (((m : Int) == x) = true) := Lib.hid (by simp; omega)
        have e2 : z < x := by omega
        have e3 : ¬ (m : Int) < x := by omega
        have e4 : ¬ x < (m : Int) := by omega
        have d2 : decide (z < x) = true := by simpa using e2
        have d3 : decide ((m : Int) < x) = false := by simpa using e3
        have d4 : decide (x < (m : Int)) = false := by simpa using e4
        clear n1 n2
        cases qc
        all_goals (
          go_wp2_with fail
          go_roundw
          case rel => exact ⟨k + 1, by go_num, by omega, by rw [HTk.out, HC.out, HCe.out]; rfl, by trivial⟩
          case measure => simp [intOf]; omega)
      · have e1 : (x == (m : Int)) = false := by simp; omega
        have HCe : Hid (((m : Int) == x) = false) := Lib.hid (by simp; omega)
        have e2 : z < x := by omega
        have e4 : ¬ x < (m : Int) := by omega
        have e5 : ¬ x < y := by omega
        have d2 : decide (z < x) = true := by simpa using e2
        have d3 : decide ((m : Int) < x) = true := by simpa using hx
        have d4 : decide (x < (m : Int)) = false := by simpa using e4
        have d5 : decide (x < y) = false := by simpa using e5
        clear n1 n2
        cases qc
        all_goals (
          go_wp2_with fail
          go_roundw
          case rel => exact ⟨k + 1, by go_num, by omega, by rw [HTk.out, HC.out, HCe.out]; rfl, by trivial⟩
          case measure => simp [intOf]; omega)
    · obtain rfl : k = Z := by omega
      have HTe : Hid (l.take k = l) := Lib.hid (List.take_of_length_le (by rw [HZl.out]; exact Nat.le_refl _))
      rw [HTe.out, hq.out]
      clear y1 y2 y3 y4 z1 z2 z3 z4 HR HTe
      go_wp2_with fail
      refine (HPc1.out _ HB5.out).mono ?_
      rintro e w6 ⟨A2, c2, rfl, hown, g⟩
      have HRP := Lib.hid (own_RP hown)
      have bb := below_call HB5.out hw5 g
      have HB6 := Lib.hid bb
      have hw6 := bb.size
      clear bb g hown HPc1
      go_wp2_with fail
      go_loopw [19] (fun vi wx => ∃ j : Nat, vi = .int .i64 j ∧ j ≤ M ∧ Hid (Below w6.heap.size w6 wx)) (fun vi _ => M - (intOf vi).toNat)
      case atStart => exact ⟨0, rfl, Nat.zero_le _, Lib.hid (Below.refl _ _)⟩
      case round =>
        obtain ⟨j, rfl, hj, HB⟩ := hrel
        by_cases hjt : j < M
        · have jl : j < (tris L).length := by rw [HTl.out]; exact hjt
          obtain ⟨b2, o2, hA, hb2, r0, r1, r2⟩ := (HRP.out.on HB.out).at jl
          subst hA
          obtain ⟨t1, t2⟩ := HTa.out j jl
          have hbw := HBw.out j hjt (m : Int)
          rw [← t1, ← t2] at hbw
          have ta : 0 ≤ (tris L)[j].a := by rw [t1]; omega
          have tb : (tris L)[j].a + (tris L)[j].n ≤ 1000 := by
            rw [t2]
            have := HAl.out (j + 1) (by omega)
            omega
          have tc : (tris L)[j].a ≤ (tris L)[j].a + (tris L)[j].n := by
            rw [t2, t1]
            have := HAm.out j hjt
            omega
          clear t1 t2
          generalize (tris L)[j] = P at *
          obtain ⟨x, ya, za⟩ := P
          simp only [] at r0 r1 r2 hbw ta tb tc
          have hwr : IntKind.i64.wrap (ya + za) = ya + za := by rw [IntKind.wrap_i64]; omega
          have dj : decide ((j : Int) < (M : Int)) = true := by simpa using hjt
          have bj1 : (0 : Int) ≤ (j : Int) := by omega
          have bj2 : (j : Int) < (M : Int) := by omega
          by_cases h1 : ya < (m : Int)
          · have d1 : decide (ya < (m : Int)) = true := by simpa using h1
            by_cases h2 : (m : Int) < ya + za
            · have d2 : decide ((m : Int) < ya + za) = true := by simpa using h2
              have HQf : Hid (q = false) := Lib.hid (by rw [← hq.out]; simpa using hbw h1 h2)
              obtain rfl := HQf.out
              clear hbw HQf
              go_wp2_with fail
              go_quiet (fail)
              go_wp2_with fail
              go_roundw
              case rel => exact ⟨j + 1, by go_num, by omega, Lib.hid (by first | exact HB.out | exact below_drewN HB.out _)⟩
              case measure => simp [intOf]; omega
            · have d2 : decide ((m : Int) < ya + za) = false := by simpa using h2
              clear hbw
              go_wp2_with fail
              go_quiet (fail)
              go_wp2_with fail
              go_roundw
              case rel => exact ⟨j + 1, by go_num, by omega, Lib.hid (by first | exact HB.out | exact below_drewN HB.out _)⟩
              case measure => simp [intOf]; omega
          · have d1 : decide (ya < (m : Int)) = false := by simpa using h1
            clear hbw
            go_wp2_with fail
            go_quiet (fail)
            go_wp2_with fail
            go_roundw
            case rel => exact ⟨j + 1, by go_num, by omega, Lib.hid (by first | exact HB.out | exact below_drewN HB.out _)⟩
            case measure => simp [intOf]; omega
        · obtain rfl : j = M := by omega
          have e9 : (q == q) = true := by cases q <;> rfl
          have bb := below_call HB6.out hw6 HB.out
          go_wp2_with fail
          refine (HWk.out _ bb).mono ?_
          rintro e w9 ⟨rfl, g9⟩
          have bf := bb.trans (g9.mono bb.size)
          clear g9
          go_wp2_with fail
          go_ret
          exact ⟨rfl, bf⟩

/-! From the walk to the row and its card. -/
set_option maxRecDepth 100000 in
theorem contract (H : Type) (enc : TypeId × Value → H) (W : World) (base : Nat) (args : Array Value) (ds gs : List (DataW H)) (before : List MemPlace)
    (hval0 : ∀ (j : Nat) t v, Tryd.f9.params[j]? = some t → args[j]? = some v → Value.okWide Tryd.prog W .any base t v)
    (hW : DataW.Whole enc Tryd.prog Tryd.f9.params.toList Rows.seekWithinSpec.vars false W args.toList ds gs before) (hL : laidMetH Tryd.prog Rows.seekWithinRow.laid W) :
    Calls Tryd.prog 9 args W fun e W' => ∃ v, e = .returned v ∧ Rows.seekWithinSpec.post enc Tryd.prog Tryd.f9 false true false false W args v W' := by
  have hval : ∀ (j : Nat) t v, Tryd.f9.params[j]? = some t → args[j]? = some v → Value.okWide Tryd.prog W .any base t v := hval0
  have hW' := hW
  obtain ⟨p, q, hA0, hV, rfl, hfz, hnd⟩ := hW
  have hA : DataW.TrodAll enc Tryd.prog W 0 (fun _ => true) true Tryd.f9.params.toList args.toList ds p := hA0
  rw [Tryd.params9] at hA hval
  obtain ⟨v0, vs0, d0, ds0, p0, q0, hargs, rfl, rfl, h0, r0⟩ := trodAll_cons hA
  obtain ⟨v1, vs1, d1, ds1, p1, q1, rfl, rfl, rfl, h1, r1⟩ := trodAll_cons r0
  obtain ⟨v2, vs2, d2, ds2, p2, q2, rfl, rfl, rfl, h2, r2⟩ := trodAll_cons r1
  obtain ⟨rfl, rfl, rfl⟩ := trodAll_nil r2
  obtain rfl : args = #[v0, v1, v2] := by cases args; simp_all
  obtain ⟨rfl, rfl⟩ := trodVars_none hV
  obtain ⟨cs0, rfl, _⟩ := okWide_struct Tryd.underlying26 (hval 0 26 v0 rfl rfl)
  have k0 := h0
  have lt0 : ∀ x ∈ p0, x.block < W.heap.size := by obtain ⟨m, hm⟩ := k0; exact DataW.trod_lt m _ _ _ hm
  obtain ⟨T0, e0, ok0⟩ : ∃ T : TV, cs0.toList = [.int .i64 T.cl, .slice T.a1 T.n1 T.c1, .slice T.a2 T.n2 T.c2, .slice T.a3 T.n3 T.c3] ∧ T.ok W := by
    obtain ⟨fuel, hf⟩ := h0
    exact open_table (by simpa [Value.cells] using hf)
  obtain rfl : cs0 = #[.int .i64 T0.cl, .slice T0.a1 T0.n1 T0.c1, .slice T0.a2 T0.n2 T0.c2, .slice T0.a3 T0.n3 T0.c3] := by cases cs0; simp_all
  obtain ⟨a1, rfl, rfl, rfl, z1⟩ := open_string Tryd.underlying9 (hval 1 9 v1 rfl rfl) h1
  obtain ⟨z2, rfl, rfl, rfl, wf2⟩ := open_int Tryd.underlying66 (hval 2 66 v2 rfl rfl) h2
  obtain ⟨zl2, zu2⟩ := wf_u16 wf2
  obtain ⟨a2, rfl⟩ := Int.eq_ofNat_of_zero_le zl2
  clear hA0 hval0
  refine (walk T0 a1 a2 W ok0 (U.tab_of_laid10 hL) (by omega)).mono fun e W' ⟨he, bel⟩ => ?_
  subst he
  exact ⟨_, rfl, _, _, _, [], _, [], hW', trodAll_mk1 (shut_bool Tryd.underlying4 _), (trodAll_cons_mk (Below.trod laidOut (by kernel_rfl) (of_decide_eq_true (by kernel_rfl)) k0 bel lt0) (trodAll_cons_mk (shut_string Tryd.underlying9 z1) (trodAll_cons_mk (shut_int Tryd.underlying66 wf2) trodAll_mk0))), rfl, bel.frame _, fun h => by cases h⟩

theorem laid_met (os : Os) : laidMet Tryd.prog Rows.seekWithinRow.laid ((U.laidWorld os).forCall (fun _ _ => 0) ⟨#[], #[.agg #[.int .i64 0, .slice none 0 0, .slice none 0 0, .slice none 0 0], .string ByteArray.empty, .int .u16 0], []⟩).memory :=
  laidMet_of_run' 8 (by kernel_rfl) (by kernel_rfl)
theorem reads (os : Os) {H : Type} (enc : TypeId × Value → H) : ∃ places, DataW.whole enc Tryd.prog ((U.laidWorld os).forCall (fun _ _ => 0) ⟨#[], #[.agg #[.int .i64 0, .slice none 0 0, .slice none 0 0, .slice none 0 0], .string ByteArray.empty, .int .u16 0], []⟩).memory Tryd.f9.params.toList Rows.seekWithinSpec.vars false (#[.agg #[.int .i64 0, .slice none 0 0, .slice none 0 0, .slice none 0 0], .string ByteArray.empty, .int .u16 0] : Array Value).toList 8 = some ([.agg [.lit (.int .i64 0), .nil, .nil, .nil], .lit (.string []), .lit (.int .u16 0)], [], places) :=
  ⟨[], by kernel_rfl⟩

set_option maxRecDepth 100000 in
theorem lifted (os : Os) (started : os.Started) (H : Type) (enc : TypeId × Value → H) (F : Stop.Interp) :
    ReturnsInHanded {} Tryd.checked os 9 .any ((OpenSpec.ofChange Rows.seekWithinSpec).preRow enc Tryd.prog Tryd.f9 Rows.seekWithinRow.domain false Rows.seekWithinRow.laid) (((OpenSpec.ofChange Rows.seekWithinSpec).at F).post enc Tryd.prog Tryd.f9 false true false false) := by
  obtain ⟨places, hx⟩ := reads os enc
  refine returnsInHanded_of_row (C := Tryd.checked) (s := OpenSpec.ofChange Rows.seekWithinSpec) own started (by kernel_rfl) Tryd.func9
    (witness_row_at (enc := enc) (C := Tryd.checked) false (U.laidWorld os) #[.agg #[.int .i64 0, .slice none 0 0, .slice none 0 0, .slice none 0 0], .string ByteArray.empty, .int .u16 0] rfl (by kernel_rfl) (by kernel_rfl) (by kernel_rfl)
      (OpenSpec.preRow_of_cond 8 hx (by kernel_rfl) (fun k hk => by cases hk) (by kernel_rfl) (laid_met os))) ?_
  intro W base args ds gs before hval hW _ _ _ hL _ _
  exact contract H enc W base args ds gs before hval hW hL

set_option maxRecDepth 100000 in
theorem said : Rows.SeekWithinSaid :=
  OpenClaim.holds_of_cond 9 Tryd.f9 rfl rfl rfl rfl rfl rfl rfl ⟨rfl, rfl, rfl, rfl, rfl⟩ rfl rfl rfl rfl rfl (by kernel_rfl) Tryd.func9 (by kernel_rfl)
    (of_decide_eq_true (by kernel_rfl)) (by unfold Func.isWrapper; first | (rw [if_pos (by decide +kernel)]; kernel_rfl) | (rw [if_neg (by decide +kernel)]; exact ⟨rfl, rfl⟩))
    (fun os started H enc _ F => by rw [OpenClaim.pre_eq_preRow]; exact lifted os started H enc F)

theorem plain (f : FuncId) (fn : Func) (hf : Tryd.pinned.checked.prog.funcNamed Rows.seekWithinRow.func = some f) (hfn : Tryd.pinned.checked.prog.funcs[f]? = some fn) :
    false = Tryd.pinned.checked.prog.looks [] ∧ ∀ (j : Nat) t, fn.params[j]? = some t → Tryd.pinned.checked.prog.wantsStandIn t = false := by
  obtain rfl : f = 9 := Option.some.inj ((show Tryd.prog.funcNamed Rows.seekWithinRow.func = some 9 by kernel_rfl).symm.trans hf) |>.symm
  obtain rfl : fn = Tryd.f9 := (Option.some.inj (Tryd.func9.symm.trans hfn)).symm
  refine ⟨by kernel_rfl, fun j t ht => ?_⟩
  rw [Tryd.params9] at ht
  have hm : t ∈ [26, 9, 66] := by simpa using Array.mem_of_getElem? ht
  have hall : ([26, 9, 66].all fun u => !Tryd.prog.wantsStandIn u) = true := by kernel_rfl
  exact (show Tryd.prog.wantsStandIn t = false by simpa using List.all_eq_true.1 hall t hm)

theorem card : Rows.SeekWithinCardSaid :=
  Claim7.holds_tied_plain_at .later [] _ _ _ _ said (fun _ h => by cases h) (by kernel_rfl) (fun _ h => by cases h) seekWithin_row_tie rfl ⟨rfl, rfl⟩ (by kernel_rfl) rfl plain (by kernel_rfl)
end Go.Proofs.YtmhfgncffkfelaaDoor.seekWithin

namespace Go.Proofs.YtmhfgncffkfelaaDoor
/-- The given statement, under a short name. -/
theorem seekWithin_holds : Rows.SeekWithinCardSaid := seekWithin.card
#print axioms seekWithin_holds
end Go.Proofs.YtmhfgncffkfelaaDoor
