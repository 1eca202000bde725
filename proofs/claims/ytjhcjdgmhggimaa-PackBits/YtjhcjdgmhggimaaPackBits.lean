/- The law PackBits returns true at all lists of bools: the bit of each place stands in its byte, the first lowest, and all others are nothing. Conditions: none; nothing that was there before the call is changed. -/
import Derived.Test.YtjhcjdgmhggimaaLawMath
import Derived.BigQuiet
namespace Go.Proofs.Ytjhcjdgmhggimaa.packBits
open Go.ChangeShapes Go.WideShapes Go.ChangeAt Go.RowKit Go.BigFrame
set_option linter.unusedVariables false
set_option linter.unusedSimpArgs false

/-- What Unbits must say of n bits. -/
def wantB (l : List Bool) (z : Nat) (n : Int) : Bool := (decide (0 ≤ n) && decide ((n + 7) / 8 = (z : Int))) && (l.drop n.toNat).all (fun x => !x)
theorem all_drop {b : List Nat} {l : List Bool} (h : IsBits b l) (k : Nat) : (l.drop k).all (fun x => !x) = true ↔ ∀ i, k ≤ i → bitY b i = false := by
  rw [List.all_eq_true]
  constructor
  · intro ha i hi
    rw [h.2.2 i]
    by_cases hl : i < l.length
    · rw [List.getElem?_eq_getElem hl]
      have := ha l[i] (by
        rw [List.mem_iff_getElem]
        exact ⟨i - k, by rw [List.length_drop]; omega, by rw [List.getElem_drop]; congr 1; omega⟩)
      simpa using this
    · rw [List.getElem?_eq_none (by omega)]; rfl
  · intro ha x hx
    obtain ⟨j, hj, rfl⟩ := List.mem_iff_getElem.1 hx
    rw [List.length_drop] at hj
    have := ha (k + j) (by omega)
    rw [h.2.2, List.getElem?_eq_getElem (show k + j < l.length by omega)] at this
    rw [List.getElem_drop]
    simpa using this
theorem unb_want {b : List Nat} {l : List Bool} {z : Nat} (h : IsBits b l) (hz : b.length = z) (n : Int) : unbR b n = if wantB l z n = true then some ((List.range n.toNat).map (bitY b)) else none := by
  by_cases hw : wantB l z n = true
  · rw [if_pos hw]
    unfold wantB at hw
    rw [Bool.and_eq_true, Bool.and_eq_true, decide_eq_true_eq, decide_eq_true_eq, all_drop h] at hw
    obtain ⟨⟨h0, h1⟩, h2⟩ := hw
    obtain ⟨k, rfl⟩ := Int.eq_ofNat_of_zero_le h0
    rw [Int.toNat_natCast] at h2 ⊢
    exact unbR_yes (by omega) (by omega) (fun i hi _ => h2 i hi)
  · rw [if_neg hw]
    refine unbR_no (fun hh => hw ?_)
    unfold wantB
    rw [Bool.and_eq_true, Bool.and_eq_true, decide_eq_true_eq, decide_eq_true_eq, all_drop h]
    refine ⟨⟨hh.1, by omega⟩, fun i hi => ?_⟩
    by_cases hl : i < 8 * b.length
    · exact hh.2.2.2 i hi hl
    · exact bitY_out b i (by omega)
theorem all_step (l : List Bool) (k i : Nat) (hk : k ≤ i) (hi : i < l.length) : ((l.take (i + 1)).drop k).all (fun x => !x) = (((l.take i).drop k).all (fun x => !x) && !l[i]) := by
  rw [List.take_succ_eq_append_getElem hi, List.drop_append_of_le_length (by rw [List.length_take]; omega), List.all_append]
  simp
theorem all_false (l : List Bool) (k i : Nat) (h : ((l.take i).drop k).all (fun x => !x) = false) : (l.drop k).all (fun x => !x) = false := by
  rw [List.all_eq_false] at h ⊢
  obtain ⟨x, hx, hn⟩ := h
  refine ⟨x, ?_, hn⟩
  rw [← List.take_append_drop i l]
  rw [List.drop_append]
  exact List.mem_append_left _ hx
theorem unbits_want (b : List Nat) (z : Nat) (l : List Bool) (n : Int) (t : Bool) (h : IsBits b l) (hz : b.length = z) (hw : wantB l z n = t) (A : Option Addr) (c : Nat) (w : World) (hR : RB w w.heap.size A z b) (hm : z ≤ 10000) :
    Calls Try.prog 11 #[.slice A z c, .int .i64 n] w fun e w' => ∃ (A' : Option Addr) (c' q : Nat), e = .returned (.tuple #[.slice A' q c', .bool t]) ∧ Hid (q = if t = true then n.toNat else 0) ∧ Below w.heap.size w w' := by
  have hu := unb_want h hz n
  rw [hw] at hu
  have hc := unbits_any b z A c n w hR hm
  rw [hu] at hc
  refine hc.mono fun e w' ⟨A', c', he, _, _, hb⟩ => ?_
  cases t
  · exact ⟨A', c', 0, he, Lib.hid rfl, hb⟩
  · refine ⟨A', c', n.toNat, ?_, Lib.hid rfl, hb⟩
    rw [he]
    simp
theorem and7 (i : Nat) (hi : i < 100000) : bits .and .i64 (i : Int) 7 = ((i % 8 : Nat) : Int) := and_i64 i 3 (by omega) (by decide)

theorem walk_out (l : List Bool) (m : Nat) (L : Option Addr) (d : Nat) (w : World) (h : 300 < m) :
    Calls Try.prog 6 #[.slice L m d] w fun e w' => e = .returned (.bool true) ∧ Below w.heap.size w w' := by
  have h1 : (300 : Int) < (m : Int) := by omega
  go_enter Try.func6, Try.ntmps6
  go_wp2_with fail
  refine (wakes_any _).mono ?_
  rintro e w1 ⟨rfl, g⟩
  go_wp2_with fail
  go_ret
  exact ⟨rfl, g⟩
set_option maxRecDepth 8000 in
set_option maxHeartbeats 4000000 in
theorem walk_in (l : List Bool) (m : Nat) (L : Option Addr) (d : Nat) (w : World) (hL : RL w w.heap.size L m l) (hm : m ≤ 300) :
    Calls Try.prog 6 #[.slice L m d] w fun e w' => e = .returned (.bool true) ∧ Below w.heap.size w w' := by
  have h1 : ¬ ((300 : Int) < (m : Int)) := by omega
  obtain ⟨z, hz⟩ : ∃ z, (m + 7) / 8 = z := ⟨_, rfl⟩
  have z1 : ((m : Int) + 7) / 8 = (z : Int) := by omega
  have z2 : Int.tdiv ((m : Int) + 7) 8 = (z : Int) := by rw [Int.tdiv_eq_ediv_of_nonneg (by omega)]; exact z1
  have z3 : z ≤ 40 := by omega
  have z4 : ((z : Int) != (z : Int)) = false := by simp
  have z5 : m ≤ 8 * z := by omega
  have HZ := Lib.hid hz
  have HL := Lib.hid hL
  clear hz hL
  go_enter Try.func6, Try.ntmps6
  go_wp2_with fail
  obtain ⟨y, hy⟩ := isBits_some l
  have HY := Lib.hid hy
  have HYl : Hid (y.length = z) := Lib.hid (by rw [hy.1, HL.out.1, HZ.out])
  clear hy
  refine (bits_is y z l HY.out m HZ.out L d _ HL.out (by omega)).mono ?_
  rintro e w1 ⟨A, c, rfl, r1, s1, g1⟩
  have HR1 := Lib.hid r1
  have HL1 := Lib.hid (HL.out.on g1)
  have b1 := g1
  clear r1 s1 g1 HL
  go_wp2_with fail
  go_loopw [4] (fun i wr => ∃ (j q : Nat), j ≤ 8 * z ∧ i = .int .i64 j ∧ wr = w1.drewN q) (fun i _ => 8 * z - (intOf i).toNat)
  case atStart => exact ⟨0, 0, Nat.zero_le _, rfl, rfl⟩
  case round =>
    obtain ⟨j, q, hj, rfl, rfl⟩ := hrel
    by_cases hlt : j < 8 * z
    · have hltI : (j : Int) < 8 * (z : Int) := by omega
      have kl : j / 8 < y.length := by rw [HYl.out]; omega
      obtain ⟨ba, oa, rfl, _, p0, px⟩ := HR1.out.at kl
      have hbt := (bit_test y[j / 8] (j % 8) px).trans ((bitY_eq y j kl).symm.trans (HY.out.2.2 j))
      have ha7 := and7 j (by omega)
      obtain ⟨jq, hjq⟩ : ∃ q, j / 8 = q := ⟨_, rfl⟩
      obtain ⟨jr, hjr⟩ : ∃ r, j % 8 = r := ⟨_, rfl⟩
      have j1 : (j : Int) / 8 = (jq : Int) := by omega
      have j2 : jq < z := by omega
      have j3 : (jq : Int) < (z : Int) := by omega
      have j4 : (0 : Int) ≤ (jq : Int) := by omega
      have j5 : jr < 8 := by omega
      have j6 : min jr 8 = jr := by omega
      have j7 : (0 : Int) ≤ (jr : Int) := by omega
      rw [hjr] at hbt ha7
      generalize y[j / 8] = x at *
      rw [hjq] at p0
      clear hjq hjr kl
      by_cases hjm : j < m
      · have hjmI : (j : Int) < (m : Int) := by omega
        have hjd : decide ((j : Int) < (m : Int)) = true := decide_eq_true hjmI
        have hjd2 : decide (j < m) = true := decide_eq_true hjm
        have ml : j < l.length := by rw [HL1.out.1]; exact hjm
        obtain ⟨bl, ol, rfl, _, pl⟩ := HL1.out.at ml
        rw [List.getElem?_eq_getElem ml, Option.getD_some] at hbt
        generalize l[j] = t at *
        clear ml
        cases t
        all_goals (
          go_wp2_with fail
          go_quiet (fail)
          go_wp2_with fail
          go_roundw
          case rel => exact ⟨j + 1, _, by omega, by go_num, rfl⟩
          case measure => simp [intOf]; omega)
      · have hjmI : ¬ ((j : Int) < (m : Int)) := by omega
        have hjd : decide ((j : Int) < (m : Int)) = false := decide_eq_false hjmI
        have hjd2 : decide (j < m) = false := decide_eq_false hjm
        rw [List.getElem?_eq_none (by rw [HL1.out.1]; omega), Option.getD_none] at hbt
        go_wp2_with fail
        go_quiet (fail)
        go_wp2_with fail
        go_roundw
        case rel => exact ⟨j + 1, _, by omega, by go_num, rfl⟩
        case measure => simp [intOf]; omega
    · have hltI : ¬ ((j : Int) < 8 * (z : Int)) := by omega
      have gq : Below w1.heap.size w1 (w1.drewN q) := below_drewN (Below.refl _ _) _
      have HR2 := Lib.hid (HR1.out.on gq)
      have HL2 := Lib.hid (HL1.out.on gq)
      have b2 := b1.trans (gq.mono b1.size)
      generalize w1.drewN q = w2 at *
      clear HR1 HL1 b1 gq
      go_wp2_with fail
      go_loopw [5] (fun i wr => ∃ (k : Nat), k ≤ 19 ∧ i = .int .i64 ((m : Int) - 9 + (k : Int)) ∧ Below w2.heap.size w2 wr) (fun i _ => ((m : Int) + 10 - intOf i).toNat)
      case atStart => exact ⟨0, by omega, congrArg (Value.int .i64) (by omega), Below.refl _ _⟩
      case round =>
        obtain ⟨k, hk, rfl, hb⟩ := hrel
        obtain ⟨n, hn⟩ : ∃ n : Int, (m : Int) - 9 + (k : Int) = n := ⟨_, rfl⟩
        rw [hn]
        have hn1 : n ≤ (m : Int) + 10 := by omega
        have hn2 : -9 ≤ n := by omega
        have HN := Lib.hid hn
        clear hn
        have HR3 := Lib.hid (HR2.out.on hb)
        have HL3 := Lib.hid (HL2.out.on hb)
        by_cases hk9 : n ≤ (m : Int) + 9
        · have hnext : Hid (∃ k' : Nat, k' ≤ 19 ∧ n + 1 = (m : Int) - 9 + (k' : Int)) := Lib.hid ⟨k + 1, by have := HN.out; omega, by have := HN.out; omega⟩
          have b4x := hb.size
          rename World => w3
          by_cases hn0 : n < 0
          · have d1 : ¬ (0 ≤ n) := by omega
            have d2 : decide (0 ≤ n) = false := decide_eq_false d1
            have d3 : n < (m : Int) := by omega
            have HW : wantB l z n = false := by unfold wantB; rw [d2]; rfl
            have HU := Lib.hid (unbits_want y z l n false HY.out HYl.out HW A c w3 HR3.out (by omega))
            clear HW
            go_wp2_with fail
            refine HU.out.mono ?_
            rintro e w4 ⟨A', c', q', rfl, HQ, g⟩
            obtain rfl : q' = 0 := HQ.out
            have b4 := hb.trans (g.mono hb.size)
            clear HU g HQ
            go_wp2_with fail
            refine wp_loop_rounds 1 ?_
            rw [rounds_succ]
            go_wp2_with fail
            go_roundw
            case rel =>
              obtain ⟨k', h1, h2⟩ := hnext.out
              exact ⟨k', h1, congrArg (Value.int .i64) h2, b4⟩
            case measure => simp [intOf]; omega
          · obtain ⟨kn, rfl⟩ := Int.eq_ofNat_of_zero_le (show 0 ≤ n by omega)
            by_cases he : (kn + 7) / 8 = z
            · have e1 : ((kn : Int) + 7) / 8 = (z : Int) := by omega
              have e2 : ((z : Int) == (z : Int)) = true := by simp
              have e3 : ((kn : Int) != (kn : Int)) = false := by simp
              have HWn : Hid (wantB l z kn = (l.drop kn).all (fun x => !x)) := Lib.hid (by
                unfold wantB
                rw [decide_eq_true (show 0 ≤ (kn : Int) by omega), decide_eq_true e1, Int.toNat_natCast]; rfl)
              have HU := Lib.hid (unbits_want y z l kn _ HY.out HYl.out rfl A c w3 HR3.out (by omega))
              generalize wantB l z kn = ok at *
              go_wp2_with fail
              refine HU.out.mono ?_
              rintro e w4 ⟨A', c', q', rfl, HQ, g⟩
              have b4 := hb.trans (g.mono hb.size)
              have HL4 := Lib.hid (HL3.out.on g)
              rw [Int.toNat_natCast] at HQ
              clear HU g HR3 HL3
              go_wp2_with fail
              go_loopw [8, 9] (fun vt vi wr => ∃ (i : Nat) (t : Bool), kn ≤ i ∧ (i ≤ m ∨ i = kn) ∧ vt = .bool t ∧ vi = .int .i64 i ∧ Hid (t = ((l.take i).drop kn).all (fun x => !x)) ∧ wr = w4) (fun _ i _ => m - (intOf i).toNat)
              case atStart => exact ⟨kn, true, Nat.le_refl _, .inr rfl, rfl, rfl, Lib.hid (by rw [List.drop_eq_nil_of_le (by rw [List.length_take]; omega)]; rfl), rfl⟩
              case round =>
                obtain ⟨i, t, hi0, hi1, rfl, rfl, HT, rfl⟩ := hrel
                by_cases him : i < m
                · have himI : (i : Int) < (m : Int) := by omega
                  have il : i < l.length := by rw [HL4.out.1]; exact him
                  cases t
                  · have HOk : ok = false := by rw [HWn.out]; exact all_false l kn i HT.out.symm
                    subst HOk
                    obtain rfl : q' = 0 := HQ.out
                    clear HQ HT
                    go_wp2_with fail
                    go_roundw
                    case rel =>
                      obtain ⟨k', h1, h2⟩ := hnext.out
                      exact ⟨k', h1, congrArg (Value.int .i64) h2, b4⟩
                    case measure => simp [intOf]; omega
                  · obtain ⟨bl, ol, rfl, _, pl⟩ := HL4.out.at il
                    have HS : Hid ((!l[i]) = ((l.take (i + 1)).drop kn).all (fun x => !x)) := Lib.hid (by rw [all_step l kn i hi0 il, ← HT.out, Bool.true_and])
                    generalize l[i] = li at *
                    clear HT
                    go_wp2_with fail
                    go_roundw
                    case rel => exact ⟨i + 1, !li, by omega, .inl (by omega), rfl, by go_num, HS, trivial⟩
                    case measure => simp [intOf]; omega
                · have himI : ¬ ((i : Int) < (m : Int)) := by omega
                  have HOk : ok = t := by
                    rw [HWn.out, HT.out, List.take_of_length_le (by rw [HL4.out.1]; omega)]
                  subst HOk
                  clear HT
                  cases ok
                  · obtain rfl : q' = 0 := HQ.out
                    clear HQ
                    go_wp2_with fail
                    go_roundw
                    case rel =>
                      obtain ⟨k', h1, h2⟩ := hnext.out
                      exact ⟨k', h1, congrArg (Value.int .i64) h2, b4⟩
                    case measure => simp [intOf]; omega
                  · obtain rfl : q' = kn := HQ.out
                    clear HQ
                    go_wp2_with fail
                    go_roundw
                    case rel =>
                      obtain ⟨k', h1, h2⟩ := hnext.out
                      exact ⟨k', h1, congrArg (Value.int .i64) h2, b4⟩
                    case measure => simp [intOf]; omega
            · have e1 : (((kn : Int) + 7) / 8 == (z : Int)) = false := by rw [beq_eq_false_iff_ne]; omega
              have HW : wantB l z kn = false := by
                unfold wantB
                rw [decide_eq_false (show ¬ (((kn : Int) + 7) / 8 = (z : Int)) by omega), Bool.and_false]; rfl
              have HU := Lib.hid (unbits_want y z l kn false HY.out HYl.out HW A c w3 HR3.out (by omega))
              clear HW
              by_cases hkm : kn < m
              all_goals (
                have hkmI : (kn : Int) < (m : Int) ∨ ¬ ((kn : Int) < (m : Int)) := by omega
                go_wp2_with fail
                refine HU.out.mono ?_
                rintro e w4 ⟨A', c', q', rfl, HQ, g⟩
                obtain rfl : q' = 0 := HQ.out
                have b4 := hb.trans (g.mono hb.size)
                clear HU g HQ
                go_wp2_with fail
                refine wp_loop_rounds 1 ?_
                rw [rounds_succ]
                go_wp2_with fail
                go_roundw
                case rel =>
                  obtain ⟨k', h1, h2⟩ := hnext.out
                  exact ⟨k', h1, congrArg (Value.int .i64) h2, b4⟩
                case measure => simp [intOf]; omega)
        · have hk9' : ¬ (n ≤ (m : Int) + 9) := hk9
          have b5 := b2.trans (hb.mono b2.size)
          go_wp2_with fail
          refine (wakes_any _).mono ?_
          rintro e w5 ⟨rfl, g⟩
          have b6 := b5.trans (g.mono b5.size)
          go_wp2_with fail
          go_ret
          exact ⟨rfl, b6⟩

theorem walk (l : List Bool) (m : Nat) (L : Option Addr) (d : Nat) (w : World) (hL : RL w w.heap.size L m l) :
    Calls Try.prog 6 #[.slice L m d] w fun e w' => e = .returned (.bool true) ∧ Below w.heap.size w w' := by
  by_cases h : 300 < m
  · exact walk_out l m L d w h
  · exact walk_in l m L d w hL (by omega)

/-! From the walk to the row. -/
set_option maxRecDepth 100000 in
theorem contract (H : Type) (enc : TypeId × Value → H) (W : World) (base : Nat) (args : Array Value) (ds gs : List (DataW H)) (before : List MemPlace)
    (hval0 : ∀ (j : Nat) t v, Try.f6.params[j]? = some t → args[j]? = some v → Value.okWide Try.prog W .any base t v)
    (hW : DataW.Whole enc Try.prog Try.f6.params.toList Rows.packBitsSpec.vars false W args.toList ds gs before) :
    Calls Try.prog 6 args W fun e W' => ∃ v, e = .returned v ∧ Rows.packBitsSpec.post enc Try.prog Try.f6 false true false false W args v W' := by
  have hval : ∀ (j : Nat) t v, Try.f6.params[j]? = some t → args[j]? = some v → Value.okWide Try.prog W .any base t v := hval0
  have hW' := hW
  obtain ⟨p, q, hA0, hV, rfl, hfz, hnd⟩ := hW
  have hA : DataW.TrodAll enc Try.prog W 0 (fun _ => true) true Try.f6.params.toList args.toList ds p := hA0
  rw [Try.params6] at hA hval
  obtain ⟨v0, vs0, d0, ds0, p0, q0, hargs, rfl, rfl, h0, r0⟩ := trodAll_cons hA
  obtain ⟨rfl, rfl, rfl⟩ := trodAll_nil r0
  obtain rfl : args = #[v0] := by cases args; simp_all
  obtain ⟨rfl, rfl⟩ := trodVars_none hV
  obtain ⟨a0, len0, cap0, rfl⟩ := okWide_slice Try.underlying24 (hval 0 24 v0 rfl rfl)
  have k0 := h0
  have lt0 : ∀ x ∈ p0, x.block < W.heap.size := by obtain ⟨m, hm⟩ := k0; exact DataW.trod_lt m _ _ _ hm
  obtain ⟨l0, hl0, hs0, hr0⟩ : ∃ l, l.length = len0 ∧ Shp a0 len0 cap0 ∧ RL W W.heap.size a0 len0 l := by
    obtain ⟨fuel, hf⟩ := h0
    exact open_bools (by simpa [Value.cells] using hf)
  clear hA0 hval0
  refine (walk l0 len0 a0 cap0 W hr0).mono fun e W' ⟨he, bel⟩ => ?_
  subst he
  exact ⟨_, rfl, _, _, _, [], _, [], hW', trodAll_mk1 (shut_bool Try.underlying4 _), (trodAll_cons_mk (Below.trod laidOut (by kernel_rfl) (of_decide_eq_true (by kernel_rfl)) k0 bel lt0) trodAll_mk0), rfl, bel.frame _, fun h => by cases h⟩

set_option maxRecDepth 100000 in
theorem lifted (os : Os) (started : os.Started) (H : Type) (enc : TypeId × Value → H) :
    ReturnsInHanded {} Try.checked os 6 .any (Rows.packBitsSpec.pre6 enc Try.prog Try.f6 Rows.packBitsRow.domain false) (Rows.packBitsSpec.post enc Try.prog Try.f6 false true false false) := by
  refine returnsInHanded_of_change (C := Try.checked) own started (by kernel_rfl) Try.func6
    (ChangeSpec.witness6 (enc := enc) (C := Try.checked) false ⟨#[], #[.slice none 0 0], []⟩ 8 (by kernel_rfl) (by kernel_rfl) (by kernel_rfl) (by kernel_rfl)) ?_
  intro W base args ds gs before hval hW _ _
  exact contract H enc W base args ds gs before hval hW

set_option maxRecDepth 100000 in
theorem over : Rows.packBitsRow.holds Try.pinned (OpenSpec.ofChange Rows.packBitsSpec) :=
  OpenClaim.holds_of_wide 6 Try.f6 rfl rfl rfl rfl rfl rfl rfl ⟨rfl, rfl, rfl, rfl, rfl⟩ rfl rfl rfl rfl rfl (by kernel_rfl) Try.func6 (by kernel_rfl)
    (of_decide_eq_true (by kernel_rfl)) (by unfold Func.isWrapper; first | (rw [if_pos (by decide +kernel)]; kernel_rfl) | (rw [if_neg (by decide +kernel)]; exact ⟨rfl, rfl⟩))
    (fun os started H enc _ => lifted os started H enc)
end Go.Proofs.Ytjhcjdgmhggimaa.packBits

namespace Go.Proofs.Ytjhcjdgmhggimaa
/-- The given statement, under a short name. -/
theorem packBits_holds : Rows.PackBitsSaid := packBits.over
#print axioms packBits_holds
end Go.Proofs.Ytjhcjdgmhggimaa
