/- The law SetsOf returns true at every row of ranges and every integer: the set of ranges has just the scalars that some range has; ranges that touch are one; a range whose end is below its beginning, or no scalar's, makes none. Conditions: none; nothing that was there before the call is changed. -/
import Derived.Test.YtehikcddnjibcaaFrame
namespace Go.Proofs.Ytehikcddnjibcaa.setsOf
open Go.ChangeShapes Go.WideShapes Go.ChangeAt Go.RowKit Go.BigFrame
set_option linter.unusedVariables false
set_option linter.unusedSimpArgs false

theorem allOk_take (l : List Rg) (k : Nat) (hk : k < l.length) : allOk (l.take (k + 1)) = (allOk (l.take k) && mayB l[k]) := by
  rw [List.take_succ_eq_append_getElem hk]
  unfold allOk
  rw [List.all_append]
  simp
theorem allOk_at {l : List Rg} (h : allOk l = true) {k : Nat} (hk : k < l.length) : mayB l[k] = true := by
  unfold allOk at h
  exact List.all_eq_true.1 h _ (List.getElem_mem hk)

set_option maxRecDepth 100000 in
set_option maxHeartbeats 4000000 in
theorem walk_large (l : List Rg) (n : Nat) (hl : l.length = n) (A : Option Addr) (c : Nat) (v : Int) (w : World) (hA : Shp A n c) (hR : Reads w w.heap.size 2 A n (rcells l)) (h : 60 < n) :
    Calls Try.prog 7 #[.slice A n c, .int .i64 v] w fun e w' => e = .returned (.bool true) ∧ Below w.heap.size w w' := by
  clear hR
  go_enter Try.func7, Try.ntmps7
  go_wp2_with fail
  refine (wakes_any _).mono ?_
  rintro e w2 ⟨rfl, b2⟩
  go_wp2_with fail
  go_ret
  exact ⟨rfl, b2⟩

set_option maxRecDepth 100000 in
set_option maxHeartbeats 4000000 in
theorem walk_ok (l : List Rg) (n : Nat) (hl : l.length = n) (A : Option Addr) (c : Nat) (v : Int) (w : World) (hA : Shp A n c) (hR : Reads w w.heap.size 2 A n (rcells l)) (hn : n ≤ 60) (hok : allOk l = true) :
    Calls Try.prog 7 #[.slice A n c, .int .i64 v] w fun e w' => e = .returned (.bool true) ∧ Below w.heap.size w w' := by
  have Ha_0 := Lib.hid hR
  have La := Lib.hid hl
  have Sa := Lib.hid hA
  clear hR hl hA
  have HOk := Lib.hid hok
  clear hok
  have b0 : Below w.heap.size w w := Below.refl _ _
  go_enter Try.func7, Try.ntmps7
  go_wp2_with fail
  refine (of_N La.out Sa.out Ha_0.out (by omega) HOk.out).mono ?_
  rintro e w1 ⟨sS, nS, AS, cS, rfl, l1, mS, p1, i1, r1, g1⟩
  have Ha_1 := Lib.hid (reads_on Ha_0.out g1)
  have b1 := b0.trans (g1.mono b0.size)
  have HS_1 := Lib.hid r1
  have SS := Lib.hid p1
  have LS := Lib.hid l1
  have IS := Lib.hid i1
  clear g1 Ha_0 b0 r1 l1 i1 p1
  go_wp2_with fail
  go_loopw [7, 8, 9] (fun bd inn i wr => ∃ (k : Nat) (x : Bool), k ≤ n ∧ i = .int .i64 k ∧ bd = .bool false ∧ inn = .bool x ∧ Hid (x = inB (l.take k) v) ∧ Below w1.heap.size w1 wr) (fun _ _ i _ => n - (intOf i).toNat)
  case atStart => exact ⟨0, false, Nat.zero_le _, rfl, rfl, rfl, Lib.hid (by simp [inB]), Below.refl _ _⟩
  case round =>
    obtain ⟨k, x, hk, rfl, rfl, rfl, HX, hb⟩ := hrel
    have hsz := hb.size
    by_cases hlt : k < n
    · have kl : k < l.length := by rw [La.out]; exact hlt
      obtain ⟨bk, o, rfl, hbb, p0, p1⟩ := (Ha_1.out.below hb).rg kl
      have hmy := (mayB_iff _).1 (allOk_at HOk.out kl)
      have HN : Hid ((x || (decide (l[k].1 ≤ v) && decide (v ≤ l[k].2))) = inB (l.take (k + 1)) v) := Lib.hid (by rw [inB_take l k kl, ← HX.out])
      have hx : isB l[k].1 = true := (isB_iff _).2 hmy.1
      have hy : isB l[k].2 = true := (isB_iff _).2 hmy.2.1
      have hxy := hmy.2.2
      generalize l[k] = r at *
      obtain ⟨x0, x1⟩ := r
      simp only [] at p0 p1 hx hy hxy HN
      have hxy' : decide (x1 < x0) = false := decide_eq_false (by omega)
      clear hmy HX
      go_wp2_with fail
      go_big_quiet (first | (go_at_call 28; refine Calls.quiet_of_same (refIs_q _ _)))
      have b2 := below_drewN hb nq
      have p0' : (wr.drewN nq).cell? ⟨bk, o + k * 2, none⟩ = some (.int .i64 x0) := p0
      have p1' : (wr.drewN nq).cell? ⟨bk, o + k * 2 + 1, none⟩ = some (.int .i64 x1) := p1
      clear hb p0 p1
      generalize wr.drewN nq = w2' at *
      cases x
      · by_cases c1 : x0 ≤ v
        · have HN' : Hid (decide (v ≤ x1) = inB (l.take (k + 1)) v) := Lib.hid (by rw [← HN.out, decide_eq_true c1]; rfl)
          clear HN
          go_wp2_with fail
          go_roundw
          case rel => exact ⟨k + 1, decide (v ≤ x1), by omega, by go_num, rfl, rfl, HN', b2⟩
          case measure => simp [intOf]; omega
        · have HN' : Hid (false = inB (l.take (k + 1)) v) := Lib.hid (by rw [← HN.out, decide_eq_false c1]; rfl)
          clear HN
          go_wp2_with fail
          go_roundw
          case rel => exact ⟨k + 1, false, by omega, by go_num, rfl, rfl, HN', b2⟩
          case measure => simp [intOf]; omega
      · have HN' : Hid (true = inB (l.take (k + 1)) v) := Lib.hid (by rw [← HN.out]; rfl)
        clear HN
        go_wp2_with fail
        go_roundw
        case rel => exact ⟨k + 1, true, by omega, by go_num, rfl, rfl, HN', b2⟩
        case measure => simp [intOf]; omega
    · have HXl : Hid (x = inB l v) := Lib.hid (by have h := HX.out; rwa [List.take_of_length_le (by rw [La.out]; omega)] at h)
      have HS_51 := Lib.hid (reads_on HS_1.out hb)
      have b51 := b1.trans (hb.mono b1.size)
      have HGd := Lib.hid IS.out.1
      have HB : Hid (hasB sS v = (x && isB v)) := Lib.hid (by
        unfold hasB
        rw [(goodB_iff sS).2 IS.out.1, HXl.out, Bool.true_and, Bool.and_comm]
        cases hv : isB v
        · rw [Bool.and_false, Bool.and_false]
        · rw [Bool.and_true, Bool.and_true]
          have h2 := IS.out.2 v ((isB_iff v).1 hv)
          cases hq : inB l v
          · cases hq2 : inB sS v
            · rfl
            · have := (inB_iff l v).2 (h2.1 ((inB_iff _ _).1 hq2)); rw [hq] at this; cases this
          · exact (inB_iff sS v).2 (h2.2 ((inB_iff _ _).1 hq)))
      have hdle : decide ((nS : Int) ≤ (n : Int)) = true := decide_eq_true (by omega)
      have hcon := fun W h => has_n sS nS LS.out AS cS v W h (by omega)
      rw [HB.out] at hcon
      have HH := Lib.hid hcon
      clear hcon HB HXl HX hb
      cases x
      · go_wp2_with fail
        refine (good_yes LS.out HS_51.out (by omega) HGd.out).mono ?_
        rintro e w52 ⟨rfl, g52⟩
        have HS_52 := Lib.hid (reads_on HS_51.out g52)
        have b52 := b51.trans (g52.mono b51.size)
        clear g52 HS_51 b51
        go_wp2_with fail
        refine (refGood_yes LS.out HS_52.out (by omega) HGd.out).mono ?_
        rintro e w53 ⟨rfl, g53⟩
        have HS_53 := Lib.hid (reads_on HS_52.out g53)
        have b53 := b52.trans (g53.mono b52.size)
        clear g53 HS_52 b52
        go_wp2_with fail
        refine (HH.out _ HS_53.out).mono ?_
        rintro e w54 ⟨rfl, g54⟩
        have HS_54 := Lib.hid (reads_on HS_53.out g54)
        have b54 := b53.trans (g54.mono b53.size)
        clear g54 HS_53 b53
        go_wp2_with fail
        refine (wakes_any _).mono ?_
        rintro e w55 ⟨rfl, g55⟩
        have HS_55 := Lib.hid (reads_on HS_54.out g55)
        have b55 := b54.trans (g55.mono b54.size)
        clear g55 HS_54 b54
        go_wp2_with fail
        go_ret
        exact ⟨rfl, b55⟩
      · go_wp2_with fail
        refine (good_yes LS.out HS_51.out (by omega) HGd.out).mono ?_
        rintro e w52 ⟨rfl, g52⟩
        have HS_52 := Lib.hid (reads_on HS_51.out g52)
        have b52 := b51.trans (g52.mono b51.size)
        clear g52 HS_51 b51
        go_wp2_with fail
        refine (refGood_yes LS.out HS_52.out (by omega) HGd.out).mono ?_
        rintro e w53 ⟨rfl, g53⟩
        have HS_53 := Lib.hid (reads_on HS_52.out g53)
        have b53 := b52.trans (g53.mono b52.size)
        clear g53 HS_52 b52
        go_wp2_with fail
        refine (HH.out _ HS_53.out).mono ?_
        rintro e w54 ⟨rfl, g54⟩
        have HS_54 := Lib.hid (reads_on HS_53.out g54)
        have b54 := b53.trans (g54.mono b53.size)
        clear g54 HS_53 b53
        cases hv : isB v
        all_goals
          go_wp2_with fail
          refine (refIs_any _ _).mono ?_
          rintro e w70 ⟨rfl, rfl⟩
          go_wp2_with fail
          refine (wakes_any _).mono ?_
          rintro e w55 ⟨rfl, g55⟩
          have HS_55 := Lib.hid (reads_on HS_54.out g55)
          have b55 := b54.trans (g55.mono b54.size)
          clear g55 HS_54 b54
          go_wp2_with fail
          go_ret
          exact ⟨rfl, b55⟩

set_option maxRecDepth 100000 in
set_option maxHeartbeats 4000000 in
theorem walk_no (l : List Rg) (n : Nat) (hl : l.length = n) (A : Option Addr) (c : Nat) (v : Int) (w : World) (hA : Shp A n c) (hR : Reads w w.heap.size 2 A n (rcells l)) (hn : n ≤ 60) (hok : allOk l = false) :
    Calls Try.prog 7 #[.slice A n c, .int .i64 v] w fun e w' => e = .returned (.bool true) ∧ Below w.heap.size w w' := by
  have Ha_0 := Lib.hid hR
  have La := Lib.hid hl
  have Sa := Lib.hid hA
  clear hR hl hA
  have HOk := Lib.hid hok
  clear hok
  have b0 : Below w.heap.size w w := Below.refl _ _
  go_enter Try.func7, Try.ntmps7
  go_wp2_with fail
  refine (of_bad l n La.out A c _ Sa.out.1 Ha_0.out (by omega) HOk.out).mono ?_
  rintro e w1 ⟨rfl, g1⟩
  have Ha_1 := Lib.hid (reads_on Ha_0.out g1)
  have b1 := b0.trans (g1.mono b0.size)
  clear g1 Ha_0 b0
  go_wp2_with fail
  go_loopw [7, 8, 9] (fun bd inn i wr => ∃ (k : Nat) (q x : Bool), k ≤ n ∧ i = .int .i64 k ∧ bd = .bool q ∧ inn = .bool x ∧ Hid (q = !allOk (l.take k)) ∧ Below w1.heap.size w1 wr) (fun _ _ i _ => n - (intOf i).toNat)
  case atStart => exact ⟨0, false, false, Nat.zero_le _, rfl, rfl, rfl, Lib.hid (by simp [allOk]), Below.refl _ _⟩
  case round =>
    obtain ⟨k, q, x, hk, rfl, rfl, rfl, HX, hb⟩ := hrel
    have hsz := hb.size
    by_cases hlt : k < n
    · have kl : k < l.length := by rw [La.out]; exact hlt
      obtain ⟨bk, o, rfl, hbb, p0, p1⟩ := (Ha_1.out.below hb).rg kl
      have HN : Hid ((q || !mayB l[k]) = !allOk (l.take (k + 1))) := Lib.hid (by rw [allOk_take l k kl, HX.out, Bool.not_and])
      generalize l[k] = r at *
      obtain ⟨x0, x1⟩ := r
      simp only [] at p0 p1
      have hd : mayB (x0, x1) = (isB x0 && (isB x1 && decide (x0 ≤ x1))) := rfl
      clear HX
      cases q
      · cases hx : isB x0
        · have HN' : Hid (true = !allOk (l.take (k + 1))) := Lib.hid (by rw [← HN.out, hd, hx]; rfl)
          clear HN hd
          go_wp2_with fail
          go_big_quiet (first | (go_at_call 28; refine Calls.quiet_of_same (refIs_q _ _)))
          have b2 := below_drewN hb nq
          have p0' : (wr.drewN nq).cell? ⟨bk, o + k * 2, none⟩ = some (.int .i64 x0) := p0
          have p1' : (wr.drewN nq).cell? ⟨bk, o + k * 2 + 1, none⟩ = some (.int .i64 x1) := p1
          clear hb p0 p1
          generalize wr.drewN nq = w2' at *
          cases x
          · by_cases c1 : x0 ≤ v
            all_goals
              go_wp2_with fail
              go_roundw
              case rel => exact ⟨k + 1, true, _, by omega, by go_num, rfl, rfl, HN', b2⟩
              case measure => simp [intOf]; omega
          · go_wp2_with fail
            go_roundw
            case rel => exact ⟨k + 1, true, _, by omega, by go_num, rfl, rfl, HN', b2⟩
            case measure => simp [intOf]; omega
        · cases hy : isB x1
          · have HN' : Hid (true = !allOk (l.take (k + 1))) := Lib.hid (by rw [← HN.out, hd, hx, hy]; rfl)
            clear HN hd
            go_wp2_with fail
            go_big_quiet (first | (go_at_call 28; refine Calls.quiet_of_same (refIs_q _ _)))
            have b2 := below_drewN hb nq
            have p0' : (wr.drewN nq).cell? ⟨bk, o + k * 2, none⟩ = some (.int .i64 x0) := p0
            have p1' : (wr.drewN nq).cell? ⟨bk, o + k * 2 + 1, none⟩ = some (.int .i64 x1) := p1
            clear hb p0 p1
            generalize wr.drewN nq = w2' at *
            cases x
            · by_cases c1 : x0 ≤ v
              all_goals
                go_wp2_with fail
                go_roundw
                case rel => exact ⟨k + 1, true, _, by omega, by go_num, rfl, rfl, HN', b2⟩
                case measure => simp [intOf]; omega
            · go_wp2_with fail
              go_roundw
              case rel => exact ⟨k + 1, true, _, by omega, by go_num, rfl, rfl, HN', b2⟩
              case measure => simp [intOf]; omega
          · by_cases hxy : x1 < x0
            · have HN' : Hid (true = !allOk (l.take (k + 1))) := Lib.hid (by rw [← HN.out, hd, hx, hy, decide_eq_false (by omega)]; rfl)
              have hxy' : decide (x1 < x0) = true := decide_eq_true hxy
              clear HN hd
              go_wp2_with fail
              go_big_quiet (first | (go_at_call 28; refine Calls.quiet_of_same (refIs_q _ _)))
              have b2 := below_drewN hb nq
              have p0' : (wr.drewN nq).cell? ⟨bk, o + k * 2, none⟩ = some (.int .i64 x0) := p0
              have p1' : (wr.drewN nq).cell? ⟨bk, o + k * 2 + 1, none⟩ = some (.int .i64 x1) := p1
              clear hb p0 p1
              generalize wr.drewN nq = w2' at *
              cases x
              · by_cases c1 : x0 ≤ v
                all_goals
                  go_wp2_with fail
                  go_roundw
                  case rel => exact ⟨k + 1, true, _, by omega, by go_num, rfl, rfl, HN', b2⟩
                  case measure => simp [intOf]; omega
              · go_wp2_with fail
                go_roundw
                case rel => exact ⟨k + 1, true, _, by omega, by go_num, rfl, rfl, HN', b2⟩
                case measure => simp [intOf]; omega
            · have HN' : Hid (false = !allOk (l.take (k + 1))) := Lib.hid (by rw [← HN.out, hd, hx, hy, decide_eq_true (by omega)]; rfl)
              have hxy' : decide (x1 < x0) = false := decide_eq_false hxy
              clear HN hd
              go_wp2_with fail
              go_big_quiet (first | (go_at_call 28; refine Calls.quiet_of_same (refIs_q _ _)))
              have b2 := below_drewN hb nq
              have p0' : (wr.drewN nq).cell? ⟨bk, o + k * 2, none⟩ = some (.int .i64 x0) := p0
              have p1' : (wr.drewN nq).cell? ⟨bk, o + k * 2 + 1, none⟩ = some (.int .i64 x1) := p1
              clear hb p0 p1
              generalize wr.drewN nq = w2' at *
              cases x
              · by_cases c1 : x0 ≤ v
                all_goals
                  go_wp2_with fail
                  go_roundw
                  case rel => exact ⟨k + 1, false, _, by omega, by go_num, rfl, rfl, HN', b2⟩
                  case measure => simp [intOf]; omega
              · go_wp2_with fail
                go_roundw
                case rel => exact ⟨k + 1, false, _, by omega, by go_num, rfl, rfl, HN', b2⟩
                case measure => simp [intOf]; omega
      · have HN' : Hid (true = !allOk (l.take (k + 1))) := Lib.hid (by rw [← HN.out]; rfl)
        clear HN hd
        go_wp2_with fail
        go_big_quiet (first | (go_at_call 28; refine Calls.quiet_of_same (refIs_q _ _)))
        have b2 := below_drewN hb nq
        have p0' : (wr.drewN nq).cell? ⟨bk, o + k * 2, none⟩ = some (.int .i64 x0) := p0
        have p1' : (wr.drewN nq).cell? ⟨bk, o + k * 2 + 1, none⟩ = some (.int .i64 x1) := p1
        clear hb p0 p1
        generalize wr.drewN nq = w2' at *
        cases x
        · by_cases c1 : x0 ≤ v
          all_goals
            go_wp2_with fail
            go_roundw
            case rel => exact ⟨k + 1, true, _, by omega, by go_num, rfl, rfl, HN', b2⟩
            case measure => simp [intOf]; omega
        · go_wp2_with fail
          go_roundw
          case rel => exact ⟨k + 1, true, _, by omega, by go_num, rfl, rfl, HN', b2⟩
          case measure => simp [intOf]; omega
    · obtain rfl : q = true := by
        have h := HX.out
        rw [List.take_of_length_le (by rw [La.out]; omega), HOk.out] at h
        exact h
      have b51 := b1.trans (hb.mono b1.size)
      clear HX hb
      go_wp2_with fail
      refine (wakes_any _).mono ?_
      rintro e w70 ⟨rfl, g70⟩
      have b70 := b51.trans (g70.mono b51.size)
      go_wp2_with fail
      go_ret
      exact ⟨rfl, b70⟩

theorem walk (l : List Rg) (n : Nat) (hl : l.length = n) (A : Option Addr) (c : Nat) (v : Int) (w : World) (hA : Shp A n c) (hR : Reads w w.heap.size 2 A n (rcells l)) : Calls Try.prog 7 #[.slice A n c, .int .i64 v] w fun e w' => e = .returned (.bool true) ∧ Below w.heap.size w w' := by
  by_cases h : n ≤ 60
  · cases hok : allOk l
    · exact walk_no l n hl A c v w hA hR h hok
    · exact walk_ok l n hl A c v w hA hR h hok
  · exact walk_large l n hl A c v w hA hR (by omega)

/-! From the walk to the row. -/
theorem contract (H : Type) (enc : TypeId × Value → H) (W : World) (base : Nat) (args : Array Value) (ds gs : List (DataW H)) (before : List MemPlace)
    (hval0 : ∀ (j : Nat) t v, Try.f7.params[j]? = some t → args[j]? = some v → Value.okWide Try.prog W .any base t v)
    (hW : DataW.Whole enc Try.prog Try.f7.params.toList Rows.setsOfSpec.vars false W args.toList ds gs before) :
    Calls Try.prog 7 args W fun e W' => ∃ v, e = .returned v ∧ Rows.setsOfSpec.post enc Try.prog Try.f7 false true false false W args v W' := by
  have hval : ∀ (j : Nat) t v, Try.f7.params[j]? = some t → args[j]? = some v → Value.okWide Try.prog W .any base t v := hval0
  have hW' := hW
  obtain ⟨p, q, hA0, hV, rfl, hfz, hnd⟩ := hW
  have hA : DataW.TrodAll enc Try.prog W 0 (fun _ => true) true Try.f7.params.toList args.toList ds p := hA0
  rw [Try.params7] at hA hval
  obtain ⟨v0, vs0, d0, ds0, p0, q0, hargs, rfl, rfl, h0, r0⟩ := trodAll_cons hA
  obtain ⟨v1, vs1, d1, ds1, p1, q1, rfl, rfl, rfl, h1, r1⟩ := trodAll_cons r0
  obtain ⟨rfl, rfl, rfl⟩ := trodAll_nil r1
  obtain rfl : args = #[v0, v1] := by cases args; simp_all
  obtain ⟨rfl, rfl⟩ := trodVars_none hV
  obtain ⟨a0, len0, cap0, rfl⟩ := okWide_slice Try.underlying22 (hval 0 22 v0 rfl rfl)
  have k0 := h0
  have lt0 : ∀ x ∈ p0, x.block < W.heap.size := by obtain ⟨m, hm⟩ := k0; exact DataW.trod_lt m _ _ _ hm
  obtain ⟨l0, hl0, hs0, hr0⟩ : ∃ l, l.length = len0 ∧ Shp a0 len0 cap0 ∧ Reads W W.heap.size 2 a0 len0 (rcells l) := by
    obtain ⟨fuel, hf⟩ := h0
    exact open_set Try.underlying22 (by simpa [Value.cells] using hf)
  obtain ⟨a1, rfl, rfl, rfl, w1⟩ := open_int Try.underlying3 (hval 1 3 v1 rfl rfl) h1
  clear hA0 hval0
  refine (walk l0 len0 hl0 a0 cap0 a1 W hs0 hr0).mono fun e W' ⟨he, bel⟩ => ?_
  subst he
  exact ⟨_, rfl, _, _, _, [], _, [], hW', trodAll_mk1 (shut_bool Try.underlying4 _), (trodAll_cons_mk (Below.trod laidOut (by kernel_rfl) (of_decide_eq_true (by kernel_rfl)) k0 bel lt0) (trodAll_cons_mk (shut_int Try.underlying3 w1) trodAll_mk0)), rfl, bel.frame _, fun h => by cases h⟩

set_option maxRecDepth 100000 in
theorem lifted (os : Os) (started : os.Started) (H : Type) (enc : TypeId × Value → H) :
    ReturnsInHanded {} Try.checked os 7 .any (Rows.setsOfSpec.pre6 enc Try.prog Try.f7 Rows.setsOfRow.domain false) (Rows.setsOfSpec.post enc Try.prog Try.f7 false true false false) := by
  refine returnsInHanded_of_change (C := Try.checked) own started (by kernel_rfl) Try.func7
    (ChangeSpec.witness6 (enc := enc) (C := Try.checked) false ⟨#[], #[.slice none 0 0, .int .i64 0], []⟩ 8 (by kernel_rfl) (by kernel_rfl) (by kernel_rfl) (by kernel_rfl)) ?_
  intro W base args ds gs before hval hW _ _
  exact contract H enc W base args ds gs before hval hW

theorem over : Rows.setsOfRow.holds Try.pinned (OpenSpec.ofChange Rows.setsOfSpec) :=
  OpenClaim.holds_of_wide 7 Try.f7 rfl rfl rfl rfl rfl rfl rfl ⟨rfl, rfl, rfl, rfl, rfl⟩ rfl rfl rfl rfl rfl (by kernel_rfl) Try.func7 (by kernel_rfl)
    (of_decide_eq_true (by kernel_rfl)) (by unfold Func.isWrapper; first | (rw [if_pos (by decide +kernel)]; kernel_rfl) | (rw [if_neg (by decide +kernel)]; exact ⟨rfl, rfl⟩))
    (fun os started H enc _ => lifted os started H enc)
end Go.Proofs.Ytehikcddnjibcaa.setsOf

namespace Go.Proofs.Ytehikcddnjibcaa
/-- The given statement, under a short name. -/
theorem setsOf_holds : Rows.SetsOfSaid := setsOf.over
#print axioms setsOf_holds
end Go.Proofs.Ytehikcddnjibcaa
