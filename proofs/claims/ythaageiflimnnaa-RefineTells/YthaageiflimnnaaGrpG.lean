/- Gathered: joined. -/
import Derived.Test.YthaageiflimnnaaGrpD
import Derived.Deep.RegionLaw
/- What gathered returns: the set of each class. -/
namespace Go.Proofs.Ythaageiflimnnaa
open Go.RowKit Go.BigFrame
set_option linter.unusedVariables false
set_option linter.unusedSimpArgs false

/-- Where the k-th band ends. -/
def hiB (bs : List Rg) (k : Nat) : Int := if h : k + 1 < bs.length then prevN bs[k + 1].1 else 1114111
def gopen (P : List (List Rg)) (c : Nat) : List (List Rg) := if c = P.length then P ++ [[]] else P
def gput (P : List (List Rg)) (c : Nat) (r : Rg) : List (List Rg) := (gopen P c).set c ((gopen P c).getD c [] ++ [r])
def gath (bs : List Rg) : Nat → List (List Rg)
  | 0 => []
  | k + 1 => gput (gath bs k) (bs.getD k (0, 0)).2.toNat ((bs.getD k (0, 0)).1, hiB bs k)
theorem info48 : (Try.prog.info? 48).map (fun i => (i.zero, i.size, i.bytes)) = some (some (.slice none 0 0), 1, 24) := by kernel_rfl
def GaRel (bs : List Rg) (n : Nat) (w : World) (vo vi : Value) (wr : World) : Prop :=
  ∃ (k z : Nat) (A2 : Option Addr) (c2 : Nat) (H : List Hd), k ≤ n ∧ vi = .int .i64 k ∧ vo = .slice A2 z c2 ∧ z ≤ k ∧ Hid (setsOf H = gath bs k) ∧ Hid (Own2 wr w.heap.size A2 z c2 H) ∧ Hid (∀ h ∈ H, h.n ≤ k) ∧ Below w.heap.size w wr
/-- Sets of the call's own. -/
def OutP2 (P : List (List Rg)) (w : World) (e : Ending) (w' : World) : Prop :=
  ∃ (A : Option Addr) (c z : Nat) (H : List Hd), e = .returned (.slice A z c) ∧ setsOf H = P ∧ Nest w' w'.heap.size A z H ∧ Shp A z c ∧ Below w.heap.size w w'
theorem setsOf_len (H : List Hd) : (setsOf H).length = H.length := by simp [setsOf]
theorem setsOf_get (H : List Hd) (i : Nat) (hi : i < H.length) : (setsOf H).getD i [] = H[i].s := by
  unfold setsOf
  rw [List.getD_eq_getElem?_getD, List.getElem?_map, List.getElem?_eq_getElem hi]
  rfl
theorem setsOf_set (H : List Hd) (i : Nat) (x : Hd) : setsOf (H.set i x) = (setsOf H).set i x.s := by
  unfold setsOf
  rw [List.map_set]
theorem own_cell {w : World} {base z c PG : Nat} {H : List Hd} (h : Own2 w base (some ⟨PG, 0, none⟩) z c H) {i : Nat} (hi : i < H.length) : w.cell? ⟨PG, i, none⟩ = some (.slice H[i].a H[i].n H[i].c) := by
  have h1 := h.out.cells (g := PG) rfl i (.slice H[i].a H[i].n H[i].c) (by unfold hcells; rw [List.getElem?_map, List.getElem?_eq_getElem hi]; rfl)
  by_cases hj : i = 0
  · subst hj; simpa [Addr.add] using h1
  · simpa [Addr.add, hj] using h1
theorem own2_form {w : World} {base z c : Nat} {A : Option Addr} {H : List Hd} (h : Own2 w base A z c H) (hz : 0 < z) : ∃ PG, A = some ⟨PG, 0, none⟩ ∧ base ≤ PG ∧ PG < w.heap.size := by
  obtain ⟨g, cap, hv, h0, h1⟩ := h.out.form hz
  injection hv with e1 e2 e3
  exact ⟨g, e1, h0, h1⟩
theorem set_bound {H : List Hd} {i k : Nat} {x : Hd} (h : ∀ y ∈ H, y.n ≤ k) (hx : x.n ≤ k + 1) : ∀ y ∈ H.set i x, y.n ≤ k + 1 := by
  intro y hy
  rcases List.mem_or_eq_of_mem_set hy with hy | rfl
  · have := h y hy; omega
  · exact hx
theorem lit1 {w : World} {b : Nat} {u : Value} (h0 : w.cell? ⟨b, 0, none⟩ = some u) : ∀ j y, [u][j]? = some y → w.cell? ((⟨b, 0, none⟩ : Addr).add j) = some y := by
  intro j y hj
  match j, hj with
  | 0, hj => simp at hj; subst hj; simpa [Addr.add] using h0

theorem new_lit1 {w : World} {m : Nat} {u : Value} {t : TypeId} (h : w.heap.size = m) : ∀ j y, [u][j]? = some y → (w.alloc (.cells #[u] t)).cell? ((⟨m, 0, none⟩ : Addr).add j) = some y := by
  subst h
  exact lit1 (by simp)
theorem new_lit2 (w : World) (u v : Value) (t : TypeId) : ∀ j y, [u, v][j]? = some y → (w.alloc (.cells #[u, v] t)).cell? ((⟨w.heap.size, 0, none⟩ : Addr).add j) = some y := lit2 (by simp) (by simp)
def nilH : Hd := ⟨none, 0, 0, []⟩
set_option maxRecDepth 4000 in
set_option maxHeartbeats 4000000 in
theorem gathered_n (bs : List Rg) (n : Nat) (hl : bs.length = n) (A : Option Addr) (c : Nat) (w : World) (hR : Reads w w.heap.size 2 A n (rcells bs)) (hn : n ≤ 600001) (hok : ∀ k (h : k < bs.length), 0 ≤ bs[k].2 ∧ bs[k].2 ≤ (gath bs k).length) :
    Calls Try.prog 31 #[.slice A n c] w (OutP2 (gath bs n) w) := by
  obtain ⟨i0, hi0, hz0, hz1, hz2⟩ := info_parts info41
  obtain ⟨j0, hj0, hy0, hy1, hy2⟩ := info_parts info48
  have HR := Lib.hid hR
  have HL := Lib.hid hl
  have HOk := Lib.hid hok
  clear hR hl hok
  go_enter Try.func31, Try.ntmps31
  go_wp2_with fail
  go_loopw [3, 9] (fun vo vi wr => GaRel bs n w vo vi wr) (fun _ i _ => n - (intOf i).toNat)
  case atStart => exact ⟨0, 0, none, 0, [], Nat.zero_le _, rfl, rfl, Nat.le_refl _, Lib.hid rfl, Lib.hid (Own2.nil _ _), Lib.hid (fun h hh => by simp at hh), Below.refl _ _⟩
  case round =>
    obtain ⟨k, z, A2, c2, H, hk, rfl, rfl, hz, HE, HO, HBd, hb⟩ := hrel
    have hsz := hb.size
    by_cases hlt : k < n
    · have kl : k < bs.length := by rw [HL.out]; exact hlt
      obtain ⟨b, o, rfl, hbb, p0, p1⟩ := (HR.out.below hb).rg kl
      have hHl : H.length = z := HO.out.len
      have hgl : (gath bs k).length = z := by rw [← HE.out, setsOf_len, hHl]
      have hcl := HOk.out k kl
      rw [hgl] at hcl
      have HSt : Hid (gath bs (k + 1) = gput (gath bs k) bs[k].2.toNat (bs[k].1, hiB bs k)) := Lib.hid (by
        have e : bs.getD k (0, 0) = bs[k] := by rw [List.getD_eq_getElem?_getD, List.getElem?_eq_getElem kl]; rfl
        show gput (gath bs k) (bs.getD k (0, 0)).2.toNat ((bs.getD k (0, 0)).1, hiB bs k) = _
        rw [e])
      generalize bs[k] = x at *
      obtain ⟨x0, x1⟩ := x
      simp only [] at p0 p1 hcl HSt
      obtain ⟨cn, rfl⟩ : ∃ cn : Nat, x1 = cn := ⟨x1.toNat, by omega⟩
      have hcn : cn ≤ z := by omega
      rw [Int.toNat_natCast] at HSt
      clear hgl
      by_cases hk1 : k + 1 < n
      · have kl1 : k + 1 < bs.length := by rw [HL.out]; exact hk1
        obtain ⟨_, _, ea, _, q0, _⟩ := (HR.out.below hb).rg kl1
        injection ea with ea
        injection ea with ea1 ea2
        subst ea1 ea2
        have hhi : hiB bs k = prevN bs[k + 1].1 := by unfold hiB; rw [dif_pos kl1]
        rw [hhi] at HSt
        clear hhi
        generalize bs[k + 1].1 = y0 at *
        have hpv := fun W => prev_any y0 W
        generalize prevN y0 = hiv at *
        have q0' : ((wr.alloc (.cells #[.int .i64 x0, .int .i64 cn] 40)).alloc (.cells #[.int .i64 x0, .int .i64 1114111] 50)).cell? ⟨b, o + (k + 1) * 2, none⟩ = some (.int .i64 y0) := cell_alloc _ (cell_alloc _ q0)
        have BB1 : ((wr.alloc (.cells #[.int .i64 x0, .int .i64 cn] 40)).alloc (.cells #[.int .i64 x0, .int .i64 hiv] 50)).cell? ⟨wr.heap.size, 1, none⟩ = some (.int .i64 cn) := by simp
        have RB0 : ((wr.alloc (.cells #[.int .i64 x0, .int .i64 cn] 40)).alloc (.cells #[.int .i64 x0, .int .i64 hiv] 50)).cell? ⟨wr.heap.size + 1, 0, none⟩ = some (.int .i64 x0) := by simp
        have RB1 : ((wr.alloc (.cells #[.int .i64 x0, .int .i64 cn] 40)).alloc (.cells #[.int .i64 x0, .int .i64 hiv] 50)).cell? ⟨wr.heap.size + 1, 1, none⟩ = some (.int .i64 hiv) := by simp
        have bW : Below wr.heap.size wr ((wr.alloc (.cells #[.int .i64 x0, .int .i64 cn] 40)).alloc (.cells #[.int .i64 x0, .int .i64 hiv] 50)) := (((Below.refl _ _).alloc (Nat.le_refl _) _).alloc (by simp) _)
        have hsW : wr.heap.size + 2 ≤ ((wr.alloc (.cells #[.int .i64 x0, .int .i64 cn] 40)).alloc (.cells #[.int .i64 x0, .int .i64 hiv] 50)).heap.size := by simp
        by_cases hcz : cn = z
        · subst hcz
          have hlz : cn < cn + 1 := by omega
          have hlzI : (cn : Int) < (cn : Int) + 1 := by omega
          have HCN : cn < (H ++ [nilH]).length := by rw [List.length_append]; simp; omega
          have hop : gopen (setsOf H) cn = setsOf (H ++ [nilH]) := by unfold gopen; rw [if_pos (by rw [setsOf_len]; omega)]; simp [setsOf, nilH]
          have HO1 := Lib.hid (HO.out.on bW)
          have hb1 := hb.trans (bW.mono hsz)
          have hltO : ∀ q, (Value.slice (H ++ [nilH])[cn].a (H ++ [nilH])[cn].n (H ++ [nilH])[cn].c).ownBlock = some q → q < wr.heap.size := fun q hq => by
            rw [List.getElem_append_right (by omega)] at hq
            simp [Value.ownBlock, nilH] at hq
          have hPlt : ∀ q, (Value.slice A2 cn c2).ownBlock = some q → q < wr.heap.size := fun q hq => (HO.out.out.lt q hq).2
          have BD : Hid (∀ h ∈ H ++ [nilH], h.n ≤ k) := Lib.hid (fun h hh => by
            rcases List.mem_append.1 hh with hh | hh
            · exact HBd.out h hh
            · rw [List.mem_singleton] at hh; subst hh; exact Nat.zero_le _)
          clear HO
          have hown1 := HO1.out.out
          go_wp2_with fail
          refine (hpv _).mono ?_
          rintro e w1 ⟨rfl, rfl⟩
          go_wp2_with (at_builtin; refine wpList_append_lies _ rfl _ _ 22 rfl w.heap.size 48 j0 _ 1 24 Try.underlying22 hj0 hy0 hy1 hy2 rfl (by decide) _ _ _ rfl (hown1.alloc _) ⟨wr.heap.size + 1 + 1, 0, none⟩ 1 1 [.slice none 0 0] rfl rfl ?k1 ?k2 (by omega) ?k3 ?k4 ?k5 _ rfl ?_)
          case k1 => exact new_lit1 (by simp)
          case k2 => intro u hu; simp at hu; subst hu; rfl
          case k3 => unfold maxLen; omega
          case k4 => omega
          case k5 => simp; omega
          intro g3 cap3 w3 hown3 hgrow3 hat3 hlt3
          have HO2 : Hid (Own2 w3 w.heap.size (some ⟨g3, 0, none⟩) (cn + 1) cap3 (H ++ [nilH])) := Lib.hid ((HO1.out.alloc (.cells #[.slice none 0 0] 48)).snoc hown3 hgrow3)
          have hb2 : Below w.heap.size w w3 := (hb1.alloc (by omega) _).grown hgrow3 (by simp; omega) (fun q hq => (hown1.lt q hq).1)
          have hz3 : wr.heap.size + 2 ≤ w3.heap.size := by have := hgrow3.size; simp at this; omega
          have BB1 := hgrow3.cell (cell_alloc (.cells #[.slice none 0 0] 48) BB1) (fun e => by have := hPlt _ e.symm; simp at this)
          have RB0 := hgrow3.cell (cell_alloc (.cells #[.slice none 0 0] 48) RB0) (fun e => by have := hPlt _ e.symm; simp at this; omega)
          have RB1 := hgrow3.cell (cell_alloc (.cells #[.slice none 0 0] 48) RB1) (fun e => by have := hPlt _ e.symm; simp at this; omega)
          clear hown3 hgrow3 hat3 hown1 HO1 hb1
          generalize hwc' : w3 = wc at *
          clear hwc'
          go_wp2_with fail
          obtain ⟨PG, ePG, hPG0, hPG1⟩ := own2_form HO2.out (by omega)
          injection ePG with ePG
          injection ePG with ePG
          have ePG' := ePG.symm
          subst ePG'
          have hcell : wc.cell? ⟨PG, cn, none⟩ = some (.slice (H ++ [nilH])[cn].a (H ++ [nilH])[cn].n (H ++ [nilH])[cn].c) := own_cell HO2.out HCN
          have hinn := HO2.out.inn _ (List.getElem_mem HCN)
          have hbd1 := BD.out _ (List.getElem_mem HCN)
          have hPGu := own_unlike HO2.out.out hinn.2
          have hfz := HO2.out.out.frozenAt cn
          have HSet : Hid (∀ (w5 : World) (g cap : Nat), w5.ownsRow w.heap.size 50 2 (.slice (some ⟨g, 0, none⟩) ((H ++ [nilH])[cn].n + 1) cap) ((H ++ [nilH])[cn].n + 1) (rcells (H ++ [nilH])[cn].s ++ rcell (x0, hiv)) → (wc.drew.alloc (.cells #[.int .i64 x0, .int .i64 hiv] 50)).grownBy w5 (H ++ [nilH])[cn].v.ownBlock → ((H ++ [nilH])[cn].v.ownBlock = some g ∨ g = (wc.drew.alloc (.cells #[.int .i64 x0, .int .i64 hiv] 50)).heap.size) →
              Own2 (w5.setCell ⟨PG, cn, none⟩ (.slice (some ⟨g, 0, none⟩) ((H ++ [nilH])[cn].n + 1) cap)) w.heap.size (some ⟨PG, 0, none⟩) (cn + 1) cap3 ((H ++ [nilH]).set cn ⟨some ⟨g, 0, none⟩, (H ++ [nilH])[cn].n + 1, cap, (H ++ [nilH])[cn].s ++ [(x0, hiv)]⟩)) := Lib.hid (fun w5 g cap h1 h2 h3 => HO2.out.drew.set HCN h1 h2 h3)
          have HFin : Hid (∀ h : Hd, h.s = (H ++ [nilH])[cn].s ++ [(x0, hiv)] → setsOf ((H ++ [nilH]).set cn h) = gath bs (k + 1)) := Lib.hid (fun h hs => by
            rw [HSt.out, setsOf_set, hs, ← setsOf_get (H ++ [nilH]) cn HCN, ← HE.out]
            unfold gput
            rw [hop])
          generalize (H ++ [nilH])[cn] = y at *
          obtain ⟨ya, yn, yc, ys⟩ := y
          simp only [Hd.v] at hcell hinn hbd1 hPGu HSet HFin hltO
          have hin2 : wc.drew.ownsRow w.heap.size 50 2 (.slice ya yn yc) yn (rcells ys) := hinn.2
          have BBd : wc.drew.cell? ⟨wr.heap.size, 1, none⟩ = some (.int .i64 cn) := BB1
          have hceld : wc.drew.cell? ⟨PG, cn, none⟩ = some (.slice ya yn yc) := hcell
          have nBB : (Value.slice ya yn yc).ownBlock ≠ some wr.heap.size := fun e => by have := hltO _ e; omega
          have BBa := cell_alloc (.cells #[.int .i64 x0, .int .i64 hiv] 50) BB1
          have hcela := cell_alloc (.cells #[.int .i64 x0, .int .i64 hiv] 50) hcell
          have nPG : some PG ≠ (Value.slice ya yn yc).ownBlock := by
            intro e
            rcases hPGu with h | h
            · simp [Value.ownBlock] at h
            · exact h e
          have HOA := Lib.hid (HO2.out.drew.alloc (.cells #[.int .i64 x0, .int .i64 hiv] 50))
          go_region_law (refine step_append_lies _ rfl (.tmp 48) (.tmp 50) 48 rfl w.heap.size 50 i0 _ 2 16 Try.underlying48 hi0 hz0 hz1 hz2 rfl (by decide) (.slice ya yn yc) yn (rcells ys) (by first | rfl | simp [Act.eval, Act.put]) (by exact (hin2.alloc (.cells #[.int .i64 x0, .int .i64 hiv] 50))) ⟨wc.drew.heap.size, 0, none⟩ 1 1 [.int .i64 x0, .int .i64 hiv] (by first | rfl | simp [Act.eval, Act.put]) rfl (by exact (new_lit2 wc.drew (.int .i64 x0) (.int .i64 hiv) 50)) (by intro u hu; simp at hu; rcases hu with rfl | rfl <;> rfl) (by omega) (by unfold maxLen; omega) (by omega) (by simp; omega) _ rfl ?_; intro g5 cap5 w5 hown5 hgrow5 hat5 hlt5; have bb5 : w5.cell? ⟨wr.heap.size, 1, none⟩ = some (.int .i64 cn) := hgrow5.cell (cell_alloc _ BBd) (fun e => nBB e.symm); have pf5 := (HOA.out.out.kept hgrow5 hPGu).frozenAt cn; have pc5 := World.grownBy.cell hgrow5 (cell_alloc (.cells #[.int .i64 x0, .int .i64 hiv] 50) hceld) nPG)
          all_goals
            have HO5 := Lib.hid (HSet.out w5 g5 cap5 hown5 hgrow5 hat5)
            have b5 : Below w.heap.size w (w5.setCell ⟨PG, cn, none⟩ (.slice (some ⟨g5, 0, none⟩) (yn + 1) cap5)) := ((((Below.drew hb2).alloc (by exact (show w.heap.size ≤ wc.heap.size by omega)) _).grown hgrow5 (by simp; omega) (fun q hq => (hin2.lt q hq).1)).setCell (p := ⟨PG, cn, none⟩) hPG0 _)
            have HF5 := Lib.hid (HFin.out ⟨some ⟨g5, 0, none⟩, yn + 1, cap5, ys ++ [(x0, hiv)]⟩ rfl)
            have HB5 : Hid (∀ h ∈ (H ++ [nilH]).set cn ⟨some ⟨g5, 0, none⟩, yn + 1, cap5, ys ++ [(x0, hiv)]⟩, h.n ≤ k + 1) := Lib.hid (set_bound BD.out (by show yn + 1 ≤ k + 1; omega))
            clear hown5 hgrow5 hat5 pf5 pc5 bb5 HOA HSet HFin hin2 hinn
            go_wp2_with fail
            go_roundw
            case rel => exact ⟨k + 1, (cn + 1), some ⟨PG, 0, none⟩, cap3, _, by omega, by go_num, rfl, by omega, HF5, HO5, HB5, b5⟩
            case measure => simp [intOf]; omega
        · have hcz' : ((cn : Int) == (z : Int)) = false := by rw [beq_eq_false_iff_ne]; omega
          have HCN : cn < H.length := by omega
          have hlz : cn < z := by omega
          have hop : gopen (setsOf H) cn = setsOf H := by unfold gopen; rw [if_neg (by rw [setsOf_len]; omega)]
          have HO2 := Lib.hid (HO.out.on bW)
          have hb2 := hb.trans (bW.mono hsz)
          have hltO : ∀ q, (Value.slice H[cn].a H[cn].n H[cn].c).ownBlock = some q → q < wr.heap.size := fun q hq => ((HO.out.inn _ (List.getElem_mem HCN)).2.lt q hq).2
          clear HO
          go_wp2_with fail
          refine (hpv _).mono ?_
          rintro e w1 ⟨rfl, rfl⟩
          go_wp2_with fail
          generalize hWc : ((wr.alloc (.cells #[.int .i64 x0, .int .i64 cn] 40)).alloc (.cells #[.int .i64 x0, .int .i64 hiv] 50)) = wc at *
          clear hWc
          obtain ⟨PG, ePG, hPG0, hPG1⟩ := own2_form HO2.out (by omega)
          subst ePG
          have hcell : wc.cell? ⟨PG, cn, none⟩ = some (.slice H[cn].a H[cn].n H[cn].c) := own_cell HO2.out HCN
          have hinn := HO2.out.inn _ (List.getElem_mem HCN)
          have hbd1 := HBd.out _ (List.getElem_mem HCN)
          have hPGu := own_unlike HO2.out.out hinn.2
          have hfz := HO2.out.out.frozenAt cn
          have HSet : Hid (∀ (w5 : World) (g cap : Nat), w5.ownsRow w.heap.size 50 2 (.slice (some ⟨g, 0, none⟩) (H[cn].n + 1) cap) (H[cn].n + 1) (rcells H[cn].s ++ rcell (x0, hiv)) → (wc.drew.alloc (.cells #[.int .i64 x0, .int .i64 hiv] 50)).grownBy w5 H[cn].v.ownBlock → (H[cn].v.ownBlock = some g ∨ g = (wc.drew.alloc (.cells #[.int .i64 x0, .int .i64 hiv] 50)).heap.size) →
              Own2 (w5.setCell ⟨PG, cn, none⟩ (.slice (some ⟨g, 0, none⟩) (H[cn].n + 1) cap)) w.heap.size (some ⟨PG, 0, none⟩) z c2 (H.set cn ⟨some ⟨g, 0, none⟩, H[cn].n + 1, cap, H[cn].s ++ [(x0, hiv)]⟩)) := Lib.hid (fun w5 g cap h1 h2 h3 => HO2.out.drew.set HCN h1 h2 h3)
          have HFin : Hid (∀ h : Hd, h.s = H[cn].s ++ [(x0, hiv)] → setsOf (H.set cn h) = gath bs (k + 1)) := Lib.hid (fun h hs => by
            rw [HSt.out, setsOf_set, hs, ← setsOf_get H cn HCN, ← HE.out]
            unfold gput
            rw [hop])
          generalize H[cn] = y at *
          obtain ⟨ya, yn, yc, ys⟩ := y
          simp only [Hd.v] at hcell hinn hbd1 hPGu HSet HFin hltO
          have hin2 : wc.drew.ownsRow w.heap.size 50 2 (.slice ya yn yc) yn (rcells ys) := hinn.2
          have BBd : wc.drew.cell? ⟨wr.heap.size, 1, none⟩ = some (.int .i64 cn) := BB1
          have hceld : wc.drew.cell? ⟨PG, cn, none⟩ = some (.slice ya yn yc) := hcell
          have nBB : (Value.slice ya yn yc).ownBlock ≠ some wr.heap.size := fun e => by have := hltO _ e; omega
          have BBa := cell_alloc (.cells #[.int .i64 x0, .int .i64 hiv] 50) BB1
          have hcela := cell_alloc (.cells #[.int .i64 x0, .int .i64 hiv] 50) hcell
          have nPG : some PG ≠ (Value.slice ya yn yc).ownBlock := by
            intro e
            rcases hPGu with h | h
            · simp [Value.ownBlock] at h
            · exact h e
          have HOA := Lib.hid (HO2.out.drew.alloc (.cells #[.int .i64 x0, .int .i64 hiv] 50))
          go_region_law (refine step_append_lies _ rfl (.tmp 48) (.tmp 50) 48 rfl w.heap.size 50 i0 _ 2 16 Try.underlying48 hi0 hz0 hz1 hz2 rfl (by decide) (.slice ya yn yc) yn (rcells ys) (by first | rfl | simp [Act.eval, Act.put]) (by exact (hin2.alloc (.cells #[.int .i64 x0, .int .i64 hiv] 50))) ⟨wc.drew.heap.size, 0, none⟩ 1 1 [.int .i64 x0, .int .i64 hiv] (by first | rfl | simp [Act.eval, Act.put]) rfl (by exact (new_lit2 wc.drew (.int .i64 x0) (.int .i64 hiv) 50)) (by intro u hu; simp at hu; rcases hu with rfl | rfl <;> rfl) (by omega) (by unfold maxLen; omega) (by omega) (by simp; omega) _ rfl ?_; intro g5 cap5 w5 hown5 hgrow5 hat5 hlt5; have bb5 : w5.cell? ⟨wr.heap.size, 1, none⟩ = some (.int .i64 cn) := hgrow5.cell (cell_alloc _ BBd) (fun e => nBB e.symm); have pf5 := (HOA.out.out.kept hgrow5 hPGu).frozenAt cn; have pc5 := World.grownBy.cell hgrow5 (cell_alloc (.cells #[.int .i64 x0, .int .i64 hiv] 50) hceld) nPG)
          all_goals
            have HO5 := Lib.hid (HSet.out w5 g5 cap5 hown5 hgrow5 hat5)
            have b5 : Below w.heap.size w (w5.setCell ⟨PG, cn, none⟩ (.slice (some ⟨g5, 0, none⟩) (yn + 1) cap5)) := ((((Below.drew hb2).alloc (by exact (show w.heap.size ≤ wc.heap.size by omega)) _).grown hgrow5 (by simp; omega) (fun q hq => (hin2.lt q hq).1)).setCell (p := ⟨PG, cn, none⟩) hPG0 _)
            have HF5 := Lib.hid (HFin.out ⟨some ⟨g5, 0, none⟩, yn + 1, cap5, ys ++ [(x0, hiv)]⟩ rfl)
            have HB5 : Hid (∀ h ∈ H.set cn ⟨some ⟨g5, 0, none⟩, yn + 1, cap5, ys ++ [(x0, hiv)]⟩, h.n ≤ k + 1) := Lib.hid (set_bound HBd.out (by show yn + 1 ≤ k + 1; omega))
            clear hown5 hgrow5 hat5 pf5 pc5 bb5 HOA HSet HFin hin2 hinn
            go_wp2_with fail
            go_roundw
            case rel => exact ⟨k + 1, z, some ⟨PG, 0, none⟩, c2, _, by omega, by go_num, rfl, by omega, HF5, HO5, HB5, b5⟩
            case measure => simp [intOf]; omega
      · have hhi : hiB bs k = 1114111 := by unfold hiB; rw [dif_neg (by rw [HL.out]; exact hk1)]
        rw [hhi] at HSt
        clear hhi
        have BB1 : ((wr.alloc (.cells #[.int .i64 x0, .int .i64 cn] 40)).alloc (.cells #[.int .i64 x0, .int .i64 1114111] 50)).cell? ⟨wr.heap.size, 1, none⟩ = some (.int .i64 cn) := by simp
        have RB0 : ((wr.alloc (.cells #[.int .i64 x0, .int .i64 cn] 40)).alloc (.cells #[.int .i64 x0, .int .i64 1114111] 50)).cell? ⟨wr.heap.size + 1, 0, none⟩ = some (.int .i64 x0) := by simp
        have RB1 : ((wr.alloc (.cells #[.int .i64 x0, .int .i64 cn] 40)).alloc (.cells #[.int .i64 x0, .int .i64 1114111] 50)).cell? ⟨wr.heap.size + 1, 1, none⟩ = some (.int .i64 1114111) := by simp
        have bW : Below wr.heap.size wr ((wr.alloc (.cells #[.int .i64 x0, .int .i64 cn] 40)).alloc (.cells #[.int .i64 x0, .int .i64 1114111] 50)) := (((Below.refl _ _).alloc (Nat.le_refl _) _).alloc (by simp) _)
        have hsW : wr.heap.size + 2 ≤ ((wr.alloc (.cells #[.int .i64 x0, .int .i64 cn] 40)).alloc (.cells #[.int .i64 x0, .int .i64 1114111] 50)).heap.size := by simp
        by_cases hcz : cn = z
        · subst hcz
          have hlz : cn < cn + 1 := by omega
          have hlzI : (cn : Int) < (cn : Int) + 1 := by omega
          have HCN : cn < (H ++ [nilH]).length := by rw [List.length_append]; simp; omega
          have hop : gopen (setsOf H) cn = setsOf (H ++ [nilH]) := by unfold gopen; rw [if_pos (by rw [setsOf_len]; omega)]; simp [setsOf, nilH]
          have HO1 := Lib.hid (HO.out.on bW)
          have hb1 := hb.trans (bW.mono hsz)
          have hltO : ∀ q, (Value.slice (H ++ [nilH])[cn].a (H ++ [nilH])[cn].n (H ++ [nilH])[cn].c).ownBlock = some q → q < wr.heap.size := fun q hq => by
            rw [List.getElem_append_right (by omega)] at hq
            simp [Value.ownBlock, nilH] at hq
          have hPlt : ∀ q, (Value.slice A2 cn c2).ownBlock = some q → q < wr.heap.size := fun q hq => (HO.out.out.lt q hq).2
          have BD : Hid (∀ h ∈ H ++ [nilH], h.n ≤ k) := Lib.hid (fun h hh => by
            rcases List.mem_append.1 hh with hh | hh
            · exact HBd.out h hh
            · rw [List.mem_singleton] at hh; subst hh; exact Nat.zero_le _)
          clear HO
          have hown1 := HO1.out.out
          go_wp2_with (at_builtin; refine wpList_append_lies _ rfl _ _ 22 rfl w.heap.size 48 j0 _ 1 24 Try.underlying22 hj0 hy0 hy1 hy2 rfl (by decide) _ _ _ rfl (hown1.alloc _) ⟨wr.heap.size + 1 + 1, 0, none⟩ 1 1 [.slice none 0 0] rfl rfl ?k1 ?k2 (by omega) ?k3 ?k4 ?k5 _ rfl ?_)
          case k1 => exact new_lit1 (by simp)
          case k2 => intro u hu; simp at hu; subst hu; rfl
          case k3 => unfold maxLen; omega
          case k4 => omega
          case k5 => simp; omega
          intro g3 cap3 w3 hown3 hgrow3 hat3 hlt3
          have HO2 : Hid (Own2 w3 w.heap.size (some ⟨g3, 0, none⟩) (cn + 1) cap3 (H ++ [nilH])) := Lib.hid ((HO1.out.alloc (.cells #[.slice none 0 0] 48)).snoc hown3 hgrow3)
          have hb2 : Below w.heap.size w w3 := (hb1.alloc (by omega) _).grown hgrow3 (by simp; omega) (fun q hq => (hown1.lt q hq).1)
          have hz3 : wr.heap.size + 2 ≤ w3.heap.size := by have := hgrow3.size; simp at this; omega
          have BB1 := hgrow3.cell (cell_alloc (.cells #[.slice none 0 0] 48) BB1) (fun e => by have := hPlt _ e.symm; simp at this)
          have RB0 := hgrow3.cell (cell_alloc (.cells #[.slice none 0 0] 48) RB0) (fun e => by have := hPlt _ e.symm; simp at this; omega)
          have RB1 := hgrow3.cell (cell_alloc (.cells #[.slice none 0 0] 48) RB1) (fun e => by have := hPlt _ e.symm; simp at this; omega)
          clear hown3 hgrow3 hat3 hown1 HO1 hb1
          generalize hwc' : w3 = wc at *
          clear hwc'
          go_wp2_with fail
          obtain ⟨PG, ePG, hPG0, hPG1⟩ := own2_form HO2.out (by omega)
          injection ePG with ePG
          injection ePG with ePG
          have ePG' := ePG.symm
          subst ePG'
          have hcell : wc.cell? ⟨PG, cn, none⟩ = some (.slice (H ++ [nilH])[cn].a (H ++ [nilH])[cn].n (H ++ [nilH])[cn].c) := own_cell HO2.out HCN
          have hinn := HO2.out.inn _ (List.getElem_mem HCN)
          have hbd1 := BD.out _ (List.getElem_mem HCN)
          have hPGu := own_unlike HO2.out.out hinn.2
          have hfz := HO2.out.out.frozenAt cn
          have HSet : Hid (∀ (w5 : World) (g cap : Nat), w5.ownsRow w.heap.size 50 2 (.slice (some ⟨g, 0, none⟩) ((H ++ [nilH])[cn].n + 1) cap) ((H ++ [nilH])[cn].n + 1) (rcells (H ++ [nilH])[cn].s ++ rcell (x0, 1114111)) → (wc.drew.alloc (.cells #[.int .i64 x0, .int .i64 1114111] 50)).grownBy w5 (H ++ [nilH])[cn].v.ownBlock → ((H ++ [nilH])[cn].v.ownBlock = some g ∨ g = (wc.drew.alloc (.cells #[.int .i64 x0, .int .i64 1114111] 50)).heap.size) →
              Own2 (w5.setCell ⟨PG, cn, none⟩ (.slice (some ⟨g, 0, none⟩) ((H ++ [nilH])[cn].n + 1) cap)) w.heap.size (some ⟨PG, 0, none⟩) (cn + 1) cap3 ((H ++ [nilH]).set cn ⟨some ⟨g, 0, none⟩, (H ++ [nilH])[cn].n + 1, cap, (H ++ [nilH])[cn].s ++ [(x0, 1114111)]⟩)) := Lib.hid (fun w5 g cap h1 h2 h3 => HO2.out.drew.set HCN h1 h2 h3)
          have HFin : Hid (∀ h : Hd, h.s = (H ++ [nilH])[cn].s ++ [(x0, 1114111)] → setsOf ((H ++ [nilH]).set cn h) = gath bs (k + 1)) := Lib.hid (fun h hs => by
            rw [HSt.out, setsOf_set, hs, ← setsOf_get (H ++ [nilH]) cn HCN, ← HE.out]
            unfold gput
            rw [hop])
          generalize (H ++ [nilH])[cn] = y at *
          obtain ⟨ya, yn, yc, ys⟩ := y
          simp only [Hd.v] at hcell hinn hbd1 hPGu HSet HFin hltO
          have hin2 : wc.drew.ownsRow w.heap.size 50 2 (.slice ya yn yc) yn (rcells ys) := hinn.2
          have BBd : wc.drew.cell? ⟨wr.heap.size, 1, none⟩ = some (.int .i64 cn) := BB1
          have hceld : wc.drew.cell? ⟨PG, cn, none⟩ = some (.slice ya yn yc) := hcell
          have nBB : (Value.slice ya yn yc).ownBlock ≠ some wr.heap.size := fun e => by have := hltO _ e; omega
          have BBa := cell_alloc (.cells #[.int .i64 x0, .int .i64 1114111] 50) BB1
          have hcela := cell_alloc (.cells #[.int .i64 x0, .int .i64 1114111] 50) hcell
          have nPG : some PG ≠ (Value.slice ya yn yc).ownBlock := by
            intro e
            rcases hPGu with h | h
            · simp [Value.ownBlock] at h
            · exact h e
          have HOA := Lib.hid (HO2.out.drew.alloc (.cells #[.int .i64 x0, .int .i64 1114111] 50))
          go_region_law (refine step_append_lies _ rfl (.tmp 48) (.tmp 50) 48 rfl w.heap.size 50 i0 _ 2 16 Try.underlying48 hi0 hz0 hz1 hz2 rfl (by decide) (.slice ya yn yc) yn (rcells ys) (by first | rfl | simp [Act.eval, Act.put]) (by exact (hin2.alloc (.cells #[.int .i64 x0, .int .i64 1114111] 50))) ⟨wc.drew.heap.size, 0, none⟩ 1 1 [.int .i64 x0, .int .i64 1114111] (by first | rfl | simp [Act.eval, Act.put]) rfl (by exact (new_lit2 wc.drew (.int .i64 x0) (.int .i64 1114111) 50)) (by intro u hu; simp at hu; rcases hu with rfl | rfl <;> rfl) (by omega) (by unfold maxLen; omega) (by omega) (by simp; omega) _ rfl ?_; intro g5 cap5 w5 hown5 hgrow5 hat5 hlt5; have bb5 : w5.cell? ⟨wr.heap.size, 1, none⟩ = some (.int .i64 cn) := hgrow5.cell (cell_alloc _ BBd) (fun e => nBB e.symm); have pf5 := (HOA.out.out.kept hgrow5 hPGu).frozenAt cn; have pc5 := World.grownBy.cell hgrow5 (cell_alloc (.cells #[.int .i64 x0, .int .i64 1114111] 50) hceld) nPG)
          all_goals
            have HO5 := Lib.hid (HSet.out w5 g5 cap5 hown5 hgrow5 hat5)
            have b5 : Below w.heap.size w (w5.setCell ⟨PG, cn, none⟩ (.slice (some ⟨g5, 0, none⟩) (yn + 1) cap5)) := ((((Below.drew hb2).alloc (by exact (show w.heap.size ≤ wc.heap.size by omega)) _).grown hgrow5 (by simp; omega) (fun q hq => (hin2.lt q hq).1)).setCell (p := ⟨PG, cn, none⟩) hPG0 _)
            have HF5 := Lib.hid (HFin.out ⟨some ⟨g5, 0, none⟩, yn + 1, cap5, ys ++ [(x0, 1114111)]⟩ rfl)
            have HB5 : Hid (∀ h ∈ (H ++ [nilH]).set cn ⟨some ⟨g5, 0, none⟩, yn + 1, cap5, ys ++ [(x0, 1114111)]⟩, h.n ≤ k + 1) := Lib.hid (set_bound BD.out (by show yn + 1 ≤ k + 1; omega))
            clear hown5 hgrow5 hat5 pf5 pc5 bb5 HOA HSet HFin hin2 hinn
            go_wp2_with fail
            go_roundw
            case rel => exact ⟨k + 1, (cn + 1), some ⟨PG, 0, none⟩, cap3, _, by omega, by go_num, rfl, by omega, HF5, HO5, HB5, b5⟩
            case measure => simp [intOf]; omega
        · have hcz' : ((cn : Int) == (z : Int)) = false := by rw [beq_eq_false_iff_ne]; omega
          have HCN : cn < H.length := by omega
          have hlz : cn < z := by omega
          have hop : gopen (setsOf H) cn = setsOf H := by unfold gopen; rw [if_neg (by rw [setsOf_len]; omega)]
          have HO2 := Lib.hid (HO.out.on bW)
          have hb2 := hb.trans (bW.mono hsz)
          have hltO : ∀ q, (Value.slice H[cn].a H[cn].n H[cn].c).ownBlock = some q → q < wr.heap.size := fun q hq => ((HO.out.inn _ (List.getElem_mem HCN)).2.lt q hq).2
          clear HO
          go_wp2_with fail
          generalize hWc : ((wr.alloc (.cells #[.int .i64 x0, .int .i64 cn] 40)).alloc (.cells #[.int .i64 x0, .int .i64 1114111] 50)) = wc at *
          clear hWc
          obtain ⟨PG, ePG, hPG0, hPG1⟩ := own2_form HO2.out (by omega)
          subst ePG
          have hcell : wc.cell? ⟨PG, cn, none⟩ = some (.slice H[cn].a H[cn].n H[cn].c) := own_cell HO2.out HCN
          have hinn := HO2.out.inn _ (List.getElem_mem HCN)
          have hbd1 := HBd.out _ (List.getElem_mem HCN)
          have hPGu := own_unlike HO2.out.out hinn.2
          have hfz := HO2.out.out.frozenAt cn
          have HSet : Hid (∀ (w5 : World) (g cap : Nat), w5.ownsRow w.heap.size 50 2 (.slice (some ⟨g, 0, none⟩) (H[cn].n + 1) cap) (H[cn].n + 1) (rcells H[cn].s ++ rcell (x0, 1114111)) → (wc.drew.alloc (.cells #[.int .i64 x0, .int .i64 1114111] 50)).grownBy w5 H[cn].v.ownBlock → (H[cn].v.ownBlock = some g ∨ g = (wc.drew.alloc (.cells #[.int .i64 x0, .int .i64 1114111] 50)).heap.size) →
              Own2 (w5.setCell ⟨PG, cn, none⟩ (.slice (some ⟨g, 0, none⟩) (H[cn].n + 1) cap)) w.heap.size (some ⟨PG, 0, none⟩) z c2 (H.set cn ⟨some ⟨g, 0, none⟩, H[cn].n + 1, cap, H[cn].s ++ [(x0, 1114111)]⟩)) := Lib.hid (fun w5 g cap h1 h2 h3 => HO2.out.drew.set HCN h1 h2 h3)
          have HFin : Hid (∀ h : Hd, h.s = H[cn].s ++ [(x0, 1114111)] → setsOf (H.set cn h) = gath bs (k + 1)) := Lib.hid (fun h hs => by
            rw [HSt.out, setsOf_set, hs, ← setsOf_get H cn HCN, ← HE.out]
            unfold gput
            rw [hop])
          generalize H[cn] = y at *
          obtain ⟨ya, yn, yc, ys⟩ := y
          simp only [Hd.v] at hcell hinn hbd1 hPGu HSet HFin hltO
          have hin2 : wc.drew.ownsRow w.heap.size 50 2 (.slice ya yn yc) yn (rcells ys) := hinn.2
          have BBd : wc.drew.cell? ⟨wr.heap.size, 1, none⟩ = some (.int .i64 cn) := BB1
          have hceld : wc.drew.cell? ⟨PG, cn, none⟩ = some (.slice ya yn yc) := hcell
          have nBB : (Value.slice ya yn yc).ownBlock ≠ some wr.heap.size := fun e => by have := hltO _ e; omega
          have BBa := cell_alloc (.cells #[.int .i64 x0, .int .i64 1114111] 50) BB1
          have hcela := cell_alloc (.cells #[.int .i64 x0, .int .i64 1114111] 50) hcell
          have nPG : some PG ≠ (Value.slice ya yn yc).ownBlock := by
            intro e
            rcases hPGu with h | h
            · simp [Value.ownBlock] at h
            · exact h e
          have HOA := Lib.hid (HO2.out.drew.alloc (.cells #[.int .i64 x0, .int .i64 1114111] 50))
          go_region_law (refine step_append_lies _ rfl (.tmp 48) (.tmp 50) 48 rfl w.heap.size 50 i0 _ 2 16 Try.underlying48 hi0 hz0 hz1 hz2 rfl (by decide) (.slice ya yn yc) yn (rcells ys) (by first | rfl | simp [Act.eval, Act.put]) (by exact (hin2.alloc (.cells #[.int .i64 x0, .int .i64 1114111] 50))) ⟨wc.drew.heap.size, 0, none⟩ 1 1 [.int .i64 x0, .int .i64 1114111] (by first | rfl | simp [Act.eval, Act.put]) rfl (by exact (new_lit2 wc.drew (.int .i64 x0) (.int .i64 1114111) 50)) (by intro u hu; simp at hu; rcases hu with rfl | rfl <;> rfl) (by omega) (by unfold maxLen; omega) (by omega) (by simp; omega) _ rfl ?_; intro g5 cap5 w5 hown5 hgrow5 hat5 hlt5; have bb5 : w5.cell? ⟨wr.heap.size, 1, none⟩ = some (.int .i64 cn) := hgrow5.cell (cell_alloc _ BBd) (fun e => nBB e.symm); have pf5 := (HOA.out.out.kept hgrow5 hPGu).frozenAt cn; have pc5 := World.grownBy.cell hgrow5 (cell_alloc (.cells #[.int .i64 x0, .int .i64 1114111] 50) hceld) nPG)
          all_goals
            have HO5 := Lib.hid (HSet.out w5 g5 cap5 hown5 hgrow5 hat5)
            have b5 : Below w.heap.size w (w5.setCell ⟨PG, cn, none⟩ (.slice (some ⟨g5, 0, none⟩) (yn + 1) cap5)) := ((((Below.drew hb2).alloc (by exact (show w.heap.size ≤ wc.heap.size by omega)) _).grown hgrow5 (by simp; omega) (fun q hq => (hin2.lt q hq).1)).setCell (p := ⟨PG, cn, none⟩) hPG0 _)
            have HF5 := Lib.hid (HFin.out ⟨some ⟨g5, 0, none⟩, yn + 1, cap5, ys ++ [(x0, 1114111)]⟩ rfl)
            have HB5 : Hid (∀ h ∈ H.set cn ⟨some ⟨g5, 0, none⟩, yn + 1, cap5, ys ++ [(x0, 1114111)]⟩, h.n ≤ k + 1) := Lib.hid (set_bound HBd.out (by show yn + 1 ≤ k + 1; omega))
            clear hown5 hgrow5 hat5 pf5 pc5 bb5 HOA HSet HFin hin2 hinn
            go_wp2_with fail
            go_roundw
            case rel => exact ⟨k + 1, z, some ⟨PG, 0, none⟩, c2, _, by omega, by go_num, rfl, by omega, HF5, HO5, HB5, b5⟩
            case measure => simp [intOf]; omega
    · have e : k = n := by omega
      subst e
      go_wp2_with fail
      go_ret
      exact ⟨A2, c2, z, H, rfl, HE.out, HO.out.nest.1, HO.out.nest.2, hb⟩
end Go.Proofs.Ythaageiflimnnaa
