/- What the document's At returns. -/
import Derived.Test.YtmhfgncffkfelaaDoorSkK
import Derived.Test.YtmhfgncffkfelaaDoorSkN
import Derived.Test.YtmhfgncffkfelaaDoorKRef
namespace Go.Proofs.YtmhfgncffkfelaaDoor
open Go.RowKit Go.BigFrame
open U (Tr tcells tcell tris Tab)
set_option linter.unusedVariables false
set_option maxRecDepth 4000
set_option linter.unusedSimpArgs false

/-- A box of what is told. -/
structure Gb (w : World) (g : Nat) (x : Bool) (y z e : Int) : Prop where
  lt : g < w.heap.size
  c0 : w.cell? ⟨g, 0, none⟩ = some (.bool x)
  c1 : w.cell? ⟨g, 1, none⟩ = some (.int .i64 y)
  c2 : w.cell? ⟨g, 2, none⟩ = some (.int .i64 z)
  c3 : w.cell? ⟨g, 3, none⟩ = some (.int .i64 e)
  f0 : w.frozen? ⟨g, 0, none⟩ = false
  f1 : w.frozen? ⟨g, 1, none⟩ = false
  f2 : w.frozen? ⟨g, 2, none⟩ = false
  f3 : w.frozen? ⟨g, 3, none⟩ = false
theorem Gb.on {w w' : World} {g : Nat} {x : Bool} {y z e : Int} (h : Gb w g x y z e) (b : Below w.heap.size w w') : Gb w' g x y z e :=
  ⟨Nat.lt_of_lt_of_le h.lt b.size, kept_cell b h.c0, kept_cell b h.c1, kept_cell b h.c2, kept_cell b h.c3, kept_frozen b h.lt h.f0, kept_frozen b h.lt h.f1, kept_frozen b h.lt h.f2, kept_frozen b h.lt h.f3⟩
theorem gb_new (w : World) (x : Bool) (y z e : Int) : Gb (w.alloc (.cells #[.bool x, .int .i64 y, .int .i64 z, .int .i64 e] 59)) w.heap.size x y z e :=
  ⟨by simp, by simp, by simp, by simp, by simp, World.frozen?_alloc_new _ _ _ _, World.frozen?_alloc_new _ _ _ _, World.frozen?_alloc_new _ _ _ _, World.frozen?_alloc_new _ _ _ _⟩
theorem Gb.set0 {w : World} {g : Nat} {x : Bool} {y z e : Int} (h : Gb w g x y z e) (v : Bool) : Gb (w.setCell ⟨g, 0, none⟩ (.bool v)) g v y z e := by
  obtain ⟨h0, c0, c1, c2, c3, f0, f1, f2, f3⟩ := h
  refine ⟨by simpa using h0, by simp [go_sem, c0, c1, c2, c3], by simp [go_sem, c0, c1, c2, c3], by simp [go_sem, c0, c1, c2, c3], by simp [go_sem, c0, c1, c2, c3], ?_, ?_, ?_, ?_⟩
  all_goals (rw [World.frozen?_setCell]; assumption)
theorem Gb.set1 {w : World} {g : Nat} {x : Bool} {y z e : Int} (h : Gb w g x y z e) (v : Int) : Gb (w.setCell ⟨g, 1, none⟩ (.int .i64 v)) g x v z e := by
  obtain ⟨h0, c0, c1, c2, c3, f0, f1, f2, f3⟩ := h
  refine ⟨by simpa using h0, by simp [go_sem, c0, c1, c2, c3], by simp [go_sem, c0, c1, c2, c3], by simp [go_sem, c0, c1, c2, c3], by simp [go_sem, c0, c1, c2, c3], ?_, ?_, ?_, ?_⟩
  all_goals (rw [World.frozen?_setCell]; assumption)
theorem Gb.set2 {w : World} {g : Nat} {x : Bool} {y z e : Int} (h : Gb w g x y z e) (v : Int) : Gb (w.setCell ⟨g, 2, none⟩ (.int .i64 v)) g x y v e := by
  obtain ⟨h0, c0, c1, c2, c3, f0, f1, f2, f3⟩ := h
  refine ⟨by simpa using h0, by simp [go_sem, c0, c1, c2, c3], by simp [go_sem, c0, c1, c2, c3], by simp [go_sem, c0, c1, c2, c3], by simp [go_sem, c0, c1, c2, c3], ?_, ?_, ?_, ?_⟩
  all_goals (rw [World.frozen?_setCell]; assumption)
set_option maxHeartbeats 8000000 in
theorem refAt_any (T : TV) (s : ByteArray) (a : Int) (w : World) (hT : T.ok w) (hs : s.size ≤ 90000) (ha : -9223372036854775808 ≤ a ∧ a ≤ 9223372036854775807) :
    Calls Tryd.prog 35 #[T.v, .string s, .int .i64 a] w fun e w' => e = .returned (.agg #[.bool (isA T.tb s.data.toList a), .int .i64 (nextA T.tb s.data.toList a), .int .i64 (prevA T.tb s.data.toList a), .int .i64 (seekE T.tb s.size a)]) ∧ Below w.heap.size w w' := by
  have HOf := Lib.hid (fun V (g : Below w.heap.size w V) => refOf9_any T s V (hT.on g) hs)
  have b1 := below_new w (.cells #[.int .i64 T.cl, .slice T.a1 T.n1 T.c1, .slice T.a2 T.n2 T.c2, .slice T.a3 T.n3 T.c3] 26)
  have b0 := b1.trans ((below_new _ (.cells #[.bool false, .int .i64 0, .int .i64 0, .int .i64 0] 59)).mono b1.size)
  have HX := Lib.hid ((box_new w T).on (below_new _ (.cells #[.bool false, .int .i64 0, .int .i64 0, .int .i64 0] 59)))
  have HG0 := gb_new (w.alloc (.cells #[.int .i64 T.cl, .slice T.a1 T.n1 T.c1, .slice T.a2 T.n2 T.c2, .slice T.a3 T.n3 T.c3] 26)) false 0 0 0
  rw [World.size_alloc] at HG0
  have HG := Lib.hid HG0
  clear HG0
  obtain ⟨L, hL⟩ : ∃ L, s.data.toList = L := ⟨_, rfl⟩
  have hLl : L.length = s.size := by rw [← hL]; exact Array.length_toList
  rw [hL] at HOf ⊢
  have HZb : (brN T.tb L).length ≤ 90001 := by have := brN_len T.tb L; have := nP_le L; omega
  have HLe : Hid (∀ y ∈ natI (ofA T.tb L), y ≤ (s.size : Int)) := Lib.hid (by rw [← hLl]; exact brk_le T.tb L)
  have HNl : Hid ((natI (ofA T.tb L)).length = (brN T.tb L).length) := Lib.hid (by rw [natI_len, ofA_len])
  obtain ⟨ev, hev⟩ : ∃ ev, seekE T.tb s.size a = ev := ⟨_, rfl⟩
  obtain ⟨r1, hy1⟩ : ∃ r, isA T.tb L a = r := ⟨_, rfl⟩
  obtain ⟨r2, hy2⟩ : ∃ r, nextA T.tb L a = r := ⟨_, rfl⟩
  obtain ⟨r3, hy3⟩ : ∃ r, prevA T.tb L a = r := ⟨_, rfl⟩
  rw [hev, hy1, hy2, hy3]
  clear hT hL b1
  simp only [TV.v] at *
  obtain ⟨_, p0, p1, p2, p3⟩ := HX.out
  go_enter Tryd.func35, Tryd.ntmps35
  go_wp2_with fail
  generalize (w.alloc (.cells #[.int .i64 T.cl, .slice T.a1 T.n1 T.c1, .slice T.a2 T.n2 T.c2, .slice T.a3 T.n3 T.c3] 26)).alloc (.cells #[.bool false, .int .i64 0, .int .i64 0, .int .i64 0] 59) = w1 at *
  have hw1 : w.heap.size ≤ w1.heap.size := b0.size
  refine (HOf.out _ b0).mono ?_
  rintro e w3 ⟨A1, c1, rfl, hown, g3⟩
  have bf := below_call b0 hw1 g3
  have hw3 := bf.size
  have HG3 := Lib.hid (HG.out.on g3)
  have HB3 := Lib.hid bf
  obtain ⟨lt3, u0, u1, u2, u3, q0, q1, q2, q3⟩ := HG3.out
  clear p0 p1 p2 p3 HX g3 HG b0 bf HOf
  have hst : ∀ (x0 x1 x2 x3 : Value) (v : World), Below w.heap.size w v → Below w.heap.size w ((((v.setCell ⟨w.heap.size + 1, 0, none⟩ x0).setCell ⟨w.heap.size + 1, 1, none⟩ x1).setCell ⟨w.heap.size + 1, 2, none⟩ x2).setCell ⟨w.heap.size + 1, 3, none⟩ x3) := fun x0 x1 x2 x3 v h => below4 h (by omega)
  have HSt := Lib.hid hst
  clear hst
  by_cases he : errV T.tb = 0
  case neg =>
    obtain rfl : ev = 1 := by rw [← hev]; unfold seekE; rw [if_neg he]
    have hE0 : seekE T.tb L.length a ≠ 0 := by rw [hLl, hev]; decide
    have hE2 : ofS T.tb L = none := by unfold ofS; rw [if_neg he]
    obtain rfl : r1 = false := by rw [← hy1]; unfold isA; rw [if_neg hE0]
    obtain rfl : r2 = 0 := by rw [← hy2]; unfold nextA; rw [if_neg hE0]
    obtain rfl : r3 = 0 := by rw [← hy3]; unfold prevA; rw [if_neg hE0]
    simp only [hE2, Option.isSome_none, Option.getD_none, List.length_nil] at hown ⊢
    clear he hev hE0 hE2 hown hy1 hy2 hy3
    go_wp2_with fail
    refine bodyPost_ret (v := .agg #[.bool false, .int .i64 0, .int .i64 0, .int .i64 1]) (by simp [results, Tryd.results35, go_sem, u0, u1, u2, u3]) rfl ⟨rfl, HSt.out _ _ _ _ _ HB3.out⟩
  case pos =>
    have hE2 : ofS T.tb L = some (natI (ofA T.tb L)) := by unfold ofS; rw [if_pos he]
    simp only [hE2, Option.isSome_some, Option.getD_some, natI_len, ofA_len] at hown ⊢
    have HRI := Lib.hid (own_RI hown)
    clear hE2 hown
    by_cases hE : ev = 0
    case neg =>
      have hb : a < 0 ∨ (s.size : Int) < a := by
        rcases Int.lt_or_le a 0 with h | h
        · exact .inl h
        · rcases Int.lt_or_le (s.size : Int) a with h' | h'
          · exact .inr h'
          · exact absurd (hev ▸ seekE_of he h h') hE
      obtain rfl : ev = 2 := by rw [← hev]; unfold seekE; rw [if_pos he, if_pos hb]
      have hE0 : seekE T.tb L.length a ≠ 0 := by rw [hLl, hev]; decide
      obtain rfl : r1 = false := by rw [← hy1]; unfold isA; rw [if_neg hE0]
      obtain rfl : r2 = 0 := by rw [← hy2]; unfold nextA; rw [if_neg hE0]
      obtain rfl : r3 = 0 := by rw [← hy3]; unfold prevA; rw [if_neg hE0]
      clear he hE hE0 hev hy1 hy2 hy3
      by_cases hneg : a < 0
      · have h1d : decide (a < 0) = true := by simpa using hneg
        go_wp2_with fail
        refine bodyPost_ret (v := .agg #[.bool false, .int .i64 0, .int .i64 0, .int .i64 2]) (by simp [results, Tryd.results35, go_sem, u0, u1, u2, u3]) rfl ⟨rfl, HSt.out _ _ _ _ _ HB3.out⟩
      · have h1d : decide (a < 0) = false := by simpa using hneg
        have h2 : (s.size : Int) < a := by omega
        have h2d : decide ((s.size : Int) < a) = true := by simpa using h2
        go_wp2_with fail
        refine bodyPost_ret (v := .agg #[.bool false, .int .i64 0, .int .i64 0, .int .i64 2]) (by simp [results, Tryd.results35, go_sem, u0, u1, u2, u3]) rfl ⟨rfl, HSt.out _ _ _ _ _ HB3.out⟩
    case pos =>
    subst hE
    obtain ⟨_, ha0, ha1⟩ := seekE_ok hev
    have hE2 : seekE T.tb L.length a = 0 := by rw [hLl]; exact hev
    have HR1 : Hid ((natI (ofA T.tb L)).contains a = r1) := Lib.hid (by rw [← hy1]; exact (isA_is hE2).symm)
    have HR2 : Hid (nextI (natI (ofA T.tb L)) s.size a = r2) := Lib.hid (by rw [← hy2]; unfold nextA; rw [if_pos hE2, hLl])
    have HR3 : Hid (prevI (natI (ofA T.tb L)) a = r3) := Lib.hid (by rw [← hy3]; unfold prevA; rw [if_pos hE2])
    clear he hev hE2 hy1 hy2 hy3
    obtain ⟨l, hl⟩ : ∃ l, natI (ofA T.tb L) = l := ⟨_, rfl⟩
    obtain ⟨Z, hZ⟩ : ∃ Z, (brN T.tb L).length = Z := ⟨_, rfl⟩
    rw [hl] at HRI HLe HNl HR1 HR2 HR3
    rw [hZ] at HRI HNl HZb ⊢
    clear hl hZ
    have h1d : decide (a < 0) = false := by simpa using ha0
    have h1c : ¬ a < 0 := by omega
    have h2c : ¬ (s.size : Int) < a := by omega
    have HN0 := Lib.hid (gb_new w3 false ((s.size : Int) + 1) (-1) 0)
    go_wp2_with fail
    go_loopw [10] (fun vi wx => ∃ (j : Nat), vi = .int .i64 j ∧ j ≤ Z ∧ Hid (Gb wx w3.heap.size ((l.take j).contains a) (nextI (l.take j) s.size a) (prevI (l.take j) a) 0) ∧ Hid (Below w3.heap.size w3 wx)) (fun vi _ => Z - (intOf vi).toNat)
    case atStart => exact ⟨0, rfl, Nat.zero_le _, Lib.hid (by simpa [nextI_nil, prevI_nil] using HN0.out), Lib.hid (below_new _ _)⟩
    case round =>
      obtain ⟨k, rfl, hk, HGk, HB⟩ := hrel
      have hws := HB.out.size
      by_cases hlt : k < Z
      · have kl : k < l.length := by rw [HNl.out]; exact hlt
        obtain ⟨b1, o1, hA, hb1, r⟩ := (HRI.out.on HB.out).at kl
        subst hA
        have HTk := Lib.hid (take_one kl)
        have HTl : ∀ y ∈ l.take k, y ≤ (s.size : Int) := fun y hy => HLe.out y (List.mem_of_mem_take hy)
        generalize l[k] = x at *
        have HC := Lib.hid (cont_snoc (l.take k) x a)
        have HNx := Lib.hid (nextI_snoc HTl x a)
        have HPv := Lib.hid (prevI_snoc (l.take k) x a)
        clear HTl
        generalize (l.take k).contains a = qc at *
        generalize nextI (l.take k) s.size a = y0 at *
        generalize prevI (l.take k) a = z0 at *
        obtain ⟨lt, g0, g1, g2, g3, f0, f1, f2, f3⟩ := HGk.out
        have HBc := Lib.hid (fun (i : Nat) (v : Value) => HB.out.setCell (p := ⟨w3.heap.size, i, none⟩) (Nat.le_refl _) v)
        rcases Int.lt_trichotomy x a with hx | hx | hx
        · have e1 : (x == a) = false := by simp; omega
          have e2 : decide (x < a) = true := by simpa using hx
          have HCe : Hid ((a == x) = false) := Lib.hid (by simp; omega)
          go_wp2_with fail
          go_roundw
          case rel => exact ⟨k + 1, by go_num, by omega, Lib.hid (by rw [HTk.out, HC.out, HNx.out, HPv.out, HCe.out, Bool.or_false, if_neg (by omega), if_pos hx]; exact HGk.out.set2 x), Lib.hid (HBc.out _ _)⟩
          case measure => simp [intOf]; omega
        · have e1 : (x == a) = true := by simpa using hx
          have HCe : Hid ((a == x) = true) := Lib.hid (by simp; omega)
          go_wp2_with fail
          go_roundw
          case rel => exact ⟨k + 1, by go_num, by omega, Lib.hid (by rw [HTk.out, HC.out, HNx.out, HPv.out, HCe.out, Bool.or_true, if_neg (by omega), if_neg (by omega)]; exact HGk.out.set0 true), Lib.hid (HBc.out _ _)⟩
          case measure => simp [intOf]; omega
        · have e1 : (x == a) = false := by simp; omega
          have e2 : decide (x < a) = false := by simp; omega
          have e3 : ¬ x < a := by omega
          have HCe : Hid ((a == x) = false) := Lib.hid (by simp; omega)
          by_cases hy : (s.size : Int) < y0
          · have e4 : decide ((s.size : Int) < y0) = true := by simpa using hy
            go_wp2_with fail
            go_roundw
            case rel => exact ⟨k + 1, by go_num, by omega, Lib.hid (by rw [HTk.out, HC.out, HNx.out, HPv.out, HCe.out, Bool.or_false, if_pos ⟨hx, hy⟩, if_neg e3]; exact HGk.out.set1 x), Lib.hid (HBc.out _ _)⟩
            case measure => simp [intOf]; omega
          · have e4 : decide ((s.size : Int) < y0) = false := by simpa using hy
            go_wp2_with fail
            go_roundw
            case rel => exact ⟨k + 1, by go_num, by omega, Lib.hid (by rw [HTk.out, HC.out, HNx.out, HPv.out, HCe.out, Bool.or_false, if_neg (fun h => hy h.2), if_neg e3]; exact HGk.out), HB⟩
            case measure => simp [intOf]; omega
      · obtain rfl : k = Z := by omega
        have HTe : Hid (l.take k = l) := Lib.hid (List.take_of_length_le (by rw [HNl.out]; exact Nat.le_refl _))
        rw [HTe.out] at HGk
        have HB5 := Lib.hid (below_call HB3.out hw3 HB.out)
        have hst2 := Lib.hid (fun x0 x1 x2 x3 => HSt.out x0 x1 x2 x3 _ HB5.out)
        obtain ⟨lt, g0, g1, g2, g3, f0, f1, f2, f3⟩ := HGk.out
        have HR5 := (HG3.out.on HB.out)
        obtain ⟨lt5, s0, s1, s2, s3, t0, t1, t2, t3⟩ := HR5
        have HR1' := HR1.out
        have HR2' := HR2.out
        have HR3' := HR3.out
        rw [HR1'] at g0
        rw [HR2'] at g1
        rw [HR3'] at g2
        clear HR1' HR2' HR3' HR1 HR2 HR3 HGk
        go_wp2_with fail
        refine bodyPost_ret (v := .agg #[.bool r1, .int .i64 r2, .int .i64 r3, .int .i64 0]) (by simp [results, Tryd.results35, go_sem, s0, s1, s2, s3]) rfl ⟨rfl, hst2.out _ _ _ _⟩
end Go.Proofs.YtmhfgncffkfelaaDoor
