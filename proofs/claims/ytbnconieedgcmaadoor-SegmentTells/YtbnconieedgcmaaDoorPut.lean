/- What lowest and Put return. -/
import Derived.Test.YtbnconieedgcmaaDoorCat
namespace Go.Proofs.YtbnconieedgcmaaDoor
open Go.RowKit
set_option linter.unusedVariables false
set_option maxRecDepth 4000
set_option linter.unusedSimpArgs false

def low4 (v : Int) : Value := .agg #[.int .u8 (byteN v 3 : Nat), .int .u8 (byteN v 2 : Nat), .int .u8 (byteN v 1 : Nat), .int .u8 (byteN v 0 : Nat)]
theorem low4_eq (v : Int) : Value.agg #[.int .u8 (v / 16777216 % 256), .int .u8 (v / 65536 % 256), .int .u8 (v / 256 % 256), .int .u8 (v % 256)] = low4 v := by
  unfold low4 byteN
  rw [show v / 16777216 % 256 = (((v / 256 ^ 3 % 256).toNat : Nat) : Int) by omega, show v / 65536 % 256 = (((v / 256 ^ 2 % 256).toNat : Nat) : Int) by omega, show v / 256 % 256 = (((v / 256 ^ 1 % 256).toNat : Nat) : Int) by omega, show v % 256 = (((v / 256 ^ 0 % 256).toNat : Nat) : Int) by omega]
theorem lowest_any (v : Int) (w : World) : Calls Tryd.prog 96 #[.int .i64 v] w fun e w' => e = .returned (low4 v) ∧ Below w.heap.size w w' := by
  have H := Lib.hid (low4_eq v)
  go_enter Tryd.func96, Tryd.ntmps96
  go_wp2_with fail
  exact bodyPost_ret (v := Value.agg #[.int .u8 (v / 16777216 % 256), .int .u8 (v / 65536 % 256), .int .u8 (v / 256 % 256), .int .u8 (v % 256)]) (by simp [results, Tryd.results96, go_sem]) rfl ⟨congrArg Ending.returned H.out, below_new _ _⟩
/-- The lowest bytes, as they lie in an array of four. -/
theorem rb_low (W : World) (B g : Nat) (v : Int) (k : Nat) (hk : k ≤ 4) (hB : g < B) (c0 : W.cell? ⟨g, 0, none⟩ = some (.int .u8 (byteN v 3 : Nat))) (c1 : W.cell? ⟨g, 1, none⟩ = some (.int .u8 (byteN v 2 : Nat))) (c2 : W.cell? ⟨g, 2, none⟩ = some (.int .u8 (byteN v 1 : Nat))) (c3 : W.cell? ⟨g, 3, none⟩ = some (.int .u8 (byteN v 0 : Nat))) :
    RB W B (some ⟨g, 4 - k, none⟩) k (lowB v k) := by
  refine ⟨lowB_len v k, ⟨by rw [ycells_len, lowB_len]; omega, fun hp => ⟨g, 4 - k, rfl, hB, ?_⟩⟩, lowB_lt v k⟩
  match k, hk with
  | 0, _ => omega
  | 1, _ =>
    intro j u hu
    match j, hu with
    | 0, hu => injection hu with hu; subst hu; exact c3
  | 2, _ =>
    intro j u hu
    match j, hu with
    | 0, hu => injection hu with hu; subst hu; exact c2
    | 1, hu => injection hu with hu; subst hu; exact c3
  | 3, _ =>
    intro j u hu
    match j, hu with
    | 0, hu => injection hu with hu; subst hu; exact c1
    | 1, hu => injection hu with hu; subst hu; exact c2
    | 2, hu => injection hu with hu; subst hu; exact c3
  | 4, _ =>
    intro j u hu
    match j, hu with
    | 0, hu => injection hu with hu; subst hu; exact c0
    | 1, hu => injection hu with hu; subst hu; exact c1
    | 2, hu => injection hu with hu; subst hu; exact c2
    | 3, hu => injection hu with hu; subst hu; exact c3

theorem own_base {w : World} {base base' : Nat} {e : TypeId} {size n : Nat} {v : Value} {xs : List Value} (h : w.ownsRow base e size v n xs) (hb : base' ≤ base) : w.ownsRow base' e size v n xs := by
  refine ⟨h.1, ?_⟩
  rcases h.2 with h | ⟨g, cap, cur, h1, h2, h3⟩
  · exact .inl h
  · exact .inr ⟨g, cap, cur, h1, Nat.le_trans hb h2, h3⟩

theorem put_neg (b : List Nat) (n : Nat) (A : Option Addr) (c : Nat) (v : Int) (size : Int) (hs : size < 0) (w : World) (hA : A = none → c = 0) (hR : RB w w.heap.size A n b) (hn : n ≤ 10000) :
    Calls Tryd.prog 45 #[.slice A n c, .int .i64 v, .int .i64 size] w (OutY (b ++ lowB v 0) (n + 0) w) := by
  have HR := Lib.hid hR
  have HA := Lib.hid hA
  have HLow := Lib.hid (fun W B g => rb_low W B g v 0 (by decide))
  clear hR hA
  go_enter Tryd.func45, Tryd.ntmps45
  go_wp2_with fail
  refine (lowest_any v _).mono ?_
  rintro e w1 ⟨rfl, b1⟩
  have HR1 := Lib.hid (HR.out.on b1)
  clear HR
  unfold low4
  generalize byteN v 3 = q3 at *
  generalize byteN v 2 = q2 at *
  generalize byteN v 1 = q1 at *
  generalize byteN v 0 = q0 at *
  go_wp2_with fail
  refine (concat_any b (lowB v 0) n 0 A (some ⟨w1.heap.size, 0, none⟩) c 0 _ _ _ HA.out (fun h => by cases h) ?g0 ?g1 ?g2 ?g3 (by omega) (by omega)).mono ?_
  case g0 => simp
  case g1 => simp
  case g2 => exact (HR1.out.on (below_new _ _)).on (below_new _ _)
  case g3 => exact RB.nil _ _ _
  rintro e w2 ⟨A2, c2, rfl, l2, y2, o2, b2⟩
  have b3 : Below w.heap.size w w2 := (b1.trans (((below_new _ _).trans ((below_new _ _).mono (by simp))).mono b1.size)).trans (b2.mono (by have := b1.size; simp; omega))
  have HO := Lib.hid o2
  clear o2 b2
  have HL2 := Lib.hid l2
  have HY2 := Lib.hid y2
  clear l2 y2 HLow HR1
  go_wp2_with fail
  go_ret
  exact ⟨A2, c2, rfl, HL2.out, HY2.out, own_base HO.out (by have := b1.size; simp; omega), b3⟩

theorem put_0 (b : List Nat) (n : Nat) (A : Option Addr) (c : Nat) (v : Int)  (w : World) (hA : A = none → c = 0) (hR : RB w w.heap.size A n b) (hn : n ≤ 10000) :
    Calls Tryd.prog 45 #[.slice A n c, .int .i64 v, .int .i64 0] w (OutY (b ++ lowB v 0) (n + 0) w) := by
  have HR := Lib.hid hR
  have HA := Lib.hid hA
  have HLow := Lib.hid (fun W B g => rb_low W B g v 0 (by decide))
  clear hR hA
  go_enter Tryd.func45, Tryd.ntmps45
  go_wp2_with fail
  refine (lowest_any v _).mono ?_
  rintro e w1 ⟨rfl, b1⟩
  have HR1 := Lib.hid (HR.out.on b1)
  clear HR
  unfold low4
  generalize byteN v 3 = q3 at *
  generalize byteN v 2 = q2 at *
  generalize byteN v 1 = q1 at *
  generalize byteN v 0 = q0 at *
  go_wp2_with fail
  refine (concat_any b (lowB v 0) n 0 A (some ⟨w1.heap.size, 0, none⟩) c 0 _ _ _ HA.out (fun h => by cases h) ?g0 ?g1 ?g2 ?g3 (by omega) (by omega)).mono ?_
  case g0 => simp
  case g1 => simp
  case g2 => exact (HR1.out.on (below_new _ _)).on (below_new _ _)
  case g3 => exact RB.nil _ _ _
  rintro e w2 ⟨A2, c2, rfl, l2, y2, o2, b2⟩
  have b3 : Below w.heap.size w w2 := (b1.trans (((below_new _ _).trans ((below_new _ _).mono (by simp))).mono b1.size)).trans (b2.mono (by have := b1.size; simp; omega))
  have HO := Lib.hid o2
  clear o2 b2
  have HL2 := Lib.hid l2
  have HY2 := Lib.hid y2
  clear l2 y2 HLow HR1
  go_wp2_with fail
  go_ret
  exact ⟨A2, c2, rfl, HL2.out, HY2.out, own_base HO.out (by have := b1.size; simp; omega), b3⟩

theorem put_1 (b : List Nat) (n : Nat) (A : Option Addr) (c : Nat) (v : Int)  (w : World) (hA : A = none → c = 0) (hR : RB w w.heap.size A n b) (hn : n ≤ 10000) :
    Calls Tryd.prog 45 #[.slice A n c, .int .i64 v, .int .i64 1] w (OutY (b ++ lowB v 1) (n + 1) w) := by
  have HR := Lib.hid hR
  have HA := Lib.hid hA
  have HLow := Lib.hid (fun W B g => rb_low W B g v 1 (by decide))
  clear hR hA
  go_enter Tryd.func45, Tryd.ntmps45
  go_wp2_with fail
  refine (lowest_any v _).mono ?_
  rintro e w1 ⟨rfl, b1⟩
  have HR1 := Lib.hid (HR.out.on b1)
  clear HR
  unfold low4
  generalize byteN v 3 = q3 at *
  generalize byteN v 2 = q2 at *
  generalize byteN v 1 = q1 at *
  generalize byteN v 0 = q0 at *
  go_wp2_with fail
  refine (concat_any b (lowB v 1) n 1 A (some ⟨w1.heap.size, 4 - 1, none⟩) c 1 _ _ _ HA.out (fun h => by cases h) ?g0 ?g1 ?g2 ?g3 (by omega) (by omega)).mono ?_
  case g0 => simp
  case g1 => simp
  case g2 => exact (HR1.out.on (below_new _ _)).on (below_new _ _)
  case g3 => exact HLow.out _ _ _ (by simp; omega) (by simp) (by simp) (by simp) (by simp)
  rintro e w2 ⟨A2, c2, rfl, l2, y2, o2, b2⟩
  have b3 : Below w.heap.size w w2 := (b1.trans (((below_new _ _).trans ((below_new _ _).mono (by simp))).mono b1.size)).trans (b2.mono (by have := b1.size; simp; omega))
  have HO := Lib.hid o2
  clear o2 b2
  have HL2 := Lib.hid l2
  have HY2 := Lib.hid y2
  clear l2 y2 HLow HR1
  go_wp2_with fail
  go_ret
  exact ⟨A2, c2, rfl, HL2.out, HY2.out, own_base HO.out (by have := b1.size; simp; omega), b3⟩

theorem put_2 (b : List Nat) (n : Nat) (A : Option Addr) (c : Nat) (v : Int)  (w : World) (hA : A = none → c = 0) (hR : RB w w.heap.size A n b) (hn : n ≤ 10000) :
    Calls Tryd.prog 45 #[.slice A n c, .int .i64 v, .int .i64 2] w (OutY (b ++ lowB v 2) (n + 2) w) := by
  have HR := Lib.hid hR
  have HA := Lib.hid hA
  have HLow := Lib.hid (fun W B g => rb_low W B g v 2 (by decide))
  clear hR hA
  go_enter Tryd.func45, Tryd.ntmps45
  go_wp2_with fail
  refine (lowest_any v _).mono ?_
  rintro e w1 ⟨rfl, b1⟩
  have HR1 := Lib.hid (HR.out.on b1)
  clear HR
  unfold low4
  generalize byteN v 3 = q3 at *
  generalize byteN v 2 = q2 at *
  generalize byteN v 1 = q1 at *
  generalize byteN v 0 = q0 at *
  go_wp2_with fail
  refine (concat_any b (lowB v 2) n 2 A (some ⟨w1.heap.size, 4 - 2, none⟩) c 2 _ _ _ HA.out (fun h => by cases h) ?g0 ?g1 ?g2 ?g3 (by omega) (by omega)).mono ?_
  case g0 => simp
  case g1 => simp
  case g2 => exact (HR1.out.on (below_new _ _)).on (below_new _ _)
  case g3 => exact HLow.out _ _ _ (by simp; omega) (by simp) (by simp) (by simp) (by simp)
  rintro e w2 ⟨A2, c2, rfl, l2, y2, o2, b2⟩
  have b3 : Below w.heap.size w w2 := (b1.trans (((below_new _ _).trans ((below_new _ _).mono (by simp))).mono b1.size)).trans (b2.mono (by have := b1.size; simp; omega))
  have HO := Lib.hid o2
  clear o2 b2
  have HL2 := Lib.hid l2
  have HY2 := Lib.hid y2
  clear l2 y2 HLow HR1
  go_wp2_with fail
  go_ret
  exact ⟨A2, c2, rfl, HL2.out, HY2.out, own_base HO.out (by have := b1.size; simp; omega), b3⟩

theorem put_3 (b : List Nat) (n : Nat) (A : Option Addr) (c : Nat) (v : Int)  (w : World) (hA : A = none → c = 0) (hR : RB w w.heap.size A n b) (hn : n ≤ 10000) :
    Calls Tryd.prog 45 #[.slice A n c, .int .i64 v, .int .i64 3] w (OutY (b ++ lowB v 3) (n + 3) w) := by
  have HR := Lib.hid hR
  have HA := Lib.hid hA
  have HLow := Lib.hid (fun W B g => rb_low W B g v 3 (by decide))
  clear hR hA
  go_enter Tryd.func45, Tryd.ntmps45
  go_wp2_with fail
  refine (lowest_any v _).mono ?_
  rintro e w1 ⟨rfl, b1⟩
  have HR1 := Lib.hid (HR.out.on b1)
  clear HR
  unfold low4
  generalize byteN v 3 = q3 at *
  generalize byteN v 2 = q2 at *
  generalize byteN v 1 = q1 at *
  generalize byteN v 0 = q0 at *
  go_wp2_with fail
  refine (concat_any b (lowB v 3) n 3 A (some ⟨w1.heap.size, 4 - 3, none⟩) c 3 _ _ _ HA.out (fun h => by cases h) ?g0 ?g1 ?g2 ?g3 (by omega) (by omega)).mono ?_
  case g0 => simp
  case g1 => simp
  case g2 => exact (HR1.out.on (below_new _ _)).on (below_new _ _)
  case g3 => exact HLow.out _ _ _ (by simp; omega) (by simp) (by simp) (by simp) (by simp)
  rintro e w2 ⟨A2, c2, rfl, l2, y2, o2, b2⟩
  have b3 : Below w.heap.size w w2 := (b1.trans (((below_new _ _).trans ((below_new _ _).mono (by simp))).mono b1.size)).trans (b2.mono (by have := b1.size; simp; omega))
  have HO := Lib.hid o2
  clear o2 b2
  have HL2 := Lib.hid l2
  have HY2 := Lib.hid y2
  clear l2 y2 HLow HR1
  go_wp2_with fail
  go_ret
  exact ⟨A2, c2, rfl, HL2.out, HY2.out, own_base HO.out (by have := b1.size; simp; omega), b3⟩

theorem put_4 (b : List Nat) (n : Nat) (A : Option Addr) (c : Nat) (v : Int)  (w : World) (hA : A = none → c = 0) (hR : RB w w.heap.size A n b) (hn : n ≤ 10000) :
    Calls Tryd.prog 45 #[.slice A n c, .int .i64 v, .int .i64 4] w (OutY (b ++ lowB v 4) (n + 4) w) := by
  have HR := Lib.hid hR
  have HA := Lib.hid hA
  have HLow := Lib.hid (fun W B g => rb_low W B g v 4 (by decide))
  clear hR hA
  go_enter Tryd.func45, Tryd.ntmps45
  go_wp2_with fail
  refine (lowest_any v _).mono ?_
  rintro e w1 ⟨rfl, b1⟩
  have HR1 := Lib.hid (HR.out.on b1)
  clear HR
  unfold low4
  generalize byteN v 3 = q3 at *
  generalize byteN v 2 = q2 at *
  generalize byteN v 1 = q1 at *
  generalize byteN v 0 = q0 at *
  go_wp2_with fail
  refine (concat_any b (lowB v 4) n 4 A (some ⟨w1.heap.size, 4 - 4, none⟩) c 4 _ _ _ HA.out (fun h => by cases h) ?g0 ?g1 ?g2 ?g3 (by omega) (by omega)).mono ?_
  case g0 => simp
  case g1 => simp
  case g2 => exact (HR1.out.on (below_new _ _)).on (below_new _ _)
  case g3 => exact HLow.out _ _ _ (by simp; omega) (by simp) (by simp) (by simp) (by simp)
  rintro e w2 ⟨A2, c2, rfl, l2, y2, o2, b2⟩
  have b3 : Below w.heap.size w w2 := (b1.trans (((below_new _ _).trans ((below_new _ _).mono (by simp))).mono b1.size)).trans (b2.mono (by have := b1.size; simp; omega))
  have HO := Lib.hid o2
  clear o2 b2
  have HL2 := Lib.hid l2
  have HY2 := Lib.hid y2
  clear l2 y2 HLow HR1
  go_wp2_with fail
  go_ret
  exact ⟨A2, c2, rfl, HL2.out, HY2.out, own_base HO.out (by have := b1.size; simp; omega), b3⟩

theorem put_big (b : List Nat) (n : Nat) (A : Option Addr) (c : Nat) (v : Int) (size : Int) (hs : 4 < size) (w : World) (hA : A = none → c = 0) (hR : RB w w.heap.size A n b) (hn : n ≤ 10000) :
    Calls Tryd.prog 45 #[.slice A n c, .int .i64 v, .int .i64 size] w (OutY (b ++ lowB v 4) (n + 4) w) := by
  have HR := Lib.hid hR
  have HA := Lib.hid hA
  have HLow := Lib.hid (fun W B g => rb_low W B g v 4 (by decide))
  clear hR hA
  go_enter Tryd.func45, Tryd.ntmps45
  go_wp2_with fail
  refine (lowest_any v _).mono ?_
  rintro e w1 ⟨rfl, b1⟩
  have HR1 := Lib.hid (HR.out.on b1)
  clear HR
  unfold low4
  generalize byteN v 3 = q3 at *
  generalize byteN v 2 = q2 at *
  generalize byteN v 1 = q1 at *
  generalize byteN v 0 = q0 at *
  go_wp2_with fail
  refine (concat_any b (lowB v 4) n 4 A (some ⟨w1.heap.size, 4 - 4, none⟩) c 4 _ _ _ HA.out (fun h => by cases h) ?g0 ?g1 ?g2 ?g3 (by omega) (by omega)).mono ?_
  case g0 => simp
  case g1 => simp
  case g2 => exact (HR1.out.on (below_new _ _)).on (below_new _ _)
  case g3 => exact HLow.out _ _ _ (by simp; omega) (by simp) (by simp) (by simp) (by simp)
  rintro e w2 ⟨A2, c2, rfl, l2, y2, o2, b2⟩
  have b3 : Below w.heap.size w w2 := (b1.trans (((below_new _ _).trans ((below_new _ _).mono (by simp))).mono b1.size)).trans (b2.mono (by have := b1.size; simp; omega))
  have HO := Lib.hid o2
  clear o2 b2
  have HL2 := Lib.hid l2
  have HY2 := Lib.hid y2
  clear l2 y2 HLow HR1
  go_wp2_with fail
  go_ret
  exact ⟨A2, c2, rfl, HL2.out, HY2.out, own_base HO.out (by have := b1.size; simp; omega), b3⟩

/-- A size cut to 0 .. 4. -/
def cutN (size : Int) : Nat := (min (max size 0) 4).toNat
theorem put_any (b : List Nat) (n : Nat) (A : Option Addr) (c : Nat) (v size : Int) (w : World) (hA : A = none → c = 0) (hR : RB w w.heap.size A n b) (hn : n ≤ 10000) :
    Calls Tryd.prog 45 #[.slice A n c, .int .i64 v, .int .i64 size] w (OutY (b ++ lowB v (cutN size)) (n + cutN size) w) := by
  by_cases h0 : size < 0
  · rw [show cutN size = 0 by unfold cutN; omega]; exact put_neg b n A c v size h0 w hA hR hn
  by_cases h4 : 4 < size
  · rw [show cutN size = 4 by unfold cutN; omega]; exact put_big b n A c v size h4 w hA hR hn
  have : size = 0 ∨ size = 1 ∨ size = 2 ∨ size = 3 ∨ size = 4 := by omega
  rcases this with rfl | rfl | rfl | rfl | rfl
  · exact put_0 b n A c v w hA hR hn
  · exact put_1 b n A c v w hA hR hn
  · exact put_2 b n A c v w hA hR hn
  · exact put_3 b n A c v w hA hR hn
  · exact put_4 b n A c v w hA hR hn
end Go.Proofs.YtbnconieedgcmaaDoor
