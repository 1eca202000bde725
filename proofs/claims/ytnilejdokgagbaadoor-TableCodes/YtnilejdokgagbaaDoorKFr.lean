/- Joined: ValB WakeKit FrameW WFrame. -/
import Derived.Test.YtnilejdokgagbaaDoorKT
import Derived.Test.YtnilejdokgagbaaDoorKVal
import Derived.Test.YtnilejdokgagbaaDoorKA2
import Derived.Test.YtnilejdokgagbaaDoorKOwn
import Derived.Test.YtnilejdokgagbaaDoorCards
import Derived.Test.YtnilejdokgagbaaDoorTie
import Derived.ProofKit
import Derived.OpenShut
import Derived.Deep.Slices
import Derived.Deep.DeepHandedRow
import Derived.Lib.LaidTab
import Derived.LaidMore
import Derived.ChangeOld
import Derived.Below
import Derived.SizedLaws
/- Bytes of package valid. -/
/- Decode's table lies in memory of the call's own. -/
namespace Go.Proofs.YtnilejdokgagbaaDoor
open Go.RowKit Go.BigFrame
set_option linter.unusedVariables false
set_option maxRecDepth 4000
set_option linter.unusedSimpArgs false

/-- A table in memory of the call's own. -/
structure OwnB (w : World) (base : Nat) (T : TV) : Prop where
  z1 : (T.n1 = 0 ∧ T.bd = []) ∨ w.ownsRow base 50 2 (.slice T.a1 T.n1 T.c1) T.n1 (rcells T.bd)
  z2 : (T.n2 = 0 ∧ T.hs = []) ∨ OwnI w base T.a2 T.n2 T.c2 T.hs
  z3 : (T.n3 = 0 ∧ T.br = []) ∨ w.ownsRow base 4 1 (.slice T.a3 T.n3 T.c3) T.n3 (bcells T.br)
def OutDo (l : List Nat) (w : World) (e : Ending) (w' : World) : Prop :=
  ∃ V : TV, e = .returned (.tuple #[V.v, .int .i64 (errT l : Nat)]) ∧ V.ok w' ∧ V.tb = decR l ∧ Below w.heap.size w w' ∧ OwnB w' w.heap.size V
theorem OutDc.o {l : List Nat} {w w' : World} {e : Ending} (h0 : errT l ≠ 0) (h : OutDc l w e w') : OutDo l w e w' := by
  obtain ⟨V, h1, h2, h3, h4⟩ := h
  have h5 := h3
  rw [decR_no h0] at h5
  have e1 : V.bd = [] := congrArg Tb.bd h5
  have e2 : listsOf V.hs = [] := congrArg Tb.nx h5
  have e3 : V.br = [] := congrArg Tb.br h5
  have e2' : V.hs = [] := by unfold listsOf at e2; simpa using e2
  refine ⟨V, h1, h2, h3, h4, ⟨.inl ⟨?_, e1⟩, .inl ⟨?_, e2'⟩, .inl ⟨?_, e3⟩⟩⟩
  · have := h2.r1.1; rw [e1] at this; exact this.symm
  · have := h2.r2.1; rw [e2'] at this; exact this.symm
  · have := h2.r3.1; rw [e3] at this; exact this.symm
/-- The table over a store into another block. -/
theorem OwnB.store {w W : World} {base g : Nat} {T : TV} (h : OwnB w base T) (hT : T.ok w) (hg : g < base) (ho : ∀ (base : Nat) (e : TypeId) (size : Nat) (v : Value) (n : Nat) (xs : List Value), g < base → w.ownsRow base e size v n xs → W.ownsRow base e size v n xs) : T.ok W ∧ OwnB W base T := by
  have z1 : (T.n1 = 0 ∧ T.bd = []) ∨ W.ownsRow base 50 2 (.slice T.a1 T.n1 T.c1) T.n1 (rcells T.bd) := h.z1.imp id (fun x => ho _ _ _ _ _ _ hg x)
  have z2 : (T.n2 = 0 ∧ T.hs = []) ∨ OwnI W base T.a2 T.n2 T.c2 T.hs := h.z2.imp id (fun x => x.store hg ho)
  have z3 : (T.n3 = 0 ∧ T.br = []) ∨ W.ownsRow base 4 1 (.slice T.a3 T.n3 T.c3) T.n3 (bcells T.br) := h.z3.imp id (fun x => ho _ _ _ _ _ _ hg x)
  refine ⟨⟨?_, hT.s1, ?_, hT.s2, ?_, hT.s3⟩, ⟨z1, z2, z3⟩⟩
  · rcases z1 with ⟨a, b⟩ | z
    · rw [a, b]; exact RD.nil _ _ _
    · exact own_RD z
  · rcases z2 with ⟨a, b⟩ | z
    · rw [a, b]; exact RN.nil _ _ _
    · exact z.nest.1
  · rcases z3 with ⟨a, b⟩ | z
    · rw [a, b]; exact RL.nil _ _ _
    · exact own_RL z
theorem OwnB.on {w w' : World} {base : Nat} {T : TV} (h : OwnB w base T) (g : Below w.heap.size w w') : OwnB w' base T :=
  ⟨h.z1.imp id (fun x => own_below x g), h.z2.imp id (fun x => x.on g), h.z3.imp id (fun x => own_below x g)⟩
set_option maxRecDepth 4000 in
set_option maxHeartbeats 4000000 in
theorem decodeO_ok (l : List Nat) (n : Nat) (A : Option Addr) (c : Nat) (w : World) (hR : RB w w.heap.size A n l) (hnc : n ≤ c) (hn : n ≤ 10000) (hM : Mark w) (h0 : sealE l = 0) (h1 : cntB (l[4]?.getD 0) (l[5]?.getD 0) (l[6]?.getD 0) = true) (h2 : lenT (l[4]?.getD 0) (l[5]?.getD 0) (l[6]?.getD 0) = l.length) (r : List Bool) (h3 : unbR (bitsP l) (l[5]?.getD 0 : Nat) = some r) :
    Calls Tryd.prog 10 #[.slice A n c] w (OutDo l w) := by
  obtain ⟨hE0, hDec⟩ := errT_ok h0 h1 h2 r h3
  have hrl := (bits_of_unb (b := bitsP l) (fun x hx => hR.2.2 x (List.mem_of_mem_take (List.mem_of_mem_drop hx))) h3).2
  have HSeal := Lib.hid (fun W (g : Below w.heap.size w W) => sealFault_any l n A c W (hR.on g) hnc (by omega) (hM.on g))
  rw [h0] at HSeal
  obtain ⟨hz1, _, _⟩ := seal_zero h0
  have hl := hR.1
  have hn11 : 11 ≤ n := by omega
  have HCo := Lib.hid (fun W (g : Below w.heap.size w W) => countsOf_any l n A c W (hR.on g) (by omega) (by omega))
  have hx4 : l[4]?.getD 0 < 256 := by rw [getD_at l 4 (by omega)]; exact hR.2.2 _ (List.getElem_mem _)
  have hx5 : l[5]?.getD 0 < 256 := by rw [getD_at l 5 (by omega)]; exact hR.2.2 _ (List.getElem_mem _)
  have hx6 : l[6]?.getD 0 < 256 := by rw [getD_at l 6 (by omega)]; exact hR.2.2 _ (List.getElem_mem _)
  rw [hl] at h2
  obtain ⟨⟨c1, c2⟩, ⟨s1', s2'⟩, ⟨k1, k2⟩⟩ := of_decide_eq_true h1
  obtain ⟨b0, o0, rfl, hb0, _⟩ := hR.all (by omega)
  generalize hX4 : l[4]?.getD 0 = x4 at *
  generalize hX5 : l[5]?.getD 0 = x5 at *
  generalize hX6 : l[6]?.getD 0 = x6 at *
  have HMay := Lib.hid (mayBe_any x4 x5 x6)
  have HLen := Lib.hid (length_any x4 x5 x6 (by omega) (by omega) (by omega))
  rw [h1] at HMay
  rw [h2] at HLen
  obtain ⟨m, hm, hmI, hmb⟩ := mul_wrap x5 x4 (by omega) (by omega)
  obtain ⟨na, hna⟩ : ∃ na, 7 + 4 * x6 = na := ⟨_, rfl⟩
  obtain ⟨ba, hba⟩ : ∃ ba, na + m = ba := ⟨_, rfl⟩
  obtain ⟨en, hen⟩ : ∃ en, n - 4 = en := ⟨_, rfl⟩
  have hz : ba + (x5 + 7) / 8 = en := by unfold lenT at h2; rw [← hm] at h2; omega
  have HBP : Hid (bitsP l = (l.take en).drop ba) := Lib.hid (by unfold bitsP; rw [hX4, hX5, hX6, hl, hen, hna, ← hm, hba])
  have hbn : ((n : Int) != (n : Int)) = false := by simp
  have e1 : (7 : Int) + (x6 : Int) * 4 = (na : Int) := by omega
  have e2 : (na : Int) + (m : Int) = (ba : Int) := by omega
  have e3 : IntKind.i64.wrap ((n : Int) - 4) = (en : Int) := by rw [IntKind.wrap_i64]; omega
  have e4 : (n : Int) - 4 = (en : Int) := by omega
  have e5 : IntKind.i64.wrap (en : Int) = (en : Int) := by rw [IntKind.wrap_i64]; omega
  have i1 : (0 : Int) ≤ (ba : Int) := by omega
  have i2 : (ba : Int) ≤ (en : Int) := by omega
  have i3 : (en : Int) ≤ (c : Int) := by omega
  have i4 : ¬ c = ba := by omega
  have i5 : (7 : Int) ≤ (na : Int) := by omega
  have i6 : (na : Int) ≤ (ba : Int) := by omega
  have i7 : (na : Int) ≤ (c : Int) := by omega
  have i8 : (ba : Int) ≤ (c : Int) := by omega
  have i9 : ¬ c = 7 := by omega
  have i10 : ¬ c = na := by omega
  have j1 : ba ≤ en := by omega
  have j2 : en ≤ c := by omega
  have j3 : ¬ ba = 0 := by omega
  have j4 : 7 ≤ na := by omega
  have j5 : na ≤ c := by omega
  have j6 : na ≤ ba := by omega
  have j7 : ba ≤ c := by omega
  have j8 : ¬ na = 0 := by omega
  rw [HBP.out] at h3
  have HUn := Lib.hid (fun W (g : Below w.heap.size w W) => unbits_any ((l.take en).drop ba) (en - ba) (some ⟨b0, o0 + ba, none⟩) (c - ba) x5 W ((hR.on g).sub (by omega) (by omega)) (by omega))
  rw [h3] at HUn
  have HBd := Lib.hid (fun W (g : Below w.heap.size w W) => bandsOf_any ((l.take na).drop 7) (na - 7) x6 (some ⟨b0, o0 + 7, none⟩) (c - 7) W ((hR.on g).sub (by omega) (by omega)) (by omega) (by omega) (by omega))
  have HRw := Lib.hid (fun W (g : Below w.heap.size w W) => rowsOf_any ((l.take ba).drop na) (ba - na) x4 x5 (some ⟨b0, o0 + na, none⟩) (c - na) W ((hR.on g).sub (by omega) (by omega)) (by rw [Nat.mul_comm, ← hm]; omega) c1 c2 (by omega) (by omega))
  have hL1 : (List.range x6).map (fun i => bandOf (chunk 4 ((l.take na).drop 7) i)) = (List.range x6).map fun i => bandOf (chunk 4 (l.drop 7) i) := by rw [← hna]; exact bands_part l x6
  have hL2 : (List.range x5).map (fun i => (chunk x4 ((l.take ba).drop na) i).map Int.ofNat) = (List.range x5).map fun i => (chunk x4 (l.drop na) i).map Int.ofNat := by rw [← hba, hm]; exact rows_part l na x4 x5
  have HTab : Hid (decR l = { cl := (x4 : Int), bd := (List.range x6).map (fun i => bandOf (chunk 4 (l.drop 7) i)), nx := (List.range x5).map (fun i => (chunk x4 (l.drop na) i).map Int.ofNat), br := r }) := Lib.hid (by
    rw [hDec]
    unfold tabOf
    rw [hX4, hX5, hX6, hna])
  rw [hL1] at HBd
  rw [hL2] at HRw
  have HE0 := Lib.hid hE0
  generalize (List.range x6).map (fun i => bandOf (chunk 4 (l.drop 7) i)) = L1 at *
  generalize (List.range x5).map (fun i => (chunk x4 (l.drop na) i).map Int.ofNat) = L2 at *
  have HRL := Lib.hid hrl
  clear hR hM h0 h1 h2 h3 hz1 hl HBP hX4 hX5 hX6 hm hna hba hen hz hE0 hDec hL1 hL2 hrl
  go_enter Tryd.func10, Tryd.ntmps10
  go_wp2_with fail
  have hg0 : w.heap.size < (w.alloc (.cells #[.int .i64 0, .slice none 0 0, .slice none 0 0, .slice none 0 0] 26)).heap.size := by simp
  have p0 : (w.alloc (.cells #[.int .i64 0, .slice none 0 0, .slice none 0 0, .slice none 0 0] 26)).cell? ⟨w.heap.size, 0, none⟩ = some (.int .i64 0) := by simp
  have f0 : (w.alloc (.cells #[.int .i64 0, .slice none 0 0, .slice none 0 0, .slice none 0 0] 26)).frozen? ⟨w.heap.size, 0, none⟩ = false := World.frozen?_alloc_at _ _ _ _ rfl
  have p1 : (w.alloc (.cells #[.int .i64 0, .slice none 0 0, .slice none 0 0, .slice none 0 0] 26)).cell? ⟨w.heap.size, 1, none⟩ = some (.slice none 0 0) := by simp
  have f1 : (w.alloc (.cells #[.int .i64 0, .slice none 0 0, .slice none 0 0, .slice none 0 0] 26)).frozen? ⟨w.heap.size, 1, none⟩ = false := World.frozen?_alloc_at _ _ _ _ rfl
  have p2 : (w.alloc (.cells #[.int .i64 0, .slice none 0 0, .slice none 0 0, .slice none 0 0] 26)).cell? ⟨w.heap.size, 2, none⟩ = some (.slice none 0 0) := by simp
  have f2 : (w.alloc (.cells #[.int .i64 0, .slice none 0 0, .slice none 0 0, .slice none 0 0] 26)).frozen? ⟨w.heap.size, 2, none⟩ = false := World.frozen?_alloc_at _ _ _ _ rfl
  have p3 : (w.alloc (.cells #[.int .i64 0, .slice none 0 0, .slice none 0 0, .slice none 0 0] 26)).cell? ⟨w.heap.size, 3, none⟩ = some (.slice none 0 0) := by simp
  have f3 : (w.alloc (.cells #[.int .i64 0, .slice none 0 0, .slice none 0 0, .slice none 0 0] 26)).frozen? ⟨w.heap.size, 3, none⟩ = false := World.frozen?_alloc_at _ _ _ _ rfl
  have b0 := below_new w (.cells #[.int .i64 0, .slice none 0 0, .slice none 0 0, .slice none 0 0] 26)
  generalize (w.alloc (.cells #[.int .i64 0, .slice none 0 0, .slice none 0 0, .slice none 0 0] 26)) = W at *
  refine (HSeal.out _ b0).mono ?_
  rintro e w1 ⟨rfl, g1⟩
  have p0 := kept_cell g1 p0
  have f0 := kept_frozen g1 hg0 f0
  have p1 := kept_cell g1 p1
  have f1 := kept_frozen g1 hg0 f1
  have p2 := kept_cell g1 p2
  have f2 := kept_frozen g1 hg0 f2
  have p3 := kept_cell g1 p3
  have f3 := kept_frozen g1 hg0 f3
  have b1 := b0.trans (g1.mono b0.size)
  have hg0 : w.heap.size < w1.heap.size := Nat.lt_of_lt_of_le hg0 g1.size
  clear g1 b0 HSeal
  go_wp2_with fail
  refine (HCo.out _ b1).mono ?_
  rintro e w2 ⟨rfl, g2⟩
  have p0 := kept_cell g2 p0
  have f0 := kept_frozen g2 hg0 f0
  have p1 := kept_cell g2 p1
  have f1 := kept_frozen g2 hg0 f1
  have p2 := kept_cell g2 p2
  have f2 := kept_frozen g2 hg0 f2
  have p3 := kept_cell g2 p3
  have f3 := kept_frozen g2 hg0 f3
  have b2 := b1.trans (g2.mono b1.size)
  have hg0 : w.heap.size < w2.heap.size := Nat.lt_of_lt_of_le hg0 g2.size
  clear g2 b1 HCo
  go_wp2_with fail
  have g3 := below_new w2 (.cells #[.int .i64 x4, .int .i64 x5, .int .i64 x6] 62)
  have s0 : (w2.alloc (.cells #[.int .i64 x4, .int .i64 x5, .int .i64 x6] 62)).cell? ⟨w2.heap.size, 0, none⟩ = some (.int .i64 x4) := by simp
  have s1 : (w2.alloc (.cells #[.int .i64 x4, .int .i64 x5, .int .i64 x6] 62)).cell? ⟨w2.heap.size, 1, none⟩ = some (.int .i64 x5) := by simp
  have s2 : (w2.alloc (.cells #[.int .i64 x4, .int .i64 x5, .int .i64 x6] 62)).cell? ⟨w2.heap.size, 2, none⟩ = some (.int .i64 x6) := by simp
  have p0 := kept_cell g3 p0
  have f0 := kept_frozen g3 hg0 f0
  have p1 := kept_cell g3 p1
  have f1 := kept_frozen g3 hg0 f1
  have p2 := kept_cell g3 p2
  have f2 := kept_frozen g3 hg0 f2
  have p3 := kept_cell g3 p3
  have f3 := kept_frozen g3 hg0 f3
  have b3 := b2.trans (g3.mono b2.size)
  have hgc : w.heap.size < w2.heap.size := hg0
  have hg0 : w.heap.size < (w2.alloc (.cells #[.int .i64 x4, .int .i64 x5, .int .i64 x6] 62)).heap.size := Nat.lt_of_lt_of_le hg0 g3.size
  clear g3 b2
  generalize w2.alloc (.cells #[.int .i64 x4, .int .i64 x5, .int .i64 x6] 62) = W3 at *
  refine (HMay.out _).mono ?_
  rintro e w4 ⟨rfl, g4⟩
  have p0 := kept_cell g4 p0
  have f0 := kept_frozen g4 hg0 f0
  have p1 := kept_cell g4 p1
  have f1 := kept_frozen g4 hg0 f1
  have p2 := kept_cell g4 p2
  have f2 := kept_frozen g4 hg0 f2
  have p3 := kept_cell g4 p3
  have f3 := kept_frozen g4 hg0 f3
  have s0 := kept_cell g4 s0
  have s1 := kept_cell g4 s1
  have s2 := kept_cell g4 s2
  have b4 := b3.trans (g4.mono b3.size)
  have hg0 : w.heap.size < w4.heap.size := Nat.lt_of_lt_of_le hg0 g4.size
  clear g4 b3 HMay
  go_wp2_with fail
  refine (HLen.out _).mono ?_
  rintro e w5 ⟨rfl, g5⟩
  have p0 := kept_cell g5 p0
  have f0 := kept_frozen g5 hg0 f0
  have p1 := kept_cell g5 p1
  have f1 := kept_frozen g5 hg0 f1
  have p2 := kept_cell g5 p2
  have f2 := kept_frozen g5 hg0 f2
  have p3 := kept_cell g5 p3
  have f3 := kept_frozen g5 hg0 f3
  have s0 := kept_cell g5 s0
  have s1 := kept_cell g5 s1
  have s2 := kept_cell g5 s2
  have b5 := b4.trans (g5.mono b4.size)
  have hg0 : w.heap.size < w5.heap.size := Nat.lt_of_lt_of_le hg0 g5.size
  clear g5 b4 HLen
  go_wp2_with fail
  have hun : Hid (∀ V, (V.cell? ⟨w2.heap.size, 1, none⟩ = some (.int .i64 x5) ∧ Below w5.heap.size w5 V) → Calls Tryd.prog 38 #[.slice (some ⟨b0, o0 + ba, none⟩) (en - ba) (c - ba), .int .i64 x5] V fun e w' => (∃ A9 c9, e = .returned (.tuple #[.slice A9 x5 c9, .bool true]) ∧ w'.ownsRow w5.heap.size 4 1 (.slice A9 x5 c9) x5 (bcells r)) ∧ (w'.cell? ⟨w2.heap.size, 1, none⟩ = some (.int .i64 x5) ∧ Below w5.heap.size w5 w')) := Lib.hid (fun V hV => (HUn.out V (b5.trans (hV.2.mono b5.size))).mono (fun e w' h => by
    obtain ⟨A9, c9, he, ho, g9⟩ := h
    have e9 : ((some r).getD []).length = x5 := HRL.out
    rw [e9] at he ho
    exact ⟨⟨A9, c9, he, own_base ho hV.2.size⟩, kept_cell g9 hV.1, hV.2.trans (g9.mono hV.2.size)⟩))
  clear HUn
  have bR := Below.refl w5.heap.size w5
  go_region_held3 (fun V => V.cell? ⟨w2.heap.size, 1, none⟩ = some (.int .i64 x5) ∧ Below w5.heap.size w5 V) (first | assumption | exact ⟨s1, bR⟩ | exact ⟨s1, Below.drew bR⟩ | exact ⟨by assumption, by assumption⟩) (first | (go_at_call 38; with_reducible refine Calls.mono (hun.out _ ?_) ?_; (first | assumption | exact ⟨s1, bR⟩ | exact ⟨s1, Below.drew bR⟩ | exact ⟨by assumption, by assumption⟩); rintro e w9 ⟨⟨A9, c9, rfl, o9⟩, q9, b9⟩))
  have p0 := kept_cell b9 p0
  have f0 := kept_frozen b9 hg0 f0
  have p1 := kept_cell b9 p1
  have f1 := kept_frozen b9 hg0 f1
  have p2 := kept_cell b9 p2
  have f2 := kept_frozen b9 hg0 f2
  have p3 := kept_cell b9 p3
  have f3 := kept_frozen b9 hg0 f3
  have s0 := kept_cell b9 s0
  have hres : Res w.heap.size w9 := ⟨Nat.lt_of_lt_of_le hg0 b9.size, ⟨p0, p1, p2, p3⟩, f0, f1, f2, f3⟩
  have hs9 := b9.size
  have b9 := b5.trans (b9.mono b5.size)
  have HO9 := Lib.hid o9
  have hne : w.heap.size ≠ w2.heap.size := by omega
  clear hun q9 bR o9 p0 p1 p2 p3 f0 f1 f2 f3 s1 s2 b5
  have hB : Hid (∀ V, (V.cell? ⟨w2.heap.size, 0, none⟩ = some (.int .i64 x4) ∧ Below w.heap.size w V) → Calls Tryd.prog 39 #[.slice (some ⟨b0, o0 + 7, none⟩) (na - 7) (c - 7)] V fun e w' => (∃ A1 c1, e = .returned (.slice A1 x6 c1) ∧ w'.ownsRow V.heap.size 50 2 (.slice A1 x6 c1) x6 (rcells L1)) ∧ Below V.heap.size V w' ∧ (w'.cell? ⟨w2.heap.size, 0, none⟩ = some (.int .i64 x4) ∧ Below w.heap.size w w')) := Lib.hid (fun V hV => (HBd.out V hV.2).mono (fun e w' h => by
    obtain ⟨A1, c1, he, ho, g⟩ := h
    exact ⟨⟨A1, c1, he, ho⟩, g, kept_cell g hV.1, hV.2.trans (g.mono hV.2.size)⟩))
  have hN : Hid (∀ V, (V.cell? ⟨w2.heap.size, 0, none⟩ = some (.int .i64 x4) ∧ Below w.heap.size w V) → Calls Tryd.prog 40 #[.slice (some ⟨b0, o0 + na, none⟩) (ba - na) (c - na), .int .i64 x4] V fun e w' => (∃ A1 c1 H, e = .returned (.slice A1 x5 c1) ∧ listsOf H = L2 ∧ OwnI w' V.heap.size A1 x5 c1 H) ∧ Below V.heap.size V w' ∧ (w'.cell? ⟨w2.heap.size, 0, none⟩ = some (.int .i64 x4) ∧ Below w.heap.size w w')) := Lib.hid (fun V hV => (HRw.out V hV.2).mono (fun e w' h => by
    obtain ⟨A1, c1, H, he, hl, ho, g⟩ := h
    exact ⟨⟨A1, c1, H, he, hl, ho⟩, g, kept_cell g hV.1, hV.2.trans (g.mono hV.2.size)⟩))
  clear HBd HRw
  have s0d : w9.drew.cell? ⟨w2.heap.size, 0, none⟩ = some (.int .i64 x4) := s0
  have b9d := Below.drew b9
  go_wp2_with fail
  go_region_held3 (fun V => V.cell? ⟨w2.heap.size, 0, none⟩ = some (.int .i64 x4) ∧ Below w.heap.size w V) (with_reducible (first | assumption | exact ⟨s0d, b9d⟩ | exact ⟨by assumption, by assumption⟩ | exact ⟨far4 (by assumption) hne, below4 (by assumption) (Nat.le_refl _)⟩ | exact ⟨s0, b9⟩)) (first | (go_at_call 39; with_reducible refine Calls.mono (hB.out _ ?_) ?_; (with_reducible (first | assumption | exact ⟨s0d, b9d⟩ | exact ⟨by assumption, by assumption⟩ | exact ⟨far4 (by assumption) hne, below4 (by assumption) (Nat.le_refl _)⟩ | exact ⟨s0, b9⟩)); rintro e V1 ⟨⟨A1, c1, rfl, o1⟩, g1, q1, b1⟩; have hres1 : Res w.heap.size V1 := hres.drew.on g1) | (go_at_call 40; with_reducible refine Calls.mono (hN.out _ ?_) ?_; (with_reducible (first | assumption | exact ⟨s0d, b9d⟩ | exact ⟨by assumption, by assumption⟩ | exact ⟨far4 (by assumption) hne, below4 (by assumption) (Nat.le_refl _)⟩ | exact ⟨s0, b9⟩)); rintro e V2 ⟨⟨A2, c2, H, rfl, hl2, o2⟩, g2, q2, b2⟩; obtain ⟨hg2, ⟨p0, p1, p2, p3⟩, f0, f1, f2, f3⟩ := (hres1.on g2).parts))
  go_wp2_with fail
  obtain ⟨W9, hW9, b99, z9, c0', c1', c2', c3', ho9⟩ := store4 (.int .i64 x4) (.slice A1 x6 c1) (.slice A2 x5 c2) (.slice A9 x5 c9) b2 (Nat.le_refl _) p0 p1 p2 p3
  rw [← hW9]
  have hz0 : w.heap.size < w9.heap.size := hres.1
  have hz1 : w.heap.size < V1.heap.size := hres1.1
  have k9 := ho9 _ _ _ _ _ _ (by omega) (own_below (own_below HO9.out (show Below w9.heap.size w9 V1 from below_undrew g1)) g2)
  have k1 := ho9 _ _ _ _ _ _ (show w.heap.size < w9.drew.heap.size from hz0) (own_below o1 g2)
  have k2o := o2.store hz1 ho9
  have k2 := k2o.nest
  refine bodyPost_ret (v := .tuple #[TV.v ⟨x4, A1, x6, c1, L1, A2, x5, c2, H, A9, x5, c9, r⟩, .int .i64 0]) (by simp [results, Tryd.results10, go_sem, c0', c1', c2', c3', TV.v]) rfl ⟨⟨x4, A1, x6, c1, L1, A2, x5, c2, H, A9, x5, c9, r⟩, by rw [HE0.out]; rfl, ⟨own_RD k1, own_shp k1, k2.1, k2.2, own_RL k9, own_shp k9⟩, ?_, b99, ⟨.inr (own_base k1 (Nat.le_of_lt (show w.heap.size < w9.drew.heap.size from hz0))), .inr (k2o.lower (Nat.le_of_lt hz1)), .inr (own_base k9 (by omega))⟩⟩
  rw [HTab.out]
  unfold TV.tb
  simp only []
  rw [hl2]
theorem decodeO_any (l : List Nat) (n : Nat) (A : Option Addr) (c : Nat) (w : World) (hR : RB w w.heap.size A n l) (hs : Shp A n c) (hn : n ≤ 10000) (hM : Mark w) :
    Calls Tryd.prog 10 #[.slice A n c] w (OutDo l w) := by
  by_cases h0 : sealE l = 0
  · by_cases h1 : cntB (l[4]?.getD 0) (l[5]?.getD 0) (l[6]?.getD 0) = true ∧ lenT (l[4]?.getD 0) (l[5]?.getD 0) (l[6]?.getD 0) = l.length
    · cases h3 : unbR (bitsP l) (l[5]?.getD 0 : Nat) with
      | none => exact (decode_bits l n A c w hR hs.2.1 hn hM h0 h1.1 h1.2 h3).mono (fun e w' h => h.o (by rw [errT_bits h0 h1.1 h1.2 h3]; decide))
      | some r => exact decodeO_ok l n A c w hR hs.2.1 hn hM h0 h1.1 h1.2 r h3
    · exact (decode_count l n A c w hR hs.2.1 hn hM h0 h1).mono (fun e w' h => h.o (by rw [errT_count h0 h1]; decide))
  · exact (decode_seal l n A c w hR hs.2.1 hn hM h0).mono (fun e w' h => h.o (by rw [errT_seal h0]; exact h0))
end Go.Proofs.YtnilejdokgagbaaDoor
/- What Bytes of package valid returns. -/
namespace Go.Proofs.YtnilejdokgagbaaDoor
open Go.RowKit Go.BigFrame Go.Maps
set_option linter.unusedVariables false
set_option maxRecDepth 4000
set_option linter.unusedSimpArgs false

/-- What Bytes tells: why there is no such table, or it. -/
noncomputable def vErr (l : List Nat) : Int := if errT l = 0 then errV (decR l) else (errT l : Nat)
noncomputable def vTab (l : List Nat) : Tb := if vErr l = 0 then decR l else zeroT
def OutVb (l : List Nat) (w : World) (e : Ending) (w' : World) : Prop :=
  ∃ V : TV, e = .returned (.tuple #[V.v, .int .i64 (vErr l)]) ∧ V.ok w' ∧ V.tb = vTab l ∧ Below w.heap.size w w'
theorem outVb_no {l : List Nat} {w w' : World} {r : Int} (h : vErr l = r) (h0 : r ≠ 0) (g : Below w.heap.size w w') : OutVb l w (.returned (.tuple #[.agg #[.int .i64 0, .slice none 0 0, .slice none 0 0, .slice none 0 0], .int .i64 r])) w' :=
  ⟨zeroV, by rw [h]; rfl, zeroV_ok _, by unfold vTab; rw [if_neg (by rw [h]; exact h0), zeroV_tb], g⟩
set_option maxHeartbeats 4000000 in
theorem validBytes_any (l : List Nat) (n : Nat) (A : Option Addr) (c : Nat) (w : World) (hR : RB w w.heap.size A n l) (hs : Shp A n c) (hn : n ≤ 10000) (hM : Mark w) :
    Calls Tryd.prog 18 #[.slice A n c] w (OutVb l w) := by
  have HDc := Lib.hid (fun W (g : Below w.heap.size w W) => decodeO_any l n A c W (hR.on g) hs hn (hM.on g))
  have hres : Res w.heap.size (w.alloc (.cells #[.int .i64 0, .slice none 0 0, .slice none 0 0, .slice none 0 0] 26)) := ⟨by simp, ⟨by simp, by simp, by simp, by simp⟩, by simp, by simp, by simp, by simp⟩
  have b0 := below_new w (.cells #[.int .i64 0, .slice none 0 0, .slice none 0 0, .slice none 0 0] 26)
  have hg0 : w.heap.size < (w.alloc (.cells #[.int .i64 0, .slice none 0 0, .slice none 0 0, .slice none 0 0] 26)).heap.size := by simp
  clear hR hM hs
  go_enter Tryd.func18, Tryd.ntmps18
  go_wp2_with fail
  generalize w.alloc (.cells #[.int .i64 0, .slice none 0 0, .slice none 0 0, .slice none 0 0] 26) = W at *
  refine (HDc.out _ b0).mono ?_
  rintro e w1 ⟨V, rfl, ok1, tb1, g, ob⟩
  have bx := below_new w1 (.cells #[.int .i64 V.cl, .slice V.a1 V.n1 V.c1, .slice V.a2 V.n2 V.c2, .slice V.a3 V.n3 V.c3] 26)
  have b1 := below_call b0 b0.size g
  have b2 := below_call b1 b1.size bx
  have HX := Lib.hid (box_new w1 V)
  have hres2 := (hres.on g).on bx
  have HOk := Lib.hid (ok1.on bx)
  have HOb := Lib.hid (ob.on bx)
  have HTb := Lib.hid tb1
  have HVT : Hid (∀ W9, Below w.heap.size w W9 → V.ok W9 → Calls Tryd.prog 20 #[V.v] W9 fun e w' => e = .returned (.int .i64 (errV (decR l))) ∧ Below W9.heap.size W9 w') := Lib.hid (fun W9 _ h => by rw [← tb1]; exact validTable_any V W9 h)
  clear g ok1 ob tb1 hres b0 b1 HDc bx
  have HE : Hid (vErr l = if errT l = 0 then errV (decR l) else (errT l : Nat)) := Lib.hid rfl
  have HT : Hid (vErr l = 0 → vTab l = decR l) := Lib.hid (fun h => by unfold vTab; rw [if_pos h])
  generalize errV (decR l) = ev at *
  generalize errT l = et at *
  obtain ⟨cl, a1, n1, c1, bd, a2, n2, c2, hs, a3, n3, c3, br⟩ := V
  simp only [TV.v] at *
  by_cases h0 : et = 0
  case neg =>
    have hne : (((et : Nat) : Int) == 0) = false := by rw [beq_eq_false_iff_ne]; omega
    have hne2 : (((et : Nat) : Int) != 0) = true := by rw [bne_iff_ne]; omega
    have hne3 : ((et : Nat) : Int) ≠ 0 := by omega
    have HR : Hid (vErr l = ((et : Nat) : Int)) := Lib.hid (by rw [HE.out, if_neg h0])
    have HN3 := Lib.hid hne3
    clear HE h0 hne3
    obtain ⟨_, ⟨p0, p1, p2, p3⟩, f0, f1, f2, f3⟩ := hres2.parts
    go_wp2_with fail
    obtain ⟨W9, hW9, b9, s9, c0, c1, c2, c3, _⟩ := store4 (.int .i64 0) (.slice none 0 0) (.slice none 0 0) (.slice none 0 0) b2 (Nat.le_refl _) p0 p1 p2 p3
    rw [← hW9]
    exact bodyPost_ret (v := .tuple #[.agg #[.int .i64 0, .slice none 0 0, .slice none 0 0, .slice none 0 0], .int .i64 ((et : Nat) : Int)]) (by simp [results, Tryd.results18, go_sem, c0, c1, c2, c3]) rfl (outVb_no HR.out HN3.out b9)
  subst h0
  have HR : Hid (vErr l = ev) := Lib.hid (by rw [HE.out, if_pos rfl])
  clear HE
  obtain ⟨_, q0, q1, q2, q3⟩ := HX.out
  simp only [] at q0 q1 q2 q3
  go_wp2_with fail
  generalize (w1.alloc (.cells #[.int .i64 cl, .slice a1 n1 c1, .slice a2 n2 c2, .slice a3 n3 c3] 26)) = W2 at *
  refine (HVT.out _ b2 HOk.out).mono ?_
  rintro e w3 ⟨rfl, g⟩
  have b3 := below_call b2 b2.size g
  have HOk3 := Lib.hid (HOk.out.on g)
  have HOb3 := Lib.hid (HOb.out.on g)
  have q0 := kept_cell g q0
  have q1 := kept_cell g q1
  have q2 := kept_cell g q2
  have q3 := kept_cell g q3
  have hres3 := hres2.on g
  obtain ⟨_, ⟨p0, p1, p2, p3⟩, f0, f1, f2, f3⟩ := hres3.parts
  clear g hres2 hres3 b2 HOk HOb HVT HX
  by_cases h1 : ev = 0
  case neg =>
    have hne2 : (ev != 0) = true := by rw [bne_iff_ne]; exact h1
    have HN3 := Lib.hid h1
    clear h1
    go_wp2_with fail
    obtain ⟨W9, hW9, b9, s9, c0, c1, c2, c3, _⟩ := store4 (.int .i64 0) (.slice none 0 0) (.slice none 0 0) (.slice none 0 0) b3 (Nat.le_refl _) p0 p1 p2 p3
    rw [← hW9]
    exact bodyPost_ret (v := .tuple #[.agg #[.int .i64 0, .slice none 0 0, .slice none 0 0, .slice none 0 0], .int .i64 ev]) (by simp [results, Tryd.results18, go_sem, c0, c1, c2, c3]) rfl (outVb_no HR.out HN3.out b9)
  subst h1
  go_wp2_with fail
  obtain ⟨W9, hW9, b9, s9, c0', c1', c2', c3', ho9⟩ := store4 (.int .i64 cl) (.slice a1 n1 c1) (.slice a2 n2 c2) (.slice a3 n3 c3) b3 (Nat.le_refl _) p0 p1 p2 p3
  rw [← hW9]
  have k := (HOb3.out.store HOk3.out hg0 ho9).1
  exact bodyPost_ret (v := .tuple #[TV.v ⟨cl, a1, n1, c1, bd, a2, n2, c2, hs, a3, n3, c3, br⟩, .int .i64 0]) (by simp [results, Tryd.results18, go_sem, c0', c1', c2', c3', TV.v]) rfl ⟨⟨cl, a1, n1, c1, bd, a2, n2, c2, hs, a3, n3, c3, br⟩, by rw [HR.out], k, by rw [HT.out HR.out]; exact HTb.out, b9⟩
end Go.Proofs.YtnilejdokgagbaaDoor

/- Rows that are written out; the example's table and bytes; what the calls of the example answer. -/
namespace Go.Proofs.YtnilejdokgagbaaDoor
open Go.RowKit Go.BigFrame
set_option linter.unusedVariables false
set_option maxRecDepth 4000
set_option linter.unusedSimpArgs false

theorem ri_lit (W : World) (a : Nat) (ha : a = W.heap.size) (l : List Int) (k : Nat) (cells : Array Value) (hc : cells.toList = icells l) (hk : l.length = k) (hk4 : k ≤ 1000) : RI (W.alloc (.cells cells 3)) (W.alloc (.cells cells 3)).heap.size (some ⟨a, 0, none⟩) k l := by
  subst ha
  have h := World.ownsRow_lit (e := 3) (size := 1) W cells k (Nat.le_refl _) (by unfold maxLen; omega) (by rw [← Array.length_toList, hc, icells_len, hk, Nat.mul_one])
  rw [hc] at h
  exact own_RI h
theorem rd_lit (W : World) (a : Nat) (ha : a = W.heap.size) (l : List Rg) (k : Nat) (cells : Array Value) (hc : cells.toList = rcells l) (hk : l.length = k) (hk4 : k ≤ 1000) : RD (W.alloc (.cells cells 50)) (W.alloc (.cells cells 50)).heap.size (some ⟨a, 0, none⟩) k l := by
  subst ha
  have h := World.ownsRow_lit (e := 50) (size := 2) W cells k (Nat.le_refl _) (by unfold maxLen; omega) (by rw [← Array.length_toList, hc, rcells_len, hk])
  rw [hc] at h
  exact own_RD h
theorem rn_lit (W : World) (a : Nat) (ha : a = W.heap.size) (H : List Hi) (k : Nat) (cells : Array Value) (hc : cells.toList = icellsOf H) (hk : H.length = k) (hk4 : k ≤ 1000) (hi : ∀ h ∈ H, h.ok W W.heap.size) : RN (W.alloc (.cells cells 51)) (W.alloc (.cells cells 51)).heap.size (some ⟨a, 0, none⟩) k H := by
  subst ha
  have h := World.ownsRow_lit (e := 51) (size := 1) W cells k (Nat.le_refl _) (by unfold maxLen; omega) (by rw [← Array.length_toList, hc, icellsOf_len, hk, Nat.mul_one])
  rw [hc] at h
  exact ⟨hk, Reads.of_own h, fun x hx => ⟨(hi x hx).1.on (below_new _ _), (hi x hx).2⟩⟩
theorem shp2 (a : Addr) : Shp (some a) 2 2 := ⟨fun h => (by cases h), Nat.le_refl _, (by unfold maxLen; omega)⟩
def tW : Tb := { cl := 2, bd := [(0, 0), (65827, 1)], nx := [[0, 1], [1, 0]], br := [false, true] }
theorem tW_may : MayT tW := ⟨by decide, by decide, by decide, by decide, rfl, by decide, by unfold tW byteI; simp, by unfold tW byteI; simp⟩
theorem tW_small : Small tW := ⟨by decide, by decide, by decide⟩
theorem w_bits : IsBits [2] [false, true] := by
  refine ⟨rfl, by decide, fun i => ?_⟩
  by_cases h : i < 8
  · have : ∀ j : Fin 8, bitY [2] j.val = ([false, true][j.val]?).getD false := by decide
    exact this ⟨i, h⟩
  · rw [bitY_out _ _ (by simp; omega), List.getElem?_eq_none (by simp; omega)]; rfl
theorem w_body : bodyB tW [2] = [66, 82, 75, 49, 2, 2, 2, 0, 0, 0, 0, 1, 1, 35, 1, 0, 1, 1, 0, 2] := by decide
def bW : List Nat := sealB [66, 82, 75, 49, 2, 2, 2, 0, 0, 0, 0, 1, 1, 35, 1, 0, 1, 1, 0, 2]
theorem bW_is : IsEnc bW tW := ⟨tW_may, [2], w_bits, by rw [w_body]; rfl⟩
theorem bW_enc : encR tW = some bW := encR_yes bW_is
theorem bW_len : bW.length = 24 := enc_len bW_is
theorem bW_err : errT bW = 0 ∧ decR bW = tW := by
  obtain ⟨h1, h2⟩ := err_enc bW_is
  rw [if_pos (by decide)] at h1
  exact ⟨h1, by rw [decR_yes h1, h2]⟩
theorem bW_at (k v : Nat) (hk : k < 20) (h : ([66, 82, 75, 49, 2, 2, 2, 0, 0, 0, 0, 1, 1, 35, 1, 0, 1, 1, 0, 2] : List Nat)[k]? = some v) : bW[k]? = some v := by
  unfold bW sealB
  rw [List.getElem?_append_left (by simpa using hk)]
  exact h
theorem nil_err : errT [] = 21 ∧ decR [] = zeroT := by
  have h := err_short (b := []) (by simp)
  exact ⟨h, decR_no (by rw [h]; decide)⟩
theorem zero_err : errT (List.replicate 20 0) = 22 ∧ decR (List.replicate 20 0) = zeroT := by
  have h : errT (List.replicate 20 0) = 22 := by
    unfold errT
    rw [if_neg (by simp), if_pos (by decide)]
  exact ⟨h, decR_no (by rw [h]; decide)⟩
theorem decode_is (l : List Nat) (r : Int) (u : Tb) (hE : ((errT l : Nat) : Int) = r) (hD : decR l = u) (n : Nat) (A : Option Addr) (c : Nat) (w : World) (hR : RB w w.heap.size A n l) (hs : Shp A n c) (hn : n ≤ 10000) (hM : Mark w) :
    Calls Tryd.prog 10 #[.slice A n c] w fun e w' => ∃ V : TV, e = .returned (.tuple #[V.v, .int .i64 r]) ∧ V.ok w' ∧ V.tb = u ∧ Below w.heap.size w w' :=
  (decode_any l n A c w hR hs hn hM).mono fun e w' ⟨V, h1, h2, h3, h4⟩ => ⟨V, by rw [← hE]; exact h1, h2, by rw [h3, hD], h4⟩
theorem encode_is (T : TV) (b : List Nat) (n : Nat) (hE : encR T.tb = some b) (hl : b.length = n) (w : World) (hT : T.ok w) (hS : Small T.tb) (hM : Mark w) : Calls Tryd.prog 8 #[T.v] w fun e w' => ∃ (A : Option Addr) (c : Nat), e = .returned (.tuple #[.slice A n c, .bool true]) ∧ RB w' w'.heap.size A n b ∧ Shp A n c ∧ Below w.heap.size w w' := by
  have h := encode_any T w hT hS hM
  rw [hE] at h
  subst hl
  exact h
/-- The rows of a small table. -/
theorem small_n {T : TV} {w : World} (h : T.ok w) (hS : Small T.tb) : T.n1 ≤ 400 ∧ T.n2 ≤ 3000 ∧ T.n3 ≤ 1000 ∧ ∀ x ∈ T.hs, x.n ≤ 3000 := by
  have h1 := h.r1.1
  have h2 := h.r2.1
  have h3 := h.r3.1
  have k1 := hS.k
  have k2 := hS.n
  have k3 := hS.b
  have l2 := bulk_len (listsOf T.hs)
  rw [listsOf_len] at l2
  simp only [TV.tb] at k1 k2 k3
  refine ⟨by omega, by omega, by omega, fun x hx => ?_⟩
  have m := bulk_mem (L := listsOf T.hs) (r := x.l) (List.mem_map.2 ⟨x, hx, rfl⟩)
  have := (h.r2.2.2 x hx).1.1
  omega
theorem same_s (T U : TV) (w : World) (hT : T.ok w) (hU : U.ok w) (hS : Small T.tb) :
    Calls Tryd.prog 14 #[T.v, U.v] w fun e w' => e = .returned (.bool (eqT T.tb U.tb)) ∧ Below w.heap.size w w' := by
  obtain ⟨a, b, c, d⟩ := small_n hT hS
  exact same_any T U w hT hU (by omega) (by omega) (by omega) (fun h hh => by have := d h hh; omega)
theorem keepTable_s (T U : TV) (w : World) (hT : T.ok w) (hU : U.ok w) (hS : Small T.tb) :
    Calls Tryd.prog 13 #[T.v, U.v] w fun e w' => e = .returned (.bool (eqT T.tb U.tb)) ∧ Below w.heap.size w w' := by
  obtain ⟨a, b, c, d⟩ := small_n hT hS
  exact keepTable_any T U w hT hU (by omega) (by omega) (by omega) (fun h hh => by have := d h hh; omega)
theorem wT_ok (w : World) : TV.ok ((((((w.alloc (.cells #[.int .i64 0, .int .i64 0, .int .i64 65827, .int .i64 1] 50)).alloc (.cells #[.int .i64 0, .int .i64 1] 3)).alloc (.cells #[.int .i64 1, .int .i64 0] 3)).alloc (.cells #[.slice (some ⟨w.heap.size + 1, 0, none⟩) 2 2, .slice (some ⟨w.heap.size + 2, 0, none⟩) 2 2] 51)).alloc (.cells #[.bool false, .bool true] 4)).alloc (.cells #[.int .i64 2, .slice (some ⟨w.heap.size, 0, none⟩) 2 2, .slice (some ⟨w.heap.size + 3, 0, none⟩) 2 2, .slice (some ⟨w.heap.size + 4, 0, none⟩) 2 2] 26)) ⟨2, some ⟨w.heap.size, 0, none⟩, 2, 2, [(0, 0), (65827, 1)], some ⟨w.heap.size + 3, 0, none⟩, 2, 2, [⟨some ⟨w.heap.size + 1, 0, none⟩, 2, 2, [0, 1]⟩, ⟨some ⟨w.heap.size + 2, 0, none⟩, 2, 2, [1, 0]⟩], some ⟨w.heap.size + 4, 0, none⟩, 2, 2, [false, true]⟩ ∧ Below w.heap.size w ((((((w.alloc (.cells #[.int .i64 0, .int .i64 0, .int .i64 65827, .int .i64 1] 50)).alloc (.cells #[.int .i64 0, .int .i64 1] 3)).alloc (.cells #[.int .i64 1, .int .i64 0] 3)).alloc (.cells #[.slice (some ⟨w.heap.size + 1, 0, none⟩) 2 2, .slice (some ⟨w.heap.size + 2, 0, none⟩) 2 2] 51)).alloc (.cells #[.bool false, .bool true] 4)).alloc (.cells #[.int .i64 2, .slice (some ⟨w.heap.size, 0, none⟩) 2 2, .slice (some ⟨w.heap.size + 3, 0, none⟩) 2 2, .slice (some ⟨w.heap.size + 4, 0, none⟩) 2 2] 26)) ∧ ((((((w.alloc (.cells #[.int .i64 0, .int .i64 0, .int .i64 65827, .int .i64 1] 50)).alloc (.cells #[.int .i64 0, .int .i64 1] 3)).alloc (.cells #[.int .i64 1, .int .i64 0] 3)).alloc (.cells #[.slice (some ⟨w.heap.size + 1, 0, none⟩) 2 2, .slice (some ⟨w.heap.size + 2, 0, none⟩) 2 2] 51)).alloc (.cells #[.bool false, .bool true] 4)).alloc (.cells #[.int .i64 2, .slice (some ⟨w.heap.size, 0, none⟩) 2 2, .slice (some ⟨w.heap.size + 3, 0, none⟩) 2 2, .slice (some ⟨w.heap.size + 4, 0, none⟩) 2 2] 26)).cell? ⟨w.heap.size + 5, 0, none⟩ = some (.int .i64 2) ∧ ((((((w.alloc (.cells #[.int .i64 0, .int .i64 0, .int .i64 65827, .int .i64 1] 50)).alloc (.cells #[.int .i64 0, .int .i64 1] 3)).alloc (.cells #[.int .i64 1, .int .i64 0] 3)).alloc (.cells #[.slice (some ⟨w.heap.size + 1, 0, none⟩) 2 2, .slice (some ⟨w.heap.size + 2, 0, none⟩) 2 2] 51)).alloc (.cells #[.bool false, .bool true] 4)).alloc (.cells #[.int .i64 2, .slice (some ⟨w.heap.size, 0, none⟩) 2 2, .slice (some ⟨w.heap.size + 3, 0, none⟩) 2 2, .slice (some ⟨w.heap.size + 4, 0, none⟩) 2 2] 26)).cell? ⟨w.heap.size + 5, 1, none⟩ = some (.slice (some ⟨w.heap.size, 0, none⟩) 2 2) ∧ ((((((w.alloc (.cells #[.int .i64 0, .int .i64 0, .int .i64 65827, .int .i64 1] 50)).alloc (.cells #[.int .i64 0, .int .i64 1] 3)).alloc (.cells #[.int .i64 1, .int .i64 0] 3)).alloc (.cells #[.slice (some ⟨w.heap.size + 1, 0, none⟩) 2 2, .slice (some ⟨w.heap.size + 2, 0, none⟩) 2 2] 51)).alloc (.cells #[.bool false, .bool true] 4)).alloc (.cells #[.int .i64 2, .slice (some ⟨w.heap.size, 0, none⟩) 2 2, .slice (some ⟨w.heap.size + 3, 0, none⟩) 2 2, .slice (some ⟨w.heap.size + 4, 0, none⟩) 2 2] 26)).cell? ⟨w.heap.size + 5, 2, none⟩ = some (.slice (some ⟨w.heap.size + 3, 0, none⟩) 2 2) ∧ ((((((w.alloc (.cells #[.int .i64 0, .int .i64 0, .int .i64 65827, .int .i64 1] 50)).alloc (.cells #[.int .i64 0, .int .i64 1] 3)).alloc (.cells #[.int .i64 1, .int .i64 0] 3)).alloc (.cells #[.slice (some ⟨w.heap.size + 1, 0, none⟩) 2 2, .slice (some ⟨w.heap.size + 2, 0, none⟩) 2 2] 51)).alloc (.cells #[.bool false, .bool true] 4)).alloc (.cells #[.int .i64 2, .slice (some ⟨w.heap.size, 0, none⟩) 2 2, .slice (some ⟨w.heap.size + 3, 0, none⟩) 2 2, .slice (some ⟨w.heap.size + 4, 0, none⟩) 2 2] 26)).cell? ⟨w.heap.size + 5, 3, none⟩ = some (.slice (some ⟨w.heap.size + 4, 0, none⟩) 2 2) := by
  have g1 := below_new w (.cells #[.int .i64 0, .int .i64 0, .int .i64 65827, .int .i64 1] 50)
  have z1 : (w.alloc (.cells #[.int .i64 0, .int .i64 0, .int .i64 65827, .int .i64 1] 50)).heap.size = w.heap.size + 1 := by simp
  have d1 := rd_lit w _ rfl [(0, 0), (65827, 1)] 2 #[.int .i64 0, .int .i64 0, .int .i64 65827, .int .i64 1] rfl rfl (by decide)
  generalize (w.alloc (.cells #[.int .i64 0, .int .i64 0, .int .i64 65827, .int .i64 1] 50)) = W1 at *
  have g2 := below_new W1 (.cells #[.int .i64 0, .int .i64 1] 3)
  have z2 : (W1.alloc (.cells #[.int .i64 0, .int .i64 1] 3)).heap.size = w.heap.size + 2 := by simp; omega
  have i1 := ri_lit W1 (w.heap.size + 1) z1.symm [0, 1] 2 #[.int .i64 0, .int .i64 1] rfl rfl (by decide)
  have d2 := d1.on g2
  have G2 := g1.trans (g2.mono (by omega))
  generalize W1.alloc (.cells #[.int .i64 0, .int .i64 1] 3) = W2 at *
  have g3 := below_new W2 (.cells #[.int .i64 1, .int .i64 0] 3)
  have z3 : (W2.alloc (.cells #[.int .i64 1, .int .i64 0] 3)).heap.size = w.heap.size + 3 := by simp; omega
  have i2 := ri_lit W2 (w.heap.size + 2) z2.symm [1, 0] 2 #[.int .i64 1, .int .i64 0] rfl rfl (by decide)
  have i1 := i1.on g3
  have d3 := d2.on g3
  have G3 := G2.trans (g3.mono (by omega))
  generalize W2.alloc (.cells #[.int .i64 1, .int .i64 0] 3) = W3 at *
  have g4 := below_new W3 (.cells #[.slice (some ⟨w.heap.size + 1, 0, none⟩) 2 2, .slice (some ⟨w.heap.size + 2, 0, none⟩) 2 2] 51)
  have z4 : (W3.alloc (.cells #[.slice (some ⟨w.heap.size + 1, 0, none⟩) 2 2, .slice (some ⟨w.heap.size + 2, 0, none⟩) 2 2] 51)).heap.size = w.heap.size + 4 := by simp; omega
  have n4 := rn_lit W3 (w.heap.size + 3) z3.symm [⟨some ⟨w.heap.size + 1, 0, none⟩, 2, 2, [0, 1]⟩, ⟨some ⟨w.heap.size + 2, 0, none⟩, 2, 2, [1, 0]⟩] 2 #[.slice (some ⟨w.heap.size + 1, 0, none⟩) 2 2, .slice (some ⟨w.heap.size + 2, 0, none⟩) 2 2] rfl rfl (by decide) (fun h hh => by
    simp only [List.mem_cons, List.not_mem_nil, or_false] at hh
    rcases hh with rfl | rfl
    · exact ⟨i1, shp2 _⟩
    · exact ⟨i2, shp2 _⟩)
  have d4 := d3.on g4
  have G4 := G3.trans (g4.mono (by omega))
  generalize W3.alloc (.cells #[.slice (some ⟨w.heap.size + 1, 0, none⟩) 2 2, .slice (some ⟨w.heap.size + 2, 0, none⟩) 2 2] 51) = W4 at *
  have g5 := below_new W4 (.cells #[.bool false, .bool true] 4)
  have z5 : (W4.alloc (.cells #[.bool false, .bool true] 4)).heap.size = w.heap.size + 5 := by simp; omega
  have l5 := rl_lit W4 (w.heap.size + 4) z4.symm [false, true] 2 #[.bool false, .bool true] rfl rfl (by decide)
  have n5 := n4.on g5
  have d5 := d4.on g5
  have G5 := G4.trans (g5.mono (by omega))
  generalize W4.alloc (.cells #[.bool false, .bool true] 4) = W5 at *
  have g6 := below_new W5 (.cells #[.int .i64 2, .slice (some ⟨w.heap.size, 0, none⟩) 2 2, .slice (some ⟨w.heap.size + 3, 0, none⟩) 2 2, .slice (some ⟨w.heap.size + 4, 0, none⟩) 2 2] 26)
  exact ⟨⟨d5.on g6, shp2 _, n5.on g6, shp2 _, l5.on g6, shp2 _⟩, G5.trans (g6.mono (by omega)), by rw [← z5]; simp, by rw [← z5]; simp, by rw [← z5]; simp, by rw [← z5]; simp⟩
end Go.Proofs.YtnilejdokgagbaaDoor

/- The example of the statements; from the rows to the walks. -/
/- A table of the call's own: its parts read and written. -/
namespace Go.Proofs.YtnilejdokgagbaaDoor
open Go.RowKit Go.BigFrame
set_option linter.unusedVariables false
set_option maxRecDepth 4000
set_option linter.unusedSimpArgs false

theorem OwnTb.on {w w' : World} {base : Nat} {T : TV} (h : OwnTb w base T) (g : Below w.heap.size w w') : OwnTb w' base T := ⟨h.z1.on g, h.z2.on g, h.z3.on g, h.ap⟩
theorem OwnTb.lower {w : World} {base base' : Nat} {T : TV} (h : OwnTb w base T) (hb : base' ≤ base) : OwnTb w base' T := ⟨h.z1.lower hb, h.z2.lower hb, h.z3.lower hb, h.ap⟩
theorem OwnZ.rd {w : World} {base n c : Nat} {A : Option Addr} {l : List Rg} (h : OwnZ w base 50 2 A n c (rcells l)) : RD w w.heap.size A n l := by
  refine ⟨?_, h.reads⟩
  have h1 := h.reads.1
  rw [rcells_len] at h1
  omega
theorem OwnZ.rl {w : World} {base n c : Nat} {A : Option Addr} {l : List Bool} (h : OwnZ w base 4 1 A n c (bcells l)) : RL w w.heap.size A n l := by
  refine ⟨?_, h.reads⟩
  have h1 := h.reads.1
  rw [bcells_len] at h1
  omega
theorem OwnTb.ok {w : World} {base : Nat} {T : TV} (h : OwnTb w base T) : T.ok w := ⟨h.z1.rd, h.z1.1, h.z2.nest.1, h.z2.nest.2, h.z3.rl, h.z3.1⟩
/-- A row of the call's own that is not empty. -/
theorem OwnZ.open_ {w : World} {base size n c : Nat} {e : TypeId} {A : Option Addr} {xs : List Value} (h : OwnZ w base e size A n c xs) (hn : 0 < n) : ∃ g, A = some ⟨g, 0, none⟩ ∧ base ≤ g ∧ g < w.heap.size ∧ w.ownsRow base e size (.slice (some ⟨g, 0, none⟩) n c) n xs := by
  rcases h.2 with ⟨h0, _⟩ | h1
  · omega
  · obtain ⟨g, cap, hv, hb, hlt⟩ := h1.form hn
    have hA : A = some ⟨g, 0, none⟩ := by injection hv
    subst hA
    exact ⟨g, rfl, hb, hlt, h1⟩
/-- A store into another block. -/
theorem OwnZ.other {w : World} {base size n c : Nat} {e : TypeId} {A : Option Addr} {xs : List Value} (h : OwnZ w base e size A n c xs) {a : Addr} (ha : ∀ g, base ≤ g → g < w.heap.size → w.ownsRow base e size (.slice A n c) n xs → (Value.slice A n c).ownBlock = some g → g ≠ a.block) (u : Value) : OwnZ (w.setCell a u) base e size A n c xs :=
  ⟨h.1, h.2.imp id (fun o => ownsRow_setCell_other o (fun e' => by
    obtain ⟨h1, h2⟩ := o.lt _ e'
    exact ha _ h1 h2 o e' rfl) u)⟩
theorem OwnI.other {w : World} {base n c : Nat} {A : Option Addr} {H : List Hi} (h : OwnI w base A n c H) {a : Addr} (h1 : (Value.slice A n c).ownBlock ≠ some a.block) (h2 : ∀ x ∈ H, x.v.ownBlock ≠ some a.block) (u : Value) : OwnI (w.setCell a u) base A n c H :=
  ⟨h.len, ownsRow_setCell_other h.out h1 u, fun x hx => ⟨(h.inn x hx).1, ownsRow_setCell_other (h.inn x hx).2 (h2 x hx) u⟩⟩
/-- Blocks of rows of unlike types are unlike. -/
theorem own_apart {w : World} {base base' size size' n n' g : Nat} {e e' : TypeId} {v v' : Value} {xs xs' : List Value} (hne : e ≠ e') (h : w.ownsRow base e size v n xs) (h' : w.ownsRow base' e' size' v' n' xs') (hg : v'.ownBlock = some g) : v.ownBlock ≠ some g := by
  intro hv
  rcases own_unlike' hne h h' with h1 | h1
  · rw [h1] at hv; cases hv
  · exact h1 (by rw [hv, hg])
/-- A break is written. -/
theorem OwnTb.brk {w : World} {base : Nat} {T : TV} (h : OwnTb w base T) {k : Nat} (hk : k < T.n3) : ∃ g, T.a3 = some ⟨g, 0, none⟩ ∧ base ≤ g ∧ g < w.heap.size ∧ w.frozen? ⟨g, k, none⟩ = false ∧ (∀ (hl : k < T.br.length), w.cell? ⟨g, k, none⟩ = some (.bool T.br[k])) ∧ ∀ x, OwnTb (w.setCell ⟨g, k, none⟩ (.bool x)) base { T with br := T.br.set k x } := by
  obtain ⟨g, hA, hb, hlt, ho⟩ := h.z3.open_ (by omega)
  have hL := h.z3.rl.1
  refine ⟨g, hA, hb, hlt, ho.frozenAt k, fun hl => ?_, fun x => ?_⟩
  · have := ho.cellAt k (by omega)
    rw [this]
    unfold bcells
    rw [List.getElem?_map, List.getElem?_eq_getElem hl]; rfl
  · have hst := (ho.stored k (.bool x)).1
    rw [bcells_set] at hst
    refine ⟨h.z1.other (fun g' _ _ o hg => ?_) _, h.z2.other ?_ (fun y hy => ?_) _, ⟨h.z3.1, .inr ?_⟩, h.ap⟩
    · intro e
      exact own_apart (by decide) o ho (g := g) rfl (by rw [hg, e])
    · exact own_apart (by decide) h.z2.out ho rfl
    · exact own_apart (by decide) (h.z2.inn y hy).2 ho rfl
    · rw [hA]; exact hst
theorem icellsOf_set (H : List Hi) (k : Nat) (x : Hi) : icellsOf (H.set k x) = (icellsOf H).set k x.v := by unfold icellsOf; rw [List.map_set]
/-- A row of Next is written. -/
theorem OwnTb.nxt {w : World} {base : Nat} {T : TV} (h : OwnTb w base T) {k : Nat} (hk : k < T.n2) : ∃ g, T.a2 = some ⟨g, 0, none⟩ ∧ base ≤ g ∧ g < w.heap.size ∧ w.frozen? ⟨g, k, none⟩ = false ∧ (∀ (hl : k < T.hs.length), w.cell? ⟨g, k, none⟩ = some T.hs[k].v) ∧ ∀ x : Hi, x.l.length = x.n → w.ownsRow base 3 1 x.v x.n (icells x.l) → Apt (T.hs.set k x) → OwnTb (w.setCell ⟨g, k, none⟩ x.v) base { T with hs := T.hs.set k x } := by
  obtain ⟨g, cap, hv, hb, hlt⟩ := h.z2.out.form (by omega)
  have hA : T.a2 = some ⟨g, 0, none⟩ := by injection hv
  have ho := h.z2.out
  rw [hA] at ho
  have hL := h.z2.len
  refine ⟨g, hA, hb, hlt, ho.frozenAt k, fun hl => ?_, fun x hx hxo hap => ?_⟩
  · have := ho.cellAt k (by omega)
    rw [this]
    unfold icellsOf
    rw [List.getElem?_map, List.getElem?_eq_getElem hl]; rfl
  · have hst := (ho.stored k x.v).1
    rw [← icellsOf_set] at hst
    refine ⟨h.z1.other (fun g' _ _ o hg => ?_) _, ⟨by simp only [List.length_set]; exact hL, ?_, fun y hy => ?_⟩, h.z3.other (fun g' _ _ o hg => ?_) _, hap⟩
    · intro e
      exact own_apart (by decide) o ho (g := g) rfl (by rw [hg, e])
    · simp only []; rw [hA]; exact hst
    · have key : ∀ z : Hi, w.ownsRow base 3 1 z.v z.n (icells z.l) → (w.setCell ⟨g, k, none⟩ x.v).ownsRow base 3 1 z.v z.n (icells z.l) := fun z hz => ownsRow_setCell_other (a := ⟨g, k, none⟩) hz (own_apart (g := g) (by decide) hz ho rfl) _
      rcases List.mem_or_eq_of_mem_set hy with hy | rfl
      · exact ⟨(h.z2.inn y hy).1, key y (h.z2.inn y hy).2⟩
      · exact ⟨hx, key _ hxo⟩
    · intro e
      exact own_apart (by decide) o ho (g := g) rfl (by rw [hg, e])
end Go.Proofs.YtnilejdokgagbaaDoor
/- The example's tables; what is said of them. -/
namespace Go.Proofs.YtnilejdokgagbaaDoor
open Go.RowKit Go.BigFrame
set_option linter.unusedVariables false
set_option maxRecDepth 4000
set_option linter.unusedSimpArgs false

def tOne : Tb := { cl := 1, bd := [(0, 0)], nx := [[0]], br := [true] }
def tTwo : Tb := { cl := 2, bd := [(0, 0), (97, 1), (98, 0)], nx := [[0, 1], [0, 0]], br := [false, true] }
def tLst : Tb := { cl := 2, bd := [(0, 0), (97, 1), (98, 0)], nx := [[0, 1], [0, 0]], br := [false, false] }
def tOrd : Tb := { cl := 2, bd := [(0, 0), (97, 1), (98, 0)], nx := [[0, 0], [0, 0]], br := [false, true] }
theorem tOne_err : errV tOne = 0 := by decide
theorem tTwo_err : errV tTwo = 0 := by decide
theorem tLst_err : errV tLst = 30 := by decide
theorem tOrd_err : errV tOrd = 29 := by decide
theorem zeroT_err : errV zeroT = 24 := by decide
theorem tLst_alike : alikeV tLst 0 1 = true := by decide
theorem tTwo_alike : alikeV tTwo 0 1 = false := by decide
theorem tTwo_may : MayT tTwo := ⟨by decide, by decide, by decide, by decide, rfl, by decide, by unfold tTwo byteI; simp, by unfold tTwo byteI; simp⟩
theorem tTwo_small : Small tTwo := ⟨by decide, by decide, by decide⟩
theorem two_body : bodyB tTwo [2] = [66, 82, 75, 49, 2, 2, 3, 0, 0, 0, 0, 0, 0, 97, 1, 0, 0, 98, 0, 0, 1, 0, 0, 2] := by decide
def bTwo : List Nat := sealB [66, 82, 75, 49, 2, 2, 3, 0, 0, 0, 0, 0, 0, 97, 1, 0, 0, 98, 0, 0, 1, 0, 0, 2]
theorem bTwo_is : IsEnc bTwo tTwo := ⟨tTwo_may, [2], w_bits, by rw [two_body]; rfl⟩
theorem bTwo_enc : encR tTwo = some bTwo := encR_yes bTwo_is
theorem bTwo_len : bTwo.length = 28 := enc_len bTwo_is
theorem bTwo_err : errT bTwo = 0 ∧ decR bTwo = tTwo := by
  obtain ⟨h1, h2⟩ := err_enc bTwo_is
  rw [if_pos (by decide)] at h1
  exact ⟨h1, by rw [decR_yes h1, h2]⟩
theorem bTwo_v : vErr bTwo = 0 ∧ vTab bTwo = tTwo := by
  have h : vErr bTwo = 0 := by unfold vErr; rw [if_pos bTwo_err.1, bTwo_err.2]; exact tTwo_err
  exact ⟨h, by unfold vTab; rw [if_pos h]; exact bTwo_err.2⟩
theorem shpN (a : Addr) (n : Nat) (h : n ≤ 1000) : Shp (some a) n n := ⟨fun h => (by cases h), Nat.le_refl _, (by unfold maxLen; omega)⟩
theorem Box.set {w : World} {g : Nat} {T : TV} (h : Box w g T) {a : Addr} (ha : a.block ≠ g) (u : Value) : Box (w.setCell a u) g T :=
  ⟨by simpa using h.1, by rw [World.cell?_setCell_far _ _ _ _ ha]; exact h.2.1, by rw [World.cell?_setCell_far _ _ _ _ ha]; exact h.2.2.1, by rw [World.cell?_setCell_far _ _ _ _ ha]; exact h.2.2.2.1, by rw [World.cell?_setCell_far _ _ _ _ ha]; exact h.2.2.2.2⟩
abbrev tv1 (w : World) : TV := ⟨1, some ⟨w.heap.size, 0, none⟩, 1, 1, [(0, 0)], some ⟨w.heap.size + 2, 0, none⟩, 1, 1, [⟨some ⟨w.heap.size + 1, 0, none⟩, 1, 1, [0]⟩], some ⟨w.heap.size + 3, 0, none⟩, 1, 1, [true]⟩
abbrev tv2 (w : World) : TV := ⟨2, some ⟨w.heap.size + 5, 0, none⟩, 3, 3, [(0, 0), (97, 1), (98, 0)], some ⟨w.heap.size + 8, 0, none⟩, 2, 2, [⟨some ⟨w.heap.size + 6, 0, none⟩, 2, 2, [0, 1]⟩, ⟨some ⟨w.heap.size + 7, 0, none⟩, 2, 2, [0, 0]⟩], some ⟨w.heap.size + 9, 0, none⟩, 2, 2, [false, true]⟩
theorem lits_ok (w : World) : TV.ok (((((((((((w.alloc (.cells #[.int .i64 0, .int .i64 0] 50)).alloc (.cells #[.int .i64 0] 3)).alloc (.cells #[.slice (some ⟨w.heap.size + 1, 0, none⟩) 1 1] 51)).alloc (.cells #[.bool true] 4)).alloc (.cells #[.int .i64 1, .slice (some ⟨w.heap.size, 0, none⟩) 1 1, .slice (some ⟨w.heap.size + 2, 0, none⟩) 1 1, .slice (some ⟨w.heap.size + 3, 0, none⟩) 1 1] 26)).alloc (.cells #[.int .i64 0, .int .i64 0, .int .i64 97, .int .i64 1, .int .i64 98, .int .i64 0] 50)).alloc (.cells #[.int .i64 0, .int .i64 1] 3)).alloc (.cells #[.int .i64 0, .int .i64 0] 3)).alloc (.cells #[.slice (some ⟨w.heap.size + 6, 0, none⟩) 2 2, .slice (some ⟨w.heap.size + 7, 0, none⟩) 2 2] 51)).alloc (.cells #[.bool false, .bool true] 4)).alloc (.cells #[.int .i64 2, .slice (some ⟨w.heap.size + 5, 0, none⟩) 3 3, .slice (some ⟨w.heap.size + 8, 0, none⟩) 2 2, .slice (some ⟨w.heap.size + 9, 0, none⟩) 2 2] 26)) (tv1 w) ∧ TV.ok (((((((((((w.alloc (.cells #[.int .i64 0, .int .i64 0] 50)).alloc (.cells #[.int .i64 0] 3)).alloc (.cells #[.slice (some ⟨w.heap.size + 1, 0, none⟩) 1 1] 51)).alloc (.cells #[.bool true] 4)).alloc (.cells #[.int .i64 1, .slice (some ⟨w.heap.size, 0, none⟩) 1 1, .slice (some ⟨w.heap.size + 2, 0, none⟩) 1 1, .slice (some ⟨w.heap.size + 3, 0, none⟩) 1 1] 26)).alloc (.cells #[.int .i64 0, .int .i64 0, .int .i64 97, .int .i64 1, .int .i64 98, .int .i64 0] 50)).alloc (.cells #[.int .i64 0, .int .i64 1] 3)).alloc (.cells #[.int .i64 0, .int .i64 0] 3)).alloc (.cells #[.slice (some ⟨w.heap.size + 6, 0, none⟩) 2 2, .slice (some ⟨w.heap.size + 7, 0, none⟩) 2 2] 51)).alloc (.cells #[.bool false, .bool true] 4)).alloc (.cells #[.int .i64 2, .slice (some ⟨w.heap.size + 5, 0, none⟩) 3 3, .slice (some ⟨w.heap.size + 8, 0, none⟩) 2 2, .slice (some ⟨w.heap.size + 9, 0, none⟩) 2 2] 26)) (tv2 w) ∧ Below w.heap.size w (((((((((((w.alloc (.cells #[.int .i64 0, .int .i64 0] 50)).alloc (.cells #[.int .i64 0] 3)).alloc (.cells #[.slice (some ⟨w.heap.size + 1, 0, none⟩) 1 1] 51)).alloc (.cells #[.bool true] 4)).alloc (.cells #[.int .i64 1, .slice (some ⟨w.heap.size, 0, none⟩) 1 1, .slice (some ⟨w.heap.size + 2, 0, none⟩) 1 1, .slice (some ⟨w.heap.size + 3, 0, none⟩) 1 1] 26)).alloc (.cells #[.int .i64 0, .int .i64 0, .int .i64 97, .int .i64 1, .int .i64 98, .int .i64 0] 50)).alloc (.cells #[.int .i64 0, .int .i64 1] 3)).alloc (.cells #[.int .i64 0, .int .i64 0] 3)).alloc (.cells #[.slice (some ⟨w.heap.size + 6, 0, none⟩) 2 2, .slice (some ⟨w.heap.size + 7, 0, none⟩) 2 2] 51)).alloc (.cells #[.bool false, .bool true] 4)).alloc (.cells #[.int .i64 2, .slice (some ⟨w.heap.size + 5, 0, none⟩) 3 3, .slice (some ⟨w.heap.size + 8, 0, none⟩) 2 2, .slice (some ⟨w.heap.size + 9, 0, none⟩) 2 2] 26)) ∧ Box (((((((((((w.alloc (.cells #[.int .i64 0, .int .i64 0] 50)).alloc (.cells #[.int .i64 0] 3)).alloc (.cells #[.slice (some ⟨w.heap.size + 1, 0, none⟩) 1 1] 51)).alloc (.cells #[.bool true] 4)).alloc (.cells #[.int .i64 1, .slice (some ⟨w.heap.size, 0, none⟩) 1 1, .slice (some ⟨w.heap.size + 2, 0, none⟩) 1 1, .slice (some ⟨w.heap.size + 3, 0, none⟩) 1 1] 26)).alloc (.cells #[.int .i64 0, .int .i64 0, .int .i64 97, .int .i64 1, .int .i64 98, .int .i64 0] 50)).alloc (.cells #[.int .i64 0, .int .i64 1] 3)).alloc (.cells #[.int .i64 0, .int .i64 0] 3)).alloc (.cells #[.slice (some ⟨w.heap.size + 6, 0, none⟩) 2 2, .slice (some ⟨w.heap.size + 7, 0, none⟩) 2 2] 51)).alloc (.cells #[.bool false, .bool true] 4)).alloc (.cells #[.int .i64 2, .slice (some ⟨w.heap.size + 5, 0, none⟩) 3 3, .slice (some ⟨w.heap.size + 8, 0, none⟩) 2 2, .slice (some ⟨w.heap.size + 9, 0, none⟩) 2 2] 26)) (w.heap.size + 4) (tv1 w) ∧ Box (((((((((((w.alloc (.cells #[.int .i64 0, .int .i64 0] 50)).alloc (.cells #[.int .i64 0] 3)).alloc (.cells #[.slice (some ⟨w.heap.size + 1, 0, none⟩) 1 1] 51)).alloc (.cells #[.bool true] 4)).alloc (.cells #[.int .i64 1, .slice (some ⟨w.heap.size, 0, none⟩) 1 1, .slice (some ⟨w.heap.size + 2, 0, none⟩) 1 1, .slice (some ⟨w.heap.size + 3, 0, none⟩) 1 1] 26)).alloc (.cells #[.int .i64 0, .int .i64 0, .int .i64 97, .int .i64 1, .int .i64 98, .int .i64 0] 50)).alloc (.cells #[.int .i64 0, .int .i64 1] 3)).alloc (.cells #[.int .i64 0, .int .i64 0] 3)).alloc (.cells #[.slice (some ⟨w.heap.size + 6, 0, none⟩) 2 2, .slice (some ⟨w.heap.size + 7, 0, none⟩) 2 2] 51)).alloc (.cells #[.bool false, .bool true] 4)).alloc (.cells #[.int .i64 2, .slice (some ⟨w.heap.size + 5, 0, none⟩) 3 3, .slice (some ⟨w.heap.size + 8, 0, none⟩) 2 2, .slice (some ⟨w.heap.size + 9, 0, none⟩) 2 2] 26)) (w.heap.size + 10) (tv2 w) := by
  have z0 : w.heap.size = w.heap.size + 0 := rfl
  have G0 : Below w.heap.size w w := Below.refl _ _
  have g := below_new w (.cells #[.int .i64 0, .int .i64 0] 50)
  have z1 : (w.alloc (.cells #[.int .i64 0, .int .i64 0] 50)).heap.size = w.heap.size + 1 := by simp; try omega
  have f0 := rd_lit w (w.heap.size) rfl [(0, 0)] 1 #[.int .i64 0, .int .i64 0] rfl rfl (by decide)
  have G1 := G0.trans (g.mono (by omega))
  clear g
  generalize (w.alloc (.cells #[.int .i64 0, .int .i64 0] 50)) = W1 at *
  have g := below_new W1 (.cells #[.int .i64 0] 3)
  have z2 : (W1.alloc (.cells #[.int .i64 0] 3)).heap.size = w.heap.size + 2 := by simp; try omega
  have f1 := ri_lit W1 (w.heap.size + 1) z1.symm [0] 1 #[.int .i64 0] rfl rfl (by decide)
  replace f0 := f0.on g
  have G2 := G1.trans (g.mono (by omega))
  clear g
  generalize (W1.alloc (.cells #[.int .i64 0] 3)) = W2 at *
  have g := below_new W2 (.cells #[.slice (some ⟨w.heap.size + 1, 0, none⟩) 1 1] 51)
  have z3 : (W2.alloc (.cells #[.slice (some ⟨w.heap.size + 1, 0, none⟩) 1 1] 51)).heap.size = w.heap.size + 3 := by simp; try omega
  have f2 := rn_lit W2 (w.heap.size + 2) z2.symm [⟨some ⟨w.heap.size + 1, 0, none⟩, 1, 1, [0]⟩] 1 #[.slice (some ⟨w.heap.size + 1, 0, none⟩) 1 1] rfl rfl (by decide) (fun h hh => by
    simp only [List.mem_cons, List.not_mem_nil, or_false] at hh
    rcases hh with rfl
    · exact ⟨f1, shpN _ 1 (by decide)⟩)
  replace f0 := f0.on g
  replace f1 := f1.on g
  have G3 := G2.trans (g.mono (by omega))
  clear g
  generalize (W2.alloc (.cells #[.slice (some ⟨w.heap.size + 1, 0, none⟩) 1 1] 51)) = W3 at *
  have g := below_new W3 (.cells #[.bool true] 4)
  have z4 : (W3.alloc (.cells #[.bool true] 4)).heap.size = w.heap.size + 4 := by simp; try omega
  have f3 := rl_lit W3 (w.heap.size + 3) z3.symm [true] 1 #[.bool true] rfl rfl (by decide)
  replace f0 := f0.on g
  replace f1 := f1.on g
  replace f2 := f2.on g
  have G4 := G3.trans (g.mono (by omega))
  clear g
  generalize (W3.alloc (.cells #[.bool true] 4)) = W4 at *
  have g := below_new W4 (.cells #[.int .i64 1, .slice (some ⟨w.heap.size, 0, none⟩) 1 1, .slice (some ⟨w.heap.size + 2, 0, none⟩) 1 1, .slice (some ⟨w.heap.size + 3, 0, none⟩) 1 1] 26)
  have z5 : (W4.alloc (.cells #[.int .i64 1, .slice (some ⟨w.heap.size, 0, none⟩) 1 1, .slice (some ⟨w.heap.size + 2, 0, none⟩) 1 1, .slice (some ⟨w.heap.size + 3, 0, none⟩) 1 1] 26)).heap.size = w.heap.size + 5 := by simp; try omega
  have x4 : Box (W4.alloc (.cells #[.int .i64 1, .slice (some ⟨w.heap.size, 0, none⟩) 1 1, .slice (some ⟨w.heap.size + 2, 0, none⟩) 1 1, .slice (some ⟨w.heap.size + 3, 0, none⟩) 1 1] 26)) (w.heap.size + 4) ⟨1, some ⟨w.heap.size, 0, none⟩, 1, 1, [(0, 0)], some ⟨w.heap.size + 2, 0, none⟩, 1, 1, [⟨some ⟨w.heap.size + 1, 0, none⟩, 1, 1, [0]⟩], some ⟨w.heap.size + 3, 0, none⟩, 1, 1, [true]⟩ := by
    have h := box_new W4 ⟨1, some ⟨w.heap.size, 0, none⟩, 1, 1, [(0, 0)], some ⟨w.heap.size + 2, 0, none⟩, 1, 1, [⟨some ⟨w.heap.size + 1, 0, none⟩, 1, 1, [0]⟩], some ⟨w.heap.size + 3, 0, none⟩, 1, 1, [true]⟩
    rw [z4] at h
    exact h
  have o4 : TV.ok (W4.alloc (.cells #[.int .i64 1, .slice (some ⟨w.heap.size, 0, none⟩) 1 1, .slice (some ⟨w.heap.size + 2, 0, none⟩) 1 1, .slice (some ⟨w.heap.size + 3, 0, none⟩) 1 1] 26)) ⟨1, some ⟨w.heap.size, 0, none⟩, 1, 1, [(0, 0)], some ⟨w.heap.size + 2, 0, none⟩, 1, 1, [⟨some ⟨w.heap.size + 1, 0, none⟩, 1, 1, [0]⟩], some ⟨w.heap.size + 3, 0, none⟩, 1, 1, [true]⟩ := TV.ok.on (w := W4) ⟨f0, shpN _ 1 (by decide), f2, shpN _ 1 (by decide), f3, shpN _ 1 (by decide)⟩ g
  replace f0 := f0.on g
  replace f1 := f1.on g
  replace f2 := f2.on g
  replace f3 := f3.on g
  have G5 := G4.trans (g.mono (by omega))
  clear g
  generalize (W4.alloc (.cells #[.int .i64 1, .slice (some ⟨w.heap.size, 0, none⟩) 1 1, .slice (some ⟨w.heap.size + 2, 0, none⟩) 1 1, .slice (some ⟨w.heap.size + 3, 0, none⟩) 1 1] 26)) = W5 at *
  have g := below_new W5 (.cells #[.int .i64 0, .int .i64 0, .int .i64 97, .int .i64 1, .int .i64 98, .int .i64 0] 50)
  have z6 : (W5.alloc (.cells #[.int .i64 0, .int .i64 0, .int .i64 97, .int .i64 1, .int .i64 98, .int .i64 0] 50)).heap.size = w.heap.size + 6 := by simp; try omega
  have f5 := rd_lit W5 (w.heap.size + 5) z5.symm [(0, 0), (97, 1), (98, 0)] 3 #[.int .i64 0, .int .i64 0, .int .i64 97, .int .i64 1, .int .i64 98, .int .i64 0] rfl rfl (by decide)
  replace f0 := f0.on g
  replace f1 := f1.on g
  replace f2 := f2.on g
  replace f3 := f3.on g
  replace x4 := x4.on g
  replace o4 := o4.on g
  have G6 := G5.trans (g.mono (by omega))
  clear g
  generalize (W5.alloc (.cells #[.int .i64 0, .int .i64 0, .int .i64 97, .int .i64 1, .int .i64 98, .int .i64 0] 50)) = W6 at *
  have g := below_new W6 (.cells #[.int .i64 0, .int .i64 1] 3)
  have z7 : (W6.alloc (.cells #[.int .i64 0, .int .i64 1] 3)).heap.size = w.heap.size + 7 := by simp; try omega
  have f6 := ri_lit W6 (w.heap.size + 6) z6.symm [0, 1] 2 #[.int .i64 0, .int .i64 1] rfl rfl (by decide)
  replace f0 := f0.on g
  replace f1 := f1.on g
  replace f2 := f2.on g
  replace f3 := f3.on g
  replace x4 := x4.on g
  replace o4 := o4.on g
  replace f5 := f5.on g
  have G7 := G6.trans (g.mono (by omega))
  clear g
  generalize (W6.alloc (.cells #[.int .i64 0, .int .i64 1] 3)) = W7 at *
  have g := below_new W7 (.cells #[.int .i64 0, .int .i64 0] 3)
  have z8 : (W7.alloc (.cells #[.int .i64 0, .int .i64 0] 3)).heap.size = w.heap.size + 8 := by simp; try omega
  have f7 := ri_lit W7 (w.heap.size + 7) z7.symm [0, 0] 2 #[.int .i64 0, .int .i64 0] rfl rfl (by decide)
  replace f0 := f0.on g
  replace f1 := f1.on g
  replace f2 := f2.on g
  replace f3 := f3.on g
  replace x4 := x4.on g
  replace o4 := o4.on g
  replace f5 := f5.on g
  replace f6 := f6.on g
  have G8 := G7.trans (g.mono (by omega))
  clear g
  generalize (W7.alloc (.cells #[.int .i64 0, .int .i64 0] 3)) = W8 at *
  have g := below_new W8 (.cells #[.slice (some ⟨w.heap.size + 6, 0, none⟩) 2 2, .slice (some ⟨w.heap.size + 7, 0, none⟩) 2 2] 51)
  have z9 : (W8.alloc (.cells #[.slice (some ⟨w.heap.size + 6, 0, none⟩) 2 2, .slice (some ⟨w.heap.size + 7, 0, none⟩) 2 2] 51)).heap.size = w.heap.size + 9 := by simp; try omega
  have f8 := rn_lit W8 (w.heap.size + 8) z8.symm [⟨some ⟨w.heap.size + 6, 0, none⟩, 2, 2, [0, 1]⟩, ⟨some ⟨w.heap.size + 7, 0, none⟩, 2, 2, [0, 0]⟩] 2 #[.slice (some ⟨w.heap.size + 6, 0, none⟩) 2 2, .slice (some ⟨w.heap.size + 7, 0, none⟩) 2 2] rfl rfl (by decide) (fun h hh => by
    simp only [List.mem_cons, List.not_mem_nil, or_false] at hh
    rcases hh with rfl | rfl
    · exact ⟨f6, shpN _ 2 (by decide)⟩
    · exact ⟨f7, shpN _ 2 (by decide)⟩)
  replace f0 := f0.on g
  replace f1 := f1.on g
  replace f2 := f2.on g
  replace f3 := f3.on g
  replace x4 := x4.on g
  replace o4 := o4.on g
  replace f5 := f5.on g
  replace f6 := f6.on g
  replace f7 := f7.on g
  have G9 := G8.trans (g.mono (by omega))
  clear g
  generalize (W8.alloc (.cells #[.slice (some ⟨w.heap.size + 6, 0, none⟩) 2 2, .slice (some ⟨w.heap.size + 7, 0, none⟩) 2 2] 51)) = W9 at *
  have g := below_new W9 (.cells #[.bool false, .bool true] 4)
  have z10 : (W9.alloc (.cells #[.bool false, .bool true] 4)).heap.size = w.heap.size + 10 := by simp; try omega
  have f9 := rl_lit W9 (w.heap.size + 9) z9.symm [false, true] 2 #[.bool false, .bool true] rfl rfl (by decide)
  replace f0 := f0.on g
  replace f1 := f1.on g
  replace f2 := f2.on g
  replace f3 := f3.on g
  replace x4 := x4.on g
  replace o4 := o4.on g
  replace f5 := f5.on g
  replace f6 := f6.on g
  replace f7 := f7.on g
  replace f8 := f8.on g
  have G10 := G9.trans (g.mono (by omega))
  clear g
  generalize (W9.alloc (.cells #[.bool false, .bool true] 4)) = W10 at *
  have g := below_new W10 (.cells #[.int .i64 2, .slice (some ⟨w.heap.size + 5, 0, none⟩) 3 3, .slice (some ⟨w.heap.size + 8, 0, none⟩) 2 2, .slice (some ⟨w.heap.size + 9, 0, none⟩) 2 2] 26)
  have z11 : (W10.alloc (.cells #[.int .i64 2, .slice (some ⟨w.heap.size + 5, 0, none⟩) 3 3, .slice (some ⟨w.heap.size + 8, 0, none⟩) 2 2, .slice (some ⟨w.heap.size + 9, 0, none⟩) 2 2] 26)).heap.size = w.heap.size + 11 := by simp; try omega
  have x10 : Box (W10.alloc (.cells #[.int .i64 2, .slice (some ⟨w.heap.size + 5, 0, none⟩) 3 3, .slice (some ⟨w.heap.size + 8, 0, none⟩) 2 2, .slice (some ⟨w.heap.size + 9, 0, none⟩) 2 2] 26)) (w.heap.size + 10) ⟨2, some ⟨w.heap.size + 5, 0, none⟩, 3, 3, [(0, 0), (97, 1), (98, 0)], some ⟨w.heap.size + 8, 0, none⟩, 2, 2, [⟨some ⟨w.heap.size + 6, 0, none⟩, 2, 2, [0, 1]⟩, ⟨some ⟨w.heap.size + 7, 0, none⟩, 2, 2, [0, 0]⟩], some ⟨w.heap.size + 9, 0, none⟩, 2, 2, [false, true]⟩ := by
    have h := box_new W10 ⟨2, some ⟨w.heap.size + 5, 0, none⟩, 3, 3, [(0, 0), (97, 1), (98, 0)], some ⟨w.heap.size + 8, 0, none⟩, 2, 2, [⟨some ⟨w.heap.size + 6, 0, none⟩, 2, 2, [0, 1]⟩, ⟨some ⟨w.heap.size + 7, 0, none⟩, 2, 2, [0, 0]⟩], some ⟨w.heap.size + 9, 0, none⟩, 2, 2, [false, true]⟩
    rw [z10] at h
    exact h
  have o10 : TV.ok (W10.alloc (.cells #[.int .i64 2, .slice (some ⟨w.heap.size + 5, 0, none⟩) 3 3, .slice (some ⟨w.heap.size + 8, 0, none⟩) 2 2, .slice (some ⟨w.heap.size + 9, 0, none⟩) 2 2] 26)) ⟨2, some ⟨w.heap.size + 5, 0, none⟩, 3, 3, [(0, 0), (97, 1), (98, 0)], some ⟨w.heap.size + 8, 0, none⟩, 2, 2, [⟨some ⟨w.heap.size + 6, 0, none⟩, 2, 2, [0, 1]⟩, ⟨some ⟨w.heap.size + 7, 0, none⟩, 2, 2, [0, 0]⟩], some ⟨w.heap.size + 9, 0, none⟩, 2, 2, [false, true]⟩ := TV.ok.on (w := W10) ⟨f5, shpN _ 3 (by decide), f8, shpN _ 2 (by decide), f9, shpN _ 2 (by decide)⟩ g
  replace f0 := f0.on g
  replace f1 := f1.on g
  replace f2 := f2.on g
  replace f3 := f3.on g
  replace x4 := x4.on g
  replace o4 := o4.on g
  replace f5 := f5.on g
  replace f6 := f6.on g
  replace f7 := f7.on g
  replace f8 := f8.on g
  replace f9 := f9.on g
  have G11 := G10.trans (g.mono (by omega))
  clear g
  generalize (W10.alloc (.cells #[.int .i64 2, .slice (some ⟨w.heap.size + 5, 0, none⟩) 3 3, .slice (some ⟨w.heap.size + 8, 0, none⟩) 2 2, .slice (some ⟨w.heap.size + 9, 0, none⟩) 2 2] 26)) = W11 at *
  exact ⟨o4, o10, G11, x4, x10⟩
end Go.Proofs.YtnilejdokgagbaaDoor
/- What the example of stage 7's statements returns. -/
namespace Go.Proofs.YtnilejdokgagbaaDoor
open Go.RowKit Go.BigFrame
set_option linter.unusedVariables false
set_option maxRecDepth 4000
set_option linter.unusedSimpArgs false
theorem Apt.set_new {H : List Hi} {x : Hi} (h : Apt H) {B : Nat} (h1 : ∀ y ∈ H, ∀ g, y.v.ownBlock = some g → g < B) (h2 : ∀ g, x.v.ownBlock = some g → B ≤ g) (k : Nat) : Apt (H.set k x) := by
  unfold Apt at h ⊢
  rw [List.pairwise_iff_getElem] at h ⊢
  intro i j hi hj hij g hg hg'
  rw [List.length_set] at hi hj
  rw [List.getElem_set] at hg hg'
  by_cases e1 : k = i
  · by_cases e2 : k = j
    · omega
    · rw [if_pos e1] at hg; rw [if_neg e2] at hg'
      have a := h2 g hg; have b := h1 _ (List.getElem_mem hj) g hg'; omega
  · by_cases e2 : k = j
    · rw [if_neg e1] at hg; rw [if_pos e2] at hg'
      have a := h2 g hg'; have b := h1 _ (List.getElem_mem hi) g hg; omega
    · rw [if_neg e1] at hg; rw [if_neg e2] at hg'
      exact h i j hi hj hij g hg hg'
set_option maxHeartbeats 8000000 in
theorem wakesV_any (w : World) (hM : Mark w) : Calls Tryd.prog 17 #[] w fun e w' => e = .returned (.bool true) ∧ Below w.heap.size w w' := by
  obtain ⟨o1, o2, bb, x1, x2⟩ := lits_ok w
  have HT1 := Lib.hid o1
  have HT2 := Lib.hid o2
  have HX1 := Lib.hid x1
  have HX2 := Lib.hid x2
  have HM := Lib.hid (hM.on bb)
  have E1 : Hid (errV (tv1 w).tb = 0) := Lib.hid tOne_err
  have E2 : Hid (errV (tv2 w).tb = 0) := Lib.hid tTwo_err
  have E3 : Hid ((tv2 w).tb = tTwo) := Lib.hid rfl
  have q1 : (tv1 w).v = TV.v (tv1 w) := rfl
  clear o1 o2 hM q1
  have x20 : (((((((((((w.alloc (.cells #[.int .i64 0, .int .i64 0] 50)).alloc (.cells #[.int .i64 0] 3)).alloc (.cells #[.slice (some ⟨w.heap.size + 1, 0, none⟩) 1 1] 51)).alloc (.cells #[.bool true] 4)).alloc (.cells #[.int .i64 1, .slice (some ⟨w.heap.size, 0, none⟩) 1 1, .slice (some ⟨w.heap.size + 2, 0, none⟩) 1 1, .slice (some ⟨w.heap.size + 3, 0, none⟩) 1 1] 26)).alloc (.cells #[.int .i64 0, .int .i64 0, .int .i64 97, .int .i64 1, .int .i64 98, .int .i64 0] 50)).alloc (.cells #[.int .i64 0, .int .i64 1] 3)).alloc (.cells #[.int .i64 0, .int .i64 0] 3)).alloc (.cells #[.slice (some ⟨w.heap.size + 6, 0, none⟩) 2 2, .slice (some ⟨w.heap.size + 7, 0, none⟩) 2 2] 51)).alloc (.cells #[.bool false, .bool true] 4)).alloc (.cells #[.int .i64 2, .slice (some ⟨w.heap.size + 5, 0, none⟩) 3 3, .slice (some ⟨w.heap.size + 8, 0, none⟩) 2 2, .slice (some ⟨w.heap.size + 9, 0, none⟩) 2 2] 26)).cell? ⟨w.heap.size + 1 + 1 + 1 + 1 + 1 + 1 + 1 + 1 + 1 + 1, 0, none⟩ = some (.int .i64 2) := x2.2.1
  have x21 : (((((((((((w.alloc (.cells #[.int .i64 0, .int .i64 0] 50)).alloc (.cells #[.int .i64 0] 3)).alloc (.cells #[.slice (some ⟨w.heap.size + 1, 0, none⟩) 1 1] 51)).alloc (.cells #[.bool true] 4)).alloc (.cells #[.int .i64 1, .slice (some ⟨w.heap.size, 0, none⟩) 1 1, .slice (some ⟨w.heap.size + 2, 0, none⟩) 1 1, .slice (some ⟨w.heap.size + 3, 0, none⟩) 1 1] 26)).alloc (.cells #[.int .i64 0, .int .i64 0, .int .i64 97, .int .i64 1, .int .i64 98, .int .i64 0] 50)).alloc (.cells #[.int .i64 0, .int .i64 1] 3)).alloc (.cells #[.int .i64 0, .int .i64 0] 3)).alloc (.cells #[.slice (some ⟨w.heap.size + 6, 0, none⟩) 2 2, .slice (some ⟨w.heap.size + 7, 0, none⟩) 2 2] 51)).alloc (.cells #[.bool false, .bool true] 4)).alloc (.cells #[.int .i64 2, .slice (some ⟨w.heap.size + 5, 0, none⟩) 3 3, .slice (some ⟨w.heap.size + 8, 0, none⟩) 2 2, .slice (some ⟨w.heap.size + 9, 0, none⟩) 2 2] 26)).cell? ⟨w.heap.size + 1 + 1 + 1 + 1 + 1 + 1 + 1 + 1 + 1 + 1, 1, none⟩ = some (.slice (some ⟨w.heap.size + 5, 0, none⟩) 3 3) := x2.2.2.1
  have x22 : (((((((((((w.alloc (.cells #[.int .i64 0, .int .i64 0] 50)).alloc (.cells #[.int .i64 0] 3)).alloc (.cells #[.slice (some ⟨w.heap.size + 1, 0, none⟩) 1 1] 51)).alloc (.cells #[.bool true] 4)).alloc (.cells #[.int .i64 1, .slice (some ⟨w.heap.size, 0, none⟩) 1 1, .slice (some ⟨w.heap.size + 2, 0, none⟩) 1 1, .slice (some ⟨w.heap.size + 3, 0, none⟩) 1 1] 26)).alloc (.cells #[.int .i64 0, .int .i64 0, .int .i64 97, .int .i64 1, .int .i64 98, .int .i64 0] 50)).alloc (.cells #[.int .i64 0, .int .i64 1] 3)).alloc (.cells #[.int .i64 0, .int .i64 0] 3)).alloc (.cells #[.slice (some ⟨w.heap.size + 6, 0, none⟩) 2 2, .slice (some ⟨w.heap.size + 7, 0, none⟩) 2 2] 51)).alloc (.cells #[.bool false, .bool true] 4)).alloc (.cells #[.int .i64 2, .slice (some ⟨w.heap.size + 5, 0, none⟩) 3 3, .slice (some ⟨w.heap.size + 8, 0, none⟩) 2 2, .slice (some ⟨w.heap.size + 9, 0, none⟩) 2 2] 26)).cell? ⟨w.heap.size + 1 + 1 + 1 + 1 + 1 + 1 + 1 + 1 + 1 + 1, 2, none⟩ = some (.slice (some ⟨w.heap.size + 8, 0, none⟩) 2 2) := x2.2.2.2.1
  have x23 : (((((((((((w.alloc (.cells #[.int .i64 0, .int .i64 0] 50)).alloc (.cells #[.int .i64 0] 3)).alloc (.cells #[.slice (some ⟨w.heap.size + 1, 0, none⟩) 1 1] 51)).alloc (.cells #[.bool true] 4)).alloc (.cells #[.int .i64 1, .slice (some ⟨w.heap.size, 0, none⟩) 1 1, .slice (some ⟨w.heap.size + 2, 0, none⟩) 1 1, .slice (some ⟨w.heap.size + 3, 0, none⟩) 1 1] 26)).alloc (.cells #[.int .i64 0, .int .i64 0, .int .i64 97, .int .i64 1, .int .i64 98, .int .i64 0] 50)).alloc (.cells #[.int .i64 0, .int .i64 1] 3)).alloc (.cells #[.int .i64 0, .int .i64 0] 3)).alloc (.cells #[.slice (some ⟨w.heap.size + 6, 0, none⟩) 2 2, .slice (some ⟨w.heap.size + 7, 0, none⟩) 2 2] 51)).alloc (.cells #[.bool false, .bool true] 4)).alloc (.cells #[.int .i64 2, .slice (some ⟨w.heap.size + 5, 0, none⟩) 3 3, .slice (some ⟨w.heap.size + 8, 0, none⟩) 2 2, .slice (some ⟨w.heap.size + 9, 0, none⟩) 2 2] 26)).cell? ⟨w.heap.size + 1 + 1 + 1 + 1 + 1 + 1 + 1 + 1 + 1 + 1, 3, none⟩ = some (.slice (some ⟨w.heap.size + 9, 0, none⟩) 2 2) := x2.2.2.2.2
  clear x1 x2
  go_enter Tryd.func17, Tryd.ntmps17
  go_wp2_with fail
  generalize (((((((((((w.alloc (.cells #[.int .i64 0, .int .i64 0] 50)).alloc (.cells #[.int .i64 0] 3)).alloc (.cells #[.slice (some ⟨w.heap.size + 1, 0, none⟩) 1 1] 51)).alloc (.cells #[.bool true] 4)).alloc (.cells #[.int .i64 1, .slice (some ⟨w.heap.size, 0, none⟩) 1 1, .slice (some ⟨w.heap.size + 2, 0, none⟩) 1 1, .slice (some ⟨w.heap.size + 3, 0, none⟩) 1 1] 26)).alloc (.cells #[.int .i64 0, .int .i64 0, .int .i64 97, .int .i64 1, .int .i64 98, .int .i64 0] 50)).alloc (.cells #[.int .i64 0, .int .i64 1] 3)).alloc (.cells #[.int .i64 0, .int .i64 0] 3)).alloc (.cells #[.slice (some ⟨w.heap.size + 6, 0, none⟩) 2 2, .slice (some ⟨w.heap.size + 7, 0, none⟩) 2 2] 51)).alloc (.cells #[.bool false, .bool true] 4)).alloc (.cells #[.int .i64 2, .slice (some ⟨w.heap.size + 5, 0, none⟩) 3 3, .slice (some ⟨w.heap.size + 8, 0, none⟩) 2 2, .slice (some ⟨w.heap.size + 9, 0, none⟩) 2 2] 26)) = W at *
  refine (ownTableA_any (tv2 w) _ HT2.out tTwo_small).mono ?_
  rintro e w1 ⟨⟨Lc, La1, Ln1, Lc1, Lbd, La2, Ln2, Lc2, Lhs, La3, Ln3, Lc3, Lbr⟩, rfl, tbL, okL, g, ob⟩
  rw [E3.out] at tbL
  have hbr : Lbr = [false, true] := congrArg Tb.br tbL
  have hn3 : Lbr.length = Ln3 := okL.r3.1
  rw [hbr] at hn3
  obtain rfl : Ln3 = 2 := hn3.symm
  subst hbr
  have bx := below_new w1 (.cells #[.int .i64 Lc, .slice La1 Ln1 Lc1, .slice La2 Ln2 Lc2, .slice La3 2 Lc3] 26)
  have xL := box_new w1 ⟨Lc, La1, Ln1, Lc1, Lbd, La2, Ln2, Lc2, Lhs, La3, 2, Lc3, [false, true]⟩
  obtain ⟨g3, hA3, hb3, hlt3, fz3, ce3, st3⟩ := (ob.on bx).brk (k := 1) (by simp)
  have hA3' : La3 = some ⟨g3, 0, none⟩ := hA3
  subst hA3'
  have hlt4 : g3 < w1.heap.size := (by
    obtain ⟨g4, hA4, _, h4, _⟩ := ob.brk (k := 1) (by simp)
    injection hA4 with hA4
    injection hA4 with hA4
    omega)
  have ce3' := ce3 (by simp)
  have bW1 : Below W.heap.size W (w1.alloc (.cells #[.int .i64 Lc, .slice La1 Ln1 Lc1, .slice La2 Ln2 Lc2, .slice (some ⟨g3, 0, none⟩) 2 Lc3] 26)) := g.trans (bx.mono g.size)
  have bWL : Below W.heap.size W ((w1.alloc (.cells #[.int .i64 Lc, .slice La1 Ln1 Lc1, .slice La2 Ln2 Lc2, .slice (some ⟨g3, 0, none⟩) 2 Lc3] 26)).setCell ⟨g3, 1, none⟩ (.bool false)) := bW1.setCell (p := ⟨g3, 1, none⟩) hb3 _
  have HTL : Hid (TV.ok ((w1.alloc (.cells #[.int .i64 Lc, .slice La1 Ln1 Lc1, .slice La2 Ln2 Lc2, .slice (some ⟨g3, 0, none⟩) 2 Lc3] 26)).setCell ⟨g3, 1, none⟩ (.bool false)) ⟨Lc, La1, Ln1, Lc1, Lbd, La2, Ln2, Lc2, Lhs, some ⟨g3, 0, none⟩, 2, Lc3, ([false, true] : List Bool).set 1 false⟩) := Lib.hid (st3 false).ok
  have HTbL : Hid (TV.tb ⟨Lc, La1, Ln1, Lc1, Lbd, La2, Ln2, Lc2, Lhs, some ⟨g3, 0, none⟩, 2, Lc3, ([false, true] : List Bool).set 1 false⟩ = tLst) := Lib.hid (by
    have e1 : Lc = 2 := congrArg Tb.cl tbL
    have e2 : Lbd = [(0, 0), (97, 1), (98, 0)] := congrArg Tb.bd tbL
    have e3 : listsOf Lhs = [[0, 1], [0, 0]] := congrArg Tb.nx tbL
    unfold TV.tb tLst
    simp only [e1, e2, e3]
    rfl)
  have HXL : Hid (Box ((w1.alloc (.cells #[.int .i64 Lc, .slice La1 Ln1 Lc1, .slice La2 Ln2 Lc2, .slice (some ⟨g3, 0, none⟩) 2 Lc3] 26)).setCell ⟨g3, 1, none⟩ (.bool false)) w1.heap.size ⟨Lc, La1, Ln1, Lc1, Lbd, La2, Ln2, Lc2, Lhs, some ⟨g3, 0, none⟩, 2, Lc3, ([false, true] : List Bool).set 1 false⟩) := Lib.hid (Box.set (T := ⟨Lc, La1, Ln1, Lc1, Lbd, La2, Ln2, Lc2, Lhs, some ⟨g3, 0, none⟩, 2, Lc3, ([false, true] : List Bool).set 1 false⟩) xL (show g3 ≠ w1.heap.size by omega) _)
  have hcomm : ((w1.alloc (.cells #[.int .i64 Lc, .slice La1 Ln1 Lc1, .slice La2 Ln2 Lc2, .slice (some ⟨g3, 0, none⟩) 2 Lc3] 26)).setCell ⟨g3, 1, none⟩ (.bool false)) = ((w1.setCell ⟨g3, 1, none⟩ (.bool false)).alloc (.cells #[.int .i64 Lc, .slice La1 Ln1 Lc1, .slice La2 Ln2 Lc2, .slice (some ⟨g3, 0, none⟩) 2 Lc3] 26)) := by rw [World.setCell_alloc_past]; exact hlt4
  rw [hcomm] at bWL HTL HXL
  have xz := HX2.out.on bWL
  have y20 : ((w1.setCell ⟨g3, 1, none⟩ (.bool false)).alloc (.cells #[.int .i64 Lc, .slice La1 Ln1 Lc1, .slice La2 Ln2 Lc2, .slice (some ⟨g3, 0, none⟩) 2 Lc3] 26)).cell? ⟨w.heap.size + 1 + 1 + 1 + 1 + 1 + 1 + 1 + 1 + 1 + 1, 0, none⟩ = some (.int .i64 2) := xz.2.1
  have y21 : ((w1.setCell ⟨g3, 1, none⟩ (.bool false)).alloc (.cells #[.int .i64 Lc, .slice La1 Ln1 Lc1, .slice La2 Ln2 Lc2, .slice (some ⟨g3, 0, none⟩) 2 Lc3] 26)).cell? ⟨w.heap.size + 1 + 1 + 1 + 1 + 1 + 1 + 1 + 1 + 1 + 1, 1, none⟩ = some (.slice (some ⟨w.heap.size + 5, 0, none⟩) 3 3) := xz.2.2.1
  have y22 : ((w1.setCell ⟨g3, 1, none⟩ (.bool false)).alloc (.cells #[.int .i64 Lc, .slice La1 Ln1 Lc1, .slice La2 Ln2 Lc2, .slice (some ⟨g3, 0, none⟩) 2 Lc3] 26)).cell? ⟨w.heap.size + 1 + 1 + 1 + 1 + 1 + 1 + 1 + 1 + 1 + 1, 2, none⟩ = some (.slice (some ⟨w.heap.size + 8, 0, none⟩) 2 2) := xz.2.2.2.1
  have y23 : ((w1.setCell ⟨g3, 1, none⟩ (.bool false)).alloc (.cells #[.int .i64 Lc, .slice La1 Ln1 Lc1, .slice La2 Ln2 Lc2, .slice (some ⟨g3, 0, none⟩) 2 Lc3] 26)).cell? ⟨w.heap.size + 1 + 1 + 1 + 1 + 1 + 1 + 1 + 1 + 1 + 1, 3, none⟩ = some (.slice (some ⟨w.heap.size + 9, 0, none⟩) 2 2) := xz.2.2.2.2
  clear xz okL g ob ce3 st3 hb3 hlt3 hA3 bW1 xL
  simp only [TV.v]
  go_wp2_with fail
  clear hcomm
  generalize ((w1.setCell ⟨g3, 1, none⟩ (.bool false)).alloc (.cells #[.int .i64 Lc, .slice La1 Ln1 Lc1, .slice La2 Ln2 Lc2, .slice (some ⟨g3, 0, none⟩) 2 Lc3] 26)) = WL at *
  clear x20 x21 x22 x23 bx tbL y20 y21 y22 y23 fz3 ce3' hlt4
  refine (ownTableA_any (tv2 w) _ (HT2.out.on bWL) tTwo_small).mono ?_
  rintro e w2 ⟨⟨Oc, Oa1, On1, Oc1, Obd, Oa2, On2, Oc2, Ohs, Oa3, On3, Oc3, Obr⟩, rfl, tbO, okO, g, ob⟩
  rw [E3.out] at tbO
  have hls : listsOf Ohs = [[0, 1], [0, 0]] := congrArg Tb.nx tbO
  have hn2 : Ohs.length = On2 := okO.r2.1
  have hl2 : Ohs.length = 2 := by rw [← listsOf_len, hls]; rfl
  obtain rfl : On2 = 2 := by omega
  have bx1 := below_new w2 (.cells #[.int .i64 Oc, .slice Oa1 On1 Oc1, .slice Oa2 2 Oc2, .slice Oa3 On3 Oc3] 26)
  have bx2 := below_new (w2.alloc (.cells #[.int .i64 Oc, .slice Oa1 On1 Oc1, .slice Oa2 2 Oc2, .slice Oa3 On3 Oc3] 26)) (.cells #[.int .i64 0, .int .i64 0] 3)
  have xO := (box_new w2 ⟨Oc, Oa1, On1, Oc1, Obd, Oa2, 2, Oc2, Ohs, Oa3, On3, Oc3, Obr⟩).on bx2
  have hlit := World.ownsRow_lit (e := 3) (size := 1) (w2.alloc (.cells #[.int .i64 Oc, .slice Oa1 On1 Oc1, .slice Oa2 2 Oc2, .slice Oa3 On3 Oc3] 26)) #[.int .i64 0, .int .i64 0] 2 (Nat.le_refl _) (by unfold maxLen; omega) (by decide)
  have hsz2 : (w2.alloc (.cells #[.int .i64 Oc, .slice Oa1 On1 Oc1, .slice Oa2 2 Oc2, .slice Oa3 On3 Oc3] 26)).heap.size = w2.heap.size + 1 := by simp
  rw [hsz2] at hlit
  obtain ⟨gn, hA2, hb2, hlt2, fz2, ce2, st2⟩ := ((ob.on bx1).on bx2).nxt (k := 0) (by simp)
  have hA2' : Oa2 = some ⟨gn, 0, none⟩ := hA2
  subst hA2'
  have ce2' := ce2 (by simp only []; omega)
  have hlt4 : gn < w2.heap.size := (by
    obtain ⟨g4, hA4, _, h4, _⟩ := ob.nxt (k := 0) (by simp)
    injection hA4 with hA4
    injection hA4 with hA4
    omega)
  have hgs := g.size
  have hap : Apt (Ohs.set 0 ⟨some ⟨w2.heap.size + 1, 0, none⟩, 2, 2, [0, 0]⟩) := ob.ap.set_new (B := w2.heap.size) (fun y hy g hg => ((ob.z2.inn y hy).2.lt g hg).2) (fun g hg => by
    simp [Hi.v, Value.ownBlock] at hg
    omega) 0
  have stO := st2 ⟨some ⟨w2.heap.size + 1, 0, none⟩, 2, 2, [0, 0]⟩ rfl (own_base hlit (by omega)) hap
  have bO1 : Below WL.heap.size WL ((w2.alloc (.cells #[.int .i64 Oc, .slice Oa1 On1 Oc1, .slice (some ⟨gn, 0, none⟩) 2 Oc2, .slice Oa3 On3 Oc3] 26)).alloc (.cells #[.int .i64 0, .int .i64 0] 3)) := (g.trans (bx1.mono g.size)).trans (bx2.mono (by rw [hsz2]; omega))
  have bWO : Below WL.heap.size WL (((w2.alloc (.cells #[.int .i64 Oc, .slice Oa1 On1 Oc1, .slice (some ⟨gn, 0, none⟩) 2 Oc2, .slice Oa3 On3 Oc3] 26)).alloc (.cells #[.int .i64 0, .int .i64 0] 3)).setCell ⟨gn, 0, none⟩ (.slice (some ⟨w2.heap.size + 1, 0, none⟩) 2 2)) := bO1.setCell (p := ⟨gn, 0, none⟩) hb2 _
  have HTO : Hid (TV.ok (((w2.alloc (.cells #[.int .i64 Oc, .slice Oa1 On1 Oc1, .slice (some ⟨gn, 0, none⟩) 2 Oc2, .slice Oa3 On3 Oc3] 26)).alloc (.cells #[.int .i64 0, .int .i64 0] 3)).setCell ⟨gn, 0, none⟩ (.slice (some ⟨w2.heap.size + 1, 0, none⟩) 2 2)) ⟨Oc, Oa1, On1, Oc1, Obd, some ⟨gn, 0, none⟩, 2, Oc2, Ohs.set 0 ⟨some ⟨w2.heap.size + 1, 0, none⟩, 2, 2, [0, 0]⟩, Oa3, On3, Oc3, Obr⟩) := Lib.hid stO.ok
  have HTbO : Hid (TV.tb ⟨Oc, Oa1, On1, Oc1, Obd, some ⟨gn, 0, none⟩, 2, Oc2, Ohs.set 0 ⟨some ⟨w2.heap.size + 1, 0, none⟩, 2, 2, [0, 0]⟩, Oa3, On3, Oc3, Obr⟩ = tOrd) := Lib.hid (by
    have e1 : Oc = 2 := congrArg Tb.cl tbO
    have e2 : Obd = [(0, 0), (97, 1), (98, 0)] := congrArg Tb.bd tbO
    have e4 : Obr = [false, true] := congrArg Tb.br tbO
    have e3 : listsOf (Ohs.set 0 ⟨some ⟨w2.heap.size + 1, 0, none⟩, 2, 2, [0, 0]⟩) = [[0, 0], [0, 0]] := by
      unfold listsOf at hls ⊢
      rw [List.map_set, hls]; rfl
    unfold TV.tb tOrd
    simp only [e1, e2, e3, e4])
  have HXO : Hid (Box (((w2.alloc (.cells #[.int .i64 Oc, .slice Oa1 On1 Oc1, .slice (some ⟨gn, 0, none⟩) 2 Oc2, .slice Oa3 On3 Oc3] 26)).alloc (.cells #[.int .i64 0, .int .i64 0] 3)).setCell ⟨gn, 0, none⟩ (.slice (some ⟨w2.heap.size + 1, 0, none⟩) 2 2)) w2.heap.size ⟨Oc, Oa1, On1, Oc1, Obd, some ⟨gn, 0, none⟩, 2, Oc2, Ohs.set 0 ⟨some ⟨w2.heap.size + 1, 0, none⟩, 2, 2, [0, 0]⟩, Oa3, On3, Oc3, Obr⟩) := Lib.hid (Box.set (T := ⟨Oc, Oa1, On1, Oc1, Obd, some ⟨gn, 0, none⟩, 2, Oc2, Ohs.set 0 ⟨some ⟨w2.heap.size + 1, 0, none⟩, 2, 2, [0, 0]⟩, Oa3, On3, Oc3, Obr⟩) xO (show gn ≠ w2.heap.size by omega) _)
  have bWW : Below W.heap.size W (((w2.alloc (.cells #[.int .i64 Oc, .slice Oa1 On1 Oc1, .slice (some ⟨gn, 0, none⟩) 2 Oc2, .slice Oa3 On3 Oc3] 26)).alloc (.cells #[.int .i64 0, .int .i64 0] 3)).setCell ⟨gn, 0, none⟩ (.slice (some ⟨w2.heap.size + 1, 0, none⟩) 2 2)) := bWL.trans (bWO.mono bWL.size)
  have hcomm : (((w2.alloc (.cells #[.int .i64 Oc, .slice Oa1 On1 Oc1, .slice (some ⟨gn, 0, none⟩) 2 Oc2, .slice Oa3 On3 Oc3] 26)).alloc (.cells #[.int .i64 0, .int .i64 0] 3)).setCell ⟨gn, 0, none⟩ (.slice (some ⟨w2.heap.size + 1, 0, none⟩) 2 2)) = (((w2.setCell ⟨gn, 0, none⟩ (.slice (some ⟨w2.heap.size + 1, 0, none⟩) 2 2)).alloc (.cells #[.int .i64 Oc, .slice Oa1 On1 Oc1, .slice (some ⟨gn, 0, none⟩) 2 Oc2, .slice Oa3 On3 Oc3] 26)).alloc (.cells #[.int .i64 0, .int .i64 0] 3)) := by
    rw [World.setCell_alloc_past _ _ _ _ (by rw [hsz2]; omega), World.setCell_alloc_past _ _ _ _ hlt4]
  rw [hcomm] at bWW HTO HXO bWO
  have xz := HX2.out.on bWW
  have y20 : (((w2.setCell ⟨gn, 0, none⟩ (.slice (some ⟨w2.heap.size + 1, 0, none⟩) 2 2)).alloc (.cells #[.int .i64 Oc, .slice Oa1 On1 Oc1, .slice (some ⟨gn, 0, none⟩) 2 Oc2, .slice Oa3 On3 Oc3] 26)).alloc (.cells #[.int .i64 0, .int .i64 0] 3)).cell? ⟨w.heap.size + 1 + 1 + 1 + 1 + 1 + 1 + 1 + 1 + 1 + 1, 0, none⟩ = some (.int .i64 2) := xz.2.1
  have y21 : (((w2.setCell ⟨gn, 0, none⟩ (.slice (some ⟨w2.heap.size + 1, 0, none⟩) 2 2)).alloc (.cells #[.int .i64 Oc, .slice Oa1 On1 Oc1, .slice (some ⟨gn, 0, none⟩) 2 Oc2, .slice Oa3 On3 Oc3] 26)).alloc (.cells #[.int .i64 0, .int .i64 0] 3)).cell? ⟨w.heap.size + 1 + 1 + 1 + 1 + 1 + 1 + 1 + 1 + 1 + 1, 1, none⟩ = some (.slice (some ⟨w.heap.size + 5, 0, none⟩) 3 3) := xz.2.2.1
  have y22 : (((w2.setCell ⟨gn, 0, none⟩ (.slice (some ⟨w2.heap.size + 1, 0, none⟩) 2 2)).alloc (.cells #[.int .i64 Oc, .slice Oa1 On1 Oc1, .slice (some ⟨gn, 0, none⟩) 2 Oc2, .slice Oa3 On3 Oc3] 26)).alloc (.cells #[.int .i64 0, .int .i64 0] 3)).cell? ⟨w.heap.size + 1 + 1 + 1 + 1 + 1 + 1 + 1 + 1 + 1 + 1, 2, none⟩ = some (.slice (some ⟨w.heap.size + 8, 0, none⟩) 2 2) := xz.2.2.2.1
  have y23 : (((w2.setCell ⟨gn, 0, none⟩ (.slice (some ⟨w2.heap.size + 1, 0, none⟩) 2 2)).alloc (.cells #[.int .i64 Oc, .slice Oa1 On1 Oc1, .slice (some ⟨gn, 0, none⟩) 2 Oc2, .slice Oa3 On3 Oc3] 26)).alloc (.cells #[.int .i64 0, .int .i64 0] 3)).cell? ⟨w.heap.size + 1 + 1 + 1 + 1 + 1 + 1 + 1 + 1 + 1 + 1, 3, none⟩ = some (.slice (some ⟨w.heap.size + 9, 0, none⟩) 2 2) := xz.2.2.2.2
  clear xz hcomm okO g ob ce2 st2 hb2 hlt2 hA2 bO1 xO hap stO hls
  simp only [TV.v]
  go_wp2_with fail
  replace HT1 := Lib.hid (HT1.out.on bWW)
  replace HT2 := Lib.hid (HT2.out.on bWW)
  replace HX1 := Lib.hid (HX1.out.on bWW)
  replace HX2 := Lib.hid (HX2.out.on bWW)
  replace HM := Lib.hid (HM.out.on bWW)
  replace HTL := Lib.hid (HTL.out.on bWO)
  replace HXL := Lib.hid (HXL.out.on bWO)
  replace bb := bb.trans (bWW.mono bb.size)
  clear bWW bWO bWL bx1 bx2 hlit tbO y20 y21 y22 y23 fz2 ce2' hlt4 hsz2 hgs
  generalize (((w2.setCell ⟨gn, 0, none⟩ (.slice (some ⟨w2.heap.size + 1, 0, none⟩) 2 2)).alloc (.cells #[.int .i64 Oc, .slice Oa1 On1 Oc1, .slice (some ⟨gn, 0, none⟩) 2 Oc2, .slice Oa3 On3 Oc3] 26)).alloc (.cells #[.int .i64 0, .int .i64 0] 3)) = WO at *
  refine (encode_is (tv2 w) bTwo 28 bTwo_enc bTwo_len _ HT2.out tTwo_small HM.out).mono ?_
  rintro e w3 ⟨Ab, cb, rfl, rb, sb, g⟩
  replace HT1 := Lib.hid (HT1.out.on g)
  replace HT2 := Lib.hid (HT2.out.on g)
  replace HX1 := Lib.hid (HX1.out.on g)
  replace HX2 := Lib.hid (HX2.out.on g)
  replace HM := Lib.hid (HM.out.on g)
  replace HTL := Lib.hid (HTL.out.on g)
  replace HXL := Lib.hid (HXL.out.on g)
  replace HTO := Lib.hid (HTO.out.on g)
  replace HXO := Lib.hid (HXO.out.on g)
  replace bb := bb.trans (g.mono bb.size)
  clear g
  have HR := Lib.hid rb
  have HS := Lib.hid sb
  clear rb sb
  go_wp2_with fail
  refine (validBytes_any bTwo 28 Ab cb _ HR.out HS.out (by decide) HM.out).mono ?_
  rintro e w4 ⟨⟨Vc, Va1, Vn1, Vc1, Vbd, Va2, Vn2, Vc2, Vhs, Va3, Vn3, Vc3, Vbr⟩, rfl, okV, tbV, g⟩
  rw [bTwo_v.1]
  rw [bTwo_v.2] at tbV
  have HTV := Lib.hid okV
  have HTbV := Lib.hid tbV
  clear okV tbV HR HS
  replace HT1 := Lib.hid (HT1.out.on g)
  replace HT2 := Lib.hid (HT2.out.on g)
  replace HX1 := Lib.hid (HX1.out.on g)
  replace HX2 := Lib.hid (HX2.out.on g)
  replace HM := Lib.hid (HM.out.on g)
  replace HTL := Lib.hid (HTL.out.on g)
  replace HXL := Lib.hid (HXL.out.on g)
  replace HTO := Lib.hid (HTO.out.on g)
  replace HXO := Lib.hid (HXO.out.on g)
  replace bb := bb.trans (g.mono bb.size)
  clear g
  have g := below_new w4 (.cells #[.int .i64 Vc, .slice Va1 Vn1 Vc1, .slice Va2 Vn2 Vc2, .slice Va3 Vn3 Vc3] 26)
  have HXV := Lib.hid (box_new w4 ⟨Vc, Va1, Vn1, Vc1, Vbd, Va2, Vn2, Vc2, Vhs, Va3, Vn3, Vc3, Vbr⟩)
  replace HTV := Lib.hid (HTV.out.on g)
  replace HT1 := Lib.hid (HT1.out.on g)
  replace HT2 := Lib.hid (HT2.out.on g)
  replace HX1 := Lib.hid (HX1.out.on g)
  replace HX2 := Lib.hid (HX2.out.on g)
  replace HM := Lib.hid (HM.out.on g)
  replace HTL := Lib.hid (HTL.out.on g)
  replace HXL := Lib.hid (HXL.out.on g)
  replace HTO := Lib.hid (HTO.out.on g)
  replace HXO := Lib.hid (HXO.out.on g)
  replace bb := bb.trans (g.mono bb.size)
  clear g
  have xz := HX1.out
  have p10 : (w4.alloc (.cells #[.int .i64 Vc, .slice Va1 Vn1 Vc1, .slice Va2 Vn2 Vc2, .slice Va3 Vn3 Vc3] 26)).cell? ⟨w.heap.size + 1 + 1 + 1 + 1, 0, none⟩ = some (.int .i64 1) := xz.2.1
  have p11 : (w4.alloc (.cells #[.int .i64 Vc, .slice Va1 Vn1 Vc1, .slice Va2 Vn2 Vc2, .slice Va3 Vn3 Vc3] 26)).cell? ⟨w.heap.size + 1 + 1 + 1 + 1, 1, none⟩ = some (.slice (some ⟨w.heap.size, 0, none⟩) 1 1) := xz.2.2.1
  have p12 : (w4.alloc (.cells #[.int .i64 Vc, .slice Va1 Vn1 Vc1, .slice Va2 Vn2 Vc2, .slice Va3 Vn3 Vc3] 26)).cell? ⟨w.heap.size + 1 + 1 + 1 + 1, 2, none⟩ = some (.slice (some ⟨w.heap.size + 2, 0, none⟩) 1 1) := xz.2.2.2.1
  have p13 : (w4.alloc (.cells #[.int .i64 Vc, .slice Va1 Vn1 Vc1, .slice Va2 Vn2 Vc2, .slice Va3 Vn3 Vc3] 26)).cell? ⟨w.heap.size + 1 + 1 + 1 + 1, 3, none⟩ = some (.slice (some ⟨w.heap.size + 3, 0, none⟩) 1 1) := xz.2.2.2.2
  clear xz
  simp only [TV.v]
  go_wp2_with fail
  generalize (w4.alloc (.cells #[.int .i64 Vc, .slice Va1 Vn1 Vc1, .slice Va2 Vn2 Vc2, .slice Va3 Vn3 Vc3] 26)) = W5 at *
  have HC := Lib.hid (validTable_any (tv1 w) W5 HT1.out)
  rw [E1.out] at HC
  refine HC.out.mono ?_
  rintro e w6 ⟨rfl, g⟩
  clear HC p10 p11 p12 p13
  replace HT1 := Lib.hid (HT1.out.on g)
  replace HT2 := Lib.hid (HT2.out.on g)
  replace HX1 := Lib.hid (HX1.out.on g)
  replace HX2 := Lib.hid (HX2.out.on g)
  replace HM := Lib.hid (HM.out.on g)
  replace HTL := Lib.hid (HTL.out.on g)
  replace HXL := Lib.hid (HXL.out.on g)
  replace HTO := Lib.hid (HTO.out.on g)
  replace HXO := Lib.hid (HXO.out.on g)
  replace HTV := Lib.hid (HTV.out.on g)
  replace HXV := Lib.hid (HXV.out.on g)
  replace bb := bb.trans (g.mono bb.size)
  clear g
  have xz := HX2.out
  have p20 : w6.cell? ⟨w.heap.size + 1 + 1 + 1 + 1 + 1 + 1 + 1 + 1 + 1 + 1, 0, none⟩ = some (.int .i64 2) := xz.2.1
  have p21 : w6.cell? ⟨w.heap.size + 1 + 1 + 1 + 1 + 1 + 1 + 1 + 1 + 1 + 1, 1, none⟩ = some (.slice (some ⟨w.heap.size + 5, 0, none⟩) 3 3) := xz.2.2.1
  have p22 : w6.cell? ⟨w.heap.size + 1 + 1 + 1 + 1 + 1 + 1 + 1 + 1 + 1 + 1, 2, none⟩ = some (.slice (some ⟨w.heap.size + 8, 0, none⟩) 2 2) := xz.2.2.2.1
  have p23 : w6.cell? ⟨w.heap.size + 1 + 1 + 1 + 1 + 1 + 1 + 1 + 1 + 1 + 1, 3, none⟩ = some (.slice (some ⟨w.heap.size + 9, 0, none⟩) 2 2) := xz.2.2.2.2
  clear xz
  go_wp2_with fail
  have HC := Lib.hid (validTable_any (tv2 w) w6 HT2.out)
  rw [E2.out] at HC
  refine HC.out.mono ?_
  rintro e w7 ⟨rfl, g⟩
  clear HC p20 p21 p22 p23
  replace HT1 := Lib.hid (HT1.out.on g)
  replace HT2 := Lib.hid (HT2.out.on g)
  replace HX1 := Lib.hid (HX1.out.on g)
  replace HX2 := Lib.hid (HX2.out.on g)
  replace HM := Lib.hid (HM.out.on g)
  replace HTL := Lib.hid (HTL.out.on g)
  replace HXL := Lib.hid (HXL.out.on g)
  replace HTO := Lib.hid (HTO.out.on g)
  replace HXO := Lib.hid (HXO.out.on g)
  replace HTV := Lib.hid (HTV.out.on g)
  replace HXV := Lib.hid (HXV.out.on g)
  replace bb := bb.trans (g.mono bb.size)
  clear g
  have xz := HXL.out
  have p30 : w7.cell? ⟨w1.heap.size, 0, none⟩ = some (.int .i64 Lc) := xz.2.1
  have p31 : w7.cell? ⟨w1.heap.size, 1, none⟩ = some (.slice La1 Ln1 Lc1) := xz.2.2.1
  have p32 : w7.cell? ⟨w1.heap.size, 2, none⟩ = some (.slice La2 Ln2 Lc2) := xz.2.2.2.1
  have p33 : w7.cell? ⟨w1.heap.size, 3, none⟩ = some (.slice (some ⟨g3, 0, none⟩) 2 Lc3) := xz.2.2.2.2
  clear xz
  go_wp2_with fail
  have HC := Lib.hid (validTable_any ⟨Lc, La1, Ln1, Lc1, Lbd, La2, Ln2, Lc2, Lhs, some ⟨g3, 0, none⟩, 2, Lc3, ([false, true] : List Bool).set 1 false⟩ w7 HTL.out)
  rw [HTbL.out, tLst_err] at HC
  refine HC.out.mono ?_
  rintro e w8 ⟨rfl, g⟩
  clear HC p30 p31 p32 p33
  replace HT1 := Lib.hid (HT1.out.on g)
  replace HT2 := Lib.hid (HT2.out.on g)
  replace HX1 := Lib.hid (HX1.out.on g)
  replace HX2 := Lib.hid (HX2.out.on g)
  replace HM := Lib.hid (HM.out.on g)
  replace HTL := Lib.hid (HTL.out.on g)
  replace HXL := Lib.hid (HXL.out.on g)
  replace HTO := Lib.hid (HTO.out.on g)
  replace HXO := Lib.hid (HXO.out.on g)
  replace HTV := Lib.hid (HTV.out.on g)
  replace HXV := Lib.hid (HXV.out.on g)
  replace bb := bb.trans (g.mono bb.size)
  clear g
  have xz := HXO.out
  have p40 : w8.cell? ⟨w2.heap.size, 0, none⟩ = some (.int .i64 Oc) := xz.2.1
  have p41 : w8.cell? ⟨w2.heap.size, 1, none⟩ = some (.slice Oa1 On1 Oc1) := xz.2.2.1
  have p42 : w8.cell? ⟨w2.heap.size, 2, none⟩ = some (.slice (some ⟨gn, 0, none⟩) 2 Oc2) := xz.2.2.2.1
  have p43 : w8.cell? ⟨w2.heap.size, 3, none⟩ = some (.slice Oa3 On3 Oc3) := xz.2.2.2.2
  clear xz
  go_wp2_with fail
  have HC := Lib.hid (validTable_any ⟨Oc, Oa1, On1, Oc1, Obd, some ⟨gn, 0, none⟩, 2, Oc2, Ohs.set 0 ⟨some ⟨w2.heap.size + 1, 0, none⟩, 2, 2, [0, 0]⟩, Oa3, On3, Oc3, Obr⟩ w8 HTO.out)
  rw [HTbO.out, tOrd_err] at HC
  refine HC.out.mono ?_
  rintro e w9 ⟨rfl, g⟩
  clear HC p40 p41 p42 p43
  replace HT1 := Lib.hid (HT1.out.on g)
  replace HT2 := Lib.hid (HT2.out.on g)
  replace HX1 := Lib.hid (HX1.out.on g)
  replace HX2 := Lib.hid (HX2.out.on g)
  replace HM := Lib.hid (HM.out.on g)
  replace HTL := Lib.hid (HTL.out.on g)
  replace HXL := Lib.hid (HXL.out.on g)
  replace HTO := Lib.hid (HTO.out.on g)
  replace HXO := Lib.hid (HXO.out.on g)
  replace HTV := Lib.hid (HTV.out.on g)
  replace HXV := Lib.hid (HXV.out.on g)
  replace bb := bb.trans (g.mono bb.size)
  clear g
  have xz := HXV.out
  have p50 : w9.cell? ⟨w4.heap.size, 0, none⟩ = some (.int .i64 Vc) := xz.2.1
  have p51 : w9.cell? ⟨w4.heap.size, 1, none⟩ = some (.slice Va1 Vn1 Vc1) := xz.2.2.1
  have p52 : w9.cell? ⟨w4.heap.size, 2, none⟩ = some (.slice Va2 Vn2 Vc2) := xz.2.2.2.1
  have p53 : w9.cell? ⟨w4.heap.size, 3, none⟩ = some (.slice Va3 Vn3 Vc3) := xz.2.2.2.2
  clear xz
  have xz := HX2.out
  have p20 : w9.cell? ⟨w.heap.size + 1 + 1 + 1 + 1 + 1 + 1 + 1 + 1 + 1 + 1, 0, none⟩ = some (.int .i64 2) := xz.2.1
  have p21 : w9.cell? ⟨w.heap.size + 1 + 1 + 1 + 1 + 1 + 1 + 1 + 1 + 1 + 1, 1, none⟩ = some (.slice (some ⟨w.heap.size + 5, 0, none⟩) 3 3) := xz.2.2.1
  have p22 : w9.cell? ⟨w.heap.size + 1 + 1 + 1 + 1 + 1 + 1 + 1 + 1 + 1 + 1, 2, none⟩ = some (.slice (some ⟨w.heap.size + 8, 0, none⟩) 2 2) := xz.2.2.2.1
  have p23 : w9.cell? ⟨w.heap.size + 1 + 1 + 1 + 1 + 1 + 1 + 1 + 1 + 1 + 1, 3, none⟩ = some (.slice (some ⟨w.heap.size + 9, 0, none⟩) 2 2) := xz.2.2.2.2
  clear xz
  go_wp2_with fail
  have HC := Lib.hid (keepTable_s ⟨Vc, Va1, Vn1, Vc1, Vbd, Va2, Vn2, Vc2, Vhs, Va3, Vn3, Vc3, Vbr⟩ (tv2 w) w9 HTV.out HT2.out (by rw [HTbV.out]; exact tTwo_small))
  rw [eqT_yes (by rw [HTbV.out, E3.out])] at HC
  refine HC.out.mono ?_
  rintro e w10 ⟨rfl, g⟩
  clear HC p50 p51 p52 p53 p20 p21 p22 p23
  replace HT1 := Lib.hid (HT1.out.on g)
  replace HT2 := Lib.hid (HT2.out.on g)
  replace HX1 := Lib.hid (HX1.out.on g)
  replace HX2 := Lib.hid (HX2.out.on g)
  replace HM := Lib.hid (HM.out.on g)
  replace HTL := Lib.hid (HTL.out.on g)
  replace HXL := Lib.hid (HXL.out.on g)
  replace HTO := Lib.hid (HTO.out.on g)
  replace HXO := Lib.hid (HXO.out.on g)
  replace HTV := Lib.hid (HTV.out.on g)
  replace HXV := Lib.hid (HXV.out.on g)
  replace bb := bb.trans (g.mono bb.size)
  clear g
  go_wp2_with fail
  have HC := Lib.hid (validTable_any zeroV w10 (zeroV_ok _))
  rw [zeroV_tb, zeroT_err] at HC
  refine HC.out.mono ?_
  rintro e w11 ⟨rfl, g⟩
  clear HC E1
  replace HT1 := Lib.hid (HT1.out.on g)
  replace HT2 := Lib.hid (HT2.out.on g)
  replace HX1 := Lib.hid (HX1.out.on g)
  replace HX2 := Lib.hid (HX2.out.on g)
  replace HM := Lib.hid (HM.out.on g)
  replace HTL := Lib.hid (HTL.out.on g)
  replace HXL := Lib.hid (HXL.out.on g)
  replace HTO := Lib.hid (HTO.out.on g)
  replace HXO := Lib.hid (HXO.out.on g)
  replace HTV := Lib.hid (HTV.out.on g)
  replace HXV := Lib.hid (HXV.out.on g)
  replace bb := bb.trans (g.mono bb.size)
  clear g
  have xz := HXL.out
  have p30 : w11.cell? ⟨w1.heap.size, 0, none⟩ = some (.int .i64 Lc) := xz.2.1
  have p31 : w11.cell? ⟨w1.heap.size, 1, none⟩ = some (.slice La1 Ln1 Lc1) := xz.2.2.1
  have p32 : w11.cell? ⟨w1.heap.size, 2, none⟩ = some (.slice La2 Ln2 Lc2) := xz.2.2.2.1
  have p33 : w11.cell? ⟨w1.heap.size, 3, none⟩ = some (.slice (some ⟨g3, 0, none⟩) 2 Lc3) := xz.2.2.2.2
  clear xz
  go_wp2_with fail
  have HC := Lib.hid (alike_any ⟨Lc, La1, Ln1, Lc1, Lbd, La2, Ln2, Lc2, Lhs, some ⟨g3, 0, none⟩, 2, Lc3, ([false, true] : List Bool).set 1 false⟩ 0 1 w11 HTL.out)
  rw [HTbL.out, tLst_alike] at HC
  refine HC.out.mono ?_
  rintro e w12 ⟨rfl, g⟩
  clear HC p30 p31 p32 p33
  replace HT1 := Lib.hid (HT1.out.on g)
  replace HT2 := Lib.hid (HT2.out.on g)
  replace HX1 := Lib.hid (HX1.out.on g)
  replace HX2 := Lib.hid (HX2.out.on g)
  replace HM := Lib.hid (HM.out.on g)
  replace HTL := Lib.hid (HTL.out.on g)
  replace HXL := Lib.hid (HXL.out.on g)
  replace HTO := Lib.hid (HTO.out.on g)
  replace HXO := Lib.hid (HXO.out.on g)
  replace HTV := Lib.hid (HTV.out.on g)
  replace HXV := Lib.hid (HXV.out.on g)
  replace bb := bb.trans (g.mono bb.size)
  clear g
  have xz := HX2.out
  have p20 : w12.cell? ⟨w.heap.size + 1 + 1 + 1 + 1 + 1 + 1 + 1 + 1 + 1 + 1, 0, none⟩ = some (.int .i64 2) := xz.2.1
  have p21 : w12.cell? ⟨w.heap.size + 1 + 1 + 1 + 1 + 1 + 1 + 1 + 1 + 1 + 1, 1, none⟩ = some (.slice (some ⟨w.heap.size + 5, 0, none⟩) 3 3) := xz.2.2.1
  have p22 : w12.cell? ⟨w.heap.size + 1 + 1 + 1 + 1 + 1 + 1 + 1 + 1 + 1 + 1, 2, none⟩ = some (.slice (some ⟨w.heap.size + 8, 0, none⟩) 2 2) := xz.2.2.2.1
  have p23 : w12.cell? ⟨w.heap.size + 1 + 1 + 1 + 1 + 1 + 1 + 1 + 1 + 1 + 1, 3, none⟩ = some (.slice (some ⟨w.heap.size + 9, 0, none⟩) 2 2) := xz.2.2.2.2
  clear xz
  go_wp2_with fail
  have HC := Lib.hid (alike_any (tv2 w) 0 1 w12 HT2.out)
  rw [E3.out, tTwo_alike] at HC
  refine HC.out.mono ?_
  rintro e w13 ⟨rfl, g⟩
  clear HC p20 p21 p22 p23
  replace HT1 := Lib.hid (HT1.out.on g)
  replace HT2 := Lib.hid (HT2.out.on g)
  replace HX1 := Lib.hid (HX1.out.on g)
  replace HX2 := Lib.hid (HX2.out.on g)
  replace HM := Lib.hid (HM.out.on g)
  replace HTL := Lib.hid (HTL.out.on g)
  replace HXL := Lib.hid (HXL.out.on g)
  replace HTO := Lib.hid (HTO.out.on g)
  replace HXO := Lib.hid (HXO.out.on g)
  replace HTV := Lib.hid (HTV.out.on g)
  replace HXV := Lib.hid (HXV.out.on g)
  replace bb := bb.trans (g.mono bb.size)
  clear g
  go_wp2_with fail
  go_ret
  exact ⟨rfl, bb⟩
end Go.Proofs.YtnilejdokgagbaaDoor
/- From the rows' readings of what came in to the words of the walks; the mark as the program's text lays it. -/
namespace Go.Proofs.YtnilejdokgagbaaDoor
open Go.ChangeShapes Go.WideShapes Go.ChangeAt Go.RowKit Go.Deep
set_option linter.unusedVariables false
set_option maxRecDepth 4000
set_option linter.unusedSimpArgs false
theorem laidOut : laidOutB Tryd.prog = true := by kernel_rfl
theorem own : ownKnob Tryd.prog.godebug = none := by kernel_rfl
theorem cells4 : Tryd.prog.cellsOf 4 = 1 := by kernel_rfl
theorem cells5 : Tryd.prog.cellsOf 5 = 1 := by kernel_rfl
theorem cells56 : Tryd.prog.cellsOf 50 = 2 := by kernel_rfl
theorem cells50 : Tryd.prog.cellsOf 51 = 1 := by kernel_rfl
theorem cells26 : Tryd.prog.cellsOf 26 = 4 := by kernel_rfl
theorem cells61 : Tryd.prog.cellsOf 54 = 4 := by kernel_rfl
theorem wf_u8 {r : Int} (h : (Lit.int .u8 r).wf = true) : 0 ≤ r ∧ r < (256 : Nat) := by
  simp [Lit.wf, IntKind.min, IntKind.max, IntKind.bits, IntKind.signed] at h; omega
theorem wf_u16 {r : Int} (h : (Lit.int .u16 r).wf = true) : 0 ≤ r ∧ r < (65536 : Nat) := by
  simp [Lit.wf, IntKind.min, IntKind.max, IntKind.bits, IntKind.signed] at h; omega
theorem wf_u32 {r : Int} (h : (Lit.int .u32 r).wf = true) : 0 ≤ r ∧ r < (4294967296 : Nat) := by
  simp [Lit.wf, IntKind.min, IntKind.max, IntKind.bits, IntKind.signed] at h; omega

/-- A slice of one-cell elements that came in. -/
theorem open_ones {H : Type} {enc : TypeId × Value → H} {w : World} {base : Nat} {held : Bool} {fuel : Nat} {t e : TypeId} {a : Option Addr} {len cap : Nat} {x : DataW H × List MemPlace} {α : Type} (dflt : α) (val : α → Value) (ok : α → Prop) (ht : Tryd.prog.underlying t = some (.slice e)) (hc1 : Tryd.prog.cellsOf e = 1)
    (hone : ∀ {n : Nat} {cs : List Value} {y : DataW H × List MemPlace}, DataW.trod enc Tryd.prog w base (fun _ => true) held n e cs = some y → ∃ v, cs = [val v] ∧ ok v)
    (h : DataW.trod enc Tryd.prog w base (fun _ => true) held fuel t [.slice a len cap] = some x) : ∃ l : List α, l.length = len ∧ Shp a len cap ∧ Reads w w.heap.size 1 a len (l.map val) ∧ ∀ v ∈ l, ok v := by
  rcases open_slice ht h with ⟨h0, _⟩ | ⟨ad, len', cap', m, n, D, Pl, hcs, hb, hl, hm, hmm, hx, hi⟩
  · simp at h0
    obtain ⟨rfl, rfl, rfl⟩ := h0
    exact ⟨[], rfl, ⟨fun _ => rfl, Nat.le_refl _, Nat.zero_le _⟩, ⟨rfl, fun h => absurd h (by omega)⟩, fun v hv => by simp at hv⟩
  · simp at hcs
    obtain ⟨rfl, rfl, rfl⟩ := hcs
    have hlm : len ≤ m := by rw [hmm]; simpa using hl
    have hr : ∀ i, i < len → ∃ r : α, w.cell? (ad.add i) = some (val r) ∧ ok r := by
      intro i hilt
      obtain ⟨cs', hc, htr⟩ := hi i (by omega)
      obtain ⟨r, rfl, hok⟩ := hone htr
      rw [hc1] at hc
      obtain ⟨_, _, hat⟩ := World.cells?_some hc
      refine ⟨r, ?_, hok⟩
      have := hat 0 (by omega)
      simpa [Addr.add] using this
    have hch : ∃ f : Nat → α, ∀ i, i < len → w.cell? (ad.add i) = some (val (f i)) ∧ ok (f i) :=
      ⟨fun i => if h : i < len then Classical.choose (hr i h) else dflt, fun i h => by
        simp only [dif_pos h]
        exact Classical.choose_spec (hr i h)⟩
    obtain ⟨f, hf⟩ := hch
    refine ⟨(List.range len).map f, by simp, ⟨fun h => (by cases h), hl, hm⟩, ⟨by simp, fun hn => ?_⟩, fun v hv => ?_⟩
    · obtain ⟨b, off, spot⟩ := ad
      have hspot : spot = none := by simpa [Addr.add] using World.cell?_spot (hf 0 hn).1
      subst hspot
      have hbl : b < w.heap.size := by
        have := World.block_lt_of_cell? _ _ (hf 0 hn).1
        simpa [Addr.add] using this
      refine ⟨b, off, rfl, hbl, fun j u hj => ?_⟩
      have hj' : j < len := by
        have := (List.getElem?_eq_some_iff.1 hj).1
        simpa using this
      have hfk := (hf j hj').1
      rw [Go.WideShapes.add_plain] at hfk
      rw [hfk, ← hj]
      simp [hj']
    · obtain ⟨i, hi, rfl⟩ := List.mem_map.1 hv
      exact (hf i (List.mem_range.1 hi)).2

set_option maxRecDepth 4000 in
theorem row52 {H : Type} {enc : TypeId × Value → H} {w : World} {base : Nat} {sp : Nat → Bool} {held : Bool} {fuel : Nat} {cs : List Value} {x : DataW H × List MemPlace}
    (h : DataW.trod enc Tryd.prog w base sp held fuel 50 cs = some x) : ∃ r : Rg, cs = rcell r := by
  obtain ⟨xs, n, _, rfl, hl, hlen, hf⟩ := DataW.trod_struct Tryd.underlying50 h
  rw [cells56] at hl
  match cs, hl with
  | [c0, c1], _ =>
    match xs, hlen with
    | [y0, y1], _ =>
      have f0 := hf 0 _ rfl
      have f1 := hf 1 _ rfl
      obtain ⟨n0, e0, _, _⟩ := DataW.trod_int Tryd.underlying3 (show DataW.trod enc Tryd.prog w base sp held n 3 [c0] = some y0 from f0)
      obtain ⟨n1, e1, _, _⟩ := DataW.trod_int Tryd.underlying3 (show DataW.trod enc Tryd.prog w base sp held n 3 [c1] = some y1 from f1)
      injection e0 with e0
      injection e1 with e1
      exact ⟨(n0, n1), by rw [e0, e1]; rfl⟩

/-- A slice of ranges that came in. -/
theorem open_bands {H : Type} {enc : TypeId × Value → H} {w : World} {base : Nat} {held : Bool} {fuel : Nat} {t : TypeId} {a : Option Addr} {len cap : Nat} {x : DataW H × List MemPlace} (ht : Tryd.prog.underlying t = some (.slice 50))
    (h : DataW.trod enc Tryd.prog w base (fun _ => true) held fuel t [.slice a len cap] = some x) : ∃ l : List Rg, l.length = len ∧ Shp a len cap ∧ Reads w w.heap.size 2 a len (rcells l) := by
  rcases open_slice ht h with ⟨h0, _⟩ | ⟨ad, len', cap', m, n, D, Pl, hcs, hb, hl, hm, hmm, hx, hi⟩
  · simp at h0
    obtain ⟨rfl, rfl, rfl⟩ := h0
    exact ⟨[], rfl, ⟨fun _ => rfl, Nat.le_refl _, Nat.zero_le _⟩, ⟨rfl, fun h => absurd h (by omega)⟩⟩
  · simp at hcs
    obtain ⟨rfl, rfl, rfl⟩ := hcs
    have hlm : len ≤ m := by rw [hmm]; simpa using hl
    have hr : ∀ i, i < len → ∃ r : Rg, w.cell? (ad.add (i * 2)) = some (.int .i64 r.1) ∧ w.cell? (ad.add (i * 2 + 1)) = some (.int .i64 r.2) := by
      intro i hilt
      obtain ⟨cs', hc, htr⟩ := hi i (by omega)
      obtain ⟨r, rfl⟩ := row52 htr
      rw [cells56] at hc
      obtain ⟨_, _, hat⟩ := World.cells?_some hc
      refine ⟨r, ?_, ?_⟩
      · have := hat 0 (by omega)
        simpa [Addr.add, rcell] using this
      · have := hat 1 (by omega)
        rw [Go.Deep.add_add] at this
        exact this
    have hch : ∃ f : Nat → Rg, ∀ i, i < len → w.cell? (ad.add (i * 2)) = some (.int .i64 (f i).1) ∧ w.cell? (ad.add (i * 2 + 1)) = some (.int .i64 (f i).2) :=
      ⟨fun i => if h : i < len then Classical.choose (hr i h) else (0, 0), fun i h => by
        simp only [dif_pos h]
        exact Classical.choose_spec (hr i h)⟩
    obtain ⟨f, hf⟩ := hch
    refine ⟨(List.range len).map f, by simp, ⟨fun h => (by cases h), hl, hm⟩, ⟨by rw [rcells_len]; simp, fun hn => ?_⟩⟩
    obtain ⟨b, off, spot⟩ := ad
    have hspot : spot = none := by simpa [Addr.add] using World.cell?_spot (hf 0 hn).1
    subst hspot
    have hbl : b < w.heap.size := by
      have := World.block_lt_of_cell? _ _ (hf 0 hn).1
      simpa [Addr.add] using this
    refine ⟨b, off, rfl, hbl, fun j u hj => ?_⟩
    have hj' : j < len * 2 := by
      have := (List.getElem?_eq_some_iff.1 hj).1
      rw [rcells_len] at this
      simpa using this
    have hk : j / 2 < ((List.range len).map f).length := by simp; omega
    obtain ⟨e0, e1⟩ := rcells_at ((List.range len).map f) (j / 2) hk
    have hfk := hf (j / 2) (by omega)
    rw [Go.WideShapes.add_plain, Go.WideShapes.add_plain] at hfk
    rcases Nat.mod_two_eq_zero_or_one j with e | e
    · have ej : j = j / 2 * 2 := by omega
      rw [ej] at hj ⊢
      rw [e0] at hj
      rw [hfk.1, ← Option.some.inj hj]
      simp
    · have ej : j = j / 2 * 2 + 1 := by omega
      rw [ej] at hj ⊢
      rw [e1] at hj
      rw [hfk.2, ← Option.some.inj hj]
      simp

section
variable {H : Type} {enc : TypeId × Value → H} {w : World} {base : Nat} {held : Bool} {fuel : Nat} {a : Option Addr} {len cap : Nat} {x : DataW H × List MemPlace}
theorem open_bytes (h : DataW.trod enc Tryd.prog w base (fun _ => true) held fuel 27 [.slice a len cap] = some x) : ∃ l : List Nat, l.length = len ∧ Shp a len cap ∧ RB w w.heap.size a len l := by
  obtain ⟨l, h1, h2, h3, h4⟩ := open_ones (α := Nat) 0 (fun x => .int .u8 (x : Int)) (· < 256) Tryd.underlying27 cells5 (fun {n cs y} h => by
    obtain ⟨r, rfl, _, hw⟩ := DataW.trod_int Tryd.underlying5 h
    obtain ⟨h0, h1⟩ := wf_u8 hw
    obtain ⟨k, rfl⟩ := Int.eq_ofNat_of_zero_le h0
    exact ⟨k, rfl, by omega⟩) h
  exact ⟨l, h1, h2, h1, h3, h4⟩
theorem open_bools (h : DataW.trod enc Tryd.prog w base (fun _ => true) held fuel 24 [.slice a len cap] = some x) : ∃ l : List Bool, l.length = len ∧ Shp a len cap ∧ RL w w.heap.size a len l := by
  obtain ⟨l, h1, h2, h3, _⟩ := open_ones (α := Bool) false Value.bool (fun _ => True) Tryd.underlying24 cells4 (fun {n cs y} h => by
    obtain ⟨r, rfl, _⟩ := DataW.trod_bool Tryd.underlying4 h
    exact ⟨r, rfl, trivial⟩) h
  exact ⟨l, h1, h2, h1, h3⟩
theorem open_row (h : DataW.trod enc Tryd.prog w base (fun _ => true) held fuel 51 [.slice a len cap] = some x) : ∃ l : List Int, Shp a len cap ∧ RI w w.heap.size a len l := by
  obtain ⟨l, h1, h2, h3, _⟩ := open_ones (α := Int) 0 (Value.int .i64) (fun _ => True) Tryd.underlying51 cells3 (fun {n cs y} h => by
    obtain ⟨r, rfl, _⟩ := DataW.trod_int Tryd.underlying3 h
    exact ⟨r, rfl, trivial⟩) h
  exact ⟨l, h2, h1, h3⟩
theorem open_hi {cs : List Value} (h : DataW.trod enc Tryd.prog w base (fun _ => true) held fuel 51 cs = some x) : ∃ d : Hi, cs = [d.v] ∧ d.ok w w.heap.size := by
  have key : ∀ a len cap, cs = [.slice a len cap] → ∃ d : Hi, cs = [d.v] ∧ d.ok w w.heap.size := by
    intro a len cap e
    subst e
    obtain ⟨l, h1, h2⟩ := open_row h
    exact ⟨⟨a, len, cap, l⟩, rfl, h2, h1⟩
  rcases open_slice Tryd.underlying51 h with ⟨h0, _⟩ | ⟨ad, len', cap', m, n, D, Pl, hcs, _⟩
  · exact key _ _ _ h0
  · exact key _ _ _ hcs
theorem open_rows (h : DataW.trod enc Tryd.prog w base (fun _ => true) held fuel 23 [.slice a len cap] = some x) : ∃ l : List Hi, Shp a len cap ∧ RN w w.heap.size a len l := by
  obtain ⟨l, h1, h2, h3, h4⟩ := open_ones (α := Hi) ⟨none, 0, 0, []⟩ Hi.v (fun d => d.ok w w.heap.size) Tryd.underlying23 cells50 (fun {n cs y} h => open_hi h) h
  exact ⟨l, h2, h1, h3, h4⟩
theorem slice_of {t e : TypeId} {c : Value} (ht : Tryd.prog.underlying t = some (.slice e)) (h : DataW.trod enc Tryd.prog w base (fun _ => true) held fuel t [c] = some x) : ∃ a len cap, c = .slice a len cap := by
  rcases open_slice ht h with ⟨h0, _⟩ | ⟨ad, len', cap', m, n, D, Pl, hcs, _⟩
  · injection h0 with h0; exact ⟨_, _, _, h0⟩
  · injection hcs with h0; exact ⟨_, _, _, h0⟩
end
set_option maxRecDepth 4000 in
theorem open_table {H : Type} {enc : TypeId × Value → H} {w : World} {base : Nat} {held : Bool} {fuel : Nat} {cs : List Value} {x : DataW H × List MemPlace}
    (h : DataW.trod enc Tryd.prog w base (fun _ => true) held fuel 26 cs = some x) : ∃ T : TV, cs = [.int .i64 T.cl, .slice T.a1 T.n1 T.c1, .slice T.a2 T.n2 T.c2, .slice T.a3 T.n3 T.c3] ∧ T.ok w := by
  obtain ⟨xs, n, _, rfl, hl, hlen, hf⟩ := DataW.trod_struct Tryd.underlying26 h
  rw [cells26] at hl
  match cs, hl with
  | [c0, c1, c2, c3], _ =>
    match xs, hlen with
    | [y0, y1, y2, y3], _ =>
      have f0 := hf 0 _ rfl
      have f1 := hf 1 _ rfl
      have f2 := hf 2 _ rfl
      have f3 := hf 3 _ rfl
      obtain ⟨n0, e0, _, _⟩ := DataW.trod_int Tryd.underlying3 (show DataW.trod enc Tryd.prog w base (fun _ => true) held n 3 [c0] = some y0 from f0)
      have g1 : DataW.trod enc Tryd.prog w base (fun _ => true) held n 22 [c1] = some y1 := f1
      have g2 : DataW.trod enc Tryd.prog w base (fun _ => true) held n 23 [c2] = some y2 := f2
      have g3 : DataW.trod enc Tryd.prog w base (fun _ => true) held n 24 [c3] = some y3 := f3
      injection e0 with e0
      subst e0
      obtain ⟨a1, n1, c1', rfl⟩ := slice_of Tryd.underlying22 g1
      obtain ⟨a2, n2, c2', rfl⟩ := slice_of Tryd.underlying23 g2
      obtain ⟨a3, n3, c3', rfl⟩ := slice_of Tryd.underlying24 g3
      obtain ⟨l1, h1, s1, r1⟩ := open_bands Tryd.underlying22 g1
      obtain ⟨l2, s2, r2⟩ := open_rows g2
      obtain ⟨l3, h3, s3, r3⟩ := open_bools g3
      exact ⟨⟨n0, a1, n1, c1', l1, a2, n2, c2', l2, a3, n3, c3', l3⟩, rfl, ⟨⟨h1, r1⟩, s1, r2, s2, r3, s3⟩⟩
theorem okWide_arr {w : World} {r : Reach} {b0 n : Nat} {t e : TypeId} {v : Value} (ht : Tryd.prog.underlying t = some (.array n e)) (h : Value.okWide Tryd.prog w r b0 t v) : ∃ cs : Array Value, v = .agg cs := by
  simp only [Value.okWide, ht] at h
  obtain ⟨cs, h1, _⟩ := h
  exact ⟨cs, h1⟩
theorem gMark : Tryd.prog.globalNamed (Rows.tableCodesRow.named.headD default) = some 0 := by kernel_rfl
theorem gMarkType : (Tryd.prog.globals[0]?).map (·.type) = some 54 := by kernel_rfl
theorem mark_of_laid {W : World} (h : laidMetH Tryd.prog Rows.tableCodesRow.laid W) : Mark W := by
  rw [MakeChecks.laidMetH_plain _ _ _ (by kernel_rfl)] at h
  obtain ⟨ps, ⟨g, t, cs, fuel, p, q, hg, ht, hvar, hd, _, _⟩, _⟩ := h
  obtain rfl := Option.some.inj (gMark.symm.trans hg)
  obtain rfl := Option.some.inj (gMarkType.symm.trans ht)
  obtain ⟨xs, m, _, hx, hl, hn, hel⟩ := DataW.trod_array Tryd.underlying54 hd
  have h0 := hel 0 (by decide)
  have h1 := hel 1 (by decide)
  have h2 := hel 2 (by decide)
  have h3 := hel 3 (by decide)
  rw [cells5] at h0 h1 h2 h3
  rw [cells61] at hl
  have hcell := World.var?_cell hg hvar
  obtain ⟨l⟩ := cs
  match xs, hn with
  | [x0, x1, x2, x3], _ =>
    match l, hl with
    | [d0, d1, d2, d3], _ =>
      simp only [Prod.mk.injEq] at hx
      have hx1 := hx.1
      unfold Rows.laid_caesura_table_ours at hx1
      simp only [List.map_cons, List.map_nil, DataW.agg.injEq, List.cons.injEq, and_true] at hx1
      obtain ⟨a0, a1, a2, a3⟩ := hx1
      obtain ⟨n0, e0, g0, _⟩ := DataW.trod_int Tryd.underlying5 (show DataW.trod _ Tryd.prog W _ _ _ m 5 [d0] = some x0 from h0)
      obtain ⟨n1, e1, g1, _⟩ := DataW.trod_int Tryd.underlying5 (show DataW.trod _ Tryd.prog W _ _ _ m 5 [d1] = some x1 from h1)
      obtain ⟨n2, e2, g2, _⟩ := DataW.trod_int Tryd.underlying5 (show DataW.trod _ Tryd.prog W _ _ _ m 5 [d2] = some x2 from h2)
      obtain ⟨n3, e3, g3, _⟩ := DataW.trod_int Tryd.underlying5 (show DataW.trod _ Tryd.prog W _ _ _ m 5 [d3] = some x3 from h3)
      injection e0 with e0
      injection e1 with e1
      injection e2 with e2
      injection e3 with e3
      subst g0 g1 g2 g3 e0 e1 e2 e3
      simp only [DataW.lit.injEq, Lit.int.injEq, true_and] at a0 a1 a2 a3
      subst a0 a1 a2 a3
      have hz : 0 < W.heap.size := by
        rcases Nat.eq_zero_or_pos W.heap.size with hz | hz
        · have := hcell 0
          unfold World.cell? at this
          rw [Array.getElem?_eq_none (by omega)] at this
          simp at this
        · exact hz
      exact ⟨hz, by simpa using hcell 0, by simpa using hcell 1, by simpa using hcell 2, by simpa using hcell 3⟩

/-- A WORLD FOR THE WITNESS: the settled one, the mark (block 0) holding what its initialiser lays. -/
noncomputable def laidWorld (os : Os) : World :=
  { World.holding Tryd.prog os ⟨#[], #[], []⟩ with heap := (World.holding Tryd.prog os ⟨#[], #[], []⟩).heap.modify 0 fun
      | .cells _ t frozen => .cells #[.int .u8 66, .int .u8 82, .int .u8 75, .int .u8 49] t frozen
      | o => o }
end Go.Proofs.YtnilejdokgagbaaDoor

/- What came in, opened: two lists of numbers, two numbers of 32 bits. -/
namespace Go.Proofs.YtnilejdokgagbaaDoor
open Go.ChangeShapes Go.WideShapes Go.ChangeAt Go.RowKit Go.Deep
set_option linter.unusedVariables false
set_option maxRecDepth 4000
set_option linter.unusedSimpArgs false
theorem cellsU32 : Tryd.prog.cellsOf 57 = 1 := by kernel_rfl
theorem bytesOf3 : Tryd.prog.bytesOf 3 = 8 := by kernel_rfl
theorem reach_le : reachBytes ≤ 140737488355328 := by decide
theorem row_sized {H : Type} {enc : TypeId × Value → H} {w : World} {base : Nat} {held : Bool} {fuel : Nat} {a : Option Addr} {len cap : Nat} {x : DataW H × List MemPlace} (h : DataW.trod enc Tryd.prog w base (fun _ => true) held fuel 51 [.slice a len cap] = some x) (hz : (x.1.weights Tryd.prog 51).all (· ≤ reachBytes) = true) : len ≤ 17592186044416 := by
  rcases open_slice Tryd.underlying51 h with ⟨h0, _⟩ | ⟨ad, len', cap', m, n, D, Pl, hcs, hb, hl, hm, hmm, hx, hi⟩
  · simp at h0
    obtain ⟨rfl, rfl, rfl⟩ := h0
    omega
  · simp at hcs
    obtain ⟨rfl, rfl, rfl⟩ := hcs
    subst hx
    simp only [DataW.weights, Tryd.underlying51, List.all_cons, Bool.and_eq_true, List.length_map, List.length_range, bytesOf3] at hz
    have h1 := of_decide_eq_true hz.1
    have h2 := reach_le
    omega
end Go.Proofs.YtnilejdokgagbaaDoor

