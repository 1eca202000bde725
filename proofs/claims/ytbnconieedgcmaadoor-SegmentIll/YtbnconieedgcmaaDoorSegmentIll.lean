/- SegmentIll: of every table that may be and every text: with each ill-formed piece put as the sign that stands for it the same places among the pieces break.
   Conditions: none but the row's own (the variable of lead bytes starts as the program's text lays it). -/
import Derived.Test.YtbnconieedgcmaaDoorKS
import Derived.Test.YtbnconieedgcmaaDoorGIllM
import Derived.Test.YtbnconieedgcmaaDoorKFr
import Derived.Test.YtbnconieedgcmaaDoorKU2
import Derived.BigQuiet
import Derived.Deep.CutRange
namespace Go.Proofs.YtbnconieedgcmaaDoor.segmentIll
open Go.ChangeShapes Go.WideShapes Go.ChangeAt Go.RowKit Go.Deep Go.BigFrame
open U (Tr tcells tcell tris Tab strOf)
open Go.ChangeMaps (open_string shut_string)
set_option linter.unusedVariables false
set_option maxRecDepth 4000
set_option linter.unusedSimpArgs false
open U (textL bytesOf)

/-- Two rows of integers of the call's own, in blocks of their own. -/
structure Two2 (w : World) (base : Nat) (A : Option Addr) (c : Nat) (l : List Int) (B : Option Addr) (d : Nat) (m : List Int) (n : Nat) : Prop where
  a : w.ownsRow base 3 1 (.slice A n c) n (icells l)
  b : w.ownsRow base 3 1 (.slice B n d) n (icells m)
  ne : ∀ g, (Value.slice A n c).ownBlock = some g → (Value.slice B n d).ownBlock ≠ some g
theorem Two2.on {w w' : World} {base n : Nat} {A : Option Addr} {c : Nat} {l : List Int} {B : Option Addr} {d : Nat} {m : List Int} (h : Two2 w base A c l B d m n) (g : Below w.heap.size w w') : Two2 w' base A c l B d m n := ⟨own_below h.a g, own_below h.b g, h.ne⟩
theorem own_grown {w w' : World} {base size n : Nat} {e : TypeId} {v v2 : Value} {xs : List Value} (h : w.ownsRow base e size v n xs) (hg : w.grownBy w' v2.ownBlock) (hne : ∀ g, v2.ownBlock = some g → v.ownBlock ≠ some g) : w'.ownsRow base e size v n xs :=
  h.kept hg (by
    cases h' : v.ownBlock with
    | none => exact .inl rfl
    | some g => exact .inr (fun e => hne g e.symm h'))
theorem two_fst {wa w7 : World} {base n g H : Nat} {A : Option Addr} {c : Nat} {l : List Int} {B : Option Addr} {d : Nat} {m : List Int} (h : Two2 wa base A c l B d m n) (hg : wa.grownBy w7 (Value.slice A n c).ownBlock) (hat : (Value.slice A n c).ownBlock = some g ∨ g = H) (hH : wa.heap.size ≤ H) : w7.ownsRow base 3 1 (.slice B n d) n (icells m) ∧ (Value.slice B n d).ownBlock ≠ some g := by
  refine ⟨own_grown h.b hg (fun j hj => h.ne j hj), fun e => ?_⟩
  rcases hat with q | q
  · exact h.ne g q e
  · have := (h.b.lt g e).2; omega
theorem two_snd {wa w8 : World} {base n g7 cap7 g8 cap8 H : Nat} {B : Option Addr} {d : Nat} {l m m2 : List Int} (h7 : wa.ownsRow base 3 1 (.slice (some ⟨g7, 0, none⟩) (n + 1) cap7) (n + 1) (icells l)) (h8 : wa.ownsRow base 3 1 (.slice B n d) n (icells m)) (hne : (Value.slice B n d).ownBlock ≠ some g7) (hl7 : g7 < wa.heap.size) (hg : wa.grownBy w8 (Value.slice B n d).ownBlock) (ho : w8.ownsRow base 3 1 (.slice (some ⟨g8, 0, none⟩) (n + 1) cap8) (n + 1) (icells m2)) (hat : (Value.slice B n d).ownBlock = some g8 ∨ g8 = H) (hH : wa.heap.size ≤ H) : Two2 w8 base (some ⟨g7, 0, none⟩) cap7 l (some ⟨g8, 0, none⟩) cap8 m2 (n + 1) := by
  refine ⟨own_grown h7 hg (fun j hj e => ?_), ho, fun j hj e => ?_⟩
  · simp [Value.ownBlock] at e
    subst e
    exact hne hj
  · simp [Value.ownBlock] at hj e
    subst hj
    rcases hat with q | q
    · subst e; exact hne q
    · omega
set_option maxHeartbeats 16000000 in
theorem walk (T : TV) (s : ByteArray) (W : World) (hT : T.ok W) (hTab : Tab W) :
    Calls Tryd.prog 10 #[T.v, .string s] W fun e W' => e = .returned (.bool true) ∧ Below W.heap.size W W' := by
  obtain ⟨i0, hi0, hz0, hz1, hz2⟩ := info_parts info3
  have HRT := Lib.hid (fun V (g : Below W.heap.size W V) => refTable_any T V (hT.on g))
  have HWk := Lib.hid (fun V (g : Below W.heap.size W V) => wakes9_any V (hTab.below g))
  have HPc := Lib.hid (fun (h : s.size ≤ 1000) V (g : Below W.heap.size W V) => pieces_own s V (by omega) (hTab.below g))
  have HBy := Lib.hid (fun (v : Int) V (g : Below W.heap.size W V) => U.bytes_any v V (hTab.below g))
  have HOf := Lib.hid (fun (x : ByteArray) (h : x.size ≤ 4000) V (g : Below W.heap.size W V) => of_any T x V (hT.on g) (by omega) (hTab.below g))
  have HX := Lib.hid (box_new W T)
  have bb := below_new W (.cells #[.int .i64 T.cl, .slice T.a1 T.n1 T.c1, .slice T.a2 T.n2 T.c2, .slice T.a3 T.n3 T.c3] 26)
  clear hT hTab
  simp only [TV.v] at *
  obtain ⟨_, p0, p1, p2, p3⟩ := HX.out
  go_enter Tryd.func10, Tryd.ntmps10
  go_wp2_with fail
  generalize W.alloc (.cells #[.int .i64 T.cl, .slice T.a1 T.n1 T.c1, .slice T.a2 T.n2 T.c2, .slice T.a3 T.n3 T.c3] 26) = V0 at *
  refine (HRT.out _ bb).mono ?_
  rintro e w1 ⟨rfl, g⟩
  replace bb := bb.trans (g.mono bb.size)
  replace HX := Lib.hid (HX.out.on g)
  clear g HRT
  clear p0 p1 p2 p3
  obtain ⟨_, p0, p1, p2, p3⟩ := HX.out
  by_cases he : errV T.tb = 0
  case neg =>
    have hn : (errV T.tb != 0) = true := by rw [bne_iff_ne]; exact he
    generalize errV T.tb = ev at *
    go_wp2_with fail
    refine (HWk.out _ bb).mono ?_
    rintro e w9 ⟨rfl, g9⟩
    have bf := bb.trans (g9.mono bb.size)
    clear g9
    go_wp2_with fail
    go_ret
    exact ⟨rfl, bf⟩
  have HE : Hid (∀ L, ofS T.tb L = some (natI (ofA T.tb L))) := Lib.hid (fun L => by unfold ofS; rw [if_pos he])
  rw [he]
  clear he
  by_cases hsz : 500 < s.size
  · have hszI : (500 : Int) < (s.size : Int) := by omega
    go_wp2_with fail
    refine (HWk.out _ bb).mono ?_
    rintro e w9 ⟨rfl, g9⟩
    have bf := bb.trans (g9.mono bb.size)
    clear g9
    go_wp2_with fail
    go_ret
    exact ⟨rfl, bf⟩
  have hszI : ¬ (500 : Int) < (s.size : Int) := by omega
  have hsz1 : s.size ≤ 500 := by omega
  obtain ⟨L, hL⟩ : ∃ L, s.data.toList = L := ⟨_, rfl⟩
  have hLl : L.length = s.size := by rw [← hL]; exact Array.length_toList
  have hM0 : nP L ≤ 500 := by have := nP_le L; omega
  have HPc1 := Lib.hid (HPc.out (by omega))
  have HO1 := Lib.hid (HOf.out s (by omega))
  unfold OutPl at HO1
  rw [hL, HE.out] at HO1
  rw [hL] at HPc1
  simp only [Option.getD_some, Option.isSome_some, natI_len, ofA_len] at HO1
  obtain ⟨M, hM⟩ : ∃ M, nP L = M := ⟨_, rfl⟩
  rw [hM] at HPc1 hM0
  have HMp := Lib.hid hM
  have HLt : Hid ((tris L).length = M) := Lib.hid (by rw [tris_len, hM])
  have HAe : Hid (atL L M = s.size) := Lib.hid (by rw [← hM, atL_end, hLl])
  have HYe : Hid (textL ((valsL L).take M) = putL L) := Lib.hid (by unfold putL; rw [List.take_of_length_le (by rw [valsL_len, hM]; exact Nat.le_refl _)])
  have HYl : Hid (∀ k, k ≤ M → (textL ((valsL L).take k)).length ≤ 4 * k) := Lib.hid (fun k h => by
    have := U.textL_len ((valsL L).take k)
    rw [List.length_take] at this
    omega)
  have HYa : Hid (∀ k, k ≤ M → atL (putL L) k = (textL ((valsL L).take k)).length) := Lib.hid (fun k h => putL_at L (by omega))
  have HBn : Hid (brN T.tb (putL L) = brN T.tb L) := Lib.hid (putL_brN T.tb L)
  have HQm : Hid (∀ q ∈ brN T.tb L, q ≤ M) := Lib.hid (fun q h => by have := brN_le h; omega)
  have HQs : Hid (∀ j k (hj : j < (brN T.tb L).length) (hk : k < (brN T.tb L).length), j < k → (brN T.tb L)[j] ≤ (brN T.tb L)[k]) := Lib.hid (fun j k hj hk h => Nat.le_of_lt (List.pairwise_iff_getElem.1 (brN_sorted T.tb L) j k hj hk h))
  have HIn : Hid (∀ i j, i ≤ M → j ≤ M → i ≠ j → atL L i ≠ atL L j) := Lib.hid (fun i j h1 h2 h3 h => h3 (atL_inj L (by omega) (by omega) h))
  have HZb : (brN T.tb L).length ≤ 501 := by have := brN_len T.tb L; omega
  clear hL hM hLl HPc
  go_wp2_with fail
  refine (HPc1.out _ bb).mono ?_
  rintro e w2 ⟨A1, c1, rfl, hown, g⟩
  replace bb := bb.trans (g.mono bb.size)
  replace HX := Lib.hid (HX.out.on g)
  have HRP := Lib.hid (own_RP hown)
  have HX2 := HX
  clear hown g HPc1 p0 p1 p2 p3
  have HB2 := Lib.hid bb
  have hw2 := bb.size
  clear bb
  go_wp2_with fail
  go_loopw [6, 7, 8, 9] (fun vu v7 v8 vi wr => ∃ (k c7 c8 : Nat) (A7 A8 : Option Addr) (us : ByteArray), vi = .int .i64 k ∧ k ≤ M ∧ vu = .string us ∧ v7 = .slice A7 k c7 ∧ v8 = .slice A8 k c8 ∧ Hid (us.data.toList = textL ((valsL L).take k)) ∧ Hid (Two2 wr w2.heap.size A7 c7 (natI (fromN L k)) A8 c8 (natI (fromN (putL L) k)) k) ∧ Hid (Below w2.heap.size w2 wr)) (fun _ _ _ vi _ => M - (intOf vi).toNat)
  case atStart => exact ⟨0, 0, 0, none, none, ⟨#[]⟩, rfl, Nat.zero_le _, rfl, rfl, rfl, Lib.hid rfl, Lib.hid ⟨World.ownsRow_nil _ _ _ _, World.ownsRow_nil _ _ _ _, fun g h => by simp [Value.ownBlock] at h⟩, Lib.hid (Below.refl _ _)⟩
  case round =>
    obtain ⟨k, c7, c8, A7, A8, us, rfl, hk, rfl, rfl, rfl, HU, HT2, HB⟩ := hrel
    have husz : us.size ≤ 4 * k := by
      have h1 : us.data.toList.length = us.size := Array.length_toList
      rw [HU.out] at h1
      have := HYl.out k hk
      omega
    have HOf8 : Hid (atL (putL L) k = us.size) := Lib.hid (by
      rw [HYa.out k hk, ← HU.out]
      exact Array.length_toList)
    by_cases hlt : k < M
    · have kl : k < (tris L).length := by rw [HLt.out]; exact hlt
      obtain ⟨bA, oA, hA, _, q0, q1, q2⟩ := (HRP.out.on HB.out).at kl
      subst hA
      rw [tris_at9 L kl] at q1
      have HTx := Lib.hid (textL_take kl)
      have HIs : Hid (U.isB (tris L)[k].v = true) := Lib.hid (tris_isB kl)
      obtain ⟨x, hx⟩ : ∃ x, (tris L)[k].v = x := ⟨_, rfl⟩
      rw [hx] at q0 HTx HIs
      have HXk := Lib.hid hx
      clear hx
      generalize (tris L)[k].n = z at *
      have HF7 : Hid (natI (fromN L (k + 1)) = natI (fromN L k) ++ [((atL L k : Nat) : Int)]) := Lib.hid (by rw [fromN_succ]; simp [natI])
      have HF8 : Hid (natI (fromN (putL L) (k + 1)) = natI (fromN (putL L) k) ++ [(us.size : Int)]) := Lib.hid (by rw [fromN_succ, HOf8.out]; simp [natI])
      generalize atL L k = fa at *
      have hws := HB.out.size
      have gs := below_new wr (.cells #[.int .i64 (fa : Int)] 3)
      have HTa := Lib.hid (HT2.out.on gs)
      have HOa := Lib.hid HTa.out.a
      have HBa := Lib.hid (HB.out.trans (gs.mono hws))
      have HZa : Hid ((wr.alloc (.cells #[.int .i64 (fa : Int)] 3)).heap.size = wr.heap.size + 1) := Lib.hid (by simp)
      clear HT2 HB gs
      go_wp2_with (at_builtin; refine wpList_append_lies _ rfl _ _ 49 rfl w2.heap.size 3 i0 _ 1 8 Tryd.underlying49 hi0 hz0 hz1 hz2 rfl (by decide) _ _ _ rfl HOa.out ⟨wr.heap.size, 0, none⟩ 1 1 [.int .i64 (fa : Int)] rfl rfl ?m1 ?m2 (by omega) ?m3 ?m4 ?m5 _ rfl ?_)
      try (case m1 => intro j u hj; match j, hj with | 0, hj => simp at hj; subst hj; simp [Addr.add])
      try (case m2 => first | rfl | (intro u hu; simp at hu; subst hu; rfl))
      case m3 => unfold maxLen; omega
      case m4 => omega
      case m5 => first | omega | (simp; omega)
      intro g7 cap7 w7 hown7 hgrow7 hat7 hlt7
      have HS7 := Lib.hid (two_fst HTa.out hgrow7 hat7 (by have := HZa.out; first | omega | (simp; omega)))
      have HB7 := Lib.hid (below_grown HBa.out HBa.out.size HOa.out hgrow7)
      have gs := below_new w7 (.cells #[.int .i64 (us.size : Int)] 3)
      have HO7 : Hid ((w7.alloc (.cells #[.int .i64 (us.size : Int)] 3)).ownsRow w2.heap.size 3 1 (.slice (some ⟨g7, 0, none⟩) (k + 1) cap7) (k + 1) (icells (natI (fromN L (k + 1))))) := Lib.hid (own_below (by rw [HF7.out, icells_snoc']; exact hown7) gs)
      have HO8 := Lib.hid (own_below HS7.out.1 gs)
      have HBb := Lib.hid (HB7.out.trans (gs.mono HB7.out.size))
      have HZb7 : Hid ((w7.alloc (.cells #[.int .i64 (us.size : Int)] 3)).heap.size = w7.heap.size + 1) := Lib.hid (by simp)
      have hw7 := HB7.out.size
      clear hown7 hgrow7 hat7 HTa HOa HBa gs HB7
      go_wp2_with (at_builtin; refine wpList_append_lies _ rfl _ _ 49 rfl w2.heap.size 3 i0 _ 1 8 Tryd.underlying49 hi0 hz0 hz1 hz2 rfl (by decide) _ _ _ rfl HO8.out ⟨w7.heap.size, 0, none⟩ 1 1 [.int .i64 (us.size : Int)] rfl rfl ?m1 ?m2 (by omega) ?m3 ?m4 ?m5 _ rfl ?_)
      try (case m1 => intro j u hj; match j, hj with | 0, hj => simp at hj; subst hj; simp [Addr.add])
      try (case m2 => first | rfl | (intro u hu; simp at hu; subst hu; rfl))
      case m3 => unfold maxLen; omega
      case m4 => omega
      case m5 => first | omega | (simp; omega)
      intro g8 cap8 w8 hown8 hgrow8 hat8 hlt8
      have HTn : Hid (Two2 w8 w2.heap.size (some ⟨g7, 0, none⟩) cap7 (natI (fromN L (k + 1))) (some ⟨g8, 0, none⟩) cap8 (natI (fromN (putL L) (k + 1))) (k + 1)) := Lib.hid (two_snd HO7.out HO8.out HS7.out.2 (by have := HZb7.out; omega) hgrow8 (by rw [HF8.out, icells_snoc']; exact hown8) hat8 (by have := HZb7.out; first | omega | (simp; omega)))
      have HB8 := Lib.hid (below_grown HBb.out HBb.out.size HO8.out hgrow8)
      clear hown8 hgrow8 hat8 HO7 HO8 HS7 HBb HZb7 q0 q1 q2
      have HR8 := Lib.hid (HRP.out.on HB8.out)
      obtain ⟨bA2, oA2, hA2, _, r0, r1, r2⟩ := HR8.out.at kl
      rw [HXk.out] at r0
      injection hA2 with hA2
      injection hA2 with h1 h2
      subst h1 h2
      have HCb := Lib.hid (HBy.out x w8 (HB2.out.trans (HB8.out.mono hw2)))
      rw [HIs.out] at HCb
      go_wp2_with fail
      refine HCb.out.mono ?_
      rintro e w9 ⟨rfl, g⟩
      have HT9 := Lib.hid (HTn.out.on g)
      have HB9 := Lib.hid (HB8.out.trans (g.mono HB8.out.size))
      have HU9 : Hid ((us ++ strOf (bytesOf x)).data.toList = textL ((valsL L).take (k + 1))) := Lib.hid (by rw [HTx.out, ← HU.out]; simp [U.strOf_data])
      clear g HCb HTn HB8 r0 r1 r2 HR8
      have hxs : (strOf (bytesOf x)).size ≤ 4 := by rw [U.strOf_size]; exact U.bytesOf_len x
      have hus2 : us.size ≤ 2000 := by omega
      go_wp2_with fail
      go_roundw
      case rel => exact ⟨k + 1, cap7, cap8, _, _, _, by go_num, by omega, rfl, rfl, rfl, HU9, HT9, HB9⟩
      case measure => simp [intOf]; omega
    · obtain rfl : k = M := by omega
      rw [HYe.out] at HU
      have HUs : Hid (us.size = (putL L).length) := Lib.hid (by rw [← HU.out]; exact Array.length_toList.symm)
      have hus2 : us.size ≤ 2000 := by omega
      have HO2 := Lib.hid (HOf.out us (by omega))
      unfold OutPl at HO2
      rw [HU.out, HE.out] at HO2
      simp only [Option.getD_some, Option.isSome_some, natI_len, ofA_len] at HO2
      rw [HBn.out] at HO2
      have HF7 : Hid (natI (fromN L (k + 1)) = natI (fromN L k) ++ [(s.size : Int)]) := Lib.hid (by rw [fromN_succ, HAe.out]; simp [natI])
      have HF8 : Hid (natI (fromN (putL L) (k + 1)) = natI (fromN (putL L) k) ++ [(us.size : Int)]) := Lib.hid (by rw [fromN_succ, HOf8.out]; simp [natI])
      have hws := HB.out.size
      have HXw := Lib.hid (HX.out.on HB.out)
      have gs := below_new wr (.cells #[.int .i64 (s.size : Int)] 3)
      have HTa := Lib.hid (HT2.out.on gs)
      have HOa := Lib.hid HTa.out.a
      have HBa := Lib.hid (HB.out.trans (gs.mono hws))
      have HZa : Hid ((wr.alloc (.cells #[.int .i64 (s.size : Int)] 3)).heap.size = wr.heap.size + 1) := Lib.hid (by simp)
      clear HT2 HB gs HX
      go_wp2_with (at_builtin; refine wpList_append_lies _ rfl _ _ 49 rfl w2.heap.size 3 i0 _ 1 8 Tryd.underlying49 hi0 hz0 hz1 hz2 rfl (by decide) _ _ _ rfl HOa.out ⟨wr.heap.size, 0, none⟩ 1 1 [.int .i64 (s.size : Int)] rfl rfl ?m1 ?m2 (by omega) ?m3 ?m4 ?m5 _ rfl ?_)
      try (case m1 => intro j u hj; match j, hj with | 0, hj => simp at hj; subst hj; simp [Addr.add])
      try (case m2 => first | rfl | (intro u hu; simp at hu; subst hu; rfl))
      case m3 => unfold maxLen; omega
      case m4 => omega
      case m5 => first | omega | (simp; omega)
      intro g7 cap7 w7 hown7 hgrow7 hat7 hlt7
      have HS7 := Lib.hid (two_fst HTa.out hgrow7 hat7 (by have := HZa.out; first | omega | (simp; omega)))
      have HB7 := Lib.hid (below_grown HBa.out HBa.out.size HOa.out hgrow7)
      have gs := below_new w7 (.cells #[.int .i64 (us.size : Int)] 3)
      have HO7 : Hid ((w7.alloc (.cells #[.int .i64 (us.size : Int)] 3)).ownsRow w2.heap.size 3 1 (.slice (some ⟨g7, 0, none⟩) (k + 1) cap7) (k + 1) (icells (natI (fromN L (k + 1))))) := Lib.hid (own_below (by rw [HF7.out, icells_snoc']; exact hown7) gs)
      have HO8 := Lib.hid (own_below HS7.out.1 gs)
      have HBb := Lib.hid (HB7.out.trans (gs.mono HB7.out.size))
      have HZb7 : Hid ((w7.alloc (.cells #[.int .i64 (us.size : Int)] 3)).heap.size = w7.heap.size + 1) := Lib.hid (by simp)
      have hw7 := HB7.out.size
      clear hown7 hgrow7 hat7 HTa HOa HBa gs HB7
      go_wp2_with (at_builtin; refine wpList_append_lies _ rfl _ _ 49 rfl w2.heap.size 3 i0 _ 1 8 Tryd.underlying49 hi0 hz0 hz1 hz2 rfl (by decide) _ _ _ rfl HO8.out ⟨w7.heap.size, 0, none⟩ 1 1 [.int .i64 (us.size : Int)] rfl rfl ?m1 ?m2 (by omega) ?m3 ?m4 ?m5 _ rfl ?_)
      try (case m1 => intro j u hj; match j, hj with | 0, hj => simp at hj; subst hj; simp [Addr.add])
      try (case m2 => first | rfl | (intro u hu; simp at hu; subst hu; rfl))
      case m3 => unfold maxLen; omega
      case m4 => omega
      case m5 => first | omega | (simp; omega)
      intro g8 cap8 w8 hown8 hgrow8 hat8 hlt8
      have HTn : Hid (Two2 w8 w2.heap.size (some ⟨g7, 0, none⟩) cap7 (natI (fromN L (k + 1))) (some ⟨g8, 0, none⟩) cap8 (natI (fromN (putL L) (k + 1))) (k + 1)) := Lib.hid (two_snd HO7.out HO8.out HS7.out.2 (by have := HZb7.out; omega) hgrow8 (by rw [HF8.out, icells_snoc']; exact hown8) hat8 (by have := HZb7.out; first | omega | (simp; omega)))
      have HB8 := Lib.hid (below_grown HBb.out HBb.out.size HO8.out hgrow8)
      have bb := HB2.out.trans (HB8.out.mono hw2)
      have HX8 := Lib.hid (HX2.out.on HB8.out)
      have HR7 := Lib.hid (own_RI HTn.out.a)
      have HR8 := Lib.hid (own_RI HTn.out.b)
      clear hown8 hgrow8 hat8 HO7 HO8 HS7 HBb HZb7 HTn HB8 HB2 HBy HRP HXw HX2
      obtain ⟨_, p0, p1, p2, p3⟩ := HX8.out
      go_wp2_with fail
      refine (HO1.out _ bb).mono ?_
      rintro e w9 ⟨A9, c9, rfl, hown, g⟩
      replace bb := bb.trans (g.mono bb.size)
      replace HX8 := Lib.hid (HX8.out.on g)
      replace HR7 := Lib.hid (HR7.out.on g)
      replace HR8 := Lib.hid (HR8.out.on g)
      have HRa := Lib.hid (own_RI hown)
      clear hown g HO1 p0 p1 p2 p3
      obtain ⟨_, p0, p1, p2, p3⟩ := HX8.out
      go_wp2_with fail
      refine (HO2.out _ bb).mono ?_
      rintro e w10 ⟨A10, c10, rfl, hown, g⟩
      replace bb := bb.trans (g.mono bb.size)
      replace HR7 := Lib.hid (HR7.out.on g)
      replace HR8 := Lib.hid (HR8.out.on g)
      replace HRa := Lib.hid (HRa.out.on g)
      have HRb := Lib.hid (own_RI hown)
      clear hown g HO2 p0 p1 p2 p3 HX8
      obtain ⟨Z, hZ⟩ : ∃ Z, (brN T.tb L).length = Z := ⟨_, rfl⟩
      rw [hZ] at HRa HRb HZb ⊢
      have HZ := Lib.hid hZ
      clear hZ
      have hne : ((Z : Int) != (Z : Int)) = false := by simp
      have HBB := Lib.hid bb
      have HQa : Hid (∀ i (h : i < (brN T.tb L).length), ∃ b o, A9 = some ⟨b, o, none⟩ ∧ w10.cell? ⟨b, o + i, none⟩ = some (.int .i64 ((atL L (brN T.tb L)[i] : Nat) : Int))) := Lib.hid (fun i h => by
        have h1 : i < (natI (ofA T.tb L)).length := by rw [natI_len, ofA_len]; exact h
        have h3 : i < (ofA T.tb L).length := by rw [ofA_len]; exact h
        obtain ⟨b, o, hA, _, hc⟩ := HRa.out.at h1
        rw [natK_at _ h3 h1] at hc
        have e : (ofA T.tb L)[i] = atL L (brN T.tb L)[i] := List.getElem_map _
        rw [e] at hc
        exact ⟨b, o, hA, hc⟩)
      have HQb : Hid (∀ i (h : i < (brN T.tb L).length), ∃ b o, A10 = some ⟨b, o, none⟩ ∧ w10.cell? ⟨b, o + i, none⟩ = some (.int .i64 ((atL (putL L) (brN T.tb L)[i] : Nat) : Int))) := Lib.hid (fun i h => by
        have h1 : i < (natI (ofA T.tb (putL L))).length := by rw [natI_len, ofA_len, HBn.out]; exact h
        have h3 : i < (ofA T.tb (putL L)).length := by rw [ofA_len, HBn.out]; exact h
        have h4 : i < (brN T.tb (putL L)).length := by rw [HBn.out]; exact h
        obtain ⟨b, o, hA, _, hc⟩ := HRb.out.at h1
        rw [natK_at _ h3 h1] at hc
        have e : (ofA T.tb (putL L))[i] = atL (putL L) (brN T.tb (putL L))[i] := List.getElem_map _
        have e2 : (brN T.tb (putL L))[i] = (brN T.tb L)[i] := by simp only [HBn.out]
        rw [e, e2] at hc
        exact ⟨b, o, hA, hc⟩)
      have HFa : Hid (∀ q, q ≤ k → ∃ o, w10.cell? ⟨g7, q, none⟩ = some (.int .i64 ((atL L q : Nat) : Int)) ∧ o = 0) := Lib.hid (fun q h => by
        have h1 : q < (natI (fromN L (k + 1))).length := by rw [natI_len, fromN_len]; omega
        have h3 : q < (fromN L (k + 1)).length := by rw [fromN_len]; omega
        obtain ⟨b, o, hA, _, hc⟩ := HR7.out.at h1
        rw [natK_at _ h3 h1, fromN_at L h3] at hc
        injection hA with hA
        injection hA with e1 e2
        subst e1 e2
        rw [Nat.zero_add] at hc
        exact ⟨0, hc, rfl⟩)
      have HFb : Hid (∀ q, q ≤ k → ∃ o, w10.cell? ⟨g8, q, none⟩ = some (.int .i64 ((atL (putL L) q : Nat) : Int)) ∧ o = 0) := Lib.hid (fun q h => by
        have h1 : q < (natI (fromN (putL L) (k + 1))).length := by rw [natI_len, fromN_len]; omega
        have h3 : q < (fromN (putL L) (k + 1)).length := by rw [fromN_len]; omega
        obtain ⟨b, o, hA, _, hc⟩ := HR8.out.at h1
        rw [natK_at _ h3 h1, fromN_at (putL L) h3] at hc
        injection hA with hA
        injection hA with e1 e2
        subst e1 e2
        rw [Nat.zero_add] at hc
        exact ⟨0, hc, rfl⟩)
      clear HRa HRb HR7 HR8 bb HU HUs HF7 HF8 HOf8
      go_wp2_with fail
      go_loopw [16, 17] (fun vk vi wr => ∃ (kk i qd : Nat), vi = .int .i64 i ∧ i ≤ Z ∧ vk = .int .i64 kk ∧ kk ≤ k ∧ Hid (∀ j (h : j < (brN T.tb L).length), i ≤ j → kk ≤ (brN T.tb L)[j]) ∧ wr = w10.drewN qd) (fun _ vi _ => Z - (intOf vi).toNat)
      case atStart => exact ⟨0, 0, 0, rfl, Nat.zero_le _, rfl, Nat.zero_le _, Lib.hid (fun _ _ _ => Nat.zero_le _), rfl⟩
      case round =>
        obtain ⟨kk, i, qd, rfl, hi, rfl, hkk, HS, rfl⟩ := hrel
        by_cases hiz : i < Z
        · have hil : i < (brN T.tb L).length := by rw [HZ.out]; exact hiz
          obtain ⟨b9, o9, hA9, x0⟩ := HQa.out i hil
          obtain ⟨b10, o10, hA10, x1⟩ := HQb.out i hil
          subst hA9 hA10
          have hqM := HQm.out _ (List.getElem_mem hil)
          have hkq := HS.out i hil (Nat.le_refl _)
          have HSn : Hid (∀ j (h : j < (brN T.tb L).length), i + 1 ≤ j → (brN T.tb L)[i] ≤ (brN T.tb L)[j]) := Lib.hid (fun j h h2 => HQs.out i j hil h (by omega))
          generalize (brN T.tb L)[i] = q at *
          clear HS
          go_wp2_with fail
          go_loopw [16] (fun vk wr => ∃ (k2 qe : Nat), vk = .int .i64 k2 ∧ k2 ≤ q ∧ wr = w10.drewN qe) (fun vk _ => q - (intOf vk).toNat)
          case atStart => exact ⟨kk, qd, rfl, hkq, rfl⟩
          case round =>
            obtain ⟨k2, qe, rfl, hk2, rfl⟩ := hrel
            obtain ⟨_, y0, _⟩ := HFa.out k2 (by omega)
            obtain ⟨_, y1, _⟩ := HFb.out k2 (by omega)
            have hk2I : (k2 : Int) < ((k + 1 : Nat) : Int) := by omega
            have hk2J : (k2 : Int) < (k : Int) + 1 := by omega
            have hk2e : ((k2 : Int) == ((k + 1 : Nat) : Int)) = false := by rw [beq_eq_false_iff_ne]; omega
            have hk2f : ((k2 : Int) == (k : Int) + 1) = false := by rw [beq_eq_false_iff_ne]; omega
            by_cases hq : k2 = q
            · subst hq
              have hd : (((atL L k2 : Nat) : Int) != ((atL L k2 : Nat) : Int)) = false := by simp
              have hd2 : (((atL (putL L) k2 : Nat) : Int) != ((atL (putL L) k2 : Nat) : Int)) = false := by simp
              generalize ((atL L k2 : Nat) : Int) = fa at *
              generalize ((atL (putL L) k2 : Nat) : Int) = fb at *
              go_wp2_with fail
              go_quiet (fail)
              go_wp2_with fail
              go_quiet (fail)
              go_wp2_with fail
              go_roundw
              case rel => exact ⟨k2, i + 1, _, by go_num, by omega, rfl, by omega, HSn, rfl⟩
              case measure => simp [intOf]; omega
            · have hd : (((atL L k2 : Nat) : Int) != ((atL L q : Nat) : Int)) = true := by
                rw [bne_iff_ne]
                have := HIn.out k2 q (by omega) hqM hq
                omega
              generalize ((atL L k2 : Nat) : Int) = fa at *
              generalize ((atL L q : Nat) : Int) = fb at *
              go_wp2_with fail
              go_quiet (fail)
              go_wp2_with fail
              go_roundw
              case rel => exact ⟨k2 + 1, _, by go_num, by omega, rfl⟩
              case measure => simp [intOf]; omega
        · obtain rfl : i = Z := by omega
          have bb : Below W.heap.size W (w10.drewN qd) := below_drewN HBB.out qd
          go_wp2_with fail
          refine (HWk.out _ bb).mono ?_
          rintro e w9 ⟨rfl, g9⟩
          have bf := bb.trans (g9.mono bb.size)
          clear g9
          go_wp2_with fail
          go_ret
          exact ⟨rfl, bf⟩

/-! From the walk to the row and its card. -/
set_option maxRecDepth 100000 in
theorem contract (H : Type) (enc : TypeId × Value → H) (W : World) (base : Nat) (args : Array Value) (ds gs : List (DataW H)) (before : List MemPlace)
    (hval0 : ∀ (j : Nat) t v, Tryd.f10.params[j]? = some t → args[j]? = some v → Value.okWide Tryd.prog W .any base t v)
    (hW : DataW.Whole enc Tryd.prog Tryd.f10.params.toList Rows.segmentIllSpec.vars false W args.toList ds gs before) (hL : laidMetH Tryd.prog Rows.segmentIllRow.laid W) :
    Calls Tryd.prog 10 args W fun e W' => ∃ v, e = .returned v ∧ Rows.segmentIllSpec.post enc Tryd.prog Tryd.f10 false true false false W args v W' := by
  have hval : ∀ (j : Nat) t v, Tryd.f10.params[j]? = some t → args[j]? = some v → Value.okWide Tryd.prog W .any base t v := hval0
  have hW' := hW
  obtain ⟨p, q, hA0, hV, rfl, hfz, hnd⟩ := hW
  have hA : DataW.TrodAll enc Tryd.prog W 0 (fun _ => true) true Tryd.f10.params.toList args.toList ds p := hA0
  rw [Tryd.params10] at hA hval
  obtain ⟨v0, vs0, d0, ds0, p0, q0, hargs, rfl, rfl, h0, r0⟩ := trodAll_cons hA
  obtain ⟨v1, vs1, d1, ds1, p1, q1, rfl, rfl, rfl, h1, r1⟩ := trodAll_cons r0
  obtain ⟨rfl, rfl, rfl⟩ := trodAll_nil r1
  obtain rfl : args = #[v0, v1] := by cases args; simp_all
  obtain ⟨rfl, rfl⟩ := trodVars_none hV
  obtain ⟨cs0, rfl, _⟩ := okWide_struct Tryd.underlying26 (hval 0 26 v0 rfl rfl)
  have k0 := h0
  have lt0 : ∀ x ∈ p0, x.block < W.heap.size := by obtain ⟨m, hm⟩ := k0; exact DataW.trod_lt m _ _ _ hm
  obtain ⟨T0, e0, ok0⟩ : ∃ T : TV, cs0.toList = [.int .i64 T.cl, .slice T.a1 T.n1 T.c1, .slice T.a2 T.n2 T.c2, .slice T.a3 T.n3 T.c3] ∧ T.ok W := by
    obtain ⟨fuel, hf⟩ := h0
    exact open_table (by simpa [Value.cells] using hf)
  obtain rfl : cs0 = #[.int .i64 T0.cl, .slice T0.a1 T0.n1 T0.c1, .slice T0.a2 T0.n2 T0.c2, .slice T0.a3 T0.n3 T0.c3] := by cases cs0; simp_all
  obtain ⟨a1, rfl, rfl, rfl, z1⟩ := open_string Tryd.underlying9 (hval 1 9 v1 rfl rfl) h1
  clear hA0 hval0
  refine (walk T0 a1 W ok0 (U.tab_of_laid hL)).mono fun e W' ⟨he, bel⟩ => ?_
  subst he
  exact ⟨_, rfl, _, _, _, [], _, [], hW', trodAll_mk1 (shut_bool Tryd.underlying4 _), (trodAll_cons_mk (Below.trod laidOut (by kernel_rfl) (of_decide_eq_true (by kernel_rfl)) k0 bel lt0) (trodAll_cons_mk (shut_string Tryd.underlying9 z1) trodAll_mk0)), rfl, bel.frame _, fun h => by cases h⟩

theorem laid_met (os : Os) : laidMet Tryd.prog Rows.segmentIllRow.laid ((U.laidWorld os).forCall (fun _ _ => 0) ⟨#[], #[.agg #[.int .i64 0, .slice none 0 0, .slice none 0 0, .slice none 0 0], .string ByteArray.empty], []⟩).memory :=
  laidMet_of_run' 8 (by kernel_rfl) (by kernel_rfl)
theorem reads (os : Os) {H : Type} (enc : TypeId × Value → H) : ∃ places, DataW.whole enc Tryd.prog ((U.laidWorld os).forCall (fun _ _ => 0) ⟨#[], #[.agg #[.int .i64 0, .slice none 0 0, .slice none 0 0, .slice none 0 0], .string ByteArray.empty], []⟩).memory Tryd.f10.params.toList Rows.segmentIllSpec.vars false (#[.agg #[.int .i64 0, .slice none 0 0, .slice none 0 0, .slice none 0 0], .string ByteArray.empty] : Array Value).toList 8 = some ([.agg [.lit (.int .i64 0), .nil, .nil, .nil], .lit (.string [])], [], places) :=
  ⟨[], by kernel_rfl⟩

set_option maxRecDepth 100000 in
theorem lifted (os : Os) (started : os.Started) (H : Type) (enc : TypeId × Value → H) (F : Stop.Interp) :
    ReturnsInHanded {} Tryd.checked os 10 .any ((OpenSpec.ofChange Rows.segmentIllSpec).preRow enc Tryd.prog Tryd.f10 Rows.segmentIllRow.domain false Rows.segmentIllRow.laid) (((OpenSpec.ofChange Rows.segmentIllSpec).at F).post enc Tryd.prog Tryd.f10 false true false false) := by
  obtain ⟨places, hx⟩ := reads os enc
  refine returnsInHanded_of_row (C := Tryd.checked) (s := OpenSpec.ofChange Rows.segmentIllSpec) own started (by kernel_rfl) Tryd.func10
    (witness_row_at (enc := enc) (C := Tryd.checked) false (U.laidWorld os) #[.agg #[.int .i64 0, .slice none 0 0, .slice none 0 0, .slice none 0 0], .string ByteArray.empty] rfl (by kernel_rfl) (by kernel_rfl) (by kernel_rfl)
      (OpenSpec.preRow_of_cond 8 hx (by kernel_rfl) (fun k hk => by cases hk) (by kernel_rfl) (laid_met os))) ?_
  intro W base args ds gs before hval hW _ _ _ hL _ _
  exact contract H enc W base args ds gs before hval hW hL

set_option maxRecDepth 100000 in
theorem said : Rows.SegmentIllSaid :=
  OpenClaim.holds_of_cond 10 Tryd.f10 rfl rfl rfl rfl rfl rfl rfl ⟨rfl, rfl, rfl, rfl, rfl⟩ rfl rfl rfl rfl rfl (by kernel_rfl) Tryd.func10 (by kernel_rfl)
    (of_decide_eq_true (by kernel_rfl)) (by unfold Func.isWrapper; first | (rw [if_pos (by decide +kernel)]; kernel_rfl) | (rw [if_neg (by decide +kernel)]; exact ⟨rfl, rfl⟩))
    (fun os started H enc _ F => by rw [OpenClaim.pre_eq_preRow]; exact lifted os started H enc F)

theorem plain (f : FuncId) (fn : Func) (hf : Tryd.pinned.checked.prog.funcNamed Rows.segmentIllRow.func = some f) (hfn : Tryd.pinned.checked.prog.funcs[f]? = some fn) :
    false = Tryd.pinned.checked.prog.looks [] ∧ ∀ (j : Nat) t, fn.params[j]? = some t → Tryd.pinned.checked.prog.wantsStandIn t = false := by
  obtain rfl : f = 10 := Option.some.inj ((show Tryd.prog.funcNamed Rows.segmentIllRow.func = some 10 by kernel_rfl).symm.trans hf) |>.symm
  obtain rfl : fn = Tryd.f10 := (Option.some.inj (Tryd.func10.symm.trans hfn)).symm
  refine ⟨by kernel_rfl, fun j t ht => ?_⟩
  rw [Tryd.params10] at ht
  have hm : t ∈ [26, 9] := by simpa using Array.mem_of_getElem? ht
  have hall : ([26, 9].all fun u => !Tryd.prog.wantsStandIn u) = true := by kernel_rfl
  exact (show Tryd.prog.wantsStandIn t = false by simpa using List.all_eq_true.1 hall t hm)

theorem card : Rows.SegmentIllCardSaid :=
  Claim7.holds_tied_plain_at .later [] _ _ _ _ said (fun _ h => by cases h) (by kernel_rfl) (fun _ h => by cases h) segmentIll_row_tie rfl ⟨rfl, rfl⟩ (by kernel_rfl) rfl plain (by kernel_rfl)
end Go.Proofs.YtbnconieedgcmaaDoor.segmentIll

namespace Go.Proofs.YtbnconieedgcmaaDoor
/-- The given statement, under a short name. -/
theorem segmentIll_holds : Rows.SegmentIllCardSaid := segmentIll.card
#print axioms segmentIll_holds
end Go.Proofs.YtbnconieedgcmaaDoor
