/- What the statements' own examples (wakes) return: true. -/
import Derived.Test.YtmpehgdmdejmlaaDoorKeep
namespace Go.Proofs.YtmpehgdmdejmlaaDoor
open Go.RowKit
set_option linter.unusedVariables false
set_option linter.unusedSimpArgs false

/-- A piece as the program holds it. -/
def tri (p : Pp) : Tr := ⟨p.v, p.at_, p.n⟩
def tris (l : List UInt8) : List Tr := (piecesAt 0 l).map tri
theorem tcells_tri (l : List Pp) : tcells (l.map tri) = pcells l := by
  induction l with
  | nil => rfl
  | cons p l ih =>
    have e1 : tcells ((p :: l).map tri) = tcell (tri p) ++ tcells (l.map tri) := by simp [tcells]
    have e2 : pcells (p :: l) = pcell p ++ pcells l := by simp [pcells]
    rw [e1, e2, ih]; rfl

/-- What Pieces leaves, as its readers want it. -/
def OutTs (P : List Tr) (w : World) (e : Ending) (w' : World) : Prop :=
  ∃ A c, e = .returned (.slice A P.length c) ∧ Reads w' w'.heap.size 3 A P.length (tcells P) ∧ Below w.heap.size w w'
theorem pieces_tr (s : ByteArray) (w : World) (hs : s.size ≤ 1048576) (hT : Tab w) :
    Calls Tryd.prog 13 #[.string s] w (OutTs (tris s.data.toList) w) :=
  (pieces_any s w hs hT).mono fun e w' ⟨A, c, he, ho, hb⟩ => by
    have hl : (tris s.data.toList).length = (piecesAt 0 s.data.toList).length := by simp [tris]
    refine ⟨A, c, by rw [hl]; exact he, ?_, hb⟩
    rw [hl]
    unfold tris
    rw [tcells_tri]
    exact Reads.of_own ho

/-- The cells of a new block of pieces. -/
theorem reads_new (w : World) (P : List Tr) (t : TypeId) : Reads (w.alloc (.cells (tcells P).toArray t)) (w.heap.size + 1) 3 (some ⟨w.heap.size, 0, none⟩) P.length (tcells P) := by
  refine ⟨tcells_len P, fun _ => ⟨w.heap.size, 0, rfl, by omega, fun j u hu => ?_⟩⟩
  rw [World.cell?_alloc_mark, Nat.zero_add]
  simpa using hu

theorem w_pieces (w : World) (hT : Tab w) : Calls Tryd.prog 13 #[.string ⟨#[240, 159, 152, 65, 224, 128, 195, 169]⟩] w (OutTs [⟨65533, 0, 3⟩, ⟨65, 3, 1⟩, ⟨65533, 4, 1⟩, ⟨65533, 5, 1⟩, ⟨233, 6, 2⟩] w) := by
  have h := pieces_tr ⟨#[240, 159, 152, 65, 224, 128, 195, 169]⟩ w (by decide) hT
  rwa [show tris (⟨#[240, 159, 152, 65, 224, 128, 195, 169]⟩ : ByteArray).data.toList = [⟨65533, 0, 3⟩, ⟨65, 3, 1⟩, ⟨65533, 4, 1⟩, ⟨65533, 5, 1⟩, ⟨233, 6, 2⟩] by kernel_rfl] at h
theorem w_bytes1 (w : World) (hT : Tab w) : Calls Tryd.prog 11 #[.int .i64 8364] w fun e w' => e = .returned (.tuple #[.string ⟨#[226, 130, 172]⟩, .bool true]) ∧ Below w.heap.size w w' := by
  have h := bytes_any 8364 w hT
  rwa [show strOf (bytesOf 8364) = ⟨#[226, 130, 172]⟩ by unfold strOf; exact congrArg (fun l : List UInt8 => (⟨l.toArray⟩ : ByteArray)) (show bytesOf 8364 = [226, 130, 172] by decide +kernel), show isB 8364 = true by decide +kernel] at h
theorem w_bytes2 (w : World) (hT : Tab w) : Calls Tryd.prog 11 #[.int .i64 55296] w fun e w' => e = .returned (.tuple #[.string ⟨#[]⟩, .bool false]) ∧ Below w.heap.size w w' := by
  have h := bytes_any 55296 w hT
  rwa [show strOf (bytesOf 55296) = ⟨#[]⟩ by unfold strOf; exact congrArg (fun l : List UInt8 => (⟨l.toArray⟩ : ByteArray)) (show bytesOf 55296 = [] by decide +kernel), show isB 55296 = false by decide +kernel] at h
theorem w_text (b : Nat) (w : World) (hT : Tab w) (h0 : w.cell? ⟨b, 0, none⟩ = some (.int .i64 97)) (h1 : w.cell? ⟨b, 1, none⟩ = some (.int .i64 128512)) (hb : b < w.heap.size) :
    Calls Tryd.prog 9 #[.slice (some ⟨b, 0, none⟩) 2 2] w fun e w' => e = .returned (.tuple #[.string ⟨#[97, 240, 159, 152, 128]⟩, .bool true]) ∧ Below w.heap.size w w' := by
  have h := text_any [97, 128512] (some ⟨b, 0, none⟩) 2 w ⟨rfl, fun _ => ⟨b, 0, rfl, hb, by
    intro j u hj
    match j, hj with
    | 0, hj => simp [icells] at hj; subst hj; simpa using h0
    | 1, hj => simp [icells] at hj; subst hj; simpa using h1⟩⟩ (by decide) hT
  unfold OutT at h
  rwa [show strOf (if allB [97, 128512] = true then textL [97, 128512] else []) = ⟨#[97, 240, 159, 152, 128]⟩ by unfold strOf; exact congrArg (fun l : List UInt8 => (⟨l.toArray⟩ : ByteArray)) (show (if allB [97, 128512] = true then textL [97, 128512] else []) = [97, 240, 159, 152, 128] by decide +kernel), show allB [97, 128512] = true by decide +kernel] at h
theorem w_valid1 (w : World) (hT : Tab w) : Calls Tryd.prog 15 #[.string ⟨#[97, 240, 159, 152, 128]⟩] w fun e w' => e = .returned (.bool true) ∧ Below w.heap.size w w' := by
  have h := valid_any ⟨#[97, 240, 159, 152, 128]⟩ w (by decide) hT
  rwa [show validL (⟨#[97, 240, 159, 152, 128]⟩ : ByteArray).data.toList = true by decide +kernel] at h
theorem w_valid2 (w : World) (hT : Tab w) : Calls Tryd.prog 15 #[.string ⟨#[192]⟩] w fun e w' => e = .returned (.bool false) ∧ Below w.heap.size w w' := by
  have h := valid_any ⟨#[192]⟩ w (by decide) hT
  rwa [show validL (⟨#[192]⟩ : ByteArray).data.toList = false by decide +kernel] at h
theorem w_valid3 (w : World) (hT : Tab w) : Calls Tryd.prog 15 #[.string ⟨#[239, 191, 189]⟩] w fun e w' => e = .returned (.bool true) ∧ Below w.heap.size w w' := by
  have h := valid_any ⟨#[239, 191, 189]⟩ w (by decide) hT
  rwa [show validL (⟨#[239, 191, 189]⟩ : ByteArray).data.toList = true by decide +kernel] at h

set_option maxHeartbeats 1000000 in
theorem wakes_any (w : World) (hT : Tab w) : Calls Tryd.prog 8 #[] w fun e w' => e = .returned (.bool true) ∧ Below w.heap.size w w' := by
  have HT := Lib.hid hT
  clear hT
  go_enter Tryd.func8, Tryd.ntmps8
  go_wp2_with fail
  refine (w_pieces _ HT.out).mono ?_
  rintro e w1 ⟨A, c, rfl, hR1, hw1⟩
  have HT1 := Lib.hid (HT.out.below hw1)
  have HR1 := Lib.hid hR1
  have b1 := hw1
  clear hw1 hR1 HT
  go_wp2_with fail
  refine (w_bytes1 _ HT1.out).mono ?_
  rintro e w2 ⟨rfl, hw2⟩
  have HT2 := Lib.hid (HT1.out.below hw2)
  have HR2 := Lib.hid ((HR1.out.below hw2).more hw2.size)
  have b2 := b1.trans (hw2.mono b1.size)
  clear hw2 HT1 HR1 b1
  go_wp2_with fail
  refine (w_bytes2 _ HT2.out).mono ?_
  rintro e w3 ⟨rfl, hw3⟩
  have HT3 := Lib.hid (HT2.out.below hw3)
  have HR3 := Lib.hid ((HR2.out.below hw3).more hw3.size)
  have b3 := b2.trans (hw3.mono b2.size)
  clear hw3 HT2 HR2 b2
  go_wp2_with fail
  refine (w_text w3.heap.size _ (HT3.out.alloc _) (by simp) (by simp) (by simp)).mono ?_
  rintro e w4 ⟨rfl, hw4⟩
  have hw4' := below_call hw4
  have HT4 := Lib.hid (HT3.out.below hw4')
  have HR4 := Lib.hid ((HR3.out.below hw4').more hw4'.size)
  have b4 := b3.trans (hw4'.mono b3.size)
  clear hw4 hw4' HT3 HR3 b3
  go_wp2_with fail
  refine (keep_any [⟨65533, 0, 3⟩, ⟨65, 3, 1⟩, ⟨65533, 4, 1⟩, ⟨65533, 5, 1⟩, ⟨233, 6, 2⟩] [⟨65533, 0, 3⟩, ⟨65, 3, 1⟩, ⟨65533, 4, 1⟩, ⟨65533, 5, 1⟩, ⟨233, 6, 2⟩] A (some ⟨w4.heap.size, 0, none⟩) 5 5 c 5 _ rfl rfl (by exact (HR4.out.alloc (Nat.le_refl _) _).more (by simp)) (by exact (reads_new w4 [⟨65533, 0, 3⟩, ⟨65, 3, 1⟩, ⟨65533, 4, 1⟩, ⟨65533, 5, 1⟩, ⟨233, 6, 2⟩] 35).more (by simp)) (by omega)).mono ?_
  rintro e w5 ⟨rfl, hw5⟩
  have hw5' := below_call hw5
  have HT5 := Lib.hid (HT4.out.below hw5')
  have b5 := b4.trans (hw5'.mono b4.size)
  clear hw5 hw5' HT4 HR4 b4
  rw [eqTs_same]
  go_wp2_with fail
  refine (w_valid1 _ HT5.out).mono ?_
  rintro e w6 ⟨rfl, hw6⟩
  have HT6 := Lib.hid (HT5.out.below hw6)
  have b6 := b5.trans (hw6.mono b5.size)
  clear hw6 HT5 b5
  go_wp2_with fail
  refine (w_valid2 _ HT6.out).mono ?_
  rintro e w7 ⟨rfl, hw7⟩
  have HT7 := Lib.hid (HT6.out.below hw7)
  have b7 := b6.trans (hw7.mono b6.size)
  clear hw7 HT6 b6
  go_wp2_with fail
  refine (w_valid3 _ HT7.out).mono ?_
  rintro e w8 ⟨rfl, hw8⟩
  have b8 := b7.trans (hw8.mono b7.size)
  clear hw8 HT7 b7
  go_wp2_with fail
  go_ret
  exact ⟨rfl, b8⟩
end Go.Proofs.YtmpehgdmdejmlaaDoor
