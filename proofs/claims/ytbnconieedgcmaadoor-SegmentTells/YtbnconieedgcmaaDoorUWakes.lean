/- What the statements' own examples (wakes) return: true. -/
import Derived.Test.YtbnconieedgcmaaDoorUKeep
namespace Go.Proofs.YtbnconieedgcmaaDoor.U
open Go.RowKit
set_option linter.unusedVariables false
set_option linter.unusedSimpArgs false

/-- A piece as the program holds it. -/
def tri (p : Pp) : Tr := ⟨p.v, p.at_, p.n⟩
def tris (l : List UInt8) : List Tr := (piecesAt 0 l).map tri
theorem tcells_tri (l : List Pp) : tcells (l.map tri) = pcells l := by
  induction l with
  | nil => rfl
  | cons p l ih =>
    have e1 : tcells ((p :: l).map tri) = tcell (tri p) ++ tcells (l.map tri) := by simp [tcells]
    have e2 : pcells (p :: l) = pcell p ++ pcells l := by simp [pcells]
    rw [e1, e2, ih]; rfl

/-- What Pieces leaves, as its readers want it. -/
def OutTs (P : List Tr) (w : World) (e : Ending) (w' : World) : Prop :=
  ∃ A c, e = .returned (.slice A P.length c) ∧ Reads w' w'.heap.size 3 A P.length (tcells P) ∧ Below w.heap.size w w'
theorem pieces_tr (s : ByteArray) (w : World) (hs : s.size ≤ 1048576) (hT : Tab w) :
    Calls Tryd.prog 38 #[.string s] w (OutTs (tris s.data.toList) w) :=
  (pieces_any s w hs hT).mono fun e w' ⟨A, c, he, ho, hb⟩ => by
    have hl : (tris s.data.toList).length = (piecesAt 0 s.data.toList).length := by simp [tris]
    refine ⟨A, c, by rw [hl]; exact he, ?_, hb⟩
    rw [hl]
    unfold tris
    rw [tcells_tri]
    exact Reads.of_own ho

/-- The cells of a new block of pieces. -/
theorem reads_new (w : World) (P : List Tr) (t : TypeId) : Reads (w.alloc (.cells (tcells P).toArray t)) (w.heap.size + 1) 3 (some ⟨w.heap.size, 0, none⟩) P.length (tcells P) := by
  refine ⟨tcells_len P, fun _ => ⟨w.heap.size, 0, rfl, by omega, fun j u hu => ?_⟩⟩
  rw [World.cell?_alloc_mark, Nat.zero_add]
  simpa using hu

theorem w_pieces (w : World) (hT : Tab w) : Calls Tryd.prog 38 #[.string ⟨#[240, 159, 152, 65, 224, 128, 195, 169]⟩] w (OutTs [⟨65533, 0, 3⟩, ⟨65, 3, 1⟩, ⟨65533, 4, 1⟩, ⟨65533, 5, 1⟩, ⟨233, 6, 2⟩] w) := by
  have h := pieces_tr ⟨#[240, 159, 152, 65, 224, 128, 195, 169]⟩ w (by decide) hT
  rwa [show tris (⟨#[240, 159, 152, 65, 224, 128, 195, 169]⟩ : ByteArray).data.toList = [⟨65533, 0, 3⟩, ⟨65, 3, 1⟩, ⟨65533, 4, 1⟩, ⟨65533, 5, 1⟩, ⟨233, 6, 2⟩] by kernel_rfl] at h
theorem w_bytes1 (w : World) (hT : Tab w) : Calls Tryd.prog 40 #[.int .i64 8364] w fun e w' => e = .returned (.tuple #[.string ⟨#[226, 130, 172]⟩, .bool true]) ∧ Below w.heap.size w w' := by
  have h := bytes_any 8364 w hT
  rwa [show strOf (bytesOf 8364) = ⟨#[226, 130, 172]⟩ by unfold strOf; exact congrArg (fun l : List UInt8 => (⟨l.toArray⟩ : ByteArray)) (show bytesOf 8364 = [226, 130, 172] by decide +kernel), show isB 8364 = true by decide +kernel] at h
theorem w_bytes2 (w : World) (hT : Tab w) : Calls Tryd.prog 40 #[.int .i64 55296] w fun e w' => e = .returned (.tuple #[.string ⟨#[]⟩, .bool false]) ∧ Below w.heap.size w w' := by
  have h := bytes_any 55296 w hT
  rwa [show strOf (bytesOf 55296) = ⟨#[]⟩ by unfold strOf; exact congrArg (fun l : List UInt8 => (⟨l.toArray⟩ : ByteArray)) (show bytesOf 55296 = [] by decide +kernel), show isB 55296 = false by decide +kernel] at h
theorem w_text (b : Nat) (w : World) (hT : Tab w) (h0 : w.cell? ⟨b, 0, none⟩ = some (.int .i64 97)) (h1 : w.cell? ⟨b, 1, none⟩ = some (.int .i64 128512)) (hb : b < w.heap.size) :
    Calls Tryd.prog 93 #[.slice (some ⟨b, 0, none⟩) 2 2] w fun e w' => e = .returned (.tuple #[.string ⟨#[97, 240, 159, 152, 128]⟩, .bool true]) ∧ Below w.heap.size w w' := by
  have h := text_any [97, 128512] (some ⟨b, 0, none⟩) 2 w ⟨rfl, fun _ => ⟨b, 0, rfl, hb, by
    intro j u hj
    match j, hj with
    | 0, hj => simp [icells] at hj; subst hj; simpa using h0
    | 1, hj => simp [icells] at hj; subst hj; simpa using h1⟩⟩ (by decide) hT
  unfold OutT at h
  rwa [show strOf (if allB [97, 128512] = true then textL [97, 128512] else []) = ⟨#[97, 240, 159, 152, 128]⟩ by unfold strOf; exact congrArg (fun l : List UInt8 => (⟨l.toArray⟩ : ByteArray)) (show (if allB [97, 128512] = true then textL [97, 128512] else []) = [97, 240, 159, 152, 128] by decide +kernel), show allB [97, 128512] = true by decide +kernel] at h
theorem w_valid1 (w : World) (hT : Tab w) : Calls Tryd.prog 41 #[.string ⟨#[97, 240, 159, 152, 128]⟩] w fun e w' => e = .returned (.bool true) ∧ Below w.heap.size w w' := by
  have h := valid_any ⟨#[97, 240, 159, 152, 128]⟩ w (by decide) hT
  rwa [show validL (⟨#[97, 240, 159, 152, 128]⟩ : ByteArray).data.toList = true by decide +kernel] at h
theorem w_valid2 (w : World) (hT : Tab w) : Calls Tryd.prog 41 #[.string ⟨#[192]⟩] w fun e w' => e = .returned (.bool false) ∧ Below w.heap.size w w' := by
  have h := valid_any ⟨#[192]⟩ w (by decide) hT
  rwa [show validL (⟨#[192]⟩ : ByteArray).data.toList = false by decide +kernel] at h
theorem w_valid3 (w : World) (hT : Tab w) : Calls Tryd.prog 41 #[.string ⟨#[239, 191, 189]⟩] w fun e w' => e = .returned (.bool true) ∧ Below w.heap.size w w' := by
  have h := valid_any ⟨#[239, 191, 189]⟩ w (by decide) hT
  rwa [show validL (⟨#[239, 191, 189]⟩ : ByteArray).data.toList = true by decide +kernel] at h

end Go.Proofs.YtbnconieedgcmaaDoor.U
