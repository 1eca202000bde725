/- What slices.SortFunc leaves of a row of ranges: the same ranges, in order; nothing else that was there is turned. -/
import Derived.Test.YtehikcddnjibcaaGood
import Derived.Test.YtehikcddnjibcaaSortLay
import Derived.Test.YtehikcddnjibcaaJMath
namespace Go.Proofs.Ytehikcddnjibcaa
open Go.RowKit Go.Shelf Go.Lib Go.Sort
set_option linter.unusedVariables false
set_option linter.unusedSimpArgs false

theorem lt_cmpR (x y : Rg) : ltOf cmpR x y = ltR x y := cmpR_lt x y
theorem swoR : SWO (ltOf cmpR) where
  irrefl x := by rw [lt_cmpR]; exact ltR_irrefl x
  trans x y z h1 h2 := by rw [lt_cmpR] at *; exact ltR_trans h1 h2
  ntrans x y z h1 h2 := by
    rw [lt_cmpR] at *
    simp [ltR] at *
    omega
theorem cmpLays46 (blk off size : Nat) (w : World) : CmpLays Try.prog 46 #[] rcell 2 cmpR blk off size w :=
  fun _ _ _ _ x y => lay_of (compare_any x.1 x.2 y.1 y.2 _)

theorem flat_at (l : List Rg) (j : Nat) (hj : j < l.length * 2) : (rcells l)[j]? = some ((rcell l.toArray[j / 2]!)[j % 2]!) := by
  have hk : j / 2 < l.length := by omega
  obtain ⟨h0, h1⟩ := rcells_at l (j / 2) hk
  rw [getElem!_pos l.toArray (j / 2) (by simpa using hk)]
  simp only [List.getElem_toArray]
  rcases Nat.mod_two_eq_zero_or_one j with e | e
  · have ej : j = j / 2 * 2 := by omega
    rw [e]
    conv => lhs; rw [ej]
    exact h0
  · have ej : j = j / 2 * 2 + 1 := by omega
    rw [e]
    conv => lhs; rw [ej]
    exact h1

/-- A row of the call's own, in the sort's words. -/
theorem holds_own {w : World} {base g n cap : Nat} {l : List Rg} (hl : l.length = n) (h : w.ownsRow base 41 2 (.slice (some ⟨g, 0, none⟩) n cap) n (rcells l)) : HoldsK rcell 2 w g 0 l.toArray := by
  intro j hj
  rw [size_flatK] at hj
  have hj' : j < l.length * 2 := by simpa using hj
  rw [get_flatK _ _ _ _ hj, Nat.zero_add]
  exact ⟨(h.cellAt j (by omega)).trans (flat_at l j hj'), h.frozenAt j⟩
theorem reads_holds {w : World} {g : Nat} {l : List Rg} (hg : g < w.heap.size) (h : HoldsK rcell 2 w g 0 l.toArray) : Reads w w.heap.size 2 (some ⟨g, 0, none⟩) l.length (rcells l) := by
  refine ⟨rcells_len l, fun _ => ⟨g, 0, rfl, hg, fun j u hu => ?_⟩⟩
  have hj : j < l.length * 2 := by
    have := (List.getElem?_eq_some_iff.1 hu).1
    rwa [rcells_len] at this
  have hc := (h j (by rw [size_flatK]; simpa using hj)).1
  rw [get_flatK _ _ _ _ (by simpa using hj)] at hc
  rw [hc]
  exact (flat_at l j hj).symm.trans hu

/-- What the sort leaves. -/
def OutSort (A : Option Addr) (n base : Nat) (l : List Rg) (w : World) (e : Ending) (w' : World) : Prop :=
  ∃ l' : List Rg, e = .returned (.tuple #[]) ∧ l'.length = n ∧ l'.Perm l ∧ SortR l' ∧ Reads w' w'.heap.size 2 A n (rcells l') ∧ Below base w w'

theorem sort_any (l : List Rg) (n : Nat) (hl : l.length = n) (A : Option Addr) (c base : Nat) (w : World) (h : w.ownsRow base 41 2 (.slice A n c) n (rcells l)) (hn : n ≤ 1000000) (hbase : base ≤ w.heap.size) :
    Calls Try.prog 47 #[.slice A n c, .func (.func 46) #[] #[]] w (OutSort A n base l w) := by
  by_cases h0 : n = 0
  · subst h0
    obtain rfl : l = [] := List.eq_nil_of_length_eq_zero hl
    have hcon := AnyF.slices_SortFunc_none (P := Try.prog) (ρ := sortR_ren) { sortR with } A c (.func (.func 46) #[] #[]) w
    refine Calls.mono (show Calls Try.prog 47 _ _ _ from hcon) ?_
    rintro e w' ⟨rfl, rfl⟩
    exact ⟨[], rfl, rfl, List.Perm.refl _, fun i j hi => by simp at hi, ⟨rfl, fun h => absurd h (by omega)⟩, Below.refl _ _⟩
  · obtain ⟨g, cap, hv, hg0, hg⟩ := h.form (by omega)
    injection hv with e1 e2 e3
    subst e1 e3
    have hH := holds_own hl h
    have eg : ∀ args w, (callFunc 46 args).run Try.prog w = .ok (.enter 46 args) w := enters_of Try.func46 (by kernel_rfl) rfl
    have hcon := AnyQ.slices_SortFunc (P := Try.prog) (ρ := sortR_ren) sortR 2 Try.isAgg41 Try.sizeOf41 rcell (fun _ => rfl) (fun x v hv => by simp [rcell] at hv; rcases hv with rfl | rfl <;> rfl) cmpR swoR 46 #[] g 0 c l.toArray w eg (cmpLays46 g 0 _ w) hH hg (by simp; omega)
    have es : l.toArray.size = n := by simp [hl]
    rw [es] at hcon
    have hcon' := (show Calls Try.prog 47 #[.slice (some ⟨g, 0, none⟩) n c, .func (.func 46) #[] #[]] w (fun e w' => e = .returned (.tuple #[]) ∧ ∃ d' m os, PermIn 0 n l.toArray d' ∧ SortedIn (ltOf cmpR) 0 n d' ∧ w' = sortWorldK rcell 2 w g 0 m d' os) from hcon)
    refine hcon'.mono ?_
    rintro e w' ⟨rfl, d', m, os, hp, hs, rfl⟩
    obtain ⟨hsz, _, hperm⟩ := hp
    have hsz' : d'.size = n := by rw [hsz, es]
    have hH' : HoldsK rcell 2 (sortWorldK rcell 2 w g 0 m d' os) g 0 d' := holdsK_sortWorldK_c rcell 2 w g 0 l.toArray d' m os hH hg (by simpa using hsz)
    have hlt := lt_sortWorldK rcell 2 w g 0 m d' os hg
    refine ⟨d'.toList, rfl, by simpa using hsz', ?_, ?_, ?_, ?_⟩
    · have e1 : (d'.extract 0 n).toList = d'.toList := by rw [← hsz']; simp
      have e2 : (l.toArray.extract 0 n).toList = l := by rw [← hl]; simp
      rw [e1, e2] at hperm
      exact hperm
    · intro i j hi hj hij
      have h1 := hs i j (Nat.zero_le _) hij (by rw [← hsz']; simpa using hj)
      rw [lt_cmpR, getElem!_pos d' j (by simpa using hj), getElem!_pos d' i (by simpa using hi)] at h1
      simp [ltR] at h1
      have e1 : d'.toList[i] = d'[i]'(by simpa using hi) := by simp
      have e2 : d'.toList[j] = d'[j]'(by simpa using hj) := by simp
      rw [e1, e2]
      exact h1.1
    · have h2 : HoldsK rcell 2 (sortWorldK rcell 2 w g 0 m d' os) g 0 d'.toList.toArray := by simpa using hH'
      have h3 := reads_holds hlt h2
      rw [show d'.toList.length = n by simpa using hsz'] at h3
      exact h3
    · refine ⟨rfl, rfl, rfl, size_sortWorldK_c rcell 2 w g 0 m d' os, fun k hk => ?_⟩
      unfold sortWorldK putRowK putRow mapBlock grow
      show ((w.heap.modify g _) ++ os)[k]? = _
      rw [Array.getElem?_append_left (by simp; omega), Array.getElem?_modify, if_neg (by omega)]
end Go.Proofs.Ytehikcddnjibcaa
