/- What slices.Clone and Of return. -/
import Derived.Test.YtehikcddnjibcaaJoin
import Derived.Test.YtehikcddnjibcaaApp
import Derived.Lib.SliceRun
namespace Go.Proofs.Ytehikcddnjibcaa
open Go.RowKit Go.BigFrame
set_option linter.unusedVariables false
set_option linter.unusedSimpArgs false

/-- A new row that holds these ranges. -/
def OutOwn (l : List Rg) (n : Nat) (w : World) (e : Ending) (w' : World) : Prop :=
  ∃ (A : Option Addr) (c : Nat), e = .returned (.slice A n c) ∧ w'.ownsRow w.heap.size 41 2 (.slice A n c) n (rcells l) ∧ Below w.heap.size w w'

theorem clone_any (l : List Rg) (n : Nat) (hl : l.length = n) (A : Option Addr) (c : Nat) (w : World) (hnil : A = none → c = 0) (hR : Reads w w.heap.size 2 A n (rcells l)) (hn : n ≤ 10000) :
    Calls Try.prog 31 #[.slice A n c] w (OutOwn l n w) := by
  have q22 : ∀ (w : World) (a : Option Addr) (n c n' c' : Nat), (binOp .eql 22 (.slice a n c) (.slice none n' c')).run Try.prog w = .ok (.bool a.isNone) w := fun w a n c n' c' => Lib.run_eql_slice_nil w _ _ a n c n' c' Try.underlying22
  obtain ⟨i0, hi0, hz0, hz1, hz2⟩ := info_parts info41
  cases A with
  | none =>
    obtain rfl := hnil rfl
    have hm : n = 0 := by
      rcases Nat.eq_zero_or_pos n with h | h
      · exact h
      · obtain ⟨_, _, h, _⟩ := hR.2 h; cases h
    subst hm
    obtain rfl : l = [] := List.eq_nil_of_length_eq_zero hl
    clear hR hl hnil
    go_enter Try.func31, Try.ntmps31
    go_wp2_with fail
    go_ret
    exact ⟨none, 0, rfl, World.ownsRow_nil _ _ _ _, Below.refl _ _⟩
  | some ad =>
    have HR := Lib.hid hR
    clear hR hl hnil
    go_enter Try.func31, Try.ntmps31
    go_wp2_with (at_builtin; refine wpList_append_src rfl _ _ 22 rfl w.heap.size 41 i0 _ 2 16 Try.underlying22 hi0 hz0 hz1 hz2 rfl (by decide) _ _ _ rfl (World.ownsRow_made (size := 2) w #[] 0 (Nat.le_refl _) (Nat.zero_le _) (by simp)) (some ad) n c w.heap.size (rcells l) rfl (fun h => by cases h) (HR.out.alloc (Nat.le_refl _) _) (rcells_one l) ?c3 ?c4 ?c5 ?_)
    case c3 => unfold maxLen; omega
    case c4 => omega
    case c5 => simp
    intro A' c' w3 hown3 hn3 hgrow
    have b3 : Below w.heap.size w w3 := below_grown (below_new _ _) (by simp) (World.ownsRow_made (size := 2) w #[] 0 (Nat.le_refl _) (Nat.zero_le _) (by simp)) hgrow
    try simp only [Nat.zero_add, List.nil_append] at hown3 ⊢
    have HO := Lib.hid hown3
    clear hown3 hgrow hn3
    go_wp2_with fail
    go_ret
    exact ⟨A', c', rfl, HO.out, b3⟩

/-- What Of, Union, Both and Not leave: a set, in a new row. -/
def OutSet (p : Int → Prop) (m : Nat) (w : World) (e : Ending) (w' : World) : Prop :=
  ∃ (s : List Rg) (A : Option Addr) (c : Nat), e = .returned (.tuple #[.slice A s.length c, .bool true]) ∧ Shp A s.length c ∧ IsSet s p ∧ s.length ≤ m ∧ Reads w' w'.heap.size 2 A s.length (rcells s) ∧ Below w.heap.size w w'
def OutNo (w : World) (e : Ending) (w' : World) : Prop := e = .returned (.tuple #[.slice none 0 0, .bool false]) ∧ Below w.heap.size w w'

def allOk (l : List Rg) : Bool := l.all mayB

set_option maxHeartbeats 1000000 in
theorem of_any (l : List Rg) (n : Nat) (hl : l.length = n) (A : Option Addr) (c : Nat) (w : World) (hnil : A = none → c = 0) (hR : Reads w w.heap.size 2 A n (rcells l)) (hn : n ≤ 10000) :
    Calls Try.prog 10 #[.slice A n c] w fun e w' => (allOk l = true ∧ OutSet (In l) n w e w') ∨ (allOk l = false ∧ OutNo w e w') := by
  have HR := Lib.hid hR
  have HL := Lib.hid hl
  have HN := Lib.hid hnil
  clear hR hl hnil
  go_enter Try.func10, Try.ntmps10
  go_wp2_with fail
  go_loopw [8] (fun i wr => ∃ (k : Nat), k ≤ n ∧ i = .int .i64 k ∧ Below w.heap.size w wr ∧ Hid (∀ r ∈ l.take k, Ok r)) (fun i _ => n - (intOf i).toNat)
  case atStart => exact ⟨0, Nat.zero_le _, rfl, Below.refl _ _, Lib.hid (by simp)⟩
  case round =>
    obtain ⟨k, hk, rfl, hb, HG⟩ := hrel
    have hsz := hb.size
    by_cases hlt : k < n
    · have kl : k < l.length := by rw [HL.out]; exact hlt
      obtain ⟨b, o, rfl, hbb, p0, p1⟩ := (HR.out.below hb).rg kl
      have HM : Hid (mayB l[k] = true → ∀ r ∈ l.take (k + 1), Ok r) := Lib.hid (fun h r hr => by
        rw [List.take_succ_eq_append_getElem kl] at hr
        rcases List.mem_append.1 hr with hr | hr
        · exact HG.out r hr
        · rw [List.mem_singleton] at hr; subst hr; exact (mayB_iff _).1 h)
      have HF : Hid (mayB l[k] = false → allOk l = false) := Lib.hid (fun h => by
        unfold allOk
        rw [List.all_eq_false]
        exact ⟨l[k], List.getElem_mem kl, by rw [h]; decide⟩)
      generalize l[k] = x at *
      obtain ⟨x0, x1⟩ := x
      simp only [] at p0 p1
      have hmc := fun W => mayBe_any x0 x1 W
      cases hm : mayB (x0, x1)
      · rw [hm] at hmc
        have HX := Lib.hid (HF.out hm)
        clear HM HF HG hm
        go_wp2_with fail
        refine (hmc _).mono ?_
        rintro e w2 ⟨rfl, g2, _⟩
        have b2 : Below w.heap.size w w2 := (hb.alloc hsz _).trans (g2.mono (by simp; omega))
        go_wp2_with fail
        go_ret2
        exact .inr ⟨HX.out, rfl, b2⟩
      · rw [hm] at hmc
        have HX := Lib.hid (HM.out hm)
        clear HM HF HG hm
        go_wp2_with fail
        refine (hmc _).mono ?_
        rintro e w2 ⟨rfl, g2, _⟩
        have b2 : Below w.heap.size w w2 := (hb.alloc hsz _).trans (g2.mono (by simp; omega))
        go_wp2_with fail
        go_roundw
        case rel => exact ⟨k + 1, by omega, by go_num, b2, HX⟩
        case measure => simp [intOf]; omega
    · have HOk : Hid (∀ r ∈ l, Ok r) := Lib.hid (by
        have h := HG.out
        rwa [List.take_of_length_le (by rw [HL.out]; omega)] at h)
      have HA : Hid (allOk l = true) := Lib.hid (by
        unfold allOk
        rw [List.all_eq_true]
        exact fun r hr => (mayB_iff r).2 (HOk.out r hr))
      have HR1 := Lib.hid ((HR.out.below hb).more hsz)
      clear HG
      go_wp2_with fail
      refine (clone_any l n HL.out A c _ HN.out HR1.out hn).mono ?_
      rintro e w2 ⟨A2, c2, rfl, hown2, g2⟩
      have HO2 := Lib.hid hown2
      clear hown2
      go_wp2_with fail
      refine (joined_any l n HL.out A2 c2 wr.heap.size _ HO2.out hn g2.size HOk.out).mono ?_
      rintro e w3 ⟨s, A3, c3, rfl, hn3, hs, hsl, hR3, g3⟩
      have HN3 := Lib.hid hn3
      have HR3 := Lib.hid hR3
      have b3 : Below w.heap.size w w3 := hb.trans ((g2.trans g3).mono hsz)
      have HS := Lib.hid hs
      have HSL := Lib.hid hsl
      clear hR3 hs hsl hn3
      go_wp2_with fail
      go_ret2
      exact .inl ⟨HA.out, s, A3, c3, rfl, HN3.out, HS.out, by have := HSL.out; have := HL.out; omega, HR3.out, b3⟩
end Go.Proofs.Ytehikcddnjibcaa
