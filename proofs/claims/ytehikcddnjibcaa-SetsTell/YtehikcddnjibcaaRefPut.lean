/- What the document's put returns: a number put where it belongs. -/
import Derived.Test.YtehikcddnjibcaaRMath
import Derived.Test.YtehikcddnjibcaaApp
import Derived.Test.YtehikcddnjibcaaFns
namespace Go.Proofs.Ytehikcddnjibcaa
open Go.RowKit Go.BigFrame
set_option linter.unusedVariables false
set_option linter.unusedSimpArgs false

/-- A row of integers, new or as it was. -/
def OutI (l : List Int) (w : World) (e : Ending) (w' : World) : Prop :=
  ∃ (A : Option Addr) (c n : Nat), e = .returned (.slice A n c) ∧ l.length = n ∧ Shp A n c ∧ Reads w' w'.heap.size 1 A n (icells l) ∧ Below w.heap.size w w'
theorem rd_drew {w : World} {B size n : Nat} {A : Option Addr} {xs : List Value} (h : Reads w B size A n xs) : Reads w.drew B size A n xs := h.keep fun _ _ => rfl
theorem ic_one (l : List Int) : ∀ u ∈ icells l, u.oneCell' = true := by
  intro u hu
  simp only [icells, List.mem_map] at hu
  obtain ⟨x, _, rfl⟩ := hu
  rfl
theorem ic_app (l m : List Int) : icells (l ++ m) = icells l ++ icells m := by simp [icells]
/-- The first k of a row; what is behind them. -/
theorem rd_take {w : World} {B n : Nat} {A : Option Addr} {l : List Int} (h : Reads w B 1 A n (icells l)) {k : Nat} (hk : k ≤ n) : Reads w B 1 A k (icells (l.take k)) := by
  have h1 := h.1
  rw [icells_len] at h1
  refine ⟨by rw [icells_len, List.length_take]; omega, fun hp => ?_⟩
  obtain ⟨b, o, e, hb, hc⟩ := h.2 (by omega)
  refine ⟨b, o, e, hb, fun j u hj => hc j u ?_⟩
  unfold icells at hj ⊢
  rw [List.getElem?_map] at hj ⊢
  rw [List.getElem?_take] at hj
  split at hj
  · exact hj
  · simp at hj
theorem rd_drop {w : World} {B n b o : Nat} {l : List Int} (h : Reads w B 1 (some ⟨b, o, none⟩) n (icells l)) {k : Nat} (hk : k ≤ n) : Reads w B 1 (some ⟨b, o + k, none⟩) (n - k) (icells (l.drop k)) := by
  have h1 := h.1
  rw [icells_len] at h1
  refine ⟨by rw [icells_len, List.length_drop]; omega, fun hp => ?_⟩
  obtain ⟨b', o', e, hb, hc⟩ := h.2 (by omega)
  injection e with e
  injection e with e1 e2
  subst e1 e2
  refine ⟨b, o + k, rfl, hb, fun j u hj => ?_⟩
  rw [Nat.add_assoc]
  refine hc (k + j) u ?_
  unfold icells at hj ⊢
  rw [List.getElem?_map, List.getElem?_drop] at hj
  rw [List.getElem?_map]
  exact hj

theorem rd_cell {w : World} {b : Nat} {v : Int} (h : w.cell? ⟨b, 0, none⟩ = some (.int .i64 v)) : Reads w w.heap.size 1 (some ⟨b, 0, none⟩) 1 (icells [v]) := by
  refine ⟨rfl, fun _ => ⟨b, 0, rfl, World.block_lt_of_cell? _ _ h, fun j u hj => ?_⟩⟩
  match j, hj with
  | 0, hj => simp [icells] at hj; subst hj; exact h
theorem rd_lit1 (w : World) (v : Int) : Reads (w.alloc (.cells #[.int .i64 v] 3)) (w.alloc (.cells #[.int .i64 v] 3)).heap.size 1 (some ⟨w.heap.size, 0, none⟩) 1 (icells [v]) := rd_cell (by simp)
theorem made3 (w : World) (base : Nat) (h : base ≤ w.heap.size) : (w.alloc (.cells #[] 3)).ownsRow base 3 1 (.slice (some ⟨w.heap.size, 0, none⟩) 0 0) 0 [] := World.ownsRow_made (size := 1) w #[] 0 h (Nat.zero_le _) (by simp)
theorem made3v (w : World) (v : Int) : ((w.alloc (.cells #[.int .i64 v] 3)).alloc (.cells #[] 3)).ownsRow w.heap.size 3 1 (.slice (some ⟨w.heap.size + 1, 0, none⟩) 0 0) 0 [] := by
  have h := made3 (w.alloc (.cells #[.int .i64 v] 3)) w.heap.size (by simp)
  simpa using h

set_option maxHeartbeats 4000000 in
theorem put_any (l : List Int) (n : Nat) (hl : l.length = n) (A : Option Addr) (c : Nat) (v : Int) (w : World) (hA : Shp A n c) (hR : Reads w w.heap.size 1 A n (icells l)) (h0 : 0 < n) (hn : n ≤ 10000) :
    Calls Try.prog 49 #[.slice A n c, .int .i64 v] w (OutI (putL l v) w) := by
  obtain ⟨j0, hj0, hy0, hy1, hy2⟩ := info_parts info3
  have HR := Lib.hid hR
  have HL := Lib.hid hl
  have HA := Lib.hid hA
  clear hR hl hA
  go_enter Try.func49, Try.ntmps49
  go_wp2_with fail
  go_loopw [5] (fun i wr => ∃ (k : Nat), k ≤ n ∧ i = .int .i64 k ∧ wr = w ∧ Hid (∀ i (h : i < l.length), i < k → l[i] < v)) (fun i _ => n - (intOf i).toNat)
  case atStart => exact ⟨0, Nat.zero_le _, rfl, rfl, Lib.hid (fun i _ h => by omega)⟩
  case round =>
    obtain ⟨k, hk, rfl, rfl, HG⟩ := hrel
    by_cases hlt : k < n
    · have kl : k < l.length := by rw [HL.out]; exact hlt
      obtain ⟨b, o, rfl, hbb, p0⟩ := HR.out.int kl
      by_cases hv : l[k] < v
      · have HG' : Hid (∀ i (h : i < l.length), i < k + 1 → l[i] < v) := Lib.hid (fun i h hi => by
          rcases Nat.lt_or_ge i k with h2 | h2
          · exact HG.out i h h2
          · have e : i = k := by omega
            subst e; exact hv)
        generalize l[k] = x at *
        clear HG
        go_wp2_with fail
        go_roundw
        case rel => exact ⟨k + 1, by omega, by go_num, (by first | rfl | trivial), HG'⟩
        case measure => simp [intOf]; omega
      · have HP := Lib.hid (putL_at l v k HG.out (by omega) (fun _ => hv))
        by_cases he : l[k] = v
        · have HE : Hid (putL l v = l) := Lib.hid (by rw [HP.out, if_pos ⟨kl, he⟩])
          have he' : (l[k] == v) = true := by rw [beq_iff_eq]; exact he
          have hv' : decide (l[k] < v) = false := decide_eq_false hv
          generalize l[k] = x at *
          clear HG HP
          go_wp2_with fail
          go_ret
          exact ⟨_, c, n, rfl, by rw [HE.out, HL.out], HA.out, by rw [HE.out]; exact HR.out, Below.refl _ _⟩
        · have HE : Hid (putL l v = l.take k ++ v :: l.drop k) := Lib.hid (by rw [HP.out, if_neg (fun ⟨_, h⟩ => he h)])
          have he' : (l[k] == v) = false := by rw [beq_eq_false_iff_ne]; exact he
          have hv' : decide (l[k] < v) = false := decide_eq_false hv
          generalize l[k] = x at *
          clear HG HP
          have hck : ¬ c = k := by have := HA.out.2.1; omega
          have hkc : k ≤ c := by have := HA.out.2.1; omega
          have hcm : c ≤ 9223372036854775807 := by have := HA.out.2.2; unfold maxLen at this; omega
          have HR36 := Lib.hid (rd_take HR.out hk)
          have HR43 := Lib.hid (rd_drop HR.out hk)
          have HN43 : Hid ((some (⟨b, o + k, none⟩ : Addr)) = none → c - k = 0) := Lib.hid (fun h => by cases h)
          go_wp2_with fail
          go_region_law (first | (refine step_append_src rfl (.tmp 33) (.tmp 36) 39 rfl wr.heap.size 3 j0 _ 1 8 Try.underlying39 hj0 hy0 hy1 hy2 rfl (by decide) (.slice (some ⟨wr.heap.size, 0, none⟩) 0 0) 0 [] (by first | rfl | simp [Act.eval, Act.put]) (by exact (made3 wr wr.heap.size (Nat.le_refl _))) (some ⟨b, o, none⟩) k c wr.heap.size (icells (l.take k)) (by first | rfl | simp [Act.eval, Act.put]) HA.out.1 (by exact (HR36.out.alloc (Nat.le_refl _) _)) (ic_one _) (by unfold maxLen; omega) (by omega) (by first | (simp; done) | (simp; omega)) ?_; intro A7 c7 w7 hown7 hn7 hgrow7; have b7 : Below wr.heap.size wr w7 := below_grown (w := wr.alloc _) (below_new _ _) (by simp) (made3 wr wr.heap.size (Nat.le_refl _)) ⟨hgrow7.os, hgrow7.tape, hgrow7.output, hgrow7.size, hgrow7.block⟩) | (refine step_append_src rfl (.tmp 33) (.tmp 36) 39 rfl wr.heap.size 3 j0 _ 1 8 Try.underlying39 hj0 hy0 hy1 hy2 rfl (by decide) (.slice (some ⟨wr.heap.size, 0, none⟩) 0 0) 0 [] (by first | rfl | simp [Act.eval, Act.put]) (by exact ((made3 wr wr.heap.size (Nat.le_refl _)).alloc (.cells #[.int .i64 v] 3))) (some ⟨b, o, none⟩) k c wr.heap.size (icells (l.take k)) (by first | rfl | simp [Act.eval, Act.put]) HA.out.1 (by exact ((HR36.out.alloc (Nat.le_refl _) _).alloc (by simp) _)) (ic_one _) (by unfold maxLen; omega) (by omega) (by first | (simp; done) | (simp; omega)) ?_; intro A7 c7 w7 hown7 hn7 hgrow7; have b7 : Below wr.heap.size wr w7 := below_grown (w := (wr.alloc _).alloc _) ((below_new _ _).alloc (by simp) _) (by simp; omega) ((made3 wr wr.heap.size (Nat.le_refl _)).alloc (.cells #[.int .i64 v] 3)) ⟨hgrow7.os, hgrow7.tape, hgrow7.output, hgrow7.size, hgrow7.block⟩; have hv7 : w7.cell? ⟨wr.heap.size + 1, 0, none⟩ = some (.int .i64 v) := hgrow7.cell (a := ⟨wr.heap.size + 1, 0, none⟩) (by simp) (by simp [Value.ownBlock])) | (refine step_append_src rfl (.tmp 33) (.tmp 36) 39 rfl wr.heap.size 3 j0 _ 1 8 Try.underlying39 hj0 hy0 hy1 hy2 rfl (by decide) (.slice (some ⟨wr.heap.size + 1, 0, none⟩) 0 0) 0 [] (by first | rfl | simp [Act.eval, Act.put]) (by exact (made3v wr v)) (some ⟨b, o, none⟩) k c wr.heap.size (icells (l.take k)) (by first | rfl | simp [Act.eval, Act.put]) HA.out.1 (by exact ((HR36.out.alloc (Nat.le_refl _) _).alloc (by simp) _)) (ic_one _) (by unfold maxLen; omega) (by omega) (by first | (simp; done) | (simp; omega)) ?_; intro A7 c7 w7 hown7 hn7 hgrow7; have b7 : Below wr.heap.size wr w7 := below_grown (w := (wr.alloc _).alloc _) ((below_new _ _).alloc (by simp) _) (by simp; omega) (made3v wr v) ⟨hgrow7.os, hgrow7.tape, hgrow7.output, hgrow7.size, hgrow7.block⟩; have hv7 : w7.cell? ⟨wr.heap.size, 0, none⟩ = some (.int .i64 v) := hgrow7.cell (a := ⟨wr.heap.size, 0, none⟩) (by simp) (by simp [Value.ownBlock])) | (refine step_append_src rfl (.tmp 37) (.tmp 39) 39 rfl wr.heap.size 3 j0 _ 1 8 Try.underlying39 hj0 hy0 hy1 hy2 rfl (by decide) (.slice A7 (0 + k) c7) (0 + k) ([] ++ icells (l.take k)) (by first | rfl | simp [Act.eval, Act.put]) (by exact (hown7.alloc _)) (some ⟨w7.heap.size, 0, none⟩) 1 1 _ (icells [v]) (by first | rfl | simp [Act.eval, Act.put]) (fun h => by cases h) (by exact (rd_lit1 w7 v)) (ic_one _) (by unfold maxLen; omega) (by omega) (by have := b7.size; simp; omega) ?_; intro A8 c8 w8 hown8 hn8 hgrow8; have b8 : Below wr.heap.size wr w8 := below_grown (w := w7.alloc _) (b7.alloc b7.size _) (by have := b7.size; simp; omega) (hown7.alloc _) ⟨hgrow8.os, hgrow8.tape, hgrow8.output, hgrow8.size, hgrow8.block⟩) | (refine step_append_src rfl (.tmp 37) (.tmp 39) 39 rfl wr.heap.size 3 j0 _ 1 8 Try.underlying39 hj0 hy0 hy1 hy2 rfl (by decide) (.slice A7 (0 + k) c7) (0 + k) ([] ++ icells (l.take k)) (by first | rfl | simp [Act.eval, Act.put]) (by exact hown7) (some ⟨wr.heap.size + 1, 0, none⟩) 1 1 _ (icells [v]) (by first | rfl | simp [Act.eval, Act.put]) (fun h => by cases h) (by exact (rd_cell hv7)) (ic_one _) (by unfold maxLen; omega) (by omega) (by have := b7.size; simp; omega) ?_; intro A8 c8 w8 hown8 hn8 hgrow8; have b8 : Below wr.heap.size wr w8 := below_grown (w := w7) b7 b7.size hown7 ⟨hgrow8.os, hgrow8.tape, hgrow8.output, hgrow8.size, hgrow8.block⟩) | (refine step_append_src rfl (.tmp 37) (.tmp 39) 39 rfl wr.heap.size 3 j0 _ 1 8 Try.underlying39 hj0 hy0 hy1 hy2 rfl (by decide) (.slice A7 (0 + k) c7) (0 + k) ([] ++ icells (l.take k)) (by first | rfl | simp [Act.eval, Act.put]) (by exact hown7) (some ⟨wr.heap.size, 0, none⟩) 1 1 _ (icells [v]) (by first | rfl | simp [Act.eval, Act.put]) (fun h => by cases h) (by exact (rd_cell hv7)) (ic_one _) (by unfold maxLen; omega) (by omega) (by have := b7.size; simp; omega) ?_; intro A8 c8 w8 hown8 hn8 hgrow8; have b8 : Below wr.heap.size wr w8 := below_grown (w := w7) b7 b7.size hown7 ⟨hgrow8.os, hgrow8.tape, hgrow8.output, hgrow8.size, hgrow8.block⟩) | (refine step_append_src rfl (.tmp 40) (.tmp 43) 39 rfl wr.heap.size 3 j0 _ 1 8 Try.underlying39 hj0 hy0 hy1 hy2 rfl (by decide) (.slice A8 (0 + k + 1) c8) (0 + k + 1) ([] ++ icells (l.take k) ++ icells [v]) (by first | rfl | simp [Act.eval, Act.put]) (by exact hown8) (some ⟨b, o + k, none⟩) (n - k) (c - k) wr.heap.size (icells (l.drop k)) (by first | rfl | simp [Act.eval, Act.put]) (fun h => by cases h) (by exact (HR43.out.below b8)) (ic_one _) (by unfold maxLen; omega) (by omega) (by exact b8.size) ?_; intro A9 c9 w9 hown9 hn9 hgrow9; have b9 : Below wr.heap.size wr w9 := below_grown (w := w8) b8 b8.size hown8 ⟨hgrow9.os, hgrow9.tape, hgrow9.output, hgrow9.size, hgrow9.block⟩))
          all_goals
            have hO9 : w9.ownsRow wr.heap.size 3 1 (.slice A9 (putL l v).length c9) (putL l v).length (icells (putL l v)) := by
              rw [HE.out, show (l.take k ++ v :: l.drop k).length = 0 + k + 1 + (n - k) by simp [HL.out] <;> omega, show l.take k ++ v :: l.drop k = (l.take k ++ [v]) ++ l.drop k by simp, ic_app, ic_app]
              exact hown9
            have HR9 := Lib.hid (Reads.of_own hO9)
            have HS9 := Lib.hid (own_shp hO9)
            have HV9 : Hid (k + 1 + (n - k) = (putL l v).length) := Lib.hid (by rw [HE.out]; simp [HL.out] <;> omega)
            have HV8 : Hid (k + 1 = (putL l v).length ∨ True) := Lib.hid (.inr trivial)
            clear hO9 hown9 hown8 hown7 hgrow9 hgrow8 hgrow7
            go_wp2_with fail
            go_ret
            exact ⟨A9, c9, (putL l v).length, by rw [← HV9.out]; first | rfl | simp, rfl, HS9.out, HR9.out, b9⟩
    · obtain rfl : k = n := by omega
      have HE : Hid (putL l v = l.take k ++ v :: l.drop k) := Lib.hid (by rw [putL_at l v k HG.out (by rw [HL.out]; omega) (fun h => by rw [HL.out] at h; omega), if_neg (fun ⟨h, _⟩ => by rw [HL.out] at h; omega)])
      have hcm : c ≤ 9223372036854775807 := by have := HA.out.2.2; unfold maxLen at this; omega
      have hkc : k ≤ c := HA.out.2.1
      have HR36 := Lib.hid (rd_take HR.out (Nat.le_refl k))
      have hlt' : decide ((k : Int) < (k : Int)) = false := decide_eq_false (by omega)
      have hnil : ∀ (w : World) (A' : Option Addr), Reads w w.heap.size 1 A' 0 (icells (l.drop k)) := fun w A' => ⟨by rw [icells_len, List.length_drop, HL.out]; omega, fun h => absurd h (by omega)⟩
      have HNil := Lib.hid hnil
      clear hnil HG
      obtain ⟨b, o, e, hbb, _⟩ := HR.out.2 (by omega)
      subst e
      by_cases hck : c = k
      · subst hck
        have HR43 := Lib.hid (HNil.out wr (some ⟨b, o, none⟩))
        have HN43 : Hid ((some (⟨b, o, none⟩ : Addr)) = none → 0 = 0) := Lib.hid (fun h => rfl)
        go_wp2_with fail
        go_region_law (first | (refine step_append_src rfl (.tmp 33) (.tmp 36) 39 rfl wr.heap.size 3 j0 _ 1 8 Try.underlying39 hj0 hy0 hy1 hy2 rfl (by decide) (.slice (some ⟨wr.heap.size, 0, none⟩) 0 0) 0 [] (by first | rfl | simp [Act.eval, Act.put]) (by exact (made3 wr wr.heap.size (Nat.le_refl _))) (some ⟨b, o, none⟩) c c wr.heap.size (icells (l.take c)) (by first | rfl | simp [Act.eval, Act.put]) HA.out.1 (by exact (HR36.out.alloc (Nat.le_refl _) _)) (ic_one _) (by unfold maxLen; omega) (by omega) (by first | (simp; done) | (simp; omega)) ?_; intro A7 c7 w7 hown7 hn7 hgrow7; have b7 : Below wr.heap.size wr w7 := below_grown (w := wr.alloc _) (below_new _ _) (by simp) (made3 wr wr.heap.size (Nat.le_refl _)) ⟨hgrow7.os, hgrow7.tape, hgrow7.output, hgrow7.size, hgrow7.block⟩) | (refine step_append_src rfl (.tmp 33) (.tmp 36) 39 rfl wr.heap.size 3 j0 _ 1 8 Try.underlying39 hj0 hy0 hy1 hy2 rfl (by decide) (.slice (some ⟨wr.heap.size, 0, none⟩) 0 0) 0 [] (by first | rfl | simp [Act.eval, Act.put]) (by exact ((made3 wr wr.heap.size (Nat.le_refl _)).alloc (.cells #[.int .i64 v] 3))) (some ⟨b, o, none⟩) c c wr.heap.size (icells (l.take c)) (by first | rfl | simp [Act.eval, Act.put]) HA.out.1 (by exact ((HR36.out.alloc (Nat.le_refl _) _).alloc (by simp) _)) (ic_one _) (by unfold maxLen; omega) (by omega) (by first | (simp; done) | (simp; omega)) ?_; intro A7 c7 w7 hown7 hn7 hgrow7; have b7 : Below wr.heap.size wr w7 := below_grown (w := (wr.alloc _).alloc _) ((below_new _ _).alloc (by simp) _) (by simp; omega) ((made3 wr wr.heap.size (Nat.le_refl _)).alloc (.cells #[.int .i64 v] 3)) ⟨hgrow7.os, hgrow7.tape, hgrow7.output, hgrow7.size, hgrow7.block⟩; have hv7 : w7.cell? ⟨wr.heap.size + 1, 0, none⟩ = some (.int .i64 v) := hgrow7.cell (a := ⟨wr.heap.size + 1, 0, none⟩) (by simp) (by simp [Value.ownBlock])) | (refine step_append_src rfl (.tmp 33) (.tmp 36) 39 rfl wr.heap.size 3 j0 _ 1 8 Try.underlying39 hj0 hy0 hy1 hy2 rfl (by decide) (.slice (some ⟨wr.heap.size + 1, 0, none⟩) 0 0) 0 [] (by first | rfl | simp [Act.eval, Act.put]) (by exact (made3v wr v)) (some ⟨b, o, none⟩) c c wr.heap.size (icells (l.take c)) (by first | rfl | simp [Act.eval, Act.put]) HA.out.1 (by exact ((HR36.out.alloc (Nat.le_refl _) _).alloc (by simp) _)) (ic_one _) (by unfold maxLen; omega) (by omega) (by first | (simp; done) | (simp; omega)) ?_; intro A7 c7 w7 hown7 hn7 hgrow7; have b7 : Below wr.heap.size wr w7 := below_grown (w := (wr.alloc _).alloc _) ((below_new _ _).alloc (by simp) _) (by simp; omega) (made3v wr v) ⟨hgrow7.os, hgrow7.tape, hgrow7.output, hgrow7.size, hgrow7.block⟩; have hv7 : w7.cell? ⟨wr.heap.size, 0, none⟩ = some (.int .i64 v) := hgrow7.cell (a := ⟨wr.heap.size, 0, none⟩) (by simp) (by simp [Value.ownBlock])) | (refine step_append_src rfl (.tmp 37) (.tmp 39) 39 rfl wr.heap.size 3 j0 _ 1 8 Try.underlying39 hj0 hy0 hy1 hy2 rfl (by decide) (.slice A7 (0 + c) c7) (0 + c) ([] ++ icells (l.take c)) (by first | rfl | simp [Act.eval, Act.put]) (by exact (hown7.alloc _)) (some ⟨w7.heap.size, 0, none⟩) 1 1 _ (icells [v]) (by first | rfl | simp [Act.eval, Act.put]) (fun h => by cases h) (by exact (rd_lit1 w7 v)) (ic_one _) (by unfold maxLen; omega) (by omega) (by have := b7.size; simp; omega) ?_; intro A8 c8 w8 hown8 hn8 hgrow8; have b8 : Below wr.heap.size wr w8 := below_grown (w := w7.alloc _) (b7.alloc b7.size _) (by have := b7.size; simp; omega) (hown7.alloc _) ⟨hgrow8.os, hgrow8.tape, hgrow8.output, hgrow8.size, hgrow8.block⟩) | (refine step_append_src rfl (.tmp 37) (.tmp 39) 39 rfl wr.heap.size 3 j0 _ 1 8 Try.underlying39 hj0 hy0 hy1 hy2 rfl (by decide) (.slice A7 (0 + c) c7) (0 + c) ([] ++ icells (l.take c)) (by first | rfl | simp [Act.eval, Act.put]) (by exact hown7) (some ⟨wr.heap.size + 1, 0, none⟩) 1 1 _ (icells [v]) (by first | rfl | simp [Act.eval, Act.put]) (fun h => by cases h) (by exact (rd_cell hv7)) (ic_one _) (by unfold maxLen; omega) (by omega) (by have := b7.size; simp; omega) ?_; intro A8 c8 w8 hown8 hn8 hgrow8; have b8 : Below wr.heap.size wr w8 := below_grown (w := w7) b7 b7.size hown7 ⟨hgrow8.os, hgrow8.tape, hgrow8.output, hgrow8.size, hgrow8.block⟩) | (refine step_append_src rfl (.tmp 37) (.tmp 39) 39 rfl wr.heap.size 3 j0 _ 1 8 Try.underlying39 hj0 hy0 hy1 hy2 rfl (by decide) (.slice A7 (0 + c) c7) (0 + c) ([] ++ icells (l.take c)) (by first | rfl | simp [Act.eval, Act.put]) (by exact hown7) (some ⟨wr.heap.size, 0, none⟩) 1 1 _ (icells [v]) (by first | rfl | simp [Act.eval, Act.put]) (fun h => by cases h) (by exact (rd_cell hv7)) (ic_one _) (by unfold maxLen; omega) (by omega) (by have := b7.size; simp; omega) ?_; intro A8 c8 w8 hown8 hn8 hgrow8; have b8 : Below wr.heap.size wr w8 := below_grown (w := w7) b7 b7.size hown7 ⟨hgrow8.os, hgrow8.tape, hgrow8.output, hgrow8.size, hgrow8.block⟩) | (refine step_append_src rfl (.tmp 40) (.tmp 43) 39 rfl wr.heap.size 3 j0 _ 1 8 Try.underlying39 hj0 hy0 hy1 hy2 rfl (by decide) (.slice A8 (0 + c + 1) c8) (0 + c + 1) ([] ++ icells (l.take c) ++ icells [v]) (by first | rfl | simp [Act.eval, Act.put]) (by exact hown8) (some ⟨b, o, none⟩) 0 0 wr.heap.size (icells (l.drop c)) (by first | rfl | simp [Act.eval, Act.put]) (fun h => by cases h) (by exact (HR43.out.below b8)) (ic_one _) (by unfold maxLen; omega) (by omega) (by exact b8.size) ?_; intro A9 c9 w9 hown9 hn9 hgrow9; have b9 : Below wr.heap.size wr w9 := below_grown (w := w8) b8 b8.size hown8 ⟨hgrow9.os, hgrow9.tape, hgrow9.output, hgrow9.size, hgrow9.block⟩))
        all_goals
          have hO9 : w9.ownsRow wr.heap.size 3 1 (.slice A9 (putL l v).length c9) (putL l v).length (icells (putL l v)) := by
            rw [HE.out, show (l.take c ++ v :: l.drop c).length = 0 + c + 1 + 0 by simp [HL.out] <;> omega, show l.take c ++ v :: l.drop c = (l.take c ++ [v]) ++ l.drop c by simp, ic_app, ic_app]
            exact hown9
          have HR9 := Lib.hid (Reads.of_own hO9)
          have HS9 := Lib.hid (own_shp hO9)
          have HV9 : Hid (c + 1 + 0 = (putL l v).length) := Lib.hid (by rw [HE.out]; simp [HL.out] <;> omega)
          have HV8 : Hid (c + 1 = (putL l v).length ∨ True) := Lib.hid (.inr trivial)
          clear hO9 hown9 hown8 hown7 hgrow9 hgrow8 hgrow7
          go_wp2_with fail
          go_ret
          exact ⟨A9, c9, (putL l v).length, by rw [← HV9.out]; first | rfl | simp, rfl, HS9.out, HR9.out, b9⟩
      · have HR43 := Lib.hid (HNil.out wr (some ⟨b, o + k, none⟩))
        have HN43 : Hid ((some (⟨b, o + k, none⟩ : Addr)) = none → c - k = 0) := Lib.hid (fun h => by cases h)
        go_wp2_with fail
        go_region_law (first | (refine step_append_src rfl (.tmp 33) (.tmp 36) 39 rfl wr.heap.size 3 j0 _ 1 8 Try.underlying39 hj0 hy0 hy1 hy2 rfl (by decide) (.slice (some ⟨wr.heap.size, 0, none⟩) 0 0) 0 [] (by first | rfl | simp [Act.eval, Act.put]) (by exact (made3 wr wr.heap.size (Nat.le_refl _))) (some ⟨b, o, none⟩) k c wr.heap.size (icells (l.take k)) (by first | rfl | simp [Act.eval, Act.put]) HA.out.1 (by exact (HR36.out.alloc (Nat.le_refl _) _)) (ic_one _) (by unfold maxLen; omega) (by omega) (by first | (simp; done) | (simp; omega)) ?_; intro A7 c7 w7 hown7 hn7 hgrow7; have b7 : Below wr.heap.size wr w7 := below_grown (w := wr.alloc _) (below_new _ _) (by simp) (made3 wr wr.heap.size (Nat.le_refl _)) ⟨hgrow7.os, hgrow7.tape, hgrow7.output, hgrow7.size, hgrow7.block⟩) | (refine step_append_src rfl (.tmp 33) (.tmp 36) 39 rfl wr.heap.size 3 j0 _ 1 8 Try.underlying39 hj0 hy0 hy1 hy2 rfl (by decide) (.slice (some ⟨wr.heap.size, 0, none⟩) 0 0) 0 [] (by first | rfl | simp [Act.eval, Act.put]) (by exact ((made3 wr wr.heap.size (Nat.le_refl _)).alloc (.cells #[.int .i64 v] 3))) (some ⟨b, o, none⟩) k c wr.heap.size (icells (l.take k)) (by first | rfl | simp [Act.eval, Act.put]) HA.out.1 (by exact ((HR36.out.alloc (Nat.le_refl _) _).alloc (by simp) _)) (ic_one _) (by unfold maxLen; omega) (by omega) (by first | (simp; done) | (simp; omega)) ?_; intro A7 c7 w7 hown7 hn7 hgrow7; have b7 : Below wr.heap.size wr w7 := below_grown (w := (wr.alloc _).alloc _) ((below_new _ _).alloc (by simp) _) (by simp; omega) ((made3 wr wr.heap.size (Nat.le_refl _)).alloc (.cells #[.int .i64 v] 3)) ⟨hgrow7.os, hgrow7.tape, hgrow7.output, hgrow7.size, hgrow7.block⟩; have hv7 : w7.cell? ⟨wr.heap.size + 1, 0, none⟩ = some (.int .i64 v) := hgrow7.cell (a := ⟨wr.heap.size + 1, 0, none⟩) (by simp) (by simp [Value.ownBlock])) | (refine step_append_src rfl (.tmp 33) (.tmp 36) 39 rfl wr.heap.size 3 j0 _ 1 8 Try.underlying39 hj0 hy0 hy1 hy2 rfl (by decide) (.slice (some ⟨wr.heap.size + 1, 0, none⟩) 0 0) 0 [] (by first | rfl | simp [Act.eval, Act.put]) (by exact (made3v wr v)) (some ⟨b, o, none⟩) k c wr.heap.size (icells (l.take k)) (by first | rfl | simp [Act.eval, Act.put]) HA.out.1 (by exact ((HR36.out.alloc (Nat.le_refl _) _).alloc (by simp) _)) (ic_one _) (by unfold maxLen; omega) (by omega) (by first | (simp; done) | (simp; omega)) ?_; intro A7 c7 w7 hown7 hn7 hgrow7; have b7 : Below wr.heap.size wr w7 := below_grown (w := (wr.alloc _).alloc _) ((below_new _ _).alloc (by simp) _) (by simp; omega) (made3v wr v) ⟨hgrow7.os, hgrow7.tape, hgrow7.output, hgrow7.size, hgrow7.block⟩; have hv7 : w7.cell? ⟨wr.heap.size, 0, none⟩ = some (.int .i64 v) := hgrow7.cell (a := ⟨wr.heap.size, 0, none⟩) (by simp) (by simp [Value.ownBlock])) | (refine step_append_src rfl (.tmp 37) (.tmp 39) 39 rfl wr.heap.size 3 j0 _ 1 8 Try.underlying39 hj0 hy0 hy1 hy2 rfl (by decide) (.slice A7 (0 + k) c7) (0 + k) ([] ++ icells (l.take k)) (by first | rfl | simp [Act.eval, Act.put]) (by exact (hown7.alloc _)) (some ⟨w7.heap.size, 0, none⟩) 1 1 _ (icells [v]) (by first | rfl | simp [Act.eval, Act.put]) (fun h => by cases h) (by exact (rd_lit1 w7 v)) (ic_one _) (by unfold maxLen; omega) (by omega) (by have := b7.size; simp; omega) ?_; intro A8 c8 w8 hown8 hn8 hgrow8; have b8 : Below wr.heap.size wr w8 := below_grown (w := w7.alloc _) (b7.alloc b7.size _) (by have := b7.size; simp; omega) (hown7.alloc _) ⟨hgrow8.os, hgrow8.tape, hgrow8.output, hgrow8.size, hgrow8.block⟩) | (refine step_append_src rfl (.tmp 37) (.tmp 39) 39 rfl wr.heap.size 3 j0 _ 1 8 Try.underlying39 hj0 hy0 hy1 hy2 rfl (by decide) (.slice A7 (0 + k) c7) (0 + k) ([] ++ icells (l.take k)) (by first | rfl | simp [Act.eval, Act.put]) (by exact hown7) (some ⟨wr.heap.size + 1, 0, none⟩) 1 1 _ (icells [v]) (by first | rfl | simp [Act.eval, Act.put]) (fun h => by cases h) (by exact (rd_cell hv7)) (ic_one _) (by unfold maxLen; omega) (by omega) (by have := b7.size; simp; omega) ?_; intro A8 c8 w8 hown8 hn8 hgrow8; have b8 : Below wr.heap.size wr w8 := below_grown (w := w7) b7 b7.size hown7 ⟨hgrow8.os, hgrow8.tape, hgrow8.output, hgrow8.size, hgrow8.block⟩) | (refine step_append_src rfl (.tmp 37) (.tmp 39) 39 rfl wr.heap.size 3 j0 _ 1 8 Try.underlying39 hj0 hy0 hy1 hy2 rfl (by decide) (.slice A7 (0 + k) c7) (0 + k) ([] ++ icells (l.take k)) (by first | rfl | simp [Act.eval, Act.put]) (by exact hown7) (some ⟨wr.heap.size, 0, none⟩) 1 1 _ (icells [v]) (by first | rfl | simp [Act.eval, Act.put]) (fun h => by cases h) (by exact (rd_cell hv7)) (ic_one _) (by unfold maxLen; omega) (by omega) (by have := b7.size; simp; omega) ?_; intro A8 c8 w8 hown8 hn8 hgrow8; have b8 : Below wr.heap.size wr w8 := below_grown (w := w7) b7 b7.size hown7 ⟨hgrow8.os, hgrow8.tape, hgrow8.output, hgrow8.size, hgrow8.block⟩) | (refine step_append_src rfl (.tmp 40) (.tmp 43) 39 rfl wr.heap.size 3 j0 _ 1 8 Try.underlying39 hj0 hy0 hy1 hy2 rfl (by decide) (.slice A8 (0 + k + 1) c8) (0 + k + 1) ([] ++ icells (l.take k) ++ icells [v]) (by first | rfl | simp [Act.eval, Act.put]) (by exact hown8) (some ⟨b, o + k, none⟩) 0 (c - k) wr.heap.size (icells (l.drop k)) (by first | rfl | simp [Act.eval, Act.put]) (fun h => by cases h) (by exact (HR43.out.below b8)) (ic_one _) (by unfold maxLen; omega) (by omega) (by exact b8.size) ?_; intro A9 c9 w9 hown9 hn9 hgrow9; have b9 : Below wr.heap.size wr w9 := below_grown (w := w8) b8 b8.size hown8 ⟨hgrow9.os, hgrow9.tape, hgrow9.output, hgrow9.size, hgrow9.block⟩))
        all_goals
          have hO9 : w9.ownsRow wr.heap.size 3 1 (.slice A9 (putL l v).length c9) (putL l v).length (icells (putL l v)) := by
            rw [HE.out, show (l.take k ++ v :: l.drop k).length = 0 + k + 1 + 0 by simp [HL.out] <;> omega, show l.take k ++ v :: l.drop k = (l.take k ++ [v]) ++ l.drop k by simp, ic_app, ic_app]
            exact hown9
          have HR9 := Lib.hid (Reads.of_own hO9)
          have HS9 := Lib.hid (own_shp hO9)
          have HV9 : Hid (k + 1 + 0 = (putL l v).length) := Lib.hid (by rw [HE.out]; simp [HL.out] <;> omega)
          have HV8 : Hid (k + 1 = (putL l v).length ∨ True) := Lib.hid (.inr trivial)
          clear hO9 hown9 hown8 hown7 hgrow9 hgrow8 hgrow7
          go_wp2_with fail
          go_ret
          exact ⟨A9, c9, (putL l v).length, by rw [← HV9.out]; first | rfl | simp, rfl, HS9.out, HR9.out, b9⟩
end Go.Proofs.Ytehikcddnjibcaa
