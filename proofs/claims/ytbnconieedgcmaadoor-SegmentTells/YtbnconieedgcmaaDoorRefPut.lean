/- What the document's Put returns. -/
import Derived.Test.YtbnconieedgcmaaDoorPut
namespace Go.Proofs.YtbnconieedgcmaaDoor
open Go.RowKit Go.BigFrame
set_option linter.unusedVariables false
set_option maxRecDepth 4000
set_option linter.unusedSimpArgs false


set_option maxHeartbeats 2000000 in
theorem refPut_neg (b : List Nat) (n : Nat) (A : Option Addr) (c : Nat) (v : Int) (size : Int) (hs : size < 0) (w : World) (hA : A = none → c = 0) (hR : RB w w.heap.size A n b) (hn : n ≤ 10000) :
    Calls Tryd.prog 49 #[.slice A n c, .int .i64 v, .int .i64 size] w (OutY (b ++ lowB v 0) (n + 0) w) := by
  obtain ⟨i0, hi0, hz0, hz1, hz2⟩ := info_parts info5
  have HR := Lib.hid hR.2.1
  have HL := Lib.hid hR.1
  have HY := Lib.hid hR.2.2
  have HA := Lib.hid hA
  clear hR hA
  have hk4 : 0 ≤ 4 := by omega
  go_enter Tryd.func49, Tryd.ntmps49
  go_wp2_with (at_builtin; refine wpList_append_src rfl _ _ 27 rfl w.heap.size 5 i0 _ 1 1 Tryd.underlying27 hi0 hz0 hz1 hz2 rfl (by decide) _ _ _ rfl (World.ownsRow_made (size := 1) w #[] 0 (Nat.le_refl _) (Nat.zero_le _) (by simp)) A n c w.heap.size (ycells b) rfl HA.out (HR.out.alloc (Nat.le_refl _) _) (ycells_one b) ?c3 ?c4 ?c5 ?_)
  case c3 => unfold maxLen; omega
  case c4 => omega
  case c5 => simp
  intro A1 c1 w1 hown1 hn1 hgrow1
  have b1 : Below w.heap.size w w1 := below_grown (below_new _ _) (by simp) (World.ownsRow_made (size := 1) w #[] 0 (Nat.le_refl _) (Nat.zero_le _) (by simp)) hgrow1
  try simp only [Nat.zero_add, List.nil_append] at hown1 ⊢
  have HO : Hid (w1.ownsRow w.heap.size 5 1 (.slice A1 n c1) n (ycells b)) := Lib.hid (by simpa using hown1)
  clear hown1 hgrow1 hn1 HR
  go_wp2_with fail
  go_loopw [7, 8] (fun vo i wr => ∃ (r : Nat) (A2 : Option Addr) (c2 : Nat) (hi : List Nat) (z : Nat), r ≤ 0 ∧ i = .int .i64 ((r : Int) - 1) ∧ vo = .slice A2 z c2 ∧ z ≤ 20000 ∧ Hid (z = n + hi.length) ∧ Hid (hi ++ lowB v r = lowB v 0) ∧ Hid (wr.ownsRow w.heap.size 5 1 (.slice A2 z c2) z (ycells (b ++ hi))) ∧ Below w.heap.size w wr) (fun _ i _ => (intOf i + 1).toNat)
  case atStart => exact ⟨0, A1, c1, [], n, Nat.le_refl _, congrArg (Value.int .i64) (by omega), rfl, by omega, Lib.hid (by simp), Lib.hid (by simp), Lib.hid (by rw [List.append_nil]; exact HO.out), b1⟩
  case round =>
    clear HO b1
    obtain ⟨r, A2, c2, hi, z, hr, rfl, rfl, hz, HZ, HLo, HO, hb⟩ := hrel
    have hsz := hb.size
    have hzz : z ≤ n + 0 := by
      have h1 := congrArg List.length HLo.out
      rw [List.length_append, lowB_len, lowB_len] at h1
      have := HZ.out
      omega
    match r, hr with
    | 0, _ =>
      go_wp2_with fail
      go_ret
      have e1 : hi = lowB v 0 := by have h := HLo.out; rwa [show lowB v 0 = [] from rfl, List.append_nil] at h
      have e2 : z = n + 0 := by rw [HZ.out, e1, lowB_len]
      subst e2
      rw [e1] at HO
      exact ⟨A2, c2, rfl, by rw [List.length_append, HL.out, lowB_len], fun x hx => (List.mem_append.1 hx).elim (HY.out x) (lowB_lt v _ x), HO.out, hb⟩
    | r + 1, hr => omega

set_option maxHeartbeats 2000000 in
theorem refPut_big (b : List Nat) (n : Nat) (A : Option Addr) (c : Nat) (v : Int) (size : Int) (hs : 4 < size) (w : World) (hA : A = none → c = 0) (hR : RB w w.heap.size A n b) (hn : n ≤ 10000) :
    Calls Tryd.prog 49 #[.slice A n c, .int .i64 v, .int .i64 size] w (OutY (b ++ lowB v 4) (n + 4) w) := by
  obtain ⟨i0, hi0, hz0, hz1, hz2⟩ := info_parts info5
  have HR := Lib.hid hR.2.1
  have HL := Lib.hid hR.1
  have HY := Lib.hid hR.2.2
  have HA := Lib.hid hA
  clear hR hA
  have hk4 : 4 ≤ 4 := by omega
  go_enter Tryd.func49, Tryd.ntmps49
  go_wp2_with (at_builtin; refine wpList_append_src rfl _ _ 27 rfl w.heap.size 5 i0 _ 1 1 Tryd.underlying27 hi0 hz0 hz1 hz2 rfl (by decide) _ _ _ rfl (World.ownsRow_made (size := 1) w #[] 0 (Nat.le_refl _) (Nat.zero_le _) (by simp)) A n c w.heap.size (ycells b) rfl HA.out (HR.out.alloc (Nat.le_refl _) _) (ycells_one b) ?c3 ?c4 ?c5 ?_)
  case c3 => unfold maxLen; omega
  case c4 => omega
  case c5 => simp
  intro A1 c1 w1 hown1 hn1 hgrow1
  have b1 : Below w.heap.size w w1 := below_grown (below_new _ _) (by simp) (World.ownsRow_made (size := 1) w #[] 0 (Nat.le_refl _) (Nat.zero_le _) (by simp)) hgrow1
  try simp only [Nat.zero_add, List.nil_append] at hown1 ⊢
  have HO : Hid (w1.ownsRow w.heap.size 5 1 (.slice A1 n c1) n (ycells b)) := Lib.hid (by simpa using hown1)
  clear hown1 hgrow1 hn1 HR
  go_wp2_with fail
  go_loopw [7, 8] (fun vo i wr => ∃ (r : Nat) (A2 : Option Addr) (c2 : Nat) (hi : List Nat) (z : Nat), r ≤ 4 ∧ i = .int .i64 ((r : Int) - 1) ∧ vo = .slice A2 z c2 ∧ z ≤ 20000 ∧ Hid (z = n + hi.length) ∧ Hid (hi ++ lowB v r = lowB v 4) ∧ Hid (wr.ownsRow w.heap.size 5 1 (.slice A2 z c2) z (ycells (b ++ hi))) ∧ Below w.heap.size w wr) (fun _ i _ => (intOf i + 1).toNat)
  case atStart => exact ⟨4, A1, c1, [], n, Nat.le_refl _, congrArg (Value.int .i64) (by omega), rfl, by omega, Lib.hid (by simp), Lib.hid (by simp), Lib.hid (by rw [List.append_nil]; exact HO.out), b1⟩
  case round =>
    clear HO b1
    obtain ⟨r, A2, c2, hi, z, hr, rfl, rfl, hz, HZ, HLo, HO, hb⟩ := hrel
    have hsz := hb.size
    have hzz : z ≤ n + 4 := by
      have h1 := congrArg List.length HLo.out
      rw [List.length_append, lowB_len, lowB_len] at h1
      have := HZ.out
      omega
    match r, hr with
    | 0, _ =>
      go_wp2_with fail
      go_ret
      have e1 : hi = lowB v 4 := by have h := HLo.out; rwa [show lowB v 0 = [] from rfl, List.append_nil] at h
      have e2 : z = n + 4 := by rw [HZ.out, e1, lowB_len]
      subst e2
      rw [e1] at HO
      exact ⟨A2, c2, rfl, by rw [List.length_append, HL.out, lowB_len], fun x hx => (List.mem_append.1 hx).elim (HY.out x) (lowB_lt v _ x), HO.out, hb⟩
    | 1, hr =>
      have HB : Hid (v % 256 = ((byteN v 0 : Nat) : Int)) := Lib.hid (by unfold byteN; omega)
      have HS : Hid (hi ++ [byteN v 0] ++ lowB v 0 = lowB v 4) := Lib.hid (by rw [← HLo.out]; simp [lowB])
      have HOne := Lib.hid (ycells_one [byteN v 0])
      have hReads : Hid (Reads (wr.alloc (.cells #[.int .u8 (v % 256)] 5)) (wr.heap.size + 1) 1 (some ⟨wr.heap.size, 0, none⟩) 1 (ycells [byteN v 0])) := Lib.hid ⟨rfl, fun _ => ⟨_, _, rfl, by omega, fun i u hu => by
        match i, hu with
        | 0, hu => injection hu with hu; subst hu; rw [HB.out]; simp⟩⟩
      have HOa := Lib.hid (HO.out.alloc (.cells #[.int .u8 (v % 256)] 5))
      have hba := hb.alloc hsz (.cells #[.int .u8 (v % 256)] 5)
      clear HLo HO HB
      go_wp2_with (at_builtin; refine wpList_append_src rfl _ _ 27 rfl w.heap.size 5 i0 _ 1 1 Tryd.underlying27 hi0 hz0 hz1 hz2 rfl (by decide) _ _ _ rfl HOa.out (some ⟨wr.heap.size, 0, none⟩) 1 1 (wr.heap.size + 1) (ycells [byteN v 0]) rfl (fun h => by cases h) hReads.out HOne.out ?n3 ?n4 ?n5 ?_)
      case n3 => unfold maxLen; omega
      case n4 => omega
      case n5 => simp; omega
      intro A3 c3 w3 hown3 hn3 hgrow3
      have b3 : Below w.heap.size w w3 := below_grown hba (by simp; omega) HOa.out hgrow3
      have HO3 : Hid (w3.ownsRow w.heap.size 5 1 (.slice A3 (z + 1) c3) (z + 1) (ycells (b ++ (hi ++ [byteN v 0])))) := Lib.hid (by
        rw [← List.append_assoc, ycells_app]; exact hown3)
      clear hown3 hgrow3 HOa hReads hba hb
      go_wp2_with fail
      go_roundw
      case rel => exact ⟨0, A3, c3, hi ++ [byteN v 0], z + 1, by omega, by go_num, rfl, by omega, Lib.hid (by have := HZ.out; simp; omega), HS, HO3, b3⟩
      case measure => simp [intOf]
    | 2, hr =>
      have HB : Hid (v / 256 % 256 = ((byteN v 1 : Nat) : Int)) := Lib.hid (by unfold byteN; omega)
      have HS : Hid (hi ++ [byteN v 1] ++ lowB v 1 = lowB v 4) := Lib.hid (by rw [← HLo.out]; simp [lowB])
      have HOne := Lib.hid (ycells_one [byteN v 1])
      have hReads : Hid (Reads (wr.alloc (.cells #[.int .u8 (v / 256 % 256)] 5)) (wr.heap.size + 1) 1 (some ⟨wr.heap.size, 0, none⟩) 1 (ycells [byteN v 1])) := Lib.hid ⟨rfl, fun _ => ⟨_, _, rfl, by omega, fun i u hu => by
        match i, hu with
        | 0, hu => injection hu with hu; subst hu; rw [HB.out]; simp⟩⟩
      have HOa := Lib.hid (HO.out.alloc (.cells #[.int .u8 (v / 256 % 256)] 5))
      have hba := hb.alloc hsz (.cells #[.int .u8 (v / 256 % 256)] 5)
      clear HLo HO HB
      go_wp2_with (at_builtin; refine wpList_append_src rfl _ _ 27 rfl w.heap.size 5 i0 _ 1 1 Tryd.underlying27 hi0 hz0 hz1 hz2 rfl (by decide) _ _ _ rfl HOa.out (some ⟨wr.heap.size, 0, none⟩) 1 1 (wr.heap.size + 1) (ycells [byteN v 1]) rfl (fun h => by cases h) hReads.out HOne.out ?n3 ?n4 ?n5 ?_)
      case n3 => unfold maxLen; omega
      case n4 => omega
      case n5 => simp; omega
      intro A3 c3 w3 hown3 hn3 hgrow3
      have b3 : Below w.heap.size w w3 := below_grown hba (by simp; omega) HOa.out hgrow3
      have HO3 : Hid (w3.ownsRow w.heap.size 5 1 (.slice A3 (z + 1) c3) (z + 1) (ycells (b ++ (hi ++ [byteN v 1])))) := Lib.hid (by
        rw [← List.append_assoc, ycells_app]; exact hown3)
      clear hown3 hgrow3 HOa hReads hba hb
      go_wp2_with fail
      go_roundw
      case rel => exact ⟨1, A3, c3, hi ++ [byteN v 1], z + 1, by omega, by go_num, rfl, by omega, Lib.hid (by have := HZ.out; simp; omega), HS, HO3, b3⟩
      case measure => simp [intOf]
    | 3, hr =>
      have HB : Hid (v / 65536 % 256 = ((byteN v 2 : Nat) : Int)) := Lib.hid (by unfold byteN; omega)
      have HS : Hid (hi ++ [byteN v 2] ++ lowB v 2 = lowB v 4) := Lib.hid (by rw [← HLo.out]; simp [lowB])
      have HOne := Lib.hid (ycells_one [byteN v 2])
      have hReads : Hid (Reads (wr.alloc (.cells #[.int .u8 (v / 65536 % 256)] 5)) (wr.heap.size + 1) 1 (some ⟨wr.heap.size, 0, none⟩) 1 (ycells [byteN v 2])) := Lib.hid ⟨rfl, fun _ => ⟨_, _, rfl, by omega, fun i u hu => by
        match i, hu with
        | 0, hu => injection hu with hu; subst hu; rw [HB.out]; simp⟩⟩
      have HOa := Lib.hid (HO.out.alloc (.cells #[.int .u8 (v / 65536 % 256)] 5))
      have hba := hb.alloc hsz (.cells #[.int .u8 (v / 65536 % 256)] 5)
      clear HLo HO HB
      go_wp2_with (at_builtin; refine wpList_append_src rfl _ _ 27 rfl w.heap.size 5 i0 _ 1 1 Tryd.underlying27 hi0 hz0 hz1 hz2 rfl (by decide) _ _ _ rfl HOa.out (some ⟨wr.heap.size, 0, none⟩) 1 1 (wr.heap.size + 1) (ycells [byteN v 2]) rfl (fun h => by cases h) hReads.out HOne.out ?n3 ?n4 ?n5 ?_)
      case n3 => unfold maxLen; omega
      case n4 => omega
      case n5 => simp; omega
      intro A3 c3 w3 hown3 hn3 hgrow3
      have b3 : Below w.heap.size w w3 := below_grown hba (by simp; omega) HOa.out hgrow3
      have HO3 : Hid (w3.ownsRow w.heap.size 5 1 (.slice A3 (z + 1) c3) (z + 1) (ycells (b ++ (hi ++ [byteN v 2])))) := Lib.hid (by
        rw [← List.append_assoc, ycells_app]; exact hown3)
      clear hown3 hgrow3 HOa hReads hba hb
      go_wp2_with fail
      go_roundw
      case rel => exact ⟨2, A3, c3, hi ++ [byteN v 2], z + 1, by omega, by go_num, rfl, by omega, Lib.hid (by have := HZ.out; simp; omega), HS, HO3, b3⟩
      case measure => simp [intOf]
    | 4, hr =>
      have HB : Hid (v / 16777216 % 256 = ((byteN v 3 : Nat) : Int)) := Lib.hid (by unfold byteN; omega)
      have HS : Hid (hi ++ [byteN v 3] ++ lowB v 3 = lowB v 4) := Lib.hid (by rw [← HLo.out]; simp [lowB])
      have HOne := Lib.hid (ycells_one [byteN v 3])
      have hReads : Hid (Reads (wr.alloc (.cells #[.int .u8 (v / 16777216 % 256)] 5)) (wr.heap.size + 1) 1 (some ⟨wr.heap.size, 0, none⟩) 1 (ycells [byteN v 3])) := Lib.hid ⟨rfl, fun _ => ⟨_, _, rfl, by omega, fun i u hu => by
        match i, hu with
        | 0, hu => injection hu with hu; subst hu; rw [HB.out]; simp⟩⟩
      have HOa := Lib.hid (HO.out.alloc (.cells #[.int .u8 (v / 16777216 % 256)] 5))
      have hba := hb.alloc hsz (.cells #[.int .u8 (v / 16777216 % 256)] 5)
      clear HLo HO HB
      go_wp2_with (at_builtin; refine wpList_append_src rfl _ _ 27 rfl w.heap.size 5 i0 _ 1 1 Tryd.underlying27 hi0 hz0 hz1 hz2 rfl (by decide) _ _ _ rfl HOa.out (some ⟨wr.heap.size, 0, none⟩) 1 1 (wr.heap.size + 1) (ycells [byteN v 3]) rfl (fun h => by cases h) hReads.out HOne.out ?n3 ?n4 ?n5 ?_)
      case n3 => unfold maxLen; omega
      case n4 => omega
      case n5 => simp; omega
      intro A3 c3 w3 hown3 hn3 hgrow3
      have b3 : Below w.heap.size w w3 := below_grown hba (by simp; omega) HOa.out hgrow3
      have HO3 : Hid (w3.ownsRow w.heap.size 5 1 (.slice A3 (z + 1) c3) (z + 1) (ycells (b ++ (hi ++ [byteN v 3])))) := Lib.hid (by
        rw [← List.append_assoc, ycells_app]; exact hown3)
      clear hown3 hgrow3 HOa hReads hba hb
      go_wp2_with fail
      go_roundw
      case rel => exact ⟨3, A3, c3, hi ++ [byteN v 3], z + 1, by omega, by go_num, rfl, by omega, Lib.hid (by have := HZ.out; simp; omega), HS, HO3, b3⟩
      case measure => simp [intOf]
    | r + 5, hr => omega

set_option maxHeartbeats 2000000 in
theorem refPut_0 (b : List Nat) (n : Nat) (A : Option Addr) (c : Nat) (v : Int)  (w : World) (hA : A = none → c = 0) (hR : RB w w.heap.size A n b) (hn : n ≤ 10000) :
    Calls Tryd.prog 49 #[.slice A n c, .int .i64 v, .int .i64 0] w (OutY (b ++ lowB v 0) (n + 0) w) := by
  obtain ⟨i0, hi0, hz0, hz1, hz2⟩ := info_parts info5
  have HR := Lib.hid hR.2.1
  have HL := Lib.hid hR.1
  have HY := Lib.hid hR.2.2
  have HA := Lib.hid hA
  clear hR hA
  have hk4 : 0 ≤ 4 := by omega
  go_enter Tryd.func49, Tryd.ntmps49
  go_wp2_with (at_builtin; refine wpList_append_src rfl _ _ 27 rfl w.heap.size 5 i0 _ 1 1 Tryd.underlying27 hi0 hz0 hz1 hz2 rfl (by decide) _ _ _ rfl (World.ownsRow_made (size := 1) w #[] 0 (Nat.le_refl _) (Nat.zero_le _) (by simp)) A n c w.heap.size (ycells b) rfl HA.out (HR.out.alloc (Nat.le_refl _) _) (ycells_one b) ?c3 ?c4 ?c5 ?_)
  case c3 => unfold maxLen; omega
  case c4 => omega
  case c5 => simp
  intro A1 c1 w1 hown1 hn1 hgrow1
  have b1 : Below w.heap.size w w1 := below_grown (below_new _ _) (by simp) (World.ownsRow_made (size := 1) w #[] 0 (Nat.le_refl _) (Nat.zero_le _) (by simp)) hgrow1
  try simp only [Nat.zero_add, List.nil_append] at hown1 ⊢
  have HO : Hid (w1.ownsRow w.heap.size 5 1 (.slice A1 n c1) n (ycells b)) := Lib.hid (by simpa using hown1)
  clear hown1 hgrow1 hn1 HR
  go_wp2_with fail
  go_loopw [7, 8] (fun vo i wr => ∃ (r : Nat) (A2 : Option Addr) (c2 : Nat) (hi : List Nat) (z : Nat), r ≤ 0 ∧ i = .int .i64 ((r : Int) - 1) ∧ vo = .slice A2 z c2 ∧ z ≤ 20000 ∧ Hid (z = n + hi.length) ∧ Hid (hi ++ lowB v r = lowB v 0) ∧ Hid (wr.ownsRow w.heap.size 5 1 (.slice A2 z c2) z (ycells (b ++ hi))) ∧ Below w.heap.size w wr) (fun _ i _ => (intOf i + 1).toNat)
  case atStart => exact ⟨0, A1, c1, [], n, Nat.le_refl _, congrArg (Value.int .i64) (by omega), rfl, by omega, Lib.hid (by simp), Lib.hid (by simp), Lib.hid (by rw [List.append_nil]; exact HO.out), b1⟩
  case round =>
    clear HO b1
    obtain ⟨r, A2, c2, hi, z, hr, rfl, rfl, hz, HZ, HLo, HO, hb⟩ := hrel
    have hsz := hb.size
    have hzz : z ≤ n + 0 := by
      have h1 := congrArg List.length HLo.out
      rw [List.length_append, lowB_len, lowB_len] at h1
      have := HZ.out
      omega
    match r, hr with
    | 0, _ =>
      go_wp2_with fail
      go_ret
      have e1 : hi = lowB v 0 := by have h := HLo.out; rwa [show lowB v 0 = [] from rfl, List.append_nil] at h
      have e2 : z = n + 0 := by rw [HZ.out, e1, lowB_len]
      subst e2
      rw [e1] at HO
      exact ⟨A2, c2, rfl, by rw [List.length_append, HL.out, lowB_len], fun x hx => (List.mem_append.1 hx).elim (HY.out x) (lowB_lt v _ x), HO.out, hb⟩
    | r + 1, hr => omega

set_option maxHeartbeats 2000000 in
theorem refPut_1 (b : List Nat) (n : Nat) (A : Option Addr) (c : Nat) (v : Int)  (w : World) (hA : A = none → c = 0) (hR : RB w w.heap.size A n b) (hn : n ≤ 10000) :
    Calls Tryd.prog 49 #[.slice A n c, .int .i64 v, .int .i64 1] w (OutY (b ++ lowB v 1) (n + 1) w) := by
  obtain ⟨i0, hi0, hz0, hz1, hz2⟩ := info_parts info5
  have HR := Lib.hid hR.2.1
  have HL := Lib.hid hR.1
  have HY := Lib.hid hR.2.2
  have HA := Lib.hid hA
  clear hR hA
  have hk4 : 1 ≤ 4 := by omega
  go_enter Tryd.func49, Tryd.ntmps49
  go_wp2_with (at_builtin; refine wpList_append_src rfl _ _ 27 rfl w.heap.size 5 i0 _ 1 1 Tryd.underlying27 hi0 hz0 hz1 hz2 rfl (by decide) _ _ _ rfl (World.ownsRow_made (size := 1) w #[] 0 (Nat.le_refl _) (Nat.zero_le _) (by simp)) A n c w.heap.size (ycells b) rfl HA.out (HR.out.alloc (Nat.le_refl _) _) (ycells_one b) ?c3 ?c4 ?c5 ?_)
  case c3 => unfold maxLen; omega
  case c4 => omega
  case c5 => simp
  intro A1 c1 w1 hown1 hn1 hgrow1
  have b1 : Below w.heap.size w w1 := below_grown (below_new _ _) (by simp) (World.ownsRow_made (size := 1) w #[] 0 (Nat.le_refl _) (Nat.zero_le _) (by simp)) hgrow1
  try simp only [Nat.zero_add, List.nil_append] at hown1 ⊢
  have HO : Hid (w1.ownsRow w.heap.size 5 1 (.slice A1 n c1) n (ycells b)) := Lib.hid (by simpa using hown1)
  clear hown1 hgrow1 hn1 HR
  go_wp2_with fail
  go_loopw [7, 8] (fun vo i wr => ∃ (r : Nat) (A2 : Option Addr) (c2 : Nat) (hi : List Nat) (z : Nat), r ≤ 1 ∧ i = .int .i64 ((r : Int) - 1) ∧ vo = .slice A2 z c2 ∧ z ≤ 20000 ∧ Hid (z = n + hi.length) ∧ Hid (hi ++ lowB v r = lowB v 1) ∧ Hid (wr.ownsRow w.heap.size 5 1 (.slice A2 z c2) z (ycells (b ++ hi))) ∧ Below w.heap.size w wr) (fun _ i _ => (intOf i + 1).toNat)
  case atStart => exact ⟨1, A1, c1, [], n, Nat.le_refl _, congrArg (Value.int .i64) (by omega), rfl, by omega, Lib.hid (by simp), Lib.hid (by simp), Lib.hid (by rw [List.append_nil]; exact HO.out), b1⟩
  case round =>
    clear HO b1
    obtain ⟨r, A2, c2, hi, z, hr, rfl, rfl, hz, HZ, HLo, HO, hb⟩ := hrel
    have hsz := hb.size
    have hzz : z ≤ n + 1 := by
      have h1 := congrArg List.length HLo.out
      rw [List.length_append, lowB_len, lowB_len] at h1
      have := HZ.out
      omega
    match r, hr with
    | 0, _ =>
      go_wp2_with fail
      go_ret
      have e1 : hi = lowB v 1 := by have h := HLo.out; rwa [show lowB v 0 = [] from rfl, List.append_nil] at h
      have e2 : z = n + 1 := by rw [HZ.out, e1, lowB_len]
      subst e2
      rw [e1] at HO
      exact ⟨A2, c2, rfl, by rw [List.length_append, HL.out, lowB_len], fun x hx => (List.mem_append.1 hx).elim (HY.out x) (lowB_lt v _ x), HO.out, hb⟩
    | 1, hr =>
      have HB : Hid (v % 256 = ((byteN v 0 : Nat) : Int)) := Lib.hid (by unfold byteN; omega)
      have HS : Hid (hi ++ [byteN v 0] ++ lowB v 0 = lowB v 1) := Lib.hid (by rw [← HLo.out]; simp [lowB])
      have HOne := Lib.hid (ycells_one [byteN v 0])
      have hReads : Hid (Reads (wr.alloc (.cells #[.int .u8 (v % 256)] 5)) (wr.heap.size + 1) 1 (some ⟨wr.heap.size, 0, none⟩) 1 (ycells [byteN v 0])) := Lib.hid ⟨rfl, fun _ => ⟨_, _, rfl, by omega, fun i u hu => by
        match i, hu with
        | 0, hu => injection hu with hu; subst hu; rw [HB.out]; simp⟩⟩
      have HOa := Lib.hid (HO.out.alloc (.cells #[.int .u8 (v % 256)] 5))
      have hba := hb.alloc hsz (.cells #[.int .u8 (v % 256)] 5)
      clear HLo HO HB
      go_wp2_with (at_builtin; refine wpList_append_src rfl _ _ 27 rfl w.heap.size 5 i0 _ 1 1 Tryd.underlying27 hi0 hz0 hz1 hz2 rfl (by decide) _ _ _ rfl HOa.out (some ⟨wr.heap.size, 0, none⟩) 1 1 (wr.heap.size + 1) (ycells [byteN v 0]) rfl (fun h => by cases h) hReads.out HOne.out ?n3 ?n4 ?n5 ?_)
      case n3 => unfold maxLen; omega
      case n4 => omega
      case n5 => simp; omega
      intro A3 c3 w3 hown3 hn3 hgrow3
      have b3 : Below w.heap.size w w3 := below_grown hba (by simp; omega) HOa.out hgrow3
      have HO3 : Hid (w3.ownsRow w.heap.size 5 1 (.slice A3 (z + 1) c3) (z + 1) (ycells (b ++ (hi ++ [byteN v 0])))) := Lib.hid (by
        rw [← List.append_assoc, ycells_app]; exact hown3)
      clear hown3 hgrow3 HOa hReads hba hb
      go_wp2_with fail
      go_roundw
      case rel => exact ⟨0, A3, c3, hi ++ [byteN v 0], z + 1, by omega, by go_num, rfl, by omega, Lib.hid (by have := HZ.out; simp; omega), HS, HO3, b3⟩
      case measure => simp [intOf]
    | r + 2, hr => omega

set_option maxHeartbeats 2000000 in
theorem refPut_2 (b : List Nat) (n : Nat) (A : Option Addr) (c : Nat) (v : Int)  (w : World) (hA : A = none → c = 0) (hR : RB w w.heap.size A n b) (hn : n ≤ 10000) :
    Calls Tryd.prog 49 #[.slice A n c, .int .i64 v, .int .i64 2] w (OutY (b ++ lowB v 2) (n + 2) w) := by
  obtain ⟨i0, hi0, hz0, hz1, hz2⟩ := info_parts info5
  have HR := Lib.hid hR.2.1
  have HL := Lib.hid hR.1
  have HY := Lib.hid hR.2.2
  have HA := Lib.hid hA
  clear hR hA
  have hk4 : 2 ≤ 4 := by omega
  go_enter Tryd.func49, Tryd.ntmps49
  go_wp2_with (at_builtin; refine wpList_append_src rfl _ _ 27 rfl w.heap.size 5 i0 _ 1 1 Tryd.underlying27 hi0 hz0 hz1 hz2 rfl (by decide) _ _ _ rfl (World.ownsRow_made (size := 1) w #[] 0 (Nat.le_refl _) (Nat.zero_le _) (by simp)) A n c w.heap.size (ycells b) rfl HA.out (HR.out.alloc (Nat.le_refl _) _) (ycells_one b) ?c3 ?c4 ?c5 ?_)
  case c3 => unfold maxLen; omega
  case c4 => omega
  case c5 => simp
  intro A1 c1 w1 hown1 hn1 hgrow1
  have b1 : Below w.heap.size w w1 := below_grown (below_new _ _) (by simp) (World.ownsRow_made (size := 1) w #[] 0 (Nat.le_refl _) (Nat.zero_le _) (by simp)) hgrow1
  try simp only [Nat.zero_add, List.nil_append] at hown1 ⊢
  have HO : Hid (w1.ownsRow w.heap.size 5 1 (.slice A1 n c1) n (ycells b)) := Lib.hid (by simpa using hown1)
  clear hown1 hgrow1 hn1 HR
  go_wp2_with fail
  go_loopw [7, 8] (fun vo i wr => ∃ (r : Nat) (A2 : Option Addr) (c2 : Nat) (hi : List Nat) (z : Nat), r ≤ 2 ∧ i = .int .i64 ((r : Int) - 1) ∧ vo = .slice A2 z c2 ∧ z ≤ 20000 ∧ Hid (z = n + hi.length) ∧ Hid (hi ++ lowB v r = lowB v 2) ∧ Hid (wr.ownsRow w.heap.size 5 1 (.slice A2 z c2) z (ycells (b ++ hi))) ∧ Below w.heap.size w wr) (fun _ i _ => (intOf i + 1).toNat)
  case atStart => exact ⟨2, A1, c1, [], n, Nat.le_refl _, congrArg (Value.int .i64) (by omega), rfl, by omega, Lib.hid (by simp), Lib.hid (by simp), Lib.hid (by rw [List.append_nil]; exact HO.out), b1⟩
  case round =>
    clear HO b1
    obtain ⟨r, A2, c2, hi, z, hr, rfl, rfl, hz, HZ, HLo, HO, hb⟩ := hrel
    have hsz := hb.size
    have hzz : z ≤ n + 2 := by
      have h1 := congrArg List.length HLo.out
      rw [List.length_append, lowB_len, lowB_len] at h1
      have := HZ.out
      omega
    match r, hr with
    | 0, _ =>
      go_wp2_with fail
      go_ret
      have e1 : hi = lowB v 2 := by have h := HLo.out; rwa [show lowB v 0 = [] from rfl, List.append_nil] at h
      have e2 : z = n + 2 := by rw [HZ.out, e1, lowB_len]
      subst e2
      rw [e1] at HO
      exact ⟨A2, c2, rfl, by rw [List.length_append, HL.out, lowB_len], fun x hx => (List.mem_append.1 hx).elim (HY.out x) (lowB_lt v _ x), HO.out, hb⟩
    | 1, hr =>
      have HB : Hid (v % 256 = ((byteN v 0 : Nat) : Int)) := Lib.hid (by unfold byteN; omega)
      have HS : Hid (hi ++ [byteN v 0] ++ lowB v 0 = lowB v 2) := Lib.hid (by rw [← HLo.out]; simp [lowB])
      have HOne := Lib.hid (ycells_one [byteN v 0])
      have hReads : Hid (Reads (wr.alloc (.cells #[.int .u8 (v % 256)] 5)) (wr.heap.size + 1) 1 (some ⟨wr.heap.size, 0, none⟩) 1 (ycells [byteN v 0])) := Lib.hid ⟨rfl, fun _ => ⟨_, _, rfl, by omega, fun i u hu => by
        match i, hu with
        | 0, hu => injection hu with hu; subst hu; rw [HB.out]; simp⟩⟩
      have HOa := Lib.hid (HO.out.alloc (.cells #[.int .u8 (v % 256)] 5))
      have hba := hb.alloc hsz (.cells #[.int .u8 (v % 256)] 5)
      clear HLo HO HB
      go_wp2_with (at_builtin; refine wpList_append_src rfl _ _ 27 rfl w.heap.size 5 i0 _ 1 1 Tryd.underlying27 hi0 hz0 hz1 hz2 rfl (by decide) _ _ _ rfl HOa.out (some ⟨wr.heap.size, 0, none⟩) 1 1 (wr.heap.size + 1) (ycells [byteN v 0]) rfl (fun h => by cases h) hReads.out HOne.out ?n3 ?n4 ?n5 ?_)
      case n3 => unfold maxLen; omega
      case n4 => omega
      case n5 => simp; omega
      intro A3 c3 w3 hown3 hn3 hgrow3
      have b3 : Below w.heap.size w w3 := below_grown hba (by simp; omega) HOa.out hgrow3
      have HO3 : Hid (w3.ownsRow w.heap.size 5 1 (.slice A3 (z + 1) c3) (z + 1) (ycells (b ++ (hi ++ [byteN v 0])))) := Lib.hid (by
        rw [← List.append_assoc, ycells_app]; exact hown3)
      clear hown3 hgrow3 HOa hReads hba hb
      go_wp2_with fail
      go_roundw
      case rel => exact ⟨0, A3, c3, hi ++ [byteN v 0], z + 1, by omega, by go_num, rfl, by omega, Lib.hid (by have := HZ.out; simp; omega), HS, HO3, b3⟩
      case measure => simp [intOf]
    | 2, hr =>
      have HB : Hid (v / 256 % 256 = ((byteN v 1 : Nat) : Int)) := Lib.hid (by unfold byteN; omega)
      have HS : Hid (hi ++ [byteN v 1] ++ lowB v 1 = lowB v 2) := Lib.hid (by rw [← HLo.out]; simp [lowB])
      have HOne := Lib.hid (ycells_one [byteN v 1])
      have hReads : Hid (Reads (wr.alloc (.cells #[.int .u8 (v / 256 % 256)] 5)) (wr.heap.size + 1) 1 (some ⟨wr.heap.size, 0, none⟩) 1 (ycells [byteN v 1])) := Lib.hid ⟨rfl, fun _ => ⟨_, _, rfl, by omega, fun i u hu => by
        match i, hu with
        | 0, hu => injection hu with hu; subst hu; rw [HB.out]; simp⟩⟩
      have HOa := Lib.hid (HO.out.alloc (.cells #[.int .u8 (v / 256 % 256)] 5))
      have hba := hb.alloc hsz (.cells #[.int .u8 (v / 256 % 256)] 5)
      clear HLo HO HB
      go_wp2_with (at_builtin; refine wpList_append_src rfl _ _ 27 rfl w.heap.size 5 i0 _ 1 1 Tryd.underlying27 hi0 hz0 hz1 hz2 rfl (by decide) _ _ _ rfl HOa.out (some ⟨wr.heap.size, 0, none⟩) 1 1 (wr.heap.size + 1) (ycells [byteN v 1]) rfl (fun h => by cases h) hReads.out HOne.out ?n3 ?n4 ?n5 ?_)
      case n3 => unfold maxLen; omega
      case n4 => omega
      case n5 => simp; omega
      intro A3 c3 w3 hown3 hn3 hgrow3
      have b3 : Below w.heap.size w w3 := below_grown hba (by simp; omega) HOa.out hgrow3
      have HO3 : Hid (w3.ownsRow w.heap.size 5 1 (.slice A3 (z + 1) c3) (z + 1) (ycells (b ++ (hi ++ [byteN v 1])))) := Lib.hid (by
        rw [← List.append_assoc, ycells_app]; exact hown3)
      clear hown3 hgrow3 HOa hReads hba hb
      go_wp2_with fail
      go_roundw
      case rel => exact ⟨1, A3, c3, hi ++ [byteN v 1], z + 1, by omega, by go_num, rfl, by omega, Lib.hid (by have := HZ.out; simp; omega), HS, HO3, b3⟩
      case measure => simp [intOf]
    | r + 3, hr => omega

set_option maxHeartbeats 2000000 in
theorem refPut_3 (b : List Nat) (n : Nat) (A : Option Addr) (c : Nat) (v : Int)  (w : World) (hA : A = none → c = 0) (hR : RB w w.heap.size A n b) (hn : n ≤ 10000) :
    Calls Tryd.prog 49 #[.slice A n c, .int .i64 v, .int .i64 3] w (OutY (b ++ lowB v 3) (n + 3) w) := by
  obtain ⟨i0, hi0, hz0, hz1, hz2⟩ := info_parts info5
  have HR := Lib.hid hR.2.1
  have HL := Lib.hid hR.1
  have HY := Lib.hid hR.2.2
  have HA := Lib.hid hA
  clear hR hA
  have hk4 : 3 ≤ 4 := by omega
  go_enter Tryd.func49, Tryd.ntmps49
  go_wp2_with (at_builtin; refine wpList_append_src rfl _ _ 27 rfl w.heap.size 5 i0 _ 1 1 Tryd.underlying27 hi0 hz0 hz1 hz2 rfl (by decide) _ _ _ rfl (World.ownsRow_made (size := 1) w #[] 0 (Nat.le_refl _) (Nat.zero_le _) (by simp)) A n c w.heap.size (ycells b) rfl HA.out (HR.out.alloc (Nat.le_refl _) _) (ycells_one b) ?c3 ?c4 ?c5 ?_)
  case c3 => unfold maxLen; omega
  case c4 => omega
  case c5 => simp
  intro A1 c1 w1 hown1 hn1 hgrow1
  have b1 : Below w.heap.size w w1 := below_grown (below_new _ _) (by simp) (World.ownsRow_made (size := 1) w #[] 0 (Nat.le_refl _) (Nat.zero_le _) (by simp)) hgrow1
  try simp only [Nat.zero_add, List.nil_append] at hown1 ⊢
  have HO : Hid (w1.ownsRow w.heap.size 5 1 (.slice A1 n c1) n (ycells b)) := Lib.hid (by simpa using hown1)
  clear hown1 hgrow1 hn1 HR
  go_wp2_with fail
  go_loopw [7, 8] (fun vo i wr => ∃ (r : Nat) (A2 : Option Addr) (c2 : Nat) (hi : List Nat) (z : Nat), r ≤ 3 ∧ i = .int .i64 ((r : Int) - 1) ∧ vo = .slice A2 z c2 ∧ z ≤ 20000 ∧ Hid (z = n + hi.length) ∧ Hid (hi ++ lowB v r = lowB v 3) ∧ Hid (wr.ownsRow w.heap.size 5 1 (.slice A2 z c2) z (ycells (b ++ hi))) ∧ Below w.heap.size w wr) (fun _ i _ => (intOf i + 1).toNat)
  case atStart => exact ⟨3, A1, c1, [], n, Nat.le_refl _, congrArg (Value.int .i64) (by omega), rfl, by omega, Lib.hid (by simp), Lib.hid (by simp), Lib.hid (by rw [List.append_nil]; exact HO.out), b1⟩
  case round =>
    clear HO b1
    obtain ⟨r, A2, c2, hi, z, hr, rfl, rfl, hz, HZ, HLo, HO, hb⟩ := hrel
    have hsz := hb.size
    have hzz : z ≤ n + 3 := by
      have h1 := congrArg List.length HLo.out
      rw [List.length_append, lowB_len, lowB_len] at h1
      have := HZ.out
      omega
    match r, hr with
    | 0, _ =>
      go_wp2_with fail
      go_ret
      have e1 : hi = lowB v 3 := by have h := HLo.out; rwa [show lowB v 0 = [] from rfl, List.append_nil] at h
      have e2 : z = n + 3 := by rw [HZ.out, e1, lowB_len]
      subst e2
      rw [e1] at HO
      exact ⟨A2, c2, rfl, by rw [List.length_append, HL.out, lowB_len], fun x hx => (List.mem_append.1 hx).elim (HY.out x) (lowB_lt v _ x), HO.out, hb⟩
    | 1, hr =>
      have HB : Hid (v % 256 = ((byteN v 0 : Nat) : Int)) := Lib.hid (by unfold byteN; omega)
      have HS : Hid (hi ++ [byteN v 0] ++ lowB v 0 = lowB v 3) := Lib.hid (by rw [← HLo.out]; simp [lowB])
      have HOne := Lib.hid (ycells_one [byteN v 0])
      have hReads : Hid (Reads (wr.alloc (.cells #[.int .u8 (v % 256)] 5)) (wr.heap.size + 1) 1 (some ⟨wr.heap.size, 0, none⟩) 1 (ycells [byteN v 0])) := Lib.hid ⟨rfl, fun _ => ⟨_, _, rfl, by omega, fun i u hu => by
        match i, hu with
        | 0, hu => injection hu with hu; subst hu; rw [HB.out]; simp⟩⟩
      have HOa := Lib.hid (HO.out.alloc (.cells #[.int .u8 (v % 256)] 5))
      have hba := hb.alloc hsz (.cells #[.int .u8 (v % 256)] 5)
      clear HLo HO HB
      go_wp2_with (at_builtin; refine wpList_append_src rfl _ _ 27 rfl w.heap.size 5 i0 _ 1 1 Tryd.underlying27 hi0 hz0 hz1 hz2 rfl (by decide) _ _ _ rfl HOa.out (some ⟨wr.heap.size, 0, none⟩) 1 1 (wr.heap.size + 1) (ycells [byteN v 0]) rfl (fun h => by cases h) hReads.out HOne.out ?n3 ?n4 ?n5 ?_)
      case n3 => unfold maxLen; omega
      case n4 => omega
      case n5 => simp; omega
      intro A3 c3 w3 hown3 hn3 hgrow3
      have b3 : Below w.heap.size w w3 := below_grown hba (by simp; omega) HOa.out hgrow3
      have HO3 : Hid (w3.ownsRow w.heap.size 5 1 (.slice A3 (z + 1) c3) (z + 1) (ycells (b ++ (hi ++ [byteN v 0])))) := Lib.hid (by
        rw [← List.append_assoc, ycells_app]; exact hown3)
      clear hown3 hgrow3 HOa hReads hba hb
      go_wp2_with fail
      go_roundw
      case rel => exact ⟨0, A3, c3, hi ++ [byteN v 0], z + 1, by omega, by go_num, rfl, by omega, Lib.hid (by have := HZ.out; simp; omega), HS, HO3, b3⟩
      case measure => simp [intOf]
    | 2, hr =>
      have HB : Hid (v / 256 % 256 = ((byteN v 1 : Nat) : Int)) := Lib.hid (by unfold byteN; omega)
      have HS : Hid (hi ++ [byteN v 1] ++ lowB v 1 = lowB v 3) := Lib.hid (by rw [← HLo.out]; simp [lowB])
      have HOne := Lib.hid (ycells_one [byteN v 1])
      have hReads : Hid (Reads (wr.alloc (.cells #[.int .u8 (v / 256 % 256)] 5)) (wr.heap.size + 1) 1 (some ⟨wr.heap.size, 0, none⟩) 1 (ycells [byteN v 1])) := Lib.hid ⟨rfl, fun _ => ⟨_, _, rfl, by omega, fun i u hu => by
        match i, hu with
        | 0, hu => injection hu with hu; subst hu; rw [HB.out]; simp⟩⟩
      have HOa := Lib.hid (HO.out.alloc (.cells #[.int .u8 (v / 256 % 256)] 5))
      have hba := hb.alloc hsz (.cells #[.int .u8 (v / 256 % 256)] 5)
      clear HLo HO HB
      go_wp2_with (at_builtin; refine wpList_append_src rfl _ _ 27 rfl w.heap.size 5 i0 _ 1 1 Tryd.underlying27 hi0 hz0 hz1 hz2 rfl (by decide) _ _ _ rfl HOa.out (some ⟨wr.heap.size, 0, none⟩) 1 1 (wr.heap.size + 1) (ycells [byteN v 1]) rfl (fun h => by cases h) hReads.out HOne.out ?n3 ?n4 ?n5 ?_)
      case n3 => unfold maxLen; omega
      case n4 => omega
      case n5 => simp; omega
      intro A3 c3 w3 hown3 hn3 hgrow3
      have b3 : Below w.heap.size w w3 := below_grown hba (by simp; omega) HOa.out hgrow3
      have HO3 : Hid (w3.ownsRow w.heap.size 5 1 (.slice A3 (z + 1) c3) (z + 1) (ycells (b ++ (hi ++ [byteN v 1])))) := Lib.hid (by
        rw [← List.append_assoc, ycells_app]; exact hown3)
      clear hown3 hgrow3 HOa hReads hba hb
      go_wp2_with fail
      go_roundw
      case rel => exact ⟨1, A3, c3, hi ++ [byteN v 1], z + 1, by omega, by go_num, rfl, by omega, Lib.hid (by have := HZ.out; simp; omega), HS, HO3, b3⟩
      case measure => simp [intOf]
    | 3, hr =>
      have HB : Hid (v / 65536 % 256 = ((byteN v 2 : Nat) : Int)) := Lib.hid (by unfold byteN; omega)
      have HS : Hid (hi ++ [byteN v 2] ++ lowB v 2 = lowB v 3) := Lib.hid (by rw [← HLo.out]; simp [lowB])
      have HOne := Lib.hid (ycells_one [byteN v 2])
      have hReads : Hid (Reads (wr.alloc (.cells #[.int .u8 (v / 65536 % 256)] 5)) (wr.heap.size + 1) 1 (some ⟨wr.heap.size, 0, none⟩) 1 (ycells [byteN v 2])) := Lib.hid ⟨rfl, fun _ => ⟨_, _, rfl, by omega, fun i u hu => by
        match i, hu with
        | 0, hu => injection hu with hu; subst hu; rw [HB.out]; simp⟩⟩
      have HOa := Lib.hid (HO.out.alloc (.cells #[.int .u8 (v / 65536 % 256)] 5))
      have hba := hb.alloc hsz (.cells #[.int .u8 (v / 65536 % 256)] 5)
      clear HLo HO HB
      go_wp2_with (at_builtin; refine wpList_append_src rfl _ _ 27 rfl w.heap.size 5 i0 _ 1 1 Tryd.underlying27 hi0 hz0 hz1 hz2 rfl (by decide) _ _ _ rfl HOa.out (some ⟨wr.heap.size, 0, none⟩) 1 1 (wr.heap.size + 1) (ycells [byteN v 2]) rfl (fun h => by cases h) hReads.out HOne.out ?n3 ?n4 ?n5 ?_)
      case n3 => unfold maxLen; omega
      case n4 => omega
      case n5 => simp; omega
      intro A3 c3 w3 hown3 hn3 hgrow3
      have b3 : Below w.heap.size w w3 := below_grown hba (by simp; omega) HOa.out hgrow3
      have HO3 : Hid (w3.ownsRow w.heap.size 5 1 (.slice A3 (z + 1) c3) (z + 1) (ycells (b ++ (hi ++ [byteN v 2])))) := Lib.hid (by
        rw [← List.append_assoc, ycells_app]; exact hown3)
      clear hown3 hgrow3 HOa hReads hba hb
      go_wp2_with fail
      go_roundw
      case rel => exact ⟨2, A3, c3, hi ++ [byteN v 2], z + 1, by omega, by go_num, rfl, by omega, Lib.hid (by have := HZ.out; simp; omega), HS, HO3, b3⟩
      case measure => simp [intOf]
    | r + 4, hr => omega

set_option maxHeartbeats 2000000 in
theorem refPut_4 (b : List Nat) (n : Nat) (A : Option Addr) (c : Nat) (v : Int)  (w : World) (hA : A = none → c = 0) (hR : RB w w.heap.size A n b) (hn : n ≤ 10000) :
    Calls Tryd.prog 49 #[.slice A n c, .int .i64 v, .int .i64 4] w (OutY (b ++ lowB v 4) (n + 4) w) := by
  obtain ⟨i0, hi0, hz0, hz1, hz2⟩ := info_parts info5
  have HR := Lib.hid hR.2.1
  have HL := Lib.hid hR.1
  have HY := Lib.hid hR.2.2
  have HA := Lib.hid hA
  clear hR hA
  have hk4 : 4 ≤ 4 := by omega
  go_enter Tryd.func49, Tryd.ntmps49
  go_wp2_with (at_builtin; refine wpList_append_src rfl _ _ 27 rfl w.heap.size 5 i0 _ 1 1 Tryd.underlying27 hi0 hz0 hz1 hz2 rfl (by decide) _ _ _ rfl (World.ownsRow_made (size := 1) w #[] 0 (Nat.le_refl _) (Nat.zero_le _) (by simp)) A n c w.heap.size (ycells b) rfl HA.out (HR.out.alloc (Nat.le_refl _) _) (ycells_one b) ?c3 ?c4 ?c5 ?_)
  case c3 => unfold maxLen; omega
  case c4 => omega
  case c5 => simp
  intro A1 c1 w1 hown1 hn1 hgrow1
  have b1 : Below w.heap.size w w1 := below_grown (below_new _ _) (by simp) (World.ownsRow_made (size := 1) w #[] 0 (Nat.le_refl _) (Nat.zero_le _) (by simp)) hgrow1
  try simp only [Nat.zero_add, List.nil_append] at hown1 ⊢
  have HO : Hid (w1.ownsRow w.heap.size 5 1 (.slice A1 n c1) n (ycells b)) := Lib.hid (by simpa using hown1)
  clear hown1 hgrow1 hn1 HR
  go_wp2_with fail
  go_loopw [7, 8] (fun vo i wr => ∃ (r : Nat) (A2 : Option Addr) (c2 : Nat) (hi : List Nat) (z : Nat), r ≤ 4 ∧ i = .int .i64 ((r : Int) - 1) ∧ vo = .slice A2 z c2 ∧ z ≤ 20000 ∧ Hid (z = n + hi.length) ∧ Hid (hi ++ lowB v r = lowB v 4) ∧ Hid (wr.ownsRow w.heap.size 5 1 (.slice A2 z c2) z (ycells (b ++ hi))) ∧ Below w.heap.size w wr) (fun _ i _ => (intOf i + 1).toNat)
  case atStart => exact ⟨4, A1, c1, [], n, Nat.le_refl _, congrArg (Value.int .i64) (by omega), rfl, by omega, Lib.hid (by simp), Lib.hid (by simp), Lib.hid (by rw [List.append_nil]; exact HO.out), b1⟩
  case round =>
    clear HO b1
    obtain ⟨r, A2, c2, hi, z, hr, rfl, rfl, hz, HZ, HLo, HO, hb⟩ := hrel
    have hsz := hb.size
    have hzz : z ≤ n + 4 := by
      have h1 := congrArg List.length HLo.out
      rw [List.length_append, lowB_len, lowB_len] at h1
      have := HZ.out
      omega
    match r, hr with
    | 0, _ =>
      go_wp2_with fail
      go_ret
      have e1 : hi = lowB v 4 := by have h := HLo.out; rwa [show lowB v 0 = [] from rfl, List.append_nil] at h
      have e2 : z = n + 4 := by rw [HZ.out, e1, lowB_len]
      subst e2
      rw [e1] at HO
      exact ⟨A2, c2, rfl, by rw [List.length_append, HL.out, lowB_len], fun x hx => (List.mem_append.1 hx).elim (HY.out x) (lowB_lt v _ x), HO.out, hb⟩
    | 1, hr =>
      have HB : Hid (v % 256 = ((byteN v 0 : Nat) : Int)) := Lib.hid (by unfold byteN; omega)
      have HS : Hid (hi ++ [byteN v 0] ++ lowB v 0 = lowB v 4) := Lib.hid (by rw [← HLo.out]; simp [lowB])
      have HOne := Lib.hid (ycells_one [byteN v 0])
      have hReads : Hid (Reads (wr.alloc (.cells #[.int .u8 (v % 256)] 5)) (wr.heap.size + 1) 1 (some ⟨wr.heap.size, 0, none⟩) 1 (ycells [byteN v 0])) := Lib.hid ⟨rfl, fun _ => ⟨_, _, rfl, by omega, fun i u hu => by
        match i, hu with
        | 0, hu => injection hu with hu; subst hu; rw [HB.out]; simp⟩⟩
      have HOa := Lib.hid (HO.out.alloc (.cells #[.int .u8 (v % 256)] 5))
      have hba := hb.alloc hsz (.cells #[.int .u8 (v % 256)] 5)
      clear HLo HO HB
      go_wp2_with (at_builtin; refine wpList_append_src rfl _ _ 27 rfl w.heap.size 5 i0 _ 1 1 Tryd.underlying27 hi0 hz0 hz1 hz2 rfl (by decide) _ _ _ rfl HOa.out (some ⟨wr.heap.size, 0, none⟩) 1 1 (wr.heap.size + 1) (ycells [byteN v 0]) rfl (fun h => by cases h) hReads.out HOne.out ?n3 ?n4 ?n5 ?_)
      case n3 => unfold maxLen; omega
      case n4 => omega
      case n5 => simp; omega
      intro A3 c3 w3 hown3 hn3 hgrow3
      have b3 : Below w.heap.size w w3 := below_grown hba (by simp; omega) HOa.out hgrow3
      have HO3 : Hid (w3.ownsRow w.heap.size 5 1 (.slice A3 (z + 1) c3) (z + 1) (ycells (b ++ (hi ++ [byteN v 0])))) := Lib.hid (by
        rw [← List.append_assoc, ycells_app]; exact hown3)
      clear hown3 hgrow3 HOa hReads hba hb
      go_wp2_with fail
      go_roundw
      case rel => exact ⟨0, A3, c3, hi ++ [byteN v 0], z + 1, by omega, by go_num, rfl, by omega, Lib.hid (by have := HZ.out; simp; omega), HS, HO3, b3⟩
      case measure => simp [intOf]
    | 2, hr =>
      have HB : Hid (v / 256 % 256 = ((byteN v 1 : Nat) : Int)) := Lib.hid (by unfold byteN; omega)
      have HS : Hid (hi ++ [byteN v 1] ++ lowB v 1 = lowB v 4) := Lib.hid (by rw [← HLo.out]; simp [lowB])
      have HOne := Lib.hid (ycells_one [byteN v 1])
      have hReads : Hid (Reads (wr.alloc (.cells #[.int .u8 (v / 256 % 256)] 5)) (wr.heap.size + 1) 1 (some ⟨wr.heap.size, 0, none⟩) 1 (ycells [byteN v 1])) := Lib.hid ⟨rfl, fun _ => ⟨_, _, rfl, by omega, fun i u hu => by
        match i, hu with
        | 0, hu => injection hu with hu; subst hu; rw [HB.out]; simp⟩⟩
      have HOa := Lib.hid (HO.out.alloc (.cells #[.int .u8 (v / 256 % 256)] 5))
      have hba := hb.alloc hsz (.cells #[.int .u8 (v / 256 % 256)] 5)
      clear HLo HO HB
      go_wp2_with (at_builtin; refine wpList_append_src rfl _ _ 27 rfl w.heap.size 5 i0 _ 1 1 Tryd.underlying27 hi0 hz0 hz1 hz2 rfl (by decide) _ _ _ rfl HOa.out (some ⟨wr.heap.size, 0, none⟩) 1 1 (wr.heap.size + 1) (ycells [byteN v 1]) rfl (fun h => by cases h) hReads.out HOne.out ?n3 ?n4 ?n5 ?_)
      case n3 => unfold maxLen; omega
      case n4 => omega
      case n5 => simp; omega
      intro A3 c3 w3 hown3 hn3 hgrow3
      have b3 : Below w.heap.size w w3 := below_grown hba (by simp; omega) HOa.out hgrow3
      have HO3 : Hid (w3.ownsRow w.heap.size 5 1 (.slice A3 (z + 1) c3) (z + 1) (ycells (b ++ (hi ++ [byteN v 1])))) := Lib.hid (by
        rw [← List.append_assoc, ycells_app]; exact hown3)
      clear hown3 hgrow3 HOa hReads hba hb
      go_wp2_with fail
      go_roundw
      case rel => exact ⟨1, A3, c3, hi ++ [byteN v 1], z + 1, by omega, by go_num, rfl, by omega, Lib.hid (by have := HZ.out; simp; omega), HS, HO3, b3⟩
      case measure => simp [intOf]
    | 3, hr =>
      have HB : Hid (v / 65536 % 256 = ((byteN v 2 : Nat) : Int)) := Lib.hid (by unfold byteN; omega)
      have HS : Hid (hi ++ [byteN v 2] ++ lowB v 2 = lowB v 4) := Lib.hid (by rw [← HLo.out]; simp [lowB])
      have HOne := Lib.hid (ycells_one [byteN v 2])
      have hReads : Hid (Reads (wr.alloc (.cells #[.int .u8 (v / 65536 % 256)] 5)) (wr.heap.size + 1) 1 (some ⟨wr.heap.size, 0, none⟩) 1 (ycells [byteN v 2])) := Lib.hid ⟨rfl, fun _ => ⟨_, _, rfl, by omega, fun i u hu => by
        match i, hu with
        | 0, hu => injection hu with hu; subst hu; rw [HB.out]; simp⟩⟩
      have HOa := Lib.hid (HO.out.alloc (.cells #[.int .u8 (v / 65536 % 256)] 5))
      have hba := hb.alloc hsz (.cells #[.int .u8 (v / 65536 % 256)] 5)
      clear HLo HO HB
      go_wp2_with (at_builtin; refine wpList_append_src rfl _ _ 27 rfl w.heap.size 5 i0 _ 1 1 Tryd.underlying27 hi0 hz0 hz1 hz2 rfl (by decide) _ _ _ rfl HOa.out (some ⟨wr.heap.size, 0, none⟩) 1 1 (wr.heap.size + 1) (ycells [byteN v 2]) rfl (fun h => by cases h) hReads.out HOne.out ?n3 ?n4 ?n5 ?_)
      case n3 => unfold maxLen; omega
      case n4 => omega
      case n5 => simp; omega
      intro A3 c3 w3 hown3 hn3 hgrow3
      have b3 : Below w.heap.size w w3 := below_grown hba (by simp; omega) HOa.out hgrow3
      have HO3 : Hid (w3.ownsRow w.heap.size 5 1 (.slice A3 (z + 1) c3) (z + 1) (ycells (b ++ (hi ++ [byteN v 2])))) := Lib.hid (by
        rw [← List.append_assoc, ycells_app]; exact hown3)
      clear hown3 hgrow3 HOa hReads hba hb
      go_wp2_with fail
      go_roundw
      case rel => exact ⟨2, A3, c3, hi ++ [byteN v 2], z + 1, by omega, by go_num, rfl, by omega, Lib.hid (by have := HZ.out; simp; omega), HS, HO3, b3⟩
      case measure => simp [intOf]
    | 4, hr =>
      have HB : Hid (v / 16777216 % 256 = ((byteN v 3 : Nat) : Int)) := Lib.hid (by unfold byteN; omega)
      have HS : Hid (hi ++ [byteN v 3] ++ lowB v 3 = lowB v 4) := Lib.hid (by rw [← HLo.out]; simp [lowB])
      have HOne := Lib.hid (ycells_one [byteN v 3])
      have hReads : Hid (Reads (wr.alloc (.cells #[.int .u8 (v / 16777216 % 256)] 5)) (wr.heap.size + 1) 1 (some ⟨wr.heap.size, 0, none⟩) 1 (ycells [byteN v 3])) := Lib.hid ⟨rfl, fun _ => ⟨_, _, rfl, by omega, fun i u hu => by
        match i, hu with
        | 0, hu => injection hu with hu; subst hu; rw [HB.out]; simp⟩⟩
      have HOa := Lib.hid (HO.out.alloc (.cells #[.int .u8 (v / 16777216 % 256)] 5))
      have hba := hb.alloc hsz (.cells #[.int .u8 (v / 16777216 % 256)] 5)
      clear HLo HO HB
      go_wp2_with (at_builtin; refine wpList_append_src rfl _ _ 27 rfl w.heap.size 5 i0 _ 1 1 Tryd.underlying27 hi0 hz0 hz1 hz2 rfl (by decide) _ _ _ rfl HOa.out (some ⟨wr.heap.size, 0, none⟩) 1 1 (wr.heap.size + 1) (ycells [byteN v 3]) rfl (fun h => by cases h) hReads.out HOne.out ?n3 ?n4 ?n5 ?_)
      case n3 => unfold maxLen; omega
      case n4 => omega
      case n5 => simp; omega
      intro A3 c3 w3 hown3 hn3 hgrow3
      have b3 : Below w.heap.size w w3 := below_grown hba (by simp; omega) HOa.out hgrow3
      have HO3 : Hid (w3.ownsRow w.heap.size 5 1 (.slice A3 (z + 1) c3) (z + 1) (ycells (b ++ (hi ++ [byteN v 3])))) := Lib.hid (by
        rw [← List.append_assoc, ycells_app]; exact hown3)
      clear hown3 hgrow3 HOa hReads hba hb
      go_wp2_with fail
      go_roundw
      case rel => exact ⟨3, A3, c3, hi ++ [byteN v 3], z + 1, by omega, by go_num, rfl, by omega, Lib.hid (by have := HZ.out; simp; omega), HS, HO3, b3⟩
      case measure => simp [intOf]
    | r + 5, hr => omega

theorem refPut_any (b : List Nat) (n : Nat) (A : Option Addr) (c : Nat) (v size : Int) (w : World) (hA : A = none → c = 0) (hR : RB w w.heap.size A n b) (hn : n ≤ 10000) :
    Calls Tryd.prog 49 #[.slice A n c, .int .i64 v, .int .i64 size] w (OutY (b ++ lowB v (cutN size)) (n + cutN size) w) := by
  by_cases h0 : size < 0
  · rw [show cutN size = 0 by unfold cutN; omega]; exact refPut_neg b n A c v size h0 w hA hR hn
  by_cases h4 : 4 < size
  · rw [show cutN size = 4 by unfold cutN; omega]; exact refPut_big b n A c v size h4 w hA hR hn
  have : size = 0 ∨ size = 1 ∨ size = 2 ∨ size = 3 ∨ size = 4 := by omega
  rcases this with rfl | rfl | rfl | rfl | rfl
  · exact refPut_0 b n A c v w hA hR hn
  · exact refPut_1 b n A c v w hA hR hn
  · exact refPut_2 b n A c v w hA hR hn
  · exact refPut_3 b n A c v w hA hR hn
  · exact refPut_4 b n A c v w hA hR hn
end Go.Proofs.YtbnconieedgcmaaDoor
