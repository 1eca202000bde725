/- What the document's Union and Both return. -/
import Derived.Test.YtehikcddnjibcaaRefTwo
namespace Go.Proofs.Ytehikcddnjibcaa
open Go.RowKit Go.BigFrame
set_option linter.unusedVariables false
set_option linter.unusedSimpArgs false

theorem refUnion_good (a b : List Rg) (n m : Nat) (ha : a.length = n) (hb : b.length = m) (A B : Option Addr) (c d : Nat) (w : World) (hA : A = none → c = 0) (hB : B = none → d = 0)
    (hRa : Reads w w.heap.size 2 A n (rcells a)) (hRb : Reads w w.heap.size 2 B m (rcells b)) (hn : n ≤ 2000) (hm : m ≤ 2000) (hga : Gd (-1) a) (hgb : Gd (-1) b) :
    Calls Try.prog 15 #[.slice A n c, .slice B m d] w (OutG (fun v => twP false (In a v) (In b v)) 10000 w) := by
  have bn := below_new w (.cells #[.slice none 0 0, .bool false] 31)
  have H2 := Lib.hid (two_good a b n m ha hb A B c d false (w.alloc (.cells #[.slice none 0 0, .bool false] 31)) hA hB (reads_on hRa bn) (reads_on hRb bn) hn hm hga hgb)
  have HRes := Lib.hid (res_new w)
  clear hRa hRb ha hb hga hgb hA hB
  go_enter Try.func15, Try.ntmps15
  go_wp2_with fail
  refine H2.out.mono ?_
  rintro e w6 ⟨s, k, A6, c6, rfl, hk6, hkn, s6, i6, r6, g6⟩
  have HRes6 := Lib.hid (HRes.out.on (by simp) g6)
  have b6 := bn.trans (g6.mono (by simp))
  have R6 := Lib.hid r6
  have S6 := Lib.hid s6
  have I6 := Lib.hid i6
  have K6 := Lib.hid hk6
  obtain ⟨r0, r1, f0, f1⟩ := HRes6.out
  clear r6 s6 i6 hk6 g6 HRes H2 bn
  go_wp2_with fail
  obtain ⟨k0, k1⟩ := res_set HRes6.out (.slice A6 k c6) (.bool true)
  have b7 := res_below b6 HRes6.out (.slice A6 k c6) (.bool true) (Nat.le_refl _)
  have r7 := Lib.hid (reads_res HRes6.out R6.out (.slice A6 k c6) (.bool true))
  have hs7 : ((w6.setCell ⟨w.heap.size, 0, none⟩ (.slice A6 k c6)).setCell ⟨w.heap.size, 1, none⟩ (.bool true)).heap.size = w6.heap.size := by simp
  rw [← hs7] at r7
  generalize (w6.setCell ⟨w.heap.size, 0, none⟩ (.slice A6 k c6)).setCell ⟨w.heap.size, 1, none⟩ (.bool true) = w7 at *
  exact bodyPost_ret (v := .agg #[.slice A6 k c6, .bool true]) (by simp [results, Try.results15, go_sem, k0, k1]) rfl ⟨s, k, A6, c6, rfl, K6.out, hkn, S6.out, I6.out, r7.out, b7⟩

theorem refUnion_bad (a b : List Rg) (n m : Nat) (ha : a.length = n) (hb : b.length = m) (A B : Option Addr) (c d : Nat) (w : World)
    (hRa : Reads w w.heap.size 2 A n (rcells a)) (hRb : Reads w w.heap.size 2 B m (rcells b)) (hn : n ≤ 2000) (hm : m ≤ 2000) (hg : (goodB a && goodB b) = false) :
    Calls Try.prog 15 #[.slice A n c, .slice B m d] w (OutGno w) := by
  have bn := below_new w (.cells #[.slice none 0 0, .bool false] 31)
  have H2 := Lib.hid (two_bad a b n m ha hb A B c d false (w.alloc (.cells #[.slice none 0 0, .bool false] 31)) (reads_on hRa bn) (reads_on hRb bn) hn hm hg)
  have HRes := Lib.hid (res_new w)
  clear hRa hRb ha hb hg
  go_enter Try.func15, Try.ntmps15
  go_wp2_with fail
  refine H2.out.mono ?_
  rintro e w6 ⟨rfl, g6⟩
  have HRes6 := Lib.hid (HRes.out.on (by simp) g6)
  have b6 := bn.trans (g6.mono (by simp))
  obtain ⟨r0, r1, f0, f1⟩ := HRes6.out
  clear g6 HRes H2 bn
  go_wp2_with fail
  obtain ⟨k0, k1⟩ := res_set HRes6.out (.slice none 0 0) (.bool false)
  have b7 := res_below b6 HRes6.out (.slice none 0 0) (.bool false) (Nat.le_refl _)
  generalize (w6.setCell ⟨w.heap.size, 0, none⟩ (.slice none 0 0)).setCell ⟨w.heap.size, 1, none⟩ (.bool false) = w7 at *
  exact bodyPost_ret (v := .agg #[.slice none 0 0, .bool false]) (by simp [results, Try.results15, go_sem, k0, k1]) rfl ⟨rfl, b7⟩

theorem refBoth_good (a b : List Rg) (n m : Nat) (ha : a.length = n) (hb : b.length = m) (A B : Option Addr) (c d : Nat) (w : World) (hA : A = none → c = 0) (hB : B = none → d = 0)
    (hRa : Reads w w.heap.size 2 A n (rcells a)) (hRb : Reads w w.heap.size 2 B m (rcells b)) (hn : n ≤ 2000) (hm : m ≤ 2000) (hga : Gd (-1) a) (hgb : Gd (-1) b) :
    Calls Try.prog 16 #[.slice A n c, .slice B m d] w (OutG (fun v => twP true (In a v) (In b v)) 10000 w) := by
  have bn := below_new w (.cells #[.slice none 0 0, .bool false] 31)
  have H2 := Lib.hid (two_good a b n m ha hb A B c d true (w.alloc (.cells #[.slice none 0 0, .bool false] 31)) hA hB (reads_on hRa bn) (reads_on hRb bn) hn hm hga hgb)
  have HRes := Lib.hid (res_new w)
  clear hRa hRb ha hb hga hgb hA hB
  go_enter Try.func16, Try.ntmps16
  go_wp2_with fail
  refine H2.out.mono ?_
  rintro e w6 ⟨s, k, A6, c6, rfl, hk6, hkn, s6, i6, r6, g6⟩
  have HRes6 := Lib.hid (HRes.out.on (by simp) g6)
  have b6 := bn.trans (g6.mono (by simp))
  have R6 := Lib.hid r6
  have S6 := Lib.hid s6
  have I6 := Lib.hid i6
  have K6 := Lib.hid hk6
  obtain ⟨r0, r1, f0, f1⟩ := HRes6.out
  clear r6 s6 i6 hk6 g6 HRes H2 bn
  go_wp2_with fail
  obtain ⟨k0, k1⟩ := res_set HRes6.out (.slice A6 k c6) (.bool true)
  have b7 := res_below b6 HRes6.out (.slice A6 k c6) (.bool true) (Nat.le_refl _)
  have r7 := Lib.hid (reads_res HRes6.out R6.out (.slice A6 k c6) (.bool true))
  have hs7 : ((w6.setCell ⟨w.heap.size, 0, none⟩ (.slice A6 k c6)).setCell ⟨w.heap.size, 1, none⟩ (.bool true)).heap.size = w6.heap.size := by simp
  rw [← hs7] at r7
  generalize (w6.setCell ⟨w.heap.size, 0, none⟩ (.slice A6 k c6)).setCell ⟨w.heap.size, 1, none⟩ (.bool true) = w7 at *
  exact bodyPost_ret (v := .agg #[.slice A6 k c6, .bool true]) (by simp [results, Try.results16, go_sem, k0, k1]) rfl ⟨s, k, A6, c6, rfl, K6.out, hkn, S6.out, I6.out, r7.out, b7⟩

theorem refBoth_bad (a b : List Rg) (n m : Nat) (ha : a.length = n) (hb : b.length = m) (A B : Option Addr) (c d : Nat) (w : World)
    (hRa : Reads w w.heap.size 2 A n (rcells a)) (hRb : Reads w w.heap.size 2 B m (rcells b)) (hn : n ≤ 2000) (hm : m ≤ 2000) (hg : (goodB a && goodB b) = false) :
    Calls Try.prog 16 #[.slice A n c, .slice B m d] w (OutGno w) := by
  have bn := below_new w (.cells #[.slice none 0 0, .bool false] 31)
  have H2 := Lib.hid (two_bad a b n m ha hb A B c d true (w.alloc (.cells #[.slice none 0 0, .bool false] 31)) (reads_on hRa bn) (reads_on hRb bn) hn hm hg)
  have HRes := Lib.hid (res_new w)
  clear hRa hRb ha hb hg
  go_enter Try.func16, Try.ntmps16
  go_wp2_with fail
  refine H2.out.mono ?_
  rintro e w6 ⟨rfl, g6⟩
  have HRes6 := Lib.hid (HRes.out.on (by simp) g6)
  have b6 := bn.trans (g6.mono (by simp))
  obtain ⟨r0, r1, f0, f1⟩ := HRes6.out
  clear g6 HRes H2 bn
  go_wp2_with fail
  obtain ⟨k0, k1⟩ := res_set HRes6.out (.slice none 0 0) (.bool false)
  have b7 := res_below b6 HRes6.out (.slice none 0 0) (.bool false) (Nat.le_refl _)
  generalize (w6.setCell ⟨w.heap.size, 0, none⟩ (.slice none 0 0)).setCell ⟨w.heap.size, 1, none⟩ (.bool false) = w7 at *
  exact bodyPost_ret (v := .agg #[.slice none 0 0, .bool false]) (by simp [results, Try.results16, go_sem, k0, k1]) rfl ⟨rfl, b7⟩
end Go.Proofs.Ytehikcddnjibcaa
