/-
  Send, Heard, Take: the program.
-/
import Derived.Test.YtlbgilbigcnleaaNdQ
namespace Go.Proofs.Ytlbgilbigcnleaa
open Go.RowKit
set_option linter.unusedVariables false
set_option linter.unusedSimpArgs false

set_option maxRecDepth 100000 in
set_option maxHeartbeats 4000000 in
theorem send_90 {w : World} {P : Nat → Prop} {n : NV} {N : NC} {f : FV} {F : FC} (h : NIs w P n N) (hf : FIs w P f F) (hok : OkN N) (hP : ∀ b, w.heap.size ≤ b → P b) (hr : rightC F = false) :
    Calls Try.prog 18 #[n.v, f.v] w fun e w' => ∃ n' : NV, e = .returned (.tuple #[n'.v, .int .i64 90]) ∧ NIs w' P n' N ∧ Below w.heap.size w w' := by
  have hm := qm_le h hok
  have Hr := Lib.hid hr
  clear hr
  obtain ⟨w0, hw0⟩ : ∃ w0, (((w.alloc (.cells #[.slice n.qa n.qm n.qc, .slice n.la n.lm n.lc, .int .i64 n.k.t, .int .i64 n.k.r, .int .i64 n.k.s, .int .i64 n.k.q, .slice n.ga n.gm n.gc] 27)).alloc (.cells #[.bool f.x, .int .i64 f.i, .bool f.r, .int .i64 f.n, .slice f.a f.m f.c] 30)).alloc (.cells #[.slice none 0 0, .slice none 0 0, .int .i64 0, .int .i64 0, .int .i64 0, .int .i64 0, .slice none 0 0] 27)) = w0 := ⟨_, rfl⟩
  have hT0 : Below w.heap.size w w0 := by rw [← hw0]; exact below_then (below_then (below_alloc1 _ _) (below_alloc1 _ _)) (below_alloc1 _ _)
  have hn0 : w0.heap[w.heap.size]? = some (.cells #[.slice n.qa n.qm n.qc, .slice n.la n.lm n.lc, .int .i64 n.k.t, .int .i64 n.k.r, .int .i64 n.k.s, .int .i64 n.k.q, .slice n.ga n.gm n.gc] 27) := by rw [← hw0]; exact block_below (below_alloc1 _ _) (block_below (below_alloc1 _ _) (World.alloc_heap_new _ _))
  have hf0 : w0.heap[(w.heap.size + 1)]? = some (.cells #[.bool f.x, .int .i64 f.i, .bool f.r, .int .i64 f.n, .slice f.a f.m f.c] 30) := by rw [← hw0]; exact block_below (below_alloc1 _ _) (alloc_at _ _ (by simp))
  have hr0 : w0.heap[(w.heap.size + 2)]? = some (.cells #[.slice none 0 0, .slice none 0 0, .int .i64 0, .int .i64 0, .int .i64 0, .int .i64 0, .slice none 0 0] 27) := by rw [← hw0]; exact alloc_at _ _ (by simp)
  have hs0 : w0.heap.size = w.heap.size + 3 := by rw [← hw0]; simp
  have Hs0 := Lib.hid hs0
  clear hs0
  obtain ⟨nc0, nc1, nc2, nc3, nc4, nc5, nc6⟩ := cells7' hn0
  obtain ⟨fc0, fc1, fc2, fc3, fc4⟩ := cells5' hf0
  obtain ⟨rc0, rc1, rc2, rc3, rc4, rc5, rc6⟩ := cells7' hr0
  go_enter Try.func18, Try.ntmps18
  go_wp2_with fail
  clear nc0 nc1 nc2 nc3 nc4 nc5 nc6 fc0 fc1 fc2 fc3 fc4 rc0 rc1 rc2 rc3 rc4 rc5 rc6
  clear hw0
  have hZ0 := Below.refl w0.heap.size w0
  refine (frRight_c (hf.to hT0) false Hr.out).mono ?_
  rintro e w1 ⟨rfl, hB1⟩
  have hT1 := below_then hT0 hB1
  have hZ1 := below_then hZ0 hB1
  clear hZ0
  have hn1 := block_below hB1 hn0
  have hf1 := block_below hB1 hf0
  have hr1 := block_below hB1 hr0
  clear hT0 hn0 hf0 hr0  hB1
  obtain ⟨nc0, nc1, nc2, nc3, nc4, nc5, nc6⟩ := cells7' hn1
  obtain ⟨fc0, fc1, fc2, fc3, fc4⟩ := cells5' hf1
  obtain ⟨⟨rc0, rc1, rc2, rc3, rc4, rc5, rc6⟩, rf0, rf1, rf2, rf3, rf4, rf5, rf6⟩ := cells7 hr1
  go_wp2_with fail
  clear nc0 nc1 nc2 nc3 nc4 nc5 nc6 fc0 fc1 fc2 fc3 fc4 rc0 rc1 rc2 rc3 rc4 rc5 rc6 rf0 rf1 rf2 rf3 rf4 rf5 rf6
  exact bodyPost_ret (v := .tuple #[NV.v n, .int .i64 90]) (results_n1 (n := n) (u := .int .i64 90) rfl _ rfl rfl (set7_obj hr1 _ _ _ _ _ _ _)) rfl (⟨n, rfl, h.to (below_g hT1 (set7_grown _ _ _ _ _ _ _ _ _) (by omega)), (below_g hT1 (set7_grown _ _ _ _ _ _ _ _ _) (by omega))⟩)

set_option maxRecDepth 100000 in
set_option maxHeartbeats 4000000 in
theorem send_3 {w : World} {P : Nat → Prop} {n : NV} {N : NC} {f : FV} {F : FC} (h : NIs w P n N) (hf : FIs w P f F) (hok : OkN N) (hP : ∀ b, w.heap.size ≤ b → P b) (hr : rightC F = true) (hs : N.k.s = 3) :
    Calls Try.prog 18 #[n.v, f.v] w fun e w' => ∃ n' : NV, e = .returned (.tuple #[n'.v, .int .i64 3]) ∧ NIs w' P n' N ∧ Below w.heap.size w w' := by
  have hm := qm_le h hok
  have Hr := Lib.hid hr
  have Hs := Lib.hid (show n.k.s = 3 by rw [h.k]; exact hs)
  clear hr hs
  obtain ⟨w0, hw0⟩ : ∃ w0, (((w.alloc (.cells #[.slice n.qa n.qm n.qc, .slice n.la n.lm n.lc, .int .i64 n.k.t, .int .i64 n.k.r, .int .i64 n.k.s, .int .i64 n.k.q, .slice n.ga n.gm n.gc] 27)).alloc (.cells #[.bool f.x, .int .i64 f.i, .bool f.r, .int .i64 f.n, .slice f.a f.m f.c] 30)).alloc (.cells #[.slice none 0 0, .slice none 0 0, .int .i64 0, .int .i64 0, .int .i64 0, .int .i64 0, .slice none 0 0] 27)) = w0 := ⟨_, rfl⟩
  have hT0 : Below w.heap.size w w0 := by rw [← hw0]; exact below_then (below_then (below_alloc1 _ _) (below_alloc1 _ _)) (below_alloc1 _ _)
  have hn0 : w0.heap[w.heap.size]? = some (.cells #[.slice n.qa n.qm n.qc, .slice n.la n.lm n.lc, .int .i64 n.k.t, .int .i64 n.k.r, .int .i64 n.k.s, .int .i64 n.k.q, .slice n.ga n.gm n.gc] 27) := by rw [← hw0]; exact block_below (below_alloc1 _ _) (block_below (below_alloc1 _ _) (World.alloc_heap_new _ _))
  have hf0 : w0.heap[(w.heap.size + 1)]? = some (.cells #[.bool f.x, .int .i64 f.i, .bool f.r, .int .i64 f.n, .slice f.a f.m f.c] 30) := by rw [← hw0]; exact block_below (below_alloc1 _ _) (alloc_at _ _ (by simp))
  have hr0 : w0.heap[(w.heap.size + 2)]? = some (.cells #[.slice none 0 0, .slice none 0 0, .int .i64 0, .int .i64 0, .int .i64 0, .int .i64 0, .slice none 0 0] 27) := by rw [← hw0]; exact alloc_at _ _ (by simp)
  have hs0 : w0.heap.size = w.heap.size + 3 := by rw [← hw0]; simp
  have Hs0 := Lib.hid hs0
  clear hs0
  obtain ⟨nc0, nc1, nc2, nc3, nc4, nc5, nc6⟩ := cells7' hn0
  obtain ⟨fc0, fc1, fc2, fc3, fc4⟩ := cells5' hf0
  obtain ⟨rc0, rc1, rc2, rc3, rc4, rc5, rc6⟩ := cells7' hr0
  go_enter Try.func18, Try.ntmps18
  go_wp2_with fail
  clear nc0 nc1 nc2 nc3 nc4 nc5 nc6 fc0 fc1 fc2 fc3 fc4 rc0 rc1 rc2 rc3 rc4 rc5 rc6
  clear hw0
  have hZ0 := Below.refl w0.heap.size w0
  refine (frRight_c (hf.to hT0) true Hr.out).mono ?_
  rintro e w1 ⟨rfl, hB1⟩
  have hT1 := below_then hT0 hB1
  have hZ1 := below_then hZ0 hB1
  clear hZ0
  have hn1 := block_below hB1 hn0
  have hf1 := block_below hB1 hf0
  have hr1 := block_below hB1 hr0
  clear hT0 hn0 hf0 hr0  hB1
  obtain ⟨nc0, nc1, nc2, nc3, nc4, nc5, nc6⟩ := cells7' hn1
  obtain ⟨fc0, fc1, fc2, fc3, fc4⟩ := cells5' hf1
  obtain ⟨rc0, rc1, rc2, rc3, rc4, rc5, rc6⟩ := cells7' hr1
  go_wp2_with fail
  clear nc0 nc1 nc2 nc3 nc4 nc5 nc6 fc0 fc1 fc2 fc3 fc4 rc0 rc1 rc2 rc3 rc4 rc5 rc6
  refine (isOff_c n true (by simpa using Hs.out) w1).mono ?_
  rintro e w2 ⟨rfl, hB2⟩
  have hT2 := below_then hT1 hB2
  have hZ2 := below_then hZ1 hB2
  clear hZ1
  have hn2 := block_below hB2 hn1
  have hf2 := block_below hB2 hf1
  have hr2 := block_below hB2 hr1
  clear hT1 hn1 hf1 hr1  hB2
  obtain ⟨nc0, nc1, nc2, nc3, nc4, nc5, nc6⟩ := cells7' hn2
  obtain ⟨fc0, fc1, fc2, fc3, fc4⟩ := cells5' hf2
  obtain ⟨⟨rc0, rc1, rc2, rc3, rc4, rc5, rc6⟩, rf0, rf1, rf2, rf3, rf4, rf5, rf6⟩ := cells7 hr2
  go_wp2_with fail
  clear nc0 nc1 nc2 nc3 nc4 nc5 nc6 fc0 fc1 fc2 fc3 fc4 rc0 rc1 rc2 rc3 rc4 rc5 rc6 rf0 rf1 rf2 rf3 rf4 rf5 rf6
  exact bodyPost_ret (v := .tuple #[NV.v n, .int .i64 3]) (results_n1 (n := n) (u := .int .i64 3) rfl _ rfl rfl (set7_obj hr2 _ _ _ _ _ _ _)) rfl (⟨n, rfl, h.to (below_g hT2 (set7_grown _ _ _ _ _ _ _ _ _) (by omega)), (below_g hT2 (set7_grown _ _ _ _ _ _ _ _ _) (by omega))⟩)

set_option maxRecDepth 100000 in
set_option maxHeartbeats 4000000 in
theorem send_2 {w : World} {P : Nat → Prop} {n : NV} {N : NC} {f : FV} {F : FC} (h : NIs w P n N) (hf : FIs w P f F) (hok : OkN N) (hP : ∀ b, w.heap.size ≤ b → P b) (hr : rightC F = true) (hs : N.k.s ≠ 3) (hl : 16 ≤ N.q.length) :
    Calls Try.prog 18 #[n.v, f.v] w fun e w' => ∃ n' : NV, e = .returned (.tuple #[n'.v, .int .i64 2]) ∧ NIs w' P n' N ∧ Below w.heap.size w w' := by
  have hm := qm_le h hok
  have Hr := Lib.hid hr
  have Hs := Lib.hid (show ¬ n.k.s = 3 by rw [h.k]; exact hs)
  rw [h.q.len] at hl
  have i1 : (16 : Int) ≤ (n.qm : Int) := by omega
  clear hr hs
  obtain ⟨w0, hw0⟩ : ∃ w0, (((w.alloc (.cells #[.slice n.qa n.qm n.qc, .slice n.la n.lm n.lc, .int .i64 n.k.t, .int .i64 n.k.r, .int .i64 n.k.s, .int .i64 n.k.q, .slice n.ga n.gm n.gc] 27)).alloc (.cells #[.bool f.x, .int .i64 f.i, .bool f.r, .int .i64 f.n, .slice f.a f.m f.c] 30)).alloc (.cells #[.slice none 0 0, .slice none 0 0, .int .i64 0, .int .i64 0, .int .i64 0, .int .i64 0, .slice none 0 0] 27)) = w0 := ⟨_, rfl⟩
  have hT0 : Below w.heap.size w w0 := by rw [← hw0]; exact below_then (below_then (below_alloc1 _ _) (below_alloc1 _ _)) (below_alloc1 _ _)
  have hn0 : w0.heap[w.heap.size]? = some (.cells #[.slice n.qa n.qm n.qc, .slice n.la n.lm n.lc, .int .i64 n.k.t, .int .i64 n.k.r, .int .i64 n.k.s, .int .i64 n.k.q, .slice n.ga n.gm n.gc] 27) := by rw [← hw0]; exact block_below (below_alloc1 _ _) (block_below (below_alloc1 _ _) (World.alloc_heap_new _ _))
  have hf0 : w0.heap[(w.heap.size + 1)]? = some (.cells #[.bool f.x, .int .i64 f.i, .bool f.r, .int .i64 f.n, .slice f.a f.m f.c] 30) := by rw [← hw0]; exact block_below (below_alloc1 _ _) (alloc_at _ _ (by simp))
  have hr0 : w0.heap[(w.heap.size + 2)]? = some (.cells #[.slice none 0 0, .slice none 0 0, .int .i64 0, .int .i64 0, .int .i64 0, .int .i64 0, .slice none 0 0] 27) := by rw [← hw0]; exact alloc_at _ _ (by simp)
  have hs0 : w0.heap.size = w.heap.size + 3 := by rw [← hw0]; simp
  have Hs0 := Lib.hid hs0
  clear hs0
  obtain ⟨nc0, nc1, nc2, nc3, nc4, nc5, nc6⟩ := cells7' hn0
  obtain ⟨fc0, fc1, fc2, fc3, fc4⟩ := cells5' hf0
  obtain ⟨rc0, rc1, rc2, rc3, rc4, rc5, rc6⟩ := cells7' hr0
  go_enter Try.func18, Try.ntmps18
  go_wp2_with fail
  clear nc0 nc1 nc2 nc3 nc4 nc5 nc6 fc0 fc1 fc2 fc3 fc4 rc0 rc1 rc2 rc3 rc4 rc5 rc6
  clear hw0
  have hZ0 := Below.refl w0.heap.size w0
  refine (frRight_c (hf.to hT0) true Hr.out).mono ?_
  rintro e w1 ⟨rfl, hB1⟩
  have hT1 := below_then hT0 hB1
  have hZ1 := below_then hZ0 hB1
  clear hZ0
  have hn1 := block_below hB1 hn0
  have hf1 := block_below hB1 hf0
  have hr1 := block_below hB1 hr0
  clear hT0 hn0 hf0 hr0  hB1
  obtain ⟨nc0, nc1, nc2, nc3, nc4, nc5, nc6⟩ := cells7' hn1
  obtain ⟨fc0, fc1, fc2, fc3, fc4⟩ := cells5' hf1
  obtain ⟨rc0, rc1, rc2, rc3, rc4, rc5, rc6⟩ := cells7' hr1
  go_wp2_with fail
  clear nc0 nc1 nc2 nc3 nc4 nc5 nc6 fc0 fc1 fc2 fc3 fc4 rc0 rc1 rc2 rc3 rc4 rc5 rc6
  refine (isOff_c n false (by simpa using Hs.out) w1).mono ?_
  rintro e w2 ⟨rfl, hB2⟩
  have hT2 := below_then hT1 hB2
  have hZ2 := below_then hZ1 hB2
  clear hZ1
  have hn2 := block_below hB2 hn1
  have hf2 := block_below hB2 hf1
  have hr2 := block_below hB2 hr1
  clear hT1 hn1 hf1 hr1  hB2
  obtain ⟨nc0, nc1, nc2, nc3, nc4, nc5, nc6⟩ := cells7' hn2
  obtain ⟨fc0, fc1, fc2, fc3, fc4⟩ := cells5' hf2
  obtain ⟨⟨rc0, rc1, rc2, rc3, rc4, rc5, rc6⟩, rf0, rf1, rf2, rf3, rf4, rf5, rf6⟩ := cells7 hr2
  go_wp2_with fail
  clear nc0 nc1 nc2 nc3 nc4 nc5 nc6 fc0 fc1 fc2 fc3 fc4 rc0 rc1 rc2 rc3 rc4 rc5 rc6 rf0 rf1 rf2 rf3 rf4 rf5 rf6
  exact bodyPost_ret (v := .tuple #[NV.v n, .int .i64 2]) (results_n1 (n := n) (u := .int .i64 2) rfl _ rfl rfl (set7_obj hr2 _ _ _ _ _ _ _)) rfl (⟨n, rfl, h.to (below_g hT2 (set7_grown _ _ _ _ _ _ _ _ _) (by omega)), (below_g hT2 (set7_grown _ _ _ _ _ _ _ _ _) (by omega))⟩)

set_option maxRecDepth 100000 in
set_option maxHeartbeats 4000000 in
theorem send_0 {w : World} {P : Nat → Prop} {n : NV} {N : NC} {f : FV} {F : FC} (h : NIs w P n N) (hf : FIs w P f F) (hok : OkN N) (hP : ∀ b, w.heap.size ≤ b → P b) (hr : rightC F = true) (hs : N.k.s ≠ 3) (hl : N.q.length < 16) :
    Calls Try.prog 18 #[n.v, f.v] w fun e w' => ∃ n' : NV, e = .returned (.tuple #[n'.v, .int .i64 0]) ∧ NIs w' P n' ⟨N.q ++ [F], N.l, N.k, N.g⟩ ∧ Below w.heap.size w w' := by
  have hm := qm_le h hok
  have Hr := Lib.hid hr
  have Hs := Lib.hid (show ¬ n.k.s = 3 by rw [h.k]; exact hs)
  rw [h.q.len] at hl
  have i1 : ¬ (16 : Int) ≤ (n.qm : Int) := by omega
  have Hd := Lib.hid (right_len hr)
  obtain ⟨m, hmm⟩ : ∃ m, n.qm + 1 = m := ⟨_, rfl⟩
  have Hm := Lib.hid hmm
  clear hr hs hmm
  obtain ⟨w0, hw0⟩ : ∃ w0, (((w.alloc (.cells #[.slice n.qa n.qm n.qc, .slice n.la n.lm n.lc, .int .i64 n.k.t, .int .i64 n.k.r, .int .i64 n.k.s, .int .i64 n.k.q, .slice n.ga n.gm n.gc] 27)).alloc (.cells #[.bool f.x, .int .i64 f.i, .bool f.r, .int .i64 f.n, .slice f.a f.m f.c] 30)).alloc (.cells #[.slice none 0 0, .slice none 0 0, .int .i64 0, .int .i64 0, .int .i64 0, .int .i64 0, .slice none 0 0] 27)) = w0 := ⟨_, rfl⟩
  have hT0 : Below w.heap.size w w0 := by rw [← hw0]; exact below_then (below_then (below_alloc1 _ _) (below_alloc1 _ _)) (below_alloc1 _ _)
  have hn0 : w0.heap[w.heap.size]? = some (.cells #[.slice n.qa n.qm n.qc, .slice n.la n.lm n.lc, .int .i64 n.k.t, .int .i64 n.k.r, .int .i64 n.k.s, .int .i64 n.k.q, .slice n.ga n.gm n.gc] 27) := by rw [← hw0]; exact block_below (below_alloc1 _ _) (block_below (below_alloc1 _ _) (World.alloc_heap_new _ _))
  have hf0 : w0.heap[(w.heap.size + 1)]? = some (.cells #[.bool f.x, .int .i64 f.i, .bool f.r, .int .i64 f.n, .slice f.a f.m f.c] 30) := by rw [← hw0]; exact block_below (below_alloc1 _ _) (alloc_at _ _ (by simp))
  have hr0 : w0.heap[(w.heap.size + 2)]? = some (.cells #[.slice none 0 0, .slice none 0 0, .int .i64 0, .int .i64 0, .int .i64 0, .int .i64 0, .slice none 0 0] 27) := by rw [← hw0]; exact alloc_at _ _ (by simp)
  have hs0 : w0.heap.size = w.heap.size + 3 := by rw [← hw0]; simp
  have Hs0 := Lib.hid hs0
  clear hs0
  obtain ⟨nc0, nc1, nc2, nc3, nc4, nc5, nc6⟩ := cells7' hn0
  obtain ⟨fc0, fc1, fc2, fc3, fc4⟩ := cells5' hf0
  obtain ⟨rc0, rc1, rc2, rc3, rc4, rc5, rc6⟩ := cells7' hr0
  go_enter Try.func18, Try.ntmps18
  go_wp2_with fail
  clear nc0 nc1 nc2 nc3 nc4 nc5 nc6 fc0 fc1 fc2 fc3 fc4 rc0 rc1 rc2 rc3 rc4 rc5 rc6
  clear hw0
  have hZ0 := Below.refl w0.heap.size w0
  refine (frRight_c (hf.to hT0) true Hr.out).mono ?_
  rintro e w1 ⟨rfl, hB1⟩
  have hT1 := below_then hT0 hB1
  have hZ1 := below_then hZ0 hB1
  clear hZ0
  have hn1 := block_below hB1 hn0
  have hf1 := block_below hB1 hf0
  have hr1 := block_below hB1 hr0
  clear hT0 hn0 hf0 hr0  hB1
  obtain ⟨nc0, nc1, nc2, nc3, nc4, nc5, nc6⟩ := cells7' hn1
  obtain ⟨fc0, fc1, fc2, fc3, fc4⟩ := cells5' hf1
  obtain ⟨rc0, rc1, rc2, rc3, rc4, rc5, rc6⟩ := cells7' hr1
  go_wp2_with fail
  clear nc0 nc1 nc2 nc3 nc4 nc5 nc6 fc0 fc1 fc2 fc3 fc4 rc0 rc1 rc2 rc3 rc4 rc5 rc6
  refine (isOff_c n false (by simpa using Hs.out) w1).mono ?_
  rintro e w2 ⟨rfl, hB2⟩
  have hT2 := below_then hT1 hB2
  have hZ2 := below_then hZ1 hB2
  clear hZ1
  have hn2 := block_below hB2 hn1
  have hf2 := block_below hB2 hf1
  have hr2 := block_below hB2 hr1
  clear hT1 hn1 hf1 hr1  hB2
  obtain ⟨nc0, nc1, nc2, nc3, nc4, nc5, nc6⟩ := cells7' hn2
  obtain ⟨fc0, fc1, fc2, fc3, fc4⟩ := cells5' hf2
  obtain ⟨rc0, rc1, rc2, rc3, rc4, rc5, rc6⟩ := cells7' hr2
  go_wp2_with fail
  clear nc0 nc1 nc2 nc3 nc4 nc5 nc6 fc0 fc1 fc2 fc3 fc4 rc0 rc1 rc2 rc3 rc4 rc5 rc6
  have hB0k : Below w0.heap.size w0 w2 := hZ2
  have hTd := below_then hT2 (below_drew1 _)
  have hrl := (Array.getElem?_eq_some_iff.1 hr2).1
  obtain ⟨⟨nc0, nc1, nc2, nc3, nc4, nc5, nc6⟩, nf0, nf1, nf2, nf3, nf4, nf5, nf6⟩ := cells7 hn2
  obtain ⟨fc0, fc1, fc2, fc3, fc4⟩ := cells5' hf2
  go_region_with (first
    | (have hq_ := hg_; clear hq_; go_at_call 48; refine (with_c ((h.q.gap (w.heap.size + 3)).to (below_then hTd hB30)) hg_ (fun b hb => hPG b (Nat.le_trans hB30.size hb)) m Hm.out (by have := Hm.out; omega)).mono ?_; rintro e w31 ⟨A2, c2, rfl, hs_, hB31⟩; have hn31 := block_below hB31 hn30; clear nc0 nc1 nc2 nc3 nc4 nc5 nc6 nf0 nf1 nf2 nf3 nf4 nf5 nf6; obtain ⟨⟨nc0, nc1, nc2, nc3, nc4, nc5, nc6⟩, nf0, nf1, nf2, nf3, nf4, nf5, nf6⟩ := cells7 hn31)
    | (go_at_call 49; have hPG : ∀ b, w2.drew.heap.size ≤ b → Gap P w.heap.size (w.heap.size + 3) b := (fun b hb => gap_up hP (by omega) b (by have h1 := Hs0.out; have h2 := hB0k.size; have h3 : w2.heap.size ≤ b := hb; omega)); refine (kept_c ((hf.gap (w.heap.size + 3)).to hTd) hPG (by have := Hd.out; omega)).mono ?_; rintro e w30 ⟨g, rfl, hg_, hB30⟩; have hn30 := block_below hB30 (block_below (below_drew1 _) hn2); clear nc0 nc1 nc2 nc3 nc4 nc5 nc6 nf0 nf1 nf2 nf3 nf4 nf5 nf6 fc0 fc1 fc2 fc3 fc4; obtain ⟨⟨nc0, nc1, nc2, nc3, nc4, nc5, nc6⟩, nf0, nf1, nf2, nf3, nf4, nf5, nf6⟩ := cells7 hn30)
    | fail)
  all_goals
    clear nc0 nc1 nc2 nc3 nc4 nc5 nc6 nf0 nf1 nf2 nf3 nf4 nf5 nf6
    have hT31 := below_then (below_then hTd hB30) hB31
    have hf31 : w31.heap[(w.heap.size + 1)]? = some (.cells #[.bool f.x, .int .i64 f.i, .bool f.r, .int .i64 f.n, .slice f.a f.m f.c] 30) := block_below hB31 (block_below hB30 (block_below (below_drew1 _) hf2))
    have hr31 : w31.heap[(w.heap.size + 1 + 1)]? = some (.cells #[.slice none 0 0, .slice none 0 0, .int .i64 0, .int .i64 0, .int .i64 0, .int .i64 0, .slice none 0 0] 27) := block_below hB31 (block_below hB30 (block_below (below_drew1 _) hr2))
    have hs31 := hs_
    clear hs_ hT2 hn2 hf2 hr2 hB30 hB31 hTd hB0k hPG hrl hg_ hn30
    obtain ⟨w32, hw32⟩ : ∃ w_, w31.setCell ⟨w.heap.size, 0, none⟩ (.slice A2 m c2) = w_ := ⟨_, rfl⟩
    have hG32 : w31.grownBy w32 (some w.heap.size) := by rw [← hw32]; exact grown_setAt _ _ _ _
    have hT32 := below_g hT31 hG32 (by omega)
    have hn32 : w32.heap[w.heap.size]? = some (.cells #[.slice A2 m c2, .slice n.la n.lm n.lc, .int .i64 n.k.t, .int .i64 n.k.r, .int .i64 n.k.s, .int .i64 n.k.q, .slice n.ga n.gm n.gc] 27) := by rw [← hw32]; exact set0_obj7 hn31 _
    have hf32 := other_g hG32 hf31 (by omega)
    have hr32 := other_g hG32 hr31 (by omega)
    have hs32 := FSl.grow hs31 hG32 (gap_not (by omega) (by omega))
    rw [hw32]
    clear hw32 hG32 hT31 hn31 hf31 hr31 hs31
    obtain ⟨nc0, nc1, nc2, nc3, nc4, nc5, nc6⟩ := cells7' hn32
    obtain ⟨fc0, fc1, fc2, fc3, fc4⟩ := cells5' hf32
    obtain ⟨⟨rc0, rc1, rc2, rc3, rc4, rc5, rc6⟩, rf0, rf1, rf2, rf3, rf4, rf5, rf6⟩ := cells7 hr32
    go_wp2_with fail
    exact bodyPost_ret (v := .tuple #[NV.v ⟨A2, m, c2, n.la, n.lm, n.lc, n.k, n.ga, n.gm, n.gc⟩, .int .i64 0]) (results_n1 (n := ⟨A2, m, c2, n.la, n.lm, n.lc, n.k, n.ga, n.gm, n.gc⟩) (u := .int .i64 0) rfl _ rfl rfl (set7_obj hr32 _ _ _ _ _ _ _)) rfl (⟨⟨A2, m, c2, n.la, n.lm, n.lc, n.k, n.ga, n.gm, n.gc⟩, rfl, ⟨(hs32.grow (set7_grown _ _ _ _ _ _ _ _ _) (gap_not (by omega) (by omega))).ungap, h.l.to (below_g hT32 (set7_grown _ _ _ _ _ _ _ _ _) (by omega)), h.k, h.g.to (below_g hT32 (set7_grown _ _ _ _ _ _ _ _ _) (by omega))⟩, (below_g hT32 (set7_grown _ _ _ _ _ _ _ _ _) (by omega))⟩)

theorem send_c {w : World} {P : Nat → Prop} {n : NV} {N : NC} {f : FV} {F : FC} (h : NIs w P n N) (hf : FIs w P f F) (hok : OkN N) (hP : ∀ b, w.heap.size ≤ b → P b) (er : Int) (her : sendE N F = er) (M : NC) (hM : sendN N F = M) :
    Calls Try.prog 18 #[n.v, f.v] w fun e w' => ∃ n' : NV, e = .returned (.tuple #[n'.v, .int .i64 er]) ∧ NIs w' P n' M ∧ Below w.heap.size w w' := by
  subst her hM
  by_cases hr : rightC F = true
  · by_cases hs : N.k.s = 3
    · have e1 : sendE N F = 3 := by unfold sendE; rw [if_pos hr, if_pos hs]
      have e2 : sendN N F = N := by unfold sendN; rw [e1]; rfl
      rw [e1, e2]; exact send_3 h hf hok hP hr hs
    · by_cases hl : 16 ≤ N.q.length
      · have e1 : sendE N F = 2 := by unfold sendE; rw [if_pos hr, if_neg hs, if_pos hl]
        have e2 : sendN N F = N := by unfold sendN; rw [e1]; rfl
        rw [e1, e2]; exact send_2 h hf hok hP hr hs hl
      · have e1 : sendE N F = 0 := by unfold sendE; rw [if_pos hr, if_neg hs, if_neg hl]
        have e2 : sendN N F = ⟨N.q ++ [F], N.l, N.k, N.g⟩ := by unfold sendN; rw [e1]; rfl
        rw [e1, e2]; exact send_0 h hf hok hP hr hs (by omega)
  · have e1 : sendE N F = 90 := by unfold sendE; rw [if_neg hr]
    have e2 : sendN N F = N := by unfold sendN; rw [e1]; rfl
    rw [e1, e2]; exact send_90 h hf hok hP (by simpa using hr)


end Go.Proofs.Ytlbgilbigcnleaa
