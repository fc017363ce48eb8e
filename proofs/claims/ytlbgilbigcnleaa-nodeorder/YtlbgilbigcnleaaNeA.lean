/-
  Next: the document.
-/
import Derived.Test.YtlbgilbigcnleaaNdZ
import Derived.Test.YtlbgilbigcnleaaNdT
namespace Go.Proofs.Ytlbgilbigcnleaa
open Go.RowKit
set_option linter.unusedVariables false
set_option linter.unusedSimpArgs false

set_option maxRecDepth 100000 in
set_option maxHeartbeats 1000000 in
theorem refNext_c {w : World} {P : Nat → Prop} {n : NV} {N : NC} (h : NIs w P n N) (hok : OkN N) (q : Bool) (hq : hasN N = q) (F : FC) (hF : nextF N = F) :
    Calls Try.prog 21 #[n.v] w fun e w' => ∃ f : FV, e = .returned (.tuple #[f.v, .bool q]) ∧ FIs w' P f F ∧ Below w.heap.size w w' := by
  have hm := qm_le h hok
  have Hok := Lib.hid hok
  cases q
  · skip
    obtain rfl : zeroF = F := by rw [← hF]; unfold nextF; rw [hq]; rfl
    have Hq := Lib.hid hq
    clear hq hF hok
    obtain ⟨w0, hw0⟩ : ∃ w0, ((w.alloc (.cells #[.slice n.qa n.qm n.qc, .slice n.la n.lm n.lc, .int .i64 n.k.t, .int .i64 n.k.r, .int .i64 n.k.s, .int .i64 n.k.q, .slice n.ga n.gm n.gc] 27)).alloc (.cells #[.bool false, .int .i64 0, .bool false, .int .i64 0, .slice none 0 0] 30)) = w0 := ⟨_, rfl⟩
    have hT0 : Below w.heap.size w w0 := by rw [← hw0]; exact below_then (below_alloc1 _ _) (below_alloc1 _ _)
    have hn0 : w0.heap[w.heap.size]? = some (.cells #[.slice n.qa n.qm n.qc, .slice n.la n.lm n.lc, .int .i64 n.k.t, .int .i64 n.k.r, .int .i64 n.k.s, .int .i64 n.k.q, .slice n.ga n.gm n.gc] 27) := by rw [← hw0]; exact block_below (below_alloc1 _ _) (World.alloc_heap_new _ _)
    have hr0 : w0.heap[(w.heap.size + 1)]? = some (.cells #[.bool false, .int .i64 0, .bool false, .int .i64 0, .slice none 0 0] 30) := by rw [← hw0]; exact alloc_at _ _ (by simp)
    have hs0 : w0.heap.size = w.heap.size + 2 := by rw [← hw0]; simp
    have Hs0 := Lib.hid hs0
    clear hs0
    obtain ⟨nc0, nc1, nc2, nc3, nc4, nc5, nc6⟩ := cells7' hn0
    obtain ⟨rc0, rc1, rc2, rc3, rc4⟩ := cells5' hr0
    go_enter Try.func21, Try.ntmps21
    go_wp2_with fail
    clear nc0 nc1 nc2 nc3 nc4 nc5 nc6 rc0 rc1 rc2 rc3 rc4
    clear hw0
    have hZ0 := Below.refl w0.heap.size w0
    refine (place_c (h.to hT0) Hok.out.okq (by omega) (-1) (by rw [Hq.out]; rfl)).mono ?_
    rintro e w1 ⟨rfl, hB1⟩
    have hT1 := below_then hT0 hB1
    have hZ1 := below_then hZ0 hB1
    clear hZ0
    have hn1 := block_below hB1 hn0
    have hr1 := block_below hB1 hr0
    clear hT0 hn0 hr0  hB1
    obtain ⟨nc0, nc1, nc2, nc3, nc4, nc5, nc6⟩ := cells7' hn1
    obtain ⟨⟨rc0, rc1, rc2, rc3, rc4⟩, rf0, rf1, rf2, rf3, rf4⟩ := cells5 hr1
    go_wp2_with fail
    clear nc0 nc1 nc2 nc3 nc4 nc5 nc6 rc0 rc1 rc2 rc3 rc4 rf0 rf1 rf2 rf3 rf4
    exact bodyPost_ret (v := .tuple #[FV.v zeroFV, .bool false]) (results_f1 (f := zeroFV) (u := .bool false) rfl _ rfl rfl (set5_obj hr1 _ _ _ _ _)) rfl (⟨zeroFV, rfl, fis_zero, (below_g hT1 (set5_grown _ _ _ _ _ _ _) (by omega))⟩)
  obtain ⟨hlt, hat⟩ := nextF_mem hq
  rw [hF] at hat
  obtain ⟨k, hk⟩ : ∃ k, atN N = k := ⟨_, rfl⟩
  rw [hk] at hlt hat
  rw [h.q.len] at hlt
  have Hk := Lib.hid (show (if hasN N then (atN N : Int) else -1) = (k : Int) by rw [hq, hk]; rfl)
  have Hq := Lib.hid hq
  clear hk hq hF hok
  obtain ⟨qa, qm, qc, la, lm, lc, kk, ga, gm, gc⟩ := n
  dsimp only at hlt hm
  obtain ⟨ad, f, F0, hqa, hF0, ha, hf⟩ := h.q.at_ hlt
  dsimp only at hqa
  subst hqa
  obtain rfl : F = F0 := Option.some.inj (hat.symm.trans hF0)
  clear hat hF0
  obtain ⟨w0, hw0⟩ : ∃ w0, ((w.alloc (.cells #[.slice (some ad) qm qc, .slice la lm lc, .int .i64 kk.t, .int .i64 kk.r, .int .i64 kk.s, .int .i64 kk.q, .slice ga gm gc] 27)).alloc (.cells #[.bool false, .int .i64 0, .bool false, .int .i64 0, .slice none 0 0] 30)) = w0 := ⟨_, rfl⟩
  have hT0 : Below w.heap.size w w0 := by rw [← hw0]; exact below_then (below_alloc1 _ _) (below_alloc1 _ _)
  have hn0 : w0.heap[w.heap.size]? = some (.cells #[.slice (some ad) qm qc, .slice la lm lc, .int .i64 kk.t, .int .i64 kk.r, .int .i64 kk.s, .int .i64 kk.q, .slice ga gm gc] 27) := by rw [← hw0]; exact block_below (below_alloc1 _ _) (World.alloc_heap_new _ _)
  have hr0 : w0.heap[(w.heap.size + 1)]? = some (.cells #[.bool false, .int .i64 0, .bool false, .int .i64 0, .slice none 0 0] 30) := by rw [← hw0]; exact alloc_at _ _ (by simp)
  have hs0 : w0.heap.size = w.heap.size + 2 := by rw [← hw0]; simp
  have Hs0 := Lib.hid hs0
  clear hs0
  obtain ⟨nc0, nc1, nc2, nc3, nc4, nc5, nc6⟩ := cells7' hn0
  obtain ⟨rc0, rc1, rc2, rc3, rc4⟩ := cells5' hr0
  go_enter Try.func21, Try.ntmps21
  go_wp2_with fail
  clear nc0 nc1 nc2 nc3 nc4 nc5 nc6 rc0 rc1 rc2 rc3 rc4
  clear hw0
  have hZ0 := Below.refl w0.heap.size w0
  refine (place_c (n := ⟨some ad, qm, qc, la, lm, lc, kk, ga, gm, gc⟩) (h.to hT0) Hok.out.okq (by show qm ≤ 1000; omega) k Hk.out).mono ?_
  rintro e w1 ⟨rfl, hB1⟩
  have hT1 := below_then hT0 hB1
  have hZ1 := below_then hZ0 hB1
  clear hZ0
  have hn1 := block_below hB1 hn0
  have hr1 := block_below hB1 hr0
  clear hT0 hn0 hr0  hB1
  obtain ⟨a0, a1, a2, a3, a4⟩ := fat_to ha hT1
  have i1 : (k : Int) < (qm : Int) := by omega
  have i2 : ¬ (k : Int) < 0 := by omega
  have i3 : decide ((k : Int) < 0) = false := by simp
  obtain ⟨nc0, nc1, nc2, nc3, nc4, nc5, nc6⟩ := cells7' hn1
  obtain ⟨⟨rc0, rc1, rc2, rc3, rc4⟩, rf0, rf1, rf2, rf3, rf4⟩ := cells5 hr1
  go_wp2_with fail
  clear nc0 nc1 nc2 nc3 nc4 nc5 nc6 rc0 rc1 rc2 rc3 rc4 rf0 rf1 rf2 rf3 rf4
  exact bodyPost_ret (v := .tuple #[FV.v f, .bool true]) (results_f1 (f := f) (u := .bool true) rfl _ rfl rfl (set5_obj hr1 _ _ _ _ _)) rfl (⟨f, rfl, hf.to (below_g hT1 (set5_grown _ _ _ _ _ _ _) (by omega)), (below_g hT1 (set5_grown _ _ _ _ _ _ _) (by omega))⟩)

set_option maxRecDepth 100000 in
set_option maxHeartbeats 1000000 in
theorem refSend_90 {w : World} {P : Nat → Prop} {n : NV} {N : NC} {f : FV} {F : FC} (h : NIs w P n N) (hf : FIs w P f F) (hok : OkN N) (hP : ∀ b, w.heap.size ≤ b → P b) (hr : rightC F = false) :
    Calls Try.prog 19 #[n.v, f.v] w fun e w' => ∃ n' : NV, e = .returned (.tuple #[n'.v, .int .i64 90]) ∧ NIs w' P n' N ∧ Below w.heap.size w w' := by
  have hm := qm_le h hok
  have Hr := Lib.hid hr
  clear hr
  obtain ⟨w0, hw0⟩ : ∃ w0, (((w.alloc (.cells #[.slice n.qa n.qm n.qc, .slice n.la n.lm n.lc, .int .i64 n.k.t, .int .i64 n.k.r, .int .i64 n.k.s, .int .i64 n.k.q, .slice n.ga n.gm n.gc] 27)).alloc (.cells #[.bool f.x, .int .i64 f.i, .bool f.r, .int .i64 f.n, .slice f.a f.m f.c] 30)).alloc (.cells #[.slice none 0 0, .slice none 0 0, .int .i64 0, .int .i64 0, .int .i64 0, .int .i64 0, .slice none 0 0] 27)) = w0 := ⟨_, rfl⟩
  have hT0 : Below w.heap.size w w0 := by rw [← hw0]; exact below_then (below_then (below_alloc1 _ _) (below_alloc1 _ _)) (below_alloc1 _ _)
  have hn0 : w0.heap[w.heap.size]? = some (.cells #[.slice n.qa n.qm n.qc, .slice n.la n.lm n.lc, .int .i64 n.k.t, .int .i64 n.k.r, .int .i64 n.k.s, .int .i64 n.k.q, .slice n.ga n.gm n.gc] 27) := by rw [← hw0]; exact block_below (below_alloc1 _ _) (block_below (below_alloc1 _ _) (World.alloc_heap_new _ _))
  have hf0 : w0.heap[(w.heap.size + 1)]? = some (.cells #[.bool f.x, .int .i64 f.i, .bool f.r, .int .i64 f.n, .slice f.a f.m f.c] 30) := by rw [← hw0]; exact block_below (below_alloc1 _ _) (alloc_at _ _ (by simp))
  have hr0 : w0.heap[(w.heap.size + 2)]? = some (.cells #[.slice none 0 0, .slice none 0 0, .int .i64 0, .int .i64 0, .int .i64 0, .int .i64 0, .slice none 0 0] 27) := by rw [← hw0]; exact alloc_at _ _ (by simp)
  have hs0 : w0.heap.size = w.heap.size + 3 := by rw [← hw0]; simp
  have Hs0 := Lib.hid hs0
  clear hs0
  obtain ⟨nc0, nc1, nc2, nc3, nc4, nc5, nc6⟩ := cells7' hn0
  obtain ⟨fc0, fc1, fc2, fc3, fc4⟩ := cells5' hf0
  obtain ⟨rc0, rc1, rc2, rc3, rc4, rc5, rc6⟩ := cells7' hr0
  go_enter Try.func19, Try.ntmps19
  go_wp2_with fail
  clear nc0 nc1 nc2 nc3 nc4 nc5 nc6 fc0 fc1 fc2 fc3 fc4 rc0 rc1 rc2 rc3 rc4 rc5 rc6
  clear hw0
  have hZ0 := Below.refl w0.heap.size w0
  refine (refFrRight_c (hf.to hT0) false Hr.out).mono ?_
  rintro e w1 ⟨rfl, hB1⟩
  have hT1 := below_then hT0 hB1
  have hZ1 := below_then hZ0 hB1
  clear hZ0
  have hn1 := block_below hB1 hn0
  have hf1 := block_below hB1 hf0
  have hr1 := block_below hB1 hr0
  clear hT0 hn0 hf0 hr0  hB1
  obtain ⟨nc0, nc1, nc2, nc3, nc4, nc5, nc6⟩ := cells7' hn1
  obtain ⟨fc0, fc1, fc2, fc3, fc4⟩ := cells5' hf1
  obtain ⟨⟨rc0, rc1, rc2, rc3, rc4, rc5, rc6⟩, rf0, rf1, rf2, rf3, rf4, rf5, rf6⟩ := cells7 hr1
  go_wp2_with fail
  clear nc0 nc1 nc2 nc3 nc4 nc5 nc6 fc0 fc1 fc2 fc3 fc4 rc0 rc1 rc2 rc3 rc4 rc5 rc6 rf0 rf1 rf2 rf3 rf4 rf5 rf6
  exact bodyPost_ret (v := .tuple #[NV.v n, .int .i64 90]) (results_n1 (n := n) (u := .int .i64 90) rfl _ rfl rfl (set7_obj hr1 _ _ _ _ _ _ _)) rfl (⟨n, rfl, h.to (below_g hT1 (set7_grown _ _ _ _ _ _ _ _ _) (by omega)), (below_g hT1 (set7_grown _ _ _ _ _ _ _ _ _) (by omega))⟩)

set_option maxRecDepth 100000 in
set_option maxHeartbeats 1000000 in
theorem refSend_3 {w : World} {P : Nat → Prop} {n : NV} {N : NC} {f : FV} {F : FC} (h : NIs w P n N) (hf : FIs w P f F) (hok : OkN N) (hP : ∀ b, w.heap.size ≤ b → P b) (hr : rightC F = true) (hs : N.k.s = 3) :
    Calls Try.prog 19 #[n.v, f.v] w fun e w' => ∃ n' : NV, e = .returned (.tuple #[n'.v, .int .i64 3]) ∧ NIs w' P n' N ∧ Below w.heap.size w w' := by
  have hm := qm_le h hok
  have Hr := Lib.hid hr
  have hs3 : (n.k.s == 3) = true := by rw [h.k]; simpa using hs
  clear hr hs
  obtain ⟨w0, hw0⟩ : ∃ w0, (((w.alloc (.cells #[.slice n.qa n.qm n.qc, .slice n.la n.lm n.lc, .int .i64 n.k.t, .int .i64 n.k.r, .int .i64 n.k.s, .int .i64 n.k.q, .slice n.ga n.gm n.gc] 27)).alloc (.cells #[.bool f.x, .int .i64 f.i, .bool f.r, .int .i64 f.n, .slice f.a f.m f.c] 30)).alloc (.cells #[.slice none 0 0, .slice none 0 0, .int .i64 0, .int .i64 0, .int .i64 0, .int .i64 0, .slice none 0 0] 27)) = w0 := ⟨_, rfl⟩
  have hT0 : Below w.heap.size w w0 := by rw [← hw0]; exact below_then (below_then (below_alloc1 _ _) (below_alloc1 _ _)) (below_alloc1 _ _)
  have hn0 : w0.heap[w.heap.size]? = some (.cells #[.slice n.qa n.qm n.qc, .slice n.la n.lm n.lc, .int .i64 n.k.t, .int .i64 n.k.r, .int .i64 n.k.s, .int .i64 n.k.q, .slice n.ga n.gm n.gc] 27) := by rw [← hw0]; exact block_below (below_alloc1 _ _) (block_below (below_alloc1 _ _) (World.alloc_heap_new _ _))
  have hf0 : w0.heap[(w.heap.size + 1)]? = some (.cells #[.bool f.x, .int .i64 f.i, .bool f.r, .int .i64 f.n, .slice f.a f.m f.c] 30) := by rw [← hw0]; exact block_below (below_alloc1 _ _) (alloc_at _ _ (by simp))
  have hr0 : w0.heap[(w.heap.size + 2)]? = some (.cells #[.slice none 0 0, .slice none 0 0, .int .i64 0, .int .i64 0, .int .i64 0, .int .i64 0, .slice none 0 0] 27) := by rw [← hw0]; exact alloc_at _ _ (by simp)
  have hs0 : w0.heap.size = w.heap.size + 3 := by rw [← hw0]; simp
  have Hs0 := Lib.hid hs0
  clear hs0
  obtain ⟨nc0, nc1, nc2, nc3, nc4, nc5, nc6⟩ := cells7' hn0
  obtain ⟨fc0, fc1, fc2, fc3, fc4⟩ := cells5' hf0
  obtain ⟨rc0, rc1, rc2, rc3, rc4, rc5, rc6⟩ := cells7' hr0
  go_enter Try.func19, Try.ntmps19
  go_wp2_with fail
  clear nc0 nc1 nc2 nc3 nc4 nc5 nc6 fc0 fc1 fc2 fc3 fc4 rc0 rc1 rc2 rc3 rc4 rc5 rc6
  clear hw0
  have hZ0 := Below.refl w0.heap.size w0
  refine (refFrRight_c (hf.to hT0) true Hr.out).mono ?_
  rintro e w1 ⟨rfl, hB1⟩
  have hT1 := below_then hT0 hB1
  have hZ1 := below_then hZ0 hB1
  clear hZ0
  have hn1 := block_below hB1 hn0
  have hf1 := block_below hB1 hf0
  have hr1 := block_below hB1 hr0
  clear hT0 hn0 hf0 hr0  hB1
  obtain ⟨nc0, nc1, nc2, nc3, nc4, nc5, nc6⟩ := cells7' hn1
  obtain ⟨fc0, fc1, fc2, fc3, fc4⟩ := cells5' hf1
  obtain ⟨⟨rc0, rc1, rc2, rc3, rc4, rc5, rc6⟩, rf0, rf1, rf2, rf3, rf4, rf5, rf6⟩ := cells7 hr1
  go_wp2_with fail
  clear nc0 nc1 nc2 nc3 nc4 nc5 nc6 fc0 fc1 fc2 fc3 fc4 rc0 rc1 rc2 rc3 rc4 rc5 rc6 rf0 rf1 rf2 rf3 rf4 rf5 rf6
  exact bodyPost_ret (v := .tuple #[NV.v n, .int .i64 3]) (results_n1 (n := n) (u := .int .i64 3) rfl _ rfl rfl (set7_obj hr1 _ _ _ _ _ _ _)) rfl (⟨n, rfl, h.to (below_g hT1 (set7_grown _ _ _ _ _ _ _ _ _) (by omega)), (below_g hT1 (set7_grown _ _ _ _ _ _ _ _ _) (by omega))⟩)

set_option maxRecDepth 100000 in
set_option maxHeartbeats 1000000 in
theorem refSend_2 {w : World} {P : Nat → Prop} {n : NV} {N : NC} {f : FV} {F : FC} (h : NIs w P n N) (hf : FIs w P f F) (hok : OkN N) (hP : ∀ b, w.heap.size ≤ b → P b) (hr : rightC F = true) (hs : N.k.s ≠ 3) (hl : 16 ≤ N.q.length) :
    Calls Try.prog 19 #[n.v, f.v] w fun e w' => ∃ n' : NV, e = .returned (.tuple #[n'.v, .int .i64 2]) ∧ NIs w' P n' N ∧ Below w.heap.size w w' := by
  have hm := qm_le h hok
  have Hr := Lib.hid hr
  have hs3 : (n.k.s == 3) = false := by rw [h.k]; simpa using hs
  rw [h.q.len] at hl
  have i1 : (16 : Int) ≤ (n.qm : Int) := by omega
  clear hr hs
  obtain ⟨w0, hw0⟩ : ∃ w0, (((w.alloc (.cells #[.slice n.qa n.qm n.qc, .slice n.la n.lm n.lc, .int .i64 n.k.t, .int .i64 n.k.r, .int .i64 n.k.s, .int .i64 n.k.q, .slice n.ga n.gm n.gc] 27)).alloc (.cells #[.bool f.x, .int .i64 f.i, .bool f.r, .int .i64 f.n, .slice f.a f.m f.c] 30)).alloc (.cells #[.slice none 0 0, .slice none 0 0, .int .i64 0, .int .i64 0, .int .i64 0, .int .i64 0, .slice none 0 0] 27)) = w0 := ⟨_, rfl⟩
  have hT0 : Below w.heap.size w w0 := by rw [← hw0]; exact below_then (below_then (below_alloc1 _ _) (below_alloc1 _ _)) (below_alloc1 _ _)
  have hn0 : w0.heap[w.heap.size]? = some (.cells #[.slice n.qa n.qm n.qc, .slice n.la n.lm n.lc, .int .i64 n.k.t, .int .i64 n.k.r, .int .i64 n.k.s, .int .i64 n.k.q, .slice n.ga n.gm n.gc] 27) := by rw [← hw0]; exact block_below (below_alloc1 _ _) (block_below (below_alloc1 _ _) (World.alloc_heap_new _ _))
  have hf0 : w0.heap[(w.heap.size + 1)]? = some (.cells #[.bool f.x, .int .i64 f.i, .bool f.r, .int .i64 f.n, .slice f.a f.m f.c] 30) := by rw [← hw0]; exact block_below (below_alloc1 _ _) (alloc_at _ _ (by simp))
  have hr0 : w0.heap[(w.heap.size + 2)]? = some (.cells #[.slice none 0 0, .slice none 0 0, .int .i64 0, .int .i64 0, .int .i64 0, .int .i64 0, .slice none 0 0] 27) := by rw [← hw0]; exact alloc_at _ _ (by simp)
  have hs0 : w0.heap.size = w.heap.size + 3 := by rw [← hw0]; simp
  have Hs0 := Lib.hid hs0
  clear hs0
  obtain ⟨nc0, nc1, nc2, nc3, nc4, nc5, nc6⟩ := cells7' hn0
  obtain ⟨fc0, fc1, fc2, fc3, fc4⟩ := cells5' hf0
  obtain ⟨rc0, rc1, rc2, rc3, rc4, rc5, rc6⟩ := cells7' hr0
  go_enter Try.func19, Try.ntmps19
  go_wp2_with fail
  clear nc0 nc1 nc2 nc3 nc4 nc5 nc6 fc0 fc1 fc2 fc3 fc4 rc0 rc1 rc2 rc3 rc4 rc5 rc6
  clear hw0
  have hZ0 := Below.refl w0.heap.size w0
  refine (refFrRight_c (hf.to hT0) true Hr.out).mono ?_
  rintro e w1 ⟨rfl, hB1⟩
  have hT1 := below_then hT0 hB1
  have hZ1 := below_then hZ0 hB1
  clear hZ0
  have hn1 := block_below hB1 hn0
  have hf1 := block_below hB1 hf0
  have hr1 := block_below hB1 hr0
  clear hT0 hn0 hf0 hr0  hB1
  obtain ⟨nc0, nc1, nc2, nc3, nc4, nc5, nc6⟩ := cells7' hn1
  obtain ⟨fc0, fc1, fc2, fc3, fc4⟩ := cells5' hf1
  obtain ⟨⟨rc0, rc1, rc2, rc3, rc4, rc5, rc6⟩, rf0, rf1, rf2, rf3, rf4, rf5, rf6⟩ := cells7 hr1
  go_wp2_with fail
  clear nc0 nc1 nc2 nc3 nc4 nc5 nc6 fc0 fc1 fc2 fc3 fc4 rc0 rc1 rc2 rc3 rc4 rc5 rc6 rf0 rf1 rf2 rf3 rf4 rf5 rf6
  exact bodyPost_ret (v := .tuple #[NV.v n, .int .i64 2]) (results_n1 (n := n) (u := .int .i64 2) rfl _ rfl rfl (set7_obj hr1 _ _ _ _ _ _ _)) rfl (⟨n, rfl, h.to (below_g hT1 (set7_grown _ _ _ _ _ _ _ _ _) (by omega)), (below_g hT1 (set7_grown _ _ _ _ _ _ _ _ _) (by omega))⟩)

end Go.Proofs.Ytlbgilbigcnleaa
