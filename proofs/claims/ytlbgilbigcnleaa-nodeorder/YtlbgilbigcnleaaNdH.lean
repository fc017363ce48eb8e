/-
  Heard: the program.
-/
import Derived.Test.YtlbgilbigcnleaaNdT
namespace Go.Proofs.Ytlbgilbigcnleaa
open Go.RowKit
set_option linter.unusedVariables false
set_option linter.unusedSimpArgs false

set_option maxRecDepth 100000 in
set_option maxHeartbeats 4000000 in
theorem heard_c {w : World} {P : Nat → Prop} {n : NV} {N : NC} {f : FV} {F : FC} (h : NIs w P n N) (hf : FIs w P f F) (hok : OkN N) (hr : rightC F = true) (hP : ∀ b, w.heap.size ≤ b → P b) (ok long : Bool) (M : NC) (hM : heardN N F ok long = M) :
    Calls Try.prog 30 #[n.v, f.v, .bool ok, .bool long] w fun e w' => ∃ n' : NV, e = .returned n'.v ∧ NIs w' P n' M ∧ Below w.heap.size w w' := by
  have hm := gm_le h hok
  have hlm := lm_le h hok
  have hkk := okC_of_nis h hok
  have Hok := Lib.hid hok
  have Hd := Lib.hid (right_len hr)
  unfold heardN at hM
  clear hr hok
  by_cases hs : n.k.s = 3
  · skip
    rw [if_pos (by rw [← h.k]; exact hs)] at hM
    obtain rfl : N = M := hM
    have Hs := Lib.hid hs
    clear hs
    obtain ⟨w0, hw0⟩ : ∃ w0, (((w.alloc (.cells #[.slice n.qa n.qm n.qc, .slice n.la n.lm n.lc, .int .i64 n.k.t, .int .i64 n.k.r, .int .i64 n.k.s, .int .i64 n.k.q, .slice n.ga n.gm n.gc] 27)).alloc (.cells #[.bool f.x, .int .i64 f.i, .bool f.r, .int .i64 f.n, .slice f.a f.m f.c] 30)).alloc (.cells #[.slice none 0 0, .slice none 0 0, .int .i64 0, .int .i64 0, .int .i64 0, .int .i64 0, .slice none 0 0] 27)) = w0 := ⟨_, rfl⟩
    have hT0 : Below w.heap.size w w0 := by rw [← hw0]; exact below_then (below_then (below_alloc1 _ _) (below_alloc1 _ _)) (below_alloc1 _ _)
    have hn0 : w0.heap[w.heap.size]? = some (.cells #[.slice n.qa n.qm n.qc, .slice n.la n.lm n.lc, .int .i64 n.k.t, .int .i64 n.k.r, .int .i64 n.k.s, .int .i64 n.k.q, .slice n.ga n.gm n.gc] 27) := by rw [← hw0]; exact block_below (below_alloc1 _ _) (block_below (below_alloc1 _ _) (World.alloc_heap_new _ _))
    have hf0 : w0.heap[(w.heap.size + 1)]? = some (.cells #[.bool f.x, .int .i64 f.i, .bool f.r, .int .i64 f.n, .slice f.a f.m f.c] 30) := by rw [← hw0]; exact block_below (below_alloc1 _ _) (alloc_at _ _ (by simp))
    have hr0 : w0.heap[(w.heap.size + 2)]? = some (.cells #[.slice none 0 0, .slice none 0 0, .int .i64 0, .int .i64 0, .int .i64 0, .int .i64 0, .slice none 0 0] 27) := by rw [← hw0]; exact alloc_at _ _ (by simp)
    have hs0 : w0.heap.size = w.heap.size + 3 := by rw [← hw0]; simp
    have Hs0 := Lib.hid hs0
    clear hs0
    obtain ⟨nc0, nc1, nc2, nc3, nc4, nc5, nc6⟩ := cells7' hn0
    obtain ⟨fc0, fc1, fc2, fc3, fc4⟩ := cells5' hf0
    obtain ⟨rc0, rc1, rc2, rc3, rc4, rc5, rc6⟩ := cells7' hr0
    go_enter Try.func30, Try.ntmps30
    go_wp2_with fail
    clear nc0 nc1 nc2 nc3 nc4 nc5 nc6 fc0 fc1 fc2 fc3 fc4 rc0 rc1 rc2 rc3 rc4 rc5 rc6
    clear hw0
    have hZ0 := Below.refl w0.heap.size w0
    refine (isOff_c n true (by simpa using Hs.out) w0).mono ?_
    rintro e w1 ⟨rfl, hB1⟩
    have hT1 := below_then hT0 hB1
    have hZ1 := below_then hZ0 hB1
    clear hZ0
    have hn1 := block_below hB1 hn0
    have hf1 := block_below hB1 hf0
    have hr1 := block_below hB1 hr0
    clear hT0 hn0 hf0 hr0  hB1
    obtain ⟨nc0, nc1, nc2, nc3, nc4, nc5, nc6⟩ := cells7' hn1
    obtain ⟨fc0, fc1, fc2, fc3, fc4⟩ := cells5' hf1
    obtain ⟨⟨rc0, rc1, rc2, rc3, rc4, rc5, rc6⟩, rf0, rf1, rf2, rf3, rf4, rf5, rf6⟩ := cells7 hr1
    go_wp2_with fail
    clear nc0 nc1 nc2 nc3 nc4 nc5 nc6 fc0 fc1 fc2 fc3 fc4 rc0 rc1 rc2 rc3 rc4 rc5 rc6 rf0 rf1 rf2 rf3 rf4 rf5 rf6
    exact bodyPost_ret (v := NV.v n) (results_n (n := n) rfl _ rfl (set7_obj hr1 _ _ _ _ _ _ _)) rfl (⟨n, rfl, h.to (below_g hT1 (set7_grown _ _ _ _ _ _ _ _ _) (by omega)), (below_g hT1 (set7_grown _ _ _ _ _ _ _ _ _) (by omega))⟩)
  rw [if_neg (by rw [← h.k]; exact hs)] at hM
  have Hs := Lib.hid hs
  clear hs
  cases ok
  · skip
    cases long
    · skip
      obtain ⟨d, hd⟩ : ∃ d, stepV n.k 4 = d := ⟨_, rfl⟩
      have Hd2 := Lib.hid hd
      obtain rfl : (⟨N.q, N.l, d, N.g⟩ : NC) = M := by rw [← hM, ← hd, h.k]; rfl
      clear hd hM
      obtain ⟨w0, hw0⟩ : ∃ w0, (((w.alloc (.cells #[.slice n.qa n.qm n.qc, .slice n.la n.lm n.lc, .int .i64 n.k.t, .int .i64 n.k.r, .int .i64 n.k.s, .int .i64 n.k.q, .slice n.ga n.gm n.gc] 27)).alloc (.cells #[.bool f.x, .int .i64 f.i, .bool f.r, .int .i64 f.n, .slice f.a f.m f.c] 30)).alloc (.cells #[.slice none 0 0, .slice none 0 0, .int .i64 0, .int .i64 0, .int .i64 0, .int .i64 0, .slice none 0 0] 27)) = w0 := ⟨_, rfl⟩
      have hT0 : Below w.heap.size w w0 := by rw [← hw0]; exact below_then (below_then (below_alloc1 _ _) (below_alloc1 _ _)) (below_alloc1 _ _)
      have hn0 : w0.heap[w.heap.size]? = some (.cells #[.slice n.qa n.qm n.qc, .slice n.la n.lm n.lc, .int .i64 n.k.t, .int .i64 n.k.r, .int .i64 n.k.s, .int .i64 n.k.q, .slice n.ga n.gm n.gc] 27) := by rw [← hw0]; exact block_below (below_alloc1 _ _) (block_below (below_alloc1 _ _) (World.alloc_heap_new _ _))
      have hf0 : w0.heap[(w.heap.size + 1)]? = some (.cells #[.bool f.x, .int .i64 f.i, .bool f.r, .int .i64 f.n, .slice f.a f.m f.c] 30) := by rw [← hw0]; exact block_below (below_alloc1 _ _) (alloc_at _ _ (by simp))
      have hr0 : w0.heap[(w.heap.size + 2)]? = some (.cells #[.slice none 0 0, .slice none 0 0, .int .i64 0, .int .i64 0, .int .i64 0, .int .i64 0, .slice none 0 0] 27) := by rw [← hw0]; exact alloc_at _ _ (by simp)
      have hs0 : w0.heap.size = w.heap.size + 3 := by rw [← hw0]; simp
      have Hs0 := Lib.hid hs0
      clear hs0
      obtain ⟨nc0, nc1, nc2, nc3, nc4, nc5, nc6⟩ := cells7' hn0
      obtain ⟨fc0, fc1, fc2, fc3, fc4⟩ := cells5' hf0
      obtain ⟨rc0, rc1, rc2, rc3, rc4, rc5, rc6⟩ := cells7' hr0
      go_enter Try.func30, Try.ntmps30
      go_wp2_with fail
      clear nc0 nc1 nc2 nc3 nc4 nc5 nc6 fc0 fc1 fc2 fc3 fc4 rc0 rc1 rc2 rc3 rc4 rc5 rc6
      clear hw0
      have hZ0 := Below.refl w0.heap.size w0
      refine (isOff_c n false (by simpa using Hs.out) w0).mono ?_
      rintro e w1 ⟨rfl, hB1⟩
      have hT1 := below_then hT0 hB1
      have hZ1 := below_then hZ0 hB1
      clear hZ0
      have hn1 := block_below hB1 hn0
      have hf1 := block_below hB1 hf0
      have hr1 := block_below hB1 hr0
      clear hT0 hn0 hf0 hr0  hB1
      obtain ⟨nc0, nc1, nc2, nc3, nc4, nc5, nc6⟩ := cells7' hn1
      obtain ⟨fc0, fc1, fc2, fc3, fc4⟩ := cells5' hf1
      obtain ⟨rc0, rc1, rc2, rc3, rc4, rc5, rc6⟩ := cells7' hr1
      go_wp2_with fail
      clear nc0 nc1 nc2 nc3 nc4 nc5 nc6 fc0 fc1 fc2 fc3 fc4 rc0 rc1 rc2 rc3 rc4 rc5 rc6
      refine (counted_c n d 4 Hd2.out hkk w1).mono ?_
      rintro e w2 ⟨rfl, hB2⟩
      have hT2 := below_then hT1 hB2
      have hZ2 := below_then hZ1 hB2
      clear hZ1
      have hn2 := block_below hB2 hn1
      have hf2 := block_below hB2 hf1
      have hr2 := block_below hB2 hr1
      clear hT1 hn1 hf1 hr1  hB2
      obtain ⟨nc0, nc1, nc2, nc3, nc4, nc5, nc6⟩ := cells7' hn2
      obtain ⟨fc0, fc1, fc2, fc3, fc4⟩ := cells5' hf2
      obtain ⟨⟨rc0, rc1, rc2, rc3, rc4, rc5, rc6⟩, rf0, rf1, rf2, rf3, rf4, rf5, rf6⟩ := cells7 hr2
      go_wp2_with fail
      clear nc0 nc1 nc2 nc3 nc4 nc5 nc6 fc0 fc1 fc2 fc3 fc4 rc0 rc1 rc2 rc3 rc4 rc5 rc6 rf0 rf1 rf2 rf3 rf4 rf5 rf6
      exact bodyPost_ret (v := NV.v ⟨n.qa, n.qm, n.qc, n.la, n.lm, n.lc, d, n.ga, n.gm, n.gc⟩) (results_n (n := ⟨n.qa, n.qm, n.qc, n.la, n.lm, n.lc, d, n.ga, n.gm, n.gc⟩) rfl _ rfl (set7_obj hr2 _ _ _ _ _ _ _)) rfl (⟨⟨n.qa, n.qm, n.qc, n.la, n.lm, n.lc, d, n.ga, n.gm, n.gc⟩, rfl, ⟨h.q.to (below_g hT2 (set7_grown _ _ _ _ _ _ _ _ _) (by omega)), h.l.to (below_g hT2 (set7_grown _ _ _ _ _ _ _ _ _) (by omega)), rfl, h.g.to (below_g hT2 (set7_grown _ _ _ _ _ _ _ _ _) (by omega))⟩, (below_g hT2 (set7_grown _ _ _ _ _ _ _ _ _) (by omega))⟩)
    obtain ⟨d, hd⟩ : ∃ d, stepV n.k 5 = d := ⟨_, rfl⟩
    have Hd2 := Lib.hid hd
    obtain rfl : (⟨N.q, N.l, d, N.g⟩ : NC) = M := by rw [← hM, ← hd, h.k]; rfl
    clear hd hM
    obtain ⟨w0, hw0⟩ : ∃ w0, (((w.alloc (.cells #[.slice n.qa n.qm n.qc, .slice n.la n.lm n.lc, .int .i64 n.k.t, .int .i64 n.k.r, .int .i64 n.k.s, .int .i64 n.k.q, .slice n.ga n.gm n.gc] 27)).alloc (.cells #[.bool f.x, .int .i64 f.i, .bool f.r, .int .i64 f.n, .slice f.a f.m f.c] 30)).alloc (.cells #[.slice none 0 0, .slice none 0 0, .int .i64 0, .int .i64 0, .int .i64 0, .int .i64 0, .slice none 0 0] 27)) = w0 := ⟨_, rfl⟩
    have hT0 : Below w.heap.size w w0 := by rw [← hw0]; exact below_then (below_then (below_alloc1 _ _) (below_alloc1 _ _)) (below_alloc1 _ _)
    have hn0 : w0.heap[w.heap.size]? = some (.cells #[.slice n.qa n.qm n.qc, .slice n.la n.lm n.lc, .int .i64 n.k.t, .int .i64 n.k.r, .int .i64 n.k.s, .int .i64 n.k.q, .slice n.ga n.gm n.gc] 27) := by rw [← hw0]; exact block_below (below_alloc1 _ _) (block_below (below_alloc1 _ _) (World.alloc_heap_new _ _))
    have hf0 : w0.heap[(w.heap.size + 1)]? = some (.cells #[.bool f.x, .int .i64 f.i, .bool f.r, .int .i64 f.n, .slice f.a f.m f.c] 30) := by rw [← hw0]; exact block_below (below_alloc1 _ _) (alloc_at _ _ (by simp))
    have hr0 : w0.heap[(w.heap.size + 2)]? = some (.cells #[.slice none 0 0, .slice none 0 0, .int .i64 0, .int .i64 0, .int .i64 0, .int .i64 0, .slice none 0 0] 27) := by rw [← hw0]; exact alloc_at _ _ (by simp)
    have hs0 : w0.heap.size = w.heap.size + 3 := by rw [← hw0]; simp
    have Hs0 := Lib.hid hs0
    clear hs0
    obtain ⟨nc0, nc1, nc2, nc3, nc4, nc5, nc6⟩ := cells7' hn0
    obtain ⟨fc0, fc1, fc2, fc3, fc4⟩ := cells5' hf0
    obtain ⟨rc0, rc1, rc2, rc3, rc4, rc5, rc6⟩ := cells7' hr0
    go_enter Try.func30, Try.ntmps30
    go_wp2_with fail
    clear nc0 nc1 nc2 nc3 nc4 nc5 nc6 fc0 fc1 fc2 fc3 fc4 rc0 rc1 rc2 rc3 rc4 rc5 rc6
    clear hw0
    have hZ0 := Below.refl w0.heap.size w0
    refine (isOff_c n false (by simpa using Hs.out) w0).mono ?_
    rintro e w1 ⟨rfl, hB1⟩
    have hT1 := below_then hT0 hB1
    have hZ1 := below_then hZ0 hB1
    clear hZ0
    have hn1 := block_below hB1 hn0
    have hf1 := block_below hB1 hf0
    have hr1 := block_below hB1 hr0
    clear hT0 hn0 hf0 hr0  hB1
    obtain ⟨nc0, nc1, nc2, nc3, nc4, nc5, nc6⟩ := cells7' hn1
    obtain ⟨fc0, fc1, fc2, fc3, fc4⟩ := cells5' hf1
    obtain ⟨rc0, rc1, rc2, rc3, rc4, rc5, rc6⟩ := cells7' hr1
    go_wp2_with fail
    clear nc0 nc1 nc2 nc3 nc4 nc5 nc6 fc0 fc1 fc2 fc3 fc4 rc0 rc1 rc2 rc3 rc4 rc5 rc6
    refine (counted_c n d 5 Hd2.out hkk w1).mono ?_
    rintro e w2 ⟨rfl, hB2⟩
    have hT2 := below_then hT1 hB2
    have hZ2 := below_then hZ1 hB2
    clear hZ1
    have hn2 := block_below hB2 hn1
    have hf2 := block_below hB2 hf1
    have hr2 := block_below hB2 hr1
    clear hT1 hn1 hf1 hr1  hB2
    obtain ⟨nc0, nc1, nc2, nc3, nc4, nc5, nc6⟩ := cells7' hn2
    obtain ⟨fc0, fc1, fc2, fc3, fc4⟩ := cells5' hf2
    obtain ⟨⟨rc0, rc1, rc2, rc3, rc4, rc5, rc6⟩, rf0, rf1, rf2, rf3, rf4, rf5, rf6⟩ := cells7 hr2
    go_wp2_with fail
    clear nc0 nc1 nc2 nc3 nc4 nc5 nc6 fc0 fc1 fc2 fc3 fc4 rc0 rc1 rc2 rc3 rc4 rc5 rc6 rf0 rf1 rf2 rf3 rf4 rf5 rf6
    exact bodyPost_ret (v := NV.v ⟨n.qa, n.qm, n.qc, n.la, n.lm, n.lc, d, n.ga, n.gm, n.gc⟩) (results_n (n := ⟨n.qa, n.qm, n.qc, n.la, n.lm, n.lc, d, n.ga, n.gm, n.gc⟩) rfl _ rfl (set7_obj hr2 _ _ _ _ _ _ _)) rfl (⟨⟨n.qa, n.qm, n.qc, n.la, n.lm, n.lc, d, n.ga, n.gm, n.gc⟩, rfl, ⟨h.q.to (below_g hT2 (set7_grown _ _ _ _ _ _ _ _ _) (by omega)), h.l.to (below_g hT2 (set7_grown _ _ _ _ _ _ _ _ _) (by omega)), rfl, h.g.to (below_g hT2 (set7_grown _ _ _ _ _ _ _ _ _) (by omega))⟩, (below_g hT2 (set7_grown _ _ _ _ _ _ _ _ _) (by omega))⟩)
  rw [if_pos rfl] at hM
  obtain ⟨d, hd⟩ : ∃ d, stepV n.k 2 = d := ⟨_, rfl⟩
  have Hd2 := Lib.hid hd
  obtain ⟨Gs, hGs⟩ : ∃ Gs, gotN N F = Gs := ⟨_, rfl⟩
  obtain rfl : (⟨N.q, N.l, d, Gs⟩ : NC) = M := by rw [← hM, ← hd, hGs, h.k]
  unfold gotN at hGs
  rw [h.g.len] at hGs
  clear hd hM
  by_cases hg : n.gm < 64
  · skip
    rw [decide_eq_true hg, Bool.true_and] at hGs
    have i1 : (n.gm : Int) < 64 := by omega
    obtain ⟨q, hq⟩ : ∃ q, anyV N.l F.x F.i = q := ⟨_, rfl⟩
    have Hq := Lib.hid hq
    rw [hq] at hGs
    clear hq
    cases q
    · skip
      obtain rfl : N.g = Gs := hGs
      obtain ⟨w0, hw0⟩ : ∃ w0, (((w.alloc (.cells #[.slice n.qa n.qm n.qc, .slice n.la n.lm n.lc, .int .i64 n.k.t, .int .i64 n.k.r, .int .i64 n.k.s, .int .i64 n.k.q, .slice n.ga n.gm n.gc] 27)).alloc (.cells #[.bool f.x, .int .i64 f.i, .bool f.r, .int .i64 f.n, .slice f.a f.m f.c] 30)).alloc (.cells #[.slice none 0 0, .slice none 0 0, .int .i64 0, .int .i64 0, .int .i64 0, .int .i64 0, .slice none 0 0] 27)) = w0 := ⟨_, rfl⟩
      have hT0 : Below w.heap.size w w0 := by rw [← hw0]; exact below_then (below_then (below_alloc1 _ _) (below_alloc1 _ _)) (below_alloc1 _ _)
      have hn0 : w0.heap[w.heap.size]? = some (.cells #[.slice n.qa n.qm n.qc, .slice n.la n.lm n.lc, .int .i64 n.k.t, .int .i64 n.k.r, .int .i64 n.k.s, .int .i64 n.k.q, .slice n.ga n.gm n.gc] 27) := by rw [← hw0]; exact block_below (below_alloc1 _ _) (block_below (below_alloc1 _ _) (World.alloc_heap_new _ _))
      have hf0 : w0.heap[(w.heap.size + 1)]? = some (.cells #[.bool f.x, .int .i64 f.i, .bool f.r, .int .i64 f.n, .slice f.a f.m f.c] 30) := by rw [← hw0]; exact block_below (below_alloc1 _ _) (alloc_at _ _ (by simp))
      have hr0 : w0.heap[(w.heap.size + 2)]? = some (.cells #[.slice none 0 0, .slice none 0 0, .int .i64 0, .int .i64 0, .int .i64 0, .int .i64 0, .slice none 0 0] 27) := by rw [← hw0]; exact alloc_at _ _ (by simp)
      have hs0 : w0.heap.size = w.heap.size + 3 := by rw [← hw0]; simp
      have Hs0 := Lib.hid hs0
      clear hs0
      obtain ⟨nc0, nc1, nc2, nc3, nc4, nc5, nc6⟩ := cells7' hn0
      obtain ⟨fc0, fc1, fc2, fc3, fc4⟩ := cells5' hf0
      obtain ⟨rc0, rc1, rc2, rc3, rc4, rc5, rc6⟩ := cells7' hr0
      go_enter Try.func30, Try.ntmps30
      go_wp2_with fail
      clear nc0 nc1 nc2 nc3 nc4 nc5 nc6 fc0 fc1 fc2 fc3 fc4 rc0 rc1 rc2 rc3 rc4 rc5 rc6
      clear hw0
      have hZ0 := Below.refl w0.heap.size w0
      refine (isOff_c n false (by simpa using Hs.out) w0).mono ?_
      rintro e w1 ⟨rfl, hB1⟩
      have hT1 := below_then hT0 hB1
      have hZ1 := below_then hZ0 hB1
      clear hZ0
      have hn1 := block_below hB1 hn0
      have hf1 := block_below hB1 hf0
      have hr1 := block_below hB1 hr0
      clear hT0 hn0 hf0 hr0  hB1
      obtain ⟨nc0, nc1, nc2, nc3, nc4, nc5, nc6⟩ := cells7' hn1
      obtain ⟨fc0, fc1, fc2, fc3, fc4⟩ := cells5' hf1
      obtain ⟨rc0, rc1, rc2, rc3, rc4, rc5, rc6⟩ := cells7' hr1
      go_wp2_with fail
      clear nc0 nc1 nc2 nc3 nc4 nc5 nc6 fc0 fc1 fc2 fc3 fc4 rc0 rc1 rc2 rc3 rc4 rc5 rc6
      refine (any_c (h.l.to hT1) (hf.to hT1) (by omega) false Hq.out).mono ?_
      rintro e w2 ⟨rfl, hB2⟩
      have hT2 := below_then hT1 hB2
      have hZ2 := below_then hZ1 hB2
      clear hZ1
      have hn2 := block_below hB2 hn1
      have hf2 := block_below hB2 hf1
      have hr2 := block_below hB2 hr1
      clear hT1 hn1 hf1 hr1  hB2
      obtain ⟨nc0, nc1, nc2, nc3, nc4, nc5, nc6⟩ := cells7' hn2
      obtain ⟨fc0, fc1, fc2, fc3, fc4⟩ := cells5' hf2
      obtain ⟨rc0, rc1, rc2, rc3, rc4, rc5, rc6⟩ := cells7' hr2
      go_wp2_with fail
      clear nc0 nc1 nc2 nc3 nc4 nc5 nc6 fc0 fc1 fc2 fc3 fc4 rc0 rc1 rc2 rc3 rc4 rc5 rc6
      refine (counted_c n d 2 Hd2.out hkk w2).mono ?_
      rintro e w3 ⟨rfl, hB3⟩
      have hT3 := below_then hT2 hB3
      have hZ3 := below_then hZ2 hB3
      clear hZ2
      have hn3 := block_below hB3 hn2
      have hf3 := block_below hB3 hf2
      have hr3 := block_below hB3 hr2
      clear hT2 hn2 hf2 hr2  hB3
      obtain ⟨nc0, nc1, nc2, nc3, nc4, nc5, nc6⟩ := cells7' hn3
      obtain ⟨fc0, fc1, fc2, fc3, fc4⟩ := cells5' hf3
      obtain ⟨⟨rc0, rc1, rc2, rc3, rc4, rc5, rc6⟩, rf0, rf1, rf2, rf3, rf4, rf5, rf6⟩ := cells7 hr3
      go_wp2_with fail
      clear nc0 nc1 nc2 nc3 nc4 nc5 nc6 fc0 fc1 fc2 fc3 fc4 rc0 rc1 rc2 rc3 rc4 rc5 rc6 rf0 rf1 rf2 rf3 rf4 rf5 rf6
      exact bodyPost_ret (v := NV.v ⟨n.qa, n.qm, n.qc, n.la, n.lm, n.lc, d, n.ga, n.gm, n.gc⟩) (results_n (n := ⟨n.qa, n.qm, n.qc, n.la, n.lm, n.lc, d, n.ga, n.gm, n.gc⟩) rfl _ rfl (set7_obj hr3 _ _ _ _ _ _ _)) rfl (⟨⟨n.qa, n.qm, n.qc, n.la, n.lm, n.lc, d, n.ga, n.gm, n.gc⟩, rfl, ⟨h.q.to (below_g hT3 (set7_grown _ _ _ _ _ _ _ _ _) (by omega)), h.l.to (below_g hT3 (set7_grown _ _ _ _ _ _ _ _ _) (by omega)), rfl, h.g.to (below_g hT3 (set7_grown _ _ _ _ _ _ _ _ _) (by omega))⟩, (below_g hT3 (set7_grown _ _ _ _ _ _ _ _ _) (by omega))⟩)
    obtain rfl : N.g ++ [F] = Gs := hGs
    obtain ⟨m, hmm⟩ : ∃ m, n.gm + 1 = m := ⟨_, rfl⟩
    have Hm := Lib.hid hmm
    clear hmm
    obtain ⟨w0, hw0⟩ : ∃ w0, (((w.alloc (.cells #[.slice n.qa n.qm n.qc, .slice n.la n.lm n.lc, .int .i64 n.k.t, .int .i64 n.k.r, .int .i64 n.k.s, .int .i64 n.k.q, .slice n.ga n.gm n.gc] 27)).alloc (.cells #[.bool f.x, .int .i64 f.i, .bool f.r, .int .i64 f.n, .slice f.a f.m f.c] 30)).alloc (.cells #[.slice none 0 0, .slice none 0 0, .int .i64 0, .int .i64 0, .int .i64 0, .int .i64 0, .slice none 0 0] 27)) = w0 := ⟨_, rfl⟩
    have hT0 : Below w.heap.size w w0 := by rw [← hw0]; exact below_then (below_then (below_alloc1 _ _) (below_alloc1 _ _)) (below_alloc1 _ _)
    have hn0 : w0.heap[w.heap.size]? = some (.cells #[.slice n.qa n.qm n.qc, .slice n.la n.lm n.lc, .int .i64 n.k.t, .int .i64 n.k.r, .int .i64 n.k.s, .int .i64 n.k.q, .slice n.ga n.gm n.gc] 27) := by rw [← hw0]; exact block_below (below_alloc1 _ _) (block_below (below_alloc1 _ _) (World.alloc_heap_new _ _))
    have hf0 : w0.heap[(w.heap.size + 1)]? = some (.cells #[.bool f.x, .int .i64 f.i, .bool f.r, .int .i64 f.n, .slice f.a f.m f.c] 30) := by rw [← hw0]; exact block_below (below_alloc1 _ _) (alloc_at _ _ (by simp))
    have hr0 : w0.heap[(w.heap.size + 2)]? = some (.cells #[.slice none 0 0, .slice none 0 0, .int .i64 0, .int .i64 0, .int .i64 0, .int .i64 0, .slice none 0 0] 27) := by rw [← hw0]; exact alloc_at _ _ (by simp)
    have hs0 : w0.heap.size = w.heap.size + 3 := by rw [← hw0]; simp
    have Hs0 := Lib.hid hs0
    clear hs0
    obtain ⟨nc0, nc1, nc2, nc3, nc4, nc5, nc6⟩ := cells7' hn0
    obtain ⟨fc0, fc1, fc2, fc3, fc4⟩ := cells5' hf0
    obtain ⟨rc0, rc1, rc2, rc3, rc4, rc5, rc6⟩ := cells7' hr0
    go_enter Try.func30, Try.ntmps30
    go_wp2_with fail
    clear nc0 nc1 nc2 nc3 nc4 nc5 nc6 fc0 fc1 fc2 fc3 fc4 rc0 rc1 rc2 rc3 rc4 rc5 rc6
    clear hw0
    have hZ0 := Below.refl w0.heap.size w0
    refine (isOff_c n false (by simpa using Hs.out) w0).mono ?_
    rintro e w1 ⟨rfl, hB1⟩
    have hT1 := below_then hT0 hB1
    have hZ1 := below_then hZ0 hB1
    clear hZ0
    have hn1 := block_below hB1 hn0
    have hf1 := block_below hB1 hf0
    have hr1 := block_below hB1 hr0
    clear hT0 hn0 hf0 hr0  hB1
    obtain ⟨nc0, nc1, nc2, nc3, nc4, nc5, nc6⟩ := cells7' hn1
    obtain ⟨fc0, fc1, fc2, fc3, fc4⟩ := cells5' hf1
    obtain ⟨rc0, rc1, rc2, rc3, rc4, rc5, rc6⟩ := cells7' hr1
    go_wp2_with fail
    clear nc0 nc1 nc2 nc3 nc4 nc5 nc6 fc0 fc1 fc2 fc3 fc4 rc0 rc1 rc2 rc3 rc4 rc5 rc6
    refine (any_c (h.l.to hT1) (hf.to hT1) (by omega) true Hq.out).mono ?_
    rintro e w2 ⟨rfl, hB2⟩
    have hT2 := below_then hT1 hB2
    have hZ2 := below_then hZ1 hB2
    clear hZ1
    have hn2 := block_below hB2 hn1
    have hf2 := block_below hB2 hf1
    have hr2 := block_below hB2 hr1
    clear hT1 hn1 hf1 hr1  hB2
    obtain ⟨nc0, nc1, nc2, nc3, nc4, nc5, nc6⟩ := cells7' hn2
    obtain ⟨fc0, fc1, fc2, fc3, fc4⟩ := cells5' hf2
    obtain ⟨rc0, rc1, rc2, rc3, rc4, rc5, rc6⟩ := cells7' hr2
    go_wp2_with fail
    clear nc0 nc1 nc2 nc3 nc4 nc5 nc6 fc0 fc1 fc2 fc3 fc4 rc0 rc1 rc2 rc3 rc4 rc5 rc6
    have hB0k : Below w0.heap.size w0 w2 := hZ2
    have hTd := below_then hT2 (below_drew1 _)
    have hrl := (Array.getElem?_eq_some_iff.1 hr2).1
    obtain ⟨⟨nc0, nc1, nc2, nc3, nc4, nc5, nc6⟩, nf0, nf1, nf2, nf3, nf4, nf5, nf6⟩ := cells7 hn2
    obtain ⟨fc0, fc1, fc2, fc3, fc4⟩ := cells5' hf2
    go_region_with (first
      | (have hq_ := hg_; clear hq_; go_at_call 48; refine (with_c ((h.g.gap (w.heap.size + 3)).to (below_then hTd hB30)) hg_ (fun b hb => hPG b (Nat.le_trans hB30.size hb)) m Hm.out (by have := Hm.out; omega)).mono ?_; rintro e w31 ⟨A2, c2, rfl, hs_, hB31⟩; have hn31 := block_below hB31 hn30; clear nc0 nc1 nc2 nc3 nc4 nc5 nc6 nf0 nf1 nf2 nf3 nf4 nf5 nf6; obtain ⟨⟨nc0, nc1, nc2, nc3, nc4, nc5, nc6⟩, nf0, nf1, nf2, nf3, nf4, nf5, nf6⟩ := cells7 hn31)
      | (go_at_call 49; have hPG : ∀ b, w2.drew.heap.size ≤ b → Gap P w.heap.size (w.heap.size + 3) b := (fun b hb => gap_up hP (by omega) b (by have h1 := Hs0.out; have h2 := hB0k.size; have h3 : w2.heap.size ≤ b := hb; omega)); refine (kept_c ((hf.gap (w.heap.size + 3)).to hTd) hPG (by have := Hd.out; omega)).mono ?_; rintro e w30 ⟨g, rfl, hg_, hB30⟩; have hn30 := block_below hB30 (block_below (below_drew1 _) hn2); clear nc0 nc1 nc2 nc3 nc4 nc5 nc6 nf0 nf1 nf2 nf3 nf4 nf5 nf6 fc0 fc1 fc2 fc3 fc4; obtain ⟨⟨nc0, nc1, nc2, nc3, nc4, nc5, nc6⟩, nf0, nf1, nf2, nf3, nf4, nf5, nf6⟩ := cells7 hn30)
      | fail)
    all_goals
      clear nc0 nc1 nc2 nc3 nc4 nc5 nc6 nf0 nf1 nf2 nf3 nf4 nf5 nf6
      have hT31 := below_then (below_then hTd hB30) hB31
      have hf31 : w31.heap[(w.heap.size + 1)]? = some (.cells #[.bool f.x, .int .i64 f.i, .bool f.r, .int .i64 f.n, .slice f.a f.m f.c] 30) := block_below hB31 (block_below hB30 (block_below (below_drew1 _) hf2))
      have hr31 : w31.heap[(w.heap.size + 1 + 1)]? = some (.cells #[.slice none 0 0, .slice none 0 0, .int .i64 0, .int .i64 0, .int .i64 0, .int .i64 0, .slice none 0 0] 27) := block_below hB31 (block_below hB30 (block_below (below_drew1 _) hr2))
      have hs31 := hs_
      clear hs_ hT2 hn2 hf2 hr2 hB30 hB31 hTd hB0k hPG hrl hg_ hn30
      obtain ⟨w32, hw32⟩ : ∃ w_, w31.setCell ⟨w.heap.size, 6, none⟩ (.slice A2 m c2) = w_ := ⟨_, rfl⟩
      have hG32 : w31.grownBy w32 (some w.heap.size) := by rw [← hw32]; exact grown_setAt _ _ _ _
      have hT32 := below_g hT31 hG32 (by omega)
      have hn32 : w32.heap[w.heap.size]? = some (.cells #[.slice n.qa n.qm n.qc, .slice n.la n.lm n.lc, .int .i64 n.k.t, .int .i64 n.k.r, .int .i64 n.k.s, .int .i64 n.k.q, .slice A2 m c2] 27) := by rw [← hw32]; exact set6_obj7 hn31 _
      have hf32 := other_g hG32 hf31 (by omega)
      have hr32 := other_g hG32 hr31 (by omega)
      have hs32 := FSl.grow hs31 hG32 (gap_not (by omega) (by omega))
      rw [hw32]
      clear hw32 hG32 hT31 hn31 hf31 hr31 hs31
      obtain ⟨nc0, nc1, nc2, nc3, nc4, nc5, nc6⟩ := cells7' hn32
      obtain ⟨fc0, fc1, fc2, fc3, fc4⟩ := cells5' hf32
      obtain ⟨⟨rc0, rc1, rc2, rc3, rc4, rc5, rc6⟩, rf0, rf1, rf2, rf3, rf4, rf5, rf6⟩ := cells7 hr32
      go_wp2_with fail
      clear nc0 nc1 nc2 nc3 nc4 nc5 nc6 fc0 fc1 fc2 fc3 fc4 rc0 rc1 rc2 rc3 rc4 rc5 rc6 rf0 rf1 rf2 rf3 rf4 rf5 rf6
      refine (counted_c ⟨n.qa, n.qm, n.qc, n.la, n.lm, n.lc, n.k, A2, m, c2⟩ d 2 Hd2.out hkk w32).mono ?_
      rintro e w33 ⟨rfl, hB33⟩
      have hT33 := below_then hT32 hB33
      have hn33 := block_below hB33 hn32
      have hf33 := block_below hB33 hf32
      have hr33 := block_below hB33 hr32
      have hs33 := FSl.to hs32 hB33
      clear hT32 hn32 hf32 hr32 hs32 hB33
      obtain ⟨nc0, nc1, nc2, nc3, nc4, nc5, nc6⟩ := cells7' hn33
      obtain ⟨fc0, fc1, fc2, fc3, fc4⟩ := cells5' hf33
      obtain ⟨⟨rc0, rc1, rc2, rc3, rc4, rc5, rc6⟩, rf0, rf1, rf2, rf3, rf4, rf5, rf6⟩ := cells7 hr33
      go_wp2_with fail
      clear nc0 nc1 nc2 nc3 nc4 nc5 nc6 fc0 fc1 fc2 fc3 fc4 rc0 rc1 rc2 rc3 rc4 rc5 rc6 rf0 rf1 rf2 rf3 rf4 rf5 rf6
      exact bodyPost_ret (v := NV.v ⟨n.qa, n.qm, n.qc, n.la, n.lm, n.lc, d, A2, m, c2⟩) (results_n (n := ⟨n.qa, n.qm, n.qc, n.la, n.lm, n.lc, d, A2, m, c2⟩) rfl _ rfl (set7_obj hr33 _ _ _ _ _ _ _)) rfl (⟨⟨n.qa, n.qm, n.qc, n.la, n.lm, n.lc, d, A2, m, c2⟩, rfl, ⟨h.q.to (below_g hT33 (set7_grown _ _ _ _ _ _ _ _ _) (by omega)), h.l.to (below_g hT33 (set7_grown _ _ _ _ _ _ _ _ _) (by omega)), rfl, (hs33.grow (set7_grown _ _ _ _ _ _ _ _ _) (gap_not (by omega) (by omega))).ungap⟩, (below_g hT33 (set7_grown _ _ _ _ _ _ _ _ _) (by omega))⟩)
  rw [decide_eq_false hg, Bool.false_and] at hGs
  obtain rfl : N.g = Gs := hGs
  have i1 : ¬ (n.gm : Int) < 64 := by omega
  obtain ⟨w0, hw0⟩ : ∃ w0, (((w.alloc (.cells #[.slice n.qa n.qm n.qc, .slice n.la n.lm n.lc, .int .i64 n.k.t, .int .i64 n.k.r, .int .i64 n.k.s, .int .i64 n.k.q, .slice n.ga n.gm n.gc] 27)).alloc (.cells #[.bool f.x, .int .i64 f.i, .bool f.r, .int .i64 f.n, .slice f.a f.m f.c] 30)).alloc (.cells #[.slice none 0 0, .slice none 0 0, .int .i64 0, .int .i64 0, .int .i64 0, .int .i64 0, .slice none 0 0] 27)) = w0 := ⟨_, rfl⟩
  have hT0 : Below w.heap.size w w0 := by rw [← hw0]; exact below_then (below_then (below_alloc1 _ _) (below_alloc1 _ _)) (below_alloc1 _ _)
  have hn0 : w0.heap[w.heap.size]? = some (.cells #[.slice n.qa n.qm n.qc, .slice n.la n.lm n.lc, .int .i64 n.k.t, .int .i64 n.k.r, .int .i64 n.k.s, .int .i64 n.k.q, .slice n.ga n.gm n.gc] 27) := by rw [← hw0]; exact block_below (below_alloc1 _ _) (block_below (below_alloc1 _ _) (World.alloc_heap_new _ _))
  have hf0 : w0.heap[(w.heap.size + 1)]? = some (.cells #[.bool f.x, .int .i64 f.i, .bool f.r, .int .i64 f.n, .slice f.a f.m f.c] 30) := by rw [← hw0]; exact block_below (below_alloc1 _ _) (alloc_at _ _ (by simp))
  have hr0 : w0.heap[(w.heap.size + 2)]? = some (.cells #[.slice none 0 0, .slice none 0 0, .int .i64 0, .int .i64 0, .int .i64 0, .int .i64 0, .slice none 0 0] 27) := by rw [← hw0]; exact alloc_at _ _ (by simp)
  have hs0 : w0.heap.size = w.heap.size + 3 := by rw [← hw0]; simp
  have Hs0 := Lib.hid hs0
  clear hs0
  obtain ⟨nc0, nc1, nc2, nc3, nc4, nc5, nc6⟩ := cells7' hn0
  obtain ⟨fc0, fc1, fc2, fc3, fc4⟩ := cells5' hf0
  obtain ⟨rc0, rc1, rc2, rc3, rc4, rc5, rc6⟩ := cells7' hr0
  go_enter Try.func30, Try.ntmps30
  go_wp2_with fail
  clear nc0 nc1 nc2 nc3 nc4 nc5 nc6 fc0 fc1 fc2 fc3 fc4 rc0 rc1 rc2 rc3 rc4 rc5 rc6
  clear hw0
  have hZ0 := Below.refl w0.heap.size w0
  refine (isOff_c n false (by simpa using Hs.out) w0).mono ?_
  rintro e w1 ⟨rfl, hB1⟩
  have hT1 := below_then hT0 hB1
  have hZ1 := below_then hZ0 hB1
  clear hZ0
  have hn1 := block_below hB1 hn0
  have hf1 := block_below hB1 hf0
  have hr1 := block_below hB1 hr0
  clear hT0 hn0 hf0 hr0  hB1
  obtain ⟨nc0, nc1, nc2, nc3, nc4, nc5, nc6⟩ := cells7' hn1
  obtain ⟨fc0, fc1, fc2, fc3, fc4⟩ := cells5' hf1
  obtain ⟨rc0, rc1, rc2, rc3, rc4, rc5, rc6⟩ := cells7' hr1
  go_wp2_with fail
  clear nc0 nc1 nc2 nc3 nc4 nc5 nc6 fc0 fc1 fc2 fc3 fc4 rc0 rc1 rc2 rc3 rc4 rc5 rc6
  refine (counted_c n d 2 Hd2.out hkk w1).mono ?_
  rintro e w2 ⟨rfl, hB2⟩
  have hT2 := below_then hT1 hB2
  have hZ2 := below_then hZ1 hB2
  clear hZ1
  have hn2 := block_below hB2 hn1
  have hf2 := block_below hB2 hf1
  have hr2 := block_below hB2 hr1
  clear hT1 hn1 hf1 hr1  hB2
  obtain ⟨nc0, nc1, nc2, nc3, nc4, nc5, nc6⟩ := cells7' hn2
  obtain ⟨fc0, fc1, fc2, fc3, fc4⟩ := cells5' hf2
  obtain ⟨⟨rc0, rc1, rc2, rc3, rc4, rc5, rc6⟩, rf0, rf1, rf2, rf3, rf4, rf5, rf6⟩ := cells7 hr2
  go_wp2_with fail
  clear nc0 nc1 nc2 nc3 nc4 nc5 nc6 fc0 fc1 fc2 fc3 fc4 rc0 rc1 rc2 rc3 rc4 rc5 rc6 rf0 rf1 rf2 rf3 rf4 rf5 rf6
  exact bodyPost_ret (v := NV.v ⟨n.qa, n.qm, n.qc, n.la, n.lm, n.lc, d, n.ga, n.gm, n.gc⟩) (results_n (n := ⟨n.qa, n.qm, n.qc, n.la, n.lm, n.lc, d, n.ga, n.gm, n.gc⟩) rfl _ rfl (set7_obj hr2 _ _ _ _ _ _ _)) rfl (⟨⟨n.qa, n.qm, n.qc, n.la, n.lm, n.lc, d, n.ga, n.gm, n.gc⟩, rfl, ⟨h.q.to (below_g hT2 (set7_grown _ _ _ _ _ _ _ _ _) (by omega)), h.l.to (below_g hT2 (set7_grown _ _ _ _ _ _ _ _ _) (by omega)), rfl, h.g.to (below_g hT2 (set7_grown _ _ _ _ _ _ _ _ _) (by omega))⟩, (below_g hT2 (set7_grown _ _ _ _ _ _ _ _ _) (by omega))⟩)

end Go.Proofs.Ytlbgilbigcnleaa
