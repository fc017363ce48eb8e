/-
  Heard: the document.
-/
import Derived.Test.YtlbgilbigcnleaaNeB
import Derived.Test.YtlbgilbigcnleaaNdQ
namespace Go.Proofs.Ytlbgilbigcnleaa
open Go.RowKit
set_option linter.unusedVariables false
set_option linter.unusedSimpArgs false

theorem refAny_c {w : World} {P P' : Nat → Prop} {A : Option Addr} {n c : Nat} {ls : List FL} {f : FV} {F : FC} (h : LSl w P A n c ls) (hf : FIs w P' f F) (hm : n ≤ 1000) (q : Bool) (hq : anyV ls F.x F.i = q) :
    Calls Try.prog 34 #[.slice A n c, f.v] w fun e w' => e = .returned (.bool q) ∧ Below w.heap.size w w' :=
  refAny_q ls f n h.len A c w h.row hm q (by rw [hf.x, hf.i]; exact hq)

set_option maxRecDepth 100000 in
set_option maxHeartbeats 6000000 in
theorem refHeard_c {w : World} {P : Nat → Prop} {n : NV} {N : NC} {f : FV} {F : FC} (h : NIs w P n N) (hf : FIs w P f F) (hok : OkN N) (hP : ∀ b, w.heap.size ≤ b → P b) (ok long : Bool) (M : NC) (hM : heardN N F ok long = M) :
    Calls Try.prog 31 #[n.v, f.v, .bool ok, .bool long] w fun e w' => ∃ n' : NV, e = .returned n'.v ∧ NIs w' P n' M ∧ Below w.heap.size w w' := by
  have hm := gm_le h hok
  have hlm := lm_le h hok
  have hkk := okC_of_nis h hok
  have Hok := Lib.hid hok
  unfold heardN at hM
  clear hok
  by_cases hs : n.k.s = 3
  · skip
    rw [if_pos (by rw [← h.k]; exact hs)] at hM
    obtain rfl : N = M := hM
    have hs3 : (n.k.s == 3) = true := by simpa using hs
    clear hs
    obtain ⟨w0, hw0⟩ : ∃ w0, (((w.alloc (.cells #[.slice n.qa n.qm n.qc, .slice n.la n.lm n.lc, .int .i64 n.k.t, .int .i64 n.k.r, .int .i64 n.k.s, .int .i64 n.k.q, .slice n.ga n.gm n.gc] 27)).alloc (.cells #[.bool f.x, .int .i64 f.i, .bool f.r, .int .i64 f.n, .slice f.a f.m f.c] 30)).alloc (.cells #[.slice none 0 0, .slice none 0 0, .int .i64 0, .int .i64 0, .int .i64 0, .int .i64 0, .slice none 0 0] 27)) = w0 := ⟨_, rfl⟩
    have hT0 : Below w.heap.size w w0 := by rw [← hw0]; exact below_then (below_then (below_alloc1 _ _) (below_alloc1 _ _)) (below_alloc1 _ _)
    have hn0 : w0.heap[w.heap.size]? = some (.cells #[.slice n.qa n.qm n.qc, .slice n.la n.lm n.lc, .int .i64 n.k.t, .int .i64 n.k.r, .int .i64 n.k.s, .int .i64 n.k.q, .slice n.ga n.gm n.gc] 27) := by rw [← hw0]; exact block_below (below_alloc1 _ _) (block_below (below_alloc1 _ _) (World.alloc_heap_new _ _))
    have hf0 : w0.heap[(w.heap.size + 1)]? = some (.cells #[.bool f.x, .int .i64 f.i, .bool f.r, .int .i64 f.n, .slice f.a f.m f.c] 30) := by rw [← hw0]; exact block_below (below_alloc1 _ _) (alloc_at _ _ (by simp))
    have hr0 : w0.heap[(w.heap.size + 2)]? = some (.cells #[.slice none 0 0, .slice none 0 0, .int .i64 0, .int .i64 0, .int .i64 0, .int .i64 0, .slice none 0 0] 27) := by rw [← hw0]; exact alloc_at _ _ (by simp)
    have hs0 : w0.heap.size = w.heap.size + 3 := by rw [← hw0]; simp
    have Hs0 := Lib.hid hs0
    clear hs0
    obtain ⟨nc0, nc1, nc2, nc3, nc4, nc5, nc6⟩ := cells7' hn0
    obtain ⟨fc0, fc1, fc2, fc3, fc4⟩ := cells5' hf0
    obtain ⟨⟨rc0, rc1, rc2, rc3, rc4, rc5, rc6⟩, rf0, rf1, rf2, rf3, rf4, rf5, rf6⟩ := cells7 hr0
    go_enter Try.func31, Try.ntmps31
    go_wp2_with fail
    clear nc0 nc1 nc2 nc3 nc4 nc5 nc6 fc0 fc1 fc2 fc3 fc4 rc0 rc1 rc2 rc3 rc4 rc5 rc6 rf0 rf1 rf2 rf3 rf4 rf5 rf6
    clear hw0
    have hZ0 := Below.refl w0.heap.size w0
    exact bodyPost_ret (v := NV.v n) (results_n (n := n) rfl _ rfl (set7_obj hr0 _ _ _ _ _ _ _)) rfl (⟨n, rfl, h.to (below_g hT0 (set7_grown _ _ _ _ _ _ _ _ _) (by omega)), (below_g hT0 (set7_grown _ _ _ _ _ _ _ _ _) (by omega))⟩)
  rw [if_neg (by rw [← h.k]; exact hs)] at hM
  have hs3 : (n.k.s == 3) = false := by simpa using hs
  clear hs
  cases ok
  · skip
    cases long
    · skip
      obtain ⟨d, hd⟩ : ∃ d, stepV n.k 4 = d := ⟨_, rfl⟩
      have Hd2 := Lib.hid hd
      obtain rfl : (⟨N.q, N.l, d, N.g⟩ : NC) = M := by rw [← hM, ← hd, h.k]; rfl
      clear hd hM
      obtain ⟨w0, hw0⟩ : ∃ w0, (((w.alloc (.cells #[.slice n.qa n.qm n.qc, .slice n.la n.lm n.lc, .int .i64 n.k.t, .int .i64 n.k.r, .int .i64 n.k.s, .int .i64 n.k.q, .slice n.ga n.gm n.gc] 27)).alloc (.cells #[.bool f.x, .int .i64 f.i, .bool f.r, .int .i64 f.n, .slice f.a f.m f.c] 30)).alloc (.cells #[.slice none 0 0, .slice none 0 0, .int .i64 0, .int .i64 0, .int .i64 0, .int .i64 0, .slice none 0 0] 27)) = w0 := ⟨_, rfl⟩
      have hT0 : Below w.heap.size w w0 := by rw [← hw0]; exact below_then (below_then (below_alloc1 _ _) (below_alloc1 _ _)) (below_alloc1 _ _)
      have hn0 : w0.heap[w.heap.size]? = some (.cells #[.slice n.qa n.qm n.qc, .slice n.la n.lm n.lc, .int .i64 n.k.t, .int .i64 n.k.r, .int .i64 n.k.s, .int .i64 n.k.q, .slice n.ga n.gm n.gc] 27) := by rw [← hw0]; exact block_below (below_alloc1 _ _) (block_below (below_alloc1 _ _) (World.alloc_heap_new _ _))
      have hf0 : w0.heap[(w.heap.size + 1)]? = some (.cells #[.bool f.x, .int .i64 f.i, .bool f.r, .int .i64 f.n, .slice f.a f.m f.c] 30) := by rw [← hw0]; exact block_below (below_alloc1 _ _) (alloc_at _ _ (by simp))
      have hr0 : w0.heap[(w.heap.size + 2)]? = some (.cells #[.slice none 0 0, .slice none 0 0, .int .i64 0, .int .i64 0, .int .i64 0, .int .i64 0, .slice none 0 0] 27) := by rw [← hw0]; exact alloc_at _ _ (by simp)
      have hs0 : w0.heap.size = w.heap.size + 3 := by rw [← hw0]; simp
      have Hs0 := Lib.hid hs0
      clear hs0
      obtain ⟨nc0, nc1, nc2, nc3, nc4, nc5, nc6⟩ := cells7' hn0
      obtain ⟨fc0, fc1, fc2, fc3, fc4⟩ := cells5' hf0
      obtain ⟨rc0, rc1, rc2, rc3, rc4, rc5, rc6⟩ := cells7' hr0
      go_enter Try.func31, Try.ntmps31
      go_wp2_with fail
      clear nc0 nc1 nc2 nc3 nc4 nc5 nc6 fc0 fc1 fc2 fc3 fc4 rc0 rc1 rc2 rc3 rc4 rc5 rc6
      clear hw0
      have hZ0 := Below.refl w0.heap.size w0
      refine (refStep_any n.k d 4 Hd2.out hkk w0).mono ?_
      rintro e w1 ⟨rfl, hB1⟩
      have hT1 := below_then hT0 hB1
      have hZ1 := below_then hZ0 hB1
      clear hZ0
      have hn1 := block_below hB1 hn0
      have hf1 := block_below hB1 hf0
      have hr1 := block_below hB1 hr0
      clear hT0 hn0 hf0 hr0  hB1
      obtain ⟨⟨nc0, nc1, nc2, nc3, nc4, nc5, nc6⟩, nf0, nf1, nf2, nf3, nf4, nf5, nf6⟩ := cells7 hn1
      obtain ⟨fc0, fc1, fc2, fc3, fc4⟩ := cells5' hf1
      obtain ⟨⟨rc0, rc1, rc2, rc3, rc4, rc5, rc6⟩, rf0, rf1, rf2, rf3, rf4, rf5, rf6⟩ := cells7 hr1
      go_wp2_with fail
      clear nc0 nc1 nc2 nc3 nc4 nc5 nc6 nf0 nf1 nf2 nf3 nf4 nf5 nf6 fc0 fc1 fc2 fc3 fc4 rc0 rc1 rc2 rc3 rc4 rc5 rc6 rf0 rf1 rf2 rf3 rf4 rf5 rf6
      exact bodyPost_ret (v := NV.v ⟨n.qa, n.qm, n.qc, n.la, n.lm, n.lc, d, n.ga, n.gm, n.gc⟩) (results_n (n := ⟨n.qa, n.qm, n.qc, n.la, n.lm, n.lc, d, n.ga, n.gm, n.gc⟩) rfl _ rfl (set7_obj (other_g (set25_grown _ _ _ _ _ _) hr1 (by omega)) _ _ _ _ _ _ _)) rfl ⟨⟨n.qa, n.qm, n.qc, n.la, n.lm, n.lc, d, n.ga, n.gm, n.gc⟩, rfl, ⟨h.q.to (below_g (below_g hT1 (set25_grown _ _ _ _ _ _) (Nat.le_refl _)) (set7_grown _ _ _ _ _ _ _ _ _) (by omega)), h.l.to (below_g (below_g hT1 (set25_grown _ _ _ _ _ _) (Nat.le_refl _)) (set7_grown _ _ _ _ _ _ _ _ _) (by omega)), rfl, h.g.to (below_g (below_g hT1 (set25_grown _ _ _ _ _ _) (Nat.le_refl _)) (set7_grown _ _ _ _ _ _ _ _ _) (by omega))⟩, (below_g (below_g hT1 (set25_grown _ _ _ _ _ _) (Nat.le_refl _)) (set7_grown _ _ _ _ _ _ _ _ _) (by omega))⟩
    obtain ⟨d, hd⟩ : ∃ d, stepV n.k 5 = d := ⟨_, rfl⟩
    have Hd2 := Lib.hid hd
    obtain rfl : (⟨N.q, N.l, d, N.g⟩ : NC) = M := by rw [← hM, ← hd, h.k]; rfl
    clear hd hM
    obtain ⟨w0, hw0⟩ : ∃ w0, (((w.alloc (.cells #[.slice n.qa n.qm n.qc, .slice n.la n.lm n.lc, .int .i64 n.k.t, .int .i64 n.k.r, .int .i64 n.k.s, .int .i64 n.k.q, .slice n.ga n.gm n.gc] 27)).alloc (.cells #[.bool f.x, .int .i64 f.i, .bool f.r, .int .i64 f.n, .slice f.a f.m f.c] 30)).alloc (.cells #[.slice none 0 0, .slice none 0 0, .int .i64 0, .int .i64 0, .int .i64 0, .int .i64 0, .slice none 0 0] 27)) = w0 := ⟨_, rfl⟩
    have hT0 : Below w.heap.size w w0 := by rw [← hw0]; exact below_then (below_then (below_alloc1 _ _) (below_alloc1 _ _)) (below_alloc1 _ _)
    have hn0 : w0.heap[w.heap.size]? = some (.cells #[.slice n.qa n.qm n.qc, .slice n.la n.lm n.lc, .int .i64 n.k.t, .int .i64 n.k.r, .int .i64 n.k.s, .int .i64 n.k.q, .slice n.ga n.gm n.gc] 27) := by rw [← hw0]; exact block_below (below_alloc1 _ _) (block_below (below_alloc1 _ _) (World.alloc_heap_new _ _))
    have hf0 : w0.heap[(w.heap.size + 1)]? = some (.cells #[.bool f.x, .int .i64 f.i, .bool f.r, .int .i64 f.n, .slice f.a f.m f.c] 30) := by rw [← hw0]; exact block_below (below_alloc1 _ _) (alloc_at _ _ (by simp))
    have hr0 : w0.heap[(w.heap.size + 2)]? = some (.cells #[.slice none 0 0, .slice none 0 0, .int .i64 0, .int .i64 0, .int .i64 0, .int .i64 0, .slice none 0 0] 27) := by rw [← hw0]; exact alloc_at _ _ (by simp)
    have hs0 : w0.heap.size = w.heap.size + 3 := by rw [← hw0]; simp
    have Hs0 := Lib.hid hs0
    clear hs0
    obtain ⟨nc0, nc1, nc2, nc3, nc4, nc5, nc6⟩ := cells7' hn0
    obtain ⟨fc0, fc1, fc2, fc3, fc4⟩ := cells5' hf0
    obtain ⟨rc0, rc1, rc2, rc3, rc4, rc5, rc6⟩ := cells7' hr0
    go_enter Try.func31, Try.ntmps31
    go_wp2_with fail
    clear nc0 nc1 nc2 nc3 nc4 nc5 nc6 fc0 fc1 fc2 fc3 fc4 rc0 rc1 rc2 rc3 rc4 rc5 rc6
    clear hw0
    have hZ0 := Below.refl w0.heap.size w0
    refine (refStep_any n.k d 5 Hd2.out hkk w0).mono ?_
    rintro e w1 ⟨rfl, hB1⟩
    have hT1 := below_then hT0 hB1
    have hZ1 := below_then hZ0 hB1
    clear hZ0
    have hn1 := block_below hB1 hn0
    have hf1 := block_below hB1 hf0
    have hr1 := block_below hB1 hr0
    clear hT0 hn0 hf0 hr0  hB1
    obtain ⟨⟨nc0, nc1, nc2, nc3, nc4, nc5, nc6⟩, nf0, nf1, nf2, nf3, nf4, nf5, nf6⟩ := cells7 hn1
    obtain ⟨fc0, fc1, fc2, fc3, fc4⟩ := cells5' hf1
    obtain ⟨⟨rc0, rc1, rc2, rc3, rc4, rc5, rc6⟩, rf0, rf1, rf2, rf3, rf4, rf5, rf6⟩ := cells7 hr1
    go_wp2_with fail
    clear nc0 nc1 nc2 nc3 nc4 nc5 nc6 nf0 nf1 nf2 nf3 nf4 nf5 nf6 fc0 fc1 fc2 fc3 fc4 rc0 rc1 rc2 rc3 rc4 rc5 rc6 rf0 rf1 rf2 rf3 rf4 rf5 rf6
    exact bodyPost_ret (v := NV.v ⟨n.qa, n.qm, n.qc, n.la, n.lm, n.lc, d, n.ga, n.gm, n.gc⟩) (results_n (n := ⟨n.qa, n.qm, n.qc, n.la, n.lm, n.lc, d, n.ga, n.gm, n.gc⟩) rfl _ rfl (set7_obj (other_g (set25_grown _ _ _ _ _ _) hr1 (by omega)) _ _ _ _ _ _ _)) rfl ⟨⟨n.qa, n.qm, n.qc, n.la, n.lm, n.lc, d, n.ga, n.gm, n.gc⟩, rfl, ⟨h.q.to (below_g (below_g hT1 (set25_grown _ _ _ _ _ _) (Nat.le_refl _)) (set7_grown _ _ _ _ _ _ _ _ _) (by omega)), h.l.to (below_g (below_g hT1 (set25_grown _ _ _ _ _ _) (Nat.le_refl _)) (set7_grown _ _ _ _ _ _ _ _ _) (by omega)), rfl, h.g.to (below_g (below_g hT1 (set25_grown _ _ _ _ _ _) (Nat.le_refl _)) (set7_grown _ _ _ _ _ _ _ _ _) (by omega))⟩, (below_g (below_g hT1 (set25_grown _ _ _ _ _ _) (Nat.le_refl _)) (set7_grown _ _ _ _ _ _ _ _ _) (by omega))⟩
  rw [if_pos rfl] at hM
  obtain ⟨d, hd⟩ : ∃ d, stepV n.k 2 = d := ⟨_, rfl⟩
  have Hd2 := Lib.hid hd
  obtain ⟨Gs, hGs⟩ : ∃ Gs, gotN N F = Gs := ⟨_, rfl⟩
  obtain rfl : (⟨N.q, N.l, d, Gs⟩ : NC) = M := by rw [← hM, ← hd, hGs, h.k]
  unfold gotN at hGs
  rw [h.g.len] at hGs
  clear hd hM
  obtain ⟨q, hq⟩ : ∃ q, anyV N.l F.x F.i = q := ⟨_, rfl⟩
  have Hq := Lib.hid hq
  rw [hq] at hGs
  clear hq
  cases q
  · skip
    rw [Bool.and_false, if_neg (by decide)] at hGs
    obtain rfl : N.g = Gs := hGs
    obtain ⟨w0, hw0⟩ : ∃ w0, (((w.alloc (.cells #[.slice n.qa n.qm n.qc, .slice n.la n.lm n.lc, .int .i64 n.k.t, .int .i64 n.k.r, .int .i64 n.k.s, .int .i64 n.k.q, .slice n.ga n.gm n.gc] 27)).alloc (.cells #[.bool f.x, .int .i64 f.i, .bool f.r, .int .i64 f.n, .slice f.a f.m f.c] 30)).alloc (.cells #[.slice none 0 0, .slice none 0 0, .int .i64 0, .int .i64 0, .int .i64 0, .int .i64 0, .slice none 0 0] 27)) = w0 := ⟨_, rfl⟩
    have hT0 : Below w.heap.size w w0 := by rw [← hw0]; exact below_then (below_then (below_alloc1 _ _) (below_alloc1 _ _)) (below_alloc1 _ _)
    have hn0 : w0.heap[w.heap.size]? = some (.cells #[.slice n.qa n.qm n.qc, .slice n.la n.lm n.lc, .int .i64 n.k.t, .int .i64 n.k.r, .int .i64 n.k.s, .int .i64 n.k.q, .slice n.ga n.gm n.gc] 27) := by rw [← hw0]; exact block_below (below_alloc1 _ _) (block_below (below_alloc1 _ _) (World.alloc_heap_new _ _))
    have hf0 : w0.heap[(w.heap.size + 1)]? = some (.cells #[.bool f.x, .int .i64 f.i, .bool f.r, .int .i64 f.n, .slice f.a f.m f.c] 30) := by rw [← hw0]; exact block_below (below_alloc1 _ _) (alloc_at _ _ (by simp))
    have hr0 : w0.heap[(w.heap.size + 2)]? = some (.cells #[.slice none 0 0, .slice none 0 0, .int .i64 0, .int .i64 0, .int .i64 0, .int .i64 0, .slice none 0 0] 27) := by rw [← hw0]; exact alloc_at _ _ (by simp)
    have hs0 : w0.heap.size = w.heap.size + 3 := by rw [← hw0]; simp
    have Hs0 := Lib.hid hs0
    clear hs0
    obtain ⟨nc0, nc1, nc2, nc3, nc4, nc5, nc6⟩ := cells7' hn0
    obtain ⟨fc0, fc1, fc2, fc3, fc4⟩ := cells5' hf0
    obtain ⟨rc0, rc1, rc2, rc3, rc4, rc5, rc6⟩ := cells7' hr0
    go_enter Try.func31, Try.ntmps31
    go_wp2_with fail
    clear nc0 nc1 nc2 nc3 nc4 nc5 nc6 fc0 fc1 fc2 fc3 fc4 rc0 rc1 rc2 rc3 rc4 rc5 rc6
    clear hw0
    have hZ0 := Below.refl w0.heap.size w0
    refine (refAny_c (h.l.to hT0) (hf.to hT0) (by omega) false Hq.out).mono ?_
    rintro e w1 ⟨rfl, hB1⟩
    have hT1 := below_then hT0 hB1
    have hZ1 := below_then hZ0 hB1
    clear hZ0
    have hn1 := block_below hB1 hn0
    have hf1 := block_below hB1 hf0
    have hr1 := block_below hB1 hr0
    clear hT0 hn0 hf0 hr0  hB1
    obtain ⟨nc0, nc1, nc2, nc3, nc4, nc5, nc6⟩ := cells7' hn1
    obtain ⟨fc0, fc1, fc2, fc3, fc4⟩ := cells5' hf1
    obtain ⟨rc0, rc1, rc2, rc3, rc4, rc5, rc6⟩ := cells7' hr1
    go_wp2_with fail
    clear nc0 nc1 nc2 nc3 nc4 nc5 nc6 fc0 fc1 fc2 fc3 fc4 rc0 rc1 rc2 rc3 rc4 rc5 rc6
    refine (refStep_any n.k d 2 Hd2.out hkk w1).mono ?_
    rintro e w2 ⟨rfl, hB2⟩
    have hT2 := below_then hT1 hB2
    have hZ2 := below_then hZ1 hB2
    clear hZ1
    have hn2 := block_below hB2 hn1
    have hf2 := block_below hB2 hf1
    have hr2 := block_below hB2 hr1
    clear hT1 hn1 hf1 hr1  hB2
    obtain ⟨⟨nc0, nc1, nc2, nc3, nc4, nc5, nc6⟩, nf0, nf1, nf2, nf3, nf4, nf5, nf6⟩ := cells7 hn2
    obtain ⟨fc0, fc1, fc2, fc3, fc4⟩ := cells5' hf2
    obtain ⟨⟨rc0, rc1, rc2, rc3, rc4, rc5, rc6⟩, rf0, rf1, rf2, rf3, rf4, rf5, rf6⟩ := cells7 hr2
    go_wp2_with fail
    clear nc0 nc1 nc2 nc3 nc4 nc5 nc6 nf0 nf1 nf2 nf3 nf4 nf5 nf6 fc0 fc1 fc2 fc3 fc4 rc0 rc1 rc2 rc3 rc4 rc5 rc6 rf0 rf1 rf2 rf3 rf4 rf5 rf6
    exact bodyPost_ret (v := NV.v ⟨n.qa, n.qm, n.qc, n.la, n.lm, n.lc, d, n.ga, n.gm, n.gc⟩) (results_n (n := ⟨n.qa, n.qm, n.qc, n.la, n.lm, n.lc, d, n.ga, n.gm, n.gc⟩) rfl _ rfl (set7_obj (other_g (set25_grown _ _ _ _ _ _) hr2 (by omega)) _ _ _ _ _ _ _)) rfl ⟨⟨n.qa, n.qm, n.qc, n.la, n.lm, n.lc, d, n.ga, n.gm, n.gc⟩, rfl, ⟨h.q.to (below_g (below_g hT2 (set25_grown _ _ _ _ _ _) (Nat.le_refl _)) (set7_grown _ _ _ _ _ _ _ _ _) (by omega)), h.l.to (below_g (below_g hT2 (set25_grown _ _ _ _ _ _) (Nat.le_refl _)) (set7_grown _ _ _ _ _ _ _ _ _) (by omega)), rfl, h.g.to (below_g (below_g hT2 (set25_grown _ _ _ _ _ _) (Nat.le_refl _)) (set7_grown _ _ _ _ _ _ _ _ _) (by omega))⟩, (below_g (below_g hT2 (set25_grown _ _ _ _ _ _) (Nat.le_refl _)) (set7_grown _ _ _ _ _ _ _ _ _) (by omega))⟩
  by_cases hg : n.gm < 64
  · skip
    rw [decide_eq_true hg] at hGs
    have i1 : (n.gm : Int) < 64 := by omega
    obtain rfl : N.g ++ [F] = Gs := hGs
    obtain ⟨fs, hrow, his⟩ := h.g.row
    have Hfl := Lib.hid (show fs.length = n.gm from his.1.trans h.g.len)
    have Hds := Lib.hid (show FsIs w P (fs ++ [f]) (N.g ++ [F]) from his.append (FsIs.one hf))
    obtain ⟨w0, hw0⟩ : ∃ w0, (((w.alloc (.cells #[.slice n.qa n.qm n.qc, .slice n.la n.lm n.lc, .int .i64 n.k.t, .int .i64 n.k.r, .int .i64 n.k.s, .int .i64 n.k.q, .slice n.ga n.gm n.gc] 27)).alloc (.cells #[.bool f.x, .int .i64 f.i, .bool f.r, .int .i64 f.n, .slice f.a f.m f.c] 30)).alloc (.cells #[.slice none 0 0, .slice none 0 0, .int .i64 0, .int .i64 0, .int .i64 0, .int .i64 0, .slice none 0 0] 27)) = w0 := ⟨_, rfl⟩
    have hT0 : Below w.heap.size w w0 := by rw [← hw0]; exact below_then (below_then (below_alloc1 _ _) (below_alloc1 _ _)) (below_alloc1 _ _)
    have hn0 : w0.heap[w.heap.size]? = some (.cells #[.slice n.qa n.qm n.qc, .slice n.la n.lm n.lc, .int .i64 n.k.t, .int .i64 n.k.r, .int .i64 n.k.s, .int .i64 n.k.q, .slice n.ga n.gm n.gc] 27) := by rw [← hw0]; exact block_below (below_alloc1 _ _) (block_below (below_alloc1 _ _) (World.alloc_heap_new _ _))
    have hf0 : w0.heap[(w.heap.size + 1)]? = some (.cells #[.bool f.x, .int .i64 f.i, .bool f.r, .int .i64 f.n, .slice f.a f.m f.c] 30) := by rw [← hw0]; exact block_below (below_alloc1 _ _) (alloc_at _ _ (by simp))
    have hr0 : w0.heap[(w.heap.size + 2)]? = some (.cells #[.slice none 0 0, .slice none 0 0, .int .i64 0, .int .i64 0, .int .i64 0, .int .i64 0, .slice none 0 0] 27) := by rw [← hw0]; exact alloc_at _ _ (by simp)
    have hs0 : w0.heap.size = w.heap.size + 3 := by rw [← hw0]; simp
    have Hs0 := Lib.hid hs0
    clear hs0
    obtain ⟨nc0, nc1, nc2, nc3, nc4, nc5, nc6⟩ := cells7' hn0
    obtain ⟨fc0, fc1, fc2, fc3, fc4⟩ := cells5' hf0
    obtain ⟨rc0, rc1, rc2, rc3, rc4, rc5, rc6⟩ := cells7' hr0
    go_enter Try.func31, Try.ntmps31
    go_wp2_with fail
    clear nc0 nc1 nc2 nc3 nc4 nc5 nc6 fc0 fc1 fc2 fc3 fc4 rc0 rc1 rc2 rc3 rc4 rc5 rc6
    clear hw0
    have hZ0 := Below.refl w0.heap.size w0
    refine (refAny_c (h.l.to hT0) (hf.to hT0) (by omega) true Hq.out).mono ?_
    rintro e w1 ⟨rfl, hB1⟩
    have hT1 := below_then hT0 hB1
    have hZ1 := below_then hZ0 hB1
    clear hZ0
    have hn1 := block_below hB1 hn0
    have hf1 := block_below hB1 hf0
    have hr1 := block_below hB1 hr0
    clear hT0 hn0 hf0 hr0  hB1
    obtain ⟨nc0, nc1, nc2, nc3, nc4, nc5, nc6⟩ := cells7' hn1
    obtain ⟨fc0, fc1, fc2, fc3, fc4⟩ := cells5' hf1
    obtain ⟨rc0, rc1, rc2, rc3, rc4, rc5, rc6⟩ := cells7' hr1
    go_wp2_with fail
    clear nc0 nc1 nc2 nc3 nc4 nc5 nc6 fc0 fc1 fc2 fc3 fc4 rc0 rc1 rc2 rc3 rc4 rc5 rc6
    have hBd0 : Below w1.heap.size w1 (w1.alloc (.cells #[] 30)).drew := below_then (below_alloc1 _ _) (below_drew1 _)
    have hBd05 : Below w1.heap.size w1 ((w1.alloc (.cells #[] 30)).alloc (.cells #[.bool f.x, .int .i64 f.i, .bool f.r, .int .i64 f.n, .slice f.a f.m f.c] 30)).drew := below_then (below_then (below_alloc1 _ _) (below_alloc1 _ _)) (below_drew1 _)
    have hBd5 : Below w1.heap.size w1 (w1.alloc (.cells #[.bool f.x, .int .i64 f.i, .bool f.r, .int .i64 f.n, .slice f.a f.m f.c] 30)).drew := below_then (below_alloc1 _ _) (below_drew1 _)
    have hBd50 : Below w1.heap.size w1 ((w1.alloc (.cells #[.bool f.x, .int .i64 f.i, .bool f.r, .int .i64 f.n, .slice f.a f.m f.c] 30)).alloc (.cells #[] 30)).drew := below_then (below_then (below_alloc1 _ _) (below_alloc1 _ _)) (below_drew1 _)
    have hlr40 := (Array.getElem?_eq_some_iff.1 hr1).1
    have hle40 := hT1.size
    refine wp_region_till 8 (S := fun W => (W.cell? ⟨w.heap.size, 0, none⟩ = some (.slice n.qa n.qm n.qc) ∧ W.cell? ⟨w.heap.size, 1, none⟩ = some (.slice n.la n.lm n.lc) ∧ W.cell? ⟨w.heap.size, 2, none⟩ = some (.int .i64 n.k.t) ∧ W.cell? ⟨w.heap.size, 3, none⟩ = some (.int .i64 n.k.r) ∧ W.cell? ⟨w.heap.size, 4, none⟩ = some (.int .i64 n.k.s) ∧ W.cell? ⟨w.heap.size, 5, none⟩ = some (.int .i64 n.k.q) ∧ W.cell? ⟨w.heap.size, 6, none⟩ = some (.slice n.ga n.gm n.gc)) ∧ (W.cell? ⟨(w.heap.size + 1), 0, none⟩ = some (.bool f.x) ∧ W.cell? ⟨(w.heap.size + 1), 1, none⟩ = some (.int .i64 f.i) ∧ W.cell? ⟨(w.heap.size + 1), 2, none⟩ = some (.bool f.r) ∧ W.cell? ⟨(w.heap.size + 1), 3, none⟩ = some (.int .i64 f.n) ∧ W.cell? ⟨(w.heap.size + 1), 4, none⟩ = some (.slice f.a f.m f.c))) (by kernel_rfl) (by exact ⟨cells7' (block_below (below_drew1 _) hn1), cells5' (block_below (below_drew1 _) hf1)⟩) (fun hHeld_ => ?_)
    refine wpTill_take (i := 1) (v := ?vT2_1_0_) 27 rfl rfl (by kernel_rfl) (by kernel_rfl) (by kernel_rfl) (fun _ _ _ h => h) (Or.inl ⟨by kernel_rfl, ?hyT2_1_0_⟩) (by assumption) (by kernel_rfl) ?restT2_1_0_
    case hyT2_1_0_ => (intro W_ hS_; (try dsimp only at hS_); go_simp; (try (with_reducible rfl)))
    try simp only [Act.put, List.setIfInBounds_toArray, List.set_cons_zero, List.set_cons_succ]
    refine wpTill_take (i := 2) (v := ?vT2_2_0_) 28 rfl rfl (by kernel_rfl) (by kernel_rfl) (by kernel_rfl) (fun _ _ _ h => h) (Or.inl ⟨by kernel_rfl, ?hyT2_2_0_⟩) (by assumption) (by kernel_rfl) ?restT2_2_0_
    case hyT2_2_0_ => (intro W_ hS_; (try dsimp only at hS_); go_simp; (try (with_reducible rfl)))
    try simp only [Act.put, List.setIfInBounds_toArray, List.set_cons_zero, List.set_cons_succ]
    refine wpTill_take (i := 4) (v := ?vT2_4_0_) 30 rfl rfl (by kernel_rfl) (by kernel_rfl) (by kernel_rfl) (fun _ _ _ h => h) (Or.inl ⟨by kernel_rfl, ?hyT2_4_0_⟩) (by assumption) (by kernel_rfl) ?restT2_4_0_
    case hyT2_4_0_ => (intro W_ hS_; (try dsimp only at hS_); go_simp; (try (with_reducible rfl)))
    try simp only [Act.put, List.setIfInBounds_toArray, List.set_cons_zero, List.set_cons_succ]
    refine wpTill_ready (rs := [0, 5]) (by kernel_rfl) (by simp) ?_
    refine (AllTill.cons rfl (fun K_ hK_ => ?_) (AllTill.cons rfl (fun K_ hK_ => ?_) AllTill.nil))
    · go_simp
      go_wp2_with fail
      refine hK_.out _ _ (fun _ => by exact ⟨cells7' (block_below hBd0 hn1), cells5' (block_below hBd0 hf1)⟩) (fun hHeld_0_0 => ?_)
      replace hHeld_0_0 := hHeld_0_0 (by decide)
      clear hK_
      try simp only [Act.put, List.setIfInBounds_toArray, List.set_cons_zero, List.set_cons_succ]
      refine wpTill_ready (rs := [3, 5]) (by kernel_rfl) (by simp) ?_
      refine (AllTill.cons rfl (fun K_ hK_ => ?_) (AllTill.cons rfl (fun K_ hK_ => ?_) AllTill.nil))
      · refine step_append_fr rfl _ _ rfl w1.heap.size _ 0 [] rfl (own_to (fown_empty w1 _ _ rfl (Nat.le_refl _)) (below_drew1 _)) _ _ _ _ fs rfl Hfl.out (hrow.below (below_then hT1 hBd0)) (by omega) hBd0.size 29 rfl ?_
        intro A5 c5 w5 hown5 hc5 hB5
        simp only [Nat.zero_add, List.nil_append] at hown5 hc5 ⊢
        have hBk5 : Below w1.heap.size w1 w5 := hBd0.trans hB5
        refine hK_.out _ _ (fun _ => by exact ⟨cells7' (block_below hBk5 hn1), cells5' (block_below hBk5 hf1)⟩) (fun hHeld_3_1 => ?_)
        replace hHeld_3_1 := hHeld_3_1 (by decide)
        clear hK_
        try simp only [Act.put, List.setIfInBounds_toArray, List.set_cons_zero, List.set_cons_succ]
        refine wpTill_ready (rs := [5]) (by kernel_rfl) (by simp) ?_
        refine (AllTill.cons rfl (fun K_ hK_ => ?_) AllTill.nil)
        go_simp
        go_wp2_with fail
        refine hK_.out _ _ (fun _ => by exact ⟨cells7' (block_below (below_then hBk5 (below_alloc1 _ _)) hn1), cells5' (block_below (below_then hBk5 (below_alloc1 _ _)) hf1)⟩) (fun hHeld_5_2 => ?_)
        replace hHeld_5_2 := hHeld_5_2 (by decide)
        clear hK_
        try simp only [Act.put, List.setIfInBounds_toArray, List.set_cons_zero, List.set_cons_succ]
        refine wpTill_ready (rs := [6]) (by kernel_rfl) (by simp) ?_
        refine (AllTill.cons rfl (fun K_ hK_ => ?_) AllTill.nil)
        refine step_append_fr rfl _ _ rfl w1.heap.size _ n.gm fs rfl (own_to hown5 (below_alloc1 _ _)) _ _ _ _ [f] rfl rfl (FRow.lit1 w5 f rfl) (by omega) (below_then hBk5 (below_alloc1 _ _)).size 32 rfl ?_
        intro A6 c6 w6 hown6 hc6 hB6
        have hBk6 : Below w1.heap.size w1 w6 := (below_then hBk5 (below_alloc1 _ _)).trans hB6
        refine hK_.out _ _ (fun _ => by exact ⟨cells7' (block_below hBk6 hn1), cells5' (block_below hBk6 hf1)⟩) (fun hHeld_6_3 => ?_)
        replace hHeld_6_3 := hHeld_6_3 (by decide)
        clear hK_
        try simp only [Act.put, List.setIfInBounds_toArray, List.set_cons_zero, List.set_cons_succ]
        refine wpTill_take (i := 7) (v := ?vT2_7_4_0_3_5_6) 33 rfl rfl (by kernel_rfl) (by kernel_rfl) (by kernel_rfl) (fun _ _ _ h => h) (Or.inl ⟨by kernel_rfl, ?hyT2_7_4_0_3_5_6⟩) (by assumption) (by kernel_rfl) ?restT2_7_4_0_3_5_6
        case hyT2_7_4_0_3_5_6 => (intro W_ hS_; (try dsimp only at hS_); go_simp; (try (with_reducible rfl)))
        try simp only [Act.put, List.setIfInBounds_toArray, List.set_cons_zero, List.set_cons_succ]
        refine wpTill_ready (rs := [8]) (by kernel_rfl) (by simp) ?_
        refine (AllTill.cons rfl (fun K_ hK_ => ?_) AllTill.nil)
        obtain ⟨⟨nc0, nc1, nc2, nc3, nc4, nc5, nc6⟩, nf0, nf1, nf2, nf3, nf4, nf5, nf6⟩ := cells7 (block_below hBk6 hn1)
        go_simp
        go_wp2_with fail
        clear nc0 nc1 nc2 nc3 nc4 nc5 nc6 nf0 nf1 nf2 nf3 nf4 nf5 nf6
        refine hK_.out _ _ (fun h_ => absurd rfl h_) (fun hHeld_8_4 => ?_)
        clear hK_
        try simp only [Act.put, List.setIfInBounds_toArray, List.set_cons_zero, List.set_cons_succ]
        refine wpTill_done (by kernel_rfl) ?_ _
        have hT40 := below_then hT1 hBk6
        have hn40 := block_below hBk6 hn1
        have hf40 := block_below hBk6 hf1
        have hr40 := block_below hBk6 hr1
        have hs40 : FSl w6 (Gap P w.heap.size (w.heap.size + 3)) A6 (n.gm + 1) c6 (N.g ++ [F]) := FSl.own hown6 ((Hds.out.mono (fun b hb hp => ⟨hp, .inl hb⟩)).to hT40) (by omega) (fun b hb => gap_up hP (by omega) b (by omega))
        clear hown5 hown6 hc5 hc6 hB5 hB6 hBk5 hBk6 hBd0 hBd5 hBd05 hBd50 hle40 hlr40 hn1 hf1 hr1 hT1
        obtain ⟨w41, hw41⟩ : ∃ w_, w6.setCell ⟨w.heap.size, 6, none⟩ (.slice A6 (n.gm + 1) c6) = w_ := ⟨_, rfl⟩
        have hG41 : w6.grownBy w41 (some w.heap.size) := by rw [← hw41]; exact grown_setAt _ _ _ _
        have hT41 := below_g hT40 hG41 (by omega)
        have hn41 : w41.heap[w.heap.size]? = some (.cells #[.slice n.qa n.qm n.qc, .slice n.la n.lm n.lc, .int .i64 n.k.t, .int .i64 n.k.r, .int .i64 n.k.s, .int .i64 n.k.q, .slice A6 (n.gm + 1) c6] 27) := by rw [← hw41]; exact set6_obj7 hn40 _
        have hf41 := other_g hG41 hf40 (by omega)
        have hr41 := other_g hG41 hr40 (by omega)
        have hs41 := FSl.grow hs40 hG41 (gap_not (by omega) (by omega))
        rw [hw41]
        clear hw41 hG41 hT40 hn40 hf40 hr40 hs40
        obtain ⟨nc0, nc1, nc2, nc3, nc4, nc5, nc6⟩ := cells7' hn41
        obtain ⟨fc0, fc1, fc2, fc3, fc4⟩ := cells5' hf41
        obtain ⟨rc0, rc1, rc2, rc3, rc4, rc5, rc6⟩ := cells7' hr41
        go_wp2_with fail
        clear nc0 nc1 nc2 nc3 nc4 nc5 nc6 fc0 fc1 fc2 fc3 fc4 rc0 rc1 rc2 rc3 rc4 rc5 rc6
        refine (refStep_any n.k d 2 Hd2.out hkk w41).mono ?_
        rintro e w42 ⟨rfl, hB42⟩
        have hT42 := below_then hT41 hB42
        have hn42 := block_below hB42 hn41
        have hf42 := block_below hB42 hf41
        have hr42 := block_below hB42 hr41
        have hs42 := FSl.to hs41 hB42
        clear hT41 hn41 hf41 hr41 hs41 hB42
        obtain ⟨⟨nc0, nc1, nc2, nc3, nc4, nc5, nc6⟩, nf0, nf1, nf2, nf3, nf4, nf5, nf6⟩ := cells7 hn42
        obtain ⟨fc0, fc1, fc2, fc3, fc4⟩ := cells5' hf42
        obtain ⟨⟨rc0, rc1, rc2, rc3, rc4, rc5, rc6⟩, rf0, rf1, rf2, rf3, rf4, rf5, rf6⟩ := cells7 hr42
        go_wp2_with fail
        clear nc0 nc1 nc2 nc3 nc4 nc5 nc6 nf0 nf1 nf2 nf3 nf4 nf5 nf6 fc0 fc1 fc2 fc3 fc4 rc0 rc1 rc2 rc3 rc4 rc5 rc6 rf0 rf1 rf2 rf3 rf4 rf5 rf6
        exact bodyPost_ret (v := NV.v ⟨n.qa, n.qm, n.qc, n.la, n.lm, n.lc, d, A6, n.gm + 1, c6⟩) (results_n (n := ⟨n.qa, n.qm, n.qc, n.la, n.lm, n.lc, d, A6, n.gm + 1, c6⟩) rfl _ rfl (set7_obj (other_g (set25_grown _ _ _ _ _ _) hr42 (by omega)) _ _ _ _ _ _ _)) rfl ⟨⟨n.qa, n.qm, n.qc, n.la, n.lm, n.lc, d, A6, n.gm + 1, c6⟩, rfl, ⟨h.q.to (below_g (below_g hT42 (set25_grown _ _ _ _ _ _) (Nat.le_refl _)) (set7_grown _ _ _ _ _ _ _ _ _) (by omega)), h.l.to (below_g (below_g hT42 (set25_grown _ _ _ _ _ _) (Nat.le_refl _)) (set7_grown _ _ _ _ _ _ _ _ _) (by omega)), rfl, ((hs42.grow (set25_grown _ _ _ _ _ _) (gap_not (Nat.le_refl _) (by omega))).grow (set7_grown _ _ _ _ _ _ _ _ _) (gap_not (by omega) (by omega))).ungap⟩, (below_g (below_g hT42 (set25_grown _ _ _ _ _ _) (Nat.le_refl _)) (set7_grown _ _ _ _ _ _ _ _ _) (by omega))⟩
      · go_simp
        go_wp2_with fail
        refine hK_.out _ _ (fun _ => by exact ⟨cells7' (block_below hBd05 hn1), cells5' (block_below hBd05 hf1)⟩) (fun hHeld_5_1 => ?_)
        replace hHeld_5_1 := hHeld_5_1 (by decide)
        clear hK_
        try simp only [Act.put, List.setIfInBounds_toArray, List.set_cons_zero, List.set_cons_succ]
        refine wpTill_ready (rs := [3]) (by kernel_rfl) (by simp) ?_
        refine (AllTill.cons rfl (fun K_ hK_ => ?_) AllTill.nil)
        refine step_append_frG rfl _ _ rfl w1.heap.size _ 0 [] rfl (own_to (fown_empty w1 _ _ rfl (Nat.le_refl _)) (below_then (below_alloc1 _ _) (below_drew1 _))) _ _ _ _ fs rfl Hfl.out (hrow.below (below_then hT1 hBd05)) (by omega) hBd05.size 29 rfl ?_
        intro A5 c5 w5 hown5 hc5 hG5 hB5
        simp only [Nat.zero_add, List.nil_append] at hown5 hc5 ⊢
        have hBk5 : Below w1.heap.size w1 w5 := hBd05.trans hB5
        have hlit5 : FRow w5 w5.heap.size (some ⟨w1.heap.size + 1, 0, none⟩) [f] := frow_grow ((FRow.lit1 (w1.alloc (.cells #[] 30)) f (by simp)).to (below_drew1 _)) hG5 (fun _ ad e => by obtain rfl := Option.some.inj e; show w1.heap.size + 1 ≠ w1.heap.size; omega)
        refine hK_.out _ _ (fun _ => by exact ⟨cells7' (block_below hBk5 hn1), cells5' (block_below hBk5 hf1)⟩) (fun hHeld_3_2 => ?_)
        replace hHeld_3_2 := hHeld_3_2 (by decide)
        clear hK_
        try simp only [Act.put, List.setIfInBounds_toArray, List.set_cons_zero, List.set_cons_succ]
        refine wpTill_ready (rs := [6]) (by kernel_rfl) (by simp) ?_
        refine (AllTill.cons rfl (fun K_ hK_ => ?_) AllTill.nil)
        refine step_append_fr rfl _ _ rfl w1.heap.size _ n.gm fs rfl hown5 _ _ _ _ [f] rfl rfl hlit5 (by omega) hBk5.size 32 rfl ?_
        intro A6 c6 w6 hown6 hc6 hB6
        have hBk6 : Below w1.heap.size w1 w6 := hBk5.trans hB6
        refine hK_.out _ _ (fun _ => by exact ⟨cells7' (block_below hBk6 hn1), cells5' (block_below hBk6 hf1)⟩) (fun hHeld_6_3 => ?_)
        replace hHeld_6_3 := hHeld_6_3 (by decide)
        clear hK_
        try simp only [Act.put, List.setIfInBounds_toArray, List.set_cons_zero, List.set_cons_succ]
        refine wpTill_take (i := 7) (v := ?vT2_7_4_0_5_3_6) 33 rfl rfl (by kernel_rfl) (by kernel_rfl) (by kernel_rfl) (fun _ _ _ h => h) (Or.inl ⟨by kernel_rfl, ?hyT2_7_4_0_5_3_6⟩) (by assumption) (by kernel_rfl) ?restT2_7_4_0_5_3_6
        case hyT2_7_4_0_5_3_6 => (intro W_ hS_; (try dsimp only at hS_); go_simp; (try (with_reducible rfl)))
        try simp only [Act.put, List.setIfInBounds_toArray, List.set_cons_zero, List.set_cons_succ]
        refine wpTill_ready (rs := [8]) (by kernel_rfl) (by simp) ?_
        refine (AllTill.cons rfl (fun K_ hK_ => ?_) AllTill.nil)
        obtain ⟨⟨nc0, nc1, nc2, nc3, nc4, nc5, nc6⟩, nf0, nf1, nf2, nf3, nf4, nf5, nf6⟩ := cells7 (block_below hBk6 hn1)
        go_simp
        go_wp2_with fail
        clear nc0 nc1 nc2 nc3 nc4 nc5 nc6 nf0 nf1 nf2 nf3 nf4 nf5 nf6
        refine hK_.out _ _ (fun h_ => absurd rfl h_) (fun hHeld_8_4 => ?_)
        clear hK_
        try simp only [Act.put, List.setIfInBounds_toArray, List.set_cons_zero, List.set_cons_succ]
        refine wpTill_done (by kernel_rfl) ?_ _
        have hT40 := below_then hT1 hBk6
        have hn40 := block_below hBk6 hn1
        have hf40 := block_below hBk6 hf1
        have hr40 := block_below hBk6 hr1
        have hs40 : FSl w6 (Gap P w.heap.size (w.heap.size + 3)) A6 (n.gm + 1) c6 (N.g ++ [F]) := FSl.own hown6 ((Hds.out.mono (fun b hb hp => ⟨hp, .inl hb⟩)).to hT40) (by omega) (fun b hb => gap_up hP (by omega) b (by omega))
        clear hown5 hown6 hc5 hc6 hB5 hB6 hBk5 hBk6 hBd0 hBd5 hBd05 hBd50 hle40 hlr40 hn1 hf1 hr1 hT1
        obtain ⟨w41, hw41⟩ : ∃ w_, w6.setCell ⟨w.heap.size, 6, none⟩ (.slice A6 (n.gm + 1) c6) = w_ := ⟨_, rfl⟩
        have hG41 : w6.grownBy w41 (some w.heap.size) := by rw [← hw41]; exact grown_setAt _ _ _ _
        have hT41 := below_g hT40 hG41 (by omega)
        have hn41 : w41.heap[w.heap.size]? = some (.cells #[.slice n.qa n.qm n.qc, .slice n.la n.lm n.lc, .int .i64 n.k.t, .int .i64 n.k.r, .int .i64 n.k.s, .int .i64 n.k.q, .slice A6 (n.gm + 1) c6] 27) := by rw [← hw41]; exact set6_obj7 hn40 _
        have hf41 := other_g hG41 hf40 (by omega)
        have hr41 := other_g hG41 hr40 (by omega)
        have hs41 := FSl.grow hs40 hG41 (gap_not (by omega) (by omega))
        rw [hw41]
        clear hw41 hG41 hT40 hn40 hf40 hr40 hs40
        obtain ⟨nc0, nc1, nc2, nc3, nc4, nc5, nc6⟩ := cells7' hn41
        obtain ⟨fc0, fc1, fc2, fc3, fc4⟩ := cells5' hf41
        obtain ⟨rc0, rc1, rc2, rc3, rc4, rc5, rc6⟩ := cells7' hr41
        go_wp2_with fail
        clear nc0 nc1 nc2 nc3 nc4 nc5 nc6 fc0 fc1 fc2 fc3 fc4 rc0 rc1 rc2 rc3 rc4 rc5 rc6
        refine (refStep_any n.k d 2 Hd2.out hkk w41).mono ?_
        rintro e w42 ⟨rfl, hB42⟩
        have hT42 := below_then hT41 hB42
        have hn42 := block_below hB42 hn41
        have hf42 := block_below hB42 hf41
        have hr42 := block_below hB42 hr41
        have hs42 := FSl.to hs41 hB42
        clear hT41 hn41 hf41 hr41 hs41 hB42
        obtain ⟨⟨nc0, nc1, nc2, nc3, nc4, nc5, nc6⟩, nf0, nf1, nf2, nf3, nf4, nf5, nf6⟩ := cells7 hn42
        obtain ⟨fc0, fc1, fc2, fc3, fc4⟩ := cells5' hf42
        obtain ⟨⟨rc0, rc1, rc2, rc3, rc4, rc5, rc6⟩, rf0, rf1, rf2, rf3, rf4, rf5, rf6⟩ := cells7 hr42
        go_wp2_with fail
        clear nc0 nc1 nc2 nc3 nc4 nc5 nc6 nf0 nf1 nf2 nf3 nf4 nf5 nf6 fc0 fc1 fc2 fc3 fc4 rc0 rc1 rc2 rc3 rc4 rc5 rc6 rf0 rf1 rf2 rf3 rf4 rf5 rf6
        exact bodyPost_ret (v := NV.v ⟨n.qa, n.qm, n.qc, n.la, n.lm, n.lc, d, A6, n.gm + 1, c6⟩) (results_n (n := ⟨n.qa, n.qm, n.qc, n.la, n.lm, n.lc, d, A6, n.gm + 1, c6⟩) rfl _ rfl (set7_obj (other_g (set25_grown _ _ _ _ _ _) hr42 (by omega)) _ _ _ _ _ _ _)) rfl ⟨⟨n.qa, n.qm, n.qc, n.la, n.lm, n.lc, d, A6, n.gm + 1, c6⟩, rfl, ⟨h.q.to (below_g (below_g hT42 (set25_grown _ _ _ _ _ _) (Nat.le_refl _)) (set7_grown _ _ _ _ _ _ _ _ _) (by omega)), h.l.to (below_g (below_g hT42 (set25_grown _ _ _ _ _ _) (Nat.le_refl _)) (set7_grown _ _ _ _ _ _ _ _ _) (by omega)), rfl, ((hs42.grow (set25_grown _ _ _ _ _ _) (gap_not (Nat.le_refl _) (by omega))).grow (set7_grown _ _ _ _ _ _ _ _ _) (gap_not (by omega) (by omega))).ungap⟩, (below_g (below_g hT42 (set25_grown _ _ _ _ _ _) (Nat.le_refl _)) (set7_grown _ _ _ _ _ _ _ _ _) (by omega))⟩
    · go_simp
      go_wp2_with fail
      refine hK_.out _ _ (fun _ => by exact ⟨cells7' (block_below hBd5 hn1), cells5' (block_below hBd5 hf1)⟩) (fun hHeld_5_0 => ?_)
      replace hHeld_5_0 := hHeld_5_0 (by decide)
      clear hK_
      try simp only [Act.put, List.setIfInBounds_toArray, List.set_cons_zero, List.set_cons_succ]
      refine wpTill_ready (rs := [0]) (by kernel_rfl) (by simp) ?_
      refine (AllTill.cons rfl (fun K_ hK_ => ?_) AllTill.nil)
      go_simp
      go_wp2_with fail
      refine hK_.out _ _ (fun _ => by exact ⟨cells7' (block_below hBd50 hn1), cells5' (block_below hBd50 hf1)⟩) (fun hHeld_0_1 => ?_)
      replace hHeld_0_1 := hHeld_0_1 (by decide)
      clear hK_
      try simp only [Act.put, List.setIfInBounds_toArray, List.set_cons_zero, List.set_cons_succ]
      refine wpTill_ready (rs := [3]) (by kernel_rfl) (by simp) ?_
      refine (AllTill.cons rfl (fun K_ hK_ => ?_) AllTill.nil)
      refine step_append_fr rfl _ _ rfl (w1.heap.size + 1) _ 0 [] rfl (own_to (fown_empty (w1.alloc (.cells #[.bool f.x, .int .i64 f.i, .bool f.r, .int .i64 f.n, .slice f.a f.m f.c] 30)) _ _ (by simp) (by simp)) (below_drew1 _)) _ _ _ _ fs rfl Hfl.out (hrow.below (below_then hT1 hBd50)) (by omega) (by simp) 29 rfl ?_
      intro A5 c5 w5 hown5 hc5 hB5
      simp only [Nat.zero_add, List.nil_append] at hown5 hc5 ⊢
      have hBk5 : Below w1.heap.size w1 w5 := hBd50.trans (hB5.mono (Nat.le_succ _))
      have hlit5 : FRow w5 w5.heap.size (some ⟨w1.heap.size, 0, none⟩) [f] := (FRow.lit1 w1 f rfl).to (Below.trans (below_then (below_alloc1 _ _) (below_drew1 _)) (ups9 hB5))
      refine hK_.out _ _ (fun _ => by exact ⟨cells7' (block_below hBk5 hn1), cells5' (block_below hBk5 hf1)⟩) (fun hHeld_3_2 => ?_)
      replace hHeld_3_2 := hHeld_3_2 (by decide)
      clear hK_
      try simp only [Act.put, List.setIfInBounds_toArray, List.set_cons_zero, List.set_cons_succ]
      refine wpTill_ready (rs := [6]) (by kernel_rfl) (by simp) ?_
      refine (AllTill.cons rfl (fun K_ hK_ => ?_) AllTill.nil)
      refine step_append_fr rfl _ _ rfl (w1.heap.size + 1) _ n.gm fs rfl hown5 _ _ _ _ [f] rfl rfl hlit5 (by omega) (by have := hB5.size; simp at this; omega) 32 rfl ?_
      intro A6 c6 w6 hown6 hc6 hB6
      have hBk6 : Below w1.heap.size w1 w6 := hBk5.trans (hB6.mono (Nat.le_succ _))
      refine hK_.out _ _ (fun _ => by exact ⟨cells7' (block_below hBk6 hn1), cells5' (block_below hBk6 hf1)⟩) (fun hHeld_6_3 => ?_)
      replace hHeld_6_3 := hHeld_6_3 (by decide)
      clear hK_
      try simp only [Act.put, List.setIfInBounds_toArray, List.set_cons_zero, List.set_cons_succ]
      refine wpTill_take (i := 7) (v := ?vT2_7_4_5_0_3_6) 33 rfl rfl (by kernel_rfl) (by kernel_rfl) (by kernel_rfl) (fun _ _ _ h => h) (Or.inl ⟨by kernel_rfl, ?hyT2_7_4_5_0_3_6⟩) (by assumption) (by kernel_rfl) ?restT2_7_4_5_0_3_6
      case hyT2_7_4_5_0_3_6 => (intro W_ hS_; (try dsimp only at hS_); go_simp; (try (with_reducible rfl)))
      try simp only [Act.put, List.setIfInBounds_toArray, List.set_cons_zero, List.set_cons_succ]
      refine wpTill_ready (rs := [8]) (by kernel_rfl) (by simp) ?_
      refine (AllTill.cons rfl (fun K_ hK_ => ?_) AllTill.nil)
      obtain ⟨⟨nc0, nc1, nc2, nc3, nc4, nc5, nc6⟩, nf0, nf1, nf2, nf3, nf4, nf5, nf6⟩ := cells7 (block_below hBk6 hn1)
      go_simp
      go_wp2_with fail
      clear nc0 nc1 nc2 nc3 nc4 nc5 nc6 nf0 nf1 nf2 nf3 nf4 nf5 nf6
      refine hK_.out _ _ (fun h_ => absurd rfl h_) (fun hHeld_8_4 => ?_)
      clear hK_
      try simp only [Act.put, List.setIfInBounds_toArray, List.set_cons_zero, List.set_cons_succ]
      refine wpTill_done (by kernel_rfl) ?_ _
      have hT40 := below_then hT1 hBk6
      have hn40 := block_below hBk6 hn1
      have hf40 := block_below hBk6 hf1
      have hr40 := block_below hBk6 hr1
      have hs40 : FSl w6 (Gap P w.heap.size (w.heap.size + 3)) A6 (n.gm + 1) c6 (N.g ++ [F]) := FSl.own hown6 ((Hds.out.mono (fun b hb hp => ⟨hp, .inl hb⟩)).to hT40) (by omega) (fun b hb => gap_up hP (by omega) b (by omega))
      clear hown5 hown6 hc5 hc6 hB5 hB6 hBk5 hBk6 hBd0 hBd5 hBd05 hBd50 hle40 hlr40 hn1 hf1 hr1 hT1
      obtain ⟨w41, hw41⟩ : ∃ w_, w6.setCell ⟨w.heap.size, 6, none⟩ (.slice A6 (n.gm + 1) c6) = w_ := ⟨_, rfl⟩
      have hG41 : w6.grownBy w41 (some w.heap.size) := by rw [← hw41]; exact grown_setAt _ _ _ _
      have hT41 := below_g hT40 hG41 (by omega)
      have hn41 : w41.heap[w.heap.size]? = some (.cells #[.slice n.qa n.qm n.qc, .slice n.la n.lm n.lc, .int .i64 n.k.t, .int .i64 n.k.r, .int .i64 n.k.s, .int .i64 n.k.q, .slice A6 (n.gm + 1) c6] 27) := by rw [← hw41]; exact set6_obj7 hn40 _
      have hf41 := other_g hG41 hf40 (by omega)
      have hr41 := other_g hG41 hr40 (by omega)
      have hs41 := FSl.grow hs40 hG41 (gap_not (by omega) (by omega))
      rw [hw41]
      clear hw41 hG41 hT40 hn40 hf40 hr40 hs40
      obtain ⟨nc0, nc1, nc2, nc3, nc4, nc5, nc6⟩ := cells7' hn41
      obtain ⟨fc0, fc1, fc2, fc3, fc4⟩ := cells5' hf41
      obtain ⟨rc0, rc1, rc2, rc3, rc4, rc5, rc6⟩ := cells7' hr41
      go_wp2_with fail
      clear nc0 nc1 nc2 nc3 nc4 nc5 nc6 fc0 fc1 fc2 fc3 fc4 rc0 rc1 rc2 rc3 rc4 rc5 rc6
      refine (refStep_any n.k d 2 Hd2.out hkk w41).mono ?_
      rintro e w42 ⟨rfl, hB42⟩
      have hT42 := below_then hT41 hB42
      have hn42 := block_below hB42 hn41
      have hf42 := block_below hB42 hf41
      have hr42 := block_below hB42 hr41
      have hs42 := FSl.to hs41 hB42
      clear hT41 hn41 hf41 hr41 hs41 hB42
      obtain ⟨⟨nc0, nc1, nc2, nc3, nc4, nc5, nc6⟩, nf0, nf1, nf2, nf3, nf4, nf5, nf6⟩ := cells7 hn42
      obtain ⟨fc0, fc1, fc2, fc3, fc4⟩ := cells5' hf42
      obtain ⟨⟨rc0, rc1, rc2, rc3, rc4, rc5, rc6⟩, rf0, rf1, rf2, rf3, rf4, rf5, rf6⟩ := cells7 hr42
      go_wp2_with fail
      clear nc0 nc1 nc2 nc3 nc4 nc5 nc6 nf0 nf1 nf2 nf3 nf4 nf5 nf6 fc0 fc1 fc2 fc3 fc4 rc0 rc1 rc2 rc3 rc4 rc5 rc6 rf0 rf1 rf2 rf3 rf4 rf5 rf6
      exact bodyPost_ret (v := NV.v ⟨n.qa, n.qm, n.qc, n.la, n.lm, n.lc, d, A6, n.gm + 1, c6⟩) (results_n (n := ⟨n.qa, n.qm, n.qc, n.la, n.lm, n.lc, d, A6, n.gm + 1, c6⟩) rfl _ rfl (set7_obj (other_g (set25_grown _ _ _ _ _ _) hr42 (by omega)) _ _ _ _ _ _ _)) rfl ⟨⟨n.qa, n.qm, n.qc, n.la, n.lm, n.lc, d, A6, n.gm + 1, c6⟩, rfl, ⟨h.q.to (below_g (below_g hT42 (set25_grown _ _ _ _ _ _) (Nat.le_refl _)) (set7_grown _ _ _ _ _ _ _ _ _) (by omega)), h.l.to (below_g (below_g hT42 (set25_grown _ _ _ _ _ _) (Nat.le_refl _)) (set7_grown _ _ _ _ _ _ _ _ _) (by omega)), rfl, ((hs42.grow (set25_grown _ _ _ _ _ _) (gap_not (Nat.le_refl _) (by omega))).grow (set7_grown _ _ _ _ _ _ _ _ _) (gap_not (by omega) (by omega))).ungap⟩, (below_g (below_g hT42 (set25_grown _ _ _ _ _ _) (Nat.le_refl _)) (set7_grown _ _ _ _ _ _ _ _ _) (by omega))⟩
  rw [decide_eq_false hg] at hGs
  obtain rfl : N.g = Gs := hGs
  have i1 : ¬ (n.gm : Int) < 64 := by omega
  obtain ⟨w0, hw0⟩ : ∃ w0, (((w.alloc (.cells #[.slice n.qa n.qm n.qc, .slice n.la n.lm n.lc, .int .i64 n.k.t, .int .i64 n.k.r, .int .i64 n.k.s, .int .i64 n.k.q, .slice n.ga n.gm n.gc] 27)).alloc (.cells #[.bool f.x, .int .i64 f.i, .bool f.r, .int .i64 f.n, .slice f.a f.m f.c] 30)).alloc (.cells #[.slice none 0 0, .slice none 0 0, .int .i64 0, .int .i64 0, .int .i64 0, .int .i64 0, .slice none 0 0] 27)) = w0 := ⟨_, rfl⟩
  have hT0 : Below w.heap.size w w0 := by rw [← hw0]; exact below_then (below_then (below_alloc1 _ _) (below_alloc1 _ _)) (below_alloc1 _ _)
  have hn0 : w0.heap[w.heap.size]? = some (.cells #[.slice n.qa n.qm n.qc, .slice n.la n.lm n.lc, .int .i64 n.k.t, .int .i64 n.k.r, .int .i64 n.k.s, .int .i64 n.k.q, .slice n.ga n.gm n.gc] 27) := by rw [← hw0]; exact block_below (below_alloc1 _ _) (block_below (below_alloc1 _ _) (World.alloc_heap_new _ _))
  have hf0 : w0.heap[(w.heap.size + 1)]? = some (.cells #[.bool f.x, .int .i64 f.i, .bool f.r, .int .i64 f.n, .slice f.a f.m f.c] 30) := by rw [← hw0]; exact block_below (below_alloc1 _ _) (alloc_at _ _ (by simp))
  have hr0 : w0.heap[(w.heap.size + 2)]? = some (.cells #[.slice none 0 0, .slice none 0 0, .int .i64 0, .int .i64 0, .int .i64 0, .int .i64 0, .slice none 0 0] 27) := by rw [← hw0]; exact alloc_at _ _ (by simp)
  have hs0 : w0.heap.size = w.heap.size + 3 := by rw [← hw0]; simp
  have Hs0 := Lib.hid hs0
  clear hs0
  obtain ⟨nc0, nc1, nc2, nc3, nc4, nc5, nc6⟩ := cells7' hn0
  obtain ⟨fc0, fc1, fc2, fc3, fc4⟩ := cells5' hf0
  obtain ⟨rc0, rc1, rc2, rc3, rc4, rc5, rc6⟩ := cells7' hr0
  go_enter Try.func31, Try.ntmps31
  go_wp2_with fail
  clear nc0 nc1 nc2 nc3 nc4 nc5 nc6 fc0 fc1 fc2 fc3 fc4 rc0 rc1 rc2 rc3 rc4 rc5 rc6
  clear hw0
  have hZ0 := Below.refl w0.heap.size w0
  refine (refAny_c (h.l.to hT0) (hf.to hT0) (by omega) true Hq.out).mono ?_
  rintro e w1 ⟨rfl, hB1⟩
  have hT1 := below_then hT0 hB1
  have hZ1 := below_then hZ0 hB1
  clear hZ0
  have hn1 := block_below hB1 hn0
  have hf1 := block_below hB1 hf0
  have hr1 := block_below hB1 hr0
  clear hT0 hn0 hf0 hr0  hB1
  obtain ⟨nc0, nc1, nc2, nc3, nc4, nc5, nc6⟩ := cells7' hn1
  obtain ⟨fc0, fc1, fc2, fc3, fc4⟩ := cells5' hf1
  obtain ⟨rc0, rc1, rc2, rc3, rc4, rc5, rc6⟩ := cells7' hr1
  go_wp2_with fail
  clear nc0 nc1 nc2 nc3 nc4 nc5 nc6 fc0 fc1 fc2 fc3 fc4 rc0 rc1 rc2 rc3 rc4 rc5 rc6
  refine (refStep_any n.k d 2 Hd2.out hkk w1).mono ?_
  rintro e w2 ⟨rfl, hB2⟩
  have hT2 := below_then hT1 hB2
  have hZ2 := below_then hZ1 hB2
  clear hZ1
  have hn2 := block_below hB2 hn1
  have hf2 := block_below hB2 hf1
  have hr2 := block_below hB2 hr1
  clear hT1 hn1 hf1 hr1  hB2
  obtain ⟨⟨nc0, nc1, nc2, nc3, nc4, nc5, nc6⟩, nf0, nf1, nf2, nf3, nf4, nf5, nf6⟩ := cells7 hn2
  obtain ⟨fc0, fc1, fc2, fc3, fc4⟩ := cells5' hf2
  obtain ⟨⟨rc0, rc1, rc2, rc3, rc4, rc5, rc6⟩, rf0, rf1, rf2, rf3, rf4, rf5, rf6⟩ := cells7 hr2
  go_wp2_with fail
  clear nc0 nc1 nc2 nc3 nc4 nc5 nc6 nf0 nf1 nf2 nf3 nf4 nf5 nf6 fc0 fc1 fc2 fc3 fc4 rc0 rc1 rc2 rc3 rc4 rc5 rc6 rf0 rf1 rf2 rf3 rf4 rf5 rf6
  exact bodyPost_ret (v := NV.v ⟨n.qa, n.qm, n.qc, n.la, n.lm, n.lc, d, n.ga, n.gm, n.gc⟩) (results_n (n := ⟨n.qa, n.qm, n.qc, n.la, n.lm, n.lc, d, n.ga, n.gm, n.gc⟩) rfl _ rfl (set7_obj (other_g (set25_grown _ _ _ _ _ _) hr2 (by omega)) _ _ _ _ _ _ _)) rfl ⟨⟨n.qa, n.qm, n.qc, n.la, n.lm, n.lc, d, n.ga, n.gm, n.gc⟩, rfl, ⟨h.q.to (below_g (below_g hT2 (set25_grown _ _ _ _ _ _) (Nat.le_refl _)) (set7_grown _ _ _ _ _ _ _ _ _) (by omega)), h.l.to (below_g (below_g hT2 (set25_grown _ _ _ _ _ _) (Nat.le_refl _)) (set7_grown _ _ _ _ _ _ _ _ _) (by omega)), rfl, h.g.to (below_g (below_g hT2 (set25_grown _ _ _ _ _ _) (Nat.le_refl _)) (set7_grown _ _ _ _ _ _ _ _ _) (by omega))⟩, (below_g (below_g hT2 (set25_grown _ _ _ _ _ _) (Nat.le_refl _)) (set7_grown _ _ _ _ _ _ _ _ _) (by omega))⟩

end Go.Proofs.Ytlbgilbigcnleaa
