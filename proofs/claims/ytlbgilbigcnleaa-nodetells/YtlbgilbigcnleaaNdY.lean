/-
  Quiet, Right, New, place, Next: the document.
-/
import Derived.Test.YtlbgilbigcnleaaNdQ
namespace Go.Proofs.Ytlbgilbigcnleaa
open Go.RowKit
set_option linter.unusedVariables false
set_option linter.unusedSimpArgs false

set_option maxRecDepth 100000 in
set_option maxHeartbeats 1000000 in
theorem refQuiet_c {w : World} {P : Nat → Prop} {n : NV} {N : NC} (h : NIs w P n N) (hok : OkN N) (M : NC) (hM : quietN N = M) :
    Calls Try.prog 28 #[n.v] w fun e w' => ∃ n' : NV, e = .returned n'.v ∧ NIs w' P n' M ∧ Below w.heap.size w w' := by
  subst hM
  have hk := okC_of_nis h hok
  obtain ⟨d, hd⟩ : ∃ d, stepV n.k 6 = d := ⟨_, rfl⟩
  have Hd := Lib.hid hd
  have HD := Lib.hid (show d = stepV N.k 6 by rw [← h.k, hd])
  clear hd
  obtain ⟨w0, hw0⟩ : ∃ w0, ((w.alloc (.cells #[.slice n.qa n.qm n.qc, .slice n.la n.lm n.lc, .int .i64 n.k.t, .int .i64 n.k.r, .int .i64 n.k.s, .int .i64 n.k.q, .slice n.ga n.gm n.gc] 27)).alloc (.cells #[.slice none 0 0, .slice none 0 0, .int .i64 0, .int .i64 0, .int .i64 0, .int .i64 0, .slice none 0 0] 27)) = w0 := ⟨_, rfl⟩
  have hT0 : Below w.heap.size w w0 := by rw [← hw0]; exact below_then (below_alloc1 _ _) (below_alloc1 _ _)
  have hn0 : w0.heap[w.heap.size]? = some (.cells #[.slice n.qa n.qm n.qc, .slice n.la n.lm n.lc, .int .i64 n.k.t, .int .i64 n.k.r, .int .i64 n.k.s, .int .i64 n.k.q, .slice n.ga n.gm n.gc] 27) := by rw [← hw0]; exact block_below (below_alloc1 _ _) (World.alloc_heap_new _ _)
  have hr0 : w0.heap[(w.heap.size + 1)]? = some (.cells #[.slice none 0 0, .slice none 0 0, .int .i64 0, .int .i64 0, .int .i64 0, .int .i64 0, .slice none 0 0] 27) := by rw [← hw0]; exact alloc_at _ _ (by simp)
  have hs0 : w0.heap.size = w.heap.size + 2 := by rw [← hw0]; simp
  have Hs0 := Lib.hid hs0
  clear hs0
  obtain ⟨nc0, nc1, nc2, nc3, nc4, nc5, nc6⟩ := cells7' hn0
  obtain ⟨rc0, rc1, rc2, rc3, rc4, rc5, rc6⟩ := cells7' hr0
  go_enter Try.func28, Try.ntmps28
  go_wp2_with fail
  clear nc0 nc1 nc2 nc3 nc4 nc5 nc6 rc0 rc1 rc2 rc3 rc4 rc5 rc6
  clear hw0
  have hZ0 := Below.refl w0.heap.size w0
  refine (refStep_any n.k d 6 Hd.out hk w0).mono ?_
  rintro e w1 ⟨rfl, hB1⟩
  have hT1 := below_then hT0 hB1
  have hZ1 := below_then hZ0 hB1
  clear hZ0
  have hn1 := block_below hB1 hn0
  have hr1 := block_below hB1 hr0
  clear hT0 hn0 hr0  hB1
  obtain ⟨⟨nc0, nc1, nc2, nc3, nc4, nc5, nc6⟩, nf0, nf1, nf2, nf3, nf4, nf5, nf6⟩ := cells7 hn1
  obtain ⟨⟨rc0, rc1, rc2, rc3, rc4, rc5, rc6⟩, rf0, rf1, rf2, rf3, rf4, rf5, rf6⟩ := cells7 hr1
  go_wp2_with fail
  clear nc0 nc1 nc2 nc3 nc4 nc5 nc6 nf0 nf1 nf2 nf3 nf4 nf5 nf6 rc0 rc1 rc2 rc3 rc4 rc5 rc6 rf0 rf1 rf2 rf3 rf4 rf5 rf6
  exact bodyPost_ret (v := NV.v ⟨n.qa, n.qm, n.qc, n.la, n.lm, n.lc, d, n.ga, n.gm, n.gc⟩) (results_n (n := ⟨n.qa, n.qm, n.qc, n.la, n.lm, n.lc, d, n.ga, n.gm, n.gc⟩) rfl _ rfl (set7_obj (other_g (set25_grown _ _ _ _ _ _) hr1 (by omega)) _ _ _ _ _ _ _)) rfl ⟨⟨n.qa, n.qm, n.qc, n.la, n.lm, n.lc, d, n.ga, n.gm, n.gc⟩, rfl, ⟨h.q.to (below_g (below_g hT1 (set25_grown _ _ _ _ _ _) (Nat.le_refl _)) (set7_grown _ _ _ _ _ _ _ _ _) (by omega)), h.l.to (below_g (below_g hT1 (set25_grown _ _ _ _ _ _) (Nat.le_refl _)) (set7_grown _ _ _ _ _ _ _ _ _) (by omega)), HD.out, h.g.to (below_g (below_g hT1 (set25_grown _ _ _ _ _ _) (Nat.le_refl _)) (set7_grown _ _ _ _ _ _ _ _ _) (by omega))⟩, (below_g (below_g hT1 (set25_grown _ _ _ _ _ _) (Nat.le_refl _)) (set7_grown _ _ _ _ _ _ _ _ _) (by omega))⟩

set_option maxRecDepth 100000 in
set_option maxHeartbeats 1000000 in
theorem refRight_c {w : World} {P : Nat → Prop} {n : NV} {N : NC} (h : NIs w P n N) (q : Bool) (hq : rightN N = q) :
    Calls Try.prog 16 #[n.v] w fun e w' => e = .returned (.bool q) ∧ Below w.heap.size w w' := by
  unfold rightN at hq
  obtain ⟨q1, h1⟩ : ∃ q, rightFs 16 N.q = q := ⟨_, rfl⟩
  obtain ⟨q2, h2⟩ : ∃ q, rightFs 64 N.g = q := ⟨_, rfl⟩
  obtain ⟨q3, h3⟩ : ∃ q, rightLs 8 N.l = q := ⟨_, rfl⟩
  obtain ⟨q4, h4⟩ : ∃ q, rightV_NCn N.k = q := ⟨_, rfl⟩
  rw [h1, h2, h3, h4] at hq
  have H1 := Lib.hid h1
  have H2 := Lib.hid h2
  have H3 := Lib.hid h3
  have H4 := Lib.hid (show rightV_NCn n.k = q4 by rw [h.k]; exact h4)
  clear h1 h2 h3 h4
  subst hq
  cases q1
  · skip
    obtain ⟨w0, hw0⟩ : ∃ w0, (w.alloc (.cells #[.slice n.qa n.qm n.qc, .slice n.la n.lm n.lc, .int .i64 n.k.t, .int .i64 n.k.r, .int .i64 n.k.s, .int .i64 n.k.q, .slice n.ga n.gm n.gc] 27)) = w0 := ⟨_, rfl⟩
    have hT0 : Below w.heap.size w w0 := by rw [← hw0]; exact below_alloc1 _ _
    have hn0 : w0.heap[w.heap.size]? = some (.cells #[.slice n.qa n.qm n.qc, .slice n.la n.lm n.lc, .int .i64 n.k.t, .int .i64 n.k.r, .int .i64 n.k.s, .int .i64 n.k.q, .slice n.ga n.gm n.gc] 27) := by rw [← hw0]; exact World.alloc_heap_new _ _
    have hs0 : w0.heap.size = w.heap.size + 1 := by rw [← hw0]; simp
    have Hs0 := Lib.hid hs0
    clear hs0
    obtain ⟨nc0, nc1, nc2, nc3, nc4, nc5, nc6⟩ := cells7' hn0
    go_enter Try.func16, Try.ntmps16
    go_wp2_with fail
    clear nc0 nc1 nc2 nc3 nc4 nc5 nc6
    clear hw0
    have hZ0 := Below.refl w0.heap.size w0
    refine (refFs_c (h.q.to hT0) 16 16 rfl false H1.out).mono ?_
    rintro e w1 ⟨rfl, hB1⟩
    have hT1 := below_then hT0 hB1
    have hZ1 := below_then hZ0 hB1
    clear hZ0
    have hn1 := block_below hB1 hn0
    clear hT0 hn0  hB1
    obtain ⟨nc0, nc1, nc2, nc3, nc4, nc5, nc6⟩ := cells7' hn1
    go_wp2_with fail
    go_ret
    exact ⟨ret_bool (by simp), hT1⟩
  cases q2
  · skip
    obtain ⟨w0, hw0⟩ : ∃ w0, (w.alloc (.cells #[.slice n.qa n.qm n.qc, .slice n.la n.lm n.lc, .int .i64 n.k.t, .int .i64 n.k.r, .int .i64 n.k.s, .int .i64 n.k.q, .slice n.ga n.gm n.gc] 27)) = w0 := ⟨_, rfl⟩
    have hT0 : Below w.heap.size w w0 := by rw [← hw0]; exact below_alloc1 _ _
    have hn0 : w0.heap[w.heap.size]? = some (.cells #[.slice n.qa n.qm n.qc, .slice n.la n.lm n.lc, .int .i64 n.k.t, .int .i64 n.k.r, .int .i64 n.k.s, .int .i64 n.k.q, .slice n.ga n.gm n.gc] 27) := by rw [← hw0]; exact World.alloc_heap_new _ _
    have hs0 : w0.heap.size = w.heap.size + 1 := by rw [← hw0]; simp
    have Hs0 := Lib.hid hs0
    clear hs0
    obtain ⟨nc0, nc1, nc2, nc3, nc4, nc5, nc6⟩ := cells7' hn0
    go_enter Try.func16, Try.ntmps16
    go_wp2_with fail
    clear nc0 nc1 nc2 nc3 nc4 nc5 nc6
    clear hw0
    have hZ0 := Below.refl w0.heap.size w0
    refine (refFs_c (h.q.to hT0) 16 16 rfl true H1.out).mono ?_
    rintro e w1 ⟨rfl, hB1⟩
    have hT1 := below_then hT0 hB1
    have hZ1 := below_then hZ0 hB1
    clear hZ0
    have hn1 := block_below hB1 hn0
    clear hT0 hn0  hB1
    obtain ⟨nc0, nc1, nc2, nc3, nc4, nc5, nc6⟩ := cells7' hn1
    go_wp2_with fail
    clear nc0 nc1 nc2 nc3 nc4 nc5 nc6
    refine (refFs_c (h.g.to hT1) 64 64 rfl false H2.out).mono ?_
    rintro e w2 ⟨rfl, hB2⟩
    have hT2 := below_then hT1 hB2
    have hZ2 := below_then hZ1 hB2
    clear hZ1
    have hn2 := block_below hB2 hn1
    clear hT1 hn1  hB2
    obtain ⟨nc0, nc1, nc2, nc3, nc4, nc5, nc6⟩ := cells7' hn2
    go_wp2_with fail
    go_ret
    exact ⟨ret_bool (by simp), hT2⟩
  cases q3
  · skip
    obtain ⟨w0, hw0⟩ : ∃ w0, (w.alloc (.cells #[.slice n.qa n.qm n.qc, .slice n.la n.lm n.lc, .int .i64 n.k.t, .int .i64 n.k.r, .int .i64 n.k.s, .int .i64 n.k.q, .slice n.ga n.gm n.gc] 27)) = w0 := ⟨_, rfl⟩
    have hT0 : Below w.heap.size w w0 := by rw [← hw0]; exact below_alloc1 _ _
    have hn0 : w0.heap[w.heap.size]? = some (.cells #[.slice n.qa n.qm n.qc, .slice n.la n.lm n.lc, .int .i64 n.k.t, .int .i64 n.k.r, .int .i64 n.k.s, .int .i64 n.k.q, .slice n.ga n.gm n.gc] 27) := by rw [← hw0]; exact World.alloc_heap_new _ _
    have hs0 : w0.heap.size = w.heap.size + 1 := by rw [← hw0]; simp
    have Hs0 := Lib.hid hs0
    clear hs0
    obtain ⟨nc0, nc1, nc2, nc3, nc4, nc5, nc6⟩ := cells7' hn0
    go_enter Try.func16, Try.ntmps16
    go_wp2_with fail
    clear nc0 nc1 nc2 nc3 nc4 nc5 nc6
    clear hw0
    have hZ0 := Below.refl w0.heap.size w0
    refine (refFs_c (h.q.to hT0) 16 16 rfl true H1.out).mono ?_
    rintro e w1 ⟨rfl, hB1⟩
    have hT1 := below_then hT0 hB1
    have hZ1 := below_then hZ0 hB1
    clear hZ0
    have hn1 := block_below hB1 hn0
    clear hT0 hn0  hB1
    obtain ⟨nc0, nc1, nc2, nc3, nc4, nc5, nc6⟩ := cells7' hn1
    go_wp2_with fail
    clear nc0 nc1 nc2 nc3 nc4 nc5 nc6
    refine (refFs_c (h.g.to hT1) 64 64 rfl true H2.out).mono ?_
    rintro e w2 ⟨rfl, hB2⟩
    have hT2 := below_then hT1 hB2
    have hZ2 := below_then hZ1 hB2
    clear hZ1
    have hn2 := block_below hB2 hn1
    clear hT1 hn1  hB2
    obtain ⟨nc0, nc1, nc2, nc3, nc4, nc5, nc6⟩ := cells7' hn2
    go_wp2_with fail
    clear nc0 nc1 nc2 nc3 nc4 nc5 nc6
    refine (refLs_c (h.l.to hT2) false H3.out).mono ?_
    rintro e w3 ⟨rfl, hB3⟩
    have hT3 := below_then hT2 hB3
    have hZ3 := below_then hZ2 hB3
    clear hZ2
    have hn3 := block_below hB3 hn2
    clear hT2 hn2  hB3
    obtain ⟨nc0, nc1, nc2, nc3, nc4, nc5, nc6⟩ := cells7' hn3
    go_wp2_with fail
    go_ret
    exact ⟨ret_bool (by simp), hT3⟩
  obtain ⟨w0, hw0⟩ : ∃ w0, (w.alloc (.cells #[.slice n.qa n.qm n.qc, .slice n.la n.lm n.lc, .int .i64 n.k.t, .int .i64 n.k.r, .int .i64 n.k.s, .int .i64 n.k.q, .slice n.ga n.gm n.gc] 27)) = w0 := ⟨_, rfl⟩
  have hT0 : Below w.heap.size w w0 := by rw [← hw0]; exact below_alloc1 _ _
  have hn0 : w0.heap[w.heap.size]? = some (.cells #[.slice n.qa n.qm n.qc, .slice n.la n.lm n.lc, .int .i64 n.k.t, .int .i64 n.k.r, .int .i64 n.k.s, .int .i64 n.k.q, .slice n.ga n.gm n.gc] 27) := by rw [← hw0]; exact World.alloc_heap_new _ _
  have hs0 : w0.heap.size = w.heap.size + 1 := by rw [← hw0]; simp
  have Hs0 := Lib.hid hs0
  clear hs0
  obtain ⟨nc0, nc1, nc2, nc3, nc4, nc5, nc6⟩ := cells7' hn0
  go_enter Try.func16, Try.ntmps16
  go_wp2_with fail
  clear nc0 nc1 nc2 nc3 nc4 nc5 nc6
  clear hw0
  have hZ0 := Below.refl w0.heap.size w0
  refine (refFs_c (h.q.to hT0) 16 16 rfl true H1.out).mono ?_
  rintro e w1 ⟨rfl, hB1⟩
  have hT1 := below_then hT0 hB1
  have hZ1 := below_then hZ0 hB1
  clear hZ0
  have hn1 := block_below hB1 hn0
  clear hT0 hn0  hB1
  obtain ⟨nc0, nc1, nc2, nc3, nc4, nc5, nc6⟩ := cells7' hn1
  go_wp2_with fail
  clear nc0 nc1 nc2 nc3 nc4 nc5 nc6
  refine (refFs_c (h.g.to hT1) 64 64 rfl true H2.out).mono ?_
  rintro e w2 ⟨rfl, hB2⟩
  have hT2 := below_then hT1 hB2
  have hZ2 := below_then hZ1 hB2
  clear hZ1
  have hn2 := block_below hB2 hn1
  clear hT1 hn1  hB2
  obtain ⟨nc0, nc1, nc2, nc3, nc4, nc5, nc6⟩ := cells7' hn2
  go_wp2_with fail
  clear nc0 nc1 nc2 nc3 nc4 nc5 nc6
  refine (refLs_c (h.l.to hT2) true H3.out).mono ?_
  rintro e w3 ⟨rfl, hB3⟩
  have hT3 := below_then hT2 hB3
  have hZ3 := below_then hZ2 hB3
  clear hZ2
  have hn3 := block_below hB3 hn2
  clear hT2 hn2  hB3
  obtain ⟨nc0, nc1, nc2, nc3, nc4, nc5, nc6⟩ := cells7' hn3
  go_wp2_with fail
  clear nc0 nc1 nc2 nc3 nc4 nc5 nc6
  refine (refRight_q_NCn n.k q4 H4.out w3).mono ?_
  rintro e w4 ⟨rfl, hB4⟩
  have hT4 := below_then hT3 hB4
  have hZ4 := below_then hZ3 hB4
  clear hZ3
  have hn4 := block_below hB4 hn3
  clear hT3 hn3  hB4
  obtain ⟨nc0, nc1, nc2, nc3, nc4, nc5, nc6⟩ := cells7' hn4
  go_wp2_with fail
  go_ret
  exact ⟨ret_bool (by simp), hT4⟩

set_option maxRecDepth 100000 in
set_option maxHeartbeats 1000000 in
theorem refNew_c {w : World} {P : Nat → Prop} {A : Option Addr} {n c : Nat} {ls : List FL} (h : LSl w P A n c ls) (hm : n ≤ 1000) (hP : ∀ b, w.heap.size ≤ b → P b) (er : Int) (her : newE ls = er) (N : NC) (hN : newN ls = N) :
    Calls Try.prog 14 #[.slice A n c] w fun e w' => ∃ n' : NV, e = .returned (.tuple #[n'.v, .int .i64 er]) ∧ NIs w' P n' N ∧ Below w.heap.size w w' := by
  obtain ⟨q, hq⟩ : ∃ q, rightLs 8 ls = q := ⟨_, rfl⟩
  have Hq := Lib.hid hq
  unfold newE rightLk at her
  unfold newN rightLk at hN
  rw [hq] at her hN
  clear hq
  cases q
  · skip
    obtain rfl : 1 = er := her
    obtain rfl : zeroN = N := hN
    obtain ⟨w0, hw0⟩ : ∃ w0, (w.alloc (.cells #[.slice none 0 0, .slice none 0 0, .int .i64 0, .int .i64 0, .int .i64 0, .int .i64 0, .slice none 0 0] 27)) = w0 := ⟨_, rfl⟩
    have hT0 : Below w.heap.size w w0 := by rw [← hw0]; exact below_alloc1 _ _
    have hr0 : w0.heap[w.heap.size]? = some (.cells #[.slice none 0 0, .slice none 0 0, .int .i64 0, .int .i64 0, .int .i64 0, .int .i64 0, .slice none 0 0] 27) := by rw [← hw0]; exact World.alloc_heap_new _ _
    have hs0 : w0.heap.size = w.heap.size + 1 := by rw [← hw0]; simp
    have Hs0 := Lib.hid hs0
    clear hs0
    obtain ⟨rc0, rc1, rc2, rc3, rc4, rc5, rc6⟩ := cells7' hr0
    go_enter Try.func14, Try.ntmps14
    go_wp2_with fail
    clear rc0 rc1 rc2 rc3 rc4 rc5 rc6
    clear hw0
    have hZ0 := Below.refl w0.heap.size w0
    refine (refLs_c (h.to hT0) false Hq.out).mono ?_
    rintro e w1 ⟨rfl, hB1⟩
    have hT1 := below_then hT0 hB1
    have hZ1 := below_then hZ0 hB1
    clear hZ0
    have hr1 := block_below hB1 hr0
    clear hT0 hr0  hB1
    obtain ⟨⟨rc0, rc1, rc2, rc3, rc4, rc5, rc6⟩, rf0, rf1, rf2, rf3, rf4, rf5, rf6⟩ := cells7 hr1
    go_wp2_with fail
    clear rc0 rc1 rc2 rc3 rc4 rc5 rc6 rf0 rf1 rf2 rf3 rf4 rf5 rf6
    exact bodyPost_ret (v := .tuple #[NV.v zeroNV, .int .i64 1]) (results_n1 (n := zeroNV) (u := .int .i64 1) rfl _ rfl rfl (set7_obj hr1 _ _ _ _ _ _ _)) rfl (⟨zeroNV, rfl, nis_zero, (below_g hT1 (set7_grown _ _ _ _ _ _ _ _ _) (by omega))⟩)
  obtain rfl : 0 = er := her
  obtain rfl : (⟨[], ls, newV, []⟩ : NC) = N := hN
  obtain ⟨w0, hw0⟩ : ∃ w0, (w.alloc (.cells #[.slice none 0 0, .slice none 0 0, .int .i64 0, .int .i64 0, .int .i64 0, .int .i64 0, .slice none 0 0] 27)) = w0 := ⟨_, rfl⟩
  have hT0 : Below w.heap.size w w0 := by rw [← hw0]; exact below_alloc1 _ _
  have hr0 : w0.heap[w.heap.size]? = some (.cells #[.slice none 0 0, .slice none 0 0, .int .i64 0, .int .i64 0, .int .i64 0, .int .i64 0, .slice none 0 0] 27) := by rw [← hw0]; exact World.alloc_heap_new _ _
  have hs0 : w0.heap.size = w.heap.size + 1 := by rw [← hw0]; simp
  have Hs0 := Lib.hid hs0
  clear hs0
  obtain ⟨rc0, rc1, rc2, rc3, rc4, rc5, rc6⟩ := cells7' hr0
  go_enter Try.func14, Try.ntmps14
  go_wp2_with fail
  clear rc0 rc1 rc2 rc3 rc4 rc5 rc6
  clear hw0
  have hZ0 := Below.refl w0.heap.size w0
  refine (refLs_c (h.to hT0) true Hq.out).mono ?_
  rintro e w1 ⟨rfl, hB1⟩
  have hT1 := below_then hT0 hB1
  have hZ1 := below_then hZ0 hB1
  clear hZ0
  have hr1 := block_below hB1 hr0
  clear hT0 hr0  hB1
  have hlr := (Array.getElem?_eq_some_iff.1 hr1).1
  have hL := h.to hT1
  have HL := Lib.hid hL.len
  go_wp2_with (at_builtin; refine wpList_append_fl _ rfl _ _ rfl w1.heap.size _ 0 [] rfl (lown_empty w1 _ _ rfl (Nat.le_refl _)) A n c _ ls rfl HL.out (hL.row.to (below_alloc1 _ _)) (by omega) (by simp) ?_; intro A2 c2 w2 hown_ hc_ hBx)
  have hB2 : Below w1.heap.size w1 w2 := ((Below.refl _ _).alloc (Nat.le_refl _) _).trans hBx
  simp only [Nat.zero_add, List.nil_append] at hown_ hc_
  have hle_ := hT1.size
  have hl_ : LSl w2 (Gap P w.heap.size (w.heap.size + 1)) A2 n c2 ls := LSl.own hown_ hm h.wide (fun b hb => gap_up hP (by omega) b (by omega))
  clear hown_ hc_ hBx hlr hL hle_
  have hT2 := below_then hT1 hB2
  have hZ2 := below_then hZ1 hB2
  clear hZ1
  have hr2 := block_below hB2 hr1
  clear hT1 hr1  hB2
  have hl2 := hl_
  clear hl_
  refine (refNew_any w2).mono ?_
  rintro e w3 ⟨rfl, hB3⟩
  have hT3 := below_then hT2 hB3
  have hZ3 := below_then hZ2 hB3
  clear hZ2
  have hr3 := block_below hB3 hr2
  have hl3 := LSl.to hl2 hB3
  clear hT2 hr2 hl2 hB3
  obtain ⟨⟨rc0, rc1, rc2, rc3, rc4, rc5, rc6⟩, rf0, rf1, rf2, rf3, rf4, rf5, rf6⟩ := cells7 hr3
  go_wp2_with fail
  clear rc0 rc1 rc2 rc3 rc4 rc5 rc6 rf0 rf1 rf2 rf3 rf4 rf5 rf6
  exact bodyPost_ret (v := .tuple #[NV.v ⟨none, 0, 0, A2, n, c2, newV, none, 0, 0⟩, .int .i64 0]) (results_n1 (n := ⟨none, 0, 0, A2, n, c2, newV, none, 0, 0⟩) (u := .int .i64 0) rfl _ rfl rfl (set7_obj hr3 _ _ _ _ _ _ _)) rfl (⟨⟨none, 0, 0, A2, n, c2, newV, none, 0, 0⟩, rfl, ⟨FSl.none_, (hl3.grow (set7_grown _ _ _ _ _ _ _ _ _) (gap_not (Nat.le_refl _) (by omega))).mono (fun _ _ hp => hp.1), rfl, FSl.none_⟩, (below_g hT3 (set7_grown _ _ _ _ _ _ _ _ _) (by omega))⟩)

end Go.Proofs.Ytlbgilbigcnleaa
