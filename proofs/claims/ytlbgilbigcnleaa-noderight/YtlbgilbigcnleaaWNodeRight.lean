/-
  NodeRight: the walk.
-/
import Derived.Test.YtlbgilbigcnleaaNdG
import Derived.Test.YtlbgilbigcnleaaNdV
namespace Go.Proofs.Ytlbgilbigcnleaa
open Go.RowKit
set_option linter.unusedVariables false
set_option linter.unusedSimpArgs false

set_option maxRecDepth 100000 in
set_option maxHeartbeats 2000000 in
theorem nodeRight_any (n : NV) (N : NC) (f : FV) (F : FC) (a b : Bool) (w : World) (h : NIs w (fun _ => True) n N) (hf : FIs w (fun _ => True) f F) :
    Calls Try.prog 4 #[n.v, f.v, .bool a, .bool b] w fun e w' => e = .returned (.bool true) ∧ Below w.heap.size w w' := by
  obtain ⟨w0, hw0⟩ : ∃ w0, ((w.alloc (.cells #[.slice n.qa n.qm n.qc, .slice n.la n.lm n.lc, .int .i64 n.k.t, .int .i64 n.k.r, .int .i64 n.k.s, .int .i64 n.k.q, .slice n.ga n.gm n.gc] 27)).alloc (.cells #[.bool f.x, .int .i64 f.i, .bool f.r, .int .i64 f.n, .slice f.a f.m f.c] 30)) = w0 := ⟨_, rfl⟩
  have hT0 : Below w.heap.size w w0 := by rw [← hw0]; exact below_then (below_alloc1 _ _) (below_alloc1 _ _)
  have hn0 : w0.heap[w.heap.size]? = some (.cells #[.slice n.qa n.qm n.qc, .slice n.la n.lm n.lc, .int .i64 n.k.t, .int .i64 n.k.r, .int .i64 n.k.s, .int .i64 n.k.q, .slice n.ga n.gm n.gc] 27) := by rw [← hw0]; exact block_below (below_alloc1 _ _) (World.alloc_heap_new _ _)
  have hf0 : w0.heap[(w.heap.size + 1)]? = some (.cells #[.bool f.x, .int .i64 f.i, .bool f.r, .int .i64 f.n, .slice f.a f.m f.c] 30) := by rw [← hw0]; exact alloc_at _ _ (by simp)
  have hs0 : w0.heap.size = w.heap.size + 2 := by rw [← hw0]; simp
  have Hs0 := Lib.hid hs0
  clear hs0
  have hln := (Array.getElem?_eq_some_iff.1 hn0).1
  obtain ⟨nc0, nc1, nc2, nc3, nc4, nc5, nc6⟩ := cells7' hn0
  have hlf := (Array.getElem?_eq_some_iff.1 hf0).1
  obtain ⟨fc0, fc1, fc2, fc3, fc4⟩ := cells5' hf0
  go_enter Try.func4, Try.ntmps4
  go_wp2_with fail
  clear hln nc0 nc1 nc2 nc3 nc4 nc5 nc6 hlf fc0 fc1 fc2 fc3 fc4
  clear hw0
  have hZ0 := Below.refl w0.heap.size w0
  have hN0 := h.to hT0
  have hF0 := hf.to hT0
  refine (head_c w0).mono ?_
  rintro e w1 ⟨rfl, hB1⟩
  have hT1 := below_then hT0 hB1
  have hZ1 := below_then hZ0 hB1
  clear hZ0
  have hn1 := block_below hB1 hn0
  have hf1 := block_below hB1 hf0
  have hN1 := NIs.to hN0 hB1
  have hF1 := FIs.to hF0 hB1
  clear hT0 hn0 hf0 hN0 hF0 hB1
  have hln := (Array.getElem?_eq_some_iff.1 hn1).1
  obtain ⟨nc0, nc1, nc2, nc3, nc4, nc5, nc6⟩ := cells7' hn1
  have hlf := (Array.getElem?_eq_some_iff.1 hf1).1
  obtain ⟨fc0, fc1, fc2, fc3, fc4⟩ := cells5' hf1
  go_wp2_with fail
  clear hln nc0 nc1 nc2 nc3 nc4 nc5 nc6 hlf fc0 fc1 fc2 fc3 fc4
  refine (great9_c hN1).mono ?_
  rintro e w2 ⟨rfl | rfl, hB2⟩
  · skip
    have hT2 := below_then hT1 hB2
    have hZ2 := below_then hZ1 hB2
    clear hZ1
    have hn2 := block_below hB2 hn1
    have hf2 := block_below hB2 hf1
    have hN2 := NIs.to hN1 hB2
    have hF2 := FIs.to hF1 hB2
    clear hT1 hn1 hf1 hN1 hF1 hB2
    have hln := (Array.getElem?_eq_some_iff.1 hn2).1
    obtain ⟨nc0, nc1, nc2, nc3, nc4, nc5, nc6⟩ := cells7' hn2
    have hlf := (Array.getElem?_eq_some_iff.1 hf2).1
    obtain ⟨fc0, fc1, fc2, fc3, fc4⟩ := cells5' hf2
    go_wp2_with fail
    go_ret
    exact ⟨rfl, hT2⟩
  have hT2 := below_then hT1 hB2
  have hZ2 := below_then hZ1 hB2
  clear hZ1
  have hn2 := block_below hB2 hn1
  have hf2 := block_below hB2 hf1
  have hN2 := NIs.to hN1 hB2
  have hF2 := FIs.to hF1 hB2
  clear hT1 hn1 hf1 hN1 hF1 hB2
  have hln := (Array.getElem?_eq_some_iff.1 hn2).1
  obtain ⟨nc0, nc1, nc2, nc3, nc4, nc5, nc6⟩ := cells7' hn2
  have hlf := (Array.getElem?_eq_some_iff.1 hf2).1
  obtain ⟨fc0, fc1, fc2, fc3, fc4⟩ := cells5' hf2
  go_wp2_with fail
  clear hln nc0 nc1 nc2 nc3 nc4 nc5 nc6 hlf fc0 fc1 fc2 fc3 fc4
  obtain ⟨g, hg⟩ : ∃ q, decide (100 < F.d.length) = q := ⟨_, rfl⟩
  have Hg := Lib.hid hg
  clear hg
  cases g
  rotate_left
  · skip
    refine (great_c hF2 true Hg.out).mono ?_
    rintro e w3 ⟨rfl, hB3⟩
    have hT3 := below_then hT2 hB3
    have hZ3 := below_then hZ2 hB3
    clear hZ2
    have hn3 := block_below hB3 hn2
    have hf3 := block_below hB3 hf2
    have hN3 := NIs.to hN2 hB3
    have hF3 := FIs.to hF2 hB3
    clear hT2 hn2 hf2 hN2 hF2 hB3
    have hln := (Array.getElem?_eq_some_iff.1 hn3).1
    obtain ⟨nc0, nc1, nc2, nc3, nc4, nc5, nc6⟩ := cells7' hn3
    have hlf := (Array.getElem?_eq_some_iff.1 hf3).1
    obtain ⟨fc0, fc1, fc2, fc3, fc4⟩ := cells5' hf3
    go_wp2_with fail
    go_ret
    exact ⟨rfl, hT3⟩
  refine (great_c hF2 false Hg.out).mono ?_
  rintro e w3 ⟨rfl, hB3⟩
  have hT3 := below_then hT2 hB3
  have hZ3 := below_then hZ2 hB3
  clear hZ2
  have hn3 := block_below hB3 hn2
  have hf3 := block_below hB3 hf2
  have hN3 := NIs.to hN2 hB3
  have hF3 := FIs.to hF2 hB3
  clear hT2 hn2 hf2 hN2 hF2 hB3
  have hln := (Array.getElem?_eq_some_iff.1 hn3).1
  obtain ⟨nc0, nc1, nc2, nc3, nc4, nc5, nc6⟩ := cells7' hn3
  have hlf := (Array.getElem?_eq_some_iff.1 hf3).1
  obtain ⟨fc0, fc1, fc2, fc3, fc4⟩ := cells5' hf3
  go_wp2_with fail
  clear hln nc0 nc1 nc2 nc3 nc4 nc5 nc6 hlf fc0 fc1 fc2 fc3 fc4
  obtain ⟨q, hq⟩ : ∃ q, rightN N = q := ⟨_, rfl⟩
  have Hq := Lib.hid hq
  clear hq
  cases q
  · skip
    refine (right_c hN3 false Hq.out).mono ?_
    rintro e w4 ⟨rfl, hB4⟩
    have hT4 := below_then hT3 hB4
    have hZ4 := below_then hZ3 hB4
    clear hZ3
    have hn4 := block_below hB4 hn3
    have hf4 := block_below hB4 hf3
    have hN4 := NIs.to hN3 hB4
    have hF4 := FIs.to hF3 hB4
    clear hT3 hn3 hf3 hN3 hF3 hB4
    have hln := (Array.getElem?_eq_some_iff.1 hn4).1
    obtain ⟨nc0, nc1, nc2, nc3, nc4, nc5, nc6⟩ := cells7' hn4
    have hlf := (Array.getElem?_eq_some_iff.1 hf4).1
    obtain ⟨fc0, fc1, fc2, fc3, fc4⟩ := cells5' hf4
    go_wp2_with fail
    go_ret
    exact ⟨rfl, hT4⟩
  refine (right_c hN3 true Hq.out).mono ?_
  rintro e w4 ⟨rfl, hB4⟩
  have hT4 := below_then hT3 hB4
  have hZ4 := below_then hZ3 hB4
  clear hZ3
  have hn4 := block_below hB4 hn3
  have hf4 := block_below hB4 hf3
  have hN4 := NIs.to hN3 hB4
  have hF4 := FIs.to hF3 hB4
  clear hT3 hn3 hf3 hN3 hF3 hB4
  have hln := (Array.getElem?_eq_some_iff.1 hn4).1
  obtain ⟨nc0, nc1, nc2, nc3, nc4, nc5, nc6⟩ := cells7' hn4
  have hlf := (Array.getElem?_eq_some_iff.1 hf4).1
  obtain ⟨fc0, fc1, fc2, fc3, fc4⟩ := cells5' hf4
  go_wp2_with fail
  clear hln nc0 nc1 nc2 nc3 nc4 nc5 nc6 hlf fc0 fc1 fc2 fc3 fc4
  have Hok := Lib.hid (rightN_iff.1 Hq.out)
  refine (send_c hN4 hF4 Hok.out (fun _ _ => trivial) _ rfl _ rfl).mono ?_
  rintro e w5 ⟨n1, rfl, hn1_, hB5⟩
  have hT5 := below_then hT4 hB5
  have hZ5 := below_then hZ4 hB5
  clear hZ4
  have hn5 := block_below hB5 hn4
  have hf5 := block_below hB5 hf4
  have hN5 := NIs.to hN4 hB5
  have hF5 := FIs.to hF4 hB5
  clear hT4 hn4 hf4 hN4 hF4 hB5
  have hn15 := hn1_
  clear hn1_
  have hln := (Array.getElem?_eq_some_iff.1 hn5).1
  obtain ⟨nc0, nc1, nc2, nc3, nc4, nc5, nc6⟩ := cells7' hn5
  have hlf := (Array.getElem?_eq_some_iff.1 hf5).1
  obtain ⟨fc0, fc1, fc2, fc3, fc4⟩ := cells5' hf5
  go_wp2_with fail
  clear hln nc0 nc1 nc2 nc3 nc4 nc5 nc6 hlf fc0 fc1 fc2 fc3 fc4
  obtain ⟨w6, hw6⟩ : ∃ w6, w5.alloc (.cells #[.slice n1.qa n1.qm n1.qc, .slice n1.la n1.lm n1.lc, .int .i64 n1.k.t, .int .i64 n1.k.r, .int .i64 n1.k.s, .int .i64 n1.k.q, .slice n1.ga n1.gm n1.gc] 27) = w6 := ⟨_, rfl⟩
  have hB6 : Below w5.heap.size w5 w6 := by rw [← hw6]; exact below_alloc1 _ _
  have hx6 : w6.heap[w5.heap.size]? = some (.cells #[.slice n1.qa n1.qm n1.qc, .slice n1.la n1.lm n1.lc, .int .i64 n1.k.t, .int .i64 n1.k.r, .int .i64 n1.k.s, .int .i64 n1.k.q, .slice n1.ga n1.gm n1.gc] 27) := by rw [← hw6]; exact World.alloc_heap_new _ _
  rw [hw6]
  clear hw6
  have hT6 := below_then hT5 hB6
  have hZ6 := below_then hZ5 hB6
  clear hZ5
  have hn6 := block_below hB6 hn5
  have hf6 := block_below hB6 hf5
  have hN6 := NIs.to hN5 hB6
  have hF6 := FIs.to hF5 hB6
  have hn16 := NIs.to hn15 hB6
  clear hT5 hn5 hf5 hN5 hF5 hn15 hB6
  refine (take_c hN6 Hok.out (fun _ _ => trivial) _ rfl _ rfl _ rfl).mono ?_
  rintro e w7 ⟨n2, f2, rfl, hn2_, hf2_, hB7⟩
  have hT7 := below_then hT6 hB7
  have hZ7 := below_then hZ6 hB7
  clear hZ6
  have hn7 := block_below hB7 hn6
  have hf7 := block_below hB7 hf6
  have hx7 := block_below hB7 hx6
  have hN7 := NIs.to hN6 hB7
  have hF7 := FIs.to hF6 hB7
  have hn17 := NIs.to hn16 hB7
  clear hT6 hn6 hf6 hx6 hN6 hF6 hn16 hB7
  have hn27 := hn2_
  clear hn2_
  have hf27 := hf2_
  clear hf2_
  have hln := (Array.getElem?_eq_some_iff.1 hn7).1
  obtain ⟨nc0, nc1, nc2, nc3, nc4, nc5, nc6⟩ := cells7' hn7
  have hlf := (Array.getElem?_eq_some_iff.1 hf7).1
  obtain ⟨fc0, fc1, fc2, fc3, fc4⟩ := cells5' hf7
  have hlx := (Array.getElem?_eq_some_iff.1 hx7).1
  obtain ⟨xc0, xc1, xc2, xc3, xc4, xc5, xc6⟩ := cells7' hx7
  go_wp2_with fail
  clear hln nc0 nc1 nc2 nc3 nc4 nc5 nc6 hlf fc0 fc1 fc2 fc3 fc4 hlx xc0 xc1 xc2 xc3 xc4 xc5 xc6
  obtain ⟨w8, hw8⟩ : ∃ w8, w7.alloc (.cells #[.slice n2.qa n2.qm n2.qc, .slice n2.la n2.lm n2.lc, .int .i64 n2.k.t, .int .i64 n2.k.r, .int .i64 n2.k.s, .int .i64 n2.k.q, .slice n2.ga n2.gm n2.gc] 27) = w8 := ⟨_, rfl⟩
  have hB8 : Below w7.heap.size w7 w8 := by rw [← hw8]; exact below_alloc1 _ _
  have hy8 : w8.heap[w7.heap.size]? = some (.cells #[.slice n2.qa n2.qm n2.qc, .slice n2.la n2.lm n2.lc, .int .i64 n2.k.t, .int .i64 n2.k.r, .int .i64 n2.k.s, .int .i64 n2.k.q, .slice n2.ga n2.gm n2.gc] 27) := by rw [← hw8]; exact World.alloc_heap_new _ _
  rw [hw8]
  clear hw8
  have hT8 := below_then hT7 hB8
  have hZ8 := below_then hZ7 hB8
  clear hZ7
  have hn8 := block_below hB8 hn7
  have hf8 := block_below hB8 hf7
  have hx8 := block_below hB8 hx7
  have hN8 := NIs.to hN7 hB8
  have hF8 := FIs.to hF7 hB8
  have hn18 := NIs.to hn17 hB8
  have hn28 := NIs.to hn27 hB8
  have hf28 := FIs.to hf27 hB8
  clear hT7 hn7 hf7 hx7 hN7 hF7 hn17 hn27 hf27 hB8
  obtain ⟨w9, hw9⟩ : ∃ w9, w8.alloc (.cells #[.bool f2.x, .int .i64 f2.i, .bool f2.r, .int .i64 f2.n, .slice f2.a f2.m f2.c] 30) = w9 := ⟨_, rfl⟩
  have hB9 : Below w8.heap.size w8 w9 := by rw [← hw9]; exact below_alloc1 _ _
  have hz9 : w9.heap[w8.heap.size]? = some (.cells #[.bool f2.x, .int .i64 f2.i, .bool f2.r, .int .i64 f2.n, .slice f2.a f2.m f2.c] 30) := by rw [← hw9]; exact World.alloc_heap_new _ _
  rw [hw9]
  clear hw9
  have hT9 := below_then hT8 hB9
  have hZ9 := below_then hZ8 hB9
  clear hZ8
  have hn9 := block_below hB9 hn8
  have hf9 := block_below hB9 hf8
  have hx9 := block_below hB9 hx8
  have hy9 := block_below hB9 hy8
  have hN9 := NIs.to hN8 hB9
  have hF9 := FIs.to hF8 hB9
  have hn19 := NIs.to hn18 hB9
  have hn29 := NIs.to hn28 hB9
  have hf29 := FIs.to hf28 hB9
  clear hT8 hn8 hf8 hx8 hy8 hN8 hF8 hn18 hn28 hf28 hB9
  refine (right_c hn19 true (rightN_iff.2 (ok_send Hok.out _))).mono ?_
  rintro e w10 ⟨rfl, hB10⟩
  have hT10 := below_then hT9 hB10
  have hZ10 := below_then hZ9 hB10
  clear hZ9
  have hn10 := block_below hB10 hn9
  have hf10 := block_below hB10 hf9
  have hx10 := block_below hB10 hx9
  have hy10 := block_below hB10 hy9
  have hz10 := block_below hB10 hz9
  have hN10 := NIs.to hN9 hB10
  have hF10 := FIs.to hF9 hB10
  have hn110 := NIs.to hn19 hB10
  have hn210 := NIs.to hn29 hB10
  have hf210 := FIs.to hf29 hB10
  clear hT9 hn9 hf9 hx9 hy9 hz9 hN9 hF9 hn19 hn29 hf29 hB10
  have hln := (Array.getElem?_eq_some_iff.1 hn10).1
  obtain ⟨nc0, nc1, nc2, nc3, nc4, nc5, nc6⟩ := cells7' hn10
  have hlf := (Array.getElem?_eq_some_iff.1 hf10).1
  obtain ⟨fc0, fc1, fc2, fc3, fc4⟩ := cells5' hf10
  have hlx := (Array.getElem?_eq_some_iff.1 hx10).1
  obtain ⟨xc0, xc1, xc2, xc3, xc4, xc5, xc6⟩ := cells7' hx10
  have hly := (Array.getElem?_eq_some_iff.1 hy10).1
  obtain ⟨yc0, yc1, yc2, yc3, yc4, yc5, yc6⟩ := cells7' hy10
  have hlz := (Array.getElem?_eq_some_iff.1 hz10).1
  obtain ⟨zc0, zc1, zc2, zc3, zc4⟩ := cells5' hz10
  go_wp2_with fail
  clear hln nc0 nc1 nc2 nc3 nc4 nc5 nc6 hlf fc0 fc1 fc2 fc3 fc4 hlx xc0 xc1 xc2 xc3 xc4 xc5 xc6 hly yc0 yc1 yc2 yc3 yc4 yc5 yc6 hlz zc0 zc1 zc2 zc3 zc4
  refine (right_c hn210 true (rightN_iff.2 (ok_take Hok.out))).mono ?_
  rintro e w11 ⟨rfl, hB11⟩
  have hT11 := below_then hT10 hB11
  have hZ11 := below_then hZ10 hB11
  clear hZ10
  have hn11 := block_below hB11 hn10
  have hf11 := block_below hB11 hf10
  have hx11 := block_below hB11 hx10
  have hy11 := block_below hB11 hy10
  have hz11 := block_below hB11 hz10
  have hN11 := NIs.to hN10 hB11
  have hF11 := FIs.to hF10 hB11
  have hn111 := NIs.to hn110 hB11
  have hn211 := NIs.to hn210 hB11
  have hf211 := FIs.to hf210 hB11
  clear hT10 hn10 hf10 hx10 hy10 hz10 hN10 hF10 hn110 hn210 hf210 hB11
  have hln := (Array.getElem?_eq_some_iff.1 hn11).1
  obtain ⟨nc0, nc1, nc2, nc3, nc4, nc5, nc6⟩ := cells7' hn11
  have hlf := (Array.getElem?_eq_some_iff.1 hf11).1
  obtain ⟨fc0, fc1, fc2, fc3, fc4⟩ := cells5' hf11
  have hlx := (Array.getElem?_eq_some_iff.1 hx11).1
  obtain ⟨xc0, xc1, xc2, xc3, xc4, xc5, xc6⟩ := cells7' hx11
  have hly := (Array.getElem?_eq_some_iff.1 hy11).1
  obtain ⟨yc0, yc1, yc2, yc3, yc4, yc5, yc6⟩ := cells7' hy11
  have hlz := (Array.getElem?_eq_some_iff.1 hz11).1
  obtain ⟨zc0, zc1, zc2, zc3, zc4⟩ := cells5' hz11
  go_wp2_with fail
  clear hln nc0 nc1 nc2 nc3 nc4 nc5 nc6 hlf fc0 fc1 fc2 fc3 fc4 hlx xc0 xc1 xc2 xc3 xc4 xc5 xc6 hly yc0 yc1 yc2 yc3 yc4 yc5 yc6 hlz zc0 zc1 zc2 zc3 zc4
  refine (sent_c hN11 Hok.out (fun _ _ => trivial) a _ rfl).mono ?_
  rintro e w12 ⟨n3, rfl, hn3_, hB12⟩
  have hT12 := below_then hT11 hB12
  have hZ12 := below_then hZ11 hB12
  clear hZ11
  have hn12 := block_below hB12 hn11
  have hf12 := block_below hB12 hf11
  have hx12 := block_below hB12 hx11
  have hy12 := block_below hB12 hy11
  have hz12 := block_below hB12 hz11
  have hN12 := NIs.to hN11 hB12
  have hF12 := FIs.to hF11 hB12
  have hn112 := NIs.to hn111 hB12
  have hn212 := NIs.to hn211 hB12
  have hf212 := FIs.to hf211 hB12
  clear hT11 hn11 hf11 hx11 hy11 hz11 hN11 hF11 hn111 hn211 hf211 hB12
  have hn312 := hn3_
  clear hn3_
  have hln := (Array.getElem?_eq_some_iff.1 hn12).1
  obtain ⟨nc0, nc1, nc2, nc3, nc4, nc5, nc6⟩ := cells7' hn12
  have hlf := (Array.getElem?_eq_some_iff.1 hf12).1
  obtain ⟨fc0, fc1, fc2, fc3, fc4⟩ := cells5' hf12
  have hlx := (Array.getElem?_eq_some_iff.1 hx12).1
  obtain ⟨xc0, xc1, xc2, xc3, xc4, xc5, xc6⟩ := cells7' hx12
  have hly := (Array.getElem?_eq_some_iff.1 hy12).1
  obtain ⟨yc0, yc1, yc2, yc3, yc4, yc5, yc6⟩ := cells7' hy12
  have hlz := (Array.getElem?_eq_some_iff.1 hz12).1
  obtain ⟨zc0, zc1, zc2, zc3, zc4⟩ := cells5' hz12
  go_wp2_with fail
  clear hln nc0 nc1 nc2 nc3 nc4 nc5 nc6 hlf fc0 fc1 fc2 fc3 fc4 hlx xc0 xc1 xc2 xc3 xc4 xc5 xc6 hly yc0 yc1 yc2 yc3 yc4 yc5 yc6 hlz zc0 zc1 zc2 zc3 zc4
  refine (right_c hn312 true (rightN_iff.2 (ok_sent Hok.out _))).mono ?_
  rintro e w13 ⟨rfl, hB13⟩
  have hT13 := below_then hT12 hB13
  have hZ13 := below_then hZ12 hB13
  clear hZ12
  have hn13 := block_below hB13 hn12
  have hf13 := block_below hB13 hf12
  have hx13 := block_below hB13 hx12
  have hy13 := block_below hB13 hy12
  have hz13 := block_below hB13 hz12
  have hN13 := NIs.to hN12 hB13
  have hF13 := FIs.to hF12 hB13
  have hn113 := NIs.to hn112 hB13
  have hn213 := NIs.to hn212 hB13
  have hf213 := FIs.to hf212 hB13
  have hn313 := NIs.to hn312 hB13
  clear hT12 hn12 hf12 hx12 hy12 hz12 hN12 hF12 hn112 hn212 hf212 hn312 hB13
  have hln := (Array.getElem?_eq_some_iff.1 hn13).1
  obtain ⟨nc0, nc1, nc2, nc3, nc4, nc5, nc6⟩ := cells7' hn13
  have hlf := (Array.getElem?_eq_some_iff.1 hf13).1
  obtain ⟨fc0, fc1, fc2, fc3, fc4⟩ := cells5' hf13
  have hlx := (Array.getElem?_eq_some_iff.1 hx13).1
  obtain ⟨xc0, xc1, xc2, xc3, xc4, xc5, xc6⟩ := cells7' hx13
  have hly := (Array.getElem?_eq_some_iff.1 hy13).1
  obtain ⟨yc0, yc1, yc2, yc3, yc4, yc5, yc6⟩ := cells7' hy13
  have hlz := (Array.getElem?_eq_some_iff.1 hz13).1
  obtain ⟨zc0, zc1, zc2, zc3, zc4⟩ := cells5' hz13
  go_wp2_with fail
  clear hln nc0 nc1 nc2 nc3 nc4 nc5 nc6 hlf fc0 fc1 fc2 fc3 fc4 hlx xc0 xc1 xc2 xc3 xc4 xc5 xc6 hly yc0 yc1 yc2 yc3 yc4 yc5 yc6 hlz zc0 zc1 zc2 zc3 zc4
  refine (quiet_c hN13 Hok.out _ rfl).mono ?_
  rintro e w14 ⟨n4, rfl, hn4_, hB14⟩
  have hT14 := below_then hT13 hB14
  have hZ14 := below_then hZ13 hB14
  clear hZ13
  have hn14 := block_below hB14 hn13
  have hf14 := block_below hB14 hf13
  have hx14 := block_below hB14 hx13
  have hy14 := block_below hB14 hy13
  have hz14 := block_below hB14 hz13
  have hN14 := NIs.to hN13 hB14
  have hF14 := FIs.to hF13 hB14
  have hn114 := NIs.to hn113 hB14
  have hn214 := NIs.to hn213 hB14
  have hf214 := FIs.to hf213 hB14
  have hn314 := NIs.to hn313 hB14
  clear hT13 hn13 hf13 hx13 hy13 hz13 hN13 hF13 hn113 hn213 hf213 hn313 hB14
  have hn414 := hn4_
  clear hn4_
  have hln := (Array.getElem?_eq_some_iff.1 hn14).1
  obtain ⟨nc0, nc1, nc2, nc3, nc4, nc5, nc6⟩ := cells7' hn14
  have hlf := (Array.getElem?_eq_some_iff.1 hf14).1
  obtain ⟨fc0, fc1, fc2, fc3, fc4⟩ := cells5' hf14
  have hlx := (Array.getElem?_eq_some_iff.1 hx14).1
  obtain ⟨xc0, xc1, xc2, xc3, xc4, xc5, xc6⟩ := cells7' hx14
  have hly := (Array.getElem?_eq_some_iff.1 hy14).1
  obtain ⟨yc0, yc1, yc2, yc3, yc4, yc5, yc6⟩ := cells7' hy14
  have hlz := (Array.getElem?_eq_some_iff.1 hz14).1
  obtain ⟨zc0, zc1, zc2, zc3, zc4⟩ := cells5' hz14
  go_wp2_with fail
  clear hln nc0 nc1 nc2 nc3 nc4 nc5 nc6 hlf fc0 fc1 fc2 fc3 fc4 hlx xc0 xc1 xc2 xc3 xc4 xc5 xc6 hly yc0 yc1 yc2 yc3 yc4 yc5 yc6 hlz zc0 zc1 zc2 zc3 zc4
  refine (right_c hn414 true (rightN_iff.2 (ok_quiet Hok.out))).mono ?_
  rintro e w15 ⟨rfl, hB15⟩
  have hT15 := below_then hT14 hB15
  have hZ15 := below_then hZ14 hB15
  clear hZ14
  have hn15 := block_below hB15 hn14
  have hf15 := block_below hB15 hf14
  have hx15 := block_below hB15 hx14
  have hy15 := block_below hB15 hy14
  have hz15 := block_below hB15 hz14
  have hN15 := NIs.to hN14 hB15
  have hF15 := FIs.to hF14 hB15
  have hn115 := NIs.to hn114 hB15
  have hn215 := NIs.to hn214 hB15
  have hf215 := FIs.to hf214 hB15
  have hn315 := NIs.to hn314 hB15
  have hn415 := NIs.to hn414 hB15
  clear hT14 hn14 hf14 hx14 hy14 hz14 hN14 hF14 hn114 hn214 hf214 hn314 hn414 hB15
  have hln := (Array.getElem?_eq_some_iff.1 hn15).1
  obtain ⟨nc0, nc1, nc2, nc3, nc4, nc5, nc6⟩ := cells7' hn15
  have hlf := (Array.getElem?_eq_some_iff.1 hf15).1
  obtain ⟨fc0, fc1, fc2, fc3, fc4⟩ := cells5' hf15
  have hlx := (Array.getElem?_eq_some_iff.1 hx15).1
  obtain ⟨xc0, xc1, xc2, xc3, xc4, xc5, xc6⟩ := cells7' hx15
  have hly := (Array.getElem?_eq_some_iff.1 hy15).1
  obtain ⟨yc0, yc1, yc2, yc3, yc4, yc5, yc6⟩ := cells7' hy15
  have hlz := (Array.getElem?_eq_some_iff.1 hz15).1
  obtain ⟨zc0, zc1, zc2, zc3, zc4⟩ := cells5' hz15
  go_wp2_with fail
  clear hln nc0 nc1 nc2 nc3 nc4 nc5 nc6 hlf fc0 fc1 fc2 fc3 fc4 hlx xc0 xc1 xc2 xc3 xc4 xc5 xc6 hly yc0 yc1 yc2 yc3 yc4 yc5 yc6 hlz zc0 zc1 zc2 zc3 zc4
  obtain ⟨r, hr⟩ : ∃ q, rightC F = q := ⟨_, rfl⟩
  have Hr := Lib.hid hr
  clear hr
  cases r
  · skip
    refine (refFrRight_c hF15 false Hr.out).mono ?_
    rintro e w16 ⟨rfl, hB16⟩
    have hT16 := below_then hT15 hB16
    have hZ16 := below_then hZ15 hB16
    clear hZ15
    have hn16 := block_below hB16 hn15
    have hf16 := block_below hB16 hf15
    have hx16 := block_below hB16 hx15
    have hy16 := block_below hB16 hy15
    have hz16 := block_below hB16 hz15
    have hN16 := NIs.to hN15 hB16
    have hF16 := FIs.to hF15 hB16
    have hn116 := NIs.to hn115 hB16
    have hn216 := NIs.to hn215 hB16
    have hf216 := FIs.to hf215 hB16
    have hn316 := NIs.to hn315 hB16
    have hn416 := NIs.to hn415 hB16
    clear hT15 hn15 hf15 hx15 hy15 hz15 hN15 hF15 hn115 hn215 hf215 hn315 hn415 hB16
    have hln := (Array.getElem?_eq_some_iff.1 hn16).1
    obtain ⟨nc0, nc1, nc2, nc3, nc4, nc5, nc6⟩ := cells7' hn16
    have hlf := (Array.getElem?_eq_some_iff.1 hf16).1
    obtain ⟨fc0, fc1, fc2, fc3, fc4⟩ := cells5' hf16
    have hlx := (Array.getElem?_eq_some_iff.1 hx16).1
    obtain ⟨xc0, xc1, xc2, xc3, xc4, xc5, xc6⟩ := cells7' hx16
    have hly := (Array.getElem?_eq_some_iff.1 hy16).1
    obtain ⟨yc0, yc1, yc2, yc3, yc4, yc5, yc6⟩ := cells7' hy16
    have hlz := (Array.getElem?_eq_some_iff.1 hz16).1
    obtain ⟨zc0, zc1, zc2, zc3, zc4⟩ := cells5' hz16
    go_wp2_with fail
    go_ret
    exact ⟨rfl, hT16⟩
  refine (refFrRight_c hF15 true Hr.out).mono ?_
  rintro e w16 ⟨rfl, hB16⟩
  have hT16 := below_then hT15 hB16
  have hZ16 := below_then hZ15 hB16
  clear hZ15
  have hn16 := block_below hB16 hn15
  have hf16 := block_below hB16 hf15
  have hx16 := block_below hB16 hx15
  have hy16 := block_below hB16 hy15
  have hz16 := block_below hB16 hz15
  have hN16 := NIs.to hN15 hB16
  have hF16 := FIs.to hF15 hB16
  have hn116 := NIs.to hn115 hB16
  have hn216 := NIs.to hn215 hB16
  have hf216 := FIs.to hf215 hB16
  have hn316 := NIs.to hn315 hB16
  have hn416 := NIs.to hn415 hB16
  clear hT15 hn15 hf15 hx15 hy15 hz15 hN15 hF15 hn115 hn215 hf215 hn315 hn415 hB16
  have hln := (Array.getElem?_eq_some_iff.1 hn16).1
  obtain ⟨nc0, nc1, nc2, nc3, nc4, nc5, nc6⟩ := cells7' hn16
  have hlf := (Array.getElem?_eq_some_iff.1 hf16).1
  obtain ⟨fc0, fc1, fc2, fc3, fc4⟩ := cells5' hf16
  have hlx := (Array.getElem?_eq_some_iff.1 hx16).1
  obtain ⟨xc0, xc1, xc2, xc3, xc4, xc5, xc6⟩ := cells7' hx16
  have hly := (Array.getElem?_eq_some_iff.1 hy16).1
  obtain ⟨yc0, yc1, yc2, yc3, yc4, yc5, yc6⟩ := cells7' hy16
  have hlz := (Array.getElem?_eq_some_iff.1 hz16).1
  obtain ⟨zc0, zc1, zc2, zc3, zc4⟩ := cells5' hz16
  go_wp2_with fail
  clear hln nc0 nc1 nc2 nc3 nc4 nc5 nc6 hlf fc0 fc1 fc2 fc3 fc4 hlx xc0 xc1 xc2 xc3 xc4 xc5 xc6 hly yc0 yc1 yc2 yc3 yc4 yc5 yc6 hlz zc0 zc1 zc2 zc3 zc4
  refine (heard_c hN16 hF16 Hok.out Hr.out (fun _ _ => trivial) a b _ rfl).mono ?_
  rintro e w17 ⟨n5, rfl, hn5_, hB17⟩
  have hT17 := below_then hT16 hB17
  have hZ17 := below_then hZ16 hB17
  clear hZ16
  have hn17 := block_below hB17 hn16
  have hf17 := block_below hB17 hf16
  have hx17 := block_below hB17 hx16
  have hy17 := block_below hB17 hy16
  have hz17 := block_below hB17 hz16
  have hN17 := NIs.to hN16 hB17
  have hF17 := FIs.to hF16 hB17
  have hn117 := NIs.to hn116 hB17
  have hn217 := NIs.to hn216 hB17
  have hf217 := FIs.to hf216 hB17
  have hn317 := NIs.to hn316 hB17
  have hn417 := NIs.to hn416 hB17
  clear hT16 hn16 hf16 hx16 hy16 hz16 hN16 hF16 hn116 hn216 hf216 hn316 hn416 hB17
  have hn517 := hn5_
  clear hn5_
  have hln := (Array.getElem?_eq_some_iff.1 hn17).1
  obtain ⟨nc0, nc1, nc2, nc3, nc4, nc5, nc6⟩ := cells7' hn17
  have hlf := (Array.getElem?_eq_some_iff.1 hf17).1
  obtain ⟨fc0, fc1, fc2, fc3, fc4⟩ := cells5' hf17
  have hlx := (Array.getElem?_eq_some_iff.1 hx17).1
  obtain ⟨xc0, xc1, xc2, xc3, xc4, xc5, xc6⟩ := cells7' hx17
  have hly := (Array.getElem?_eq_some_iff.1 hy17).1
  obtain ⟨yc0, yc1, yc2, yc3, yc4, yc5, yc6⟩ := cells7' hy17
  have hlz := (Array.getElem?_eq_some_iff.1 hz17).1
  obtain ⟨zc0, zc1, zc2, zc3, zc4⟩ := cells5' hz17
  go_wp2_with fail
  clear hln nc0 nc1 nc2 nc3 nc4 nc5 nc6 hlf fc0 fc1 fc2 fc3 fc4 hlx xc0 xc1 xc2 xc3 xc4 xc5 xc6 hly yc0 yc1 yc2 yc3 yc4 yc5 yc6 hlz zc0 zc1 zc2 zc3 zc4
  refine (right_c hn517 true (rightN_iff.2 (ok_heard Hok.out Hr.out _ _))).mono ?_
  rintro e w18 ⟨rfl, hB18⟩
  have hT18 := below_then hT17 hB18
  have hZ18 := below_then hZ17 hB18
  clear hZ17
  have hn18 := block_below hB18 hn17
  have hf18 := block_below hB18 hf17
  have hx18 := block_below hB18 hx17
  have hy18 := block_below hB18 hy17
  have hz18 := block_below hB18 hz17
  have hN18 := NIs.to hN17 hB18
  have hF18 := FIs.to hF17 hB18
  have hn118 := NIs.to hn117 hB18
  have hn218 := NIs.to hn217 hB18
  have hf218 := FIs.to hf217 hB18
  have hn318 := NIs.to hn317 hB18
  have hn418 := NIs.to hn417 hB18
  have hn518 := NIs.to hn517 hB18
  clear hT17 hn17 hf17 hx17 hy17 hz17 hN17 hF17 hn117 hn217 hf217 hn317 hn417 hn517 hB18
  have hln := (Array.getElem?_eq_some_iff.1 hn18).1
  obtain ⟨nc0, nc1, nc2, nc3, nc4, nc5, nc6⟩ := cells7' hn18
  have hlf := (Array.getElem?_eq_some_iff.1 hf18).1
  obtain ⟨fc0, fc1, fc2, fc3, fc4⟩ := cells5' hf18
  have hlx := (Array.getElem?_eq_some_iff.1 hx18).1
  obtain ⟨xc0, xc1, xc2, xc3, xc4, xc5, xc6⟩ := cells7' hx18
  have hly := (Array.getElem?_eq_some_iff.1 hy18).1
  obtain ⟨yc0, yc1, yc2, yc3, yc4, yc5, yc6⟩ := cells7' hy18
  have hlz := (Array.getElem?_eq_some_iff.1 hz18).1
  obtain ⟨zc0, zc1, zc2, zc3, zc4⟩ := cells5' hz18
  go_wp2_with fail
  go_ret
  exact ⟨rfl, hT18⟩

end Go.Proofs.Ytlbgilbigcnleaa
