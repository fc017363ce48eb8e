/-
  NodeApart: the walk.
-/
import Derived.Test.YtlbgilbigcnleaaNdG
import Derived.Test.YtlbgilbigcnleaaNdV
import Derived.Test.YtlbgilbigcnleaaNdX
import Derived.Test.YtlbgilbigcnleaaNdO
import Derived.Deep.CutRange
namespace Go.Proofs.Ytlbgilbigcnleaa
open Go.RowKit
set_option linter.unusedVariables false
set_option linter.unusedSimpArgs false

theorem settle_s {c : CV} (h : ¬ 255 < c.t) : (settleV c).s ≠ 3 := by
  unfold settleV
  rw [if_neg h]
  by_cases h2 : 127 < c.t ∨ 127 < c.r
  · rw [if_pos h2]; dsimp only; omega
  · rw [if_neg h2]; dsimp only; omega
theorem heard_s {N : NC} (h : OkN N) (hs : N.k.s ≠ 3) (F : FC) : (heardN N F true false).k.s ≠ 3 := by
  unfold heardN
  rw [if_neg hs, if_pos rfl]
  dsimp only
  unfold stepV
  rw [if_neg hs]
  have hk := h.k
  have e : effV N.k 2 = heardV N.k := by unfold effV; simp
  rw [e]
  refine settle_s ?_
  unfold heardV
  unfold OkC at hk
  dsimp only
  omega
theorem heard_q {N : NC} (hs : N.k.s ≠ 3) (F : FC) : heardN N F true false = ⟨N.q, N.l, stepV N.k 2, gotN N F⟩ := by
  unfold heardN
  rw [if_neg hs, if_pos rfl]
theorem sendE_heard {N : NC} (h : OkN N) (hs : N.k.s ≠ 3) (F G : FC) : sendE (heardN N F true false) G = sendE N G := by
  have h1 := heard_s h hs F
  unfold sendE
  rw [if_neg h1, if_neg hs, heard_q hs]
theorem send_heard {N : NC} (h : OkN N) (hs : N.k.s ≠ 3) (F G : FC) : heardN (sendN N G) F true false = sendN (heardN N F true false) G := by
  unfold sendN
  rw [sendE_heard h hs]
  by_cases e : sendE N G = 0
  · rw [if_pos e, if_pos e, heard_q (N := ⟨N.q ++ [G], N.l, N.k, N.g⟩) hs, heard_q hs]
    rfl
  · rw [if_neg e, if_neg e]
theorem take_sent (N : NC) (ok : Bool) : sentN (takeN N) ok = takeN (sentN N ok) := by
  unfold sentN
  have e : hasN (takeN N) = hasN N := rfl
  rw [e]
  cases hasN N <;> cases ok <;> rfl
theorem sent_g (N : NC) (ok : Bool) : (sentN N ok).g = N.g := by
  unfold sentN
  cases hasN N <;> cases ok <;> rfl

set_option maxRecDepth 100000 in
set_option maxHeartbeats 2000000 in
theorem nodeApart_any (n : NV) (N : NC) (f g : FV) (F G : FC) (ok : Bool) (w : World) (h : NIs w (fun _ => True) n N) (hf : FIs w (fun _ => True) f F) (hg : FIs w (fun _ => True) g G) :
    Calls Try.prog 9 #[n.v, f.v, g.v, .bool ok] w fun e w' => e = .returned (.bool true) ∧ Below w.heap.size w w' := by
  obtain ⟨w0, hw0⟩ : ∃ w0, (((w.alloc (.cells #[.slice n.qa n.qm n.qc, .slice n.la n.lm n.lc, .int .i64 n.k.t, .int .i64 n.k.r, .int .i64 n.k.s, .int .i64 n.k.q, .slice n.ga n.gm n.gc] 27)).alloc (.cells #[.bool f.x, .int .i64 f.i, .bool f.r, .int .i64 f.n, .slice f.a f.m f.c] 30)).alloc (.cells #[.bool g.x, .int .i64 g.i, .bool g.r, .int .i64 g.n, .slice g.a g.m g.c] 30)) = w0 := ⟨_, rfl⟩
  have hT0 : Below w.heap.size w w0 := by rw [← hw0]; exact below_then (below_then (below_alloc1 _ _) (below_alloc1 _ _)) (below_alloc1 _ _)
  have hn0 : w0.heap[w.heap.size]? = some (.cells #[.slice n.qa n.qm n.qc, .slice n.la n.lm n.lc, .int .i64 n.k.t, .int .i64 n.k.r, .int .i64 n.k.s, .int .i64 n.k.q, .slice n.ga n.gm n.gc] 27) := by rw [← hw0]; exact block_below (below_alloc1 _ _) (block_below (below_alloc1 _ _) (World.alloc_heap_new _ _))
  have hf0 : w0.heap[(w.heap.size + 1)]? = some (.cells #[.bool f.x, .int .i64 f.i, .bool f.r, .int .i64 f.n, .slice f.a f.m f.c] 30) := by rw [← hw0]; exact block_below (below_alloc1 _ _) (alloc_at _ _ (by simp))
  have hg0 : w0.heap[(w.heap.size + 2)]? = some (.cells #[.bool g.x, .int .i64 g.i, .bool g.r, .int .i64 g.n, .slice g.a g.m g.c] 30) := by rw [← hw0]; exact alloc_at _ _ (by simp)
  have hs0 : w0.heap.size = w.heap.size + 3 := by rw [← hw0]; simp
  have Hs0 := Lib.hid hs0
  clear hs0
  have hln := (Array.getElem?_eq_some_iff.1 hn0).1
  obtain ⟨nc0, nc1, nc2, nc3, nc4, nc5, nc6⟩ := cells7' hn0
  have hlf := (Array.getElem?_eq_some_iff.1 hf0).1
  obtain ⟨fc0, fc1, fc2, fc3, fc4⟩ := cells5' hf0
  have hlg := (Array.getElem?_eq_some_iff.1 hg0).1
  obtain ⟨gc0, gc1, gc2, gc3, gc4⟩ := cells5' hg0
  go_enter Try.func9, Try.ntmps9
  go_wp2_with fail
  clear hln nc0 nc1 nc2 nc3 nc4 nc5 nc6 hlf fc0 fc1 fc2 fc3 fc4 hlg gc0 gc1 gc2 gc3 gc4
  clear hw0
  have hZ0 := Below.refl w0.heap.size w0
  have hN0 := h.to hT0
  have hF0 := hf.to hT0
  have hG0 := hg.to hT0
  refine (head_c w0).mono ?_
  rintro e w1 ⟨rfl, hB1⟩
  have hT1 := below_then hT0 hB1
  have hZ1 := below_then hZ0 hB1
  clear hZ0
  have hn1 := block_below hB1 hn0
  have hf1 := block_below hB1 hf0
  have hg1 := block_below hB1 hg0
  have hN1 := NIs.to hN0 hB1
  have hF1 := FIs.to hF0 hB1
  have hG1 := FIs.to hG0 hB1
  clear hT0 hn0 hf0 hg0 hN0 hF0 hG0 hB1
  have hln := (Array.getElem?_eq_some_iff.1 hn1).1
  obtain ⟨nc0, nc1, nc2, nc3, nc4, nc5, nc6⟩ := cells7' hn1
  have hlf := (Array.getElem?_eq_some_iff.1 hf1).1
  obtain ⟨fc0, fc1, fc2, fc3, fc4⟩ := cells5' hf1
  have hlg := (Array.getElem?_eq_some_iff.1 hg1).1
  obtain ⟨gc0, gc1, gc2, gc3, gc4⟩ := cells5' hg1
  go_wp2_with fail
  clear hln nc0 nc1 nc2 nc3 nc4 nc5 nc6 hlf fc0 fc1 fc2 fc3 fc4 hlg gc0 gc1 gc2 gc3 gc4
  refine (great9_c hN1).mono ?_
  rintro e w2 ⟨rfl | rfl, hB2⟩
  · skip
    have hT2 := below_then hT1 hB2
    have hZ2 := below_then hZ1 hB2
    clear hZ1
    have hn2 := block_below hB2 hn1
    have hf2 := block_below hB2 hf1
    have hg2 := block_below hB2 hg1
    have hN2 := NIs.to hN1 hB2
    have hF2 := FIs.to hF1 hB2
    have hG2 := FIs.to hG1 hB2
    clear hT1 hn1 hf1 hg1 hN1 hF1 hG1 hB2
    have hln := (Array.getElem?_eq_some_iff.1 hn2).1
    obtain ⟨nc0, nc1, nc2, nc3, nc4, nc5, nc6⟩ := cells7' hn2
    have hlf := (Array.getElem?_eq_some_iff.1 hf2).1
    obtain ⟨fc0, fc1, fc2, fc3, fc4⟩ := cells5' hf2
    have hlg := (Array.getElem?_eq_some_iff.1 hg2).1
    obtain ⟨gc0, gc1, gc2, gc3, gc4⟩ := cells5' hg2
    go_wp2_with fail
    go_ret
    exact ⟨rfl, hT2⟩
  have hT2 := below_then hT1 hB2
  have hZ2 := below_then hZ1 hB2
  clear hZ1
  have hn2 := block_below hB2 hn1
  have hf2 := block_below hB2 hf1
  have hg2 := block_below hB2 hg1
  have hN2 := NIs.to hN1 hB2
  have hF2 := FIs.to hF1 hB2
  have hG2 := FIs.to hG1 hB2
  clear hT1 hn1 hf1 hg1 hN1 hF1 hG1 hB2
  have hln := (Array.getElem?_eq_some_iff.1 hn2).1
  obtain ⟨nc0, nc1, nc2, nc3, nc4, nc5, nc6⟩ := cells7' hn2
  have hlf := (Array.getElem?_eq_some_iff.1 hf2).1
  obtain ⟨fc0, fc1, fc2, fc3, fc4⟩ := cells5' hf2
  have hlg := (Array.getElem?_eq_some_iff.1 hg2).1
  obtain ⟨gc0, gc1, gc2, gc3, gc4⟩ := cells5' hg2
  go_wp2_with fail
  clear hln nc0 nc1 nc2 nc3 nc4 nc5 nc6 hlf fc0 fc1 fc2 fc3 fc4 hlg gc0 gc1 gc2 gc3 gc4
  obtain ⟨a1, ha1⟩ : ∃ q, decide (100 < F.d.length) = q := ⟨_, rfl⟩
  have Ha1 := Lib.hid ha1
  clear ha1
  cases a1
  rotate_left
  · skip
    refine (great_c hF2 true Ha1.out).mono ?_
    rintro e w3 ⟨rfl, hB3⟩
    have hT3 := below_then hT2 hB3
    have hZ3 := below_then hZ2 hB3
    clear hZ2
    have hn3 := block_below hB3 hn2
    have hf3 := block_below hB3 hf2
    have hg3 := block_below hB3 hg2
    have hN3 := NIs.to hN2 hB3
    have hF3 := FIs.to hF2 hB3
    have hG3 := FIs.to hG2 hB3
    clear hT2 hn2 hf2 hg2 hN2 hF2 hG2 hB3
    have hln := (Array.getElem?_eq_some_iff.1 hn3).1
    obtain ⟨nc0, nc1, nc2, nc3, nc4, nc5, nc6⟩ := cells7' hn3
    have hlf := (Array.getElem?_eq_some_iff.1 hf3).1
    obtain ⟨fc0, fc1, fc2, fc3, fc4⟩ := cells5' hf3
    have hlg := (Array.getElem?_eq_some_iff.1 hg3).1
    obtain ⟨gc0, gc1, gc2, gc3, gc4⟩ := cells5' hg3
    go_wp2_with fail
    go_ret
    exact ⟨rfl, hT3⟩
  refine (great_c hF2 false Ha1.out).mono ?_
  rintro e w3 ⟨rfl, hB3⟩
  have hT3 := below_then hT2 hB3
  have hZ3 := below_then hZ2 hB3
  clear hZ2
  have hn3 := block_below hB3 hn2
  have hf3 := block_below hB3 hf2
  have hg3 := block_below hB3 hg2
  have hN3 := NIs.to hN2 hB3
  have hF3 := FIs.to hF2 hB3
  have hG3 := FIs.to hG2 hB3
  clear hT2 hn2 hf2 hg2 hN2 hF2 hG2 hB3
  have hln := (Array.getElem?_eq_some_iff.1 hn3).1
  obtain ⟨nc0, nc1, nc2, nc3, nc4, nc5, nc6⟩ := cells7' hn3
  have hlf := (Array.getElem?_eq_some_iff.1 hf3).1
  obtain ⟨fc0, fc1, fc2, fc3, fc4⟩ := cells5' hf3
  have hlg := (Array.getElem?_eq_some_iff.1 hg3).1
  obtain ⟨gc0, gc1, gc2, gc3, gc4⟩ := cells5' hg3
  go_wp2_with fail
  clear hln nc0 nc1 nc2 nc3 nc4 nc5 nc6 hlf fc0 fc1 fc2 fc3 fc4 hlg gc0 gc1 gc2 gc3 gc4
  obtain ⟨a2, ha2⟩ : ∃ q, decide (100 < G.d.length) = q := ⟨_, rfl⟩
  have Ha2 := Lib.hid ha2
  clear ha2
  cases a2
  rotate_left
  · skip
    refine (great_c hG3 true Ha2.out).mono ?_
    rintro e w4 ⟨rfl, hB4⟩
    have hT4 := below_then hT3 hB4
    have hZ4 := below_then hZ3 hB4
    clear hZ3
    have hn4 := block_below hB4 hn3
    have hf4 := block_below hB4 hf3
    have hg4 := block_below hB4 hg3
    have hN4 := NIs.to hN3 hB4
    have hF4 := FIs.to hF3 hB4
    have hG4 := FIs.to hG3 hB4
    clear hT3 hn3 hf3 hg3 hN3 hF3 hG3 hB4
    have hln := (Array.getElem?_eq_some_iff.1 hn4).1
    obtain ⟨nc0, nc1, nc2, nc3, nc4, nc5, nc6⟩ := cells7' hn4
    have hlf := (Array.getElem?_eq_some_iff.1 hf4).1
    obtain ⟨fc0, fc1, fc2, fc3, fc4⟩ := cells5' hf4
    have hlg := (Array.getElem?_eq_some_iff.1 hg4).1
    obtain ⟨gc0, gc1, gc2, gc3, gc4⟩ := cells5' hg4
    go_wp2_with fail
    go_ret
    exact ⟨rfl, hT4⟩
  refine (great_c hG3 false Ha2.out).mono ?_
  rintro e w4 ⟨rfl, hB4⟩
  have hT4 := below_then hT3 hB4
  have hZ4 := below_then hZ3 hB4
  clear hZ3
  have hn4 := block_below hB4 hn3
  have hf4 := block_below hB4 hf3
  have hg4 := block_below hB4 hg3
  have hN4 := NIs.to hN3 hB4
  have hF4 := FIs.to hF3 hB4
  have hG4 := FIs.to hG3 hB4
  clear hT3 hn3 hf3 hg3 hN3 hF3 hG3 hB4
  have hln := (Array.getElem?_eq_some_iff.1 hn4).1
  obtain ⟨nc0, nc1, nc2, nc3, nc4, nc5, nc6⟩ := cells7' hn4
  have hlf := (Array.getElem?_eq_some_iff.1 hf4).1
  obtain ⟨fc0, fc1, fc2, fc3, fc4⟩ := cells5' hf4
  have hlg := (Array.getElem?_eq_some_iff.1 hg4).1
  obtain ⟨gc0, gc1, gc2, gc3, gc4⟩ := cells5' hg4
  go_wp2_with fail
  clear hln nc0 nc1 nc2 nc3 nc4 nc5 nc6 hlf fc0 fc1 fc2 fc3 fc4 hlg gc0 gc1 gc2 gc3 gc4
  obtain ⟨q, hq⟩ : ∃ q, rightN N = q := ⟨_, rfl⟩
  have Hq := Lib.hid hq
  clear hq
  cases q
  · skip
    refine (right_c hN4 false Hq.out).mono ?_
    rintro e w5 ⟨rfl, hB5⟩
    have hT5 := below_then hT4 hB5
    have hZ5 := below_then hZ4 hB5
    clear hZ4
    have hn5 := block_below hB5 hn4
    have hf5 := block_below hB5 hf4
    have hg5 := block_below hB5 hg4
    have hN5 := NIs.to hN4 hB5
    have hF5 := FIs.to hF4 hB5
    have hG5 := FIs.to hG4 hB5
    clear hT4 hn4 hf4 hg4 hN4 hF4 hG4 hB5
    have hln := (Array.getElem?_eq_some_iff.1 hn5).1
    obtain ⟨nc0, nc1, nc2, nc3, nc4, nc5, nc6⟩ := cells7' hn5
    have hlf := (Array.getElem?_eq_some_iff.1 hf5).1
    obtain ⟨fc0, fc1, fc2, fc3, fc4⟩ := cells5' hf5
    have hlg := (Array.getElem?_eq_some_iff.1 hg5).1
    obtain ⟨gc0, gc1, gc2, gc3, gc4⟩ := cells5' hg5
    go_wp2_with fail
    go_ret
    exact ⟨rfl, hT5⟩
  refine (right_c hN4 true Hq.out).mono ?_
  rintro e w5 ⟨rfl, hB5⟩
  have hT5 := below_then hT4 hB5
  have hZ5 := below_then hZ4 hB5
  clear hZ4
  have hn5 := block_below hB5 hn4
  have hf5 := block_below hB5 hf4
  have hg5 := block_below hB5 hg4
  have hN5 := NIs.to hN4 hB5
  have hF5 := FIs.to hF4 hB5
  have hG5 := FIs.to hG4 hB5
  clear hT4 hn4 hf4 hg4 hN4 hF4 hG4 hB5
  have hln := (Array.getElem?_eq_some_iff.1 hn5).1
  obtain ⟨nc0, nc1, nc2, nc3, nc4, nc5, nc6⟩ := cells7' hn5
  have hlf := (Array.getElem?_eq_some_iff.1 hf5).1
  obtain ⟨fc0, fc1, fc2, fc3, fc4⟩ := cells5' hf5
  have hlg := (Array.getElem?_eq_some_iff.1 hg5).1
  obtain ⟨gc0, gc1, gc2, gc3, gc4⟩ := cells5' hg5
  go_wp2_with fail
  clear hln nc0 nc1 nc2 nc3 nc4 nc5 nc6 hlf fc0 fc1 fc2 fc3 fc4 hlg gc0 gc1 gc2 gc3 gc4
  have Hok := Lib.hid (rightN_iff.1 Hq.out)
  obtain ⟨r, hr⟩ : ∃ q, rightC F = q := ⟨_, rfl⟩
  have Hr := Lib.hid hr
  clear hr
  cases r
  · skip
    refine (refFrRight_c hF5 false Hr.out).mono ?_
    rintro e w6 ⟨rfl, hB6⟩
    have hT6 := below_then hT5 hB6
    have hZ6 := below_then hZ5 hB6
    clear hZ5
    have hn6 := block_below hB6 hn5
    have hf6 := block_below hB6 hf5
    have hg6 := block_below hB6 hg5
    have hN6 := NIs.to hN5 hB6
    have hF6 := FIs.to hF5 hB6
    have hG6 := FIs.to hG5 hB6
    clear hT5 hn5 hf5 hg5 hN5 hF5 hG5 hB6
    have hln := (Array.getElem?_eq_some_iff.1 hn6).1
    obtain ⟨nc0, nc1, nc2, nc3, nc4, nc5, nc6⟩ := cells7' hn6
    have hlf := (Array.getElem?_eq_some_iff.1 hf6).1
    obtain ⟨fc0, fc1, fc2, fc3, fc4⟩ := cells5' hf6
    have hlg := (Array.getElem?_eq_some_iff.1 hg6).1
    obtain ⟨gc0, gc1, gc2, gc3, gc4⟩ := cells5' hg6
    go_wp2_with fail
    go_ret
    exact ⟨rfl, hT6⟩
  refine (refFrRight_c hF5 true Hr.out).mono ?_
  rintro e w6 ⟨rfl, hB6⟩
  have hT6 := below_then hT5 hB6
  have hZ6 := below_then hZ5 hB6
  clear hZ5
  have hn6 := block_below hB6 hn5
  have hf6 := block_below hB6 hf5
  have hg6 := block_below hB6 hg5
  have hN6 := NIs.to hN5 hB6
  have hF6 := FIs.to hF5 hB6
  have hG6 := FIs.to hG5 hB6
  clear hT5 hn5 hf5 hg5 hN5 hF5 hG5 hB6
  have hln := (Array.getElem?_eq_some_iff.1 hn6).1
  obtain ⟨nc0, nc1, nc2, nc3, nc4, nc5, nc6⟩ := cells7' hn6
  have hlf := (Array.getElem?_eq_some_iff.1 hf6).1
  obtain ⟨fc0, fc1, fc2, fc3, fc4⟩ := cells5' hf6
  have hlg := (Array.getElem?_eq_some_iff.1 hg6).1
  obtain ⟨gc0, gc1, gc2, gc3, gc4⟩ := cells5' hg6
  go_wp2_with fail
  clear hln nc0 nc1 nc2 nc3 nc4 nc5 nc6 hlf fc0 fc1 fc2 fc3 fc4 hlg gc0 gc1 gc2 gc3 gc4
  by_cases hs : n.k.s = 3
  · skip
    have hs3 : (n.k.s == 3) = true := by simpa using hs
    clear hs
    obtain ⟨t, ht⟩ : ∃ q, rightC G = q := ⟨_, rfl⟩
    have Ht := Lib.hid ht
    clear ht
    cases t
    · skip
      refine (refFrRight_c hG6 false Ht.out).mono ?_
      rintro e w7 ⟨rfl, hB7⟩
      have hT7 := below_then hT6 hB7
      have hZ7 := below_then hZ6 hB7
      clear hZ6
      have hn7 := block_below hB7 hn6
      have hf7 := block_below hB7 hf6
      have hg7 := block_below hB7 hg6
      have hN7 := NIs.to hN6 hB7
      have hF7 := FIs.to hF6 hB7
      have hG7 := FIs.to hG6 hB7
      clear hT6 hn6 hf6 hg6 hN6 hF6 hG6 hB7
      have hln := (Array.getElem?_eq_some_iff.1 hn7).1
      obtain ⟨nc0, nc1, nc2, nc3, nc4, nc5, nc6⟩ := cells7' hn7
      have hlf := (Array.getElem?_eq_some_iff.1 hf7).1
      obtain ⟨fc0, fc1, fc2, fc3, fc4⟩ := cells5' hf7
      have hlg := (Array.getElem?_eq_some_iff.1 hg7).1
      obtain ⟨gc0, gc1, gc2, gc3, gc4⟩ := cells5' hg7
      go_wp2_with fail
      go_ret
      exact ⟨rfl, hT7⟩
    refine (refFrRight_c hG6 true Ht.out).mono ?_
    rintro e w7 ⟨rfl, hB7⟩
    have hT7 := below_then hT6 hB7
    have hZ7 := below_then hZ6 hB7
    clear hZ6
    have hn7 := block_below hB7 hn6
    have hf7 := block_below hB7 hf6
    have hg7 := block_below hB7 hg6
    have hN7 := NIs.to hN6 hB7
    have hF7 := FIs.to hF6 hB7
    have hG7 := FIs.to hG6 hB7
    clear hT6 hn6 hf6 hg6 hN6 hF6 hG6 hB7
    have hln := (Array.getElem?_eq_some_iff.1 hn7).1
    obtain ⟨nc0, nc1, nc2, nc3, nc4, nc5, nc6⟩ := cells7' hn7
    have hlf := (Array.getElem?_eq_some_iff.1 hf7).1
    obtain ⟨fc0, fc1, fc2, fc3, fc4⟩ := cells5' hf7
    have hlg := (Array.getElem?_eq_some_iff.1 hg7).1
    obtain ⟨gc0, gc1, gc2, gc3, gc4⟩ := cells5' hg7
    go_wp2_with fail
    go_ret
    exact ⟨rfl, hT7⟩
  have hs3 : (n.k.s == 3) = false := by simpa using hs
  have HS := Lib.hid (show N.k.s ≠ 3 by rw [← hN6.k]; exact hs)
  clear hs
  obtain ⟨t, ht⟩ : ∃ q, rightC G = q := ⟨_, rfl⟩
  have Ht := Lib.hid ht
  clear ht
  cases t
  · skip
    refine (refFrRight_c hG6 false Ht.out).mono ?_
    rintro e w7 ⟨rfl, hB7⟩
    have hT7 := below_then hT6 hB7
    have hZ7 := below_then hZ6 hB7
    clear hZ6
    have hn7 := block_below hB7 hn6
    have hf7 := block_below hB7 hf6
    have hg7 := block_below hB7 hg6
    have hN7 := NIs.to hN6 hB7
    have hF7 := FIs.to hF6 hB7
    have hG7 := FIs.to hG6 hB7
    clear hT6 hn6 hf6 hg6 hN6 hF6 hG6 hB7
    have hln := (Array.getElem?_eq_some_iff.1 hn7).1
    obtain ⟨nc0, nc1, nc2, nc3, nc4, nc5, nc6⟩ := cells7' hn7
    have hlf := (Array.getElem?_eq_some_iff.1 hf7).1
    obtain ⟨fc0, fc1, fc2, fc3, fc4⟩ := cells5' hf7
    have hlg := (Array.getElem?_eq_some_iff.1 hg7).1
    obtain ⟨gc0, gc1, gc2, gc3, gc4⟩ := cells5' hg7
    go_wp2_with fail
    go_ret
    exact ⟨rfl, hT7⟩
  refine (refFrRight_c hG6 true Ht.out).mono ?_
  rintro e w7 ⟨rfl, hB7⟩
  have hT7 := below_then hT6 hB7
  have hZ7 := below_then hZ6 hB7
  clear hZ6
  have hn7 := block_below hB7 hn6
  have hf7 := block_below hB7 hf6
  have hg7 := block_below hB7 hg6
  have hN7 := NIs.to hN6 hB7
  have hF7 := FIs.to hF6 hB7
  have hG7 := FIs.to hG6 hB7
  clear hT6 hn6 hf6 hg6 hN6 hF6 hG6 hB7
  have hln := (Array.getElem?_eq_some_iff.1 hn7).1
  obtain ⟨nc0, nc1, nc2, nc3, nc4, nc5, nc6⟩ := cells7' hn7
  have hlf := (Array.getElem?_eq_some_iff.1 hf7).1
  obtain ⟨fc0, fc1, fc2, fc3, fc4⟩ := cells5' hf7
  have hlg := (Array.getElem?_eq_some_iff.1 hg7).1
  obtain ⟨gc0, gc1, gc2, gc3, gc4⟩ := cells5' hg7
  go_wp2_with fail
  clear hln nc0 nc1 nc2 nc3 nc4 nc5 nc6 hlf fc0 fc1 fc2 fc3 fc4 hlg gc0 gc1 gc2 gc3 gc4
  obtain ⟨M1, hM1⟩ : ∃ q, heardN N F true false = q := ⟨_, rfl⟩
  have HM1 := Lib.hid hM1
  clear hM1
  obtain ⟨er, her⟩ : ∃ q, sendE N G = q := ⟨_, rfl⟩
  have Her := Lib.hid her
  clear her
  obtain ⟨M2, hM2⟩ : ∃ q, sendN M1 G = q := ⟨_, rfl⟩
  have HM2 := Lib.hid hM2
  clear hM2
  obtain ⟨M3, hM3⟩ : ∃ q, sendN N G = q := ⟨_, rfl⟩
  have HM3 := Lib.hid hM3
  clear hM3
  obtain ⟨S1, hS1⟩ : ∃ q, sentN N ok = q := ⟨_, rfl⟩
  have HS1 := Lib.hid hS1
  clear hS1
  have Hok1 := Lib.hid (show OkN M1 by rw [← HM1.out]; exact ok_heard Hok.out Hr.out true false)
  have Hok3 := Lib.hid (show OkN M3 by rw [← HM3.out]; exact ok_send Hok.out G)
  have HokS := Lib.hid (show OkN S1 by rw [← HS1.out]; exact ok_sent Hok.out ok)
  have Her1 := Lib.hid (show sendE M1 G = er by rw [← HM1.out, sendE_heard Hok.out HS.out, Her.out])
  have HM4 := Lib.hid (show heardN M3 F true false = M2 by rw [← HM3.out, ← HM2.out, ← HM1.out]; exact send_heard Hok.out HS.out F G)
  have hltn : w.heap.size < w7.heap.size := (Array.getElem?_eq_some_iff.1 hn7).1
  have hltf : (w.heap.size + 1) < w7.heap.size := (Array.getElem?_eq_some_iff.1 hf7).1
  have hltg : (w.heap.size + 2) < w7.heap.size := (Array.getElem?_eq_some_iff.1 hg7).1
  go_cut [10, 11] from 54 to 61 (fun p q11 wc => ∃ (X : Nat) (va : NV), p = .pointer (some ⟨X, 0, none⟩) ∧ q11 = .int .i64 er ∧ w7.heap.size ≤ X ∧ wc.heap[X]? = some (.cells #[.slice va.qa va.qm va.qc, .slice va.la va.lm va.lc, .int .i64 va.k.t, .int .i64 va.k.r, .int .i64 va.k.s, .int .i64 va.k.q, .slice va.ga va.gm va.gc] 27) ∧ NIs wc (fun _ => True) va M2 ∧ Below w7.heap.size w7 wc)
  case first =>
    refine wp_region_held_drew (S := fun W => (W.cell? ⟨w.heap.size, 0, none⟩ = some (.slice n.qa n.qm n.qc) ∧ W.cell? ⟨w.heap.size, 1, none⟩ = some (.slice n.la n.lm n.lc) ∧ W.cell? ⟨w.heap.size, 2, none⟩ = some (.int .i64 n.k.t) ∧ W.cell? ⟨w.heap.size, 3, none⟩ = some (.int .i64 n.k.r) ∧ W.cell? ⟨w.heap.size, 4, none⟩ = some (.int .i64 n.k.s) ∧ W.cell? ⟨w.heap.size, 5, none⟩ = some (.int .i64 n.k.q) ∧ W.cell? ⟨w.heap.size, 6, none⟩ = some (.slice n.ga n.gm n.gc)) ∧ (W.cell? ⟨(w.heap.size + 1), 0, none⟩ = some (.bool f.x) ∧ W.cell? ⟨(w.heap.size + 1), 1, none⟩ = some (.int .i64 f.i) ∧ W.cell? ⟨(w.heap.size + 1), 2, none⟩ = some (.bool f.r) ∧ W.cell? ⟨(w.heap.size + 1), 3, none⟩ = some (.int .i64 f.n) ∧ W.cell? ⟨(w.heap.size + 1), 4, none⟩ = some (.slice f.a f.m f.c)) ∧ (W.cell? ⟨(w.heap.size + 2), 0, none⟩ = some (.bool g.x) ∧ W.cell? ⟨(w.heap.size + 2), 1, none⟩ = some (.int .i64 g.i) ∧ W.cell? ⟨(w.heap.size + 2), 2, none⟩ = some (.bool g.r) ∧ W.cell? ⟨(w.heap.size + 2), 3, none⟩ = some (.int .i64 g.n) ∧ W.cell? ⟨(w.heap.size + 2), 4, none⟩ = some (.slice g.a g.m g.c))) (by kernel_rfl) (by exact ⟨cells7' (block_below (below_drew1 _) hn7), cells5' (block_below (below_drew1 _) hf7), cells5' (block_below (below_drew1 _) hg7)⟩) (fun hHeld_ => ?_)
    refine wpAnyH_take' (i := 0) (v := ?vm1_0_0_) 55 rfl rfl (by kernel_rfl) (by kernel_rfl) (by kernel_rfl) (fun _ _ _ h => h) (Or.inl ⟨by kernel_rfl, ?hm1_0_0_⟩) (by assumption) ?rm1_0_0_
    case hm1_0_0_ => (intro W_ hS_; (try dsimp only at hS_); go_simp; (try (with_reducible rfl)))
    try simp only [Act.put, List.setIfInBounds_toArray, List.set_cons_zero, List.set_cons_succ]
    refine wpAnyH_take' (i := 1) (v := ?vm1_1_0_) 56 rfl rfl (by kernel_rfl) (by kernel_rfl) (by kernel_rfl) (fun _ _ _ h => h) (Or.inl ⟨by kernel_rfl, ?hm1_1_0_⟩) (by assumption) ?rm1_1_0_
    case hm1_1_0_ => (intro W_ hS_; (try dsimp only at hS_); go_simp; (try (with_reducible rfl)))
    try simp only [Act.put, List.setIfInBounds_toArray, List.set_cons_zero, List.set_cons_succ]
    refine wpAnyH_take' (i := 3) (v := ?vm1_3_0_) 58 rfl rfl (by kernel_rfl) (by kernel_rfl) (by kernel_rfl) (fun _ _ _ h => h) (Or.inl ⟨by kernel_rfl, ?hm1_3_0_⟩) (by assumption) ?rm1_3_0_
    case hm1_3_0_ => (intro W_ hS_; (try dsimp only at hS_); go_simp; (try (with_reducible rfl)))
    try simp only [Act.put, List.setIfInBounds_toArray, List.set_cons_zero, List.set_cons_succ]
    refine wpAnyH_ready (rs := [2, 8]) (by kernel_rfl) (by simp) ?_
    refine (AllReadyH.cons rfl (fun K_ hK_ => ?_) (AllReadyH.cons rfl (fun K_ hK_ => ?_) AllReadyH.nil))
    · go_simp
      refine (heard_c (NIs.to hN7 (below_drew1 _)) (FIs.to hF7 (below_drew1 _)) Hok.out Hr.out (fun _ _ => trivial) true false M1 HM1.out).mono ?_
      rintro e wr2 ⟨m1, rfl, hm1_, hBr2⟩
      go_wp2_with fail
      refine hK_.out _ _ (by exact ⟨cells7' (block_below hBr2 (block_below (below_drew1 _) hn7)), cells5' (block_below hBr2 (block_below (below_drew1 _) hf7)), cells5' (block_below hBr2 (block_below (below_drew1 _) hg7))⟩) (fun hHeld_2_0 => ?_)
      clear hK_
      try simp only [Act.put, List.setIfInBounds_toArray, List.set_cons_zero, List.set_cons_succ]
      refine wpAnyH_ready (rs := [4, 8]) (by kernel_rfl) (by simp) ?_
      refine (AllReadyH.cons rfl (fun K_ hK_ => ?_) (AllReadyH.cons rfl (fun K_ hK_ => ?_) AllReadyH.nil))
      · go_simp
        refine (send_c hm1_ (FIs.to (FIs.to hG7 (below_drew1 _)) hBr2) Hok1.out (fun _ _ => trivial) er Her1.out M2 HM2.out).mono ?_
        rintro e wr4 ⟨va, rfl, hA_, hBr4⟩
        go_wp2_with fail
        refine hK_.out _ _ (by exact ⟨cells7' (block_below hBr4 (block_below hBr2 (block_below (below_drew1 _) hn7))), cells5' (block_below hBr4 (block_below hBr2 (block_below (below_drew1 _) hf7))), cells5' (block_below hBr4 (block_below hBr2 (block_below (below_drew1 _) hg7)))⟩) (fun hHeld_4_1 => ?_)
        clear hK_
        try simp only [Act.put, List.setIfInBounds_toArray, List.set_cons_zero, List.set_cons_succ]
        refine wpAnyH_take' (i := 5) (v := ?vm1_5_2_2_4) 54 rfl rfl (by kernel_rfl) (by kernel_rfl) (by kernel_rfl) (fun _ _ _ h => h) (Or.inl ⟨by kernel_rfl, ?hm1_5_2_2_4⟩) (by assumption) ?rm1_5_2_2_4
        case hm1_5_2_2_4 => (intro W_ hS_; (try dsimp only at hS_); go_simp; (try (with_reducible rfl)))
        try simp only [Act.put, List.setIfInBounds_toArray, List.set_cons_zero, List.set_cons_succ]
        refine wpAnyH_take' (i := 6) (v := ?vm1_6_2_2_4) 60 rfl rfl (by kernel_rfl) (by kernel_rfl) (by kernel_rfl) (fun _ _ _ h => h) (Or.inl ⟨by kernel_rfl, ?hm1_6_2_2_4⟩) (by assumption) ?rm1_6_2_2_4
        case hm1_6_2_2_4 => (intro W_ hS_; (try dsimp only at hS_); go_simp; (try (with_reducible rfl)))
        try simp only [Act.put, List.setIfInBounds_toArray, List.set_cons_zero, List.set_cons_succ]
        refine wpAnyH_take' (i := 7) (v := ?vm1_7_2_2_4) 61 rfl rfl (by kernel_rfl) (by kernel_rfl) (by kernel_rfl) (fun _ _ _ h => h) (Or.inl ⟨by kernel_rfl, ?hm1_7_2_2_4⟩) (by assumption) ?rm1_7_2_2_4
        case hm1_7_2_2_4 => (intro W_ hS_; (try dsimp only at hS_); go_simp; (try (with_reducible rfl)))
        try simp only [Act.put, List.setIfInBounds_toArray, List.set_cons_zero, List.set_cons_succ]
        refine wpAnyH_ready (rs := [8]) (by kernel_rfl) (by simp) ?_
        refine (AllReadyH.cons rfl (fun K_ hK_ => ?_) AllReadyH.nil)
        go_simp
        have hblk8 : (wr4.alloc (.cells #[.slice none 0 0, .slice none 0 0, .int .i64 0, .int .i64 0, .int .i64 0, .int .i64 0, .slice none 0 0] 27)).heap[wr4.heap.size]? = some (.cells #[.slice none 0 0, .slice none 0 0, .int .i64 0, .int .i64 0, .int .i64 0, .int .i64 0, .slice none 0 0] 27) := World.alloc_heap_new _ _
        go_wp2_with fail
        refine hK_.out _ _ (by exact ⟨cells7' (block_below (below_alloc1 _ _) (block_below hBr4 (block_below hBr2 (block_below (below_drew1 _) hn7)))), cells5' (block_below (below_alloc1 _ _) (block_below hBr4 (block_below hBr2 (block_below (below_drew1 _) hf7)))), cells5' (block_below (below_alloc1 _ _) (block_below hBr4 (block_below hBr2 (block_below (below_drew1 _) hg7))))⟩) (fun hHeld_8_2 => ?_)
        clear hK_
        try simp only [Act.put, List.setIfInBounds_toArray, List.set_cons_zero, List.set_cons_succ]
        refine wpAnyH_ready (rs := [9]) (by kernel_rfl) (by simp) ?_
        refine (AllReadyH.cons rfl (fun K_ hK_ => ?_) AllReadyH.nil)
        go_simp
        go_wp2_with fail
        refine hK_.out _ _ (by exact ⟨cells7' (block_below (below_alloc1 _ _) (block_below hBr4 (block_below hBr2 (block_below (below_drew1 _) hn7)))), cells5' (block_below (below_alloc1 _ _) (block_below hBr4 (block_below hBr2 (block_below (below_drew1 _) hf7)))), cells5' (block_below (below_alloc1 _ _) (block_below hBr4 (block_below hBr2 (block_below (below_drew1 _) hg7))))⟩) (fun hHeld_9_3 => ?_)
        clear hK_
        try simp only [Act.put, List.setIfInBounds_toArray, List.set_cons_zero, List.set_cons_succ]
        refine wpAnyH_take' (i := 10) (v := ?vm1_10_4_2_4_8_9) 11 rfl rfl (by kernel_rfl) (by kernel_rfl) (by kernel_rfl) (fun _ _ _ h => h) (Or.inl ⟨by kernel_rfl, ?hm1_10_4_2_4_8_9⟩) (by assumption) ?rm1_10_4_2_4_8_9
        case hm1_10_4_2_4_8_9 => (intro W_ hS_; (try dsimp only at hS_); go_simp; (try (with_reducible rfl)))
        try simp only [Act.put, List.setIfInBounds_toArray, List.set_cons_zero, List.set_cons_succ]
        refine wpAnyH_done (by kernel_rfl) ?_ _
        go_wp2_with fail
        go_meet
        exact ⟨wr4.heap.size, va, rfl, rfl, (below_then (below_then (below_drew1 _) hBr2) hBr4).size, World.alloc_heap_new _ _, NIs.to hA_ (below_alloc1 _ _), (below_then (below_then (below_then (below_drew1 _) hBr2) hBr4) (below_alloc1 _ _))⟩
      · go_simp
        have hblk8 : (wr2.alloc (.cells #[.slice none 0 0, .slice none 0 0, .int .i64 0, .int .i64 0, .int .i64 0, .int .i64 0, .slice none 0 0] 27)).heap[wr2.heap.size]? = some (.cells #[.slice none 0 0, .slice none 0 0, .int .i64 0, .int .i64 0, .int .i64 0, .int .i64 0, .slice none 0 0] 27) := World.alloc_heap_new _ _
        go_wp2_with fail
        refine hK_.out _ _ (by exact ⟨cells7' (block_below (below_alloc1 _ _) (block_below hBr2 (block_below (below_drew1 _) hn7))), cells5' (block_below (below_alloc1 _ _) (block_below hBr2 (block_below (below_drew1 _) hf7))), cells5' (block_below (below_alloc1 _ _) (block_below hBr2 (block_below (below_drew1 _) hg7)))⟩) (fun hHeld_8_1 => ?_)
        clear hK_
        try simp only [Act.put, List.setIfInBounds_toArray, List.set_cons_zero, List.set_cons_succ]
        refine wpAnyH_ready (rs := [4]) (by kernel_rfl) (by simp) ?_
        refine (AllReadyH.cons rfl (fun K_ hK_ => ?_) AllReadyH.nil)
        go_simp
        refine (send_c (NIs.to (hm1_.mono (fun b hb _ => out_cons (L := []) (Nat.le_refl _) b hb (fun _ h => by cases h))) (below_alloc1 _ _)) (FIs.to ((FIs.to (FIs.to hG7 (below_drew1 _)) hBr2).mono (fun b hb _ => out_cons (L := []) (Nat.le_refl _) b hb (fun _ h => by cases h))) (below_alloc1 _ _)) Hok1.out (out_up (lt_cons (Array.getElem?_eq_some_iff.1 hblk8).1 (fun _ h => by cases h))) er Her1.out M2 HM2.out).mono ?_
        rintro e wr4 ⟨va, rfl, hA_, hBr4⟩
        have hblk4 := block_below hBr4 hblk8
        go_wp2_with fail
        refine hK_.out _ _ (by exact ⟨cells7' (block_below hBr4 (block_below (below_alloc1 _ _) (block_below hBr2 (block_below (below_drew1 _) hn7)))), cells5' (block_below hBr4 (block_below (below_alloc1 _ _) (block_below hBr2 (block_below (below_drew1 _) hf7)))), cells5' (block_below hBr4 (block_below (below_alloc1 _ _) (block_below hBr2 (block_below (below_drew1 _) hg7))))⟩) (fun hHeld_4_2 => ?_)
        clear hK_
        try simp only [Act.put, List.setIfInBounds_toArray, List.set_cons_zero, List.set_cons_succ]
        refine wpAnyH_take' (i := 5) (v := ?vm1_5_3_2_8_4) 54 rfl rfl (by kernel_rfl) (by kernel_rfl) (by kernel_rfl) (fun _ _ _ h => h) (Or.inl ⟨by kernel_rfl, ?hm1_5_3_2_8_4⟩) (by assumption) ?rm1_5_3_2_8_4
        case hm1_5_3_2_8_4 => (intro W_ hS_; (try dsimp only at hS_); go_simp; (try (with_reducible rfl)))
        try simp only [Act.put, List.setIfInBounds_toArray, List.set_cons_zero, List.set_cons_succ]
        refine wpAnyH_take' (i := 6) (v := ?vm1_6_3_2_8_4) 60 rfl rfl (by kernel_rfl) (by kernel_rfl) (by kernel_rfl) (fun _ _ _ h => h) (Or.inl ⟨by kernel_rfl, ?hm1_6_3_2_8_4⟩) (by assumption) ?rm1_6_3_2_8_4
        case hm1_6_3_2_8_4 => (intro W_ hS_; (try dsimp only at hS_); go_simp; (try (with_reducible rfl)))
        try simp only [Act.put, List.setIfInBounds_toArray, List.set_cons_zero, List.set_cons_succ]
        refine wpAnyH_take' (i := 7) (v := ?vm1_7_3_2_8_4) 61 rfl rfl (by kernel_rfl) (by kernel_rfl) (by kernel_rfl) (fun _ _ _ h => h) (Or.inl ⟨by kernel_rfl, ?hm1_7_3_2_8_4⟩) (by assumption) ?rm1_7_3_2_8_4
        case hm1_7_3_2_8_4 => (intro W_ hS_; (try dsimp only at hS_); go_simp; (try (with_reducible rfl)))
        try simp only [Act.put, List.setIfInBounds_toArray, List.set_cons_zero, List.set_cons_succ]
        refine wpAnyH_ready (rs := [9]) (by kernel_rfl) (by simp) ?_
        refine (AllReadyH.cons rfl (fun K_ hK_ => ?_) AllReadyH.nil)
        obtain ⟨⟨z0, z1, z2, z3, z4, z5, z6⟩, y0, y1, y2, y3, y4, y5, y6⟩ := cells7 hblk4
        go_simp
        go_wp2_with fail
        clear z0 z1 z2 z3 z4 z5 z6 y0 y1 y2 y3 y4 y5 y6
        refine hK_.out _ _ (by have hle_ := (below_then (below_drew1 _) hBr2).size; exact ⟨cells7' (other_g (set7_grown _ _ _ _ _ _ _ _ _) (block_below hBr4 (block_below (below_alloc1 _ _) (block_below hBr2 (block_below (below_drew1 _) hn7)))) (by omega)), cells5' (other_g (set7_grown _ _ _ _ _ _ _ _ _) (block_below hBr4 (block_below (below_alloc1 _ _) (block_below hBr2 (block_below (below_drew1 _) hf7)))) (by omega)), cells5' (other_g (set7_grown _ _ _ _ _ _ _ _ _) (block_below hBr4 (block_below (below_alloc1 _ _) (block_below hBr2 (block_below (below_drew1 _) hg7)))) (by omega))⟩) (fun hHeld_9_3 => ?_)
        clear hK_
        try simp only [Act.put, List.setIfInBounds_toArray, List.set_cons_zero, List.set_cons_succ]
        refine wpAnyH_take' (i := 10) (v := ?vm1_10_4_2_8_4_9) 11 rfl rfl (by kernel_rfl) (by kernel_rfl) (by kernel_rfl) (fun _ _ _ h => h) (Or.inl ⟨by kernel_rfl, ?hm1_10_4_2_8_4_9⟩) (by assumption) ?rm1_10_4_2_8_4_9
        case hm1_10_4_2_8_4_9 => (intro W_ hS_; (try dsimp only at hS_); go_simp; (try (with_reducible rfl)))
        try simp only [Act.put, List.setIfInBounds_toArray, List.set_cons_zero, List.set_cons_succ]
        refine wpAnyH_done (by kernel_rfl) ?_ _
        go_wp2_with fail
        go_meet
        exact ⟨wr2.heap.size, va, rfl, rfl, (below_then (below_drew1 _) hBr2).size, set7_obj hblk4 _ _ _ _ _ _ _, (NIs.grow hA_ (set7_grown _ _ _ _ _ _ _ _ _) (out_not (by simp))).mono (fun _ _ _ => trivial), below_g (below_then (below_then (below_then (below_drew1 _) hBr2) (below_alloc1 _ _)) hBr4) (set7_grown _ _ _ _ _ _ _ _ _) ((below_then (below_drew1 _) hBr2).size)⟩
    · go_simp
      have hblk8 : (w7.alloc (.cells #[.slice none 0 0, .slice none 0 0, .int .i64 0, .int .i64 0, .int .i64 0, .int .i64 0, .slice none 0 0] 27)).drew.heap[w7.heap.size]? = some (.cells #[.slice none 0 0, .slice none 0 0, .int .i64 0, .int .i64 0, .int .i64 0, .int .i64 0, .slice none 0 0] 27) := World.alloc_heap_new w7 _
      go_wp2_with fail
      refine hK_.out _ _ (by exact ⟨cells7' (block_below (below_drew1 _) (block_below (below_alloc1 _ _) hn7)), cells5' (block_below (below_drew1 _) (block_below (below_alloc1 _ _) hf7)), cells5' (block_below (below_drew1 _) (block_below (below_alloc1 _ _) hg7))⟩) (fun hHeld_8_0 => ?_)
      clear hK_
      try simp only [Act.put, List.setIfInBounds_toArray, List.set_cons_zero, List.set_cons_succ]
      refine wpAnyH_ready (rs := [2]) (by kernel_rfl) (by simp) ?_
      refine (AllReadyH.cons rfl (fun K_ hK_ => ?_) AllReadyH.nil)
      go_simp
      refine (heard_c (NIs.to (NIs.to (hN7.mono (fun b hb _ => out_cons (L := []) (Nat.le_refl _) b hb (fun _ h => by cases h))) (below_alloc1 _ _)) (below_drew1 _)) (FIs.to (FIs.to (hF7.mono (fun b hb _ => out_cons (L := []) (Nat.le_refl _) b hb (fun _ h => by cases h))) (below_alloc1 _ _)) (below_drew1 _)) Hok.out Hr.out (out_up (lt_cons (Array.getElem?_eq_some_iff.1 hblk8).1 (fun _ h => by cases h))) true false M1 HM1.out).mono ?_
      rintro e wr2 ⟨m1, rfl, hm1_, hBr2⟩
      have hblk2 := block_below hBr2 hblk8
      go_wp2_with fail
      refine hK_.out _ _ (by exact ⟨cells7' (block_below hBr2 (block_below (below_drew1 _) (block_below (below_alloc1 _ _) hn7))), cells5' (block_below hBr2 (block_below (below_drew1 _) (block_below (below_alloc1 _ _) hf7))), cells5' (block_below hBr2 (block_below (below_drew1 _) (block_below (below_alloc1 _ _) hg7)))⟩) (fun hHeld_2_1 => ?_)
      clear hK_
      try simp only [Act.put, List.setIfInBounds_toArray, List.set_cons_zero, List.set_cons_succ]
      refine wpAnyH_ready (rs := [4]) (by kernel_rfl) (by simp) ?_
      refine (AllReadyH.cons rfl (fun K_ hK_ => ?_) AllReadyH.nil)
      go_simp
      refine (send_c hm1_ (FIs.to (FIs.to (FIs.to (hG7.mono (fun b hb _ => out_cons (L := []) (Nat.le_refl _) b hb (fun _ h => by cases h))) (below_alloc1 _ _)) (below_drew1 _)) hBr2) Hok1.out (out_up (lt_cons (Array.getElem?_eq_some_iff.1 hblk2).1 (fun _ h => by cases h))) er Her1.out M2 HM2.out).mono ?_
      rintro e wr4 ⟨va, rfl, hA_, hBr4⟩
      have hblk4 := block_below hBr4 hblk2
      go_wp2_with fail
      refine hK_.out _ _ (by exact ⟨cells7' (block_below hBr4 (block_below hBr2 (block_below (below_drew1 _) (block_below (below_alloc1 _ _) hn7)))), cells5' (block_below hBr4 (block_below hBr2 (block_below (below_drew1 _) (block_below (below_alloc1 _ _) hf7)))), cells5' (block_below hBr4 (block_below hBr2 (block_below (below_drew1 _) (block_below (below_alloc1 _ _) hg7))))⟩) (fun hHeld_4_2 => ?_)
      clear hK_
      try simp only [Act.put, List.setIfInBounds_toArray, List.set_cons_zero, List.set_cons_succ]
      refine wpAnyH_take' (i := 5) (v := ?vm1_5_3_8_2_4) 54 rfl rfl (by kernel_rfl) (by kernel_rfl) (by kernel_rfl) (fun _ _ _ h => h) (Or.inl ⟨by kernel_rfl, ?hm1_5_3_8_2_4⟩) (by assumption) ?rm1_5_3_8_2_4
      case hm1_5_3_8_2_4 => (intro W_ hS_; (try dsimp only at hS_); go_simp; (try (with_reducible rfl)))
      try simp only [Act.put, List.setIfInBounds_toArray, List.set_cons_zero, List.set_cons_succ]
      refine wpAnyH_take' (i := 6) (v := ?vm1_6_3_8_2_4) 60 rfl rfl (by kernel_rfl) (by kernel_rfl) (by kernel_rfl) (fun _ _ _ h => h) (Or.inl ⟨by kernel_rfl, ?hm1_6_3_8_2_4⟩) (by assumption) ?rm1_6_3_8_2_4
      case hm1_6_3_8_2_4 => (intro W_ hS_; (try dsimp only at hS_); go_simp; (try (with_reducible rfl)))
      try simp only [Act.put, List.setIfInBounds_toArray, List.set_cons_zero, List.set_cons_succ]
      refine wpAnyH_take' (i := 7) (v := ?vm1_7_3_8_2_4) 61 rfl rfl (by kernel_rfl) (by kernel_rfl) (by kernel_rfl) (fun _ _ _ h => h) (Or.inl ⟨by kernel_rfl, ?hm1_7_3_8_2_4⟩) (by assumption) ?rm1_7_3_8_2_4
      case hm1_7_3_8_2_4 => (intro W_ hS_; (try dsimp only at hS_); go_simp; (try (with_reducible rfl)))
      try simp only [Act.put, List.setIfInBounds_toArray, List.set_cons_zero, List.set_cons_succ]
      refine wpAnyH_ready (rs := [9]) (by kernel_rfl) (by simp) ?_
      refine (AllReadyH.cons rfl (fun K_ hK_ => ?_) AllReadyH.nil)
      obtain ⟨⟨z0, z1, z2, z3, z4, z5, z6⟩, y0, y1, y2, y3, y4, y5, y6⟩ := cells7 hblk4
      go_simp
      go_wp2_with fail
      clear z0 z1 z2 z3 z4 z5 z6 y0 y1 y2 y3 y4 y5 y6
      refine hK_.out _ _ (by exact ⟨cells7' (other_g (set7_grown _ _ _ _ _ _ _ _ _) (block_below hBr4 (block_below hBr2 (block_below (below_drew1 _) (block_below (below_alloc1 _ _) hn7)))) (by omega)), cells5' (other_g (set7_grown _ _ _ _ _ _ _ _ _) (block_below hBr4 (block_below hBr2 (block_below (below_drew1 _) (block_below (below_alloc1 _ _) hf7)))) (by omega)), cells5' (other_g (set7_grown _ _ _ _ _ _ _ _ _) (block_below hBr4 (block_below hBr2 (block_below (below_drew1 _) (block_below (below_alloc1 _ _) hg7)))) (by omega))⟩) (fun hHeld_9_3 => ?_)
      clear hK_
      try simp only [Act.put, List.setIfInBounds_toArray, List.set_cons_zero, List.set_cons_succ]
      refine wpAnyH_take' (i := 10) (v := ?vm1_10_4_8_2_4_9) 11 rfl rfl (by kernel_rfl) (by kernel_rfl) (by kernel_rfl) (fun _ _ _ h => h) (Or.inl ⟨by kernel_rfl, ?hm1_10_4_8_2_4_9⟩) (by assumption) ?rm1_10_4_8_2_4_9
      case hm1_10_4_8_2_4_9 => (intro W_ hS_; (try dsimp only at hS_); go_simp; (try (with_reducible rfl)))
      try simp only [Act.put, List.setIfInBounds_toArray, List.set_cons_zero, List.set_cons_succ]
      refine wpAnyH_done (by kernel_rfl) ?_ _
      go_wp2_with fail
      go_meet
      exact ⟨w7.heap.size, va, rfl, rfl, Nat.le_refl _, set7_obj hblk4 _ _ _ _ _ _ _, (NIs.grow hA_ (set7_grown _ _ _ _ _ _ _ _ _) (out_not (by simp))).mono (fun _ _ _ => trivial), below_g (below_then (below_then (below_then (below_alloc1 _ _) (below_drew1 _)) hBr2) hBr4) (set7_grown _ _ _ _ _ _ _ _ _) (Nat.le_refl _)⟩
  case rest =>
  obtain ⟨Xa, va, rfl, rfl, hXa, ha_, hA_, hB8⟩ := hcut
  obtain ⟨w8, e_⟩ : ∃ w_, w_ = wc := ⟨_, rfl⟩
  subst e_
  clear hltn hltf hltg
  have hT8 := below_then hT7 hB8
  have hZ8 := below_then hZ7 hB8
  clear hZ7
  have hn8 := block_below hB8 hn7
  have hf8 := block_below hB8 hf7
  have hg8 := block_below hB8 hg7
  have hN8 := NIs.to hN7 hB8
  have hF8 := FIs.to hF7 hB8
  have hG8 := FIs.to hG7 hB8
  clear hT7 hn7 hf7 hg7 hN7 hF7 hG7 hB8
  have ha8 := ha_
  have hA8 := hA_
  clear ha_ hA_
  have hln := (Array.getElem?_eq_some_iff.1 hn8).1
  obtain ⟨nc0, nc1, nc2, nc3, nc4, nc5, nc6⟩ := cells7' hn8
  have hlf := (Array.getElem?_eq_some_iff.1 hf8).1
  obtain ⟨fc0, fc1, fc2, fc3, fc4⟩ := cells5' hf8
  have hlg := (Array.getElem?_eq_some_iff.1 hg8).1
  obtain ⟨gc0, gc1, gc2, gc3, gc4⟩ := cells5' hg8
  go_wp2_with fail
  clear hln nc0 nc1 nc2 nc3 nc4 nc5 nc6 hlf fc0 fc1 fc2 fc3 fc4 hlg gc0 gc1 gc2 gc3 gc4
  refine (send_c hN8 hG8 Hok.out (fun _ _ => trivial) er Her.out M3 HM3.out).mono ?_
  rintro e w9 ⟨m3, rfl, hm3_, hB9⟩
  have hT9 := below_then hT8 hB9
  have hZ9 := below_then hZ8 hB9
  clear hZ8
  have hn9 := block_below hB9 hn8
  have hf9 := block_below hB9 hf8
  have hg9 := block_below hB9 hg8
  have ha9 := block_below hB9 ha8
  have hN9 := NIs.to hN8 hB9
  have hF9 := FIs.to hF8 hB9
  have hG9 := FIs.to hG8 hB9
  have hA9 := NIs.to hA8 hB9
  clear hT8 hn8 hf8 hg8 ha8 hN8 hF8 hG8 hA8 hB9
  have hm39 := hm3_
  clear hm3_
  have hln := (Array.getElem?_eq_some_iff.1 hn9).1
  obtain ⟨nc0, nc1, nc2, nc3, nc4, nc5, nc6⟩ := cells7' hn9
  have hlf := (Array.getElem?_eq_some_iff.1 hf9).1
  obtain ⟨fc0, fc1, fc2, fc3, fc4⟩ := cells5' hf9
  go_wp2_with fail
  clear hln nc0 nc1 nc2 nc3 nc4 nc5 nc6 hlf fc0 fc1 fc2 fc3 fc4
  obtain ⟨w10, hw10⟩ : ∃ w10, w9.alloc (.cells #[.slice m3.qa m3.qm m3.qc, .slice m3.la m3.lm m3.lc, .int .i64 m3.k.t, .int .i64 m3.k.r, .int .i64 m3.k.s, .int .i64 m3.k.q, .slice m3.ga m3.gm m3.gc] 27) = w10 := ⟨_, rfl⟩
  have hB10 : Below w9.heap.size w9 w10 := by rw [← hw10]; exact below_alloc1 _ _
  have hm10 : w10.heap[w9.heap.size]? = some (.cells #[.slice m3.qa m3.qm m3.qc, .slice m3.la m3.lm m3.lc, .int .i64 m3.k.t, .int .i64 m3.k.r, .int .i64 m3.k.s, .int .i64 m3.k.q, .slice m3.ga m3.gm m3.gc] 27) := by rw [← hw10]; exact World.alloc_heap_new _ _
  rw [hw10]
  clear hw10
  have hT10 := below_then hT9 hB10
  have hZ10 := below_then hZ9 hB10
  clear hZ9
  have hn10 := block_below hB10 hn9
  have hf10 := block_below hB10 hf9
  have hg10 := block_below hB10 hg9
  have ha10 := block_below hB10 ha9
  have hN10 := NIs.to hN9 hB10
  have hF10 := FIs.to hF9 hB10
  have hG10 := FIs.to hG9 hB10
  have hA10 := NIs.to hA9 hB10
  have hm310 := NIs.to hm39 hB10
  clear hT9 hn9 hf9 hg9 ha9 hN9 hF9 hG9 hA9 hm39 hB10
  refine (heard_c hm310 hF10 Hok3.out Hr.out (fun _ _ => trivial) true false M2 HM4.out).mono ?_
  rintro e w11 ⟨vb, rfl, hBb_, hB11⟩
  have hT11 := below_then hT10 hB11
  have hZ11 := below_then hZ10 hB11
  clear hZ10
  have hn11 := block_below hB11 hn10
  have hf11 := block_below hB11 hf10
  have hg11 := block_below hB11 hg10
  have ha11 := block_below hB11 ha10
  have hm11 := block_below hB11 hm10
  have hN11 := NIs.to hN10 hB11
  have hF11 := FIs.to hF10 hB11
  have hG11 := FIs.to hG10 hB11
  have hA11 := NIs.to hA10 hB11
  have hm311 := NIs.to hm310 hB11
  clear hT10 hn10 hf10 hg10 ha10 hm10 hN10 hF10 hG10 hA10 hm310 hB11
  have hBb11 := hBb_
  clear hBb_
  have hln := (Array.getElem?_eq_some_iff.1 hn11).1
  obtain ⟨nc0, nc1, nc2, nc3, nc4, nc5, nc6⟩ := cells7' hn11
  go_wp2_with fail
  clear hln nc0 nc1 nc2 nc3 nc4 nc5 nc6
  obtain ⟨w12, hw12⟩ : ∃ w12, w11.alloc (.cells #[.slice vb.qa vb.qm vb.qc, .slice vb.la vb.lm vb.lc, .int .i64 vb.k.t, .int .i64 vb.k.r, .int .i64 vb.k.s, .int .i64 vb.k.q, .slice vb.ga vb.gm vb.gc] 27) = w12 := ⟨_, rfl⟩
  have hB12 : Below w11.heap.size w11 w12 := by rw [← hw12]; exact below_alloc1 _ _
  have hb12 : w12.heap[w11.heap.size]? = some (.cells #[.slice vb.qa vb.qm vb.qc, .slice vb.la vb.lm vb.lc, .int .i64 vb.k.t, .int .i64 vb.k.r, .int .i64 vb.k.s, .int .i64 vb.k.q, .slice vb.ga vb.gm vb.gc] 27) := by rw [← hw12]; exact World.alloc_heap_new _ _
  rw [hw12]
  clear hw12
  have hT12 := below_then hT11 hB12
  have hZ12 := below_then hZ11 hB12
  clear hZ11
  have hn12 := block_below hB12 hn11
  have hf12 := block_below hB12 hf11
  have hg12 := block_below hB12 hg11
  have ha12 := block_below hB12 ha11
  have hm12 := block_below hB12 hm11
  have hN12 := NIs.to hN11 hB12
  have hF12 := FIs.to hF11 hB12
  have hG12 := FIs.to hG11 hB12
  have hA12 := NIs.to hA11 hB12
  have hm312 := NIs.to hm311 hB12
  have hBb12 := NIs.to hBb11 hB12
  clear hT11 hn11 hf11 hg11 ha11 hm11 hN11 hF11 hG11 hA11 hm311 hBb11 hB12
  refine (sent_c hN12 Hok.out (fun _ _ => trivial) ok S1 HS1.out).mono ?_
  rintro e w13 ⟨m4, rfl, hm4_, hB13⟩
  have hT13 := below_then hT12 hB13
  have hZ13 := below_then hZ12 hB13
  clear hZ12
  have hn13 := block_below hB13 hn12
  have hf13 := block_below hB13 hf12
  have hg13 := block_below hB13 hg12
  have ha13 := block_below hB13 ha12
  have hm13 := block_below hB13 hm12
  have hb13 := block_below hB13 hb12
  have hN13 := NIs.to hN12 hB13
  have hF13 := FIs.to hF12 hB13
  have hG13 := FIs.to hG12 hB13
  have hA13 := NIs.to hA12 hB13
  have hm313 := NIs.to hm312 hB13
  have hBb13 := NIs.to hBb12 hB13
  clear hT12 hn12 hf12 hg12 ha12 hm12 hb12 hN12 hF12 hG12 hA12 hm312 hBb12 hB13
  have hm413 := hm4_
  clear hm4_
  have hln := (Array.getElem?_eq_some_iff.1 hn13).1
  obtain ⟨nc0, nc1, nc2, nc3, nc4, nc5, nc6⟩ := cells7' hn13
  go_wp2_with fail
  clear hln nc0 nc1 nc2 nc3 nc4 nc5 nc6
  obtain ⟨K, hK⟩ : ∃ q, takeN S1 = q := ⟨_, rfl⟩
  have HK := Lib.hid hK
  clear hK
  obtain ⟨PF, hPF⟩ : ∃ q, takeF S1 = q := ⟨_, rfl⟩
  have HPF := Lib.hid hPF
  clear hPF
  obtain ⟨tb, htb⟩ : ∃ q, takeB S1 = q := ⟨_, rfl⟩
  have Htb := Lib.hid htb
  clear htb
  obtain ⟨Y, hY⟩ : ∃ q, takeN N = q := ⟨_, rfl⟩
  have HY := Lib.hid hY
  clear hY
  have HPF2 := Lib.hid (show takeF N = PF by rw [← HPF.out, ← HS1.out]; unfold takeF; rw [sent_g])
  have Htb2 := Lib.hid (show takeB N = tb by rw [← Htb.out, ← HS1.out]; unfold takeB; rw [sent_g])
  have HK2 := Lib.hid (show sentN Y ok = K by rw [← HK.out, ← HS1.out, ← HY.out]; exact take_sent N ok)
  have HokY := Lib.hid (show OkN Y by rw [← HY.out]; exact ok_take Hok.out)
  refine (take_c hm413 HokS.out (fun _ _ => trivial) K HK.out PF HPF.out tb Htb.out).mono ?_
  rintro e w14 ⟨vx, vp, rfl, hXx_, hPp_, hB14⟩
  have hT14 := below_then hT13 hB14
  have hZ14 := below_then hZ13 hB14
  clear hZ13
  have hn14 := block_below hB14 hn13
  have hf14 := block_below hB14 hf13
  have hg14 := block_below hB14 hg13
  have ha14 := block_below hB14 ha13
  have hm14 := block_below hB14 hm13
  have hb14 := block_below hB14 hb13
  have hN14 := NIs.to hN13 hB14
  have hF14 := FIs.to hF13 hB14
  have hG14 := FIs.to hG13 hB14
  have hA14 := NIs.to hA13 hB14
  have hm314 := NIs.to hm313 hB14
  have hBb14 := NIs.to hBb13 hB14
  have hm414 := NIs.to hm413 hB14
  clear hT13 hn13 hf13 hg13 ha13 hm13 hb13 hN13 hF13 hG13 hA13 hm313 hBb13 hm413 hB14
  have hXx14 := hXx_
  clear hXx_
  have hPp14 := hPp_
  clear hPp_
  have hln := (Array.getElem?_eq_some_iff.1 hn14).1
  obtain ⟨nc0, nc1, nc2, nc3, nc4, nc5, nc6⟩ := cells7' hn14
  go_wp2_with fail
  clear hln nc0 nc1 nc2 nc3 nc4 nc5 nc6
  obtain ⟨w15, hw15⟩ : ∃ w15, w14.alloc (.cells #[.slice vx.qa vx.qm vx.qc, .slice vx.la vx.lm vx.lc, .int .i64 vx.k.t, .int .i64 vx.k.r, .int .i64 vx.k.s, .int .i64 vx.k.q, .slice vx.ga vx.gm vx.gc] 27) = w15 := ⟨_, rfl⟩
  have hB15 : Below w14.heap.size w14 w15 := by rw [← hw15]; exact below_alloc1 _ _
  have hx15 : w15.heap[w14.heap.size]? = some (.cells #[.slice vx.qa vx.qm vx.qc, .slice vx.la vx.lm vx.lc, .int .i64 vx.k.t, .int .i64 vx.k.r, .int .i64 vx.k.s, .int .i64 vx.k.q, .slice vx.ga vx.gm vx.gc] 27) := by rw [← hw15]; exact World.alloc_heap_new _ _
  have hzw15 : w15.heap.size = w14.heap.size + 1 := by rw [← hw15]; simp
  rw [hw15]
  clear hw15
  have hT15 := below_then hT14 hB15
  have hZ15 := below_then hZ14 hB15
  clear hZ14
  have hn15 := block_below hB15 hn14
  have hf15 := block_below hB15 hf14
  have hg15 := block_below hB15 hg14
  have ha15 := block_below hB15 ha14
  have hm15 := block_below hB15 hm14
  have hb15 := block_below hB15 hb14
  have hN15 := NIs.to hN14 hB15
  have hF15 := FIs.to hF14 hB15
  have hG15 := FIs.to hG14 hB15
  have hA15 := NIs.to hA14 hB15
  have hm315 := NIs.to hm314 hB15
  have hBb15 := NIs.to hBb14 hB15
  have hm415 := NIs.to hm414 hB15
  have hXx15 := NIs.to hXx14 hB15
  have hPp15 := FIs.to hPp14 hB15
  clear hT14 hn14 hf14 hg14 ha14 hm14 hb14 hN14 hF14 hG14 hA14 hm314 hBb14 hm414 hXx14 hPp14 hB15
  obtain ⟨w16, hw16⟩ : ∃ w16, w15.alloc (.cells #[.bool vp.x, .int .i64 vp.i, .bool vp.r, .int .i64 vp.n, .slice vp.a vp.m vp.c] 30) = w16 := ⟨_, rfl⟩
  have hB16 : Below w15.heap.size w15 w16 := by rw [← hw16]; exact below_alloc1 _ _
  have hp16 : w16.heap[(w14.heap.size + 1)]? = some (.cells #[.bool vp.x, .int .i64 vp.i, .bool vp.r, .int .i64 vp.n, .slice vp.a vp.m vp.c] 30) := by rw [← hw16]; exact alloc_at _ _ hzw15
  rw [hw16]
  clear hw16
  have hT16 := below_then hT15 hB16
  have hZ16 := below_then hZ15 hB16
  clear hZ15
  have hn16 := block_below hB16 hn15
  have hf16 := block_below hB16 hf15
  have hg16 := block_below hB16 hg15
  have ha16 := block_below hB16 ha15
  have hm16 := block_below hB16 hm15
  have hb16 := block_below hB16 hb15
  have hx16 := block_below hB16 hx15
  have hN16 := NIs.to hN15 hB16
  have hF16 := FIs.to hF15 hB16
  have hG16 := FIs.to hG15 hB16
  have hA16 := NIs.to hA15 hB16
  have hm316 := NIs.to hm315 hB16
  have hBb16 := NIs.to hBb15 hB16
  have hm416 := NIs.to hm415 hB16
  have hXx16 := NIs.to hXx15 hB16
  have hPp16 := FIs.to hPp15 hB16
  clear hT15 hn15 hf15 hg15 ha15 hm15 hb15 hx15 hN15 hF15 hG15 hA15 hm315 hBb15 hm415 hXx15 hPp15 hB16
  refine (take_c hN16 Hok.out (fun _ _ => trivial) Y HY.out PF HPF2.out tb Htb2.out).mono ?_
  rintro e w17 ⟨vy, vq, rfl, hYy_, hQq_, hB17⟩
  have hT17 := below_then hT16 hB17
  have hZ17 := below_then hZ16 hB17
  clear hZ16
  have hn17 := block_below hB17 hn16
  have hf17 := block_below hB17 hf16
  have hg17 := block_below hB17 hg16
  have ha17 := block_below hB17 ha16
  have hm17 := block_below hB17 hm16
  have hb17 := block_below hB17 hb16
  have hx17 := block_below hB17 hx16
  have hp17 := block_below hB17 hp16
  have hN17 := NIs.to hN16 hB17
  have hF17 := FIs.to hF16 hB17
  have hG17 := FIs.to hG16 hB17
  have hA17 := NIs.to hA16 hB17
  have hm317 := NIs.to hm316 hB17
  have hBb17 := NIs.to hBb16 hB17
  have hm417 := NIs.to hm416 hB17
  have hXx17 := NIs.to hXx16 hB17
  have hPp17 := FIs.to hPp16 hB17
  clear hT16 hn16 hf16 hg16 ha16 hm16 hb16 hx16 hp16 hN16 hF16 hG16 hA16 hm316 hBb16 hm416 hXx16 hPp16 hB17
  have hYy17 := hYy_
  clear hYy_
  have hQq17 := hQq_
  clear hQq_
  go_wp2_with fail
  obtain ⟨w18, hw18⟩ : ∃ w18, w17.alloc (.cells #[.slice vy.qa vy.qm vy.qc, .slice vy.la vy.lm vy.lc, .int .i64 vy.k.t, .int .i64 vy.k.r, .int .i64 vy.k.s, .int .i64 vy.k.q, .slice vy.ga vy.gm vy.gc] 27) = w18 := ⟨_, rfl⟩
  have hB18 : Below w17.heap.size w17 w18 := by rw [← hw18]; exact below_alloc1 _ _
  have hy18 : w18.heap[w17.heap.size]? = some (.cells #[.slice vy.qa vy.qm vy.qc, .slice vy.la vy.lm vy.lc, .int .i64 vy.k.t, .int .i64 vy.k.r, .int .i64 vy.k.s, .int .i64 vy.k.q, .slice vy.ga vy.gm vy.gc] 27) := by rw [← hw18]; exact World.alloc_heap_new _ _
  have hzw18 : w18.heap.size = w17.heap.size + 1 := by rw [← hw18]; simp
  rw [hw18]
  clear hw18
  have hT18 := below_then hT17 hB18
  have hZ18 := below_then hZ17 hB18
  clear hZ17
  have hn18 := block_below hB18 hn17
  have hf18 := block_below hB18 hf17
  have hg18 := block_below hB18 hg17
  have ha18 := block_below hB18 ha17
  have hm18 := block_below hB18 hm17
  have hb18 := block_below hB18 hb17
  have hx18 := block_below hB18 hx17
  have hp18 := block_below hB18 hp17
  have hN18 := NIs.to hN17 hB18
  have hF18 := FIs.to hF17 hB18
  have hG18 := FIs.to hG17 hB18
  have hA18 := NIs.to hA17 hB18
  have hm318 := NIs.to hm317 hB18
  have hBb18 := NIs.to hBb17 hB18
  have hm418 := NIs.to hm417 hB18
  have hXx18 := NIs.to hXx17 hB18
  have hPp18 := FIs.to hPp17 hB18
  have hYy18 := NIs.to hYy17 hB18
  have hQq18 := FIs.to hQq17 hB18
  clear hT17 hn17 hf17 hg17 ha17 hm17 hb17 hx17 hp17 hN17 hF17 hG17 hA17 hm317 hBb17 hm417 hXx17 hPp17 hYy17 hQq17 hB18
  obtain ⟨w19, hw19⟩ : ∃ w19, w18.alloc (.cells #[.bool vq.x, .int .i64 vq.i, .bool vq.r, .int .i64 vq.n, .slice vq.a vq.m vq.c] 30) = w19 := ⟨_, rfl⟩
  have hB19 : Below w18.heap.size w18 w19 := by rw [← hw19]; exact below_alloc1 _ _
  have hq219 : w19.heap[(w17.heap.size + 1)]? = some (.cells #[.bool vq.x, .int .i64 vq.i, .bool vq.r, .int .i64 vq.n, .slice vq.a vq.m vq.c] 30) := by rw [← hw19]; exact alloc_at _ _ hzw18
  rw [hw19]
  clear hw19
  have hT19 := below_then hT18 hB19
  have hZ19 := below_then hZ18 hB19
  clear hZ18
  have hn19 := block_below hB19 hn18
  have hf19 := block_below hB19 hf18
  have hg19 := block_below hB19 hg18
  have ha19 := block_below hB19 ha18
  have hm19 := block_below hB19 hm18
  have hb19 := block_below hB19 hb18
  have hx19 := block_below hB19 hx18
  have hp19 := block_below hB19 hp18
  have hy19 := block_below hB19 hy18
  have hN19 := NIs.to hN18 hB19
  have hF19 := FIs.to hF18 hB19
  have hG19 := FIs.to hG18 hB19
  have hA19 := NIs.to hA18 hB19
  have hm319 := NIs.to hm318 hB19
  have hBb19 := NIs.to hBb18 hB19
  have hm419 := NIs.to hm418 hB19
  have hXx19 := NIs.to hXx18 hB19
  have hPp19 := FIs.to hPp18 hB19
  have hYy19 := NIs.to hYy18 hB19
  have hQq19 := FIs.to hQq18 hB19
  clear hT18 hn18 hf18 hg18 ha18 hm18 hb18 hx18 hp18 hy18 hN18 hF18 hG18 hA18 hm318 hBb18 hm418 hXx18 hPp18 hYy18 hQq18 hB19
  refine wp_region_held_drew (S := fun W => (W.cell? ⟨Xa, 0, none⟩ = some (.slice va.qa va.qm va.qc) ∧ W.cell? ⟨Xa, 1, none⟩ = some (.slice va.la va.lm va.lc) ∧ W.cell? ⟨Xa, 2, none⟩ = some (.int .i64 va.k.t) ∧ W.cell? ⟨Xa, 3, none⟩ = some (.int .i64 va.k.r) ∧ W.cell? ⟨Xa, 4, none⟩ = some (.int .i64 va.k.s) ∧ W.cell? ⟨Xa, 5, none⟩ = some (.int .i64 va.k.q) ∧ W.cell? ⟨Xa, 6, none⟩ = some (.slice va.ga va.gm va.gc)) ∧ (W.cell? ⟨w11.heap.size, 0, none⟩ = some (.slice vb.qa vb.qm vb.qc) ∧ W.cell? ⟨w11.heap.size, 1, none⟩ = some (.slice vb.la vb.lm vb.lc) ∧ W.cell? ⟨w11.heap.size, 2, none⟩ = some (.int .i64 vb.k.t) ∧ W.cell? ⟨w11.heap.size, 3, none⟩ = some (.int .i64 vb.k.r) ∧ W.cell? ⟨w11.heap.size, 4, none⟩ = some (.int .i64 vb.k.s) ∧ W.cell? ⟨w11.heap.size, 5, none⟩ = some (.int .i64 vb.k.q) ∧ W.cell? ⟨w11.heap.size, 6, none⟩ = some (.slice vb.ga vb.gm vb.gc)) ∧ (W.cell? ⟨w14.heap.size, 0, none⟩ = some (.slice vx.qa vx.qm vx.qc) ∧ W.cell? ⟨w14.heap.size, 1, none⟩ = some (.slice vx.la vx.lm vx.lc) ∧ W.cell? ⟨w14.heap.size, 2, none⟩ = some (.int .i64 vx.k.t) ∧ W.cell? ⟨w14.heap.size, 3, none⟩ = some (.int .i64 vx.k.r) ∧ W.cell? ⟨w14.heap.size, 4, none⟩ = some (.int .i64 vx.k.s) ∧ W.cell? ⟨w14.heap.size, 5, none⟩ = some (.int .i64 vx.k.q) ∧ W.cell? ⟨w14.heap.size, 6, none⟩ = some (.slice vx.ga vx.gm vx.gc)) ∧ (W.cell? ⟨(w14.heap.size + 1), 0, none⟩ = some (.bool vp.x) ∧ W.cell? ⟨(w14.heap.size + 1), 1, none⟩ = some (.int .i64 vp.i) ∧ W.cell? ⟨(w14.heap.size + 1), 2, none⟩ = some (.bool vp.r) ∧ W.cell? ⟨(w14.heap.size + 1), 3, none⟩ = some (.int .i64 vp.n) ∧ W.cell? ⟨(w14.heap.size + 1), 4, none⟩ = some (.slice vp.a vp.m vp.c)) ∧ (W.cell? ⟨w17.heap.size, 0, none⟩ = some (.slice vy.qa vy.qm vy.qc) ∧ W.cell? ⟨w17.heap.size, 1, none⟩ = some (.slice vy.la vy.lm vy.lc) ∧ W.cell? ⟨w17.heap.size, 2, none⟩ = some (.int .i64 vy.k.t) ∧ W.cell? ⟨w17.heap.size, 3, none⟩ = some (.int .i64 vy.k.r) ∧ W.cell? ⟨w17.heap.size, 4, none⟩ = some (.int .i64 vy.k.s) ∧ W.cell? ⟨w17.heap.size, 5, none⟩ = some (.int .i64 vy.k.q) ∧ W.cell? ⟨w17.heap.size, 6, none⟩ = some (.slice vy.ga vy.gm vy.gc)) ∧ (W.cell? ⟨(w17.heap.size + 1), 0, none⟩ = some (.bool vq.x) ∧ W.cell? ⟨(w17.heap.size + 1), 1, none⟩ = some (.int .i64 vq.i) ∧ W.cell? ⟨(w17.heap.size + 1), 2, none⟩ = some (.bool vq.r) ∧ W.cell? ⟨(w17.heap.size + 1), 3, none⟩ = some (.int .i64 vq.n) ∧ W.cell? ⟨(w17.heap.size + 1), 4, none⟩ = some (.slice vq.a vq.m vq.c))) (by kernel_rfl) (by exact ⟨cells7' (block_below (below_drew1 _) ha19), cells7' (block_below (below_drew1 _) hb19), cells7' (block_below (below_drew1 _) hx19), cells5' (block_below (below_drew1 _) hp19), cells7' (block_below (below_drew1 _) hy19), cells5' (block_below (below_drew1 _) hq219)⟩) (fun hHeld_ => ?_)
  refine wpAnyH_take' (i := 0) (v := ?v0_t2) 85 rfl rfl (by kernel_rfl) (by kernel_rfl) (by kernel_rfl) (fun _ _ _ h => h) (Or.inl ⟨by kernel_rfl, ?hy0_t2⟩) (by assumption) ?rest0_t2
  case hy0_t2 => (intro W_ hS_; (try dsimp only at hS_); go_simp; (try (with_reducible rfl)))
  try simp only [Act.put, List.setIfInBounds_toArray, List.set_cons_zero, List.set_cons_succ]
  refine wpAnyH_take' (i := 1) (v := ?v1_t2) 86 rfl rfl (by kernel_rfl) (by kernel_rfl) (by kernel_rfl) (fun _ _ _ h => h) (Or.inl ⟨by kernel_rfl, ?hy1_t2⟩) (by assumption) ?rest1_t2
  case hy1_t2 => (intro W_ hS_; (try dsimp only at hS_); go_simp; (try (with_reducible rfl)))
  try simp only [Act.put, List.setIfInBounds_toArray, List.set_cons_zero, List.set_cons_succ]
  refine wpAnyH_take' (i := 2) (v := ?v2_t2) 87 rfl rfl (by kernel_rfl) (by kernel_rfl) (by kernel_rfl) (fun _ _ _ h => h) (Or.inl ⟨by kernel_rfl, ?hy2_t2⟩) (by assumption) ?rest2_t2
  case hy2_t2 => (intro W_ hS_; (try dsimp only at hS_); go_simp; (try (with_reducible rfl)))
  try simp only [Act.put, List.setIfInBounds_toArray, List.set_cons_zero, List.set_cons_succ]
  refine wpAnyH_take' (i := 3) (v := ?v3_t2) 88 rfl rfl (by kernel_rfl) (by kernel_rfl) (by kernel_rfl) (fun _ _ _ h => h) (Or.inl ⟨by kernel_rfl, ?hy3_t2⟩) (by assumption) ?rest3_t2
  case hy3_t2 => (intro W_ hS_; (try dsimp only at hS_); go_simp; (try (with_reducible rfl)))
  try simp only [Act.put, List.setIfInBounds_toArray, List.set_cons_zero, List.set_cons_succ]
  refine wpAnyH_take' (i := 4) (v := ?v4_t2) 89 rfl rfl (by kernel_rfl) (by kernel_rfl) (by kernel_rfl) (fun _ _ _ h => h) (Or.inl ⟨by kernel_rfl, ?hy4_t2⟩) (by assumption) ?rest4_t2
  case hy4_t2 => (intro W_ hS_; (try dsimp only at hS_); go_simp; (try (with_reducible rfl)))
  try simp only [Act.put, List.setIfInBounds_toArray, List.set_cons_zero, List.set_cons_succ]
  refine wpAnyH_take' (i := 5) (v := ?v5_t2) 90 rfl rfl (by kernel_rfl) (by kernel_rfl) (by kernel_rfl) (fun _ _ _ h => h) (Or.inl ⟨by kernel_rfl, ?hy5_t2⟩) (by assumption) ?rest5_t2
  case hy5_t2 => (intro W_ hS_; (try dsimp only at hS_); go_simp; (try (with_reducible rfl)))
  try simp only [Act.put, List.setIfInBounds_toArray, List.set_cons_zero, List.set_cons_succ]
  refine wpAnyH_take' (i := 6) (v := ?v6_t2) 91 rfl rfl (by kernel_rfl) (by kernel_rfl) (by kernel_rfl) (fun _ _ _ h => h) (Or.inl ⟨by kernel_rfl, ?hy6_t2⟩) (by assumption) ?rest6_t2
  case hy6_t2 => (intro W_ hS_; (try dsimp only at hS_); go_simp; (try (with_reducible rfl)))
  try simp only [Act.put, List.setIfInBounds_toArray, List.set_cons_zero, List.set_cons_succ]
  refine wpAnyH_take' (i := 7) (v := ?v7_t2) 92 rfl rfl (by kernel_rfl) (by kernel_rfl) (by kernel_rfl) (fun _ _ _ h => h) (Or.inl ⟨by kernel_rfl, ?hy7_t2⟩) (by assumption) ?rest7_t2
  case hy7_t2 => (intro W_ hS_; (try dsimp only at hS_); go_simp; (try (with_reducible rfl)))
  try simp only [Act.put, List.setIfInBounds_toArray, List.set_cons_zero, List.set_cons_succ]
  refine wpAnyH_take' (i := 8) (v := ?v8_t2) 93 rfl rfl (by kernel_rfl) (by kernel_rfl) (by kernel_rfl) (fun _ _ _ h => h) (Or.inl ⟨by kernel_rfl, ?hy8_t2⟩) (by assumption) ?rest8_t2
  case hy8_t2 => (intro W_ hS_; (try dsimp only at hS_); go_simp; (try (with_reducible rfl)))
  try simp only [Act.put, List.setIfInBounds_toArray, List.set_cons_zero, List.set_cons_succ]
  refine wpAnyH_ready (rs := [9]) (by kernel_rfl) (by simp) ?_
  refine AllReadyH.cons rfl (fun K_ hK_ => ?_) AllReadyH.nil
  go_simp
  refine (same9_c (NIs.to hA19 (below_drew1 _)) (NIs.to hBb19 (below_drew1 _)) true (by unfold sameN; simp)).mono ?_; rintro e wr9 ⟨rfl, hBr9⟩
  go_wp2_with fail
  refine hK_.out _ _ (by exact ⟨cells7' (block_below hBr9 (block_below (below_drew1 _) ha19)), cells7' (block_below hBr9 (block_below (below_drew1 _) hb19)), cells7' (block_below hBr9 (block_below (below_drew1 _) hx19)), cells5' (block_below hBr9 (block_below (below_drew1 _) hp19)), cells7' (block_below hBr9 (block_below (below_drew1 _) hy19)), cells5' (block_below hBr9 (block_below (below_drew1 _) hq219))⟩) (fun hHeld_9 => ?_)
  clear hK_
  try simp only [Act.put, List.setIfInBounds_toArray, List.set_cons_zero, List.set_cons_succ]
  refine wpAnyH_take' (i := 10) (v := ?v10_t2) 95 rfl rfl (by kernel_rfl) (by kernel_rfl) (by kernel_rfl) (fun _ _ _ h => h) (Or.inl ⟨by kernel_rfl, ?hy10_t2⟩) (by assumption) ?rest10_t2
  case hy10_t2 => (intro W_ hS_; (try dsimp only at hS_); go_simp; (try (with_reducible rfl)))
  try simp only [Act.put, List.setIfInBounds_toArray, List.set_cons_zero, List.set_cons_succ]
  refine wpAnyH_take' (i := 11) (v := ?v11_t2) 96 rfl rfl (by kernel_rfl) (by kernel_rfl) (by kernel_rfl) (fun _ _ _ h => h) (Or.inl ⟨by kernel_rfl, ?hy11_t2⟩) (by assumption) ?rest11_t2
  case hy11_t2 => (intro W_ hS_; (try dsimp only at hS_); go_simp; (try (with_reducible rfl)))
  try simp only [Act.put, List.setIfInBounds_toArray, List.set_cons_zero, List.set_cons_succ]
  refine wpAnyH_take' (i := 12) (v := ?v12_t2) 97 rfl rfl (by kernel_rfl) (by kernel_rfl) (by kernel_rfl) (fun _ _ _ h => h) (Or.inl ⟨by kernel_rfl, ?hy12_t2⟩) (by assumption) ?rest12_t2
  case hy12_t2 => (intro W_ hS_; (try dsimp only at hS_); go_simp; (try (with_reducible rfl)))
  try simp only [Act.put, List.setIfInBounds_toArray, List.set_cons_zero, List.set_cons_succ]
  refine wpAnyH_take' (i := 13) (v := ?v13_t2) 98 rfl rfl (by kernel_rfl) (by kernel_rfl) (by kernel_rfl) (fun _ _ _ h => h) (Or.inl ⟨by kernel_rfl, ?hy13_t2⟩) (by assumption) ?rest13_t2
  case hy13_t2 => (intro W_ hS_; (try dsimp only at hS_); go_simp; (try (with_reducible rfl)))
  try simp only [Act.put, List.setIfInBounds_toArray, List.set_cons_zero, List.set_cons_succ]
  refine wpAnyH_take' (i := 14) (v := ?v14_t2) 99 rfl rfl (by kernel_rfl) (by kernel_rfl) (by kernel_rfl) (fun _ _ _ h => h) (Or.inl ⟨by kernel_rfl, ?hy14_t2⟩) (by assumption) ?rest14_t2
  case hy14_t2 => (intro W_ hS_; (try dsimp only at hS_); go_simp; (try (with_reducible rfl)))
  try simp only [Act.put, List.setIfInBounds_toArray, List.set_cons_zero, List.set_cons_succ]
  refine wpAnyH_ready (rs := [15]) (by kernel_rfl) (by simp) ?_
  refine AllReadyH.cons rfl (fun K_ hK_ => ?_) AllReadyH.nil
  go_simp
  refine (sent_c (NIs.to (NIs.to hYy19 (below_drew1 _)) hBr9) HokY.out (fun _ _ => trivial) ok K HK2.out).mono ?_; rintro e wr15 ⟨m6, rfl, hm6_, hBr15⟩
  go_wp2_with fail
  refine hK_.out _ _ (by exact ⟨cells7' (block_below hBr15 (block_below hBr9 (block_below (below_drew1 _) ha19))), cells7' (block_below hBr15 (block_below hBr9 (block_below (below_drew1 _) hb19))), cells7' (block_below hBr15 (block_below hBr9 (block_below (below_drew1 _) hx19))), cells5' (block_below hBr15 (block_below hBr9 (block_below (below_drew1 _) hp19))), cells7' (block_below hBr15 (block_below hBr9 (block_below (below_drew1 _) hy19))), cells5' (block_below hBr15 (block_below hBr9 (block_below (below_drew1 _) hq219)))⟩) (fun hHeld_15 => ?_)
  clear hK_
  try simp only [Act.put, List.setIfInBounds_toArray, List.set_cons_zero, List.set_cons_succ]
  refine wpAnyH_ready (rs := [16]) (by kernel_rfl) (by simp) ?_
  refine AllReadyH.cons rfl (fun K_ hK_ => ?_) AllReadyH.nil
  go_simp
  refine (same9_c (NIs.to (NIs.to (NIs.to hXx19 (below_drew1 _)) hBr9) hBr15) hm6_ true (by unfold sameN; simp)).mono ?_; rintro e wr16 ⟨rfl, hBr16⟩
  go_wp2_with fail
  refine hK_.out _ _ (by exact ⟨cells7' (block_below hBr16 (block_below hBr15 (block_below hBr9 (block_below (below_drew1 _) ha19)))), cells7' (block_below hBr16 (block_below hBr15 (block_below hBr9 (block_below (below_drew1 _) hb19)))), cells7' (block_below hBr16 (block_below hBr15 (block_below hBr9 (block_below (below_drew1 _) hx19)))), cells5' (block_below hBr16 (block_below hBr15 (block_below hBr9 (block_below (below_drew1 _) hp19)))), cells7' (block_below hBr16 (block_below hBr15 (block_below hBr9 (block_below (below_drew1 _) hy19)))), cells5' (block_below hBr16 (block_below hBr15 (block_below hBr9 (block_below (below_drew1 _) hq219))))⟩) (fun hHeld_16 => ?_)
  clear hK_
  try simp only [Act.put, List.setIfInBounds_toArray, List.set_cons_zero, List.set_cons_succ]
  refine wpAnyH_take' (i := 17) (v := ?v17_t2) 102 rfl rfl (by kernel_rfl) (by kernel_rfl) (by kernel_rfl) (fun _ _ _ h => h) (Or.inl ⟨by kernel_rfl, ?hy17_t2⟩) (by assumption) ?rest17_t2
  case hy17_t2 => (intro W_ hS_; (try dsimp only at hS_); go_simp; (try (with_reducible rfl)))
  try simp only [Act.put, List.setIfInBounds_toArray, List.set_cons_zero, List.set_cons_succ]
  refine wpAnyH_take' (i := 18) (v := ?v18_t2) 103 rfl rfl (by kernel_rfl) (by kernel_rfl) (by kernel_rfl) (fun _ _ _ h => h) (Or.inl ⟨by kernel_rfl, ?hy18_t2⟩) (by assumption) ?rest18_t2
  case hy18_t2 => (intro W_ hS_; (try dsimp only at hS_); go_simp; (try (with_reducible rfl)))
  try simp only [Act.put, List.setIfInBounds_toArray, List.set_cons_zero, List.set_cons_succ]
  refine wpAnyH_take' (i := 19) (v := ?v19_t2) 104 rfl rfl (by kernel_rfl) (by kernel_rfl) (by kernel_rfl) (fun _ _ _ h => h) (Or.inl ⟨by kernel_rfl, ?hy19_t2⟩) (by assumption) ?rest19_t2
  case hy19_t2 => (intro W_ hS_; (try dsimp only at hS_); go_simp; (try (with_reducible rfl)))
  try simp only [Act.put, List.setIfInBounds_toArray, List.set_cons_zero, List.set_cons_succ]
  refine wpAnyH_take' (i := 20) (v := ?v20_t2) 105 rfl rfl (by kernel_rfl) (by kernel_rfl) (by kernel_rfl) (fun _ _ _ h => h) (Or.inl ⟨by kernel_rfl, ?hy20_t2⟩) (by assumption) ?rest20_t2
  case hy20_t2 => (intro W_ hS_; (try dsimp only at hS_); go_simp; (try (with_reducible rfl)))
  try simp only [Act.put, List.setIfInBounds_toArray, List.set_cons_zero, List.set_cons_succ]
  refine wpAnyH_ready (rs := [21]) (by kernel_rfl) (by simp) ?_
  refine AllReadyH.cons rfl (fun K_ hK_ => ?_) AllReadyH.nil
  go_simp
  refine (refFrSame_c (FIs.to (FIs.to (FIs.to (FIs.to hPp19 (below_drew1 _)) hBr9) hBr15) hBr16) (FIs.to (FIs.to (FIs.to (FIs.to hQq19 (below_drew1 _)) hBr9) hBr15) hBr16) true (by simp [sameF])).mono ?_; rintro e wr21 ⟨rfl, hBr21⟩
  go_wp2_with fail
  refine hK_.out _ _ (by exact ⟨cells7' (block_below hBr21 (block_below hBr16 (block_below hBr15 (block_below hBr9 (block_below (below_drew1 _) ha19))))), cells7' (block_below hBr21 (block_below hBr16 (block_below hBr15 (block_below hBr9 (block_below (below_drew1 _) hb19))))), cells7' (block_below hBr21 (block_below hBr16 (block_below hBr15 (block_below hBr9 (block_below (below_drew1 _) hx19))))), cells5' (block_below hBr21 (block_below hBr16 (block_below hBr15 (block_below hBr9 (block_below (below_drew1 _) hp19))))), cells7' (block_below hBr21 (block_below hBr16 (block_below hBr15 (block_below hBr9 (block_below (below_drew1 _) hy19))))), cells5' (block_below hBr21 (block_below hBr16 (block_below hBr15 (block_below hBr9 (block_below (below_drew1 _) hq219)))))⟩) (fun hHeld_21 => ?_)
  clear hK_
  try simp only [Act.put, List.setIfInBounds_toArray, List.set_cons_zero, List.set_cons_succ]
  refine wpAnyH_take' (i := 22) (v := ?v22_t2) 107 rfl rfl (by kernel_rfl) (by kernel_rfl) (by kernel_rfl) (fun _ _ _ h => h) (Or.inl ⟨by kernel_rfl, ?hy22_t2⟩) (by assumption) ?rest22_t2
  case hy22_t2 => (intro W_ hS_; (try dsimp only at hS_); go_simp; (try (with_reducible rfl)))
  try simp only [Act.put, List.setIfInBounds_toArray, List.set_cons_zero, List.set_cons_succ]
  refine wpAnyH_take' (i := 23) (v := ?v23_t2) 108 rfl rfl (by kernel_rfl) (by kernel_rfl) (by kernel_rfl) (fun _ _ _ h => h) (Or.inl ⟨by kernel_rfl, ?hy23_t2⟩) (by assumption) ?rest23_t2
  case hy23_t2 => (intro W_ hS_; (try dsimp only at hS_); go_simp; (try (with_reducible rfl)))
  try simp only [Act.put, List.setIfInBounds_toArray, List.set_cons_zero, List.set_cons_succ]
  refine wpAnyH_take' (i := 24) (v := ?v24_t2) 109 rfl rfl (by kernel_rfl) (by kernel_rfl) (by kernel_rfl) (fun _ _ _ h => h) (Or.inl ⟨by kernel_rfl, ?hy24_t2⟩) (by assumption) ?rest24_t2
  case hy24_t2 => (intro W_ hS_; (try dsimp only at hS_); go_simp; (try (with_reducible rfl)))
  try simp only [Act.put, List.setIfInBounds_toArray, List.set_cons_zero, List.set_cons_succ]
  refine wpAnyH_take' (i := 25) (v := ?v25_t2) 110 rfl rfl (by kernel_rfl) (by kernel_rfl) (by kernel_rfl) (fun _ _ _ h => h) (Or.inl ⟨by kernel_rfl, ?hy25_t2⟩) (by assumption) ?rest25_t2
  case hy25_t2 => (intro W_ hS_; (try dsimp only at hS_); go_simp; (try (with_reducible rfl)))
  try simp only [Act.put, List.setIfInBounds_toArray, List.set_cons_zero, List.set_cons_succ]
  refine wpAnyH_take' (i := 26) (v := ?v26_t2) 111 rfl rfl (by kernel_rfl) (by kernel_rfl) (by kernel_rfl) (fun _ _ _ h => h) (Or.inl ⟨by kernel_rfl, ?hy26_t2⟩) (by assumption) ?rest26_t2
  case hy26_t2 => (intro W_ hS_; (try dsimp only at hS_); go_simp; (try (with_reducible rfl)))
  try simp only [Act.put, List.setIfInBounds_toArray, List.set_cons_zero, List.set_cons_succ]
  refine wpAnyH_take' (i := 27) (v := ?v27_t2) 112 rfl rfl (by kernel_rfl) (by kernel_rfl) (by kernel_rfl) (fun _ _ _ h => h) (Or.inl ⟨by kernel_rfl, ?hy27_t2⟩) (by assumption) ?rest27_t2
  case hy27_t2 => (intro W_ hS_; (try dsimp only at hS_); go_simp; (try (with_reducible rfl)))
  try simp only [Act.put, List.setIfInBounds_toArray, List.set_cons_zero, List.set_cons_succ]
  refine wpAnyH_take' (i := 28) (v := ?v28_t2) 8 rfl rfl (by kernel_rfl) (by kernel_rfl) (by kernel_rfl) (fun _ _ _ h => h) (Or.inl ⟨by kernel_rfl, ?hy28_t2⟩) (by assumption) ?rest28_t2
  case hy28_t2 => (intro W_ hS_; (try dsimp only at hS_); go_simp; (try (with_reducible rfl)))
  try simp only [Act.put, List.setIfInBounds_toArray, List.set_cons_zero, List.set_cons_succ]
  refine wpAnyH_done (by kernel_rfl) ?_ _
  go_wp2_with fail
  go_ret
  exact ⟨rfl, below_then hT19 (below_then (below_then (below_then (below_then (below_drew1 _) hBr9) hBr15) hBr16) hBr21)⟩

end Go.Proofs.Ytlbgilbigcnleaa
