/-
  NodeTells: the walk.
-/
import Derived.Test.YtlbgilbigcnleaaNdG
import Derived.Test.YtlbgilbigcnleaaNdV
import Derived.Test.YtlbgilbigcnleaaNdX
import Derived.Test.YtlbgilbigcnleaaNdY
import Derived.Test.YtlbgilbigcnleaaNeA
import Derived.Test.YtlbgilbigcnleaaNeT
import Derived.Test.YtlbgilbigcnleaaNeS
import Derived.Test.YtlbgilbigcnleaaNeB
import Derived.Test.YtlbgilbigcnleaaNeH
namespace Go.Proofs.Ytlbgilbigcnleaa
open Go.RowKit
set_option linter.unusedVariables false
set_option linter.unusedSimpArgs false

set_option maxRecDepth 100000 in
set_option maxHeartbeats 2000000 in
theorem nodeTells_any (n : NV) (N : NC) (f : FV) (F : FC) (A : Option Addr) (m c : Nat) (ls : List FL) (a b : Bool) (w : World) (h : NIs w (fun _ => True) n N) (hf : FIs w (fun _ => True) f F) (hl : LSl w (fun _ => True) A m c ls) :
    Calls Try.prog 3 #[n.v, f.v, .slice A m c, .bool a, .bool b] w fun e w' => e = .returned (.bool true) ∧ Below w.heap.size w w' := by
  obtain ⟨w0, hw0⟩ : ∃ w0, ((w.alloc (.cells #[.slice n.qa n.qm n.qc, .slice n.la n.lm n.lc, .int .i64 n.k.t, .int .i64 n.k.r, .int .i64 n.k.s, .int .i64 n.k.q, .slice n.ga n.gm n.gc] 27)).alloc (.cells #[.bool f.x, .int .i64 f.i, .bool f.r, .int .i64 f.n, .slice f.a f.m f.c] 30)) = w0 := ⟨_, rfl⟩
  have hT0 : Below w.heap.size w w0 := by rw [← hw0]; exact below_then (below_alloc1 _ _) (below_alloc1 _ _)
  have hn0 : w0.heap[w.heap.size]? = some (.cells #[.slice n.qa n.qm n.qc, .slice n.la n.lm n.lc, .int .i64 n.k.t, .int .i64 n.k.r, .int .i64 n.k.s, .int .i64 n.k.q, .slice n.ga n.gm n.gc] 27) := by rw [← hw0]; exact block_below (below_alloc1 _ _) (World.alloc_heap_new _ _)
  have hf0 : w0.heap[(w.heap.size + 1)]? = some (.cells #[.bool f.x, .int .i64 f.i, .bool f.r, .int .i64 f.n, .slice f.a f.m f.c] 30) := by rw [← hw0]; exact alloc_at _ _ (by simp)
  have hs0 : w0.heap.size = w.heap.size + 2 := by rw [← hw0]; simp
  have Hs0 := Lib.hid hs0
  clear hs0
  have hln := (Array.getElem?_eq_some_iff.1 hn0).1
  obtain ⟨nc0, nc1, nc2, nc3, nc4, nc5, nc6⟩ := cells7' hn0
  have hlf := (Array.getElem?_eq_some_iff.1 hf0).1
  obtain ⟨fc0, fc1, fc2, fc3, fc4⟩ := cells5' hf0
  go_enter Try.func3, Try.ntmps3
  go_wp2_with fail
  clear hln nc0 nc1 nc2 nc3 nc4 nc5 nc6 hlf fc0 fc1 fc2 fc3 fc4
  clear hw0
  have hZ0 := Below.refl w0.heap.size w0
  have hN0 := h.to hT0
  have hF0 := hf.to hT0
  have hL0 := hl.to hT0
  refine (head_c w0).mono ?_
  rintro e w1 ⟨rfl, hB1⟩
  have hT1 := below_then hT0 hB1
  have hZ1 := below_then hZ0 hB1
  clear hZ0
  have hn1 := block_below hB1 hn0
  have hf1 := block_below hB1 hf0
  have hN1 := NIs.to hN0 hB1
  have hF1 := FIs.to hF0 hB1
  have hL1 := LSl.to hL0 hB1
  clear hT0 hn0 hf0 hN0 hF0 hL0 hB1
  have hln := (Array.getElem?_eq_some_iff.1 hn1).1
  obtain ⟨nc0, nc1, nc2, nc3, nc4, nc5, nc6⟩ := cells7' hn1
  have hlf := (Array.getElem?_eq_some_iff.1 hf1).1
  obtain ⟨fc0, fc1, fc2, fc3, fc4⟩ := cells5' hf1
  go_wp2_with fail
  clear hln nc0 nc1 nc2 nc3 nc4 nc5 nc6 hlf fc0 fc1 fc2 fc3 fc4
  refine (great9_c hN1).mono ?_
  rintro e w2 ⟨rfl | rfl, hB2⟩
  · skip
    have hT2 := below_then hT1 hB2
    have hZ2 := below_then hZ1 hB2
    clear hZ1
    have hn2 := block_below hB2 hn1
    have hf2 := block_below hB2 hf1
    have hN2 := NIs.to hN1 hB2
    have hF2 := FIs.to hF1 hB2
    have hL2 := LSl.to hL1 hB2
    clear hT1 hn1 hf1 hN1 hF1 hL1 hB2
    have hln := (Array.getElem?_eq_some_iff.1 hn2).1
    obtain ⟨nc0, nc1, nc2, nc3, nc4, nc5, nc6⟩ := cells7' hn2
    have hlf := (Array.getElem?_eq_some_iff.1 hf2).1
    obtain ⟨fc0, fc1, fc2, fc3, fc4⟩ := cells5' hf2
    go_wp2_with fail
    go_ret
    exact ⟨rfl, hT2⟩
  have hT2 := below_then hT1 hB2
  have hZ2 := below_then hZ1 hB2
  clear hZ1
  have hn2 := block_below hB2 hn1
  have hf2 := block_below hB2 hf1
  have hN2 := NIs.to hN1 hB2
  have hF2 := FIs.to hF1 hB2
  have hL2 := LSl.to hL1 hB2
  clear hT1 hn1 hf1 hN1 hF1 hL1 hB2
  have hln := (Array.getElem?_eq_some_iff.1 hn2).1
  obtain ⟨nc0, nc1, nc2, nc3, nc4, nc5, nc6⟩ := cells7' hn2
  have hlf := (Array.getElem?_eq_some_iff.1 hf2).1
  obtain ⟨fc0, fc1, fc2, fc3, fc4⟩ := cells5' hf2
  go_wp2_with fail
  clear hln nc0 nc1 nc2 nc3 nc4 nc5 nc6 hlf fc0 fc1 fc2 fc3 fc4
  obtain ⟨g, hg⟩ : ∃ q, decide (100 < F.d.length) = q := ⟨_, rfl⟩
  have Hg := Lib.hid hg
  clear hg
  cases g
  rotate_left
  · skip
    refine (great_c hF2 true Hg.out).mono ?_
    rintro e w3 ⟨rfl, hB3⟩
    have hT3 := below_then hT2 hB3
    have hZ3 := below_then hZ2 hB3
    clear hZ2
    have hn3 := block_below hB3 hn2
    have hf3 := block_below hB3 hf2
    have hN3 := NIs.to hN2 hB3
    have hF3 := FIs.to hF2 hB3
    have hL3 := LSl.to hL2 hB3
    clear hT2 hn2 hf2 hN2 hF2 hL2 hB3
    have hln := (Array.getElem?_eq_some_iff.1 hn3).1
    obtain ⟨nc0, nc1, nc2, nc3, nc4, nc5, nc6⟩ := cells7' hn3
    have hlf := (Array.getElem?_eq_some_iff.1 hf3).1
    obtain ⟨fc0, fc1, fc2, fc3, fc4⟩ := cells5' hf3
    go_wp2_with fail
    go_ret
    exact ⟨rfl, hT3⟩
  refine (great_c hF2 false Hg.out).mono ?_
  rintro e w3 ⟨rfl, hB3⟩
  have hT3 := below_then hT2 hB3
  have hZ3 := below_then hZ2 hB3
  clear hZ2
  have hn3 := block_below hB3 hn2
  have hf3 := block_below hB3 hf2
  have hN3 := NIs.to hN2 hB3
  have hF3 := FIs.to hF2 hB3
  have hL3 := LSl.to hL2 hB3
  clear hT2 hn2 hf2 hN2 hF2 hL2 hB3
  by_cases hc : m ≤ 100
  rotate_left
  · skip
    have i1 : (100 : Int) < (m : Int) := by omega
    have hln := (Array.getElem?_eq_some_iff.1 hn3).1
    obtain ⟨nc0, nc1, nc2, nc3, nc4, nc5, nc6⟩ := cells7' hn3
    have hlf := (Array.getElem?_eq_some_iff.1 hf3).1
    obtain ⟨fc0, fc1, fc2, fc3, fc4⟩ := cells5' hf3
    go_wp2_with fail
    go_ret
    exact ⟨rfl, hT3⟩
  have i1 : ¬ (100 : Int) < (m : Int) := by omega
  have hln := (Array.getElem?_eq_some_iff.1 hn3).1
  obtain ⟨nc0, nc1, nc2, nc3, nc4, nc5, nc6⟩ := cells7' hn3
  have hlf := (Array.getElem?_eq_some_iff.1 hf3).1
  obtain ⟨fc0, fc1, fc2, fc3, fc4⟩ := cells5' hf3
  go_wp2_with fail
  clear hln nc0 nc1 nc2 nc3 nc4 nc5 nc6 hlf fc0 fc1 fc2 fc3 fc4
  obtain ⟨er, her⟩ : ∃ q, newE ls = q := ⟨_, rfl⟩
  have Her := Lib.hid her
  clear her
  obtain ⟨M, hM⟩ : ∃ q, newN ls = q := ⟨_, rfl⟩
  have HM := Lib.hid hM
  clear hM
  refine (new_c hL3 (by omega) (fun _ _ => trivial) er Her.out M HM.out).mono ?_
  rintro e w4 ⟨n1, rfl, hn1_, hB4⟩
  have hT4 := below_then hT3 hB4
  have hZ4 := below_then hZ3 hB4
  clear hZ3
  have hn4 := block_below hB4 hn3
  have hf4 := block_below hB4 hf3
  have hN4 := NIs.to hN3 hB4
  have hF4 := FIs.to hF3 hB4
  have hL4 := LSl.to hL3 hB4
  clear hT3 hn3 hf3 hN3 hF3 hL3 hB4
  have hn14 := hn1_
  clear hn1_
  go_wp2_with fail
  obtain ⟨w5, hw5⟩ : ∃ w5, w4.alloc (.cells #[.slice n1.qa n1.qm n1.qc, .slice n1.la n1.lm n1.lc, .int .i64 n1.k.t, .int .i64 n1.k.r, .int .i64 n1.k.s, .int .i64 n1.k.q, .slice n1.ga n1.gm n1.gc] 27) = w5 := ⟨_, rfl⟩
  have hB5 : Below w4.heap.size w4 w5 := by rw [← hw5]; exact below_alloc1 _ _
  have hx5 : w5.heap[w4.heap.size]? = some (.cells #[.slice n1.qa n1.qm n1.qc, .slice n1.la n1.lm n1.lc, .int .i64 n1.k.t, .int .i64 n1.k.r, .int .i64 n1.k.s, .int .i64 n1.k.q, .slice n1.ga n1.gm n1.gc] 27) := by rw [← hw5]; exact World.alloc_heap_new _ _
  rw [hw5]
  clear hw5
  have hT5 := below_then hT4 hB5
  have hZ5 := below_then hZ4 hB5
  clear hZ4
  have hn5 := block_below hB5 hn4
  have hf5 := block_below hB5 hf4
  have hN5 := NIs.to hN4 hB5
  have hF5 := FIs.to hF4 hB5
  have hL5 := LSl.to hL4 hB5
  have hn15 := NIs.to hn14 hB5
  clear hT4 hn4 hf4 hN4 hF4 hL4 hn14 hB5
  refine (refNew_c hL5 (by omega) (fun _ _ => trivial) er Her.out M HM.out).mono ?_
  rintro e w6 ⟨n2, rfl, hn2_, hB6⟩
  have hT6 := below_then hT5 hB6
  have hZ6 := below_then hZ5 hB6
  clear hZ5
  have hn6 := block_below hB6 hn5
  have hf6 := block_below hB6 hf5
  have hx6 := block_below hB6 hx5
  have hN6 := NIs.to hN5 hB6
  have hF6 := FIs.to hF5 hB6
  have hL6 := LSl.to hL5 hB6
  have hn16 := NIs.to hn15 hB6
  clear hT5 hn5 hf5 hx5 hN5 hF5 hL5 hn15 hB6
  have hn26 := hn2_
  clear hn2_
  go_wp2_with fail
  obtain ⟨w7, hw7⟩ : ∃ w7, w6.alloc (.cells #[.slice n2.qa n2.qm n2.qc, .slice n2.la n2.lm n2.lc, .int .i64 n2.k.t, .int .i64 n2.k.r, .int .i64 n2.k.s, .int .i64 n2.k.q, .slice n2.ga n2.gm n2.gc] 27) = w7 := ⟨_, rfl⟩
  have hB7 : Below w6.heap.size w6 w7 := by rw [← hw7]; exact below_alloc1 _ _
  have hy7 : w7.heap[w6.heap.size]? = some (.cells #[.slice n2.qa n2.qm n2.qc, .slice n2.la n2.lm n2.lc, .int .i64 n2.k.t, .int .i64 n2.k.r, .int .i64 n2.k.s, .int .i64 n2.k.q, .slice n2.ga n2.gm n2.gc] 27) := by rw [← hw7]; exact World.alloc_heap_new _ _
  rw [hw7]
  clear hw7
  have hT7 := below_then hT6 hB7
  have hZ7 := below_then hZ6 hB7
  clear hZ6
  have hn7 := block_below hB7 hn6
  have hf7 := block_below hB7 hf6
  have hx7 := block_below hB7 hx6
  have hN7 := NIs.to hN6 hB7
  have hF7 := FIs.to hF6 hB7
  have hL7 := LSl.to hL6 hB7
  have hn17 := NIs.to hn16 hB7
  have hn27 := NIs.to hn26 hB7
  clear hT6 hn6 hf6 hx6 hN6 hF6 hL6 hn16 hn26 hB7
  obtain ⟨q, hq⟩ : ∃ q, rightN N = q := ⟨_, rfl⟩
  have Hq := Lib.hid hq
  clear hq
  refine wp_region_held_drew (S := fun W => (W.cell? ⟨w.heap.size, 0, none⟩ = some (.slice n.qa n.qm n.qc) ∧ W.cell? ⟨w.heap.size, 1, none⟩ = some (.slice n.la n.lm n.lc) ∧ W.cell? ⟨w.heap.size, 2, none⟩ = some (.int .i64 n.k.t) ∧ W.cell? ⟨w.heap.size, 3, none⟩ = some (.int .i64 n.k.r) ∧ W.cell? ⟨w.heap.size, 4, none⟩ = some (.int .i64 n.k.s) ∧ W.cell? ⟨w.heap.size, 5, none⟩ = some (.int .i64 n.k.q) ∧ W.cell? ⟨w.heap.size, 6, none⟩ = some (.slice n.ga n.gm n.gc)) ∧ (W.cell? ⟨w4.heap.size, 0, none⟩ = some (.slice n1.qa n1.qm n1.qc) ∧ W.cell? ⟨w4.heap.size, 1, none⟩ = some (.slice n1.la n1.lm n1.lc) ∧ W.cell? ⟨w4.heap.size, 2, none⟩ = some (.int .i64 n1.k.t) ∧ W.cell? ⟨w4.heap.size, 3, none⟩ = some (.int .i64 n1.k.r) ∧ W.cell? ⟨w4.heap.size, 4, none⟩ = some (.int .i64 n1.k.s) ∧ W.cell? ⟨w4.heap.size, 5, none⟩ = some (.int .i64 n1.k.q) ∧ W.cell? ⟨w4.heap.size, 6, none⟩ = some (.slice n1.ga n1.gm n1.gc)) ∧ (W.cell? ⟨w6.heap.size, 0, none⟩ = some (.slice n2.qa n2.qm n2.qc) ∧ W.cell? ⟨w6.heap.size, 1, none⟩ = some (.slice n2.la n2.lm n2.lc) ∧ W.cell? ⟨w6.heap.size, 2, none⟩ = some (.int .i64 n2.k.t) ∧ W.cell? ⟨w6.heap.size, 3, none⟩ = some (.int .i64 n2.k.r) ∧ W.cell? ⟨w6.heap.size, 4, none⟩ = some (.int .i64 n2.k.s) ∧ W.cell? ⟨w6.heap.size, 5, none⟩ = some (.int .i64 n2.k.q) ∧ W.cell? ⟨w6.heap.size, 6, none⟩ = some (.slice n2.ga n2.gm n2.gc))) (by kernel_rfl) (by exact ⟨cells7' (block_below (below_drew1 _) hn7), cells7' (block_below (below_drew1 _) hx7), cells7' (block_below (below_drew1 _) hy7)⟩) (fun hHeld_ => ?_)
  refine wpAnyH_take' (i := 0) (v := ?v0_t1) 53 rfl rfl (by kernel_rfl) (by kernel_rfl) (by kernel_rfl) (fun _ _ _ h => h) (Or.inl ⟨by kernel_rfl, ?hy0_t1⟩) (by assumption) ?rest0_t1
  case hy0_t1 => (intro W_ hS_; (try dsimp only at hS_); go_simp; (try (with_reducible rfl)))
  try simp only [Act.put, List.setIfInBounds_toArray, List.set_cons_zero, List.set_cons_succ]
  refine wpAnyH_take' (i := 2) (v := ?v2_t1) 55 rfl rfl (by kernel_rfl) (by kernel_rfl) (by kernel_rfl) (fun _ _ _ h => h) (Or.inl ⟨by kernel_rfl, ?hy2_t1⟩) (by assumption) ?rest2_t1
  case hy2_t1 => (intro W_ hS_; (try dsimp only at hS_); go_simp; (try (with_reducible rfl)))
  try simp only [Act.put, List.setIfInBounds_toArray, List.set_cons_zero, List.set_cons_succ]
  refine wpAnyH_ready (rs := [1]) (by kernel_rfl) (by simp) ?_
  refine AllReadyH.cons rfl (fun K_ hK_ => ?_) AllReadyH.nil
  go_simp
  refine (right_c (NIs.to hN7 (below_drew1 _)) q Hq.out).mono ?_; rintro e wr1 ⟨rfl, hBr1⟩
  go_wp2_with fail
  refine hK_.out _ _ (by exact ⟨cells7' (block_below hBr1 (block_below (below_drew1 _) hn7)), cells7' (block_below hBr1 (block_below (below_drew1 _) hx7)), cells7' (block_below hBr1 (block_below (below_drew1 _) hy7))⟩) (fun hHeld_1 => ?_)
  clear hK_
  try simp only [Act.put, List.setIfInBounds_toArray, List.set_cons_zero, List.set_cons_succ]
  refine wpAnyH_ready (rs := [3]) (by kernel_rfl) (by simp) ?_
  refine AllReadyH.cons rfl (fun K_ hK_ => ?_) AllReadyH.nil
  go_simp
  refine (refRight_c (NIs.to (NIs.to hN7 (below_drew1 _)) hBr1) q Hq.out).mono ?_; rintro e wr3 ⟨rfl, hBr3⟩
  go_wp2_with fail
  refine hK_.out _ _ (by exact ⟨cells7' (block_below hBr3 (block_below hBr1 (block_below (below_drew1 _) hn7))), cells7' (block_below hBr3 (block_below hBr1 (block_below (below_drew1 _) hx7))), cells7' (block_below hBr3 (block_below hBr1 (block_below (below_drew1 _) hy7)))⟩) (fun hHeld_3 => ?_)
  clear hK_
  try simp only [Act.put, List.setIfInBounds_toArray, List.set_cons_zero, List.set_cons_succ]
  refine wpAnyH_take' (i := 4) (v := ?v4_t1) 57 rfl rfl (by kernel_rfl) (by kernel_rfl) (by kernel_rfl) (fun _ _ _ h => h) (Or.inl ⟨by kernel_rfl, ?hy4_t1⟩) (by assumption) ?rest4_t1
  case hy4_t1 => (intro W_ hS_; (try dsimp only at hS_); go_simp; (try (with_reducible rfl)))
  try simp only [Act.put, List.setIfInBounds_toArray, List.set_cons_zero, List.set_cons_succ]
  refine wpAnyH_take' (i := 5) (v := ?v5_t1) 58 rfl rfl (by kernel_rfl) (by kernel_rfl) (by kernel_rfl) (fun _ _ _ h => h) (Or.inl ⟨by kernel_rfl, ?hy5_t1⟩) (by assumption) ?rest5_t1
  case hy5_t1 => (intro W_ hS_; (try dsimp only at hS_); go_simp; (try (with_reducible rfl)))
  try simp only [Act.put, List.setIfInBounds_toArray, List.set_cons_zero, List.set_cons_succ]
  refine wpAnyH_take' (i := 6) (v := ?v6_t1) 59 rfl rfl (by kernel_rfl) (by kernel_rfl) (by kernel_rfl) (fun _ _ _ h => h) (Or.inl ⟨by kernel_rfl, ?hy6_t1⟩) (by assumption) ?rest6_t1
  case hy6_t1 => (intro W_ hS_; (try dsimp only at hS_); go_simp; (try (with_reducible rfl)))
  try simp only [Act.put, List.setIfInBounds_toArray, List.set_cons_zero, List.set_cons_succ]
  refine wpAnyH_take' (i := 7) (v := ?v7_t1) 60 rfl rfl (by kernel_rfl) (by kernel_rfl) (by kernel_rfl) (fun _ _ _ h => h) (Or.inl ⟨by kernel_rfl, ?hy7_t1⟩) (by assumption) ?rest7_t1
  case hy7_t1 => (intro W_ hS_; (try dsimp only at hS_); go_simp; (try (with_reducible rfl)))
  try simp only [Act.put, List.setIfInBounds_toArray, List.set_cons_zero, List.set_cons_succ]
  refine wpAnyH_take' (i := 8) (v := ?v8_t1) 61 rfl rfl (by kernel_rfl) (by kernel_rfl) (by kernel_rfl) (fun _ _ _ h => h) (Or.inl ⟨by kernel_rfl, ?hy8_t1⟩) (by assumption) ?rest8_t1
  case hy8_t1 => (intro W_ hS_; (try dsimp only at hS_); go_simp; (try (with_reducible rfl)))
  try simp only [Act.put, List.setIfInBounds_toArray, List.set_cons_zero, List.set_cons_succ]
  refine wpAnyH_take' (i := 9) (v := ?v9_t1) 62 rfl rfl (by kernel_rfl) (by kernel_rfl) (by kernel_rfl) (fun _ _ _ h => h) (Or.inl ⟨by kernel_rfl, ?hy9_t1⟩) (by assumption) ?rest9_t1
  case hy9_t1 => (intro W_ hS_; (try dsimp only at hS_); go_simp; (try (with_reducible rfl)))
  try simp only [Act.put, List.setIfInBounds_toArray, List.set_cons_zero, List.set_cons_succ]
  refine wpAnyH_take' (i := 10) (v := ?v10_t1) 63 rfl rfl (by kernel_rfl) (by kernel_rfl) (by kernel_rfl) (fun _ _ _ h => h) (Or.inl ⟨by kernel_rfl, ?hy10_t1⟩) (by assumption) ?rest10_t1
  case hy10_t1 => (intro W_ hS_; (try dsimp only at hS_); go_simp; (try (with_reducible rfl)))
  try simp only [Act.put, List.setIfInBounds_toArray, List.set_cons_zero, List.set_cons_succ]
  refine wpAnyH_take' (i := 11) (v := ?v11_t1) 64 rfl rfl (by kernel_rfl) (by kernel_rfl) (by kernel_rfl) (fun _ _ _ h => h) (Or.inl ⟨by kernel_rfl, ?hy11_t1⟩) (by assumption) ?rest11_t1
  case hy11_t1 => (intro W_ hS_; (try dsimp only at hS_); go_simp; (try (with_reducible rfl)))
  try simp only [Act.put, List.setIfInBounds_toArray, List.set_cons_zero, List.set_cons_succ]
  refine wpAnyH_take' (i := 12) (v := ?v12_t1) 65 rfl rfl (by kernel_rfl) (by kernel_rfl) (by kernel_rfl) (fun _ _ _ h => h) (Or.inl ⟨by kernel_rfl, ?hy12_t1⟩) (by assumption) ?rest12_t1
  case hy12_t1 => (intro W_ hS_; (try dsimp only at hS_); go_simp; (try (with_reducible rfl)))
  try simp only [Act.put, List.setIfInBounds_toArray, List.set_cons_zero, List.set_cons_succ]
  refine wpAnyH_ready (rs := [13]) (by kernel_rfl) (by simp) ?_
  refine AllReadyH.cons rfl (fun K_ hK_ => ?_) AllReadyH.nil
  go_simp
  refine (same9_c (NIs.to (NIs.to (NIs.to hn17 (below_drew1 _)) hBr1) hBr3) (NIs.to (NIs.to (NIs.to hn27 (below_drew1 _)) hBr1) hBr3) true (by unfold sameN; simp)).mono ?_; rintro e wr13 ⟨rfl, hBr13⟩
  go_wp2_with fail
  refine hK_.out _ _ (by exact ⟨cells7' (block_below hBr13 (block_below hBr3 (block_below hBr1 (block_below (below_drew1 _) hn7)))), cells7' (block_below hBr13 (block_below hBr3 (block_below hBr1 (block_below (below_drew1 _) hx7)))), cells7' (block_below hBr13 (block_below hBr3 (block_below hBr1 (block_below (below_drew1 _) hy7))))⟩) (fun hHeld_13 => ?_)
  clear hK_
  try simp only [Act.put, List.setIfInBounds_toArray, List.set_cons_zero, List.set_cons_succ]
  refine wpAnyH_take' (i := 14) (v := ?v14_t1) 67 rfl rfl (by kernel_rfl) (by kernel_rfl) (by kernel_rfl) (fun _ _ _ h => h) (Or.inl ⟨by kernel_rfl, ?hy14_t1⟩) (by assumption) ?rest14_t1
  case hy14_t1 => (intro W_ hS_; (try dsimp only at hS_); go_simp; (try (with_reducible rfl)))
  try simp only [Act.put, List.setIfInBounds_toArray, List.set_cons_zero, List.set_cons_succ]
  refine wpAnyH_take' (i := 15) (v := ?v15_t1) 68 rfl rfl (by kernel_rfl) (by kernel_rfl) (by kernel_rfl) (fun _ _ _ h => h) (Or.inl ⟨by kernel_rfl, ?hy15_t1⟩) (by assumption) ?rest15_t1
  case hy15_t1 => (intro W_ hS_; (try dsimp only at hS_); go_simp; (try (with_reducible rfl)))
  try simp only [Act.put, List.setIfInBounds_toArray, List.set_cons_zero, List.set_cons_succ]
  refine wpAnyH_done (by kernel_rfl) ?_ _
  obtain ⟨w8, hw8⟩ : ∃ w8, wr13 = w8 := ⟨_, rfl⟩
  have hB8 : Below w7.heap.size w7 w8 := by rw [← hw8]; exact (below_then (below_then (below_then (below_drew1 _) hBr1) hBr3) hBr13)
  rw [hw8]
  clear hw8  hBr1 hBr3 hBr13
  have hT8 := below_then hT7 hB8
  have hZ8 := below_then hZ7 hB8
  clear hZ7
  have hn8 := block_below hB8 hn7
  have hf8 := block_below hB8 hf7
  have hx8 := block_below hB8 hx7
  have hy8 := block_below hB8 hy7
  have hN8 := NIs.to hN7 hB8
  have hF8 := FIs.to hF7 hB8
  have hL8 := LSl.to hL7 hB8
  have hn18 := NIs.to hn17 hB8
  have hn28 := NIs.to hn27 hB8
  clear hT7 hn7 hf7 hx7 hy7 hN7 hF7 hL7 hn17 hn27 hB8
  clear hn18
  clear hn28
  clear hL8
  clear hx8 hy8
  have hln := (Array.getElem?_eq_some_iff.1 hn8).1
  obtain ⟨nc0, nc1, nc2, nc3, nc4, nc5, nc6⟩ := cells7' hn8
  go_wp2_with fail
  clear hln nc0 nc1 nc2 nc3 nc4 nc5 nc6
  cases q
  · skip
    refine (refRight_c hN8 false Hq.out).mono ?_
    rintro e w9 ⟨rfl, hB9⟩
    have hT9 := below_then hT8 hB9
    have hZ9 := below_then hZ8 hB9
    clear hZ8
    have hn9 := block_below hB9 hn8
    have hf9 := block_below hB9 hf8
    have hN9 := NIs.to hN8 hB9
    have hF9 := FIs.to hF8 hB9
    clear hT8 hn8 hf8 hN8 hF8 hB9
    go_wp2_with fail
    go_ret
    exact ⟨rfl, hT9⟩
  refine (refRight_c hN8 true Hq.out).mono ?_
  rintro e w9 ⟨rfl, hB9⟩
  have hT9 := below_then hT8 hB9
  have hZ9 := below_then hZ8 hB9
  clear hZ8
  have hn9 := block_below hB9 hn8
  have hf9 := block_below hB9 hf8
  have hN9 := NIs.to hN8 hB9
  have hF9 := FIs.to hF8 hB9
  clear hT8 hn8 hf8 hN8 hF8 hB9
  have hln := (Array.getElem?_eq_some_iff.1 hn9).1
  obtain ⟨nc0, nc1, nc2, nc3, nc4, nc5, nc6⟩ := cells7' hn9
  have hlf := (Array.getElem?_eq_some_iff.1 hf9).1
  obtain ⟨fc0, fc1, fc2, fc3, fc4⟩ := cells5' hf9
  go_wp2_with fail
  clear hln nc0 nc1 nc2 nc3 nc4 nc5 nc6 hlf fc0 fc1 fc2 fc3 fc4
  have Hok := Lib.hid (rightN_iff.1 Hq.out)
  obtain ⟨e2, he2⟩ : ∃ q, sendE N F = q := ⟨_, rfl⟩
  have He2 := Lib.hid he2
  clear he2
  obtain ⟨M2, hM2⟩ : ∃ q, sendN N F = q := ⟨_, rfl⟩
  have HM2 := Lib.hid hM2
  clear hM2
  refine (send_c hN9 hF9 Hok.out (fun _ _ => trivial) e2 He2.out M2 HM2.out).mono ?_
  rintro e w10 ⟨n3, rfl, hn3_, hB10⟩
  have hT10 := below_then hT9 hB10
  have hZ10 := below_then hZ9 hB10
  clear hZ9
  have hn10 := block_below hB10 hn9
  have hf10 := block_below hB10 hf9
  have hN10 := NIs.to hN9 hB10
  have hF10 := FIs.to hF9 hB10
  clear hT9 hn9 hf9 hN9 hF9 hB10
  have hn310 := hn3_
  clear hn3_
  have hln := (Array.getElem?_eq_some_iff.1 hn10).1
  obtain ⟨nc0, nc1, nc2, nc3, nc4, nc5, nc6⟩ := cells7' hn10
  have hlf := (Array.getElem?_eq_some_iff.1 hf10).1
  obtain ⟨fc0, fc1, fc2, fc3, fc4⟩ := cells5' hf10
  go_wp2_with fail
  clear hln nc0 nc1 nc2 nc3 nc4 nc5 nc6 hlf fc0 fc1 fc2 fc3 fc4
  obtain ⟨w11, hw11⟩ : ∃ w11, w10.alloc (.cells #[.slice n3.qa n3.qm n3.qc, .slice n3.la n3.lm n3.lc, .int .i64 n3.k.t, .int .i64 n3.k.r, .int .i64 n3.k.s, .int .i64 n3.k.q, .slice n3.ga n3.gm n3.gc] 27) = w11 := ⟨_, rfl⟩
  have hB11 : Below w10.heap.size w10 w11 := by rw [← hw11]; exact below_alloc1 _ _
  have hp11 : w11.heap[w10.heap.size]? = some (.cells #[.slice n3.qa n3.qm n3.qc, .slice n3.la n3.lm n3.lc, .int .i64 n3.k.t, .int .i64 n3.k.r, .int .i64 n3.k.s, .int .i64 n3.k.q, .slice n3.ga n3.gm n3.gc] 27) := by rw [← hw11]; exact World.alloc_heap_new _ _
  rw [hw11]
  clear hw11
  have hT11 := below_then hT10 hB11
  have hZ11 := below_then hZ10 hB11
  clear hZ10
  have hn11 := block_below hB11 hn10
  have hf11 := block_below hB11 hf10
  have hN11 := NIs.to hN10 hB11
  have hF11 := FIs.to hF10 hB11
  have hn311 := NIs.to hn310 hB11
  clear hT10 hn10 hf10 hN10 hF10 hn310 hB11
  refine (refSend_c hN11 hF11 Hok.out (fun _ _ => trivial) e2 He2.out M2 HM2.out).mono ?_
  rintro e w12 ⟨n4, rfl, hn4_, hB12⟩
  have hT12 := below_then hT11 hB12
  have hZ12 := below_then hZ11 hB12
  clear hZ11
  have hn12 := block_below hB12 hn11
  have hf12 := block_below hB12 hf11
  have hp12 := block_below hB12 hp11
  have hN12 := NIs.to hN11 hB12
  have hF12 := FIs.to hF11 hB12
  have hn312 := NIs.to hn311 hB12
  clear hT11 hn11 hf11 hp11 hN11 hF11 hn311 hB12
  have hn412 := hn4_
  clear hn4_
  have hln := (Array.getElem?_eq_some_iff.1 hn12).1
  obtain ⟨nc0, nc1, nc2, nc3, nc4, nc5, nc6⟩ := cells7' hn12
  have hlf := (Array.getElem?_eq_some_iff.1 hf12).1
  obtain ⟨fc0, fc1, fc2, fc3, fc4⟩ := cells5' hf12
  go_wp2_with fail
  clear hln nc0 nc1 nc2 nc3 nc4 nc5 nc6 hlf fc0 fc1 fc2 fc3 fc4
  obtain ⟨w13, hw13⟩ : ∃ w13, w12.alloc (.cells #[.slice n4.qa n4.qm n4.qc, .slice n4.la n4.lm n4.lc, .int .i64 n4.k.t, .int .i64 n4.k.r, .int .i64 n4.k.s, .int .i64 n4.k.q, .slice n4.ga n4.gm n4.gc] 27) = w13 := ⟨_, rfl⟩
  have hB13 : Below w12.heap.size w12 w13 := by rw [← hw13]; exact below_alloc1 _ _
  have hp213 : w13.heap[w12.heap.size]? = some (.cells #[.slice n4.qa n4.qm n4.qc, .slice n4.la n4.lm n4.lc, .int .i64 n4.k.t, .int .i64 n4.k.r, .int .i64 n4.k.s, .int .i64 n4.k.q, .slice n4.ga n4.gm n4.gc] 27) := by rw [← hw13]; exact World.alloc_heap_new _ _
  rw [hw13]
  clear hw13
  have hT13 := below_then hT12 hB13
  have hZ13 := below_then hZ12 hB13
  clear hZ12
  have hn13 := block_below hB13 hn12
  have hf13 := block_below hB13 hf12
  have hp13 := block_below hB13 hp12
  have hN13 := NIs.to hN12 hB13
  have hF13 := FIs.to hF12 hB13
  have hn313 := NIs.to hn312 hB13
  have hn413 := NIs.to hn412 hB13
  clear hT12 hn12 hf12 hp12 hN12 hF12 hn312 hn412 hB13
  obtain ⟨u, hu⟩ : ∃ q, hasN N = q := ⟨_, rfl⟩
  have Hu := Lib.hid hu
  clear hu
  obtain ⟨G, hG⟩ : ∃ q, nextF N = q := ⟨_, rfl⟩
  have HG := Lib.hid hG
  clear hG
  refine (next_c hN13 Hok.out u Hu.out G HG.out).mono ?_
  rintro e w14 ⟨f3, rfl, hf3_, hB14⟩
  have hT14 := below_then hT13 hB14
  have hZ14 := below_then hZ13 hB14
  clear hZ13
  have hn14 := block_below hB14 hn13
  have hf14 := block_below hB14 hf13
  have hp14 := block_below hB14 hp13
  have hp214 := block_below hB14 hp213
  have hN14 := NIs.to hN13 hB14
  have hF14 := FIs.to hF13 hB14
  have hn314 := NIs.to hn313 hB14
  have hn414 := NIs.to hn413 hB14
  clear hT13 hn13 hf13 hp13 hp213 hN13 hF13 hn313 hn413 hB14
  have hf314 := hf3_
  clear hf3_
  have hln := (Array.getElem?_eq_some_iff.1 hn14).1
  obtain ⟨nc0, nc1, nc2, nc3, nc4, nc5, nc6⟩ := cells7' hn14
  have hlf := (Array.getElem?_eq_some_iff.1 hf14).1
  obtain ⟨fc0, fc1, fc2, fc3, fc4⟩ := cells5' hf14
  go_wp2_with fail
  clear hln nc0 nc1 nc2 nc3 nc4 nc5 nc6 hlf fc0 fc1 fc2 fc3 fc4
  obtain ⟨w15, hw15⟩ : ∃ w15, w14.alloc (.cells #[.bool f3.x, .int .i64 f3.i, .bool f3.r, .int .i64 f3.n, .slice f3.a f3.m f3.c] 30) = w15 := ⟨_, rfl⟩
  have hB15 : Below w14.heap.size w14 w15 := by rw [← hw15]; exact below_alloc1 _ _
  have hu115 : w15.heap[w14.heap.size]? = some (.cells #[.bool f3.x, .int .i64 f3.i, .bool f3.r, .int .i64 f3.n, .slice f3.a f3.m f3.c] 30) := by rw [← hw15]; exact World.alloc_heap_new _ _
  rw [hw15]
  clear hw15
  have hT15 := below_then hT14 hB15
  have hZ15 := below_then hZ14 hB15
  clear hZ14
  have hn15 := block_below hB15 hn14
  have hf15 := block_below hB15 hf14
  have hp15 := block_below hB15 hp14
  have hp215 := block_below hB15 hp214
  have hN15 := NIs.to hN14 hB15
  have hF15 := FIs.to hF14 hB15
  have hn315 := NIs.to hn314 hB15
  have hn415 := NIs.to hn414 hB15
  have hf315 := FIs.to hf314 hB15
  clear hT14 hn14 hf14 hp14 hp214 hN14 hF14 hn314 hn414 hf314 hB15
  refine (refNext_c hN15 Hok.out u Hu.out G HG.out).mono ?_
  rintro e w16 ⟨f4, rfl, hf4_, hB16⟩
  have hT16 := below_then hT15 hB16
  have hZ16 := below_then hZ15 hB16
  clear hZ15
  have hn16 := block_below hB16 hn15
  have hf16 := block_below hB16 hf15
  have hp16 := block_below hB16 hp15
  have hp216 := block_below hB16 hp215
  have hu116 := block_below hB16 hu115
  have hN16 := NIs.to hN15 hB16
  have hF16 := FIs.to hF15 hB16
  have hn316 := NIs.to hn315 hB16
  have hn416 := NIs.to hn415 hB16
  have hf316 := FIs.to hf315 hB16
  clear hT15 hn15 hf15 hp15 hp215 hu115 hN15 hF15 hn315 hn415 hf315 hB16
  have hf416 := hf4_
  clear hf4_
  have hln := (Array.getElem?_eq_some_iff.1 hn16).1
  obtain ⟨nc0, nc1, nc2, nc3, nc4, nc5, nc6⟩ := cells7' hn16
  have hlf := (Array.getElem?_eq_some_iff.1 hf16).1
  obtain ⟨fc0, fc1, fc2, fc3, fc4⟩ := cells5' hf16
  go_wp2_with fail
  clear hln nc0 nc1 nc2 nc3 nc4 nc5 nc6 hlf fc0 fc1 fc2 fc3 fc4
  obtain ⟨w17, hw17⟩ : ∃ w17, w16.alloc (.cells #[.bool f4.x, .int .i64 f4.i, .bool f4.r, .int .i64 f4.n, .slice f4.a f4.m f4.c] 30) = w17 := ⟨_, rfl⟩
  have hB17 : Below w16.heap.size w16 w17 := by rw [← hw17]; exact below_alloc1 _ _
  have hu217 : w17.heap[w16.heap.size]? = some (.cells #[.bool f4.x, .int .i64 f4.i, .bool f4.r, .int .i64 f4.n, .slice f4.a f4.m f4.c] 30) := by rw [← hw17]; exact World.alloc_heap_new _ _
  rw [hw17]
  clear hw17
  have hT17 := below_then hT16 hB17
  have hZ17 := below_then hZ16 hB17
  clear hZ16
  have hn17 := block_below hB17 hn16
  have hf17 := block_below hB17 hf16
  have hp17 := block_below hB17 hp16
  have hp217 := block_below hB17 hp216
  have hu117 := block_below hB17 hu116
  have hN17 := NIs.to hN16 hB17
  have hF17 := FIs.to hF16 hB17
  have hn317 := NIs.to hn316 hB17
  have hn417 := NIs.to hn416 hB17
  have hf317 := FIs.to hf316 hB17
  have hf417 := FIs.to hf416 hB17
  clear hT16 hn16 hf16 hp16 hp216 hu116 hN16 hF16 hn316 hn416 hf316 hf416 hB17
  obtain ⟨t, ht⟩ : ∃ q, takeB N = q := ⟨_, rfl⟩
  have Ht := Lib.hid ht
  clear ht
  obtain ⟨M3, hM3⟩ : ∃ q, takeN N = q := ⟨_, rfl⟩
  have HM3 := Lib.hid hM3
  clear hM3
  obtain ⟨G3, hG3⟩ : ∃ q, takeF N = q := ⟨_, rfl⟩
  have HG3 := Lib.hid hG3
  clear hG3
  refine (take_c hN17 Hok.out (fun _ _ => trivial) M3 HM3.out G3 HG3.out t Ht.out).mono ?_
  rintro e w18 ⟨n5, f5, rfl, hn5_, hf5_, hB18⟩
  have hT18 := below_then hT17 hB18
  have hZ18 := below_then hZ17 hB18
  clear hZ17
  have hn18 := block_below hB18 hn17
  have hf18 := block_below hB18 hf17
  have hp18 := block_below hB18 hp17
  have hp218 := block_below hB18 hp217
  have hu118 := block_below hB18 hu117
  have hu218 := block_below hB18 hu217
  have hN18 := NIs.to hN17 hB18
  have hF18 := FIs.to hF17 hB18
  have hn318 := NIs.to hn317 hB18
  have hn418 := NIs.to hn417 hB18
  have hf318 := FIs.to hf317 hB18
  have hf418 := FIs.to hf417 hB18
  clear hT17 hn17 hf17 hp17 hp217 hu117 hu217 hN17 hF17 hn317 hn417 hf317 hf417 hB18
  have hn518 := hn5_
  clear hn5_
  have hf518 := hf5_
  clear hf5_
  have hln := (Array.getElem?_eq_some_iff.1 hn18).1
  obtain ⟨nc0, nc1, nc2, nc3, nc4, nc5, nc6⟩ := cells7' hn18
  have hlf := (Array.getElem?_eq_some_iff.1 hf18).1
  obtain ⟨fc0, fc1, fc2, fc3, fc4⟩ := cells5' hf18
  go_wp2_with fail
  clear hln nc0 nc1 nc2 nc3 nc4 nc5 nc6 hlf fc0 fc1 fc2 fc3 fc4
  obtain ⟨w19, hw19⟩ : ∃ w19, w18.alloc (.cells #[.slice n5.qa n5.qm n5.qc, .slice n5.la n5.lm n5.lc, .int .i64 n5.k.t, .int .i64 n5.k.r, .int .i64 n5.k.s, .int .i64 n5.k.q, .slice n5.ga n5.gm n5.gc] 27) = w19 := ⟨_, rfl⟩
  have hB19 : Below w18.heap.size w18 w19 := by rw [← hw19]; exact below_alloc1 _ _
  have hv119 : w19.heap[w18.heap.size]? = some (.cells #[.slice n5.qa n5.qm n5.qc, .slice n5.la n5.lm n5.lc, .int .i64 n5.k.t, .int .i64 n5.k.r, .int .i64 n5.k.s, .int .i64 n5.k.q, .slice n5.ga n5.gm n5.gc] 27) := by rw [← hw19]; exact World.alloc_heap_new _ _
  have hzw19 : w19.heap.size = w18.heap.size + 1 := by rw [← hw19]; simp
  rw [hw19]
  clear hw19
  have hT19 := below_then hT18 hB19
  have hZ19 := below_then hZ18 hB19
  clear hZ18
  have hn19 := block_below hB19 hn18
  have hf19 := block_below hB19 hf18
  have hp19 := block_below hB19 hp18
  have hp219 := block_below hB19 hp218
  have hu119 := block_below hB19 hu118
  have hu219 := block_below hB19 hu218
  have hN19 := NIs.to hN18 hB19
  have hF19 := FIs.to hF18 hB19
  have hn319 := NIs.to hn318 hB19
  have hn419 := NIs.to hn418 hB19
  have hf319 := FIs.to hf318 hB19
  have hf419 := FIs.to hf418 hB19
  have hn519 := NIs.to hn518 hB19
  have hf519 := FIs.to hf518 hB19
  clear hT18 hn18 hf18 hp18 hp218 hu118 hu218 hN18 hF18 hn318 hn418 hf318 hf418 hn518 hf518 hB19
  obtain ⟨w20, hw20⟩ : ∃ w20, w19.alloc (.cells #[.bool f5.x, .int .i64 f5.i, .bool f5.r, .int .i64 f5.n, .slice f5.a f5.m f5.c] 30) = w20 := ⟨_, rfl⟩
  have hB20 : Below w19.heap.size w19 w20 := by rw [← hw20]; exact below_alloc1 _ _
  have hx120 : w20.heap[(w18.heap.size + 1)]? = some (.cells #[.bool f5.x, .int .i64 f5.i, .bool f5.r, .int .i64 f5.n, .slice f5.a f5.m f5.c] 30) := by rw [← hw20]; exact alloc_at _ _ hzw19
  rw [hw20]
  clear hw20
  have hT20 := below_then hT19 hB20
  have hZ20 := below_then hZ19 hB20
  clear hZ19
  have hn20 := block_below hB20 hn19
  have hf20 := block_below hB20 hf19
  have hp20 := block_below hB20 hp19
  have hp220 := block_below hB20 hp219
  have hu120 := block_below hB20 hu119
  have hu220 := block_below hB20 hu219
  have hv120 := block_below hB20 hv119
  have hN20 := NIs.to hN19 hB20
  have hF20 := FIs.to hF19 hB20
  have hn320 := NIs.to hn319 hB20
  have hn420 := NIs.to hn419 hB20
  have hf320 := FIs.to hf319 hB20
  have hf420 := FIs.to hf419 hB20
  have hn520 := NIs.to hn519 hB20
  have hf520 := FIs.to hf519 hB20
  clear hT19 hn19 hf19 hp19 hp219 hu119 hu219 hv119 hN19 hF19 hn319 hn419 hf319 hf419 hn519 hf519 hB20
  refine (refTake_c hN20 Hok.out (fun _ _ => trivial) M3 HM3.out G3 HG3.out t Ht.out).mono ?_
  rintro e w21 ⟨n6, f6, rfl, hn6_, hf6_, hB21⟩
  have hT21 := below_then hT20 hB21
  have hZ21 := below_then hZ20 hB21
  clear hZ20
  have hn21 := block_below hB21 hn20
  have hf21 := block_below hB21 hf20
  have hp21 := block_below hB21 hp20
  have hp221 := block_below hB21 hp220
  have hu121 := block_below hB21 hu120
  have hu221 := block_below hB21 hu220
  have hv121 := block_below hB21 hv120
  have hx121 := block_below hB21 hx120
  have hN21 := NIs.to hN20 hB21
  have hF21 := FIs.to hF20 hB21
  have hn321 := NIs.to hn320 hB21
  have hn421 := NIs.to hn420 hB21
  have hf321 := FIs.to hf320 hB21
  have hf421 := FIs.to hf420 hB21
  have hn521 := NIs.to hn520 hB21
  have hf521 := FIs.to hf520 hB21
  clear hT20 hn20 hf20 hp20 hp220 hu120 hu220 hv120 hx120 hN20 hF20 hn320 hn420 hf320 hf420 hn520 hf520 hB21
  have hn621 := hn6_
  clear hn6_
  have hf621 := hf6_
  clear hf6_
  have hlp := (Array.getElem?_eq_some_iff.1 hp21).1
  obtain ⟨pc0, pc1, pc2, pc3, pc4, pc5, pc6⟩ := cells7' hp21
  have hlp2 := (Array.getElem?_eq_some_iff.1 hp221).1
  obtain ⟨p2c0, p2c1, p2c2, p2c3, p2c4, p2c5, p2c6⟩ := cells7' hp221
  go_wp2_with fail
  clear hlp pc0 pc1 pc2 pc3 pc4 pc5 pc6 hlp2 p2c0 p2c1 p2c2 p2c3 p2c4 p2c5 p2c6
  obtain ⟨w22, hw22⟩ : ∃ w22, w21.alloc (.cells #[.slice n6.qa n6.qm n6.qc, .slice n6.la n6.lm n6.lc, .int .i64 n6.k.t, .int .i64 n6.k.r, .int .i64 n6.k.s, .int .i64 n6.k.q, .slice n6.ga n6.gm n6.gc] 27) = w22 := ⟨_, rfl⟩
  have hB22 : Below w21.heap.size w21 w22 := by rw [← hw22]; exact below_alloc1 _ _
  have hv222 : w22.heap[w21.heap.size]? = some (.cells #[.slice n6.qa n6.qm n6.qc, .slice n6.la n6.lm n6.lc, .int .i64 n6.k.t, .int .i64 n6.k.r, .int .i64 n6.k.s, .int .i64 n6.k.q, .slice n6.ga n6.gm n6.gc] 27) := by rw [← hw22]; exact World.alloc_heap_new _ _
  have hzw22 : w22.heap.size = w21.heap.size + 1 := by rw [← hw22]; simp
  rw [hw22]
  clear hw22
  have hT22 := below_then hT21 hB22
  have hZ22 := below_then hZ21 hB22
  clear hZ21
  have hn22 := block_below hB22 hn21
  have hf22 := block_below hB22 hf21
  have hp22 := block_below hB22 hp21
  have hp222 := block_below hB22 hp221
  have hu122 := block_below hB22 hu121
  have hu222 := block_below hB22 hu221
  have hv122 := block_below hB22 hv121
  have hx122 := block_below hB22 hx121
  have hN22 := NIs.to hN21 hB22
  have hF22 := FIs.to hF21 hB22
  have hn322 := NIs.to hn321 hB22
  have hn422 := NIs.to hn421 hB22
  have hf322 := FIs.to hf321 hB22
  have hf422 := FIs.to hf421 hB22
  have hn522 := NIs.to hn521 hB22
  have hf522 := FIs.to hf521 hB22
  have hn622 := NIs.to hn621 hB22
  have hf622 := FIs.to hf621 hB22
  clear hT21 hn21 hf21 hp21 hp221 hu121 hu221 hv121 hx121 hN21 hF21 hn321 hn421 hf321 hf421 hn521 hf521 hn621 hf621 hB22
  obtain ⟨w23, hw23⟩ : ∃ w23, w22.alloc (.cells #[.bool f6.x, .int .i64 f6.i, .bool f6.r, .int .i64 f6.n, .slice f6.a f6.m f6.c] 30) = w23 := ⟨_, rfl⟩
  have hB23 : Below w22.heap.size w22 w23 := by rw [← hw23]; exact below_alloc1 _ _
  have hx223 : w23.heap[(w21.heap.size + 1)]? = some (.cells #[.bool f6.x, .int .i64 f6.i, .bool f6.r, .int .i64 f6.n, .slice f6.a f6.m f6.c] 30) := by rw [← hw23]; exact alloc_at _ _ hzw22
  rw [hw23]
  clear hw23
  have hT23 := below_then hT22 hB23
  have hZ23 := below_then hZ22 hB23
  clear hZ22
  have hn23 := block_below hB23 hn22
  have hf23 := block_below hB23 hf22
  have hp23 := block_below hB23 hp22
  have hp223 := block_below hB23 hp222
  have hu123 := block_below hB23 hu122
  have hu223 := block_below hB23 hu222
  have hv123 := block_below hB23 hv122
  have hx123 := block_below hB23 hx122
  have hv223 := block_below hB23 hv222
  have hN23 := NIs.to hN22 hB23
  have hF23 := FIs.to hF22 hB23
  have hn323 := NIs.to hn322 hB23
  have hn423 := NIs.to hn422 hB23
  have hf323 := FIs.to hf322 hB23
  have hf423 := FIs.to hf422 hB23
  have hn523 := NIs.to hn522 hB23
  have hf523 := FIs.to hf522 hB23
  have hn623 := NIs.to hn622 hB23
  have hf623 := FIs.to hf622 hB23
  clear hT22 hn22 hf22 hp22 hp222 hu122 hu222 hv122 hx122 hv222 hN22 hF22 hn322 hn422 hf322 hf422 hn522 hf522 hn622 hf622 hB23
  refine (same9_c hn323 hn423 true (by unfold sameN; simp)).mono ?_
  rintro e w24 ⟨rfl, hB24⟩
  have hT24 := below_then hT23 hB24
  have hZ24 := below_then hZ23 hB24
  clear hZ23
  have hn24 := block_below hB24 hn23
  have hf24 := block_below hB24 hf23
  have hp24 := block_below hB24 hp23
  have hp224 := block_below hB24 hp223
  have hu124 := block_below hB24 hu123
  have hu224 := block_below hB24 hu223
  have hv124 := block_below hB24 hv123
  have hx124 := block_below hB24 hx123
  have hv224 := block_below hB24 hv223
  have hx224 := block_below hB24 hx223
  have hN24 := NIs.to hN23 hB24
  have hF24 := FIs.to hF23 hB24
  have hn324 := NIs.to hn323 hB24
  have hn424 := NIs.to hn423 hB24
  have hf324 := FIs.to hf323 hB24
  have hf424 := FIs.to hf423 hB24
  have hn524 := NIs.to hn523 hB24
  have hf524 := FIs.to hf523 hB24
  have hn624 := NIs.to hn623 hB24
  have hf624 := FIs.to hf623 hB24
  clear hT23 hn23 hf23 hp23 hp223 hu123 hu223 hv123 hx123 hv223 hx223 hN23 hF23 hn323 hn423 hf323 hf423 hn523 hf523 hn623 hf623 hB24
  have hlu1 := (Array.getElem?_eq_some_iff.1 hu124).1
  obtain ⟨u1c0, u1c1, u1c2, u1c3, u1c4⟩ := cells5' hu124
  have hlu2 := (Array.getElem?_eq_some_iff.1 hu224).1
  obtain ⟨u2c0, u2c1, u2c2, u2c3, u2c4⟩ := cells5' hu224
  go_wp2_with fail
  clear hlu1 u1c0 u1c1 u1c2 u1c3 u1c4 hlu2 u2c0 u2c1 u2c2 u2c3 u2c4
  refine (refFrSame_c hf324 hf424 true (by simp [sameF])).mono ?_
  rintro e w25 ⟨rfl, hB25⟩
  have hT25 := below_then hT24 hB25
  have hZ25 := below_then hZ24 hB25
  clear hZ24
  have hn25 := block_below hB25 hn24
  have hf25 := block_below hB25 hf24
  have hp25 := block_below hB25 hp24
  have hp225 := block_below hB25 hp224
  have hu125 := block_below hB25 hu124
  have hu225 := block_below hB25 hu224
  have hv125 := block_below hB25 hv124
  have hx125 := block_below hB25 hx124
  have hv225 := block_below hB25 hv224
  have hx225 := block_below hB25 hx224
  have hN25 := NIs.to hN24 hB25
  have hF25 := FIs.to hF24 hB25
  have hn325 := NIs.to hn324 hB25
  have hn425 := NIs.to hn424 hB25
  have hf325 := FIs.to hf324 hB25
  have hf425 := FIs.to hf424 hB25
  have hn525 := NIs.to hn524 hB25
  have hf525 := FIs.to hf524 hB25
  have hn625 := NIs.to hn624 hB25
  have hf625 := FIs.to hf624 hB25
  clear hT24 hn24 hf24 hp24 hp224 hu124 hu224 hv124 hx124 hv224 hx224 hN24 hF24 hn324 hn424 hf324 hf424 hn524 hf524 hn624 hf624 hB25
  have hlv1 := (Array.getElem?_eq_some_iff.1 hv125).1
  obtain ⟨v1c0, v1c1, v1c2, v1c3, v1c4, v1c5, v1c6⟩ := cells7' hv125
  have hlv2 := (Array.getElem?_eq_some_iff.1 hv225).1
  obtain ⟨v2c0, v2c1, v2c2, v2c3, v2c4, v2c5, v2c6⟩ := cells7' hv225
  go_wp2_with fail
  clear hlv1 v1c0 v1c1 v1c2 v1c3 v1c4 v1c5 v1c6 hlv2 v2c0 v2c1 v2c2 v2c3 v2c4 v2c5 v2c6
  refine (same9_c hn525 hn625 true (by unfold sameN; simp)).mono ?_
  rintro e w26 ⟨rfl, hB26⟩
  have hT26 := below_then hT25 hB26
  have hZ26 := below_then hZ25 hB26
  clear hZ25
  have hn26 := block_below hB26 hn25
  have hf26 := block_below hB26 hf25
  have hp26 := block_below hB26 hp25
  have hp226 := block_below hB26 hp225
  have hu126 := block_below hB26 hu125
  have hu226 := block_below hB26 hu225
  have hv126 := block_below hB26 hv125
  have hx126 := block_below hB26 hx125
  have hv226 := block_below hB26 hv225
  have hx226 := block_below hB26 hx225
  have hN26 := NIs.to hN25 hB26
  have hF26 := FIs.to hF25 hB26
  have hn326 := NIs.to hn325 hB26
  have hn426 := NIs.to hn425 hB26
  have hf326 := FIs.to hf325 hB26
  have hf426 := FIs.to hf425 hB26
  have hn526 := NIs.to hn525 hB26
  have hf526 := FIs.to hf525 hB26
  have hn626 := NIs.to hn625 hB26
  have hf626 := FIs.to hf625 hB26
  clear hT25 hn25 hf25 hp25 hp225 hu125 hu225 hv125 hx125 hv225 hx225 hN25 hF25 hn325 hn425 hf325 hf425 hn525 hf525 hn625 hf625 hB26
  have hlx1 := (Array.getElem?_eq_some_iff.1 hx126).1
  obtain ⟨x1c0, x1c1, x1c2, x1c3, x1c4⟩ := cells5' hx126
  have hlx2 := (Array.getElem?_eq_some_iff.1 hx226).1
  obtain ⟨x2c0, x2c1, x2c2, x2c3, x2c4⟩ := cells5' hx226
  go_wp2_with fail
  clear hlx1 x1c0 x1c1 x1c2 x1c3 x1c4 hlx2 x2c0 x2c1 x2c2 x2c3 x2c4
  refine (refFrSame_c hf526 hf626 true (by simp [sameF])).mono ?_
  rintro e w27 ⟨rfl, hB27⟩
  have hT27 := below_then hT26 hB27
  have hZ27 := below_then hZ26 hB27
  clear hZ26
  have hn27 := block_below hB27 hn26
  have hf27 := block_below hB27 hf26
  have hp27 := block_below hB27 hp26
  have hp227 := block_below hB27 hp226
  have hu127 := block_below hB27 hu126
  have hu227 := block_below hB27 hu226
  have hv127 := block_below hB27 hv126
  have hx127 := block_below hB27 hx126
  have hv227 := block_below hB27 hv226
  have hx227 := block_below hB27 hx226
  have hN27 := NIs.to hN26 hB27
  have hF27 := FIs.to hF26 hB27
  have hn327 := NIs.to hn326 hB27
  have hn427 := NIs.to hn426 hB27
  have hf327 := FIs.to hf326 hB27
  have hf427 := FIs.to hf426 hB27
  have hn527 := NIs.to hn526 hB27
  have hf527 := FIs.to hf526 hB27
  have hn627 := NIs.to hn626 hB27
  have hf627 := FIs.to hf626 hB27
  clear hT26 hn26 hf26 hp26 hp226 hu126 hu226 hv126 hx126 hv226 hx226 hN26 hF26 hn326 hn426 hf326 hf426 hn526 hf526 hn626 hf626 hB27
  clear hn327
  clear hn427
  clear hf327
  clear hf427
  clear hn527
  clear hn627
  clear hf527
  clear hf627
  go_wp2_with fail
  clear hp27
  clear hp227
  clear hu127
  clear hu227
  clear hv127
  clear hv227
  clear hx127
  clear hx227
  obtain ⟨r, hr⟩ : ∃ q, rightC F = q := ⟨_, rfl⟩
  have Hr := Lib.hid hr
  clear hr
  obtain ⟨K1, hK1⟩ : ∃ q, sentN N a = q := ⟨_, rfl⟩
  have HK1 := Lib.hid hK1
  clear hK1
  obtain ⟨K2, hK2⟩ : ∃ q, quietN N = q := ⟨_, rfl⟩
  have HK2 := Lib.hid hK2
  clear hK2
  obtain ⟨K3, hK3⟩ : ∃ q, heardN N F a b = q := ⟨_, rfl⟩
  have HK3 := Lib.hid hK3
  clear hK3
  cases r
  · skip
    refine wp_region_held_drew (S := fun W => (W.cell? ⟨w.heap.size, 0, none⟩ = some (.slice n.qa n.qm n.qc) ∧ W.cell? ⟨w.heap.size, 1, none⟩ = some (.slice n.la n.lm n.lc) ∧ W.cell? ⟨w.heap.size, 2, none⟩ = some (.int .i64 n.k.t) ∧ W.cell? ⟨w.heap.size, 3, none⟩ = some (.int .i64 n.k.r) ∧ W.cell? ⟨w.heap.size, 4, none⟩ = some (.int .i64 n.k.s) ∧ W.cell? ⟨w.heap.size, 5, none⟩ = some (.int .i64 n.k.q) ∧ W.cell? ⟨w.heap.size, 6, none⟩ = some (.slice n.ga n.gm n.gc)) ∧ (W.cell? ⟨(w.heap.size + 1), 0, none⟩ = some (.bool f.x) ∧ W.cell? ⟨(w.heap.size + 1), 1, none⟩ = some (.int .i64 f.i) ∧ W.cell? ⟨(w.heap.size + 1), 2, none⟩ = some (.bool f.r) ∧ W.cell? ⟨(w.heap.size + 1), 3, none⟩ = some (.int .i64 f.n) ∧ W.cell? ⟨(w.heap.size + 1), 4, none⟩ = some (.slice f.a f.m f.c))) (by kernel_rfl) (by exact ⟨cells7' (block_below (below_drew1 _) hn27), cells5' (block_below (below_drew1 _) hf27)⟩) (fun hHeld_ => ?_)
    refine wpAnyH_take' (i := 0) (v := ?v0_t2) 144 rfl rfl (by kernel_rfl) (by kernel_rfl) (by kernel_rfl) (fun _ _ _ h => h) (Or.inl ⟨by kernel_rfl, ?hy0_t2⟩) (by assumption) ?rest0_t2
    case hy0_t2 => (intro W_ hS_; (try dsimp only at hS_); go_simp; (try (with_reducible rfl)))
    try simp only [Act.put, List.setIfInBounds_toArray, List.set_cons_zero, List.set_cons_succ]
    refine wpAnyH_take' (i := 1) (v := ?v1_t2) 145 rfl rfl (by kernel_rfl) (by kernel_rfl) (by kernel_rfl) (fun _ _ _ h => h) (Or.inl ⟨by kernel_rfl, ?hy1_t2⟩) (by assumption) ?rest1_t2
    case hy1_t2 => (intro W_ hS_; (try dsimp only at hS_); go_simp; (try (with_reducible rfl)))
    try simp only [Act.put, List.setIfInBounds_toArray, List.set_cons_zero, List.set_cons_succ]
    refine wpAnyH_take' (i := 2) (v := ?v2_t2) 146 rfl rfl (by kernel_rfl) (by kernel_rfl) (by kernel_rfl) (fun _ _ _ h => h) (Or.inl ⟨by kernel_rfl, ?hy2_t2⟩) (by assumption) ?rest2_t2
    case hy2_t2 => (intro W_ hS_; (try dsimp only at hS_); go_simp; (try (with_reducible rfl)))
    try simp only [Act.put, List.setIfInBounds_toArray, List.set_cons_zero, List.set_cons_succ]
    refine wpAnyH_take' (i := 3) (v := ?v3_t2) 147 rfl rfl (by kernel_rfl) (by kernel_rfl) (by kernel_rfl) (fun _ _ _ h => h) (Or.inl ⟨by kernel_rfl, ?hy3_t2⟩) (by assumption) ?rest3_t2
    case hy3_t2 => (intro W_ hS_; (try dsimp only at hS_); go_simp; (try (with_reducible rfl)))
    try simp only [Act.put, List.setIfInBounds_toArray, List.set_cons_zero, List.set_cons_succ]
    refine wpAnyH_take' (i := 5) (v := ?v5_t2) 149 rfl rfl (by kernel_rfl) (by kernel_rfl) (by kernel_rfl) (fun _ _ _ h => h) (Or.inl ⟨by kernel_rfl, ?hy5_t2⟩) (by assumption) ?rest5_t2
    case hy5_t2 => (intro W_ hS_; (try dsimp only at hS_); go_simp; (try (with_reducible rfl)))
    try simp only [Act.put, List.setIfInBounds_toArray, List.set_cons_zero, List.set_cons_succ]
    refine wpAnyH_take' (i := 6) (v := ?v6_t2) 150 rfl rfl (by kernel_rfl) (by kernel_rfl) (by kernel_rfl) (fun _ _ _ h => h) (Or.inl ⟨by kernel_rfl, ?hy6_t2⟩) (by assumption) ?rest6_t2
    case hy6_t2 => (intro W_ hS_; (try dsimp only at hS_); go_simp; (try (with_reducible rfl)))
    try simp only [Act.put, List.setIfInBounds_toArray, List.set_cons_zero, List.set_cons_succ]
    refine wpAnyH_ready (rs := [4]) (by kernel_rfl) (by simp) ?_
    refine AllReadyH.cons rfl (fun K_ hK_ => ?_) AllReadyH.nil
    go_simp
    refine (sent_c (NIs.to hN27 (below_drew1 _)) Hok.out (fun _ _ => trivial) a K1 HK1.out).mono ?_; rintro e wr4 ⟨m1, rfl, hm1_, hBr4⟩
    go_wp2_with fail
    refine hK_.out _ _ (by exact ⟨cells7' (block_below hBr4 (block_below (below_drew1 _) hn27)), cells5' (block_below hBr4 (block_below (below_drew1 _) hf27))⟩) (fun hHeld_4 => ?_)
    clear hK_
    try simp only [Act.put, List.setIfInBounds_toArray, List.set_cons_zero, List.set_cons_succ]
    refine wpAnyH_ready (rs := [7]) (by kernel_rfl) (by simp) ?_
    refine AllReadyH.cons rfl (fun K_ hK_ => ?_) AllReadyH.nil
    go_simp
    refine (refSent_c (NIs.to (NIs.to hN27 (below_drew1 _)) hBr4) Hok.out (fun _ _ => trivial) a K1 HK1.out).mono ?_; rintro e wr7 ⟨m2, rfl, hm2_, hBr7⟩
    go_wp2_with fail
    refine hK_.out _ _ (by exact ⟨cells7' (block_below hBr7 (block_below hBr4 (block_below (below_drew1 _) hn27))), cells5' (block_below hBr7 (block_below hBr4 (block_below (below_drew1 _) hf27)))⟩) (fun hHeld_7 => ?_)
    clear hK_
    try simp only [Act.put, List.setIfInBounds_toArray, List.set_cons_zero, List.set_cons_succ]
    refine wpAnyH_ready (rs := [8]) (by kernel_rfl) (by simp) ?_
    refine AllReadyH.cons rfl (fun K_ hK_ => ?_) AllReadyH.nil
    go_simp
    refine (same9_c (NIs.to hm1_ hBr7) hm2_ true (by unfold sameN; simp)).mono ?_; rintro e wr8 ⟨rfl, hBr8⟩
    go_wp2_with fail
    refine hK_.out _ _ (by exact ⟨cells7' (block_below hBr8 (block_below hBr7 (block_below hBr4 (block_below (below_drew1 _) hn27)))), cells5' (block_below hBr8 (block_below hBr7 (block_below hBr4 (block_below (below_drew1 _) hf27))))⟩) (fun hHeld_8 => ?_)
    clear hK_
    try simp only [Act.put, List.setIfInBounds_toArray, List.set_cons_zero, List.set_cons_succ]
    refine wpAnyH_take' (i := 9) (v := ?v9_t2) 153 rfl rfl (by kernel_rfl) (by kernel_rfl) (by kernel_rfl) (fun _ _ _ h => h) (Or.inl ⟨by kernel_rfl, ?hy9_t2⟩) (by assumption) ?rest9_t2
    case hy9_t2 => (intro W_ hS_; (try dsimp only at hS_); go_simp; (try (with_reducible rfl)))
    try simp only [Act.put, List.setIfInBounds_toArray, List.set_cons_zero, List.set_cons_succ]
    refine wpAnyH_take' (i := 10) (v := ?v10_t2) 154 rfl rfl (by kernel_rfl) (by kernel_rfl) (by kernel_rfl) (fun _ _ _ h => h) (Or.inl ⟨by kernel_rfl, ?hy10_t2⟩) (by assumption) ?rest10_t2
    case hy10_t2 => (intro W_ hS_; (try dsimp only at hS_); go_simp; (try (with_reducible rfl)))
    try simp only [Act.put, List.setIfInBounds_toArray, List.set_cons_zero, List.set_cons_succ]
    refine wpAnyH_take' (i := 11) (v := ?v11_t2) 155 rfl rfl (by kernel_rfl) (by kernel_rfl) (by kernel_rfl) (fun _ _ _ h => h) (Or.inl ⟨by kernel_rfl, ?hy11_t2⟩) (by assumption) ?rest11_t2
    case hy11_t2 => (intro W_ hS_; (try dsimp only at hS_); go_simp; (try (with_reducible rfl)))
    try simp only [Act.put, List.setIfInBounds_toArray, List.set_cons_zero, List.set_cons_succ]
    refine wpAnyH_take' (i := 13) (v := ?v13_t2) 157 rfl rfl (by kernel_rfl) (by kernel_rfl) (by kernel_rfl) (fun _ _ _ h => h) (Or.inl ⟨by kernel_rfl, ?hy13_t2⟩) (by assumption) ?rest13_t2
    case hy13_t2 => (intro W_ hS_; (try dsimp only at hS_); go_simp; (try (with_reducible rfl)))
    try simp only [Act.put, List.setIfInBounds_toArray, List.set_cons_zero, List.set_cons_succ]
    refine wpAnyH_ready (rs := [12]) (by kernel_rfl) (by simp) ?_
    refine AllReadyH.cons rfl (fun K_ hK_ => ?_) AllReadyH.nil
    go_simp
    refine (quiet_c (NIs.to (NIs.to (NIs.to (NIs.to hN27 (below_drew1 _)) hBr4) hBr7) hBr8) Hok.out K2 HK2.out).mono ?_; rintro e wr12 ⟨m3, rfl, hm3_, hBr12⟩
    go_wp2_with fail
    refine hK_.out _ _ (by exact ⟨cells7' (block_below hBr12 (block_below hBr8 (block_below hBr7 (block_below hBr4 (block_below (below_drew1 _) hn27))))), cells5' (block_below hBr12 (block_below hBr8 (block_below hBr7 (block_below hBr4 (block_below (below_drew1 _) hf27)))))⟩) (fun hHeld_12 => ?_)
    clear hK_
    try simp only [Act.put, List.setIfInBounds_toArray, List.set_cons_zero, List.set_cons_succ]
    refine wpAnyH_ready (rs := [14]) (by kernel_rfl) (by simp) ?_
    refine AllReadyH.cons rfl (fun K_ hK_ => ?_) AllReadyH.nil
    go_simp
    refine (refQuiet_c (NIs.to (NIs.to (NIs.to (NIs.to (NIs.to hN27 (below_drew1 _)) hBr4) hBr7) hBr8) hBr12) Hok.out K2 HK2.out).mono ?_; rintro e wr14 ⟨m4, rfl, hm4_, hBr14⟩
    go_wp2_with fail
    refine hK_.out _ _ (by exact ⟨cells7' (block_below hBr14 (block_below hBr12 (block_below hBr8 (block_below hBr7 (block_below hBr4 (block_below (below_drew1 _) hn27)))))), cells5' (block_below hBr14 (block_below hBr12 (block_below hBr8 (block_below hBr7 (block_below hBr4 (block_below (below_drew1 _) hf27))))))⟩) (fun hHeld_14 => ?_)
    clear hK_
    try simp only [Act.put, List.setIfInBounds_toArray, List.set_cons_zero, List.set_cons_succ]
    refine wpAnyH_ready (rs := [15]) (by kernel_rfl) (by simp) ?_
    refine AllReadyH.cons rfl (fun K_ hK_ => ?_) AllReadyH.nil
    go_simp
    refine (same9_c (NIs.to hm3_ hBr14) hm4_ true (by unfold sameN; simp)).mono ?_; rintro e wr15 ⟨rfl, hBr15⟩
    go_wp2_with fail
    refine hK_.out _ _ (by exact ⟨cells7' (block_below hBr15 (block_below hBr14 (block_below hBr12 (block_below hBr8 (block_below hBr7 (block_below hBr4 (block_below (below_drew1 _) hn27))))))), cells5' (block_below hBr15 (block_below hBr14 (block_below hBr12 (block_below hBr8 (block_below hBr7 (block_below hBr4 (block_below (below_drew1 _) hf27)))))))⟩) (fun hHeld_15 => ?_)
    clear hK_
    try simp only [Act.put, List.setIfInBounds_toArray, List.set_cons_zero, List.set_cons_succ]
    refine wpAnyH_take' (i := 16) (v := ?v16_t2) 160 rfl rfl (by kernel_rfl) (by kernel_rfl) (by kernel_rfl) (fun _ _ _ h => h) (Or.inl ⟨by kernel_rfl, ?hy16_t2⟩) (by assumption) ?rest16_t2
    case hy16_t2 => (intro W_ hS_; (try dsimp only at hS_); go_simp; (try (with_reducible rfl)))
    try simp only [Act.put, List.setIfInBounds_toArray, List.set_cons_zero, List.set_cons_succ]
    refine wpAnyH_take' (i := 17) (v := ?v17_t2) 161 rfl rfl (by kernel_rfl) (by kernel_rfl) (by kernel_rfl) (fun _ _ _ h => h) (Or.inl ⟨by kernel_rfl, ?hy17_t2⟩) (by assumption) ?rest17_t2
    case hy17_t2 => (intro W_ hS_; (try dsimp only at hS_); go_simp; (try (with_reducible rfl)))
    try simp only [Act.put, List.setIfInBounds_toArray, List.set_cons_zero, List.set_cons_succ]
    refine wpAnyH_take' (i := 18) (v := ?v18_t2) 162 rfl rfl (by kernel_rfl) (by kernel_rfl) (by kernel_rfl) (fun _ _ _ h => h) (Or.inl ⟨by kernel_rfl, ?hy18_t2⟩) (by assumption) ?rest18_t2
    case hy18_t2 => (intro W_ hS_; (try dsimp only at hS_); go_simp; (try (with_reducible rfl)))
    try simp only [Act.put, List.setIfInBounds_toArray, List.set_cons_zero, List.set_cons_succ]
    refine wpAnyH_ready (rs := [19]) (by kernel_rfl) (by simp) ?_
    refine AllReadyH.cons rfl (fun K_ hK_ => ?_) AllReadyH.nil
    go_simp
    refine (refFrRight_c (FIs.to (FIs.to (FIs.to (FIs.to (FIs.to (FIs.to (FIs.to hF27 (below_drew1 _)) hBr4) hBr7) hBr8) hBr12) hBr14) hBr15) false Hr.out).mono ?_; rintro e wr19 ⟨rfl, hBr19⟩
    go_wp2_with fail
    refine hK_.out _ _ (by exact ⟨cells7' (block_below hBr19 (block_below hBr15 (block_below hBr14 (block_below hBr12 (block_below hBr8 (block_below hBr7 (block_below hBr4 (block_below (below_drew1 _) hn27)))))))), cells5' (block_below hBr19 (block_below hBr15 (block_below hBr14 (block_below hBr12 (block_below hBr8 (block_below hBr7 (block_below hBr4 (block_below (below_drew1 _) hf27))))))))⟩) (fun hHeld_19 => ?_)
    clear hK_
    try simp only [Act.put, List.setIfInBounds_toArray, List.set_cons_zero, List.set_cons_succ]
    refine wpAnyH_take' (i := 20) (v := ?v20_t2) 164 rfl rfl (by kernel_rfl) (by kernel_rfl) (by kernel_rfl) (fun _ _ _ h => h) (Or.inl ⟨by kernel_rfl, ?hy20_t2⟩) (by assumption) ?rest20_t2
    case hy20_t2 => (intro W_ hS_; (try dsimp only at hS_); go_simp; (try (with_reducible rfl)))
    try simp only [Act.put, List.setIfInBounds_toArray, List.set_cons_zero, List.set_cons_succ]
    refine wpAnyH_take' (i := 21) (v := ?v21_t2) 165 rfl rfl (by kernel_rfl) (by kernel_rfl) (by kernel_rfl) (fun _ _ _ h => h) (Or.inl ⟨by kernel_rfl, ?hy21_t2⟩) (by assumption) ?rest21_t2
    case hy21_t2 => (intro W_ hS_; (try dsimp only at hS_); go_simp; (try (with_reducible rfl)))
    try simp only [Act.put, List.setIfInBounds_toArray, List.set_cons_zero, List.set_cons_succ]
    refine wpAnyH_take' (i := 22) (v := undef) 166 rfl rfl (by kernel_rfl) (by kernel_rfl) (by kernel_rfl) (fun _ _ _ h => h) (Or.inr ⟨by kernel_rfl, rfl⟩) (by assumption) ?_
    try simp only [Act.put, List.setIfInBounds_toArray, List.set_cons_zero, List.set_cons_succ]
    refine wpAnyH_take' (i := 23) (v := undef) 167 rfl rfl (by kernel_rfl) (by kernel_rfl) (by kernel_rfl) (fun _ _ _ h => h) (Or.inr ⟨by kernel_rfl, rfl⟩) (by assumption) ?_
    try simp only [Act.put, List.setIfInBounds_toArray, List.set_cons_zero, List.set_cons_succ]
    refine wpAnyH_take' (i := 24) (v := undef) 168 rfl rfl (by kernel_rfl) (by kernel_rfl) (by kernel_rfl) (fun _ _ _ h => h) (Or.inr ⟨by kernel_rfl, rfl⟩) (by assumption) ?_
    try simp only [Act.put, List.setIfInBounds_toArray, List.set_cons_zero, List.set_cons_succ]
    refine wpAnyH_take' (i := 25) (v := undef) 169 rfl rfl (by kernel_rfl) (by kernel_rfl) (by kernel_rfl) (fun _ _ _ h => h) (Or.inr ⟨by kernel_rfl, rfl⟩) (by assumption) ?_
    try simp only [Act.put, List.setIfInBounds_toArray, List.set_cons_zero, List.set_cons_succ]
    refine wpAnyH_take' (i := 27) (v := undef) 171 rfl rfl (by kernel_rfl) (by kernel_rfl) (by kernel_rfl) (fun _ _ _ h => h) (Or.inr ⟨by kernel_rfl, rfl⟩) (by assumption) ?_
    try simp only [Act.put, List.setIfInBounds_toArray, List.set_cons_zero, List.set_cons_succ]
    refine wpAnyH_take' (i := 28) (v := undef) 172 rfl rfl (by kernel_rfl) (by kernel_rfl) (by kernel_rfl) (fun _ _ _ h => h) (Or.inr ⟨by kernel_rfl, rfl⟩) (by assumption) ?_
    try simp only [Act.put, List.setIfInBounds_toArray, List.set_cons_zero, List.set_cons_succ]
    refine wpAnyH_take' (i := 29) (v := undef) 173 rfl rfl (by kernel_rfl) (by kernel_rfl) (by kernel_rfl) (fun _ _ _ h => h) (Or.inr ⟨by kernel_rfl, rfl⟩) (by assumption) ?_
    try simp only [Act.put, List.setIfInBounds_toArray, List.set_cons_zero, List.set_cons_succ]
    refine wpAnyH_take' (i := 30) (v := undef) 174 rfl rfl (by kernel_rfl) (by kernel_rfl) (by kernel_rfl) (fun _ _ _ h => h) (Or.inr ⟨by kernel_rfl, rfl⟩) (by assumption) ?_
    try simp only [Act.put, List.setIfInBounds_toArray, List.set_cons_zero, List.set_cons_succ]
    refine wpAnyH_skip (i := 26) 170 rfl rfl (by kernel_rfl) (by kernel_rfl) (by assumption) ?_
    try simp only [Act.put, List.setIfInBounds_toArray, List.set_cons_zero, List.set_cons_succ]
    refine wpAnyH_skip (i := 31) 175 rfl rfl (by kernel_rfl) (by kernel_rfl) (by assumption) ?_
    try simp only [Act.put, List.setIfInBounds_toArray, List.set_cons_zero, List.set_cons_succ]
    refine wpAnyH_skip (i := 32) 176 rfl rfl (by kernel_rfl) (by kernel_rfl) (by assumption) ?_
    try simp only [Act.put, List.setIfInBounds_toArray, List.set_cons_zero, List.set_cons_succ]
    refine wpAnyH_take' (i := 33) (v := ?v33_t2) 177 rfl rfl (by kernel_rfl) (by kernel_rfl) (by kernel_rfl) (fun _ _ _ h => h) (Or.inl ⟨by kernel_rfl, ?hy33_t2⟩) (by assumption) ?rest33_t2
    case hy33_t2 => (intro W_ hS_; (try dsimp only at hS_); go_simp; (try (with_reducible rfl)))
    try simp only [Act.put, List.setIfInBounds_toArray, List.set_cons_zero, List.set_cons_succ]
    refine wpAnyH_take' (i := 34) (v := ?v34_t2) 178 rfl rfl (by kernel_rfl) (by kernel_rfl) (by kernel_rfl) (fun _ _ _ h => h) (Or.inl ⟨by kernel_rfl, ?hy34_t2⟩) (by assumption) ?rest34_t2
    case hy34_t2 => (intro W_ hS_; (try dsimp only at hS_); go_simp; (try (with_reducible rfl)))
    try simp only [Act.put, List.setIfInBounds_toArray, List.set_cons_zero, List.set_cons_succ]
    refine wpAnyH_take' (i := 35) (v := ?v35_t2) 10 rfl rfl (by kernel_rfl) (by kernel_rfl) (by kernel_rfl) (fun _ _ _ h => h) (Or.inl ⟨by kernel_rfl, ?hy35_t2⟩) (by assumption) ?rest35_t2
    case hy35_t2 => (intro W_ hS_; (try dsimp only at hS_); go_simp; (try (with_reducible rfl)))
    try simp only [Act.put, List.setIfInBounds_toArray, List.set_cons_zero, List.set_cons_succ]
    refine wpAnyH_done (by kernel_rfl) ?_ _
    go_wp2_with fail
    go_ret
    exact ⟨rfl, below_then hT27 (below_then (below_then (below_then (below_then (below_then (below_then (below_then (below_drew1 _) hBr4) hBr7) hBr8) hBr12) hBr14) hBr15) hBr19)⟩
  refine wp_region_held_drew (S := fun W => (W.cell? ⟨w.heap.size, 0, none⟩ = some (.slice n.qa n.qm n.qc) ∧ W.cell? ⟨w.heap.size, 1, none⟩ = some (.slice n.la n.lm n.lc) ∧ W.cell? ⟨w.heap.size, 2, none⟩ = some (.int .i64 n.k.t) ∧ W.cell? ⟨w.heap.size, 3, none⟩ = some (.int .i64 n.k.r) ∧ W.cell? ⟨w.heap.size, 4, none⟩ = some (.int .i64 n.k.s) ∧ W.cell? ⟨w.heap.size, 5, none⟩ = some (.int .i64 n.k.q) ∧ W.cell? ⟨w.heap.size, 6, none⟩ = some (.slice n.ga n.gm n.gc)) ∧ (W.cell? ⟨(w.heap.size + 1), 0, none⟩ = some (.bool f.x) ∧ W.cell? ⟨(w.heap.size + 1), 1, none⟩ = some (.int .i64 f.i) ∧ W.cell? ⟨(w.heap.size + 1), 2, none⟩ = some (.bool f.r) ∧ W.cell? ⟨(w.heap.size + 1), 3, none⟩ = some (.int .i64 f.n) ∧ W.cell? ⟨(w.heap.size + 1), 4, none⟩ = some (.slice f.a f.m f.c))) (by kernel_rfl) (by exact ⟨cells7' (block_below (below_drew1 _) hn27), cells5' (block_below (below_drew1 _) hf27)⟩) (fun hHeld_ => ?_)
  refine wpAnyH_take' (i := 0) (v := ?v0_t3) 144 rfl rfl (by kernel_rfl) (by kernel_rfl) (by kernel_rfl) (fun _ _ _ h => h) (Or.inl ⟨by kernel_rfl, ?hy0_t3⟩) (by assumption) ?rest0_t3
  case hy0_t3 => (intro W_ hS_; (try dsimp only at hS_); go_simp; (try (with_reducible rfl)))
  try simp only [Act.put, List.setIfInBounds_toArray, List.set_cons_zero, List.set_cons_succ]
  refine wpAnyH_take' (i := 1) (v := ?v1_t3) 145 rfl rfl (by kernel_rfl) (by kernel_rfl) (by kernel_rfl) (fun _ _ _ h => h) (Or.inl ⟨by kernel_rfl, ?hy1_t3⟩) (by assumption) ?rest1_t3
  case hy1_t3 => (intro W_ hS_; (try dsimp only at hS_); go_simp; (try (with_reducible rfl)))
  try simp only [Act.put, List.setIfInBounds_toArray, List.set_cons_zero, List.set_cons_succ]
  refine wpAnyH_take' (i := 2) (v := ?v2_t3) 146 rfl rfl (by kernel_rfl) (by kernel_rfl) (by kernel_rfl) (fun _ _ _ h => h) (Or.inl ⟨by kernel_rfl, ?hy2_t3⟩) (by assumption) ?rest2_t3
  case hy2_t3 => (intro W_ hS_; (try dsimp only at hS_); go_simp; (try (with_reducible rfl)))
  try simp only [Act.put, List.setIfInBounds_toArray, List.set_cons_zero, List.set_cons_succ]
  refine wpAnyH_take' (i := 3) (v := ?v3_t3) 147 rfl rfl (by kernel_rfl) (by kernel_rfl) (by kernel_rfl) (fun _ _ _ h => h) (Or.inl ⟨by kernel_rfl, ?hy3_t3⟩) (by assumption) ?rest3_t3
  case hy3_t3 => (intro W_ hS_; (try dsimp only at hS_); go_simp; (try (with_reducible rfl)))
  try simp only [Act.put, List.setIfInBounds_toArray, List.set_cons_zero, List.set_cons_succ]
  refine wpAnyH_take' (i := 5) (v := ?v5_t3) 149 rfl rfl (by kernel_rfl) (by kernel_rfl) (by kernel_rfl) (fun _ _ _ h => h) (Or.inl ⟨by kernel_rfl, ?hy5_t3⟩) (by assumption) ?rest5_t3
  case hy5_t3 => (intro W_ hS_; (try dsimp only at hS_); go_simp; (try (with_reducible rfl)))
  try simp only [Act.put, List.setIfInBounds_toArray, List.set_cons_zero, List.set_cons_succ]
  refine wpAnyH_take' (i := 6) (v := ?v6_t3) 150 rfl rfl (by kernel_rfl) (by kernel_rfl) (by kernel_rfl) (fun _ _ _ h => h) (Or.inl ⟨by kernel_rfl, ?hy6_t3⟩) (by assumption) ?rest6_t3
  case hy6_t3 => (intro W_ hS_; (try dsimp only at hS_); go_simp; (try (with_reducible rfl)))
  try simp only [Act.put, List.setIfInBounds_toArray, List.set_cons_zero, List.set_cons_succ]
  refine wpAnyH_ready (rs := [4]) (by kernel_rfl) (by simp) ?_
  refine AllReadyH.cons rfl (fun K_ hK_ => ?_) AllReadyH.nil
  go_simp
  refine (sent_c (NIs.to hN27 (below_drew1 _)) Hok.out (fun _ _ => trivial) a K1 HK1.out).mono ?_; rintro e wr4 ⟨m1, rfl, hm1_, hBr4⟩
  go_wp2_with fail
  refine hK_.out _ _ (by exact ⟨cells7' (block_below hBr4 (block_below (below_drew1 _) hn27)), cells5' (block_below hBr4 (block_below (below_drew1 _) hf27))⟩) (fun hHeld_4 => ?_)
  clear hK_
  try simp only [Act.put, List.setIfInBounds_toArray, List.set_cons_zero, List.set_cons_succ]
  refine wpAnyH_ready (rs := [7]) (by kernel_rfl) (by simp) ?_
  refine AllReadyH.cons rfl (fun K_ hK_ => ?_) AllReadyH.nil
  go_simp
  refine (refSent_c (NIs.to (NIs.to hN27 (below_drew1 _)) hBr4) Hok.out (fun _ _ => trivial) a K1 HK1.out).mono ?_; rintro e wr7 ⟨m2, rfl, hm2_, hBr7⟩
  go_wp2_with fail
  refine hK_.out _ _ (by exact ⟨cells7' (block_below hBr7 (block_below hBr4 (block_below (below_drew1 _) hn27))), cells5' (block_below hBr7 (block_below hBr4 (block_below (below_drew1 _) hf27)))⟩) (fun hHeld_7 => ?_)
  clear hK_
  try simp only [Act.put, List.setIfInBounds_toArray, List.set_cons_zero, List.set_cons_succ]
  refine wpAnyH_ready (rs := [8]) (by kernel_rfl) (by simp) ?_
  refine AllReadyH.cons rfl (fun K_ hK_ => ?_) AllReadyH.nil
  go_simp
  refine (same9_c (NIs.to hm1_ hBr7) hm2_ true (by unfold sameN; simp)).mono ?_; rintro e wr8 ⟨rfl, hBr8⟩
  go_wp2_with fail
  refine hK_.out _ _ (by exact ⟨cells7' (block_below hBr8 (block_below hBr7 (block_below hBr4 (block_below (below_drew1 _) hn27)))), cells5' (block_below hBr8 (block_below hBr7 (block_below hBr4 (block_below (below_drew1 _) hf27))))⟩) (fun hHeld_8 => ?_)
  clear hK_
  try simp only [Act.put, List.setIfInBounds_toArray, List.set_cons_zero, List.set_cons_succ]
  refine wpAnyH_take' (i := 9) (v := ?v9_t3) 153 rfl rfl (by kernel_rfl) (by kernel_rfl) (by kernel_rfl) (fun _ _ _ h => h) (Or.inl ⟨by kernel_rfl, ?hy9_t3⟩) (by assumption) ?rest9_t3
  case hy9_t3 => (intro W_ hS_; (try dsimp only at hS_); go_simp; (try (with_reducible rfl)))
  try simp only [Act.put, List.setIfInBounds_toArray, List.set_cons_zero, List.set_cons_succ]
  refine wpAnyH_take' (i := 10) (v := ?v10_t3) 154 rfl rfl (by kernel_rfl) (by kernel_rfl) (by kernel_rfl) (fun _ _ _ h => h) (Or.inl ⟨by kernel_rfl, ?hy10_t3⟩) (by assumption) ?rest10_t3
  case hy10_t3 => (intro W_ hS_; (try dsimp only at hS_); go_simp; (try (with_reducible rfl)))
  try simp only [Act.put, List.setIfInBounds_toArray, List.set_cons_zero, List.set_cons_succ]
  refine wpAnyH_take' (i := 11) (v := ?v11_t3) 155 rfl rfl (by kernel_rfl) (by kernel_rfl) (by kernel_rfl) (fun _ _ _ h => h) (Or.inl ⟨by kernel_rfl, ?hy11_t3⟩) (by assumption) ?rest11_t3
  case hy11_t3 => (intro W_ hS_; (try dsimp only at hS_); go_simp; (try (with_reducible rfl)))
  try simp only [Act.put, List.setIfInBounds_toArray, List.set_cons_zero, List.set_cons_succ]
  refine wpAnyH_take' (i := 13) (v := ?v13_t3) 157 rfl rfl (by kernel_rfl) (by kernel_rfl) (by kernel_rfl) (fun _ _ _ h => h) (Or.inl ⟨by kernel_rfl, ?hy13_t3⟩) (by assumption) ?rest13_t3
  case hy13_t3 => (intro W_ hS_; (try dsimp only at hS_); go_simp; (try (with_reducible rfl)))
  try simp only [Act.put, List.setIfInBounds_toArray, List.set_cons_zero, List.set_cons_succ]
  refine wpAnyH_ready (rs := [12]) (by kernel_rfl) (by simp) ?_
  refine AllReadyH.cons rfl (fun K_ hK_ => ?_) AllReadyH.nil
  go_simp
  refine (quiet_c (NIs.to (NIs.to (NIs.to (NIs.to hN27 (below_drew1 _)) hBr4) hBr7) hBr8) Hok.out K2 HK2.out).mono ?_; rintro e wr12 ⟨m3, rfl, hm3_, hBr12⟩
  go_wp2_with fail
  refine hK_.out _ _ (by exact ⟨cells7' (block_below hBr12 (block_below hBr8 (block_below hBr7 (block_below hBr4 (block_below (below_drew1 _) hn27))))), cells5' (block_below hBr12 (block_below hBr8 (block_below hBr7 (block_below hBr4 (block_below (below_drew1 _) hf27)))))⟩) (fun hHeld_12 => ?_)
  clear hK_
  try simp only [Act.put, List.setIfInBounds_toArray, List.set_cons_zero, List.set_cons_succ]
  refine wpAnyH_ready (rs := [14]) (by kernel_rfl) (by simp) ?_
  refine AllReadyH.cons rfl (fun K_ hK_ => ?_) AllReadyH.nil
  go_simp
  refine (refQuiet_c (NIs.to (NIs.to (NIs.to (NIs.to (NIs.to hN27 (below_drew1 _)) hBr4) hBr7) hBr8) hBr12) Hok.out K2 HK2.out).mono ?_; rintro e wr14 ⟨m4, rfl, hm4_, hBr14⟩
  go_wp2_with fail
  refine hK_.out _ _ (by exact ⟨cells7' (block_below hBr14 (block_below hBr12 (block_below hBr8 (block_below hBr7 (block_below hBr4 (block_below (below_drew1 _) hn27)))))), cells5' (block_below hBr14 (block_below hBr12 (block_below hBr8 (block_below hBr7 (block_below hBr4 (block_below (below_drew1 _) hf27))))))⟩) (fun hHeld_14 => ?_)
  clear hK_
  try simp only [Act.put, List.setIfInBounds_toArray, List.set_cons_zero, List.set_cons_succ]
  refine wpAnyH_ready (rs := [15]) (by kernel_rfl) (by simp) ?_
  refine AllReadyH.cons rfl (fun K_ hK_ => ?_) AllReadyH.nil
  go_simp
  refine (same9_c (NIs.to hm3_ hBr14) hm4_ true (by unfold sameN; simp)).mono ?_; rintro e wr15 ⟨rfl, hBr15⟩
  go_wp2_with fail
  refine hK_.out _ _ (by exact ⟨cells7' (block_below hBr15 (block_below hBr14 (block_below hBr12 (block_below hBr8 (block_below hBr7 (block_below hBr4 (block_below (below_drew1 _) hn27))))))), cells5' (block_below hBr15 (block_below hBr14 (block_below hBr12 (block_below hBr8 (block_below hBr7 (block_below hBr4 (block_below (below_drew1 _) hf27)))))))⟩) (fun hHeld_15 => ?_)
  clear hK_
  try simp only [Act.put, List.setIfInBounds_toArray, List.set_cons_zero, List.set_cons_succ]
  refine wpAnyH_take' (i := 16) (v := ?v16_t3) 160 rfl rfl (by kernel_rfl) (by kernel_rfl) (by kernel_rfl) (fun _ _ _ h => h) (Or.inl ⟨by kernel_rfl, ?hy16_t3⟩) (by assumption) ?rest16_t3
  case hy16_t3 => (intro W_ hS_; (try dsimp only at hS_); go_simp; (try (with_reducible rfl)))
  try simp only [Act.put, List.setIfInBounds_toArray, List.set_cons_zero, List.set_cons_succ]
  refine wpAnyH_take' (i := 17) (v := ?v17_t3) 161 rfl rfl (by kernel_rfl) (by kernel_rfl) (by kernel_rfl) (fun _ _ _ h => h) (Or.inl ⟨by kernel_rfl, ?hy17_t3⟩) (by assumption) ?rest17_t3
  case hy17_t3 => (intro W_ hS_; (try dsimp only at hS_); go_simp; (try (with_reducible rfl)))
  try simp only [Act.put, List.setIfInBounds_toArray, List.set_cons_zero, List.set_cons_succ]
  refine wpAnyH_take' (i := 18) (v := ?v18_t3) 162 rfl rfl (by kernel_rfl) (by kernel_rfl) (by kernel_rfl) (fun _ _ _ h => h) (Or.inl ⟨by kernel_rfl, ?hy18_t3⟩) (by assumption) ?rest18_t3
  case hy18_t3 => (intro W_ hS_; (try dsimp only at hS_); go_simp; (try (with_reducible rfl)))
  try simp only [Act.put, List.setIfInBounds_toArray, List.set_cons_zero, List.set_cons_succ]
  refine wpAnyH_ready (rs := [19]) (by kernel_rfl) (by simp) ?_
  refine AllReadyH.cons rfl (fun K_ hK_ => ?_) AllReadyH.nil
  go_simp
  refine (refFrRight_c (FIs.to (FIs.to (FIs.to (FIs.to (FIs.to (FIs.to (FIs.to hF27 (below_drew1 _)) hBr4) hBr7) hBr8) hBr12) hBr14) hBr15) true Hr.out).mono ?_; rintro e wr19 ⟨rfl, hBr19⟩
  go_wp2_with fail
  refine hK_.out _ _ (by exact ⟨cells7' (block_below hBr19 (block_below hBr15 (block_below hBr14 (block_below hBr12 (block_below hBr8 (block_below hBr7 (block_below hBr4 (block_below (below_drew1 _) hn27)))))))), cells5' (block_below hBr19 (block_below hBr15 (block_below hBr14 (block_below hBr12 (block_below hBr8 (block_below hBr7 (block_below hBr4 (block_below (below_drew1 _) hf27))))))))⟩) (fun hHeld_19 => ?_)
  clear hK_
  try simp only [Act.put, List.setIfInBounds_toArray, List.set_cons_zero, List.set_cons_succ]
  refine wpAnyH_take' (i := 20) (v := ?v20_t3) 164 rfl rfl (by kernel_rfl) (by kernel_rfl) (by kernel_rfl) (fun _ _ _ h => h) (Or.inl ⟨by kernel_rfl, ?hy20_t3⟩) (by assumption) ?rest20_t3
  case hy20_t3 => (intro W_ hS_; (try dsimp only at hS_); go_simp; (try (with_reducible rfl)))
  try simp only [Act.put, List.setIfInBounds_toArray, List.set_cons_zero, List.set_cons_succ]
  refine wpAnyH_take' (i := 21) (v := ?v21_t3) 165 rfl rfl (by kernel_rfl) (by kernel_rfl) (by kernel_rfl) (fun _ _ _ h => h) (Or.inl ⟨by kernel_rfl, ?hy21_t3⟩) (by assumption) ?rest21_t3
  case hy21_t3 => (intro W_ hS_; (try dsimp only at hS_); go_simp; (try (with_reducible rfl)))
  try simp only [Act.put, List.setIfInBounds_toArray, List.set_cons_zero, List.set_cons_succ]
  refine wpAnyH_take' (i := 22) (v := ?v22_t3) 166 rfl rfl (by kernel_rfl) (by kernel_rfl) (by kernel_rfl) (fun _ _ _ h => h) (Or.inl ⟨by kernel_rfl, ?hy22_t3⟩) (by assumption) ?rest22_t3
  case hy22_t3 => (intro W_ hS_; (try dsimp only at hS_); go_simp; (try (with_reducible rfl)))
  try simp only [Act.put, List.setIfInBounds_toArray, List.set_cons_zero, List.set_cons_succ]
  refine wpAnyH_take' (i := 23) (v := ?v23_t3) 167 rfl rfl (by kernel_rfl) (by kernel_rfl) (by kernel_rfl) (fun _ _ _ h => h) (Or.inl ⟨by kernel_rfl, ?hy23_t3⟩) (by assumption) ?rest23_t3
  case hy23_t3 => (intro W_ hS_; (try dsimp only at hS_); go_simp; (try (with_reducible rfl)))
  try simp only [Act.put, List.setIfInBounds_toArray, List.set_cons_zero, List.set_cons_succ]
  refine wpAnyH_take' (i := 24) (v := ?v24_t3) 168 rfl rfl (by kernel_rfl) (by kernel_rfl) (by kernel_rfl) (fun _ _ _ h => h) (Or.inl ⟨by kernel_rfl, ?hy24_t3⟩) (by assumption) ?rest24_t3
  case hy24_t3 => (intro W_ hS_; (try dsimp only at hS_); go_simp; (try (with_reducible rfl)))
  try simp only [Act.put, List.setIfInBounds_toArray, List.set_cons_zero, List.set_cons_succ]
  refine wpAnyH_take' (i := 25) (v := ?v25_t3) 169 rfl rfl (by kernel_rfl) (by kernel_rfl) (by kernel_rfl) (fun _ _ _ h => h) (Or.inl ⟨by kernel_rfl, ?hy25_t3⟩) (by assumption) ?rest25_t3
  case hy25_t3 => (intro W_ hS_; (try dsimp only at hS_); go_simp; (try (with_reducible rfl)))
  try simp only [Act.put, List.setIfInBounds_toArray, List.set_cons_zero, List.set_cons_succ]
  refine wpAnyH_take' (i := 27) (v := ?v27_t3) 171 rfl rfl (by kernel_rfl) (by kernel_rfl) (by kernel_rfl) (fun _ _ _ h => h) (Or.inl ⟨by kernel_rfl, ?hy27_t3⟩) (by assumption) ?rest27_t3
  case hy27_t3 => (intro W_ hS_; (try dsimp only at hS_); go_simp; (try (with_reducible rfl)))
  try simp only [Act.put, List.setIfInBounds_toArray, List.set_cons_zero, List.set_cons_succ]
  refine wpAnyH_take' (i := 28) (v := ?v28_t3) 172 rfl rfl (by kernel_rfl) (by kernel_rfl) (by kernel_rfl) (fun _ _ _ h => h) (Or.inl ⟨by kernel_rfl, ?hy28_t3⟩) (by assumption) ?rest28_t3
  case hy28_t3 => (intro W_ hS_; (try dsimp only at hS_); go_simp; (try (with_reducible rfl)))
  try simp only [Act.put, List.setIfInBounds_toArray, List.set_cons_zero, List.set_cons_succ]
  refine wpAnyH_take' (i := 29) (v := ?v29_t3) 173 rfl rfl (by kernel_rfl) (by kernel_rfl) (by kernel_rfl) (fun _ _ _ h => h) (Or.inl ⟨by kernel_rfl, ?hy29_t3⟩) (by assumption) ?rest29_t3
  case hy29_t3 => (intro W_ hS_; (try dsimp only at hS_); go_simp; (try (with_reducible rfl)))
  try simp only [Act.put, List.setIfInBounds_toArray, List.set_cons_zero, List.set_cons_succ]
  refine wpAnyH_take' (i := 30) (v := ?v30_t3) 174 rfl rfl (by kernel_rfl) (by kernel_rfl) (by kernel_rfl) (fun _ _ _ h => h) (Or.inl ⟨by kernel_rfl, ?hy30_t3⟩) (by assumption) ?rest30_t3
  case hy30_t3 => (intro W_ hS_; (try dsimp only at hS_); go_simp; (try (with_reducible rfl)))
  try simp only [Act.put, List.setIfInBounds_toArray, List.set_cons_zero, List.set_cons_succ]
  refine wpAnyH_ready (rs := [26]) (by kernel_rfl) (by simp) ?_
  refine AllReadyH.cons rfl (fun K_ hK_ => ?_) AllReadyH.nil
  go_simp
  refine (heard_c (NIs.to (NIs.to (NIs.to (NIs.to (NIs.to (NIs.to (NIs.to (NIs.to hN27 (below_drew1 _)) hBr4) hBr7) hBr8) hBr12) hBr14) hBr15) hBr19) (FIs.to (FIs.to (FIs.to (FIs.to (FIs.to (FIs.to (FIs.to (FIs.to hF27 (below_drew1 _)) hBr4) hBr7) hBr8) hBr12) hBr14) hBr15) hBr19) Hok.out Hr.out (fun _ _ => trivial) a b K3 HK3.out).mono ?_; rintro e wr26 ⟨m5, rfl, hm5_, hBr26⟩
  go_wp2_with fail
  refine hK_.out _ _ (by exact ⟨cells7' (block_below hBr26 (block_below hBr19 (block_below hBr15 (block_below hBr14 (block_below hBr12 (block_below hBr8 (block_below hBr7 (block_below hBr4 (block_below (below_drew1 _) hn27))))))))), cells5' (block_below hBr26 (block_below hBr19 (block_below hBr15 (block_below hBr14 (block_below hBr12 (block_below hBr8 (block_below hBr7 (block_below hBr4 (block_below (below_drew1 _) hf27)))))))))⟩) (fun hHeld_26 => ?_)
  clear hK_
  try simp only [Act.put, List.setIfInBounds_toArray, List.set_cons_zero, List.set_cons_succ]
  refine wpAnyH_ready (rs := [31]) (by kernel_rfl) (by simp) ?_
  refine AllReadyH.cons rfl (fun K_ hK_ => ?_) AllReadyH.nil
  go_simp
  refine (refHeard_c (NIs.to (NIs.to (NIs.to (NIs.to (NIs.to (NIs.to (NIs.to (NIs.to (NIs.to hN27 (below_drew1 _)) hBr4) hBr7) hBr8) hBr12) hBr14) hBr15) hBr19) hBr26) (FIs.to (FIs.to (FIs.to (FIs.to (FIs.to (FIs.to (FIs.to (FIs.to (FIs.to hF27 (below_drew1 _)) hBr4) hBr7) hBr8) hBr12) hBr14) hBr15) hBr19) hBr26) Hok.out (fun _ _ => trivial) a b K3 HK3.out).mono ?_; rintro e wr31 ⟨m6, rfl, hm6_, hBr31⟩
  go_wp2_with fail
  refine hK_.out _ _ (by exact ⟨cells7' (block_below hBr31 (block_below hBr26 (block_below hBr19 (block_below hBr15 (block_below hBr14 (block_below hBr12 (block_below hBr8 (block_below hBr7 (block_below hBr4 (block_below (below_drew1 _) hn27)))))))))), cells5' (block_below hBr31 (block_below hBr26 (block_below hBr19 (block_below hBr15 (block_below hBr14 (block_below hBr12 (block_below hBr8 (block_below hBr7 (block_below hBr4 (block_below (below_drew1 _) hf27))))))))))⟩) (fun hHeld_31 => ?_)
  clear hK_
  try simp only [Act.put, List.setIfInBounds_toArray, List.set_cons_zero, List.set_cons_succ]
  refine wpAnyH_ready (rs := [32]) (by kernel_rfl) (by simp) ?_
  refine AllReadyH.cons rfl (fun K_ hK_ => ?_) AllReadyH.nil
  go_simp
  refine (same9_c (NIs.to hm5_ hBr31) hm6_ true (by unfold sameN; simp)).mono ?_; rintro e wr32 ⟨rfl, hBr32⟩
  go_wp2_with fail
  refine hK_.out _ _ (by exact ⟨cells7' (block_below hBr32 (block_below hBr31 (block_below hBr26 (block_below hBr19 (block_below hBr15 (block_below hBr14 (block_below hBr12 (block_below hBr8 (block_below hBr7 (block_below hBr4 (block_below (below_drew1 _) hn27))))))))))), cells5' (block_below hBr32 (block_below hBr31 (block_below hBr26 (block_below hBr19 (block_below hBr15 (block_below hBr14 (block_below hBr12 (block_below hBr8 (block_below hBr7 (block_below hBr4 (block_below (below_drew1 _) hf27)))))))))))⟩) (fun hHeld_32 => ?_)
  clear hK_
  try simp only [Act.put, List.setIfInBounds_toArray, List.set_cons_zero, List.set_cons_succ]
  refine wpAnyH_take' (i := 33) (v := ?v33_t3) 177 rfl rfl (by kernel_rfl) (by kernel_rfl) (by kernel_rfl) (fun _ _ _ h => h) (Or.inl ⟨by kernel_rfl, ?hy33_t3⟩) (by assumption) ?rest33_t3
  case hy33_t3 => (intro W_ hS_; (try dsimp only at hS_); go_simp; (try (with_reducible rfl)))
  try simp only [Act.put, List.setIfInBounds_toArray, List.set_cons_zero, List.set_cons_succ]
  refine wpAnyH_take' (i := 34) (v := ?v34_t3) 178 rfl rfl (by kernel_rfl) (by kernel_rfl) (by kernel_rfl) (fun _ _ _ h => h) (Or.inl ⟨by kernel_rfl, ?hy34_t3⟩) (by assumption) ?rest34_t3
  case hy34_t3 => (intro W_ hS_; (try dsimp only at hS_); go_simp; (try (with_reducible rfl)))
  try simp only [Act.put, List.setIfInBounds_toArray, List.set_cons_zero, List.set_cons_succ]
  refine wpAnyH_take' (i := 35) (v := ?v35_t3) 10 rfl rfl (by kernel_rfl) (by kernel_rfl) (by kernel_rfl) (fun _ _ _ h => h) (Or.inl ⟨by kernel_rfl, ?hy35_t3⟩) (by assumption) ?rest35_t3
  case hy35_t3 => (intro W_ hS_; (try dsimp only at hS_); go_simp; (try (with_reducible rfl)))
  try simp only [Act.put, List.setIfInBounds_toArray, List.set_cons_zero, List.set_cons_succ]
  refine wpAnyH_done (by kernel_rfl) ?_ _
  go_wp2_with fail
  go_ret
  exact ⟨rfl, below_then hT27 (below_then (below_then (below_then (below_then (below_then (below_then (below_then (below_then (below_then (below_then (below_drew1 _) hBr4) hBr7) hBr8) hBr12) hBr14) hBr15) hBr19) hBr26) hBr31) hBr32)⟩

end Go.Proofs.Ytlbgilbigcnleaa
