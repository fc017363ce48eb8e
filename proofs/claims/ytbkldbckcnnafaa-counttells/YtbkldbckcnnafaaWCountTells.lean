/-
  CountTells.
-/
import Derived.Test.YtbkldbckcnnafaaCntMath
import Derived.Test.YtbkldbckcnnafaaHead8
namespace Go.Proofs.Ytbkldbckcnnafaa
open Go.RowKit
set_option linter.unusedVariables false
set_option linter.unusedSimpArgs false

theorem sameC_self (d : CV) : sameC ⟨d.t, d.r, d.s, d.q⟩ ⟨d.t, d.r, d.s, d.q⟩ = true := by simp [sameC]
set_option maxRecDepth 100000 in
set_option maxHeartbeats 1000000 in
theorem countTells_any (c : CV) (k : Int) (l : List Int) (n : Nat) (hn : l.length = n) (A : Option Addr) (cp : Nat) (w : World) (hl : Row .i64 w w.heap.size A l) :
    Calls Try.prog 3 #[c.v, .int .i64 k, .slice A n cp] w fun e w' => e = .returned (.bool true) ∧ Below w.heap.size w w' := by
  have Hn := Lib.hid hn
  clear hn
  have q1 := eqIn_c
  have q2 := eq_c
  have s2 : sameC ⟨0, 0, 1, 0⟩ ⟨0, 0, 1, 0⟩ = true := by decide
  go_enter Try.func3, Try.ntmps3
  go_wp2_with fail
  obtain ⟨w0, hw0⟩ : ∃ w0, w.alloc (.cells #[.int .i64 c.t, .int .i64 c.r, .int .i64 c.s, .int .i64 c.q] 23) = w0 := ⟨_, rfl⟩
  have hT0 : Below w.heap.size w w0 := by rw [← hw0]; exact below_alloc1 _ _
  have hc0 : HasC w0 w.heap.size c := by rw [← hw0]; exact World.alloc_heap_new _ _
  have hl0 := Row.to hl hT0
  rw [hw0]
  clear hw0
  refine (head_any w0).mono ?_
  rintro e w1 ⟨rfl, hB1⟩
  have hT1 := below_then hT0 hB1
  have hc1 := block_below hB1 hc0
  have hl1 := Row.to hl0 hB1
  clear hT0 hc0 hl0 hB1
  by_cases hbig : 2000 < n
  · skip
    have hb2 : (2000 : Int) < (n : Int) := by omega
    have hb3 : decide ((2000 : Int) < (n : Int)) = true := by simpa using hb2
    have hb4 : decide (2000 < n) = true := by simpa using hbig
    obtain ⟨cc0, cc1, cc2, cc3⟩ := HasC.cc (c := c) hc1
    go_wp2_with fail
    clear cc0 cc1 cc2 cc3
    refine wp_region_held_drew (S := fun W => (W.cell? ⟨w.heap.size, 0, none⟩ = some (.int .i64 c.t) ∧ W.cell? ⟨w.heap.size, 1, none⟩ = some (.int .i64 c.r) ∧ W.cell? ⟨w.heap.size, 2, none⟩ = some (.int .i64 c.s) ∧ W.cell? ⟨w.heap.size, 3, none⟩ = some (.int .i64 c.q))) (by kernel_rfl) (by exact HasC.cc (c := c) (block_below (below_drew1 _) hc1)) (fun hHeld_ => ?_)
    refine wpAnyH_take' (i := 0) (v := ?v0_t1) 9 rfl rfl (by kernel_rfl) (by kernel_rfl) (by kernel_rfl) (fun _ _ _ h => h) (Or.inl ⟨by kernel_rfl, ?hy0_t1⟩) (by assumption) ?rest0_t1
    case hy0_t1 => (intro W_ hS_; (try dsimp only at hS_); go_simp; (try (with_reducible rfl)))
    try simp only [Act.put, List.setIfInBounds_toArray, List.set_cons_zero, List.set_cons_succ]
    refine wpAnyH_take' (i := 1) (v := ?v1_t1) 10 rfl rfl (by kernel_rfl) (by kernel_rfl) (by kernel_rfl) (fun _ _ _ h => h) (Or.inl ⟨by kernel_rfl, ?hy1_t1⟩) (by assumption) ?rest1_t1
    case hy1_t1 => (intro W_ hS_; (try dsimp only at hS_); go_simp; (try (with_reducible rfl)))
    try simp only [Act.put, List.setIfInBounds_toArray, List.set_cons_zero, List.set_cons_succ]
    refine wpAnyH_take' (i := 2) (v := ?v2_t1) 11 rfl rfl (by kernel_rfl) (by kernel_rfl) (by kernel_rfl) (fun _ _ _ h => h) (Or.inl ⟨by kernel_rfl, ?hy2_t1⟩) (by assumption) ?rest2_t1
    case hy2_t1 => (intro W_ hS_; (try dsimp only at hS_); go_simp; (try (with_reducible rfl)))
    try simp only [Act.put, List.setIfInBounds_toArray, List.set_cons_zero, List.set_cons_succ]
    refine wpAnyH_take' (i := 3) (v := ?v3_t1) 12 rfl rfl (by kernel_rfl) (by kernel_rfl) (by kernel_rfl) (fun _ _ _ h => h) (Or.inl ⟨by kernel_rfl, ?hy3_t1⟩) (by assumption) ?rest3_t1
    case hy3_t1 => (intro W_ hS_; (try dsimp only at hS_); go_simp; (try (with_reducible rfl)))
    try simp only [Act.put, List.setIfInBounds_toArray, List.set_cons_zero, List.set_cons_succ]
    refine wpAnyH_take' (i := 4) (v := undef) 13 rfl rfl (by kernel_rfl) (by kernel_rfl) (by kernel_rfl) (fun _ _ _ h => h) (Or.inr ⟨by kernel_rfl, rfl⟩) (by assumption) ?_
    try simp only [Act.put, List.setIfInBounds_toArray, List.set_cons_zero, List.set_cons_succ]
    refine wpAnyH_take' (i := 6) (v := undef) 15 rfl rfl (by kernel_rfl) (by kernel_rfl) (by kernel_rfl) (fun _ _ _ h => h) (Or.inr ⟨by kernel_rfl, rfl⟩) (by assumption) ?_
    try simp only [Act.put, List.setIfInBounds_toArray, List.set_cons_zero, List.set_cons_succ]
    refine wpAnyH_skip (i := 5) 14 rfl rfl (by kernel_rfl) (by kernel_rfl) (by assumption) ?_
    try simp only [Act.put, List.setIfInBounds_toArray, List.set_cons_zero, List.set_cons_succ]
    refine wpAnyH_skip (i := 7) 16 rfl rfl (by kernel_rfl) (by kernel_rfl) (by assumption) ?_
    try simp only [Act.put, List.setIfInBounds_toArray, List.set_cons_zero, List.set_cons_succ]
    refine wpAnyH_take' (i := 8) (v := undef) 17 rfl rfl (by kernel_rfl) (by kernel_rfl) (by kernel_rfl) (fun _ _ _ h => h) (Or.inr ⟨by kernel_rfl, rfl⟩) (by assumption) ?_
    try simp only [Act.put, List.setIfInBounds_toArray, List.set_cons_zero, List.set_cons_succ]
    refine wpAnyH_take' (i := 9) (v := ?v9_t1) 18 rfl rfl (by kernel_rfl) (by kernel_rfl) (by kernel_rfl) (fun _ _ _ h => h) (Or.inl ⟨by kernel_rfl, ?hy9_t1⟩) (by assumption) ?rest9_t1
    case hy9_t1 => (intro W_ hS_; (try dsimp only at hS_); go_simp; (try (with_reducible rfl)))
    try simp only [Act.put, List.setIfInBounds_toArray, List.set_cons_zero, List.set_cons_succ]
    refine wpAnyH_done (by kernel_rfl) ?_ _
    obtain ⟨w2, hw2⟩ : ∃ w2, w1.drew = w2 := ⟨_, rfl⟩
    have hB2 : Below w1.heap.size w1 w2 := by rw [← hw2]; exact (below_drew1 _)
    rw [hw2]
    clear hw2
    have hT2 := below_then hT1 hB2
    have hc2 := block_below hB2 hc1
    have hl2 := Row.to hl1 hB2
    clear hT1 hc1 hl1 hB2
    obtain ⟨cc0, cc1, cc2, cc3⟩ := HasC.cc (c := c) hc2
    go_wp2_with fail
    go_ret
    exact ⟨rfl, hT2⟩
  have hb2 : ¬ (2000 : Int) < (n : Int) := by omega
  have Hbig := Lib.hid hbig
  have hb3 : decide ((2000 : Int) < (n : Int)) = false := by simpa using hb2
  have hb4 : decide (2000 < n) = false := by simpa using hbig
  obtain ⟨cc0, cc1, cc2, cc3⟩ := HasC.cc (c := c) hc1
  go_wp2_with fail
  clear cc0 cc1 cc2 cc3
  obtain ⟨q, hq⟩ : ∃ q, rightV c = q := ⟨_, rfl⟩
  have Hq := Lib.hid hq
  clear hq
  cases q
  · skip
    refine wp_region_held_drew (S := fun W => (W.cell? ⟨w.heap.size, 0, none⟩ = some (.int .i64 c.t) ∧ W.cell? ⟨w.heap.size, 1, none⟩ = some (.int .i64 c.r) ∧ W.cell? ⟨w.heap.size, 2, none⟩ = some (.int .i64 c.s) ∧ W.cell? ⟨w.heap.size, 3, none⟩ = some (.int .i64 c.q))) (by kernel_rfl) (by exact HasC.cc (c := c) (block_below (below_drew1 _) hc1)) (fun hHeld_ => ?_)
    refine wpAnyH_take' (i := 0) (v := ?v0_t2) 9 rfl rfl (by kernel_rfl) (by kernel_rfl) (by kernel_rfl) (fun _ _ _ h => h) (Or.inl ⟨by kernel_rfl, ?hy0_t2⟩) (by assumption) ?rest0_t2
    case hy0_t2 => (intro W_ hS_; (try dsimp only at hS_); go_simp; (try (with_reducible rfl)))
    try simp only [Act.put, List.setIfInBounds_toArray, List.set_cons_zero, List.set_cons_succ]
    refine wpAnyH_take' (i := 1) (v := ?v1_t2) 10 rfl rfl (by kernel_rfl) (by kernel_rfl) (by kernel_rfl) (fun _ _ _ h => h) (Or.inl ⟨by kernel_rfl, ?hy1_t2⟩) (by assumption) ?rest1_t2
    case hy1_t2 => (intro W_ hS_; (try dsimp only at hS_); go_simp; (try (with_reducible rfl)))
    try simp only [Act.put, List.setIfInBounds_toArray, List.set_cons_zero, List.set_cons_succ]
    refine wpAnyH_take' (i := 2) (v := ?v2_t2) 11 rfl rfl (by kernel_rfl) (by kernel_rfl) (by kernel_rfl) (fun _ _ _ h => h) (Or.inl ⟨by kernel_rfl, ?hy2_t2⟩) (by assumption) ?rest2_t2
    case hy2_t2 => (intro W_ hS_; (try dsimp only at hS_); go_simp; (try (with_reducible rfl)))
    try simp only [Act.put, List.setIfInBounds_toArray, List.set_cons_zero, List.set_cons_succ]
    refine wpAnyH_take' (i := 3) (v := ?v3_t2) 12 rfl rfl (by kernel_rfl) (by kernel_rfl) (by kernel_rfl) (fun _ _ _ h => h) (Or.inl ⟨by kernel_rfl, ?hy3_t2⟩) (by assumption) ?rest3_t2
    case hy3_t2 => (intro W_ hS_; (try dsimp only at hS_); go_simp; (try (with_reducible rfl)))
    try simp only [Act.put, List.setIfInBounds_toArray, List.set_cons_zero, List.set_cons_succ]
    refine wpAnyH_take' (i := 4) (v := ?v4_t2) 13 rfl rfl (by kernel_rfl) (by kernel_rfl) (by kernel_rfl) (fun _ _ _ h => h) (Or.inl ⟨by kernel_rfl, ?hy4_t2⟩) (by assumption) ?rest4_t2
    case hy4_t2 => (intro W_ hS_; (try dsimp only at hS_); go_simp; (try (with_reducible rfl)))
    try simp only [Act.put, List.setIfInBounds_toArray, List.set_cons_zero, List.set_cons_succ]
    refine wpAnyH_take' (i := 6) (v := ?v6_t2) 15 rfl rfl (by kernel_rfl) (by kernel_rfl) (by kernel_rfl) (fun _ _ _ h => h) (Or.inl ⟨by kernel_rfl, ?hy6_t2⟩) (by assumption) ?rest6_t2
    case hy6_t2 => (intro W_ hS_; (try dsimp only at hS_); go_simp; (try (with_reducible rfl)))
    try simp only [Act.put, List.setIfInBounds_toArray, List.set_cons_zero, List.set_cons_succ]
    refine wpAnyH_ready (rs := [5]) (by kernel_rfl) (by simp) ?_
    refine AllReadyH.cons rfl (fun K_ hK_ => ?_) AllReadyH.nil
    go_simp
    refine (right_q c false Hq.out _).mono ?_; rintro e wr5 ⟨rfl, hBr5⟩
    go_wp2_with fail
    refine hK_.out _ _ (by exact HasC.cc (c := c) (block_below hBr5 (block_below (below_drew1 _) hc1))) (fun hHeld_5 => ?_)
    clear hK_
    try simp only [Act.put, List.setIfInBounds_toArray, List.set_cons_zero, List.set_cons_succ]
    refine wpAnyH_ready (rs := [7]) (by kernel_rfl) (by simp) ?_
    refine AllReadyH.cons rfl (fun K_ hK_ => ?_) AllReadyH.nil
    go_simp
    refine (refRight_q c false Hq.out _).mono ?_; rintro e wr7 ⟨rfl, hBr7⟩
    go_wp2_with fail
    refine hK_.out _ _ (by exact HasC.cc (c := c) (block_below hBr7 (block_below hBr5 (block_below (below_drew1 _) hc1)))) (fun hHeld_7 => ?_)
    clear hK_
    try simp only [Act.put, List.setIfInBounds_toArray, List.set_cons_zero, List.set_cons_succ]
    refine wpAnyH_take' (i := 8) (v := ?v8_t2) 17 rfl rfl (by kernel_rfl) (by kernel_rfl) (by kernel_rfl) (fun _ _ _ h => h) (Or.inl ⟨by kernel_rfl, ?hy8_t2⟩) (by assumption) ?rest8_t2
    case hy8_t2 => (intro W_ hS_; (try dsimp only at hS_); go_simp; (try (with_reducible rfl)))
    try simp only [Act.put, List.setIfInBounds_toArray, List.set_cons_zero, List.set_cons_succ]
    refine wpAnyH_take' (i := 9) (v := ?v9_t2) 18 rfl rfl (by kernel_rfl) (by kernel_rfl) (by kernel_rfl) (fun _ _ _ h => h) (Or.inl ⟨by kernel_rfl, ?hy9_t2⟩) (by assumption) ?rest9_t2
    case hy9_t2 => (intro W_ hS_; (try dsimp only at hS_); go_simp; (try (with_reducible rfl)))
    try simp only [Act.put, List.setIfInBounds_toArray, List.set_cons_zero, List.set_cons_succ]
    refine wpAnyH_done (by kernel_rfl) ?_ _
    obtain ⟨w2, hw2⟩ : ∃ w2, wr7 = w2 := ⟨_, rfl⟩
    have hB2 : Below w1.heap.size w1 w2 := by rw [← hw2]; exact (below_then (below_then (below_drew1 _) hBr5) hBr7)
    rw [hw2]
    clear hw2
    have hT2 := below_then hT1 hB2
    have hc2 := block_below hB2 hc1
    have hl2 := Row.to hl1 hB2
    clear hT1 hc1 hl1 hB2
    obtain ⟨cc0, cc1, cc2, cc3⟩ := HasC.cc (c := c) hc2
    go_wp2_with fail
    clear cc0 cc1 cc2 cc3
    refine wp_region_held_drew (S := fun W => (W.cell? ⟨w.heap.size, 0, none⟩ = some (.int .i64 c.t) ∧ W.cell? ⟨w.heap.size, 1, none⟩ = some (.int .i64 c.r) ∧ W.cell? ⟨w.heap.size, 2, none⟩ = some (.int .i64 c.s) ∧ W.cell? ⟨w.heap.size, 3, none⟩ = some (.int .i64 c.q))) (by kernel_rfl) (by exact HasC.cc (c := c) (block_below (below_drew1 _) hc2)) (fun hHeld_ => ?_)
    refine wpAnyH_take' (i := 0) (v := ?v0_t3) 25 rfl rfl (by kernel_rfl) (by kernel_rfl) (by kernel_rfl) (fun _ _ _ h => h) (Or.inl ⟨by kernel_rfl, ?hy0_t3⟩) (by assumption) ?rest0_t3
    case hy0_t3 => (intro W_ hS_; (try dsimp only at hS_); go_simp; (try (with_reducible rfl)))
    try simp only [Act.put, List.setIfInBounds_toArray, List.set_cons_zero, List.set_cons_succ]
    refine wpAnyH_take' (i := 1) (v := ?v1_t3) 26 rfl rfl (by kernel_rfl) (by kernel_rfl) (by kernel_rfl) (fun _ _ _ h => h) (Or.inl ⟨by kernel_rfl, ?hy1_t3⟩) (by assumption) ?rest1_t3
    case hy1_t3 => (intro W_ hS_; (try dsimp only at hS_); go_simp; (try (with_reducible rfl)))
    try simp only [Act.put, List.setIfInBounds_toArray, List.set_cons_zero, List.set_cons_succ]
    refine wpAnyH_ready (rs := [2]) (by kernel_rfl) (by simp) ?_
    refine AllReadyH.cons rfl (fun K_ hK_ => ?_) AllReadyH.nil
    go_simp
    refine (new_any _).mono ?_; rintro e wr2 ⟨rfl, hBr2⟩
    go_wp2_with fail
    refine hK_.out _ _ (by exact HasC.cc (c := c) (block_below hBr2 (block_below (below_drew1 _) hc2))) (fun hHeld_2 => ?_)
    clear hK_
    try simp only [Act.put, List.setIfInBounds_toArray, List.set_cons_zero, List.set_cons_succ]
    refine wpAnyH_ready (rs := [3]) (by kernel_rfl) (by simp) ?_
    refine AllReadyH.cons rfl (fun K_ hK_ => ?_) AllReadyH.nil
    go_simp
    refine (refNew_any _).mono ?_; rintro e wr3 ⟨rfl, hBr3⟩
    go_wp2_with fail
    refine hK_.out _ _ (by exact HasC.cc (c := c) (block_below hBr3 (block_below hBr2 (block_below (below_drew1 _) hc2)))) (fun hHeld_3 => ?_)
    clear hK_
    try simp only [Act.put, List.setIfInBounds_toArray, List.set_cons_zero, List.set_cons_succ]
    refine wpAnyH_take' (i := 4) (v := ?v4_t3) 29 rfl rfl (by kernel_rfl) (by kernel_rfl) (by kernel_rfl) (fun _ _ _ h => h) (Or.inl ⟨by kernel_rfl, ?hy4_t3⟩) (by assumption) ?rest4_t3
    case hy4_t3 => (intro W_ hS_; (try dsimp only at hS_); go_simp; (try (with_reducible rfl)))
    try simp only [Act.put, List.setIfInBounds_toArray, List.set_cons_zero, List.set_cons_succ]
    refine wpAnyH_take' (i := 5) (v := ?v5_t3) 30 rfl rfl (by kernel_rfl) (by kernel_rfl) (by kernel_rfl) (fun _ _ _ h => h) (Or.inl ⟨by kernel_rfl, ?hy5_t3⟩) (by assumption) ?rest5_t3
    case hy5_t3 => (intro W_ hS_; (try dsimp only at hS_); go_simp; (try (with_reducible rfl)))
    try simp only [Act.put, List.setIfInBounds_toArray, List.set_cons_zero, List.set_cons_succ]
    refine wpAnyH_take' (i := 6) (v := ?v6_t3) 31 rfl rfl (by kernel_rfl) (by kernel_rfl) (by kernel_rfl) (fun _ _ _ h => h) (Or.inl ⟨by kernel_rfl, ?hy6_t3⟩) (by assumption) ?rest6_t3
    case hy6_t3 => (intro W_ hS_; (try dsimp only at hS_); go_simp; (try (with_reducible rfl)))
    try simp only [Act.put, List.setIfInBounds_toArray, List.set_cons_zero, List.set_cons_succ]
    refine wpAnyH_take' (i := 7) (v := ?v7_t3) 32 rfl rfl (by kernel_rfl) (by kernel_rfl) (by kernel_rfl) (fun _ _ _ h => h) (Or.inl ⟨by kernel_rfl, ?hy7_t3⟩) (by assumption) ?rest7_t3
    case hy7_t3 => (intro W_ hS_; (try dsimp only at hS_); go_simp; (try (with_reducible rfl)))
    try simp only [Act.put, List.setIfInBounds_toArray, List.set_cons_zero, List.set_cons_succ]
    refine wpAnyH_ready (rs := [8]) (by kernel_rfl) (by simp) ?_
    refine AllReadyH.cons rfl (fun K_ hK_ => ?_) AllReadyH.nil
    go_simp
    refine (refRight_q c false Hq.out _).mono ?_; rintro e wr8 ⟨rfl, hBr8⟩
    go_wp2_with fail
    refine hK_.out _ _ (by exact HasC.cc (c := c) (block_below hBr8 (block_below hBr3 (block_below hBr2 (block_below (below_drew1 _) hc2))))) (fun hHeld_8 => ?_)
    clear hK_
    try simp only [Act.put, List.setIfInBounds_toArray, List.set_cons_zero, List.set_cons_succ]
    refine wpAnyH_take' (i := 9) (v := ?v9_t3) 34 rfl rfl (by kernel_rfl) (by kernel_rfl) (by kernel_rfl) (fun _ _ _ h => h) (Or.inl ⟨by kernel_rfl, ?hy9_t3⟩) (by assumption) ?rest9_t3
    case hy9_t3 => (intro W_ hS_; (try dsimp only at hS_); go_simp; (try (with_reducible rfl)))
    try simp only [Act.put, List.setIfInBounds_toArray, List.set_cons_zero, List.set_cons_succ]
    refine wpAnyH_take' (i := 10) (v := ?v10_t3) 35 rfl rfl (by kernel_rfl) (by kernel_rfl) (by kernel_rfl) (fun _ _ _ h => h) (Or.inl ⟨by kernel_rfl, ?hy10_t3⟩) (by assumption) ?rest10_t3
    case hy10_t3 => (intro W_ hS_; (try dsimp only at hS_); go_simp; (try (with_reducible rfl)))
    try simp only [Act.put, List.setIfInBounds_toArray, List.set_cons_zero, List.set_cons_succ]
    refine wpAnyH_take' (i := 11) (v := undef) 36 rfl rfl (by kernel_rfl) (by kernel_rfl) (by kernel_rfl) (fun _ _ _ h => h) (Or.inr ⟨by kernel_rfl, rfl⟩) (by assumption) ?_
    try simp only [Act.put, List.setIfInBounds_toArray, List.set_cons_zero, List.set_cons_succ]
    refine wpAnyH_take' (i := 12) (v := undef) 37 rfl rfl (by kernel_rfl) (by kernel_rfl) (by kernel_rfl) (fun _ _ _ h => h) (Or.inr ⟨by kernel_rfl, rfl⟩) (by assumption) ?_
    try simp only [Act.put, List.setIfInBounds_toArray, List.set_cons_zero, List.set_cons_succ]
    refine wpAnyH_take' (i := 14) (v := undef) 39 rfl rfl (by kernel_rfl) (by kernel_rfl) (by kernel_rfl) (fun _ _ _ h => h) (Or.inr ⟨by kernel_rfl, rfl⟩) (by assumption) ?_
    try simp only [Act.put, List.setIfInBounds_toArray, List.set_cons_zero, List.set_cons_succ]
    refine wpAnyH_take' (i := 15) (v := undef) 40 rfl rfl (by kernel_rfl) (by kernel_rfl) (by kernel_rfl) (fun _ _ _ h => h) (Or.inr ⟨by kernel_rfl, rfl⟩) (by assumption) ?_
    try simp only [Act.put, List.setIfInBounds_toArray, List.set_cons_zero, List.set_cons_succ]
    refine wpAnyH_skip (i := 13) 38 rfl rfl (by kernel_rfl) (by kernel_rfl) (by assumption) ?_
    try simp only [Act.put, List.setIfInBounds_toArray, List.set_cons_zero, List.set_cons_succ]
    refine wpAnyH_skip (i := 16) 41 rfl rfl (by kernel_rfl) (by kernel_rfl) (by assumption) ?_
    try simp only [Act.put, List.setIfInBounds_toArray, List.set_cons_zero, List.set_cons_succ]
    refine wpAnyH_take' (i := 17) (v := undef) 42 rfl rfl (by kernel_rfl) (by kernel_rfl) (by kernel_rfl) (fun _ _ _ h => h) (Or.inr ⟨by kernel_rfl, rfl⟩) (by assumption) ?_
    try simp only [Act.put, List.setIfInBounds_toArray, List.set_cons_zero, List.set_cons_succ]
    refine wpAnyH_take' (i := 18) (v := undef) 43 rfl rfl (by kernel_rfl) (by kernel_rfl) (by kernel_rfl) (fun _ _ _ h => h) (Or.inr ⟨by kernel_rfl, rfl⟩) (by assumption) ?_
    try simp only [Act.put, List.setIfInBounds_toArray, List.set_cons_zero, List.set_cons_succ]
    refine wpAnyH_take' (i := 19) (v := undef) 44 rfl rfl (by kernel_rfl) (by kernel_rfl) (by kernel_rfl) (fun _ _ _ h => h) (Or.inr ⟨by kernel_rfl, rfl⟩) (by assumption) ?_
    try simp only [Act.put, List.setIfInBounds_toArray, List.set_cons_zero, List.set_cons_succ]
    refine wpAnyH_take' (i := 20) (v := undef) 45 rfl rfl (by kernel_rfl) (by kernel_rfl) (by kernel_rfl) (fun _ _ _ h => h) (Or.inr ⟨by kernel_rfl, rfl⟩) (by assumption) ?_
    try simp only [Act.put, List.setIfInBounds_toArray, List.set_cons_zero, List.set_cons_succ]
    refine wpAnyH_take' (i := 22) (v := undef) 47 rfl rfl (by kernel_rfl) (by kernel_rfl) (by kernel_rfl) (fun _ _ _ h => h) (Or.inr ⟨by kernel_rfl, rfl⟩) (by assumption) ?_
    try simp only [Act.put, List.setIfInBounds_toArray, List.set_cons_zero, List.set_cons_succ]
    refine wpAnyH_take' (i := 23) (v := undef) 48 rfl rfl (by kernel_rfl) (by kernel_rfl) (by kernel_rfl) (fun _ _ _ h => h) (Or.inr ⟨by kernel_rfl, rfl⟩) (by assumption) ?_
    try simp only [Act.put, List.setIfInBounds_toArray, List.set_cons_zero, List.set_cons_succ]
    refine wpAnyH_skip (i := 21) 46 rfl rfl (by kernel_rfl) (by kernel_rfl) (by assumption) ?_
    try simp only [Act.put, List.setIfInBounds_toArray, List.set_cons_zero, List.set_cons_succ]
    refine wpAnyH_skip (i := 24) 49 rfl rfl (by kernel_rfl) (by kernel_rfl) (by assumption) ?_
    try simp only [Act.put, List.setIfInBounds_toArray, List.set_cons_zero, List.set_cons_succ]
    refine wpAnyH_take' (i := 25) (v := undef) 50 rfl rfl (by kernel_rfl) (by kernel_rfl) (by kernel_rfl) (fun _ _ _ h => h) (Or.inr ⟨by kernel_rfl, rfl⟩) (by assumption) ?_
    try simp only [Act.put, List.setIfInBounds_toArray, List.set_cons_zero, List.set_cons_succ]
    refine wpAnyH_take' (i := 26) (v := undef) 51 rfl rfl (by kernel_rfl) (by kernel_rfl) (by kernel_rfl) (fun _ _ _ h => h) (Or.inr ⟨by kernel_rfl, rfl⟩) (by assumption) ?_
    try simp only [Act.put, List.setIfInBounds_toArray, List.set_cons_zero, List.set_cons_succ]
    refine wpAnyH_take' (i := 27) (v := ?v27_t3) 52 rfl rfl (by kernel_rfl) (by kernel_rfl) (by kernel_rfl) (fun _ _ _ h => h) (Or.inl ⟨by kernel_rfl, ?hy27_t3⟩) (by assumption) ?rest27_t3
    case hy27_t3 => (intro W_ hS_; (try dsimp only at hS_); go_simp; (try (with_reducible rfl)))
    try simp only [Act.put, List.setIfInBounds_toArray, List.set_cons_zero, List.set_cons_succ]
    refine wpAnyH_take' (i := 28) (v := ?v28_t3) 53 rfl rfl (by kernel_rfl) (by kernel_rfl) (by kernel_rfl) (fun _ _ _ h => h) (Or.inl ⟨by kernel_rfl, ?hy28_t3⟩) (by assumption) ?rest28_t3
    case hy28_t3 => (intro W_ hS_; (try dsimp only at hS_); go_simp; (try (with_reducible rfl)))
    try simp only [Act.put, List.setIfInBounds_toArray, List.set_cons_zero, List.set_cons_succ]
    refine wpAnyH_take' (i := 29) (v := ?v29_t3) 6 rfl rfl (by kernel_rfl) (by kernel_rfl) (by kernel_rfl) (fun _ _ _ h => h) (Or.inl ⟨by kernel_rfl, ?hy29_t3⟩) (by assumption) ?rest29_t3
    case hy29_t3 => (intro W_ hS_; (try dsimp only at hS_); go_simp; (try (with_reducible rfl)))
    try simp only [Act.put, List.setIfInBounds_toArray, List.set_cons_zero, List.set_cons_succ]
    refine wpAnyH_done (by kernel_rfl) ?_ _
    go_wp2_with fail
    go_ret
    exact ⟨rfl, below_then hT2 (below_then (below_then (below_then (below_drew1 _) hBr2) hBr3) hBr8)⟩
  refine wp_region_held_drew (S := fun W => (W.cell? ⟨w.heap.size, 0, none⟩ = some (.int .i64 c.t) ∧ W.cell? ⟨w.heap.size, 1, none⟩ = some (.int .i64 c.r) ∧ W.cell? ⟨w.heap.size, 2, none⟩ = some (.int .i64 c.s) ∧ W.cell? ⟨w.heap.size, 3, none⟩ = some (.int .i64 c.q))) (by kernel_rfl) (by exact HasC.cc (c := c) (block_below (below_drew1 _) hc1)) (fun hHeld_ => ?_)
  refine wpAnyH_take' (i := 0) (v := ?v0_t4) 9 rfl rfl (by kernel_rfl) (by kernel_rfl) (by kernel_rfl) (fun _ _ _ h => h) (Or.inl ⟨by kernel_rfl, ?hy0_t4⟩) (by assumption) ?rest0_t4
  case hy0_t4 => (intro W_ hS_; (try dsimp only at hS_); go_simp; (try (with_reducible rfl)))
  try simp only [Act.put, List.setIfInBounds_toArray, List.set_cons_zero, List.set_cons_succ]
  refine wpAnyH_take' (i := 1) (v := ?v1_t4) 10 rfl rfl (by kernel_rfl) (by kernel_rfl) (by kernel_rfl) (fun _ _ _ h => h) (Or.inl ⟨by kernel_rfl, ?hy1_t4⟩) (by assumption) ?rest1_t4
  case hy1_t4 => (intro W_ hS_; (try dsimp only at hS_); go_simp; (try (with_reducible rfl)))
  try simp only [Act.put, List.setIfInBounds_toArray, List.set_cons_zero, List.set_cons_succ]
  refine wpAnyH_take' (i := 2) (v := ?v2_t4) 11 rfl rfl (by kernel_rfl) (by kernel_rfl) (by kernel_rfl) (fun _ _ _ h => h) (Or.inl ⟨by kernel_rfl, ?hy2_t4⟩) (by assumption) ?rest2_t4
  case hy2_t4 => (intro W_ hS_; (try dsimp only at hS_); go_simp; (try (with_reducible rfl)))
  try simp only [Act.put, List.setIfInBounds_toArray, List.set_cons_zero, List.set_cons_succ]
  refine wpAnyH_take' (i := 3) (v := ?v3_t4) 12 rfl rfl (by kernel_rfl) (by kernel_rfl) (by kernel_rfl) (fun _ _ _ h => h) (Or.inl ⟨by kernel_rfl, ?hy3_t4⟩) (by assumption) ?rest3_t4
  case hy3_t4 => (intro W_ hS_; (try dsimp only at hS_); go_simp; (try (with_reducible rfl)))
  try simp only [Act.put, List.setIfInBounds_toArray, List.set_cons_zero, List.set_cons_succ]
  refine wpAnyH_take' (i := 4) (v := ?v4_t4) 13 rfl rfl (by kernel_rfl) (by kernel_rfl) (by kernel_rfl) (fun _ _ _ h => h) (Or.inl ⟨by kernel_rfl, ?hy4_t4⟩) (by assumption) ?rest4_t4
  case hy4_t4 => (intro W_ hS_; (try dsimp only at hS_); go_simp; (try (with_reducible rfl)))
  try simp only [Act.put, List.setIfInBounds_toArray, List.set_cons_zero, List.set_cons_succ]
  refine wpAnyH_take' (i := 6) (v := ?v6_t4) 15 rfl rfl (by kernel_rfl) (by kernel_rfl) (by kernel_rfl) (fun _ _ _ h => h) (Or.inl ⟨by kernel_rfl, ?hy6_t4⟩) (by assumption) ?rest6_t4
  case hy6_t4 => (intro W_ hS_; (try dsimp only at hS_); go_simp; (try (with_reducible rfl)))
  try simp only [Act.put, List.setIfInBounds_toArray, List.set_cons_zero, List.set_cons_succ]
  refine wpAnyH_ready (rs := [5]) (by kernel_rfl) (by simp) ?_
  refine AllReadyH.cons rfl (fun K_ hK_ => ?_) AllReadyH.nil
  go_simp
  refine (right_q c true Hq.out _).mono ?_; rintro e wr5 ⟨rfl, hBr5⟩
  go_wp2_with fail
  refine hK_.out _ _ (by exact HasC.cc (c := c) (block_below hBr5 (block_below (below_drew1 _) hc1))) (fun hHeld_5 => ?_)
  clear hK_
  try simp only [Act.put, List.setIfInBounds_toArray, List.set_cons_zero, List.set_cons_succ]
  refine wpAnyH_ready (rs := [7]) (by kernel_rfl) (by simp) ?_
  refine AllReadyH.cons rfl (fun K_ hK_ => ?_) AllReadyH.nil
  go_simp
  refine (refRight_q c true Hq.out _).mono ?_; rintro e wr7 ⟨rfl, hBr7⟩
  go_wp2_with fail
  refine hK_.out _ _ (by exact HasC.cc (c := c) (block_below hBr7 (block_below hBr5 (block_below (below_drew1 _) hc1)))) (fun hHeld_7 => ?_)
  clear hK_
  try simp only [Act.put, List.setIfInBounds_toArray, List.set_cons_zero, List.set_cons_succ]
  refine wpAnyH_take' (i := 8) (v := ?v8_t4) 17 rfl rfl (by kernel_rfl) (by kernel_rfl) (by kernel_rfl) (fun _ _ _ h => h) (Or.inl ⟨by kernel_rfl, ?hy8_t4⟩) (by assumption) ?rest8_t4
  case hy8_t4 => (intro W_ hS_; (try dsimp only at hS_); go_simp; (try (with_reducible rfl)))
  try simp only [Act.put, List.setIfInBounds_toArray, List.set_cons_zero, List.set_cons_succ]
  refine wpAnyH_take' (i := 9) (v := ?v9_t4) 18 rfl rfl (by kernel_rfl) (by kernel_rfl) (by kernel_rfl) (fun _ _ _ h => h) (Or.inl ⟨by kernel_rfl, ?hy9_t4⟩) (by assumption) ?rest9_t4
  case hy9_t4 => (intro W_ hS_; (try dsimp only at hS_); go_simp; (try (with_reducible rfl)))
  try simp only [Act.put, List.setIfInBounds_toArray, List.set_cons_zero, List.set_cons_succ]
  refine wpAnyH_done (by kernel_rfl) ?_ _
  obtain ⟨w2, hw2⟩ : ∃ w2, wr7 = w2 := ⟨_, rfl⟩
  have hB2 : Below w1.heap.size w1 w2 := by rw [← hw2]; exact (below_then (below_then (below_drew1 _) hBr5) hBr7)
  rw [hw2]
  clear hw2
  have hT2 := below_then hT1 hB2
  have hc2 := block_below hB2 hc1
  have hl2 := Row.to hl1 hB2
  clear hT1 hc1 hl1 hB2
  have Hok := Lib.hid (show OkC c from of_decide_eq_true (show decide (OkC c) = true from Hq.out))
  obtain ⟨d, hd⟩ : ∃ q : CV, stepV c k = q := ⟨_, rfl⟩
  have Hd := Lib.hid hd
  clear hd
  obtain ⟨m, hm⟩ : ∃ q : CV, stepsV c l = q := ⟨_, rfl⟩
  have Hm := Lib.hid hm
  clear hm
  have s3 := sameC_self d
  have s4 := sameC_self m
  obtain ⟨cc0, cc1, cc2, cc3⟩ := HasC.cc (c := c) hc2
  go_wp2_with fail
  clear cc0 cc1 cc2 cc3
  refine wp_region_held_drew (S := fun W => (W.cell? ⟨w.heap.size, 0, none⟩ = some (.int .i64 c.t) ∧ W.cell? ⟨w.heap.size, 1, none⟩ = some (.int .i64 c.r) ∧ W.cell? ⟨w.heap.size, 2, none⟩ = some (.int .i64 c.s) ∧ W.cell? ⟨w.heap.size, 3, none⟩ = some (.int .i64 c.q))) (by kernel_rfl) (by exact HasC.cc (c := c) (block_below (below_drew1 _) hc2)) (fun hHeld_ => ?_)
  refine wpAnyH_take' (i := 0) (v := ?v0_t5) 25 rfl rfl (by kernel_rfl) (by kernel_rfl) (by kernel_rfl) (fun _ _ _ h => h) (Or.inl ⟨by kernel_rfl, ?hy0_t5⟩) (by assumption) ?rest0_t5
  case hy0_t5 => (intro W_ hS_; (try dsimp only at hS_); go_simp; (try (with_reducible rfl)))
  try simp only [Act.put, List.setIfInBounds_toArray, List.set_cons_zero, List.set_cons_succ]
  refine wpAnyH_take' (i := 1) (v := ?v1_t5) 26 rfl rfl (by kernel_rfl) (by kernel_rfl) (by kernel_rfl) (fun _ _ _ h => h) (Or.inl ⟨by kernel_rfl, ?hy1_t5⟩) (by assumption) ?rest1_t5
  case hy1_t5 => (intro W_ hS_; (try dsimp only at hS_); go_simp; (try (with_reducible rfl)))
  try simp only [Act.put, List.setIfInBounds_toArray, List.set_cons_zero, List.set_cons_succ]
  refine wpAnyH_ready (rs := [2]) (by kernel_rfl) (by simp) ?_
  refine AllReadyH.cons rfl (fun K_ hK_ => ?_) AllReadyH.nil
  go_simp
  refine (new_any _).mono ?_; rintro e wr2 ⟨rfl, hBr2⟩
  go_wp2_with fail
  refine hK_.out _ _ (by exact HasC.cc (c := c) (block_below hBr2 (block_below (below_drew1 _) hc2))) (fun hHeld_2 => ?_)
  clear hK_
  try simp only [Act.put, List.setIfInBounds_toArray, List.set_cons_zero, List.set_cons_succ]
  refine wpAnyH_ready (rs := [3]) (by kernel_rfl) (by simp) ?_
  refine AllReadyH.cons rfl (fun K_ hK_ => ?_) AllReadyH.nil
  go_simp
  refine (refNew_any _).mono ?_; rintro e wr3 ⟨rfl, hBr3⟩
  go_wp2_with fail
  refine hK_.out _ _ (by exact HasC.cc (c := c) (block_below hBr3 (block_below hBr2 (block_below (below_drew1 _) hc2)))) (fun hHeld_3 => ?_)
  clear hK_
  try simp only [Act.put, List.setIfInBounds_toArray, List.set_cons_zero, List.set_cons_succ]
  refine wpAnyH_take' (i := 4) (v := ?v4_t5) 29 rfl rfl (by kernel_rfl) (by kernel_rfl) (by kernel_rfl) (fun _ _ _ h => h) (Or.inl ⟨by kernel_rfl, ?hy4_t5⟩) (by assumption) ?rest4_t5
  case hy4_t5 => (intro W_ hS_; (try dsimp only at hS_); go_simp; (try (with_reducible rfl)))
  try simp only [Act.put, List.setIfInBounds_toArray, List.set_cons_zero, List.set_cons_succ]
  refine wpAnyH_take' (i := 5) (v := ?v5_t5) 30 rfl rfl (by kernel_rfl) (by kernel_rfl) (by kernel_rfl) (fun _ _ _ h => h) (Or.inl ⟨by kernel_rfl, ?hy5_t5⟩) (by assumption) ?rest5_t5
  case hy5_t5 => (intro W_ hS_; (try dsimp only at hS_); go_simp; (try (with_reducible rfl)))
  try simp only [Act.put, List.setIfInBounds_toArray, List.set_cons_zero, List.set_cons_succ]
  refine wpAnyH_take' (i := 6) (v := ?v6_t5) 31 rfl rfl (by kernel_rfl) (by kernel_rfl) (by kernel_rfl) (fun _ _ _ h => h) (Or.inl ⟨by kernel_rfl, ?hy6_t5⟩) (by assumption) ?rest6_t5
  case hy6_t5 => (intro W_ hS_; (try dsimp only at hS_); go_simp; (try (with_reducible rfl)))
  try simp only [Act.put, List.setIfInBounds_toArray, List.set_cons_zero, List.set_cons_succ]
  refine wpAnyH_take' (i := 7) (v := ?v7_t5) 32 rfl rfl (by kernel_rfl) (by kernel_rfl) (by kernel_rfl) (fun _ _ _ h => h) (Or.inl ⟨by kernel_rfl, ?hy7_t5⟩) (by assumption) ?rest7_t5
  case hy7_t5 => (intro W_ hS_; (try dsimp only at hS_); go_simp; (try (with_reducible rfl)))
  try simp only [Act.put, List.setIfInBounds_toArray, List.set_cons_zero, List.set_cons_succ]
  refine wpAnyH_ready (rs := [8]) (by kernel_rfl) (by simp) ?_
  refine AllReadyH.cons rfl (fun K_ hK_ => ?_) AllReadyH.nil
  go_simp
  refine (refRight_q c true Hq.out _).mono ?_; rintro e wr8 ⟨rfl, hBr8⟩
  go_wp2_with fail
  refine hK_.out _ _ (by exact HasC.cc (c := c) (block_below hBr8 (block_below hBr3 (block_below hBr2 (block_below (below_drew1 _) hc2))))) (fun hHeld_8 => ?_)
  clear hK_
  try simp only [Act.put, List.setIfInBounds_toArray, List.set_cons_zero, List.set_cons_succ]
  refine wpAnyH_take' (i := 9) (v := ?v9_t5) 34 rfl rfl (by kernel_rfl) (by kernel_rfl) (by kernel_rfl) (fun _ _ _ h => h) (Or.inl ⟨by kernel_rfl, ?hy9_t5⟩) (by assumption) ?rest9_t5
  case hy9_t5 => (intro W_ hS_; (try dsimp only at hS_); go_simp; (try (with_reducible rfl)))
  try simp only [Act.put, List.setIfInBounds_toArray, List.set_cons_zero, List.set_cons_succ]
  refine wpAnyH_take' (i := 10) (v := ?v10_t5) 35 rfl rfl (by kernel_rfl) (by kernel_rfl) (by kernel_rfl) (fun _ _ _ h => h) (Or.inl ⟨by kernel_rfl, ?hy10_t5⟩) (by assumption) ?rest10_t5
  case hy10_t5 => (intro W_ hS_; (try dsimp only at hS_); go_simp; (try (with_reducible rfl)))
  try simp only [Act.put, List.setIfInBounds_toArray, List.set_cons_zero, List.set_cons_succ]
  refine wpAnyH_take' (i := 11) (v := ?v11_t5) 36 rfl rfl (by kernel_rfl) (by kernel_rfl) (by kernel_rfl) (fun _ _ _ h => h) (Or.inl ⟨by kernel_rfl, ?hy11_t5⟩) (by assumption) ?rest11_t5
  case hy11_t5 => (intro W_ hS_; (try dsimp only at hS_); go_simp; (try (with_reducible rfl)))
  try simp only [Act.put, List.setIfInBounds_toArray, List.set_cons_zero, List.set_cons_succ]
  refine wpAnyH_take' (i := 12) (v := ?v12_t5) 37 rfl rfl (by kernel_rfl) (by kernel_rfl) (by kernel_rfl) (fun _ _ _ h => h) (Or.inl ⟨by kernel_rfl, ?hy12_t5⟩) (by assumption) ?rest12_t5
  case hy12_t5 => (intro W_ hS_; (try dsimp only at hS_); go_simp; (try (with_reducible rfl)))
  try simp only [Act.put, List.setIfInBounds_toArray, List.set_cons_zero, List.set_cons_succ]
  refine wpAnyH_take' (i := 14) (v := ?v14_t5) 39 rfl rfl (by kernel_rfl) (by kernel_rfl) (by kernel_rfl) (fun _ _ _ h => h) (Or.inl ⟨by kernel_rfl, ?hy14_t5⟩) (by assumption) ?rest14_t5
  case hy14_t5 => (intro W_ hS_; (try dsimp only at hS_); go_simp; (try (with_reducible rfl)))
  try simp only [Act.put, List.setIfInBounds_toArray, List.set_cons_zero, List.set_cons_succ]
  refine wpAnyH_take' (i := 15) (v := ?v15_t5) 40 rfl rfl (by kernel_rfl) (by kernel_rfl) (by kernel_rfl) (fun _ _ _ h => h) (Or.inl ⟨by kernel_rfl, ?hy15_t5⟩) (by assumption) ?rest15_t5
  case hy15_t5 => (intro W_ hS_; (try dsimp only at hS_); go_simp; (try (with_reducible rfl)))
  try simp only [Act.put, List.setIfInBounds_toArray, List.set_cons_zero, List.set_cons_succ]
  refine wpAnyH_ready (rs := [13]) (by kernel_rfl) (by simp) ?_
  refine AllReadyH.cons rfl (fun K_ hK_ => ?_) AllReadyH.nil
  go_simp
  refine (step1_any c d k Hd.out Hok.out _).mono ?_; rintro e wr13 ⟨rfl, hBr13⟩
  go_wp2_with fail
  refine hK_.out _ _ (by exact HasC.cc (c := c) (block_below hBr13 (block_below hBr8 (block_below hBr3 (block_below hBr2 (block_below (below_drew1 _) hc2)))))) (fun hHeld_13 => ?_)
  clear hK_
  try simp only [Act.put, List.setIfInBounds_toArray, List.set_cons_zero, List.set_cons_succ]
  refine wpAnyH_ready (rs := [16]) (by kernel_rfl) (by simp) ?_
  refine AllReadyH.cons rfl (fun K_ hK_ => ?_) AllReadyH.nil
  go_simp
  refine (refStep_any c d k Hd.out Hok.out _).mono ?_; rintro e wr16 ⟨rfl, hBr16⟩
  go_wp2_with fail
  refine hK_.out _ _ (by exact HasC.cc (c := c) (block_below hBr16 (block_below hBr13 (block_below hBr8 (block_below hBr3 (block_below hBr2 (block_below (below_drew1 _) hc2))))))) (fun hHeld_16 => ?_)
  clear hK_
  try simp only [Act.put, List.setIfInBounds_toArray, List.set_cons_zero, List.set_cons_succ]
  refine wpAnyH_take' (i := 17) (v := ?v17_t5) 42 rfl rfl (by kernel_rfl) (by kernel_rfl) (by kernel_rfl) (fun _ _ _ h => h) (Or.inl ⟨by kernel_rfl, ?hy17_t5⟩) (by assumption) ?rest17_t5
  case hy17_t5 => (intro W_ hS_; (try dsimp only at hS_); go_simp; (try (with_reducible rfl)))
  try simp only [Act.put, List.setIfInBounds_toArray, List.set_cons_zero, List.set_cons_succ]
  refine wpAnyH_take' (i := 18) (v := ?v18_t5) 43 rfl rfl (by kernel_rfl) (by kernel_rfl) (by kernel_rfl) (fun _ _ _ h => h) (Or.inl ⟨by kernel_rfl, ?hy18_t5⟩) (by assumption) ?rest18_t5
  case hy18_t5 => (intro W_ hS_; (try dsimp only at hS_); go_simp; (try (with_reducible rfl)))
  try simp only [Act.put, List.setIfInBounds_toArray, List.set_cons_zero, List.set_cons_succ]
  refine wpAnyH_take' (i := 19) (v := ?v19_t5) 44 rfl rfl (by kernel_rfl) (by kernel_rfl) (by kernel_rfl) (fun _ _ _ h => h) (Or.inl ⟨by kernel_rfl, ?hy19_t5⟩) (by assumption) ?rest19_t5
  case hy19_t5 => (intro W_ hS_; (try dsimp only at hS_); go_simp; (try (with_reducible rfl)))
  try simp only [Act.put, List.setIfInBounds_toArray, List.set_cons_zero, List.set_cons_succ]
  refine wpAnyH_take' (i := 20) (v := ?v20_t5) 45 rfl rfl (by kernel_rfl) (by kernel_rfl) (by kernel_rfl) (fun _ _ _ h => h) (Or.inl ⟨by kernel_rfl, ?hy20_t5⟩) (by assumption) ?rest20_t5
  case hy20_t5 => (intro W_ hS_; (try dsimp only at hS_); go_simp; (try (with_reducible rfl)))
  try simp only [Act.put, List.setIfInBounds_toArray, List.set_cons_zero, List.set_cons_succ]
  refine wpAnyH_take' (i := 22) (v := ?v22_t5) 47 rfl rfl (by kernel_rfl) (by kernel_rfl) (by kernel_rfl) (fun _ _ _ h => h) (Or.inl ⟨by kernel_rfl, ?hy22_t5⟩) (by assumption) ?rest22_t5
  case hy22_t5 => (intro W_ hS_; (try dsimp only at hS_); go_simp; (try (with_reducible rfl)))
  try simp only [Act.put, List.setIfInBounds_toArray, List.set_cons_zero, List.set_cons_succ]
  refine wpAnyH_take' (i := 23) (v := ?v23_t5) 48 rfl rfl (by kernel_rfl) (by kernel_rfl) (by kernel_rfl) (fun _ _ _ h => h) (Or.inl ⟨by kernel_rfl, ?hy23_t5⟩) (by assumption) ?rest23_t5
  case hy23_t5 => (intro W_ hS_; (try dsimp only at hS_); go_simp; (try (with_reducible rfl)))
  try simp only [Act.put, List.setIfInBounds_toArray, List.set_cons_zero, List.set_cons_succ]
  refine wpAnyH_ready (rs := [21]) (by kernel_rfl) (by simp) ?_
  refine AllReadyH.cons rfl (fun K_ hK_ => ?_) AllReadyH.nil
  go_simp
  refine (steps_any c m l Hm.out Hok.out n Hn.out (by have := Hbig.out; omega) A cp _ (Row.to (Row.to (Row.to (Row.to (Row.to (Row.to hl2 (below_drew1 _)) hBr2) hBr3) hBr8) hBr13) hBr16)).mono ?_; rintro e wr21 ⟨rfl, hBr21⟩
  go_wp2_with fail
  refine hK_.out _ _ (by exact HasC.cc (c := c) (block_below hBr21 (block_below hBr16 (block_below hBr13 (block_below hBr8 (block_below hBr3 (block_below hBr2 (block_below (below_drew1 _) hc2)))))))) (fun hHeld_21 => ?_)
  clear hK_
  try simp only [Act.put, List.setIfInBounds_toArray, List.set_cons_zero, List.set_cons_succ]
  refine wpAnyH_ready (rs := [24]) (by kernel_rfl) (by simp) ?_
  refine AllReadyH.cons rfl (fun K_ hK_ => ?_) AllReadyH.nil
  go_simp
  refine (refSteps_any c m l Hm.out Hok.out n Hn.out (by have := Hbig.out; omega) A cp _ (Row.to (Row.to (Row.to (Row.to (Row.to (Row.to (Row.to hl2 (below_drew1 _)) hBr2) hBr3) hBr8) hBr13) hBr16) hBr21)).mono ?_; rintro e wr24 ⟨rfl, hBr24⟩
  go_wp2_with fail
  refine hK_.out _ _ (by exact HasC.cc (c := c) (block_below hBr24 (block_below hBr21 (block_below hBr16 (block_below hBr13 (block_below hBr8 (block_below hBr3 (block_below hBr2 (block_below (below_drew1 _) hc2))))))))) (fun hHeld_24 => ?_)
  clear hK_
  try simp only [Act.put, List.setIfInBounds_toArray, List.set_cons_zero, List.set_cons_succ]
  refine wpAnyH_take' (i := 25) (v := ?v25_t5) 50 rfl rfl (by kernel_rfl) (by kernel_rfl) (by kernel_rfl) (fun _ _ _ h => h) (Or.inl ⟨by kernel_rfl, ?hy25_t5⟩) (by assumption) ?rest25_t5
  case hy25_t5 => (intro W_ hS_; (try dsimp only at hS_); go_simp; (try (with_reducible rfl)))
  try simp only [Act.put, List.setIfInBounds_toArray, List.set_cons_zero, List.set_cons_succ]
  refine wpAnyH_take' (i := 26) (v := ?v26_t5) 51 rfl rfl (by kernel_rfl) (by kernel_rfl) (by kernel_rfl) (fun _ _ _ h => h) (Or.inl ⟨by kernel_rfl, ?hy26_t5⟩) (by assumption) ?rest26_t5
  case hy26_t5 => (intro W_ hS_; (try dsimp only at hS_); go_simp; (try (with_reducible rfl)))
  try simp only [Act.put, List.setIfInBounds_toArray, List.set_cons_zero, List.set_cons_succ]
  refine wpAnyH_take' (i := 27) (v := ?v27_t5) 52 rfl rfl (by kernel_rfl) (by kernel_rfl) (by kernel_rfl) (fun _ _ _ h => h) (Or.inl ⟨by kernel_rfl, ?hy27_t5⟩) (by assumption) ?rest27_t5
  case hy27_t5 => (intro W_ hS_; (try dsimp only at hS_); go_simp; (try (with_reducible rfl)))
  try simp only [Act.put, List.setIfInBounds_toArray, List.set_cons_zero, List.set_cons_succ]
  refine wpAnyH_take' (i := 28) (v := ?v28_t5) 53 rfl rfl (by kernel_rfl) (by kernel_rfl) (by kernel_rfl) (fun _ _ _ h => h) (Or.inl ⟨by kernel_rfl, ?hy28_t5⟩) (by assumption) ?rest28_t5
  case hy28_t5 => (intro W_ hS_; (try dsimp only at hS_); go_simp; (try (with_reducible rfl)))
  try simp only [Act.put, List.setIfInBounds_toArray, List.set_cons_zero, List.set_cons_succ]
  refine wpAnyH_take' (i := 29) (v := ?v29_t5) 6 rfl rfl (by kernel_rfl) (by kernel_rfl) (by kernel_rfl) (fun _ _ _ h => h) (Or.inl ⟨by kernel_rfl, ?hy29_t5⟩) (by assumption) ?rest29_t5
  case hy29_t5 => (intro W_ hS_; (try dsimp only at hS_); go_simp; (try (with_reducible rfl)))
  try simp only [Act.put, List.setIfInBounds_toArray, List.set_cons_zero, List.set_cons_succ]
  refine wpAnyH_done (by kernel_rfl) ?_ _
  go_wp2_with fail
  go_ret
  exact ⟨rfl, below_then hT2 (below_then (below_then (below_then (below_then (below_then (below_then (below_then (below_drew1 _) hBr2) hBr3) hBr8) hBr13) hBr16) hBr21) hBr24)⟩

end Go.Proofs.Ytbkldbckcnnafaa
