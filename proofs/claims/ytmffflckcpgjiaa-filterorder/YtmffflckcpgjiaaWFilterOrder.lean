/-
  FilterOrder.
-/
import Derived.Test.YtmffflckcpgjiaaFilLaw
import Derived.Test.YtmffflckcpgjiaaHead7
import Derived.Test.YtmffflckcpgjiaaAny7
namespace Go.Proofs.Ytmffflckcpgjiaa
open Go.RowKit
set_option linter.unusedVariables false
set_option linter.unusedSimpArgs false

set_option maxRecDepth 100000 in
set_option maxHeartbeats 2000000 in
theorem filterOrder_any (a b c : FL) (w : World) :
    Calls Try.prog 6 #[a.v, b.v, c.v] w fun e w' => e = .returned (.bool true) ∧ Below w.heap.size w w' := by
  have q1 := eqIn_fl
  have q2 := eq_fl
  go_enter Try.func6, Try.ntmps6
  go_wp2_with fail
  obtain ⟨w0, hw0⟩ : ∃ w0, (((w.alloc (.cells #[.bool a.x, .int .i64 a.k, .int .i64 a.m] 23)).alloc (.cells #[.bool b.x, .int .i64 b.k, .int .i64 b.m] 23)).alloc (.cells #[.bool c.x, .int .i64 c.k, .int .i64 c.m] 23)) = w0 := ⟨_, rfl⟩
  have hT0 : Below w.heap.size w w0 := by rw [← hw0]; exact below_then (below_two _ _ _) (below_alloc1 _ _)
  have ha0 : HasL w0 w.heap.size ⟨a.x, a.k, a.m⟩ := by rw [← hw0]; exact block_below (below_alloc1 _ _) (blk1 _ _ _)
  have hb0 : HasL w0 (w.heap.size + 1) ⟨b.x, b.k, b.m⟩ := by rw [← hw0]; exact block_below (below_alloc1 _ _) (blk2 _ _ _)
  have hc0 : HasL w0 (w.heap.size + 2) ⟨c.x, c.k, c.m⟩ := by rw [← hw0]; exact blk3 _ _ _ _
  rw [hw0]
  clear hw0
  refine (head7_any w0).mono ?_
  rintro e w1 ⟨rfl, hB1⟩
  have hT1 := below_then hT0 hB1
  have ha1 := block_below hB1 ha0
  have hb1 := block_below hB1 hb0
  have hc1 := block_below hB1 hc0
  clear hT0 ha0 hb0 hc0  hB1
  obtain ⟨ac0, ac1, ac2⟩ := cells3' ha1
  obtain ⟨bc0, bc1, bc2⟩ := cells3' hb1
  obtain ⟨cc0, cc1, cc2⟩ := cells3' hc1
  go_wp2_with fail
  clear ac0 ac1 ac2 bc0 bc1 bc2 cc0 cc1 cc2
  have hlit := LRow.lit w1 [a, b, c] (cs := #[.bool a.x, .int .i64 a.k, .int .i64 a.m, .bool b.x, .int .i64 b.k, .int .i64 b.m, .bool c.x, .int .i64 c.k, .int .i64 c.m]) rfl rfl
  have hbl := below_alloc1 w1 (.cells #[.bool a.x, .int .i64 a.k, .int .i64 a.m, .bool b.x, .int .i64 b.k, .int .i64 b.m, .bool c.x, .int .i64 c.k, .int .i64 c.m] 23)
  obtain ⟨qg, hqg⟩ : ∃ q, goodV [a, b, c] = q := ⟨_, rfl⟩
  have Hqg := Lib.hid hqg
  clear hqg
  cases qg
  · skip
    refine (good_q [a, b, c] _ false 3 rfl _ 3 hlit (by omega) Hqg.out).mono ?_
    rintro e w2 ⟨rfl, hC2⟩
    have hB2 := below_then hbl hC2
    clear hlit hbl
    clear hC2
    have hT2 := below_then hT1 hB2
    have ha2 := block_below hB2 ha1
    have hb2 := block_below hB2 hb1
    have hc2 := block_below hB2 hc1
    clear hT1 ha1 hb1 hc1  hB2
    obtain ⟨ac0, ac1, ac2⟩ := cells3' ha2
    obtain ⟨bc0, bc1, bc2⟩ := cells3' hb2
    obtain ⟨cc0, cc1, cc2⟩ := cells3' hc2
    go_wp2_with fail
    go_ret
    exact ⟨rfl, hT2⟩
  refine (good_q [a, b, c] _ true 3 rfl _ 3 hlit (by omega) Hqg.out).mono ?_
  rintro e w2 ⟨rfl, hC2⟩
  have hB2 := below_then hbl hC2
  clear hlit hbl
  clear hC2
  have hT2 := below_then hT1 hB2
  have ha2 := block_below hB2 ha1
  have hb2 := block_below hB2 hb1
  have hc2 := block_below hB2 hc1
  clear hT1 ha1 hb1 hc1  hB2
  have hg3 : refRightP a = true ∧ refRightP b = true ∧ refRightP c = true := by simpa [goodV] using Hqg.out
  obtain ⟨K, M, ha⟩ := okL_of hg3.1
  obtain ⟨K2, M2, hb⟩ := okL_of hg3.2.1
  obtain ⟨K3, M3, hc⟩ := okL_of hg3.2.2
  clear hg3
  have HA := Lib.hid ha
  have HB := Lib.hid hb
  have HC := Lib.hid hc
  clear ha hb hc
  obtain ⟨p, hp⟩ : ∃ q, coversV a b = q := ⟨_, rfl⟩
  have Hp := Lib.hid hp
  clear hp
  obtain ⟨ac0, ac1, ac2⟩ := cells3' ha2
  obtain ⟨bc0, bc1, bc2⟩ := cells3' hb2
  obtain ⟨cc0, cc1, cc2⟩ := cells3' hc2
  go_wp2_with fail
  clear ac0 ac1 ac2 bc0 bc1 bc2 cc0 cc1 cc2
  cases p
  · skip
    refine wp_region_held_drew (S := fun W => (W.cell? ⟨w.heap.size, 0, none⟩ = some (.bool a.x) ∧ W.cell? ⟨w.heap.size, 1, none⟩ = some (.int .i64 a.k) ∧ W.cell? ⟨w.heap.size, 2, none⟩ = some (.int .i64 a.m)) ∧ (W.cell? ⟨(w.heap.size + 1), 0, none⟩ = some (.bool b.x) ∧ W.cell? ⟨(w.heap.size + 1), 1, none⟩ = some (.int .i64 b.k) ∧ W.cell? ⟨(w.heap.size + 1), 2, none⟩ = some (.int .i64 b.m))) (by kernel_rfl) (by exact ⟨HasL.cl (f := ⟨a.x, a.k, a.m⟩) (block_below (below_drew1 _) ha2), HasL.cl (f := ⟨b.x, b.k, b.m⟩) (block_below (below_drew1 _) hb2)⟩) (fun hHeld_ => ?_)
    refine wpAnyH_take' (i := 0) (v := ?v0_t3) 16 rfl rfl (by kernel_rfl) (by kernel_rfl) (by kernel_rfl) (fun _ _ _ h => h) (Or.inl ⟨by kernel_rfl, ?hy0_t3⟩) (by assumption) ?rest0_t3
    case hy0_t3 => (intro W_ hS_; (try dsimp only at hS_); go_simp; (try (with_reducible rfl)))
    try simp only [Act.put, List.setIfInBounds_toArray, List.set_cons_zero, List.set_cons_succ]
    refine wpAnyH_take' (i := 1) (v := ?v1_t3) 17 rfl rfl (by kernel_rfl) (by kernel_rfl) (by kernel_rfl) (fun _ _ _ h => h) (Or.inl ⟨by kernel_rfl, ?hy1_t3⟩) (by assumption) ?rest1_t3
    case hy1_t3 => (intro W_ hS_; (try dsimp only at hS_); go_simp; (try (with_reducible rfl)))
    try simp only [Act.put, List.setIfInBounds_toArray, List.set_cons_zero, List.set_cons_succ]
    refine wpAnyH_ready (rs := [2]) (by kernel_rfl) (by simp) ?_
    refine AllReadyH.cons rfl (fun K_ hK_ => ?_) AllReadyH.nil
    go_simp
    refine (covers_q a b _ false Hp.out).mono ?_; rintro e wr2 ⟨rfl, hBr2⟩
    go_wp2_with fail
    refine hK_.out _ _ (by exact ⟨HasL.cl (f := ⟨a.x, a.k, a.m⟩) (block_below hBr2 (block_below (below_drew1 _) ha2)), HasL.cl (f := ⟨b.x, b.k, b.m⟩) (block_below hBr2 (block_below (below_drew1 _) hb2))⟩) (fun hHeld_2 => ?_)
    clear hK_
    try simp only [Act.put, List.setIfInBounds_toArray, List.set_cons_zero, List.set_cons_succ]
    refine wpAnyH_take' (i := 3) (v := ?v3_t3) 19 rfl rfl (by kernel_rfl) (by kernel_rfl) (by kernel_rfl) (fun _ _ _ h => h) (Or.inl ⟨by kernel_rfl, ?hy3_t3⟩) (by assumption) ?rest3_t3
    case hy3_t3 => (intro W_ hS_; (try dsimp only at hS_); go_simp; (try (with_reducible rfl)))
    try simp only [Act.put, List.setIfInBounds_toArray, List.set_cons_zero, List.set_cons_succ]
    refine wpAnyH_take' (i := 4) (v := undef) 20 rfl rfl (by kernel_rfl) (by kernel_rfl) (by kernel_rfl) (fun _ _ _ h => h) (Or.inr ⟨by kernel_rfl, rfl⟩) (by assumption) ?_
    try simp only [Act.put, List.setIfInBounds_toArray, List.set_cons_zero, List.set_cons_succ]
    refine wpAnyH_take' (i := 5) (v := undef) 21 rfl rfl (by kernel_rfl) (by kernel_rfl) (by kernel_rfl) (fun _ _ _ h => h) (Or.inr ⟨by kernel_rfl, rfl⟩) (by assumption) ?_
    try simp only [Act.put, List.setIfInBounds_toArray, List.set_cons_zero, List.set_cons_succ]
    refine wpAnyH_take' (i := 7) (v := undef) 23 rfl rfl (by kernel_rfl) (by kernel_rfl) (by kernel_rfl) (fun _ _ _ h => h) (Or.inr ⟨by kernel_rfl, rfl⟩) (by assumption) ?_
    try simp only [Act.put, List.setIfInBounds_toArray, List.set_cons_zero, List.set_cons_succ]
    refine wpAnyH_take' (i := 8) (v := undef) 24 rfl rfl (by kernel_rfl) (by kernel_rfl) (by kernel_rfl) (fun _ _ _ h => h) (Or.inr ⟨by kernel_rfl, rfl⟩) (by assumption) ?_
    try simp only [Act.put, List.setIfInBounds_toArray, List.set_cons_zero, List.set_cons_succ]
    refine wpAnyH_take' (i := 9) (v := undef) 25 rfl rfl (by kernel_rfl) (by kernel_rfl) (by kernel_rfl) (fun _ _ _ h => h) (Or.inr ⟨by kernel_rfl, rfl⟩) (by assumption) ?_
    try simp only [Act.put, List.setIfInBounds_toArray, List.set_cons_zero, List.set_cons_succ]
    refine wpAnyH_skip (i := 6) 22 rfl rfl (by kernel_rfl) (by kernel_rfl) (by assumption) ?_
    try simp only [Act.put, List.setIfInBounds_toArray, List.set_cons_zero, List.set_cons_succ]
    refine wpAnyH_take' (i := 10) (v := undef) 26 rfl rfl (by kernel_rfl) (by kernel_rfl) (by kernel_rfl) (fun _ _ _ h => h) (Or.inr ⟨by kernel_rfl, rfl⟩) (by assumption) ?_
    try simp only [Act.put, List.setIfInBounds_toArray, List.set_cons_zero, List.set_cons_succ]
    refine wpAnyH_take' (i := 11) (v := undef) 27 rfl rfl (by kernel_rfl) (by kernel_rfl) (by kernel_rfl) (fun _ _ _ h => h) (Or.inr ⟨by kernel_rfl, rfl⟩) (by assumption) ?_
    try simp only [Act.put, List.setIfInBounds_toArray, List.set_cons_zero, List.set_cons_succ]
    refine wpAnyH_take' (i := 12) (v := undef) 28 rfl rfl (by kernel_rfl) (by kernel_rfl) (by kernel_rfl) (fun _ _ _ h => h) (Or.inr ⟨by kernel_rfl, rfl⟩) (by assumption) ?_
    try simp only [Act.put, List.setIfInBounds_toArray, List.set_cons_zero, List.set_cons_succ]
    refine wpAnyH_take' (i := 13) (v := undef) 29 rfl rfl (by kernel_rfl) (by kernel_rfl) (by kernel_rfl) (fun _ _ _ h => h) (Or.inr ⟨by kernel_rfl, rfl⟩) (by assumption) ?_
    try simp only [Act.put, List.setIfInBounds_toArray, List.set_cons_zero, List.set_cons_succ]
    refine wpAnyH_skip (i := 14) 30 rfl rfl (by kernel_rfl) (by kernel_rfl) (by assumption) ?_
    try simp only [Act.put, List.setIfInBounds_toArray, List.set_cons_zero, List.set_cons_succ]
    refine wpAnyH_take' (i := 15) (v := undef) 31 rfl rfl (by kernel_rfl) (by kernel_rfl) (by kernel_rfl) (fun _ _ _ h => h) (Or.inr ⟨by kernel_rfl, rfl⟩) (by assumption) ?_
    try simp only [Act.put, List.setIfInBounds_toArray, List.set_cons_zero, List.set_cons_succ]
    refine wpAnyH_take' (i := 16) (v := undef) 32 rfl rfl (by kernel_rfl) (by kernel_rfl) (by kernel_rfl) (fun _ _ _ h => h) (Or.inr ⟨by kernel_rfl, rfl⟩) (by assumption) ?_
    try simp only [Act.put, List.setIfInBounds_toArray, List.set_cons_zero, List.set_cons_succ]
    refine wpAnyH_take' (i := 17) (v := ?v17_t3) 33 rfl rfl (by kernel_rfl) (by kernel_rfl) (by kernel_rfl) (fun _ _ _ h => h) (Or.inl ⟨by kernel_rfl, ?hy17_t3⟩) (by assumption) ?rest17_t3
    case hy17_t3 => (intro W_ hS_; (try dsimp only at hS_); go_simp; (try (with_reducible rfl)))
    try simp only [Act.put, List.setIfInBounds_toArray, List.set_cons_zero, List.set_cons_succ]
    refine wpAnyH_done (by kernel_rfl) ?_ _
    obtain ⟨w3, hw3⟩ : ∃ w3, wr2 = w3 := ⟨_, rfl⟩
    have hB3 : Below w2.heap.size w2 w3 := by rw [← hw3]; exact (below_then (below_drew1 _) hBr2)
    rw [hw3]
    clear hw3
    have hT3 := below_then hT2 hB3
    have ha3 := block_below hB3 ha2
    have hb3 := block_below hB3 hb2
    have hc3 := block_below hB3 hc2
    clear hT2 ha2 hb2 hc2  hB3
    obtain ⟨ac0, ac1, ac2⟩ := cells3' ha3
    obtain ⟨bc0, bc1, bc2⟩ := cells3' hb3
    obtain ⟨cc0, cc1, cc2⟩ := cells3' hc3
    go_wp2_with fail
    clear ac0 ac1 ac2 bc0 bc1 bc2 cc0 cc1 cc2
    refine (covers_q a a w3 true (covers_self HA.out)).mono ?_
    rintro e w4 ⟨rfl, hB4⟩
    have hT4 := below_then hT3 hB4
    have ha4 := block_below hB4 ha3
    have hb4 := block_below hB4 hb3
    have hc4 := block_below hB4 hc3
    clear hT3 ha3 hb3 hc3  hB4
    obtain ⟨ac0, ac1, ac2⟩ := cells3' ha4
    obtain ⟨bc0, bc1, bc2⟩ := cells3' hb4
    obtain ⟨cc0, cc1, cc2⟩ := cells3' hc4
    go_wp2_with fail
    clear ac0 ac1 ac2 bc0 bc1 bc2 cc0 cc1 cc2
    refine (covers_q a b w4 false Hp.out).mono ?_
    rintro e w5 ⟨rfl, hB5⟩
    have hT5 := below_then hT4 hB5
    have ha5 := block_below hB5 ha4
    have hb5 := block_below hB5 hb4
    have hc5 := block_below hB5 hc4
    clear hT4 ha4 hb4 hc4  hB5
    obtain ⟨ac0, ac1, ac2⟩ := cells3' ha5
    obtain ⟨bc0, bc1, bc2⟩ := cells3' hb5
    obtain ⟨cc0, cc1, cc2⟩ := cells3' hc5
    go_wp2_with fail
    go_ret
    exact ⟨rfl, hT5⟩
  · skip
    have hs : sameL ⟨a.x, a.k, a.m⟩ ⟨b.x, b.k, b.m⟩ = coversV b a := (covers_back HA.out HB.out Hp.out).symm
    obtain ⟨r, hr⟩ : ∃ r, coversV b a = r := ⟨_, rfl⟩
    rw [hr] at hs
    have Hr := Lib.hid hr
    clear hr
    refine wp_region_held_drew (S := fun W => (W.cell? ⟨w.heap.size, 0, none⟩ = some (.bool a.x) ∧ W.cell? ⟨w.heap.size, 1, none⟩ = some (.int .i64 a.k) ∧ W.cell? ⟨w.heap.size, 2, none⟩ = some (.int .i64 a.m)) ∧ (W.cell? ⟨(w.heap.size + 1), 0, none⟩ = some (.bool b.x) ∧ W.cell? ⟨(w.heap.size + 1), 1, none⟩ = some (.int .i64 b.k) ∧ W.cell? ⟨(w.heap.size + 1), 2, none⟩ = some (.int .i64 b.m))) (by kernel_rfl) (by exact ⟨HasL.cl (f := ⟨a.x, a.k, a.m⟩) (block_below (below_drew1 _) ha2), HasL.cl (f := ⟨b.x, b.k, b.m⟩) (block_below (below_drew1 _) hb2)⟩) (fun hHeld_ => ?_)
    refine wpAnyH_take' (i := 0) (v := ?v0_t4) 16 rfl rfl (by kernel_rfl) (by kernel_rfl) (by kernel_rfl) (fun _ _ _ h => h) (Or.inl ⟨by kernel_rfl, ?hy0_t4⟩) (by assumption) ?rest0_t4
    case hy0_t4 => (intro W_ hS_; (try dsimp only at hS_); go_simp; (try (with_reducible rfl)))
    try simp only [Act.put, List.setIfInBounds_toArray, List.set_cons_zero, List.set_cons_succ]
    refine wpAnyH_take' (i := 1) (v := ?v1_t4) 17 rfl rfl (by kernel_rfl) (by kernel_rfl) (by kernel_rfl) (fun _ _ _ h => h) (Or.inl ⟨by kernel_rfl, ?hy1_t4⟩) (by assumption) ?rest1_t4
    case hy1_t4 => (intro W_ hS_; (try dsimp only at hS_); go_simp; (try (with_reducible rfl)))
    try simp only [Act.put, List.setIfInBounds_toArray, List.set_cons_zero, List.set_cons_succ]
    refine wpAnyH_ready (rs := [2]) (by kernel_rfl) (by simp) ?_
    refine AllReadyH.cons rfl (fun K_ hK_ => ?_) AllReadyH.nil
    go_simp
    refine (covers_q a b _ true Hp.out).mono ?_; rintro e wr2 ⟨rfl, hBr2⟩
    go_wp2_with fail
    refine hK_.out _ _ (by exact ⟨HasL.cl (f := ⟨a.x, a.k, a.m⟩) (block_below hBr2 (block_below (below_drew1 _) ha2)), HasL.cl (f := ⟨b.x, b.k, b.m⟩) (block_below hBr2 (block_below (below_drew1 _) hb2))⟩) (fun hHeld_2 => ?_)
    clear hK_
    try simp only [Act.put, List.setIfInBounds_toArray, List.set_cons_zero, List.set_cons_succ]
    refine wpAnyH_take' (i := 3) (v := ?v3_t4) 19 rfl rfl (by kernel_rfl) (by kernel_rfl) (by kernel_rfl) (fun _ _ _ h => h) (Or.inl ⟨by kernel_rfl, ?hy3_t4⟩) (by assumption) ?rest3_t4
    case hy3_t4 => (intro W_ hS_; (try dsimp only at hS_); go_simp; (try (with_reducible rfl)))
    try simp only [Act.put, List.setIfInBounds_toArray, List.set_cons_zero, List.set_cons_succ]
    refine wpAnyH_take' (i := 4) (v := ?v4_t4) 20 rfl rfl (by kernel_rfl) (by kernel_rfl) (by kernel_rfl) (fun _ _ _ h => h) (Or.inl ⟨by kernel_rfl, ?hy4_t4⟩) (by assumption) ?rest4_t4
    case hy4_t4 => (intro W_ hS_; (try dsimp only at hS_); go_simp; (try (with_reducible rfl)))
    try simp only [Act.put, List.setIfInBounds_toArray, List.set_cons_zero, List.set_cons_succ]
    refine wpAnyH_take' (i := 5) (v := ?v5_t4) 21 rfl rfl (by kernel_rfl) (by kernel_rfl) (by kernel_rfl) (fun _ _ _ h => h) (Or.inl ⟨by kernel_rfl, ?hy5_t4⟩) (by assumption) ?rest5_t4
    case hy5_t4 => (intro W_ hS_; (try dsimp only at hS_); go_simp; (try (with_reducible rfl)))
    try simp only [Act.put, List.setIfInBounds_toArray, List.set_cons_zero, List.set_cons_succ]
    refine wpAnyH_take' (i := 7) (v := ?v7_t4) 23 rfl rfl (by kernel_rfl) (by kernel_rfl) (by kernel_rfl) (fun _ _ _ h => h) (Or.inl ⟨by kernel_rfl, ?hy7_t4⟩) (by assumption) ?rest7_t4
    case hy7_t4 => (intro W_ hS_; (try dsimp only at hS_); go_simp; (try (with_reducible rfl)))
    try simp only [Act.put, List.setIfInBounds_toArray, List.set_cons_zero, List.set_cons_succ]
    refine wpAnyH_take' (i := 8) (v := ?v8_t4) 24 rfl rfl (by kernel_rfl) (by kernel_rfl) (by kernel_rfl) (fun _ _ _ h => h) (Or.inl ⟨by kernel_rfl, ?hy8_t4⟩) (by assumption) ?rest8_t4
    case hy8_t4 => (intro W_ hS_; (try dsimp only at hS_); go_simp; (try (with_reducible rfl)))
    try simp only [Act.put, List.setIfInBounds_toArray, List.set_cons_zero, List.set_cons_succ]
    refine wpAnyH_take' (i := 9) (v := ?v9_t4) 25 rfl rfl (by kernel_rfl) (by kernel_rfl) (by kernel_rfl) (fun _ _ _ h => h) (Or.inl ⟨by kernel_rfl, ?hy9_t4⟩) (by assumption) ?rest9_t4
    case hy9_t4 => (intro W_ hS_; (try dsimp only at hS_); go_simp; (try (with_reducible rfl)))
    try simp only [Act.put, List.setIfInBounds_toArray, List.set_cons_zero, List.set_cons_succ]
    refine wpAnyH_ready (rs := [6]) (by kernel_rfl) (by simp) ?_
    refine AllReadyH.cons rfl (fun K_ hK_ => ?_) AllReadyH.nil
    go_simp
    refine (covers_q b a _ r Hr.out).mono ?_; rintro e wr6 ⟨rfl, hBr6⟩
    go_wp2_with fail
    refine hK_.out _ _ (by exact ⟨HasL.cl (f := ⟨a.x, a.k, a.m⟩) (block_below hBr6 (block_below hBr2 (block_below (below_drew1 _) ha2))), HasL.cl (f := ⟨b.x, b.k, b.m⟩) (block_below hBr6 (block_below hBr2 (block_below (below_drew1 _) hb2)))⟩) (fun hHeld_6 => ?_)
    clear hK_
    try simp only [Act.put, List.setIfInBounds_toArray, List.set_cons_zero, List.set_cons_succ]
    refine wpAnyH_take' (i := 10) (v := ?v10_t4) 26 rfl rfl (by kernel_rfl) (by kernel_rfl) (by kernel_rfl) (fun _ _ _ h => h) (Or.inl ⟨by kernel_rfl, ?hy10_t4⟩) (by assumption) ?rest10_t4
    case hy10_t4 => (intro W_ hS_; (try dsimp only at hS_); go_simp; (try (with_reducible rfl)))
    try simp only [Act.put, List.setIfInBounds_toArray, List.set_cons_zero, List.set_cons_succ]
    refine wpAnyH_take' (i := 11) (v := ?v11_t4) 27 rfl rfl (by kernel_rfl) (by kernel_rfl) (by kernel_rfl) (fun _ _ _ h => h) (Or.inl ⟨by kernel_rfl, ?hy11_t4⟩) (by assumption) ?rest11_t4
    case hy11_t4 => (intro W_ hS_; (try dsimp only at hS_); go_simp; (try (with_reducible rfl)))
    try simp only [Act.put, List.setIfInBounds_toArray, List.set_cons_zero, List.set_cons_succ]
    refine wpAnyH_take' (i := 12) (v := ?v12_t4) 28 rfl rfl (by kernel_rfl) (by kernel_rfl) (by kernel_rfl) (fun _ _ _ h => h) (Or.inl ⟨by kernel_rfl, ?hy12_t4⟩) (by assumption) ?rest12_t4
    case hy12_t4 => (intro W_ hS_; (try dsimp only at hS_); go_simp; (try (with_reducible rfl)))
    try simp only [Act.put, List.setIfInBounds_toArray, List.set_cons_zero, List.set_cons_succ]
    refine wpAnyH_take' (i := 13) (v := ?v13_t4) 29 rfl rfl (by kernel_rfl) (by kernel_rfl) (by kernel_rfl) (fun _ _ _ h => h) (Or.inl ⟨by kernel_rfl, ?hy13_t4⟩) (by assumption) ?rest13_t4
    case hy13_t4 => (intro W_ hS_; (try dsimp only at hS_); go_simp; (try (with_reducible rfl)))
    try simp only [Act.put, List.setIfInBounds_toArray, List.set_cons_zero, List.set_cons_succ]
    refine wpAnyH_ready (rs := [14]) (by kernel_rfl) (by simp) ?_
    refine AllReadyH.cons rfl (fun K_ hK_ => ?_) AllReadyH.nil
    go_simp
    refine (meets_q a b _ true (covers_meets HA.out HB.out Hp.out)).mono ?_; rintro e wr14 ⟨rfl, hBr14⟩
    go_wp2_with fail
    refine hK_.out _ _ (by exact ⟨HasL.cl (f := ⟨a.x, a.k, a.m⟩) (block_below hBr14 (block_below hBr6 (block_below hBr2 (block_below (below_drew1 _) ha2)))), HasL.cl (f := ⟨b.x, b.k, b.m⟩) (block_below hBr14 (block_below hBr6 (block_below hBr2 (block_below (below_drew1 _) hb2))))⟩) (fun hHeld_14 => ?_)
    clear hK_
    try simp only [Act.put, List.setIfInBounds_toArray, List.set_cons_zero, List.set_cons_succ]
    refine wpAnyH_take' (i := 15) (v := ?v15_t4) 31 rfl rfl (by kernel_rfl) (by kernel_rfl) (by kernel_rfl) (fun _ _ _ h => h) (Or.inl ⟨by kernel_rfl, ?hy15_t4⟩) (by assumption) ?rest15_t4
    case hy15_t4 => (intro W_ hS_; (try dsimp only at hS_); go_simp; (try (with_reducible rfl)))
    try simp only [Act.put, List.setIfInBounds_toArray, List.set_cons_zero, List.set_cons_succ]
    refine wpAnyH_take' (i := 16) (v := ?v16_t4) 32 rfl rfl (by kernel_rfl) (by kernel_rfl) (by kernel_rfl) (fun _ _ _ h => h) (Or.inl ⟨by kernel_rfl, ?hy16_t4⟩) (by assumption) ?rest16_t4
    case hy16_t4 => (intro W_ hS_; (try dsimp only at hS_); go_simp; (try (with_reducible rfl)))
    try simp only [Act.put, List.setIfInBounds_toArray, List.set_cons_zero, List.set_cons_succ]
    refine wpAnyH_take' (i := 17) (v := ?v17_t4) 33 rfl rfl (by kernel_rfl) (by kernel_rfl) (by kernel_rfl) (fun _ _ _ h => h) (Or.inl ⟨by kernel_rfl, ?hy17_t4⟩) (by assumption) ?rest17_t4
    case hy17_t4 => (intro W_ hS_; (try dsimp only at hS_); go_simp; (try (with_reducible rfl)))
    try simp only [Act.put, List.setIfInBounds_toArray, List.set_cons_zero, List.set_cons_succ]
    refine wpAnyH_done (by kernel_rfl) ?_ _
    clear hs
    obtain ⟨w3, hw3⟩ : ∃ w3, wr14 = w3 := ⟨_, rfl⟩
    have hB3 : Below w2.heap.size w2 w3 := by rw [← hw3]; exact (below_then (below_then (below_then (below_drew1 _) hBr2) hBr6) hBr14)
    rw [hw3]
    clear hw3
    have hT3 := below_then hT2 hB3
    have ha3 := block_below hB3 ha2
    have hb3 := block_below hB3 hb2
    have hc3 := block_below hB3 hc2
    clear hT2 ha2 hb2 hc2  hB3
    obtain ⟨ac0, ac1, ac2⟩ := cells3' ha3
    obtain ⟨bc0, bc1, bc2⟩ := cells3' hb3
    obtain ⟨cc0, cc1, cc2⟩ := cells3' hc3
    go_wp2_with fail
    clear ac0 ac1 ac2 bc0 bc1 bc2 cc0 cc1 cc2
    refine (covers_q a a w3 true (covers_self HA.out)).mono ?_
    rintro e w4 ⟨rfl, hB4⟩
    have hT4 := below_then hT3 hB4
    have ha4 := block_below hB4 ha3
    have hb4 := block_below hB4 hb3
    have hc4 := block_below hB4 hc3
    clear hT3 ha3 hb3 hc3  hB4
    obtain ⟨ac0, ac1, ac2⟩ := cells3' ha4
    obtain ⟨bc0, bc1, bc2⟩ := cells3' hb4
    obtain ⟨cc0, cc1, cc2⟩ := cells3' hc4
    go_wp2_with fail
    clear ac0 ac1 ac2 bc0 bc1 bc2 cc0 cc1 cc2
    refine (covers_q a b w4 true Hp.out).mono ?_
    rintro e w5 ⟨rfl, hB5⟩
    have hT5 := below_then hT4 hB5
    have ha5 := block_below hB5 ha4
    have hb5 := block_below hB5 hb4
    have hc5 := block_below hB5 hc4
    clear hT4 ha4 hb4 hc4  hB5
    obtain ⟨ac0, ac1, ac2⟩ := cells3' ha5
    obtain ⟨bc0, bc1, bc2⟩ := cells3' hb5
    obtain ⟨cc0, cc1, cc2⟩ := cells3' hc5
    go_wp2_with fail
    clear ac0 ac1 ac2 bc0 bc1 bc2 cc0 cc1 cc2
    obtain ⟨s, hs⟩ : ∃ q, coversV b c = q := ⟨_, rfl⟩
    have Hs := Lib.hid hs
    clear hs
    cases s
    · skip
      refine (covers_q b c w5 false Hs.out).mono ?_
      rintro e w6 ⟨rfl, hB6⟩
      have hT6 := below_then hT5 hB6
      have ha6 := block_below hB6 ha5
      have hb6 := block_below hB6 hb5
      have hc6 := block_below hB6 hc5
      clear hT5 ha5 hb5 hc5  hB6
      obtain ⟨ac0, ac1, ac2⟩ := cells3' ha6
      obtain ⟨bc0, bc1, bc2⟩ := cells3' hb6
      obtain ⟨cc0, cc1, cc2⟩ := cells3' hc6
      go_wp2_with fail
      go_ret
      exact ⟨rfl, hT6⟩
    · skip
      refine (covers_q b c w5 true Hs.out).mono ?_
      rintro e w6 ⟨rfl, hB6⟩
      have hT6 := below_then hT5 hB6
      have ha6 := block_below hB6 ha5
      have hb6 := block_below hB6 hb5
      have hc6 := block_below hB6 hc5
      clear hT5 ha5 hb5 hc5  hB6
      obtain ⟨ac0, ac1, ac2⟩ := cells3' ha6
      obtain ⟨bc0, bc1, bc2⟩ := cells3' hb6
      obtain ⟨cc0, cc1, cc2⟩ := cells3' hc6
      go_wp2_with fail
      clear ac0 ac1 ac2 bc0 bc1 bc2 cc0 cc1 cc2
      refine (covers_q a c w6 true (covers_trans HA.out HB.out HC.out Hp.out Hs.out)).mono ?_
      rintro e w7 ⟨rfl, hB7⟩
      have hT7 := below_then hT6 hB7
      have ha7 := block_below hB7 ha6
      have hb7 := block_below hB7 hb6
      have hc7 := block_below hB7 hc6
      clear hT6 ha6 hb6 hc6  hB7
      obtain ⟨ac0, ac1, ac2⟩ := cells3' ha7
      obtain ⟨bc0, bc1, bc2⟩ := cells3' hb7
      obtain ⟨cc0, cc1, cc2⟩ := cells3' hc7
      go_wp2_with fail
      go_ret
      exact ⟨rfl, hT7⟩

end Go.Proofs.Ytmffflckcpgjiaa
