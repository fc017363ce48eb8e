/-
  TopLine.
-/
import Derived.Test.YtajabpjphobabaaTLineM
namespace Go.Proofs.Ytajabpjphobabaa
open Go.RowKit
set_option linter.unusedVariables false
set_option linter.unusedSimpArgs false

set_option maxRecDepth 100000 in
set_option maxHeartbeats 2000000 in
theorem topLine_0 (x : Bool) (i : Int) (r : Bool) (n : Int) (dl : List Int) (m : Nat) (hdl : dl.length = m) (A : Option Addr) (c : Nat) (x' : Bool) (i' : Int) (r' : Bool) (n' : Int) (dl' : List Int) (m' : Nat) (hdl' : dl'.length = m') (A' : Option Addr) (c' : Nat) (w : World)
    (hd : Row .u8 w w.heap.size A dl) (hb : byteB dl) (he : Row .u8 w w.heap.size A' dl') (hb' : byteB dl') (hb1 : ¬ 8 < m) (hb2 : ¬ 8 < m') (hq : rightV x i r n m = true) (hp : rightV x' i' r' n' m' = true) (hs : sameB (rankF (⟨x, i, r, n, A, m, c⟩ : FV)) (rankF (⟨x', i', r', n', A', m', c'⟩ : FV)) = false) (hle : lessR (rankF (⟨x, i, r, n, A, m, c⟩ : FV)) (rankF (⟨x', i', r', n', A', m', c'⟩ : FV))) :
    Calls Try.prog 4 #[.agg #[.bool x, .int .i64 i, .bool r, .int .i64 n, .slice A m c], .agg #[.bool x', .int .i64 i', .bool r', .int .i64 n', .slice A' m' c']] w fun e w' => e = .returned (.bool true) ∧ Below w.heap.size w w' := by
  have HD := Lib.hid hdl
  have HB := Lib.hid hb
  have HD' := Lib.hid hdl'
  have HB' := Lib.hid hb'
  clear hdl hb hdl' hb'
  have Hq := Lib.hid hq
  clear hq
  have Hp := Lib.hid hp
  clear hp
  have Hs := Lib.hid hs
  clear hs
  have Hle := Lib.hid hle
  clear hle
  go_enter Try.func4, Try.ntmps4
  go_wp2_with fail
  obtain ⟨w0, hw0⟩ : ∃ w0, (w.alloc (.cells #[.bool x, .int .i64 i, .bool r, .int .i64 n, .slice A m c] 24)).alloc (.cells #[.bool x', .int .i64 i', .bool r', .int .i64 n', .slice A' m' c'] 24) = w0 := ⟨_, rfl⟩
  have hT0 : Below w.heap.size w w0 := by rw [← hw0]; exact below_then (below_alloc1 _ _) (below_alloc1 _ _)
  have hf0 : w0.heap[w.heap.size]? = some (.cells #[.bool x, .int .i64 i, .bool r, .int .i64 n, .slice A m c] 24) := by rw [← hw0]; exact block_below (below_alloc1 _ _) (World.alloc_heap_new _ _)
  have hg0 : w0.heap[w.heap.size + 1]? = some (.cells #[.bool x', .int .i64 i', .bool r', .int .i64 n', .slice A' m' c'] 24) := by rw [← hw0]; have := World.alloc_heap_new (w.alloc (.cells #[.bool x, .int .i64 i, .bool r, .int .i64 n, .slice A m c] 24)) (.cells #[.bool x', .int .i64 i', .bool r', .int .i64 n', .slice A' m' c'] 24); simpa using this
  have hd0 := Row.to hd hT0
  have he0 := Row.to he hT0
  rw [hw0]
  clear hw0 hd he
  refine (head06_any w0).mono ?_
  rintro e w1 ⟨rfl, hB1⟩
  have hT1 := below_then hT0 hB1
  have hf1 := block_below hB1 hf0
  have hg1 := block_below hB1 hg0
  have hd1 := Row.to hd0 hB1
  have he1 := Row.to he0 hB1
  clear hT0 hf0 hg0 hd0 he0 hB1
  obtain ⟨fc0, fc1, fc2, fc3, fc4⟩ := cells5' hf1
  obtain ⟨gc0, gc1, gc2, gc3, gc4⟩ := cells5' hg1
  go_wp2_with fail
  clear fc0 fc1 fc2 fc3 fc4 gc0 gc1 gc2 gc3 gc4
  have k1 : decide ((8 : Int) < (m : Int)) = false := by simp; omega
  have k2 : decide (8 < m) = false := by simp; omega
  have k3 : decide ((8 : Int) < (m' : Int)) = false := by simp; omega
  have k4 : decide (8 < m') = false := by simp; omega
  obtain ⟨ID, L, rfl, rfl, hID, hL, -⟩ := right_ok Hq.out
  obtain ⟨ID', L', rfl, rfl, hID', hL', -⟩ := right_ok Hp.out
  have hok1 : FOk (⟨x, (ID : Int), r, (L : Int), A, m, c⟩ : FV) := ⟨ID, rfl, hID⟩
  have hok2 : FOk (⟨x', (ID' : Int), r', (L' : Int), A', m', c'⟩ : FV) := ⟨ID', rfl, hID'⟩
  obtain ⟨q1, hq1⟩ : ∃ q1, (rankF (⟨x, (ID : Int), r, (L : Int), A, m, c⟩ : FV)).length = q1 := ⟨_, rfl⟩
  obtain ⟨q2, hq2⟩ : ∃ q2, (rankF (⟨x', (ID' : Int), r', (L' : Int), A', m', c'⟩ : FV)).length = q2 := ⟨_, rfl⟩
  have hq1l : q1 ≤ 32 := by rw [← hq1]; exact rankF_le _
  have hq2l : q2 ≤ 32 := by rw [← hq2]; exact rankF_le _
  have Hq1 := Lib.hid hq1
  have Hq2 := Lib.hid hq2
  clear hq1 hq2
  refine wp_region_held_drew (S := fun W => (W.cell? ⟨w.heap.size, 0, none⟩ = some (.bool x) ∧ W.cell? ⟨w.heap.size, 1, none⟩ = some (.int .i64 ID) ∧ W.cell? ⟨w.heap.size, 2, none⟩ = some (.bool r) ∧ W.cell? ⟨w.heap.size, 3, none⟩ = some (.int .i64 L) ∧ W.cell? ⟨w.heap.size, 4, none⟩ = some (.slice A m c)) ∧ (W.cell? ⟨(w.heap.size + 1), 0, none⟩ = some (.bool x') ∧ W.cell? ⟨(w.heap.size + 1), 1, none⟩ = some (.int .i64 ID') ∧ W.cell? ⟨(w.heap.size + 1), 2, none⟩ = some (.bool r') ∧ W.cell? ⟨(w.heap.size + 1), 3, none⟩ = some (.int .i64 L') ∧ W.cell? ⟨(w.heap.size + 1), 4, none⟩ = some (.slice A' m' c'))) (by kernel_rfl) (by exact ⟨cells5' (block_below (below_drew1 _) hf1), cells5' (block_below (below_drew1 _) hg1)⟩) (fun hHeld_ => ?_)
  refine wpAnyH_take' (i := 0) (v := ?v0_t6) 17 rfl rfl (by kernel_rfl) (by kernel_rfl) (by kernel_rfl) (fun _ _ _ h => h) (Or.inl ⟨by kernel_rfl, ?hy0_t6⟩) (by assumption) ?rest0_t6
  case hy0_t6 => (intro W_ hS_; (try dsimp only at hS_); go_simp; (try (with_reducible rfl)))
  try simp only [Act.put, List.setIfInBounds_toArray, List.set_cons_zero, List.set_cons_succ]
  refine wpAnyH_take' (i := 1) (v := ?v1_t6) 18 rfl rfl (by kernel_rfl) (by kernel_rfl) (by kernel_rfl) (fun _ _ _ h => h) (Or.inl ⟨by kernel_rfl, ?hy1_t6⟩) (by assumption) ?rest1_t6
  case hy1_t6 => (intro W_ hS_; (try dsimp only at hS_); go_simp; (try (with_reducible rfl)))
  try simp only [Act.put, List.setIfInBounds_toArray, List.set_cons_zero, List.set_cons_succ]
  refine wpAnyH_take' (i := 2) (v := ?v2_t6) 19 rfl rfl (by kernel_rfl) (by kernel_rfl) (by kernel_rfl) (fun _ _ _ h => h) (Or.inl ⟨by kernel_rfl, ?hy2_t6⟩) (by assumption) ?rest2_t6
  case hy2_t6 => (intro W_ hS_; (try dsimp only at hS_); go_simp; (try (with_reducible rfl)))
  try simp only [Act.put, List.setIfInBounds_toArray, List.set_cons_zero, List.set_cons_succ]
  refine wpAnyH_take' (i := 3) (v := ?v3_t6) 20 rfl rfl (by kernel_rfl) (by kernel_rfl) (by kernel_rfl) (fun _ _ _ h => h) (Or.inl ⟨by kernel_rfl, ?hy3_t6⟩) (by assumption) ?rest3_t6
  case hy3_t6 => (intro W_ hS_; (try dsimp only at hS_); go_simp; (try (with_reducible rfl)))
  try simp only [Act.put, List.setIfInBounds_toArray, List.set_cons_zero, List.set_cons_succ]
  refine wpAnyH_take' (i := 4) (v := ?v4_t6) 21 rfl rfl (by kernel_rfl) (by kernel_rfl) (by kernel_rfl) (fun _ _ _ h => h) (Or.inl ⟨by kernel_rfl, ?hy4_t6⟩) (by assumption) ?rest4_t6
  case hy4_t6 => (intro W_ hS_; (try dsimp only at hS_); go_simp; (try (with_reducible rfl)))
  try simp only [Act.put, List.setIfInBounds_toArray, List.set_cons_zero, List.set_cons_succ]
  refine wpAnyH_take' (i := 5) (v := ?v5_t6) 22 rfl rfl (by kernel_rfl) (by kernel_rfl) (by kernel_rfl) (fun _ _ _ h => h) (Or.inl ⟨by kernel_rfl, ?hy5_t6⟩) (by assumption) ?rest5_t6
  case hy5_t6 => (intro W_ hS_; (try dsimp only at hS_); go_simp; (try (with_reducible rfl)))
  try simp only [Act.put, List.setIfInBounds_toArray, List.set_cons_zero, List.set_cons_succ]
  refine wpAnyH_take' (i := 6) (v := ?v6_t6) 23 rfl rfl (by kernel_rfl) (by kernel_rfl) (by kernel_rfl) (fun _ _ _ h => h) (Or.inl ⟨by kernel_rfl, ?hy6_t6⟩) (by assumption) ?rest6_t6
  case hy6_t6 => (intro W_ hS_; (try dsimp only at hS_); go_simp; (try (with_reducible rfl)))
  try simp only [Act.put, List.setIfInBounds_toArray, List.set_cons_zero, List.set_cons_succ]
  refine wpAnyH_take' (i := 7) (v := ?v7_t6) 24 rfl rfl (by kernel_rfl) (by kernel_rfl) (by kernel_rfl) (fun _ _ _ h => h) (Or.inl ⟨by kernel_rfl, ?hy7_t6⟩) (by assumption) ?rest7_t6
  case hy7_t6 => (intro W_ hS_; (try dsimp only at hS_); go_simp; (try (with_reducible rfl)))
  try simp only [Act.put, List.setIfInBounds_toArray, List.set_cons_zero, List.set_cons_succ]
  refine wpAnyH_take' (i := 8) (v := ?v8_t6) 25 rfl rfl (by kernel_rfl) (by kernel_rfl) (by kernel_rfl) (fun _ _ _ h => h) (Or.inl ⟨by kernel_rfl, ?hy8_t6⟩) (by assumption) ?rest8_t6
  case hy8_t6 => (intro W_ hS_; (try dsimp only at hS_); go_simp; (try (with_reducible rfl)))
  try simp only [Act.put, List.setIfInBounds_toArray, List.set_cons_zero, List.set_cons_succ]
  refine wpAnyH_take' (i := 9) (v := ?v9_t6) 26 rfl rfl (by kernel_rfl) (by kernel_rfl) (by kernel_rfl) (fun _ _ _ h => h) (Or.inl ⟨by kernel_rfl, ?hy9_t6⟩) (by assumption) ?rest9_t6
  case hy9_t6 => (intro W_ hS_; (try dsimp only at hS_); go_simp; (try (with_reducible rfl)))
  try simp only [Act.put, List.setIfInBounds_toArray, List.set_cons_zero, List.set_cons_succ]
  refine wpAnyH_take' (i := 10) (v := ?v10_t6) 27 rfl rfl (by kernel_rfl) (by kernel_rfl) (by kernel_rfl) (fun _ _ _ h => h) (Or.inl ⟨by kernel_rfl, ?hy10_t6⟩) (by assumption) ?rest10_t6
  case hy10_t6 => (intro W_ hS_; (try dsimp only at hS_); go_simp; (try (with_reducible rfl)))
  try simp only [Act.put, List.setIfInBounds_toArray, List.set_cons_zero, List.set_cons_succ]
  refine wpAnyH_take' (i := 11) (v := ?v11_t6) 28 rfl rfl (by kernel_rfl) (by kernel_rfl) (by kernel_rfl) (fun _ _ _ h => h) (Or.inl ⟨by kernel_rfl, ?hy11_t6⟩) (by assumption) ?rest11_t6
  case hy11_t6 => (intro W_ hS_; (try dsimp only at hS_); go_simp; (try (with_reducible rfl)))
  try simp only [Act.put, List.setIfInBounds_toArray, List.set_cons_zero, List.set_cons_succ]
  refine wpAnyH_ready (rs := [12]) (by kernel_rfl) (by simp) ?_
  refine AllReadyH.cons rfl (fun K_ hK_ => ?_) AllReadyH.nil
  go_simp
  refine (refFrRight_q x (ID : Int) r (L : Int) A m c _ true Hq.out).mono ?_; rintro e wr12 ⟨rfl, hBr12⟩
  go_wp2_with fail
  refine hK_.out _ _ (by exact ⟨cells5' (block_below hBr12 (block_below (below_drew1 _) hf1)), cells5' (block_below hBr12 (block_below (below_drew1 _) hg1))⟩) (fun hHeld_12 => ?_)
  clear hK_
  try simp only [Act.put, List.setIfInBounds_toArray, List.set_cons_zero, List.set_cons_succ]
  refine wpAnyH_take' (i := 13) (v := ?v13_t6) 30 rfl rfl (by kernel_rfl) (by kernel_rfl) (by kernel_rfl) (fun _ _ _ h => h) (Or.inl ⟨by kernel_rfl, ?hy13_t6⟩) (by assumption) ?rest13_t6
  case hy13_t6 => (intro W_ hS_; (try dsimp only at hS_); go_simp; (try (with_reducible rfl)))
  try simp only [Act.put, List.setIfInBounds_toArray, List.set_cons_zero, List.set_cons_succ]
  refine wpAnyH_take' (i := 14) (v := ?v14_t6) 31 rfl rfl (by kernel_rfl) (by kernel_rfl) (by kernel_rfl) (fun _ _ _ h => h) (Or.inl ⟨by kernel_rfl, ?hy14_t6⟩) (by assumption) ?rest14_t6
  case hy14_t6 => (intro W_ hS_; (try dsimp only at hS_); go_simp; (try (with_reducible rfl)))
  try simp only [Act.put, List.setIfInBounds_toArray, List.set_cons_zero, List.set_cons_succ]
  refine wpAnyH_take' (i := 15) (v := ?v15_t6) 32 rfl rfl (by kernel_rfl) (by kernel_rfl) (by kernel_rfl) (fun _ _ _ h => h) (Or.inl ⟨by kernel_rfl, ?hy15_t6⟩) (by assumption) ?rest15_t6
  case hy15_t6 => (intro W_ hS_; (try dsimp only at hS_); go_simp; (try (with_reducible rfl)))
  try simp only [Act.put, List.setIfInBounds_toArray, List.set_cons_zero, List.set_cons_succ]
  refine wpAnyH_take' (i := 16) (v := ?v16_t6) 33 rfl rfl (by kernel_rfl) (by kernel_rfl) (by kernel_rfl) (fun _ _ _ h => h) (Or.inl ⟨by kernel_rfl, ?hy16_t6⟩) (by assumption) ?rest16_t6
  case hy16_t6 => (intro W_ hS_; (try dsimp only at hS_); go_simp; (try (with_reducible rfl)))
  try simp only [Act.put, List.setIfInBounds_toArray, List.set_cons_zero, List.set_cons_succ]
  refine wpAnyH_ready (rs := [17]) (by kernel_rfl) (by simp) ?_
  refine AllReadyH.cons rfl (fun K_ hK_ => ?_) AllReadyH.nil
  go_simp
  refine (refFrRight_q x' (ID' : Int) r' (L' : Int) A' m' c' _ true Hp.out).mono ?_; rintro e wr17 ⟨rfl, hBr17⟩
  go_wp2_with fail
  refine hK_.out _ _ (by exact ⟨cells5' (block_below hBr17 (block_below hBr12 (block_below (below_drew1 _) hf1))), cells5' (block_below hBr17 (block_below hBr12 (block_below (below_drew1 _) hg1)))⟩) (fun hHeld_17 => ?_)
  clear hK_
  try simp only [Act.put, List.setIfInBounds_toArray, List.set_cons_zero, List.set_cons_succ]
  refine wpAnyH_take' (i := 18) (v := ?v18_t6) 35 rfl rfl (by kernel_rfl) (by kernel_rfl) (by kernel_rfl) (fun _ _ _ h => h) (Or.inl ⟨by kernel_rfl, ?hy18_t6⟩) (by assumption) ?rest18_t6
  case hy18_t6 => (intro W_ hS_; (try dsimp only at hS_); go_simp; (try (with_reducible rfl)))
  try simp only [Act.put, List.setIfInBounds_toArray, List.set_cons_zero, List.set_cons_succ]
  refine wpAnyH_take' (i := 19) (v := ?v19_t6) 36 rfl rfl (by kernel_rfl) (by kernel_rfl) (by kernel_rfl) (fun _ _ _ h => h) (Or.inl ⟨by kernel_rfl, ?hy19_t6⟩) (by assumption) ?rest19_t6
  case hy19_t6 => (intro W_ hS_; (try dsimp only at hS_); go_simp; (try (with_reducible rfl)))
  try simp only [Act.put, List.setIfInBounds_toArray, List.set_cons_zero, List.set_cons_succ]
  refine wpAnyH_take' (i := 20) (v := ?v20_t6) 37 rfl rfl (by kernel_rfl) (by kernel_rfl) (by kernel_rfl) (fun _ _ _ h => h) (Or.inl ⟨by kernel_rfl, ?hy20_t6⟩) (by assumption) ?rest20_t6
  case hy20_t6 => (intro W_ hS_; (try dsimp only at hS_); go_simp; (try (with_reducible rfl)))
  try simp only [Act.put, List.setIfInBounds_toArray, List.set_cons_zero, List.set_cons_succ]
  refine wpAnyH_take' (i := 21) (v := ?v21_t6) 38 rfl rfl (by kernel_rfl) (by kernel_rfl) (by kernel_rfl) (fun _ _ _ h => h) (Or.inl ⟨by kernel_rfl, ?hy21_t6⟩) (by assumption) ?rest21_t6
  case hy21_t6 => (intro W_ hS_; (try dsimp only at hS_); go_simp; (try (with_reducible rfl)))
  try simp only [Act.put, List.setIfInBounds_toArray, List.set_cons_zero, List.set_cons_succ]
  refine wpAnyH_take' (i := 23) (v := ?v23_t6) 40 rfl rfl (by kernel_rfl) (by kernel_rfl) (by kernel_rfl) (fun _ _ _ h => h) (Or.inl ⟨by kernel_rfl, ?hy23_t6⟩) (by assumption) ?rest23_t6
  case hy23_t6 => (intro W_ hS_; (try dsimp only at hS_); go_simp; (try (with_reducible rfl)))
  try simp only [Act.put, List.setIfInBounds_toArray, List.set_cons_zero, List.set_cons_succ]
  refine wpAnyH_ready (rs := [22]) (by kernel_rfl) (by simp) ?_
  refine AllReadyH.cons rfl (fun K_ hK_ => ?_) AllReadyH.nil
  go_simp
  refine (refRankF_at ⟨x, (ID : Int), r, (L : Int), A, m, c⟩ hok1 q1 Hq1.out _).mono ?_; rintro e wr22 ⟨Ar1, cr1, rfl, hr1_, hcr1, hBr22⟩
  go_wp2_with fail
  refine hK_.out _ _ (by exact ⟨cells5' (block_below hBr22 (block_below hBr17 (block_below hBr12 (block_below (below_drew1 _) hf1)))), cells5' (block_below hBr22 (block_below hBr17 (block_below hBr12 (block_below (below_drew1 _) hg1))))⟩) (fun hHeld_22 => ?_)
  clear hK_
  try simp only [Act.put, List.setIfInBounds_toArray, List.set_cons_zero, List.set_cons_succ]
  refine wpAnyH_ready (rs := [24]) (by kernel_rfl) (by simp) ?_
  refine AllReadyH.cons rfl (fun K_ hK_ => ?_) AllReadyH.nil
  go_simp
  refine (refRankF_at ⟨x', (ID' : Int), r', (L' : Int), A', m', c'⟩ hok2 q2 Hq2.out _).mono ?_; rintro e wr24 ⟨Ar2, cr2, rfl, hr2_, hcr2, hBr24⟩
  go_wp2_with fail
  refine hK_.out _ _ (by exact ⟨cells5' (block_below hBr24 (block_below hBr22 (block_below hBr17 (block_below hBr12 (block_below (below_drew1 _) hf1))))), cells5' (block_below hBr24 (block_below hBr22 (block_below hBr17 (block_below hBr12 (block_below (below_drew1 _) hg1)))))⟩) (fun hHeld_24 => ?_)
  clear hK_
  try simp only [Act.put, List.setIfInBounds_toArray, List.set_cons_zero, List.set_cons_succ]
  refine wpAnyH_ready (rs := [25]) (by kernel_rfl) (by simp) ?_
  refine AllReadyH.cons rfl (fun K_ hK_ => ?_) AllReadyH.nil
  go_simp
  refine (same_q (rankF (⟨x, (ID : Int), r, (L : Int), A, m, c⟩ : FV)) (rankF (⟨x', (ID' : Int), r', (L' : Int), A', m', c'⟩ : FV)) q1 q2 Hq1.out Hq2.out _ _ _ _ _ (Row.to hr1_ hBr24) hr2_ (by unfold maxLen; omega) false Hs.out).mono ?_; rintro e wr25 ⟨rfl, hBr25⟩
  go_wp2_with fail
  refine hK_.out _ _ (by exact ⟨cells5' (block_below hBr25 (block_below hBr24 (block_below hBr22 (block_below hBr17 (block_below hBr12 (block_below (below_drew1 _) hf1)))))), cells5' (block_below hBr25 (block_below hBr24 (block_below hBr22 (block_below hBr17 (block_below hBr12 (block_below (below_drew1 _) hg1))))))⟩) (fun hHeld_25 => ?_)
  clear hK_
  try simp only [Act.put, List.setIfInBounds_toArray, List.set_cons_zero, List.set_cons_succ]
  refine wpAnyH_take' (i := 26) (v := ?v26_t6) 43 rfl rfl (by kernel_rfl) (by kernel_rfl) (by kernel_rfl) (fun _ _ _ h => h) (Or.inl ⟨by kernel_rfl, ?hy26_t6⟩) (by assumption) ?rest26_t6
  case hy26_t6 => (intro W_ hS_; (try dsimp only at hS_); go_simp; (try (with_reducible rfl)))
  try simp only [Act.put, List.setIfInBounds_toArray, List.set_cons_zero, List.set_cons_succ]
  refine wpAnyH_done (by kernel_rfl) ?_ _
  obtain ⟨w2, hw2⟩ : ∃ w2, wr25 = w2 := ⟨_, rfl⟩
  have hB2 : Below w1.heap.size w1 w2 := by rw [← hw2]; exact (below_then (below_then (below_then (below_then (below_then (below_drew1 _) hBr12) hBr17) hBr22) hBr24) hBr25)
  rw [hw2]
  clear hw2
  have hT2 := below_then hT1 hB2
  have hf2 := block_below hB2 hf1
  have hg2 := block_below hB2 hg1
  have hd2 := Row.to hd1 hB2
  have he2 := Row.to he1 hB2
  clear hT1 hf1 hg1 hd1 he1 hB2
  have hle := Hle.out
  clear Hle
  obtain ⟨fc0, fc1, fc2, fc3, fc4⟩ := cells5' hf2
  obtain ⟨gc0, gc1, gc2, gc3, gc4⟩ := cells5' hg2
  go_wp2_with fail
  clear fc0 fc1 fc2 fc3 fc4 gc0 gc1 gc2 gc3 gc4
  obtain ⟨w3, hw3⟩ : ∃ w3, w2.alloc (.cells #[.bool x, .int .i64 ID, .bool r, .int .i64 L, .slice A m c, .bool x', .int .i64 ID', .bool r', .int .i64 L', .slice A' m' c'] 24) = w3 := ⟨_, rfl⟩
  have hB3 : Below w2.heap.size w2 w3 := by rw [← hw3]; exact below_alloc1 _ _
  have hb3 : FRow w3 w3.heap.size (some ⟨w2.heap.size, 0, none⟩) [(⟨x, (ID : Int), r, (L : Int), A, m, c⟩ : FV), (⟨x', (ID' : Int), r', (L' : Int), A', m', c'⟩ : FV)] := by rw [← hw3]; exact FRow.lit w2 [(⟨x, (ID : Int), r, (L : Int), A, m, c⟩ : FV), (⟨x', (ID' : Int), r', (L' : Int), A', m', c'⟩ : FV)] rfl rfl
  have ht3 : w3.heap[w2.heap.size]? = some (.cells #[.bool x, .int .i64 ID, .bool r, .int .i64 L, .slice A m c, .bool x', .int .i64 ID', .bool r', .int .i64 L', .slice A' m' c'] 24) := by rw [← hw3]; exact World.alloc_heap_new _ _
  rw [hw3]
  clear hw3
  have hT3 := below_then hT2 hB3
  have hf3 := block_below hB3 hf2
  have hg3 := block_below hB3 hg2
  have hd3 := Row.to hd2 hB3
  have he3 := Row.to he2 hB3
  clear hT2 hf2 hg2 hd2 he2 hB3
  obtain ⟨G, hG⟩ : ∃ G, w2.heap.size = G := ⟨_, rfl⟩
  rw [hG] at hb3 ht3 ⊢
  clear hG
  clear hf3 hg3
  have HW := Lib.hid (show LeastE (rankF (⟨x, (ID : Int), r, (L : Int), A, m, c⟩ : FV)) (ranks [(⟨x, (ID : Int), r, (L : Int), A, m, c⟩ : FV), (⟨x', (ID' : Int), r', (L' : Int), A', m', c'⟩ : FV)]) ∧ winOf (rankF (⟨x, (ID : Int), r, (L : Int), A, m, c⟩ : FV)) (ranks [(⟨x, (ID : Int), r, (L : Int), A, m, c⟩ : FV), (⟨x', (ID' : Int), r', (L' : Int), A', m', c'⟩ : FV)]) = 0 from ⟨(win_two hle).1, (win_two hle).2.1⟩)
  obtain ⟨p, hp⟩ := hle
  have HL := Lib.hid (show (ranks [(⟨x, (ID : Int), r, (L : Int), A, m, c⟩ : FV), (⟨x', (ID' : Int), r', (L' : Int), A', m', c'⟩ : FV)]).map (lostOf (rankF (⟨x, (ID : Int), r, (L : Int), A, m, c⟩ : FV))) = [-1, (p : Int)] from by simp only [ranks, List.map_cons, List.map_nil, lostOf_self, lostOf_at hp])
  have hpl := lessAt_lt hp
  have hpW : p < q1 := by rw [← Hq1.out]; exact hpl.1
  have hpL : p < q2 := by rw [← Hq2.out]; exact hpl.2
  have HPa := Lib.hid (And.intro hp.2.1 hp.2.2)
  obtain ⟨S1, hS1⟩ : ∃ S1, sentV (headV x ID r L dl) = S1 := ⟨_, rfl⟩
  obtain ⟨S2, hS2⟩ : ∃ S2, sentV (headV x' ID' r' L' dl') = S2 := ⟨_, rfl⟩
  obtain ⟨a, t1, t2, hpa, e1, e2⟩ := line_math (x := x) (ID := ID) (r := r) (L := L) (dl := dl) (x' := x') (ID' := ID') (r' := r') (L' := L') (dl' := dl') (p := p) hp
  rw [hS1] at e1
  rw [hS2] at e2
  obtain ⟨l1, l2, l3, l4, l5⟩ := line_rows e1 e2
  obtain ⟨D, hD⟩ : ∃ D, a.length = D := ⟨_, rfl⟩
  rw [hD] at l1 l2 l3 l4 l5 hpa
  obtain ⟨N1, hN1⟩ : ∃ N1, S1.length = N1 := ⟨_, rfl⟩
  obtain ⟨N2, hN2⟩ : ∃ N2, S2.length = N2 := ⟨_, rfl⟩
  rw [hN1] at l1
  rw [hN2] at l2
  have hN1m : N1 ≤ 100000 := by rw [← hN1, ← hS1]; exact sentLine_most _ _ _ _ _ HD.out hb1
  have S1r : rightB S1 = true := by rw [← hS1]; exact sentLine_right _ _ _ _ _
  have HS1 := Lib.hid hS1
  have HS2 := Lib.hid hS2
  have HN1 := Lib.hid hN1
  have HN2 := Lib.hid hN2
  have Hl := Lib.hid (And.intro l3 (And.intro l4 l5))
  have HS1r := Lib.hid S1r
  clear hS1 hS2 hN1 hN2 l3 l4 l5 e1 e2 hD hp hpl S1r
  refine (win_any [(⟨x, (ID : Int), r, (L : Int), A, m, c⟩ : FV), (⟨x', (ID' : Int), r', (L' : Int), A', m', c'⟩ : FV)] 2 rfl _ 2 w3 hb3 (by intro f hf; simp only [List.mem_cons, List.not_mem_nil, or_false] at hf; rcases hf with rfl | rfl; exact hok1; exact hok2) (by omega) _ HW.out.1 q1 Hq1.out hq1l 0 HW.out.2).mono ?_
  rintro e w4 ⟨rfl, hB4⟩
  have hT4 := below_then hT3 hB4
  have ht4 := block_below hB4 ht3
  have hd4 := Row.to hd3 hB4
  have he4 := Row.to he3 hB4
  have hb4 := FRow.to hb3 hB4
  clear hT3 ht3 hd3 he3 hb3 hB4
  go_wp2_with fail
  refine (lost_any [(⟨x, (ID : Int), r, (L : Int), A, m, c⟩ : FV), (⟨x', (ID' : Int), r', (L' : Int), A', m', c'⟩ : FV)] 2 rfl _ 2 w4 hb4 (by intro f hf; simp only [List.mem_cons, List.not_mem_nil, or_false] at hf; rcases hf with rfl | rfl; exact hok1; exact hok2) (by omega) _ HW.out.1 q1 Hq1.out hq1l).mono ?_
  rintro e w5 ⟨Ao, rfl, ho_, hB5⟩
  have hT5 := below_then hT4 hB5
  have ht5 := block_below hB5 ht4
  have hd5 := Row.to hd4 hB5
  have he5 := Row.to he4 hB5
  have hb5 := FRow.to hb4 hB5
  clear hT4 ht4 hd4 he4 hb4 hB5
  have ho5 := ho_
  clear ho_
  rw [HL.out] at ho5
  obtain ⟨ao, rfl⟩ : ∃ ao, Ao = some ao := by rcases ho5 with h_ | ⟨ad_, e_, _⟩; exact absurd h_ (by simp); exact ⟨ad_, e_⟩
  obtain ⟨o0, o1, o2, o3⟩ := two_at ho5
  obtain ⟨⟨g0, g1, g2, g3, g4⟩, g5, g6, g7, g8, g9⟩ := ten ht5
  go_wp2_with fail
  clear g0 g1 g2 g3 g4 g5 g6 g7 g8 g9
  clear o0 o1 o2 o3
  refine (wireBits_at x ID r L dl m HD.out A c hID hL w5 hd5 HB.out (by omega) _ rfl N1 (by rw [HS1.out]; exact HN1.out)).mono ?_
  rintro e w6 ⟨Aa, ca, rfl, ha_, hca, hB6⟩
  have hT6 := below_then hT5 hB6
  have ht6 := block_below hB6 ht5
  have hd6 := Row.to hd5 hB6
  have he6 := Row.to he5 hB6
  have hb6 := FRow.to hb5 hB6
  have ho6 := Row.to ho5 hB6
  clear hT5 ht5 hd5 he5 hb5 ho5 hB6
  have ha6 := ha_
  clear ha_
  rw [HS1.out] at ha6
  obtain ⟨o0, o1, o2, o3⟩ := two_at ho6
  obtain ⟨⟨g0, g1, g2, g3, g4⟩, g5, g6, g7, g8, g9⟩ := ten ht6
  go_wp2_with fail
  clear g0 g1 g2 g3 g4 g5 g6 g7 g8 g9
  clear o0 o1 o2 o3
  refine (wireBits_at x' ID' r' L' dl' m' HD'.out A' c' hID' hL' w6 he6 HB'.out (by omega) _ rfl N2 (by rw [HS2.out]; exact HN2.out)).mono ?_
  rintro e w7 ⟨Ab, cb, rfl, hc_, hcb, hB7⟩
  have hT7 := below_then hT6 hB7
  have ht7 := block_below hB7 ht6
  have hd7 := Row.to hd6 hB7
  have he7 := Row.to he6 hB7
  have hb7 := FRow.to hb6 hB7
  have ho7 := Row.to ho6 hB7
  have ha7 := Row.to ha6 hB7
  clear hT6 ht6 hd6 he6 hb6 ho6 ha6 hB7
  have hc7 := hc_
  clear hc_
  rw [HS2.out] at hc7
  obtain ⟨aa, rfl⟩ : ∃ aa, Aa = some aa := by rcases ha7 with h_ | ⟨ad_, e_, _⟩; (exfalso; have := HN1.out; rw [h_] at this; simp at this; omega); exact ⟨ad_, e_⟩
  obtain ⟨ab, rfl⟩ : ∃ ab, Ab = some ab := by rcases hc7 with h_ | ⟨ad_, e_, _⟩; (exfalso; have := HN2.out; rw [h_] at this; simp at this; omega); exact ⟨ad_, e_⟩
  go_wp2_with fail
  go_loopw [11] (fun i wr => ∃ k : Nat, k ≤ D ∧ i = .int .i64 k ∧ FRow wr wr.heap.size (some ⟨G, 0, none⟩) [(⟨x, (ID : Int), r, (L : Int), A, m, c⟩ : FV), (⟨x', (ID' : Int), r', (L' : Int), A', m', c'⟩ : FV)] ∧ wr.heap[G]? = w7.heap[G]? ∧ Row .i64 wr wr.heap.size (some ao) [-1, (p : Int)] ∧ Row .i64 wr wr.heap.size (some aa) S1 ∧ Row .i64 wr wr.heap.size (some ab) S2 ∧ Below w.heap.size w wr) (fun i _ => D - (intOf i).toNat)
  case atStart => exact ⟨0, Nat.zero_le _, rfl, hb7, rfl, ho7, ha7, hc7, hT7⟩
  case round =>
  have htG := ht7
  clear hT7 hb7 ho7 ha7 hc7 hd7 he7
  obtain ⟨k, hk, rfl, hb60, hG60, ho60, ha60, hc60, hT60⟩ := hrel
  rw [htG] at hG60
  have q1_ : (0 : Int) ≤ (k : Int) := by omega
  have q2_ : (k : Int) < (N1 : Int) := by omega
  have q3_ : (k : Int) < (N2 : Int) := by omega
  have q4_ : decide ((k : Int) < (N1 : Int)) = true := by simp; omega
  have q5_ : decide ((k : Int) < (N2 : Int)) = true := by simp; omega
  have q6_ : decide (k < N1) = true := by simp; omega
  have q7_ : decide (k < N2) = true := by simp; omega
  by_cases hlt : k < D
  · obtain ⟨y, y1, y2⟩ := Hl.out.2.2 k hlt
    have Hy := Lib.hid (And.intro y1 y2)
    clear y1 y2
    go_wp2_with fail
    refine wp_region_held_drew (S := fun W => W.cell? (aa.add k) = some (.int .i64 y) ∧ W.cell? (ab.add k) = some (.int .i64 y)) (by kernel_rfl) (by exact ⟨Row.at_ (Row.to ha60 (below_drew1 _)) Hy.out.1, Row.at_ (Row.to hc60 (below_drew1 _)) Hy.out.2⟩) (fun hHeld_ => ?_)
    refine wpAnyH_take' (i := 0) (v := ?v0_t7) 81 rfl rfl (by kernel_rfl) (by kernel_rfl) (by kernel_rfl) (fun _ _ _ h => h) (Or.inl ⟨by kernel_rfl, ?hy0_t7⟩) (by assumption) ?rest0_t7
    case hy0_t7 => (intro W_ hS_; (try dsimp only at hS_); go_simp; (try (with_reducible rfl)))
    try simp only [Act.put, List.setIfInBounds_toArray, List.set_cons_zero, List.set_cons_succ]
    refine wpAnyH_take' (i := 1) (v := ?v1_t7) 82 rfl rfl (by kernel_rfl) (by kernel_rfl) (by kernel_rfl) (fun _ _ _ h => h) (Or.inl ⟨by kernel_rfl, ?hy1_t7⟩) (by assumption) ?rest1_t7
    case hy1_t7 => (intro W_ hS_; (try dsimp only at hS_); go_simp; (try (with_reducible rfl)))
    try simp only [Act.put, List.setIfInBounds_toArray, List.set_cons_zero, List.set_cons_succ]
    refine wpAnyH_take' (i := 2) (v := ?v2_t7) 83 rfl rfl (by kernel_rfl) (by kernel_rfl) (by kernel_rfl) (fun _ _ _ h => h) (Or.inl ⟨by kernel_rfl, ?hy2_t7⟩) (by assumption) ?rest2_t7
    case hy2_t7 => (intro W_ hS_; (try dsimp only at hS_); go_simp; (try (with_reducible rfl)))
    try simp only [Act.put, List.setIfInBounds_toArray, List.set_cons_zero, List.set_cons_succ]
    refine wpAnyH_take' (i := 3) (v := ?v3_t7) 84 rfl rfl (by kernel_rfl) (by kernel_rfl) (by kernel_rfl) (fun _ _ _ h => h) (Or.inl ⟨by kernel_rfl, ?hy3_t7⟩) (by assumption) ?rest3_t7
    case hy3_t7 => (intro W_ hS_; (try dsimp only at hS_); go_simp; (try (with_reducible rfl)))
    try simp only [Act.put, List.setIfInBounds_toArray, List.set_cons_zero, List.set_cons_succ]
    refine wpAnyH_take' (i := 4) (v := ?v4_t7) 85 rfl rfl (by kernel_rfl) (by kernel_rfl) (by kernel_rfl) (fun _ _ _ h => h) (Or.inl ⟨by kernel_rfl, ?hy4_t7⟩) (by assumption) ?rest4_t7
    case hy4_t7 => (intro W_ hS_; (try dsimp only at hS_); go_simp; (try (with_reducible rfl)))
    try simp only [Act.put, List.setIfInBounds_toArray, List.set_cons_zero, List.set_cons_succ]
    refine wpAnyH_take' (i := 5) (v := ?v5_t7) 86 rfl rfl (by kernel_rfl) (by kernel_rfl) (by kernel_rfl) (fun _ _ _ h => h) (Or.inl ⟨by kernel_rfl, ?hy5_t7⟩) (by assumption) ?rest5_t7
    case hy5_t7 => (intro W_ hS_; (try dsimp only at hS_); go_simp; (try (with_reducible rfl)))
    try simp only [Act.put, List.setIfInBounds_toArray, List.set_cons_zero, List.set_cons_succ]
    refine wpAnyH_take' (i := 6) (v := ?v6_t7) 87 rfl rfl (by kernel_rfl) (by kernel_rfl) (by kernel_rfl) (fun _ _ _ h => h) (Or.inl ⟨by kernel_rfl, ?hy6_t7⟩) (by assumption) ?rest6_t7
    case hy6_t7 => (intro W_ hS_; (try dsimp only at hS_); go_simp; (try (with_reducible rfl)))
    try simp only [Act.put, List.setIfInBounds_toArray, List.set_cons_zero, List.set_cons_succ]
    refine wpAnyH_take' (i := 7) (v := ?v7_t7) 88 rfl rfl (by kernel_rfl) (by kernel_rfl) (by kernel_rfl) (fun _ _ _ h => h) (Or.inl ⟨by kernel_rfl, ?hy7_t7⟩) (by assumption) ?rest7_t7
    case hy7_t7 => (intro W_ hS_; (try dsimp only at hS_); go_simp; (try (with_reducible rfl)))
    try simp only [Act.put, List.setIfInBounds_toArray, List.set_cons_zero, List.set_cons_succ]
    refine wpAnyH_take' (i := 8) (v := ?v8_t7) 89 rfl rfl (by kernel_rfl) (by kernel_rfl) (by kernel_rfl) (fun _ _ _ h => h) (Or.inl ⟨by kernel_rfl, ?hy8_t7⟩) (by assumption) ?rest8_t7
    case hy8_t7 => (intro W_ hS_; (try dsimp only at hS_); go_simp; (try (with_reducible rfl)))
    try simp only [Act.put, List.setIfInBounds_toArray, List.set_cons_zero, List.set_cons_succ]
    refine wpAnyH_take' (i := 9) (v := ?v9_t7) 90 rfl rfl (by kernel_rfl) (by kernel_rfl) (by kernel_rfl) (fun _ _ _ h => h) (Or.inl ⟨by kernel_rfl, ?hy9_t7⟩) (by assumption) ?rest9_t7
    case hy9_t7 => (intro W_ hS_; (try dsimp only at hS_); go_simp; (try (with_reducible rfl)))
    try simp only [Act.put, List.setIfInBounds_toArray, List.set_cons_zero, List.set_cons_succ]
    refine wpAnyH_take' (i := 10) (v := ?v10_t7) 91 rfl rfl (by kernel_rfl) (by kernel_rfl) (by kernel_rfl) (fun _ _ _ h => h) (Or.inl ⟨by kernel_rfl, ?hy10_t7⟩) (by assumption) ?rest10_t7
    case hy10_t7 => (intro W_ hS_; (try dsimp only at hS_); go_simp; (try (with_reducible rfl)))
    try simp only [Act.put, List.setIfInBounds_toArray, List.set_cons_zero, List.set_cons_succ]
    refine wpAnyH_take' (i := 11) (v := ?v11_t7) 92 rfl rfl (by kernel_rfl) (by kernel_rfl) (by kernel_rfl) (fun _ _ _ h => h) (Or.inl ⟨by kernel_rfl, ?hy11_t7⟩) (by assumption) ?rest11_t7
    case hy11_t7 => (intro W_ hS_; (try dsimp only at hS_); go_simp; (try (with_reducible rfl)))
    try simp only [Act.put, List.setIfInBounds_toArray, List.set_cons_zero, List.set_cons_succ]
    refine wpAnyH_take' (i := 12) (v := ?v12_t7) 93 rfl rfl (by kernel_rfl) (by kernel_rfl) (by kernel_rfl) (fun _ _ _ h => h) (Or.inl ⟨by kernel_rfl, ?hy12_t7⟩) (by assumption) ?rest12_t7
    case hy12_t7 => (intro W_ hS_; (try dsimp only at hS_); go_simp; (try (with_reducible rfl)))
    try simp only [Act.put, List.setIfInBounds_toArray, List.set_cons_zero, List.set_cons_succ]
    refine wpAnyH_take' (i := 13) (v := ?v13_t7) 94 rfl rfl (by kernel_rfl) (by kernel_rfl) (by kernel_rfl) (fun _ _ _ h => h) (Or.inl ⟨by kernel_rfl, ?hy13_t7⟩) (by assumption) ?rest13_t7
    case hy13_t7 => (intro W_ hS_; (try dsimp only at hS_); go_simp; (try (with_reducible rfl)))
    try simp only [Act.put, List.setIfInBounds_toArray, List.set_cons_zero, List.set_cons_succ]
    refine wpAnyH_take' (i := 14) (v := ?v14_t7) 95 rfl rfl (by kernel_rfl) (by kernel_rfl) (by kernel_rfl) (fun _ _ _ h => h) (Or.inl ⟨by kernel_rfl, ?hy14_t7⟩) (by assumption) ?rest14_t7
    case hy14_t7 => (intro W_ hS_; (try dsimp only at hS_); go_simp; (try (with_reducible rfl)))
    try simp only [Act.put, List.setIfInBounds_toArray, List.set_cons_zero, List.set_cons_succ]
    refine wpAnyH_take' (i := 15) (v := ?v15_t7) 96 rfl rfl (by kernel_rfl) (by kernel_rfl) (by kernel_rfl) (fun _ _ _ h => h) (Or.inl ⟨by kernel_rfl, ?hy15_t7⟩) (by assumption) ?rest15_t7
    case hy15_t7 => (intro W_ hS_; (try dsimp only at hS_); go_simp; (try (with_reducible rfl)))
    try simp only [Act.put, List.setIfInBounds_toArray, List.set_cons_zero, List.set_cons_succ]
    refine wpAnyH_take' (i := 16) (v := ?v16_t7) 97 rfl rfl (by kernel_rfl) (by kernel_rfl) (by kernel_rfl) (fun _ _ _ h => h) (Or.inl ⟨by kernel_rfl, ?hy16_t7⟩) (by assumption) ?rest16_t7
    case hy16_t7 => (intro W_ hS_; (try dsimp only at hS_); go_simp; (try (with_reducible rfl)))
    try simp only [Act.put, List.setIfInBounds_toArray, List.set_cons_zero, List.set_cons_succ]
    refine wpAnyH_take' (i := 17) (v := ?v17_t7) 98 rfl rfl (by kernel_rfl) (by kernel_rfl) (by kernel_rfl) (fun _ _ _ h => h) (Or.inl ⟨by kernel_rfl, ?hy17_t7⟩) (by assumption) ?rest17_t7
    case hy17_t7 => (intro W_ hS_; (try dsimp only at hS_); go_simp; (try (with_reducible rfl)))
    try simp only [Act.put, List.setIfInBounds_toArray, List.set_cons_zero, List.set_cons_succ]
    refine wpAnyH_take' (i := 18) (v := ?v18_t7) 99 rfl rfl (by kernel_rfl) (by kernel_rfl) (by kernel_rfl) (fun _ _ _ h => h) (Or.inl ⟨by kernel_rfl, ?hy18_t7⟩) (by assumption) ?rest18_t7
    case hy18_t7 => (intro W_ hS_; (try dsimp only at hS_); go_simp; (try (with_reducible rfl)))
    try simp only [Act.put, List.setIfInBounds_toArray, List.set_cons_zero, List.set_cons_succ]
    refine wpAnyH_take' (i := 19) (v := ?v19_t7) 100 rfl rfl (by kernel_rfl) (by kernel_rfl) (by kernel_rfl) (fun _ _ _ h => h) (Or.inl ⟨by kernel_rfl, ?hy19_t7⟩) (by assumption) ?rest19_t7
    case hy19_t7 => (intro W_ hS_; (try dsimp only at hS_); go_simp; (try (with_reducible rfl)))
    try simp only [Act.put, List.setIfInBounds_toArray, List.set_cons_zero, List.set_cons_succ]
    refine wpAnyH_take' (i := 20) (v := ?v20_t7) 101 rfl rfl (by kernel_rfl) (by kernel_rfl) (by kernel_rfl) (fun _ _ _ h => h) (Or.inl ⟨by kernel_rfl, ?hy20_t7⟩) (by assumption) ?rest20_t7
    case hy20_t7 => (intro W_ hS_; (try dsimp only at hS_); go_simp; (try (with_reducible rfl)))
    try simp only [Act.put, List.setIfInBounds_toArray, List.set_cons_zero, List.set_cons_succ]
    refine wpAnyH_done (by kernel_rfl) ?_ _
    go_wp2_with fail
    go_round
    case measure => simp [intOf]; omega
    exact ⟨k + 1, by omega, by go_num, FRow.to hb60 (below_drew1 _), hG60.trans htG.symm, Row.to ho60 (below_drew1 _), Row.to ha60 (below_drew1 _), Row.to hc60 (below_drew1 _), below_then hT60 (below_drew1 _)⟩
  obtain rfl : k = D := by omega
  have Hd1 := Lib.hid (And.intro Hl.out.1 Hl.out.2.1)
  go_wp2_with fail
  refine wp_region_held_drew (S := fun W => W.cell? (aa.add k) = some (.int .i64 0) ∧ W.cell? (ab.add k) = some (.int .i64 1)) (by kernel_rfl) (by exact ⟨Row.at_ (Row.to ha60 (below_drew1 _)) Hd1.out.1, Row.at_ (Row.to hc60 (below_drew1 _)) Hd1.out.2⟩) (fun hHeld_ => ?_)
  refine wpAnyH_take' (i := 0) (v := ?v0_t8) 81 rfl rfl (by kernel_rfl) (by kernel_rfl) (by kernel_rfl) (fun _ _ _ h => h) (Or.inl ⟨by kernel_rfl, ?hy0_t8⟩) (by assumption) ?rest0_t8
  case hy0_t8 => (intro W_ hS_; (try dsimp only at hS_); go_simp; (try (with_reducible rfl)))
  try simp only [Act.put, List.setIfInBounds_toArray, List.set_cons_zero, List.set_cons_succ]
  refine wpAnyH_take' (i := 1) (v := ?v1_t8) 82 rfl rfl (by kernel_rfl) (by kernel_rfl) (by kernel_rfl) (fun _ _ _ h => h) (Or.inl ⟨by kernel_rfl, ?hy1_t8⟩) (by assumption) ?rest1_t8
  case hy1_t8 => (intro W_ hS_; (try dsimp only at hS_); go_simp; (try (with_reducible rfl)))
  try simp only [Act.put, List.setIfInBounds_toArray, List.set_cons_zero, List.set_cons_succ]
  refine wpAnyH_take' (i := 2) (v := ?v2_t8) 83 rfl rfl (by kernel_rfl) (by kernel_rfl) (by kernel_rfl) (fun _ _ _ h => h) (Or.inl ⟨by kernel_rfl, ?hy2_t8⟩) (by assumption) ?rest2_t8
  case hy2_t8 => (intro W_ hS_; (try dsimp only at hS_); go_simp; (try (with_reducible rfl)))
  try simp only [Act.put, List.setIfInBounds_toArray, List.set_cons_zero, List.set_cons_succ]
  refine wpAnyH_take' (i := 3) (v := ?v3_t8) 84 rfl rfl (by kernel_rfl) (by kernel_rfl) (by kernel_rfl) (fun _ _ _ h => h) (Or.inl ⟨by kernel_rfl, ?hy3_t8⟩) (by assumption) ?rest3_t8
  case hy3_t8 => (intro W_ hS_; (try dsimp only at hS_); go_simp; (try (with_reducible rfl)))
  try simp only [Act.put, List.setIfInBounds_toArray, List.set_cons_zero, List.set_cons_succ]
  refine wpAnyH_take' (i := 4) (v := ?v4_t8) 85 rfl rfl (by kernel_rfl) (by kernel_rfl) (by kernel_rfl) (fun _ _ _ h => h) (Or.inl ⟨by kernel_rfl, ?hy4_t8⟩) (by assumption) ?rest4_t8
  case hy4_t8 => (intro W_ hS_; (try dsimp only at hS_); go_simp; (try (with_reducible rfl)))
  try simp only [Act.put, List.setIfInBounds_toArray, List.set_cons_zero, List.set_cons_succ]
  refine wpAnyH_take' (i := 5) (v := ?v5_t8) 86 rfl rfl (by kernel_rfl) (by kernel_rfl) (by kernel_rfl) (fun _ _ _ h => h) (Or.inl ⟨by kernel_rfl, ?hy5_t8⟩) (by assumption) ?rest5_t8
  case hy5_t8 => (intro W_ hS_; (try dsimp only at hS_); go_simp; (try (with_reducible rfl)))
  try simp only [Act.put, List.setIfInBounds_toArray, List.set_cons_zero, List.set_cons_succ]
  refine wpAnyH_take' (i := 6) (v := ?v6_t8) 87 rfl rfl (by kernel_rfl) (by kernel_rfl) (by kernel_rfl) (fun _ _ _ h => h) (Or.inl ⟨by kernel_rfl, ?hy6_t8⟩) (by assumption) ?rest6_t8
  case hy6_t8 => (intro W_ hS_; (try dsimp only at hS_); go_simp; (try (with_reducible rfl)))
  try simp only [Act.put, List.setIfInBounds_toArray, List.set_cons_zero, List.set_cons_succ]
  refine wpAnyH_take' (i := 7) (v := ?v7_t8) 88 rfl rfl (by kernel_rfl) (by kernel_rfl) (by kernel_rfl) (fun _ _ _ h => h) (Or.inl ⟨by kernel_rfl, ?hy7_t8⟩) (by assumption) ?rest7_t8
  case hy7_t8 => (intro W_ hS_; (try dsimp only at hS_); go_simp; (try (with_reducible rfl)))
  try simp only [Act.put, List.setIfInBounds_toArray, List.set_cons_zero, List.set_cons_succ]
  refine wpAnyH_take' (i := 8) (v := ?v8_t8) 89 rfl rfl (by kernel_rfl) (by kernel_rfl) (by kernel_rfl) (fun _ _ _ h => h) (Or.inl ⟨by kernel_rfl, ?hy8_t8⟩) (by assumption) ?rest8_t8
  case hy8_t8 => (intro W_ hS_; (try dsimp only at hS_); go_simp; (try (with_reducible rfl)))
  try simp only [Act.put, List.setIfInBounds_toArray, List.set_cons_zero, List.set_cons_succ]
  refine wpAnyH_take' (i := 9) (v := ?v9_t8) 90 rfl rfl (by kernel_rfl) (by kernel_rfl) (by kernel_rfl) (fun _ _ _ h => h) (Or.inl ⟨by kernel_rfl, ?hy9_t8⟩) (by assumption) ?rest9_t8
  case hy9_t8 => (intro W_ hS_; (try dsimp only at hS_); go_simp; (try (with_reducible rfl)))
  try simp only [Act.put, List.setIfInBounds_toArray, List.set_cons_zero, List.set_cons_succ]
  refine wpAnyH_take' (i := 10) (v := ?v10_t8) 91 rfl rfl (by kernel_rfl) (by kernel_rfl) (by kernel_rfl) (fun _ _ _ h => h) (Or.inl ⟨by kernel_rfl, ?hy10_t8⟩) (by assumption) ?rest10_t8
  case hy10_t8 => (intro W_ hS_; (try dsimp only at hS_); go_simp; (try (with_reducible rfl)))
  try simp only [Act.put, List.setIfInBounds_toArray, List.set_cons_zero, List.set_cons_succ]
  refine wpAnyH_take' (i := 11) (v := ?v11_t8) 92 rfl rfl (by kernel_rfl) (by kernel_rfl) (by kernel_rfl) (fun _ _ _ h => h) (Or.inl ⟨by kernel_rfl, ?hy11_t8⟩) (by assumption) ?rest11_t8
  case hy11_t8 => (intro W_ hS_; (try dsimp only at hS_); go_simp; (try (with_reducible rfl)))
  try simp only [Act.put, List.setIfInBounds_toArray, List.set_cons_zero, List.set_cons_succ]
  refine wpAnyH_take' (i := 12) (v := ?v12_t8) 93 rfl rfl (by kernel_rfl) (by kernel_rfl) (by kernel_rfl) (fun _ _ _ h => h) (Or.inl ⟨by kernel_rfl, ?hy12_t8⟩) (by assumption) ?rest12_t8
  case hy12_t8 => (intro W_ hS_; (try dsimp only at hS_); go_simp; (try (with_reducible rfl)))
  try simp only [Act.put, List.setIfInBounds_toArray, List.set_cons_zero, List.set_cons_succ]
  refine wpAnyH_take' (i := 13) (v := ?v13_t8) 94 rfl rfl (by kernel_rfl) (by kernel_rfl) (by kernel_rfl) (fun _ _ _ h => h) (Or.inl ⟨by kernel_rfl, ?hy13_t8⟩) (by assumption) ?rest13_t8
  case hy13_t8 => (intro W_ hS_; (try dsimp only at hS_); go_simp; (try (with_reducible rfl)))
  try simp only [Act.put, List.setIfInBounds_toArray, List.set_cons_zero, List.set_cons_succ]
  refine wpAnyH_take' (i := 14) (v := ?v14_t8) 95 rfl rfl (by kernel_rfl) (by kernel_rfl) (by kernel_rfl) (fun _ _ _ h => h) (Or.inl ⟨by kernel_rfl, ?hy14_t8⟩) (by assumption) ?rest14_t8
  case hy14_t8 => (intro W_ hS_; (try dsimp only at hS_); go_simp; (try (with_reducible rfl)))
  try simp only [Act.put, List.setIfInBounds_toArray, List.set_cons_zero, List.set_cons_succ]
  refine wpAnyH_take' (i := 15) (v := ?v15_t8) 96 rfl rfl (by kernel_rfl) (by kernel_rfl) (by kernel_rfl) (fun _ _ _ h => h) (Or.inl ⟨by kernel_rfl, ?hy15_t8⟩) (by assumption) ?rest15_t8
  case hy15_t8 => (intro W_ hS_; (try dsimp only at hS_); go_simp; (try (with_reducible rfl)))
  try simp only [Act.put, List.setIfInBounds_toArray, List.set_cons_zero, List.set_cons_succ]
  refine wpAnyH_take' (i := 16) (v := ?v16_t8) 97 rfl rfl (by kernel_rfl) (by kernel_rfl) (by kernel_rfl) (fun _ _ _ h => h) (Or.inl ⟨by kernel_rfl, ?hy16_t8⟩) (by assumption) ?rest16_t8
  case hy16_t8 => (intro W_ hS_; (try dsimp only at hS_); go_simp; (try (with_reducible rfl)))
  try simp only [Act.put, List.setIfInBounds_toArray, List.set_cons_zero, List.set_cons_succ]
  refine wpAnyH_take' (i := 17) (v := ?v17_t8) 98 rfl rfl (by kernel_rfl) (by kernel_rfl) (by kernel_rfl) (fun _ _ _ h => h) (Or.inl ⟨by kernel_rfl, ?hy17_t8⟩) (by assumption) ?rest17_t8
  case hy17_t8 => (intro W_ hS_; (try dsimp only at hS_); go_simp; (try (with_reducible rfl)))
  try simp only [Act.put, List.setIfInBounds_toArray, List.set_cons_zero, List.set_cons_succ]
  refine wpAnyH_take' (i := 18) (v := ?v18_t8) 99 rfl rfl (by kernel_rfl) (by kernel_rfl) (by kernel_rfl) (fun _ _ _ h => h) (Or.inl ⟨by kernel_rfl, ?hy18_t8⟩) (by assumption) ?rest18_t8
  case hy18_t8 => (intro W_ hS_; (try dsimp only at hS_); go_simp; (try (with_reducible rfl)))
  try simp only [Act.put, List.setIfInBounds_toArray, List.set_cons_zero, List.set_cons_succ]
  refine wpAnyH_take' (i := 19) (v := ?v19_t8) 100 rfl rfl (by kernel_rfl) (by kernel_rfl) (by kernel_rfl) (fun _ _ _ h => h) (Or.inl ⟨by kernel_rfl, ?hy19_t8⟩) (by assumption) ?rest19_t8
  case hy19_t8 => (intro W_ hS_; (try dsimp only at hS_); go_simp; (try (with_reducible rfl)))
  try simp only [Act.put, List.setIfInBounds_toArray, List.set_cons_zero, List.set_cons_succ]
  refine wpAnyH_take' (i := 20) (v := ?v20_t8) 101 rfl rfl (by kernel_rfl) (by kernel_rfl) (by kernel_rfl) (fun _ _ _ h => h) (Or.inl ⟨by kernel_rfl, ?hy20_t8⟩) (by assumption) ?rest20_t8
  case hy20_t8 => (intro W_ hS_; (try dsimp only at hS_); go_simp; (try (with_reducible rfl)))
  try simp only [Act.put, List.setIfInBounds_toArray, List.set_cons_zero, List.set_cons_succ]
  refine wpAnyH_done (by kernel_rfl) ?_ _
  obtain ⟨w61, hw61⟩ : ∃ w61, wr.drew = w61 := ⟨_, rfl⟩
  have hB61 : Below wr.heap.size wr w61 := by rw [← hw61]; exact below_drew1 _
  rw [hw61]
  clear hw61
  have hb61 := FRow.to hb60 hB61
  have ht61 := block_below hB61 hG60
  have ho61 := Row.to ho60 hB61
  have ha61 := Row.to ha60 hB61
  have hc61 := Row.to hc60 hB61
  have hT61 := below_then hT60 hB61
  clear hb60 hG60 ho60 ha60 hc60 hT60 hB61 htG hlt hk
  have z1 := Row.at_ ha61 Hd1.out.1
  have q8_ : decide ((N1 : Int) ≤ (k : Int)) = false := by simp; omega
  have q9_ : decide ((N2 : Int) ≤ (k : Int)) = false := by simp; omega
  have q10_ : decide (N1 ≤ k) = false := by simp; omega
  have q11_ : decide (N2 ≤ k) = false := by simp; omega
  go_wp2_with fail
  clear z1
  go_loopw [12] (fun i wq => ∃ j : Nat, j ≤ k + 1 ∧ i = .int .i64 j ∧ FRow wq wq.heap.size (some ⟨G, 0, none⟩) [(⟨x, (ID : Int), r, (L : Int), A, m, c⟩ : FV), (⟨x', (ID' : Int), r', (L' : Int), A', m', c'⟩ : FV)] ∧ wq.heap[G]? = w61.heap[G]? ∧ Row .i64 wq wq.heap.size (some ao) [-1, (p : Int)] ∧ Row .i64 wq wq.heap.size (some aa) S1 ∧ Row .i64 wq wq.heap.size (some ab) S2 ∧ Below w.heap.size w wq) (fun i _ => k + 1 - (intOf i).toNat)
  case atStart => exact ⟨0, Nat.zero_le _, rfl, hb61, rfl, ho61, ha61, hc61, hT61⟩
  case round =>
  have htG := ht61
  clear hb61 ho61 ha61 hc61 hT61 ht61
  obtain ⟨j, hj, rfl, hb70, hG70, ho70, ha70, hc70, hT70⟩ := hrel
  rw [htG] at hG70
  by_cases hlt : j ≤ k
  · obtain ⟨y, y2, hy, hy2, hand⟩ : ∃ y y2, S1[j]? = some y ∧ S2[j]? = some y2 ∧ andL [y, y2] = y := by
      by_cases hjk : j < k
      · obtain ⟨y, h1, h2⟩ := Hl.out.2.2 j hjk
        exact ⟨y, y, h1, h2, and_same (rightB_at HS1r.out h1)⟩
      · obtain rfl : j = k := by omega
        exact ⟨0, 1, Hd1.out.1, Hd1.out.2, by decide⟩
    have Hy := Lib.hid (And.intro hy (And.intro hy2 hand))
    clear hy hy2 hand
    have q1_ : (0 : Int) ≤ (j : Int) := by omega
    have q2_ : (j : Int) < (N1 : Int) := by omega
    have q3_ : (j : Int) < (N2 : Int) := by omega
    have r1_ : (j : Int) ≤ (k : Int) := by omega
    go_wp2_with fail
    refine wp_region_held_drew (S := fun W => W.cell? (aa.add j) = some (.int .i64 y) ∧ W.cell? (ab.add j) = some (.int .i64 y2)) (by kernel_rfl) (by exact ⟨Row.at_ (Row.to ha70 (below_drew1 _)) Hy.out.1, Row.at_ (Row.to hc70 (below_drew1 _)) Hy.out.2.1⟩) (fun hHeld_ => ?_)
    refine wpAnyH_take' (i := 0) (v := ?v0_t9) 126 rfl rfl (by kernel_rfl) (by kernel_rfl) (by kernel_rfl) (fun _ _ _ h => h) (Or.inl ⟨by kernel_rfl, ?hy0_t9⟩) (by assumption) ?rest0_t9
    case hy0_t9 => (intro W_ hS_; (try dsimp only at hS_); go_simp; (try (with_reducible rfl)))
    try simp only [Act.put, List.setIfInBounds_toArray, List.set_cons_zero, List.set_cons_succ]
    refine wpAnyH_take' (i := 1) (v := ?v1_t9) 127 rfl rfl (by kernel_rfl) (by kernel_rfl) (by kernel_rfl) (fun _ _ _ h => h) (Or.inl ⟨by kernel_rfl, ?hy1_t9⟩) (by assumption) ?rest1_t9
    case hy1_t9 => (intro W_ hS_; (try dsimp only at hS_); go_simp; (try (with_reducible rfl)))
    try simp only [Act.put, List.setIfInBounds_toArray, List.set_cons_zero, List.set_cons_succ]
    refine wpAnyH_take' (i := 2) (v := ?v2_t9) 128 rfl rfl (by kernel_rfl) (by kernel_rfl) (by kernel_rfl) (fun _ _ _ h => h) (Or.inl ⟨by kernel_rfl, ?hy2_t9⟩) (by assumption) ?rest2_t9
    case hy2_t9 => (intro W_ hS_; (try dsimp only at hS_); go_simp; (try (with_reducible rfl)))
    try simp only [Act.put, List.setIfInBounds_toArray, List.set_cons_zero, List.set_cons_succ]
    refine wpAnyH_take' (i := 3) (v := ?v3_t9) 129 rfl rfl (by kernel_rfl) (by kernel_rfl) (by kernel_rfl) (fun _ _ _ h => h) (Or.inl ⟨by kernel_rfl, ?hy3_t9⟩) (by assumption) ?rest3_t9
    case hy3_t9 => (intro W_ hS_; (try dsimp only at hS_); go_simp; (try (with_reducible rfl)))
    try simp only [Act.put, List.setIfInBounds_toArray, List.set_cons_zero, List.set_cons_succ]
    refine wpAnyH_take' (i := 4) (v := ?v4_t9) 130 rfl rfl (by kernel_rfl) (by kernel_rfl) (by kernel_rfl) (fun _ _ _ h => h) (Or.inl ⟨by kernel_rfl, ?hy4_t9⟩) (by assumption) ?rest4_t9
    case hy4_t9 => (intro W_ hS_; (try dsimp only at hS_); go_simp; (try (with_reducible rfl)))
    try simp only [Act.put, List.setIfInBounds_toArray, List.set_cons_zero, List.set_cons_succ]
    refine wpAnyH_take' (i := 5) (v := ?v5_t9) 131 rfl rfl (by kernel_rfl) (by kernel_rfl) (by kernel_rfl) (fun _ _ _ h => h) (Or.inl ⟨by kernel_rfl, ?hy5_t9⟩) (by assumption) ?rest5_t9
    case hy5_t9 => (intro W_ hS_; (try dsimp only at hS_); go_simp; (try (with_reducible rfl)))
    try simp only [Act.put, List.setIfInBounds_toArray, List.set_cons_zero, List.set_cons_succ]
    refine wpAnyH_take' (i := 6) (v := ?v6_t9) 132 rfl rfl (by kernel_rfl) (by kernel_rfl) (by kernel_rfl) (fun _ _ _ h => h) (Or.inl ⟨by kernel_rfl, ?hy6_t9⟩) (by assumption) ?rest6_t9
    case hy6_t9 => (intro W_ hS_; (try dsimp only at hS_); go_simp; (try (with_reducible rfl)))
    try simp only [Act.put, List.setIfInBounds_toArray, List.set_cons_zero, List.set_cons_succ]
    refine wpAnyH_take' (i := 7) (v := ?v7_t9) 133 rfl rfl (by kernel_rfl) (by kernel_rfl) (by kernel_rfl) (fun _ _ _ h => h) (Or.inl ⟨by kernel_rfl, ?hy7_t9⟩) (by assumption) ?rest7_t9
    case hy7_t9 => (intro W_ hS_; (try dsimp only at hS_); go_simp; (try (with_reducible rfl)))
    try simp only [Act.put, List.setIfInBounds_toArray, List.set_cons_zero, List.set_cons_succ]
    refine wpAnyH_take' (i := 10) (v := ?v10_t9) 136 rfl rfl (by kernel_rfl) (by kernel_rfl) (by kernel_rfl) (fun _ _ _ h => h) (Or.inl ⟨by kernel_rfl, ?hy10_t9⟩) (by assumption) ?rest10_t9
    case hy10_t9 => (intro W_ hS_; (try dsimp only at hS_); go_simp; (try (with_reducible rfl)))
    try simp only [Act.put, List.setIfInBounds_toArray, List.set_cons_zero, List.set_cons_succ]
    refine wpAnyH_take' (i := 11) (v := ?v11_t9) 137 rfl rfl (by kernel_rfl) (by kernel_rfl) (by kernel_rfl) (fun _ _ _ h => h) (Or.inl ⟨by kernel_rfl, ?hy11_t9⟩) (by assumption) ?rest11_t9
    case hy11_t9 => (intro W_ hS_; (try dsimp only at hS_); go_simp; (try (with_reducible rfl)))
    try simp only [Act.put, List.setIfInBounds_toArray, List.set_cons_zero, List.set_cons_succ]
    refine wpAnyH_take' (i := 12) (v := ?v12_t9) 138 rfl rfl (by kernel_rfl) (by kernel_rfl) (by kernel_rfl) (fun _ _ _ h => h) (Or.inl ⟨by kernel_rfl, ?hy12_t9⟩) (by assumption) ?rest12_t9
    case hy12_t9 => (intro W_ hS_; (try dsimp only at hS_); go_simp; (try (with_reducible rfl)))
    try simp only [Act.put, List.setIfInBounds_toArray, List.set_cons_zero, List.set_cons_succ]
    refine wpAnyH_take' (i := 13) (v := ?v13_t9) 139 rfl rfl (by kernel_rfl) (by kernel_rfl) (by kernel_rfl) (fun _ _ _ h => h) (Or.inl ⟨by kernel_rfl, ?hy13_t9⟩) (by assumption) ?rest13_t9
    case hy13_t9 => (intro W_ hS_; (try dsimp only at hS_); go_simp; (try (with_reducible rfl)))
    try simp only [Act.put, List.setIfInBounds_toArray, List.set_cons_zero, List.set_cons_succ]
    refine wpAnyH_ready (rs := [8]) (by kernel_rfl) (by simp) ?_
    refine AllReadyH.cons rfl (fun K_ hK_ => ?_) AllReadyH.nil
    go_simp
    skip
    go_wp2_with fail
    refine hK_.out _ _ (by exact ⟨Row.at_ (Row.to (Row.to ha70 (below_alloc1 _ _)) (below_drew1 _)) Hy.out.1, Row.at_ (Row.to (Row.to hc70 (below_alloc1 _ _)) (below_drew1 _)) Hy.out.2.1⟩) (fun hHeld_8 => ?_)
    clear hK_
    try simp only [Act.put, List.setIfInBounds_toArray, List.set_cons_zero, List.set_cons_succ]
    refine wpAnyH_ready (rs := [9]) (by kernel_rfl) (by simp) ?_
    refine AllReadyH.cons rfl (fun K_ hK_ => ?_) AllReadyH.nil
    go_simp
    refine (and_any [y, y2] 2 rfl _ 2 _ _ (Row.to (lit2 wr .i64 y y2 3 rfl) (below_drew1 _)) (by decide) y Hy.out.2.2).mono ?_; rintro e w_ ⟨rfl, rfl⟩
    go_wp2_with fail
    refine hK_.out _ _ (by exact ⟨Row.at_ (Row.to (Row.to ha70 (below_alloc1 _ _)) (below_drew1 _)) Hy.out.1, Row.at_ (Row.to (Row.to hc70 (below_alloc1 _ _)) (below_drew1 _)) Hy.out.2.1⟩) (fun hHeld_9 => ?_)
    clear hK_
    try simp only [Act.put, List.setIfInBounds_toArray, List.set_cons_zero, List.set_cons_succ]
    refine wpAnyH_take' (i := 14) (v := ?v14_t9) 140 rfl rfl (by kernel_rfl) (by kernel_rfl) (by kernel_rfl) (fun _ _ _ h => h) (Or.inl ⟨by kernel_rfl, ?hy14_t9⟩) (by assumption) ?rest14_t9
    case hy14_t9 => (intro W_ hS_; (try dsimp only at hS_); go_simp; (try (with_reducible rfl)))
    try simp only [Act.put, List.setIfInBounds_toArray, List.set_cons_zero, List.set_cons_succ]
    refine wpAnyH_done (by kernel_rfl) ?_ _
    have hB71 : Below wr.heap.size wr (wr.alloc (.cells #[.int .i64 y, .int .i64 y2] 3)).drew := below_then (below_alloc1 _ _) (below_drew1 _)
    go_wp2_with fail
    go_round
    case measure => simp [intOf]; omega
    exact ⟨j + 1, by omega, by go_num, FRow.to hb70 hB71, (block_below hB71 hG70).trans htG.symm, Row.to ho70 hB71, Row.to ha70 hB71, Row.to hc70 hB71, below_then hT70 hB71⟩
  have r1_ : ¬ (j : Int) ≤ (k : Int) := by omega
  clear ha70 hc70 htG
  have ht70 := hG70
  clear hG70
  go_wp2_with fail
  refine (line_any [(⟨x, (ID : Int), r, (L : Int), A, m, c⟩ : FV), (⟨x', (ID' : Int), r', (L' : Int), A', m', c'⟩ : FV)] 2 rfl _ 2 wr hb70 (by intro f hf; simp only [List.mem_cons, List.not_mem_nil, or_false] at hf; rcases hf with rfl | rfl; exact hok1; exact hok2) (by omega) _ HW.out.1 q1 Hq1.out hq1l).mono ?_
  rintro e w71 ⟨Al, cl, rfl, hcl, hl_, hB71⟩
  have hT71 := below_then hT70 hB71
  have ht71 := block_below hB71 ht70
  have hb71 := FRow.to hb70 hB71
  have ho71 := Row.to ho70 hB71
  clear hT70 ht70 hb70 ho70 hB71
  have hl71 := hl_
  clear hl_
  obtain ⟨o0, o1, o2, o3⟩ := two_at ho71
  obtain ⟨⟨g0, g1, g2, g3, g4⟩, g5, g6, g7, g8, g9⟩ := ten ht71
  go_wp2_with fail
  clear g0 g1 g2 g3 g4 g5 g6 g7 g8 g9
  clear o0 o1 o2 o3
  refine (rankF_at ⟨x', (ID' : Int), r', (L' : Int), A', m', c'⟩ hok2 q2 Hq2.out w71).mono ?_
  rintro e w72 ⟨ar, cr, rfl, hr_, hcr, hB72, hnr⟩
  have hT72 := below_then hT71 hB72
  have ht72 := block_below hB72 ht71
  have hb72 := FRow.to hb71 hB72
  have ho72 := Row.to ho71 hB72
  have hl72 := Row.to hl71 hB72
  clear hT71 ht71 hb71 ho71 hl71 hB72
  have hr72 := hr_
  clear hr_
  obtain ⟨⟨g0, g1, g2, g3, g4⟩, g5, g6, g7, g8, g9⟩ := ten ht72
  go_wp2_with fail
  clear g0 g1 g2 g3 g4 g5 g6 g7 g8 g9
  refine (rankF_at ⟨x, (ID : Int), r, (L : Int), A, m, c⟩ hok1 q1 Hq1.out w72).mono ?_
  rintro e w73 ⟨as_, cs_, rfl, hs_, hcs, hB73, hns⟩
  have hT73 := below_then hT72 hB73
  have ht73 := block_below hB73 ht72
  have hb73 := FRow.to hb72 hB73
  have ho73 := Row.to ho72 hB73
  have hl73 := Row.to hl72 hB73
  have hr73 := Row.to hr72 hB73
  clear hT72 ht72 hb72 ho72 hl72 hr72 hB73
  have hs73 := hs_
  clear hs_
  go_wp2_with fail
  refine (same_q (rankF (⟨x, (ID : Int), r, (L : Int), A, m, c⟩ : FV)) (rankF (⟨x, (ID : Int), r, (L : Int), A, m, c⟩ : FV)) q1 q1 Hq1.out Hq1.out _ _ _ _ w73 hl73 hs73 (by unfold maxLen; omega) true (by simp [sameB])).mono ?_
  rintro e w74 ⟨rfl, hB74⟩
  have hT74 := below_then hT73 hB74
  have ht74 := block_below hB74 ht73
  have hb74 := FRow.to hb73 hB74
  have ho74 := Row.to ho73 hB74
  have hl74 := Row.to hl73 hB74
  have hr74 := Row.to hr73 hB74
  have hs74 := Row.to hs73 hB74
  clear hT73 ht73 hb73 ho73 hl73 hr73 hs73 hB74
  obtain ⟨al, rfl⟩ : ∃ al, Al = some al := by rcases hl74 with h_ | ⟨ad_, e_, _⟩; exact absurd h_ (rankF_ne _); exact ⟨ad_, e_⟩
  have z1 := Row.at_ hr74 HPa.out.2
  have z2 := Row.at_ hl74 HPa.out.1
  have s1_ : (0 : Int) ≤ (p : Int) := by omega
  have s2_ : (p : Int) < (q2 : Int) := by omega
  have s3_ : (p : Int) < (q1 : Int) := by omega
  have s4_ : decide ((p : Int) < (q2 : Int)) = true := by simp; omega
  have s5_ : decide ((p : Int) < (q1 : Int)) = true := by simp; omega
  have s6_ : decide (p < q2) = true := by simp; omega
  have s7_ : decide (p < q1) = true := by simp; omega
  have s9_ : (p : Int) + 1 ≤ (k : Int) := by omega
  have s10_ : decide ((p : Int) + 1 ≤ (k : Int)) = true := decide_eq_true s9_
  have s8_ : wrap64 ((p : Int) + 1) = (p : Int) + 1 := p_wrap hpW hq1l
  go_wp2_with fail
  go_ret
  exact ⟨rfl, hT74⟩

end Go.Proofs.Ytajabpjphobabaa
