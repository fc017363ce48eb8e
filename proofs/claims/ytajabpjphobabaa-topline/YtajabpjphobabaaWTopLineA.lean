/-
  TopLine.
-/
import Derived.Test.YtajabpjphobabaaTLineM
namespace Go.Proofs.Ytajabpjphobabaa
open Go.RowKit
set_option linter.unusedVariables false
set_option linter.unusedSimpArgs false

set_option maxRecDepth 100000 in
set_option maxHeartbeats 2000000 in
theorem topLine_a (x : Bool) (i : Int) (r : Bool) (n : Int) (dl : List Int) (m : Nat) (hdl : dl.length = m) (A : Option Addr) (c : Nat) (x' : Bool) (i' : Int) (r' : Bool) (n' : Int) (dl' : List Int) (m' : Nat) (hdl' : dl'.length = m') (A' : Option Addr) (c' : Nat) (w : World)
    (hd : Row .u8 w w.heap.size A dl) (hb : byteB dl) (he : Row .u8 w w.heap.size A' dl') (hb' : byteB dl') (hb1 : 8 < m) :
    Calls Try.prog 4 #[.agg #[.bool x, .int .i64 i, .bool r, .int .i64 n, .slice A m c], .agg #[.bool x', .int .i64 i', .bool r', .int .i64 n', .slice A' m' c']] w fun e w' => e = .returned (.bool true) ∧ Below w.heap.size w w' := by
  have HD := Lib.hid hdl
  have HB := Lib.hid hb
  have HD' := Lib.hid hdl'
  have HB' := Lib.hid hb'
  clear hdl hb hdl' hb'
  go_enter Try.func4, Try.ntmps4
  go_wp2_with fail
  obtain ⟨w0, hw0⟩ : ∃ w0, (w.alloc (.cells #[.bool x, .int .i64 i, .bool r, .int .i64 n, .slice A m c] 24)).alloc (.cells #[.bool x', .int .i64 i', .bool r', .int .i64 n', .slice A' m' c'] 24) = w0 := ⟨_, rfl⟩
  have hT0 : Below w.heap.size w w0 := by rw [← hw0]; exact below_then (below_alloc1 _ _) (below_alloc1 _ _)
  have hf0 : w0.heap[w.heap.size]? = some (.cells #[.bool x, .int .i64 i, .bool r, .int .i64 n, .slice A m c] 24) := by rw [← hw0]; exact block_below (below_alloc1 _ _) (World.alloc_heap_new _ _)
  have hg0 : w0.heap[w.heap.size + 1]? = some (.cells #[.bool x', .int .i64 i', .bool r', .int .i64 n', .slice A' m' c'] 24) := by rw [← hw0]; have := World.alloc_heap_new (w.alloc (.cells #[.bool x, .int .i64 i, .bool r, .int .i64 n, .slice A m c] 24)) (.cells #[.bool x', .int .i64 i', .bool r', .int .i64 n', .slice A' m' c'] 24); simpa using this
  have hd0 := Row.to hd hT0
  have he0 := Row.to he hT0
  rw [hw0]
  clear hw0 hd he
  refine (head06_any w0).mono ?_
  rintro e w1 ⟨rfl, hB1⟩
  have hT1 := below_then hT0 hB1
  have hf1 := block_below hB1 hf0
  have hg1 := block_below hB1 hg0
  have hd1 := Row.to hd0 hB1
  have he1 := Row.to he0 hB1
  clear hT0 hf0 hg0 hd0 he0 hB1
  obtain ⟨fc0, fc1, fc2, fc3, fc4⟩ := cells5' hf1
  obtain ⟨gc0, gc1, gc2, gc3, gc4⟩ := cells5' hg1
  go_wp2_with fail
  clear fc0 fc1 fc2 fc3 fc4 gc0 gc1 gc2 gc3 gc4
  have k1 : decide ((8 : Int) < (m : Int)) = true := by simp; omega
  have k2 : decide (8 < m) = true := by simp; omega
  refine wp_region_held_drew (S := fun W => (W.cell? ⟨w.heap.size, 0, none⟩ = some (.bool x) ∧ W.cell? ⟨w.heap.size, 1, none⟩ = some (.int .i64 i) ∧ W.cell? ⟨w.heap.size, 2, none⟩ = some (.bool r) ∧ W.cell? ⟨w.heap.size, 3, none⟩ = some (.int .i64 n) ∧ W.cell? ⟨w.heap.size, 4, none⟩ = some (.slice A m c)) ∧ (W.cell? ⟨(w.heap.size + 1), 0, none⟩ = some (.bool x') ∧ W.cell? ⟨(w.heap.size + 1), 1, none⟩ = some (.int .i64 i') ∧ W.cell? ⟨(w.heap.size + 1), 2, none⟩ = some (.bool r') ∧ W.cell? ⟨(w.heap.size + 1), 3, none⟩ = some (.int .i64 n') ∧ W.cell? ⟨(w.heap.size + 1), 4, none⟩ = some (.slice A' m' c'))) (by kernel_rfl) (by exact ⟨cells5' (block_below (below_drew1 _) hf1), cells5' (block_below (below_drew1 _) hg1)⟩) (fun hHeld_ => ?_)
  refine wpAnyH_take' (i := 0) (v := ?v0_t1) 17 rfl rfl (by kernel_rfl) (by kernel_rfl) (by kernel_rfl) (fun _ _ _ h => h) (Or.inl ⟨by kernel_rfl, ?hy0_t1⟩) (by assumption) ?rest0_t1
  case hy0_t1 => (intro W_ hS_; (try dsimp only at hS_); go_simp; (try (with_reducible rfl)))
  try simp only [Act.put, List.setIfInBounds_toArray, List.set_cons_zero, List.set_cons_succ]
  refine wpAnyH_take' (i := 1) (v := ?v1_t1) 18 rfl rfl (by kernel_rfl) (by kernel_rfl) (by kernel_rfl) (fun _ _ _ h => h) (Or.inl ⟨by kernel_rfl, ?hy1_t1⟩) (by assumption) ?rest1_t1
  case hy1_t1 => (intro W_ hS_; (try dsimp only at hS_); go_simp; (try (with_reducible rfl)))
  try simp only [Act.put, List.setIfInBounds_toArray, List.set_cons_zero, List.set_cons_succ]
  refine wpAnyH_take' (i := 2) (v := ?v2_t1) 19 rfl rfl (by kernel_rfl) (by kernel_rfl) (by kernel_rfl) (fun _ _ _ h => h) (Or.inl ⟨by kernel_rfl, ?hy2_t1⟩) (by assumption) ?rest2_t1
  case hy2_t1 => (intro W_ hS_; (try dsimp only at hS_); go_simp; (try (with_reducible rfl)))
  try simp only [Act.put, List.setIfInBounds_toArray, List.set_cons_zero, List.set_cons_succ]
  refine wpAnyH_take' (i := 3) (v := ?v3_t1) 20 rfl rfl (by kernel_rfl) (by kernel_rfl) (by kernel_rfl) (fun _ _ _ h => h) (Or.inl ⟨by kernel_rfl, ?hy3_t1⟩) (by assumption) ?rest3_t1
  case hy3_t1 => (intro W_ hS_; (try dsimp only at hS_); go_simp; (try (with_reducible rfl)))
  try simp only [Act.put, List.setIfInBounds_toArray, List.set_cons_zero, List.set_cons_succ]
  refine wpAnyH_take' (i := 4) (v := ?v4_t1) 21 rfl rfl (by kernel_rfl) (by kernel_rfl) (by kernel_rfl) (fun _ _ _ h => h) (Or.inl ⟨by kernel_rfl, ?hy4_t1⟩) (by assumption) ?rest4_t1
  case hy4_t1 => (intro W_ hS_; (try dsimp only at hS_); go_simp; (try (with_reducible rfl)))
  try simp only [Act.put, List.setIfInBounds_toArray, List.set_cons_zero, List.set_cons_succ]
  refine wpAnyH_take' (i := 5) (v := undef) 22 rfl rfl (by kernel_rfl) (by kernel_rfl) (by kernel_rfl) (fun _ _ _ h => h) (Or.inr ⟨by kernel_rfl, rfl⟩) (by assumption) ?_
  try simp only [Act.put, List.setIfInBounds_toArray, List.set_cons_zero, List.set_cons_succ]
  refine wpAnyH_take' (i := 6) (v := undef) 23 rfl rfl (by kernel_rfl) (by kernel_rfl) (by kernel_rfl) (fun _ _ _ h => h) (Or.inr ⟨by kernel_rfl, rfl⟩) (by assumption) ?_
  try simp only [Act.put, List.setIfInBounds_toArray, List.set_cons_zero, List.set_cons_succ]
  refine wpAnyH_take' (i := 7) (v := undef) 24 rfl rfl (by kernel_rfl) (by kernel_rfl) (by kernel_rfl) (fun _ _ _ h => h) (Or.inr ⟨by kernel_rfl, rfl⟩) (by assumption) ?_
  try simp only [Act.put, List.setIfInBounds_toArray, List.set_cons_zero, List.set_cons_succ]
  refine wpAnyH_take' (i := 8) (v := undef) 25 rfl rfl (by kernel_rfl) (by kernel_rfl) (by kernel_rfl) (fun _ _ _ h => h) (Or.inr ⟨by kernel_rfl, rfl⟩) (by assumption) ?_
  try simp only [Act.put, List.setIfInBounds_toArray, List.set_cons_zero, List.set_cons_succ]
  refine wpAnyH_take' (i := 9) (v := ?v9_t1) 26 rfl rfl (by kernel_rfl) (by kernel_rfl) (by kernel_rfl) (fun _ _ _ h => h) (Or.inl ⟨by kernel_rfl, ?hy9_t1⟩) (by assumption) ?rest9_t1
  case hy9_t1 => (intro W_ hS_; (try dsimp only at hS_); go_simp; (try (with_reducible rfl)))
  try simp only [Act.put, List.setIfInBounds_toArray, List.set_cons_zero, List.set_cons_succ]
  refine wpAnyH_take' (i := 10) (v := ?v10_t1) 27 rfl rfl (by kernel_rfl) (by kernel_rfl) (by kernel_rfl) (fun _ _ _ h => h) (Or.inl ⟨by kernel_rfl, ?hy10_t1⟩) (by assumption) ?rest10_t1
  case hy10_t1 => (intro W_ hS_; (try dsimp only at hS_); go_simp; (try (with_reducible rfl)))
  try simp only [Act.put, List.setIfInBounds_toArray, List.set_cons_zero, List.set_cons_succ]
  refine wpAnyH_take' (i := 11) (v := undef) 28 rfl rfl (by kernel_rfl) (by kernel_rfl) (by kernel_rfl) (fun _ _ _ h => h) (Or.inr ⟨by kernel_rfl, rfl⟩) (by assumption) ?_
  try simp only [Act.put, List.setIfInBounds_toArray, List.set_cons_zero, List.set_cons_succ]
  refine wpAnyH_skip (i := 12) 29 rfl rfl (by kernel_rfl) (by kernel_rfl) (by assumption) ?_
  try simp only [Act.put, List.setIfInBounds_toArray, List.set_cons_zero, List.set_cons_succ]
  refine wpAnyH_take' (i := 13) (v := undef) 30 rfl rfl (by kernel_rfl) (by kernel_rfl) (by kernel_rfl) (fun _ _ _ h => h) (Or.inr ⟨by kernel_rfl, rfl⟩) (by assumption) ?_
  try simp only [Act.put, List.setIfInBounds_toArray, List.set_cons_zero, List.set_cons_succ]
  refine wpAnyH_take' (i := 14) (v := ?v14_t1) 31 rfl rfl (by kernel_rfl) (by kernel_rfl) (by kernel_rfl) (fun _ _ _ h => h) (Or.inl ⟨by kernel_rfl, ?hy14_t1⟩) (by assumption) ?rest14_t1
  case hy14_t1 => (intro W_ hS_; (try dsimp only at hS_); go_simp; (try (with_reducible rfl)))
  try simp only [Act.put, List.setIfInBounds_toArray, List.set_cons_zero, List.set_cons_succ]
  refine wpAnyH_take' (i := 15) (v := ?v15_t1) 32 rfl rfl (by kernel_rfl) (by kernel_rfl) (by kernel_rfl) (fun _ _ _ h => h) (Or.inl ⟨by kernel_rfl, ?hy15_t1⟩) (by assumption) ?rest15_t1
  case hy15_t1 => (intro W_ hS_; (try dsimp only at hS_); go_simp; (try (with_reducible rfl)))
  try simp only [Act.put, List.setIfInBounds_toArray, List.set_cons_zero, List.set_cons_succ]
  refine wpAnyH_take' (i := 16) (v := undef) 33 rfl rfl (by kernel_rfl) (by kernel_rfl) (by kernel_rfl) (fun _ _ _ h => h) (Or.inr ⟨by kernel_rfl, rfl⟩) (by assumption) ?_
  try simp only [Act.put, List.setIfInBounds_toArray, List.set_cons_zero, List.set_cons_succ]
  refine wpAnyH_skip (i := 17) 34 rfl rfl (by kernel_rfl) (by kernel_rfl) (by assumption) ?_
  try simp only [Act.put, List.setIfInBounds_toArray, List.set_cons_zero, List.set_cons_succ]
  refine wpAnyH_take' (i := 18) (v := undef) 35 rfl rfl (by kernel_rfl) (by kernel_rfl) (by kernel_rfl) (fun _ _ _ h => h) (Or.inr ⟨by kernel_rfl, rfl⟩) (by assumption) ?_
  try simp only [Act.put, List.setIfInBounds_toArray, List.set_cons_zero, List.set_cons_succ]
  refine wpAnyH_take' (i := 19) (v := ?v19_t1) 36 rfl rfl (by kernel_rfl) (by kernel_rfl) (by kernel_rfl) (fun _ _ _ h => h) (Or.inl ⟨by kernel_rfl, ?hy19_t1⟩) (by assumption) ?rest19_t1
  case hy19_t1 => (intro W_ hS_; (try dsimp only at hS_); go_simp; (try (with_reducible rfl)))
  try simp only [Act.put, List.setIfInBounds_toArray, List.set_cons_zero, List.set_cons_succ]
  refine wpAnyH_take' (i := 20) (v := ?v20_t1) 37 rfl rfl (by kernel_rfl) (by kernel_rfl) (by kernel_rfl) (fun _ _ _ h => h) (Or.inl ⟨by kernel_rfl, ?hy20_t1⟩) (by assumption) ?rest20_t1
  case hy20_t1 => (intro W_ hS_; (try dsimp only at hS_); go_simp; (try (with_reducible rfl)))
  try simp only [Act.put, List.setIfInBounds_toArray, List.set_cons_zero, List.set_cons_succ]
  refine wpAnyH_take' (i := 21) (v := undef) 38 rfl rfl (by kernel_rfl) (by kernel_rfl) (by kernel_rfl) (fun _ _ _ h => h) (Or.inr ⟨by kernel_rfl, rfl⟩) (by assumption) ?_
  try simp only [Act.put, List.setIfInBounds_toArray, List.set_cons_zero, List.set_cons_succ]
  refine wpAnyH_take' (i := 23) (v := undef) 40 rfl rfl (by kernel_rfl) (by kernel_rfl) (by kernel_rfl) (fun _ _ _ h => h) (Or.inr ⟨by kernel_rfl, rfl⟩) (by assumption) ?_
  try simp only [Act.put, List.setIfInBounds_toArray, List.set_cons_zero, List.set_cons_succ]
  refine wpAnyH_skip (i := 22) 39 rfl rfl (by kernel_rfl) (by kernel_rfl) (by assumption) ?_
  try simp only [Act.put, List.setIfInBounds_toArray, List.set_cons_zero, List.set_cons_succ]
  refine wpAnyH_skip (i := 24) 41 rfl rfl (by kernel_rfl) (by kernel_rfl) (by assumption) ?_
  try simp only [Act.put, List.setIfInBounds_toArray, List.set_cons_zero, List.set_cons_succ]
  refine wpAnyH_skip (i := 25) 42 rfl rfl (by kernel_rfl) (by kernel_rfl) (by assumption) ?_
  try simp only [Act.put, List.setIfInBounds_toArray, List.set_cons_zero, List.set_cons_succ]
  refine wpAnyH_take' (i := 26) (v := ?v26_t1) 43 rfl rfl (by kernel_rfl) (by kernel_rfl) (by kernel_rfl) (fun _ _ _ h => h) (Or.inl ⟨by kernel_rfl, ?hy26_t1⟩) (by assumption) ?rest26_t1
  case hy26_t1 => (intro W_ hS_; (try dsimp only at hS_); go_simp; (try (with_reducible rfl)))
  try simp only [Act.put, List.setIfInBounds_toArray, List.set_cons_zero, List.set_cons_succ]
  refine wpAnyH_done (by kernel_rfl) ?_ _
  obtain ⟨w2, hw2⟩ : ∃ w2, w1.drew = w2 := ⟨_, rfl⟩
  have hB2 : Below w1.heap.size w1 w2 := by rw [← hw2]; exact (below_drew1 _)
  rw [hw2]
  clear hw2
  have hT2 := below_then hT1 hB2
  have hf2 := block_below hB2 hf1
  have hg2 := block_below hB2 hg1
  have hd2 := Row.to hd1 hB2
  have he2 := Row.to he1 hB2
  clear hT1 hf1 hg1 hd1 he1 hB2
  obtain ⟨fc0, fc1, fc2, fc3, fc4⟩ := cells5' hf2
  obtain ⟨gc0, gc1, gc2, gc3, gc4⟩ := cells5' hg2
  go_wp2_with fail
  go_ret
  exact ⟨rfl, hT2⟩

set_option maxRecDepth 100000 in
set_option maxHeartbeats 2000000 in
theorem topLine_b (x : Bool) (i : Int) (r : Bool) (n : Int) (dl : List Int) (m : Nat) (hdl : dl.length = m) (A : Option Addr) (c : Nat) (x' : Bool) (i' : Int) (r' : Bool) (n' : Int) (dl' : List Int) (m' : Nat) (hdl' : dl'.length = m') (A' : Option Addr) (c' : Nat) (w : World)
    (hd : Row .u8 w w.heap.size A dl) (hb : byteB dl) (he : Row .u8 w w.heap.size A' dl') (hb' : byteB dl') (hb1 : ¬ 8 < m) (hb2 : 8 < m') :
    Calls Try.prog 4 #[.agg #[.bool x, .int .i64 i, .bool r, .int .i64 n, .slice A m c], .agg #[.bool x', .int .i64 i', .bool r', .int .i64 n', .slice A' m' c']] w fun e w' => e = .returned (.bool true) ∧ Below w.heap.size w w' := by
  have HD := Lib.hid hdl
  have HB := Lib.hid hb
  have HD' := Lib.hid hdl'
  have HB' := Lib.hid hb'
  clear hdl hb hdl' hb'
  go_enter Try.func4, Try.ntmps4
  go_wp2_with fail
  obtain ⟨w0, hw0⟩ : ∃ w0, (w.alloc (.cells #[.bool x, .int .i64 i, .bool r, .int .i64 n, .slice A m c] 24)).alloc (.cells #[.bool x', .int .i64 i', .bool r', .int .i64 n', .slice A' m' c'] 24) = w0 := ⟨_, rfl⟩
  have hT0 : Below w.heap.size w w0 := by rw [← hw0]; exact below_then (below_alloc1 _ _) (below_alloc1 _ _)
  have hf0 : w0.heap[w.heap.size]? = some (.cells #[.bool x, .int .i64 i, .bool r, .int .i64 n, .slice A m c] 24) := by rw [← hw0]; exact block_below (below_alloc1 _ _) (World.alloc_heap_new _ _)
  have hg0 : w0.heap[w.heap.size + 1]? = some (.cells #[.bool x', .int .i64 i', .bool r', .int .i64 n', .slice A' m' c'] 24) := by rw [← hw0]; have := World.alloc_heap_new (w.alloc (.cells #[.bool x, .int .i64 i, .bool r, .int .i64 n, .slice A m c] 24)) (.cells #[.bool x', .int .i64 i', .bool r', .int .i64 n', .slice A' m' c'] 24); simpa using this
  have hd0 := Row.to hd hT0
  have he0 := Row.to he hT0
  rw [hw0]
  clear hw0 hd he
  refine (head06_any w0).mono ?_
  rintro e w1 ⟨rfl, hB1⟩
  have hT1 := below_then hT0 hB1
  have hf1 := block_below hB1 hf0
  have hg1 := block_below hB1 hg0
  have hd1 := Row.to hd0 hB1
  have he1 := Row.to he0 hB1
  clear hT0 hf0 hg0 hd0 he0 hB1
  obtain ⟨fc0, fc1, fc2, fc3, fc4⟩ := cells5' hf1
  obtain ⟨gc0, gc1, gc2, gc3, gc4⟩ := cells5' hg1
  go_wp2_with fail
  clear fc0 fc1 fc2 fc3 fc4 gc0 gc1 gc2 gc3 gc4
  have k1 : decide ((8 : Int) < (m : Int)) = false := by simp; omega
  have k2 : decide (8 < m) = false := by simp; omega
  have k3 : decide ((8 : Int) < (m' : Int)) = true := by simp; omega
  have k4 : decide (8 < m') = true := by simp; omega
  refine wp_region_held_drew (S := fun W => (W.cell? ⟨w.heap.size, 0, none⟩ = some (.bool x) ∧ W.cell? ⟨w.heap.size, 1, none⟩ = some (.int .i64 i) ∧ W.cell? ⟨w.heap.size, 2, none⟩ = some (.bool r) ∧ W.cell? ⟨w.heap.size, 3, none⟩ = some (.int .i64 n) ∧ W.cell? ⟨w.heap.size, 4, none⟩ = some (.slice A m c)) ∧ (W.cell? ⟨(w.heap.size + 1), 0, none⟩ = some (.bool x') ∧ W.cell? ⟨(w.heap.size + 1), 1, none⟩ = some (.int .i64 i') ∧ W.cell? ⟨(w.heap.size + 1), 2, none⟩ = some (.bool r') ∧ W.cell? ⟨(w.heap.size + 1), 3, none⟩ = some (.int .i64 n') ∧ W.cell? ⟨(w.heap.size + 1), 4, none⟩ = some (.slice A' m' c'))) (by kernel_rfl) (by exact ⟨cells5' (block_below (below_drew1 _) hf1), cells5' (block_below (below_drew1 _) hg1)⟩) (fun hHeld_ => ?_)
  refine wpAnyH_take' (i := 0) (v := ?v0_t2) 17 rfl rfl (by kernel_rfl) (by kernel_rfl) (by kernel_rfl) (fun _ _ _ h => h) (Or.inl ⟨by kernel_rfl, ?hy0_t2⟩) (by assumption) ?rest0_t2
  case hy0_t2 => (intro W_ hS_; (try dsimp only at hS_); go_simp; (try (with_reducible rfl)))
  try simp only [Act.put, List.setIfInBounds_toArray, List.set_cons_zero, List.set_cons_succ]
  refine wpAnyH_take' (i := 1) (v := ?v1_t2) 18 rfl rfl (by kernel_rfl) (by kernel_rfl) (by kernel_rfl) (fun _ _ _ h => h) (Or.inl ⟨by kernel_rfl, ?hy1_t2⟩) (by assumption) ?rest1_t2
  case hy1_t2 => (intro W_ hS_; (try dsimp only at hS_); go_simp; (try (with_reducible rfl)))
  try simp only [Act.put, List.setIfInBounds_toArray, List.set_cons_zero, List.set_cons_succ]
  refine wpAnyH_take' (i := 2) (v := ?v2_t2) 19 rfl rfl (by kernel_rfl) (by kernel_rfl) (by kernel_rfl) (fun _ _ _ h => h) (Or.inl ⟨by kernel_rfl, ?hy2_t2⟩) (by assumption) ?rest2_t2
  case hy2_t2 => (intro W_ hS_; (try dsimp only at hS_); go_simp; (try (with_reducible rfl)))
  try simp only [Act.put, List.setIfInBounds_toArray, List.set_cons_zero, List.set_cons_succ]
  refine wpAnyH_take' (i := 3) (v := ?v3_t2) 20 rfl rfl (by kernel_rfl) (by kernel_rfl) (by kernel_rfl) (fun _ _ _ h => h) (Or.inl ⟨by kernel_rfl, ?hy3_t2⟩) (by assumption) ?rest3_t2
  case hy3_t2 => (intro W_ hS_; (try dsimp only at hS_); go_simp; (try (with_reducible rfl)))
  try simp only [Act.put, List.setIfInBounds_toArray, List.set_cons_zero, List.set_cons_succ]
  refine wpAnyH_take' (i := 4) (v := ?v4_t2) 21 rfl rfl (by kernel_rfl) (by kernel_rfl) (by kernel_rfl) (fun _ _ _ h => h) (Or.inl ⟨by kernel_rfl, ?hy4_t2⟩) (by assumption) ?rest4_t2
  case hy4_t2 => (intro W_ hS_; (try dsimp only at hS_); go_simp; (try (with_reducible rfl)))
  try simp only [Act.put, List.setIfInBounds_toArray, List.set_cons_zero, List.set_cons_succ]
  refine wpAnyH_take' (i := 5) (v := ?v5_t2) 22 rfl rfl (by kernel_rfl) (by kernel_rfl) (by kernel_rfl) (fun _ _ _ h => h) (Or.inl ⟨by kernel_rfl, ?hy5_t2⟩) (by assumption) ?rest5_t2
  case hy5_t2 => (intro W_ hS_; (try dsimp only at hS_); go_simp; (try (with_reducible rfl)))
  try simp only [Act.put, List.setIfInBounds_toArray, List.set_cons_zero, List.set_cons_succ]
  refine wpAnyH_take' (i := 6) (v := ?v6_t2) 23 rfl rfl (by kernel_rfl) (by kernel_rfl) (by kernel_rfl) (fun _ _ _ h => h) (Or.inl ⟨by kernel_rfl, ?hy6_t2⟩) (by assumption) ?rest6_t2
  case hy6_t2 => (intro W_ hS_; (try dsimp only at hS_); go_simp; (try (with_reducible rfl)))
  try simp only [Act.put, List.setIfInBounds_toArray, List.set_cons_zero, List.set_cons_succ]
  refine wpAnyH_take' (i := 7) (v := ?v7_t2) 24 rfl rfl (by kernel_rfl) (by kernel_rfl) (by kernel_rfl) (fun _ _ _ h => h) (Or.inl ⟨by kernel_rfl, ?hy7_t2⟩) (by assumption) ?rest7_t2
  case hy7_t2 => (intro W_ hS_; (try dsimp only at hS_); go_simp; (try (with_reducible rfl)))
  try simp only [Act.put, List.setIfInBounds_toArray, List.set_cons_zero, List.set_cons_succ]
  refine wpAnyH_take' (i := 8) (v := ?v8_t2) 25 rfl rfl (by kernel_rfl) (by kernel_rfl) (by kernel_rfl) (fun _ _ _ h => h) (Or.inl ⟨by kernel_rfl, ?hy8_t2⟩) (by assumption) ?rest8_t2
  case hy8_t2 => (intro W_ hS_; (try dsimp only at hS_); go_simp; (try (with_reducible rfl)))
  try simp only [Act.put, List.setIfInBounds_toArray, List.set_cons_zero, List.set_cons_succ]
  refine wpAnyH_take' (i := 9) (v := ?v9_t2) 26 rfl rfl (by kernel_rfl) (by kernel_rfl) (by kernel_rfl) (fun _ _ _ h => h) (Or.inl ⟨by kernel_rfl, ?hy9_t2⟩) (by assumption) ?rest9_t2
  case hy9_t2 => (intro W_ hS_; (try dsimp only at hS_); go_simp; (try (with_reducible rfl)))
  try simp only [Act.put, List.setIfInBounds_toArray, List.set_cons_zero, List.set_cons_succ]
  refine wpAnyH_take' (i := 10) (v := ?v10_t2) 27 rfl rfl (by kernel_rfl) (by kernel_rfl) (by kernel_rfl) (fun _ _ _ h => h) (Or.inl ⟨by kernel_rfl, ?hy10_t2⟩) (by assumption) ?rest10_t2
  case hy10_t2 => (intro W_ hS_; (try dsimp only at hS_); go_simp; (try (with_reducible rfl)))
  try simp only [Act.put, List.setIfInBounds_toArray, List.set_cons_zero, List.set_cons_succ]
  refine wpAnyH_take' (i := 11) (v := undef) 28 rfl rfl (by kernel_rfl) (by kernel_rfl) (by kernel_rfl) (fun _ _ _ h => h) (Or.inr ⟨by kernel_rfl, rfl⟩) (by assumption) ?_
  try simp only [Act.put, List.setIfInBounds_toArray, List.set_cons_zero, List.set_cons_succ]
  refine wpAnyH_skip (i := 12) 29 rfl rfl (by kernel_rfl) (by kernel_rfl) (by assumption) ?_
  try simp only [Act.put, List.setIfInBounds_toArray, List.set_cons_zero, List.set_cons_succ]
  refine wpAnyH_take' (i := 13) (v := undef) 30 rfl rfl (by kernel_rfl) (by kernel_rfl) (by kernel_rfl) (fun _ _ _ h => h) (Or.inr ⟨by kernel_rfl, rfl⟩) (by assumption) ?_
  try simp only [Act.put, List.setIfInBounds_toArray, List.set_cons_zero, List.set_cons_succ]
  refine wpAnyH_take' (i := 14) (v := ?v14_t2) 31 rfl rfl (by kernel_rfl) (by kernel_rfl) (by kernel_rfl) (fun _ _ _ h => h) (Or.inl ⟨by kernel_rfl, ?hy14_t2⟩) (by assumption) ?rest14_t2
  case hy14_t2 => (intro W_ hS_; (try dsimp only at hS_); go_simp; (try (with_reducible rfl)))
  try simp only [Act.put, List.setIfInBounds_toArray, List.set_cons_zero, List.set_cons_succ]
  refine wpAnyH_take' (i := 15) (v := ?v15_t2) 32 rfl rfl (by kernel_rfl) (by kernel_rfl) (by kernel_rfl) (fun _ _ _ h => h) (Or.inl ⟨by kernel_rfl, ?hy15_t2⟩) (by assumption) ?rest15_t2
  case hy15_t2 => (intro W_ hS_; (try dsimp only at hS_); go_simp; (try (with_reducible rfl)))
  try simp only [Act.put, List.setIfInBounds_toArray, List.set_cons_zero, List.set_cons_succ]
  refine wpAnyH_take' (i := 16) (v := undef) 33 rfl rfl (by kernel_rfl) (by kernel_rfl) (by kernel_rfl) (fun _ _ _ h => h) (Or.inr ⟨by kernel_rfl, rfl⟩) (by assumption) ?_
  try simp only [Act.put, List.setIfInBounds_toArray, List.set_cons_zero, List.set_cons_succ]
  refine wpAnyH_skip (i := 17) 34 rfl rfl (by kernel_rfl) (by kernel_rfl) (by assumption) ?_
  try simp only [Act.put, List.setIfInBounds_toArray, List.set_cons_zero, List.set_cons_succ]
  refine wpAnyH_take' (i := 18) (v := undef) 35 rfl rfl (by kernel_rfl) (by kernel_rfl) (by kernel_rfl) (fun _ _ _ h => h) (Or.inr ⟨by kernel_rfl, rfl⟩) (by assumption) ?_
  try simp only [Act.put, List.setIfInBounds_toArray, List.set_cons_zero, List.set_cons_succ]
  refine wpAnyH_take' (i := 19) (v := ?v19_t2) 36 rfl rfl (by kernel_rfl) (by kernel_rfl) (by kernel_rfl) (fun _ _ _ h => h) (Or.inl ⟨by kernel_rfl, ?hy19_t2⟩) (by assumption) ?rest19_t2
  case hy19_t2 => (intro W_ hS_; (try dsimp only at hS_); go_simp; (try (with_reducible rfl)))
  try simp only [Act.put, List.setIfInBounds_toArray, List.set_cons_zero, List.set_cons_succ]
  refine wpAnyH_take' (i := 20) (v := ?v20_t2) 37 rfl rfl (by kernel_rfl) (by kernel_rfl) (by kernel_rfl) (fun _ _ _ h => h) (Or.inl ⟨by kernel_rfl, ?hy20_t2⟩) (by assumption) ?rest20_t2
  case hy20_t2 => (intro W_ hS_; (try dsimp only at hS_); go_simp; (try (with_reducible rfl)))
  try simp only [Act.put, List.setIfInBounds_toArray, List.set_cons_zero, List.set_cons_succ]
  refine wpAnyH_take' (i := 21) (v := undef) 38 rfl rfl (by kernel_rfl) (by kernel_rfl) (by kernel_rfl) (fun _ _ _ h => h) (Or.inr ⟨by kernel_rfl, rfl⟩) (by assumption) ?_
  try simp only [Act.put, List.setIfInBounds_toArray, List.set_cons_zero, List.set_cons_succ]
  refine wpAnyH_take' (i := 23) (v := undef) 40 rfl rfl (by kernel_rfl) (by kernel_rfl) (by kernel_rfl) (fun _ _ _ h => h) (Or.inr ⟨by kernel_rfl, rfl⟩) (by assumption) ?_
  try simp only [Act.put, List.setIfInBounds_toArray, List.set_cons_zero, List.set_cons_succ]
  refine wpAnyH_skip (i := 22) 39 rfl rfl (by kernel_rfl) (by kernel_rfl) (by assumption) ?_
  try simp only [Act.put, List.setIfInBounds_toArray, List.set_cons_zero, List.set_cons_succ]
  refine wpAnyH_skip (i := 24) 41 rfl rfl (by kernel_rfl) (by kernel_rfl) (by assumption) ?_
  try simp only [Act.put, List.setIfInBounds_toArray, List.set_cons_zero, List.set_cons_succ]
  refine wpAnyH_skip (i := 25) 42 rfl rfl (by kernel_rfl) (by kernel_rfl) (by assumption) ?_
  try simp only [Act.put, List.setIfInBounds_toArray, List.set_cons_zero, List.set_cons_succ]
  refine wpAnyH_take' (i := 26) (v := ?v26_t2) 43 rfl rfl (by kernel_rfl) (by kernel_rfl) (by kernel_rfl) (fun _ _ _ h => h) (Or.inl ⟨by kernel_rfl, ?hy26_t2⟩) (by assumption) ?rest26_t2
  case hy26_t2 => (intro W_ hS_; (try dsimp only at hS_); go_simp; (try (with_reducible rfl)))
  try simp only [Act.put, List.setIfInBounds_toArray, List.set_cons_zero, List.set_cons_succ]
  refine wpAnyH_done (by kernel_rfl) ?_ _
  obtain ⟨w2, hw2⟩ : ∃ w2, w1.drew = w2 := ⟨_, rfl⟩
  have hB2 : Below w1.heap.size w1 w2 := by rw [← hw2]; exact (below_drew1 _)
  rw [hw2]
  clear hw2
  have hT2 := below_then hT1 hB2
  have hf2 := block_below hB2 hf1
  have hg2 := block_below hB2 hg1
  have hd2 := Row.to hd1 hB2
  have he2 := Row.to he1 hB2
  clear hT1 hf1 hg1 hd1 he1 hB2
  obtain ⟨fc0, fc1, fc2, fc3, fc4⟩ := cells5' hf2
  obtain ⟨gc0, gc1, gc2, gc3, gc4⟩ := cells5' hg2
  go_wp2_with fail
  go_ret
  exact ⟨rfl, hT2⟩

set_option maxRecDepth 100000 in
set_option maxHeartbeats 2000000 in
theorem topLine_c (x : Bool) (i : Int) (r : Bool) (n : Int) (dl : List Int) (m : Nat) (hdl : dl.length = m) (A : Option Addr) (c : Nat) (x' : Bool) (i' : Int) (r' : Bool) (n' : Int) (dl' : List Int) (m' : Nat) (hdl' : dl'.length = m') (A' : Option Addr) (c' : Nat) (w : World)
    (hd : Row .u8 w w.heap.size A dl) (hb : byteB dl) (he : Row .u8 w w.heap.size A' dl') (hb' : byteB dl') (hb1 : ¬ 8 < m) (hb2 : ¬ 8 < m') (hq : rightV x i r n m = false) :
    Calls Try.prog 4 #[.agg #[.bool x, .int .i64 i, .bool r, .int .i64 n, .slice A m c], .agg #[.bool x', .int .i64 i', .bool r', .int .i64 n', .slice A' m' c']] w fun e w' => e = .returned (.bool true) ∧ Below w.heap.size w w' := by
  have HD := Lib.hid hdl
  have HB := Lib.hid hb
  have HD' := Lib.hid hdl'
  have HB' := Lib.hid hb'
  clear hdl hb hdl' hb'
  have Hq := Lib.hid hq
  clear hq
  go_enter Try.func4, Try.ntmps4
  go_wp2_with fail
  obtain ⟨w0, hw0⟩ : ∃ w0, (w.alloc (.cells #[.bool x, .int .i64 i, .bool r, .int .i64 n, .slice A m c] 24)).alloc (.cells #[.bool x', .int .i64 i', .bool r', .int .i64 n', .slice A' m' c'] 24) = w0 := ⟨_, rfl⟩
  have hT0 : Below w.heap.size w w0 := by rw [← hw0]; exact below_then (below_alloc1 _ _) (below_alloc1 _ _)
  have hf0 : w0.heap[w.heap.size]? = some (.cells #[.bool x, .int .i64 i, .bool r, .int .i64 n, .slice A m c] 24) := by rw [← hw0]; exact block_below (below_alloc1 _ _) (World.alloc_heap_new _ _)
  have hg0 : w0.heap[w.heap.size + 1]? = some (.cells #[.bool x', .int .i64 i', .bool r', .int .i64 n', .slice A' m' c'] 24) := by rw [← hw0]; have := World.alloc_heap_new (w.alloc (.cells #[.bool x, .int .i64 i, .bool r, .int .i64 n, .slice A m c] 24)) (.cells #[.bool x', .int .i64 i', .bool r', .int .i64 n', .slice A' m' c'] 24); simpa using this
  have hd0 := Row.to hd hT0
  have he0 := Row.to he hT0
  rw [hw0]
  clear hw0 hd he
  refine (head06_any w0).mono ?_
  rintro e w1 ⟨rfl, hB1⟩
  have hT1 := below_then hT0 hB1
  have hf1 := block_below hB1 hf0
  have hg1 := block_below hB1 hg0
  have hd1 := Row.to hd0 hB1
  have he1 := Row.to he0 hB1
  clear hT0 hf0 hg0 hd0 he0 hB1
  obtain ⟨fc0, fc1, fc2, fc3, fc4⟩ := cells5' hf1
  obtain ⟨gc0, gc1, gc2, gc3, gc4⟩ := cells5' hg1
  go_wp2_with fail
  clear fc0 fc1 fc2 fc3 fc4 gc0 gc1 gc2 gc3 gc4
  have k1 : decide ((8 : Int) < (m : Int)) = false := by simp; omega
  have k2 : decide (8 < m) = false := by simp; omega
  have k3 : decide ((8 : Int) < (m' : Int)) = false := by simp; omega
  have k4 : decide (8 < m') = false := by simp; omega
  refine wp_region_held_drew (S := fun W => (W.cell? ⟨w.heap.size, 0, none⟩ = some (.bool x) ∧ W.cell? ⟨w.heap.size, 1, none⟩ = some (.int .i64 i) ∧ W.cell? ⟨w.heap.size, 2, none⟩ = some (.bool r) ∧ W.cell? ⟨w.heap.size, 3, none⟩ = some (.int .i64 n) ∧ W.cell? ⟨w.heap.size, 4, none⟩ = some (.slice A m c)) ∧ (W.cell? ⟨(w.heap.size + 1), 0, none⟩ = some (.bool x') ∧ W.cell? ⟨(w.heap.size + 1), 1, none⟩ = some (.int .i64 i') ∧ W.cell? ⟨(w.heap.size + 1), 2, none⟩ = some (.bool r') ∧ W.cell? ⟨(w.heap.size + 1), 3, none⟩ = some (.int .i64 n') ∧ W.cell? ⟨(w.heap.size + 1), 4, none⟩ = some (.slice A' m' c'))) (by kernel_rfl) (by exact ⟨cells5' (block_below (below_drew1 _) hf1), cells5' (block_below (below_drew1 _) hg1)⟩) (fun hHeld_ => ?_)
  refine wpAnyH_take' (i := 0) (v := ?v0_t3) 17 rfl rfl (by kernel_rfl) (by kernel_rfl) (by kernel_rfl) (fun _ _ _ h => h) (Or.inl ⟨by kernel_rfl, ?hy0_t3⟩) (by assumption) ?rest0_t3
  case hy0_t3 => (intro W_ hS_; (try dsimp only at hS_); go_simp; (try (with_reducible rfl)))
  try simp only [Act.put, List.setIfInBounds_toArray, List.set_cons_zero, List.set_cons_succ]
  refine wpAnyH_take' (i := 1) (v := ?v1_t3) 18 rfl rfl (by kernel_rfl) (by kernel_rfl) (by kernel_rfl) (fun _ _ _ h => h) (Or.inl ⟨by kernel_rfl, ?hy1_t3⟩) (by assumption) ?rest1_t3
  case hy1_t3 => (intro W_ hS_; (try dsimp only at hS_); go_simp; (try (with_reducible rfl)))
  try simp only [Act.put, List.setIfInBounds_toArray, List.set_cons_zero, List.set_cons_succ]
  refine wpAnyH_take' (i := 2) (v := ?v2_t3) 19 rfl rfl (by kernel_rfl) (by kernel_rfl) (by kernel_rfl) (fun _ _ _ h => h) (Or.inl ⟨by kernel_rfl, ?hy2_t3⟩) (by assumption) ?rest2_t3
  case hy2_t3 => (intro W_ hS_; (try dsimp only at hS_); go_simp; (try (with_reducible rfl)))
  try simp only [Act.put, List.setIfInBounds_toArray, List.set_cons_zero, List.set_cons_succ]
  refine wpAnyH_take' (i := 3) (v := ?v3_t3) 20 rfl rfl (by kernel_rfl) (by kernel_rfl) (by kernel_rfl) (fun _ _ _ h => h) (Or.inl ⟨by kernel_rfl, ?hy3_t3⟩) (by assumption) ?rest3_t3
  case hy3_t3 => (intro W_ hS_; (try dsimp only at hS_); go_simp; (try (with_reducible rfl)))
  try simp only [Act.put, List.setIfInBounds_toArray, List.set_cons_zero, List.set_cons_succ]
  refine wpAnyH_take' (i := 4) (v := ?v4_t3) 21 rfl rfl (by kernel_rfl) (by kernel_rfl) (by kernel_rfl) (fun _ _ _ h => h) (Or.inl ⟨by kernel_rfl, ?hy4_t3⟩) (by assumption) ?rest4_t3
  case hy4_t3 => (intro W_ hS_; (try dsimp only at hS_); go_simp; (try (with_reducible rfl)))
  try simp only [Act.put, List.setIfInBounds_toArray, List.set_cons_zero, List.set_cons_succ]
  refine wpAnyH_take' (i := 5) (v := ?v5_t3) 22 rfl rfl (by kernel_rfl) (by kernel_rfl) (by kernel_rfl) (fun _ _ _ h => h) (Or.inl ⟨by kernel_rfl, ?hy5_t3⟩) (by assumption) ?rest5_t3
  case hy5_t3 => (intro W_ hS_; (try dsimp only at hS_); go_simp; (try (with_reducible rfl)))
  try simp only [Act.put, List.setIfInBounds_toArray, List.set_cons_zero, List.set_cons_succ]
  refine wpAnyH_take' (i := 6) (v := ?v6_t3) 23 rfl rfl (by kernel_rfl) (by kernel_rfl) (by kernel_rfl) (fun _ _ _ h => h) (Or.inl ⟨by kernel_rfl, ?hy6_t3⟩) (by assumption) ?rest6_t3
  case hy6_t3 => (intro W_ hS_; (try dsimp only at hS_); go_simp; (try (with_reducible rfl)))
  try simp only [Act.put, List.setIfInBounds_toArray, List.set_cons_zero, List.set_cons_succ]
  refine wpAnyH_take' (i := 7) (v := ?v7_t3) 24 rfl rfl (by kernel_rfl) (by kernel_rfl) (by kernel_rfl) (fun _ _ _ h => h) (Or.inl ⟨by kernel_rfl, ?hy7_t3⟩) (by assumption) ?rest7_t3
  case hy7_t3 => (intro W_ hS_; (try dsimp only at hS_); go_simp; (try (with_reducible rfl)))
  try simp only [Act.put, List.setIfInBounds_toArray, List.set_cons_zero, List.set_cons_succ]
  refine wpAnyH_take' (i := 8) (v := ?v8_t3) 25 rfl rfl (by kernel_rfl) (by kernel_rfl) (by kernel_rfl) (fun _ _ _ h => h) (Or.inl ⟨by kernel_rfl, ?hy8_t3⟩) (by assumption) ?rest8_t3
  case hy8_t3 => (intro W_ hS_; (try dsimp only at hS_); go_simp; (try (with_reducible rfl)))
  try simp only [Act.put, List.setIfInBounds_toArray, List.set_cons_zero, List.set_cons_succ]
  refine wpAnyH_take' (i := 9) (v := ?v9_t3) 26 rfl rfl (by kernel_rfl) (by kernel_rfl) (by kernel_rfl) (fun _ _ _ h => h) (Or.inl ⟨by kernel_rfl, ?hy9_t3⟩) (by assumption) ?rest9_t3
  case hy9_t3 => (intro W_ hS_; (try dsimp only at hS_); go_simp; (try (with_reducible rfl)))
  try simp only [Act.put, List.setIfInBounds_toArray, List.set_cons_zero, List.set_cons_succ]
  refine wpAnyH_take' (i := 10) (v := ?v10_t3) 27 rfl rfl (by kernel_rfl) (by kernel_rfl) (by kernel_rfl) (fun _ _ _ h => h) (Or.inl ⟨by kernel_rfl, ?hy10_t3⟩) (by assumption) ?rest10_t3
  case hy10_t3 => (intro W_ hS_; (try dsimp only at hS_); go_simp; (try (with_reducible rfl)))
  try simp only [Act.put, List.setIfInBounds_toArray, List.set_cons_zero, List.set_cons_succ]
  refine wpAnyH_take' (i := 11) (v := ?v11_t3) 28 rfl rfl (by kernel_rfl) (by kernel_rfl) (by kernel_rfl) (fun _ _ _ h => h) (Or.inl ⟨by kernel_rfl, ?hy11_t3⟩) (by assumption) ?rest11_t3
  case hy11_t3 => (intro W_ hS_; (try dsimp only at hS_); go_simp; (try (with_reducible rfl)))
  try simp only [Act.put, List.setIfInBounds_toArray, List.set_cons_zero, List.set_cons_succ]
  refine wpAnyH_ready (rs := [12]) (by kernel_rfl) (by simp) ?_
  refine AllReadyH.cons rfl (fun K_ hK_ => ?_) AllReadyH.nil
  go_simp
  refine (refFrRight_q x i r n A m c _ false Hq.out).mono ?_; rintro e wr12 ⟨rfl, hBr12⟩
  go_wp2_with fail
  refine hK_.out _ _ (by exact ⟨cells5' (block_below hBr12 (block_below (below_drew1 _) hf1)), cells5' (block_below hBr12 (block_below (below_drew1 _) hg1))⟩) (fun hHeld_12 => ?_)
  clear hK_
  try simp only [Act.put, List.setIfInBounds_toArray, List.set_cons_zero, List.set_cons_succ]
  refine wpAnyH_take' (i := 13) (v := ?v13_t3) 30 rfl rfl (by kernel_rfl) (by kernel_rfl) (by kernel_rfl) (fun _ _ _ h => h) (Or.inl ⟨by kernel_rfl, ?hy13_t3⟩) (by assumption) ?rest13_t3
  case hy13_t3 => (intro W_ hS_; (try dsimp only at hS_); go_simp; (try (with_reducible rfl)))
  try simp only [Act.put, List.setIfInBounds_toArray, List.set_cons_zero, List.set_cons_succ]
  refine wpAnyH_take' (i := 14) (v := ?v14_t3) 31 rfl rfl (by kernel_rfl) (by kernel_rfl) (by kernel_rfl) (fun _ _ _ h => h) (Or.inl ⟨by kernel_rfl, ?hy14_t3⟩) (by assumption) ?rest14_t3
  case hy14_t3 => (intro W_ hS_; (try dsimp only at hS_); go_simp; (try (with_reducible rfl)))
  try simp only [Act.put, List.setIfInBounds_toArray, List.set_cons_zero, List.set_cons_succ]
  refine wpAnyH_take' (i := 15) (v := ?v15_t3) 32 rfl rfl (by kernel_rfl) (by kernel_rfl) (by kernel_rfl) (fun _ _ _ h => h) (Or.inl ⟨by kernel_rfl, ?hy15_t3⟩) (by assumption) ?rest15_t3
  case hy15_t3 => (intro W_ hS_; (try dsimp only at hS_); go_simp; (try (with_reducible rfl)))
  try simp only [Act.put, List.setIfInBounds_toArray, List.set_cons_zero, List.set_cons_succ]
  refine wpAnyH_take' (i := 16) (v := undef) 33 rfl rfl (by kernel_rfl) (by kernel_rfl) (by kernel_rfl) (fun _ _ _ h => h) (Or.inr ⟨by kernel_rfl, rfl⟩) (by assumption) ?_
  try simp only [Act.put, List.setIfInBounds_toArray, List.set_cons_zero, List.set_cons_succ]
  refine wpAnyH_skip (i := 17) 34 rfl rfl (by kernel_rfl) (by kernel_rfl) (by assumption) ?_
  try simp only [Act.put, List.setIfInBounds_toArray, List.set_cons_zero, List.set_cons_succ]
  refine wpAnyH_take' (i := 18) (v := undef) 35 rfl rfl (by kernel_rfl) (by kernel_rfl) (by kernel_rfl) (fun _ _ _ h => h) (Or.inr ⟨by kernel_rfl, rfl⟩) (by assumption) ?_
  try simp only [Act.put, List.setIfInBounds_toArray, List.set_cons_zero, List.set_cons_succ]
  refine wpAnyH_take' (i := 19) (v := ?v19_t3) 36 rfl rfl (by kernel_rfl) (by kernel_rfl) (by kernel_rfl) (fun _ _ _ h => h) (Or.inl ⟨by kernel_rfl, ?hy19_t3⟩) (by assumption) ?rest19_t3
  case hy19_t3 => (intro W_ hS_; (try dsimp only at hS_); go_simp; (try (with_reducible rfl)))
  try simp only [Act.put, List.setIfInBounds_toArray, List.set_cons_zero, List.set_cons_succ]
  refine wpAnyH_take' (i := 20) (v := ?v20_t3) 37 rfl rfl (by kernel_rfl) (by kernel_rfl) (by kernel_rfl) (fun _ _ _ h => h) (Or.inl ⟨by kernel_rfl, ?hy20_t3⟩) (by assumption) ?rest20_t3
  case hy20_t3 => (intro W_ hS_; (try dsimp only at hS_); go_simp; (try (with_reducible rfl)))
  try simp only [Act.put, List.setIfInBounds_toArray, List.set_cons_zero, List.set_cons_succ]
  refine wpAnyH_take' (i := 21) (v := undef) 38 rfl rfl (by kernel_rfl) (by kernel_rfl) (by kernel_rfl) (fun _ _ _ h => h) (Or.inr ⟨by kernel_rfl, rfl⟩) (by assumption) ?_
  try simp only [Act.put, List.setIfInBounds_toArray, List.set_cons_zero, List.set_cons_succ]
  refine wpAnyH_take' (i := 23) (v := undef) 40 rfl rfl (by kernel_rfl) (by kernel_rfl) (by kernel_rfl) (fun _ _ _ h => h) (Or.inr ⟨by kernel_rfl, rfl⟩) (by assumption) ?_
  try simp only [Act.put, List.setIfInBounds_toArray, List.set_cons_zero, List.set_cons_succ]
  refine wpAnyH_skip (i := 22) 39 rfl rfl (by kernel_rfl) (by kernel_rfl) (by assumption) ?_
  try simp only [Act.put, List.setIfInBounds_toArray, List.set_cons_zero, List.set_cons_succ]
  refine wpAnyH_skip (i := 24) 41 rfl rfl (by kernel_rfl) (by kernel_rfl) (by assumption) ?_
  try simp only [Act.put, List.setIfInBounds_toArray, List.set_cons_zero, List.set_cons_succ]
  refine wpAnyH_skip (i := 25) 42 rfl rfl (by kernel_rfl) (by kernel_rfl) (by assumption) ?_
  try simp only [Act.put, List.setIfInBounds_toArray, List.set_cons_zero, List.set_cons_succ]
  refine wpAnyH_take' (i := 26) (v := ?v26_t3) 43 rfl rfl (by kernel_rfl) (by kernel_rfl) (by kernel_rfl) (fun _ _ _ h => h) (Or.inl ⟨by kernel_rfl, ?hy26_t3⟩) (by assumption) ?rest26_t3
  case hy26_t3 => (intro W_ hS_; (try dsimp only at hS_); go_simp; (try (with_reducible rfl)))
  try simp only [Act.put, List.setIfInBounds_toArray, List.set_cons_zero, List.set_cons_succ]
  refine wpAnyH_done (by kernel_rfl) ?_ _
  obtain ⟨w2, hw2⟩ : ∃ w2, wr12 = w2 := ⟨_, rfl⟩
  have hB2 : Below w1.heap.size w1 w2 := by rw [← hw2]; exact (below_then (below_drew1 _) hBr12)
  rw [hw2]
  clear hw2
  have hT2 := below_then hT1 hB2
  have hf2 := block_below hB2 hf1
  have hg2 := block_below hB2 hg1
  have hd2 := Row.to hd1 hB2
  have he2 := Row.to he1 hB2
  clear hT1 hf1 hg1 hd1 he1 hB2
  obtain ⟨fc0, fc1, fc2, fc3, fc4⟩ := cells5' hf2
  obtain ⟨gc0, gc1, gc2, gc3, gc4⟩ := cells5' hg2
  go_wp2_with fail
  go_ret
  exact ⟨rfl, hT2⟩

set_option maxRecDepth 100000 in
set_option maxHeartbeats 2000000 in
theorem topLine_d (x : Bool) (i : Int) (r : Bool) (n : Int) (dl : List Int) (m : Nat) (hdl : dl.length = m) (A : Option Addr) (c : Nat) (x' : Bool) (i' : Int) (r' : Bool) (n' : Int) (dl' : List Int) (m' : Nat) (hdl' : dl'.length = m') (A' : Option Addr) (c' : Nat) (w : World)
    (hd : Row .u8 w w.heap.size A dl) (hb : byteB dl) (he : Row .u8 w w.heap.size A' dl') (hb' : byteB dl') (hb1 : ¬ 8 < m) (hb2 : ¬ 8 < m') (hq : rightV x i r n m = true) (hp : rightV x' i' r' n' m' = false) :
    Calls Try.prog 4 #[.agg #[.bool x, .int .i64 i, .bool r, .int .i64 n, .slice A m c], .agg #[.bool x', .int .i64 i', .bool r', .int .i64 n', .slice A' m' c']] w fun e w' => e = .returned (.bool true) ∧ Below w.heap.size w w' := by
  have HD := Lib.hid hdl
  have HB := Lib.hid hb
  have HD' := Lib.hid hdl'
  have HB' := Lib.hid hb'
  clear hdl hb hdl' hb'
  have Hq := Lib.hid hq
  clear hq
  have Hp := Lib.hid hp
  clear hp
  go_enter Try.func4, Try.ntmps4
  go_wp2_with fail
  obtain ⟨w0, hw0⟩ : ∃ w0, (w.alloc (.cells #[.bool x, .int .i64 i, .bool r, .int .i64 n, .slice A m c] 24)).alloc (.cells #[.bool x', .int .i64 i', .bool r', .int .i64 n', .slice A' m' c'] 24) = w0 := ⟨_, rfl⟩
  have hT0 : Below w.heap.size w w0 := by rw [← hw0]; exact below_then (below_alloc1 _ _) (below_alloc1 _ _)
  have hf0 : w0.heap[w.heap.size]? = some (.cells #[.bool x, .int .i64 i, .bool r, .int .i64 n, .slice A m c] 24) := by rw [← hw0]; exact block_below (below_alloc1 _ _) (World.alloc_heap_new _ _)
  have hg0 : w0.heap[w.heap.size + 1]? = some (.cells #[.bool x', .int .i64 i', .bool r', .int .i64 n', .slice A' m' c'] 24) := by rw [← hw0]; have := World.alloc_heap_new (w.alloc (.cells #[.bool x, .int .i64 i, .bool r, .int .i64 n, .slice A m c] 24)) (.cells #[.bool x', .int .i64 i', .bool r', .int .i64 n', .slice A' m' c'] 24); simpa using this
  have hd0 := Row.to hd hT0
  have he0 := Row.to he hT0
  rw [hw0]
  clear hw0 hd he
  refine (head06_any w0).mono ?_
  rintro e w1 ⟨rfl, hB1⟩
  have hT1 := below_then hT0 hB1
  have hf1 := block_below hB1 hf0
  have hg1 := block_below hB1 hg0
  have hd1 := Row.to hd0 hB1
  have he1 := Row.to he0 hB1
  clear hT0 hf0 hg0 hd0 he0 hB1
  obtain ⟨fc0, fc1, fc2, fc3, fc4⟩ := cells5' hf1
  obtain ⟨gc0, gc1, gc2, gc3, gc4⟩ := cells5' hg1
  go_wp2_with fail
  clear fc0 fc1 fc2 fc3 fc4 gc0 gc1 gc2 gc3 gc4
  have k1 : decide ((8 : Int) < (m : Int)) = false := by simp; omega
  have k2 : decide (8 < m) = false := by simp; omega
  have k3 : decide ((8 : Int) < (m' : Int)) = false := by simp; omega
  have k4 : decide (8 < m') = false := by simp; omega
  refine wp_region_held_drew (S := fun W => (W.cell? ⟨w.heap.size, 0, none⟩ = some (.bool x) ∧ W.cell? ⟨w.heap.size, 1, none⟩ = some (.int .i64 i) ∧ W.cell? ⟨w.heap.size, 2, none⟩ = some (.bool r) ∧ W.cell? ⟨w.heap.size, 3, none⟩ = some (.int .i64 n) ∧ W.cell? ⟨w.heap.size, 4, none⟩ = some (.slice A m c)) ∧ (W.cell? ⟨(w.heap.size + 1), 0, none⟩ = some (.bool x') ∧ W.cell? ⟨(w.heap.size + 1), 1, none⟩ = some (.int .i64 i') ∧ W.cell? ⟨(w.heap.size + 1), 2, none⟩ = some (.bool r') ∧ W.cell? ⟨(w.heap.size + 1), 3, none⟩ = some (.int .i64 n') ∧ W.cell? ⟨(w.heap.size + 1), 4, none⟩ = some (.slice A' m' c'))) (by kernel_rfl) (by exact ⟨cells5' (block_below (below_drew1 _) hf1), cells5' (block_below (below_drew1 _) hg1)⟩) (fun hHeld_ => ?_)
  refine wpAnyH_take' (i := 0) (v := ?v0_t4) 17 rfl rfl (by kernel_rfl) (by kernel_rfl) (by kernel_rfl) (fun _ _ _ h => h) (Or.inl ⟨by kernel_rfl, ?hy0_t4⟩) (by assumption) ?rest0_t4
  case hy0_t4 => (intro W_ hS_; (try dsimp only at hS_); go_simp; (try (with_reducible rfl)))
  try simp only [Act.put, List.setIfInBounds_toArray, List.set_cons_zero, List.set_cons_succ]
  refine wpAnyH_take' (i := 1) (v := ?v1_t4) 18 rfl rfl (by kernel_rfl) (by kernel_rfl) (by kernel_rfl) (fun _ _ _ h => h) (Or.inl ⟨by kernel_rfl, ?hy1_t4⟩) (by assumption) ?rest1_t4
  case hy1_t4 => (intro W_ hS_; (try dsimp only at hS_); go_simp; (try (with_reducible rfl)))
  try simp only [Act.put, List.setIfInBounds_toArray, List.set_cons_zero, List.set_cons_succ]
  refine wpAnyH_take' (i := 2) (v := ?v2_t4) 19 rfl rfl (by kernel_rfl) (by kernel_rfl) (by kernel_rfl) (fun _ _ _ h => h) (Or.inl ⟨by kernel_rfl, ?hy2_t4⟩) (by assumption) ?rest2_t4
  case hy2_t4 => (intro W_ hS_; (try dsimp only at hS_); go_simp; (try (with_reducible rfl)))
  try simp only [Act.put, List.setIfInBounds_toArray, List.set_cons_zero, List.set_cons_succ]
  refine wpAnyH_take' (i := 3) (v := ?v3_t4) 20 rfl rfl (by kernel_rfl) (by kernel_rfl) (by kernel_rfl) (fun _ _ _ h => h) (Or.inl ⟨by kernel_rfl, ?hy3_t4⟩) (by assumption) ?rest3_t4
  case hy3_t4 => (intro W_ hS_; (try dsimp only at hS_); go_simp; (try (with_reducible rfl)))
  try simp only [Act.put, List.setIfInBounds_toArray, List.set_cons_zero, List.set_cons_succ]
  refine wpAnyH_take' (i := 4) (v := ?v4_t4) 21 rfl rfl (by kernel_rfl) (by kernel_rfl) (by kernel_rfl) (fun _ _ _ h => h) (Or.inl ⟨by kernel_rfl, ?hy4_t4⟩) (by assumption) ?rest4_t4
  case hy4_t4 => (intro W_ hS_; (try dsimp only at hS_); go_simp; (try (with_reducible rfl)))
  try simp only [Act.put, List.setIfInBounds_toArray, List.set_cons_zero, List.set_cons_succ]
  refine wpAnyH_take' (i := 5) (v := ?v5_t4) 22 rfl rfl (by kernel_rfl) (by kernel_rfl) (by kernel_rfl) (fun _ _ _ h => h) (Or.inl ⟨by kernel_rfl, ?hy5_t4⟩) (by assumption) ?rest5_t4
  case hy5_t4 => (intro W_ hS_; (try dsimp only at hS_); go_simp; (try (with_reducible rfl)))
  try simp only [Act.put, List.setIfInBounds_toArray, List.set_cons_zero, List.set_cons_succ]
  refine wpAnyH_take' (i := 6) (v := ?v6_t4) 23 rfl rfl (by kernel_rfl) (by kernel_rfl) (by kernel_rfl) (fun _ _ _ h => h) (Or.inl ⟨by kernel_rfl, ?hy6_t4⟩) (by assumption) ?rest6_t4
  case hy6_t4 => (intro W_ hS_; (try dsimp only at hS_); go_simp; (try (with_reducible rfl)))
  try simp only [Act.put, List.setIfInBounds_toArray, List.set_cons_zero, List.set_cons_succ]
  refine wpAnyH_take' (i := 7) (v := ?v7_t4) 24 rfl rfl (by kernel_rfl) (by kernel_rfl) (by kernel_rfl) (fun _ _ _ h => h) (Or.inl ⟨by kernel_rfl, ?hy7_t4⟩) (by assumption) ?rest7_t4
  case hy7_t4 => (intro W_ hS_; (try dsimp only at hS_); go_simp; (try (with_reducible rfl)))
  try simp only [Act.put, List.setIfInBounds_toArray, List.set_cons_zero, List.set_cons_succ]
  refine wpAnyH_take' (i := 8) (v := ?v8_t4) 25 rfl rfl (by kernel_rfl) (by kernel_rfl) (by kernel_rfl) (fun _ _ _ h => h) (Or.inl ⟨by kernel_rfl, ?hy8_t4⟩) (by assumption) ?rest8_t4
  case hy8_t4 => (intro W_ hS_; (try dsimp only at hS_); go_simp; (try (with_reducible rfl)))
  try simp only [Act.put, List.setIfInBounds_toArray, List.set_cons_zero, List.set_cons_succ]
  refine wpAnyH_take' (i := 9) (v := ?v9_t4) 26 rfl rfl (by kernel_rfl) (by kernel_rfl) (by kernel_rfl) (fun _ _ _ h => h) (Or.inl ⟨by kernel_rfl, ?hy9_t4⟩) (by assumption) ?rest9_t4
  case hy9_t4 => (intro W_ hS_; (try dsimp only at hS_); go_simp; (try (with_reducible rfl)))
  try simp only [Act.put, List.setIfInBounds_toArray, List.set_cons_zero, List.set_cons_succ]
  refine wpAnyH_take' (i := 10) (v := ?v10_t4) 27 rfl rfl (by kernel_rfl) (by kernel_rfl) (by kernel_rfl) (fun _ _ _ h => h) (Or.inl ⟨by kernel_rfl, ?hy10_t4⟩) (by assumption) ?rest10_t4
  case hy10_t4 => (intro W_ hS_; (try dsimp only at hS_); go_simp; (try (with_reducible rfl)))
  try simp only [Act.put, List.setIfInBounds_toArray, List.set_cons_zero, List.set_cons_succ]
  refine wpAnyH_take' (i := 11) (v := ?v11_t4) 28 rfl rfl (by kernel_rfl) (by kernel_rfl) (by kernel_rfl) (fun _ _ _ h => h) (Or.inl ⟨by kernel_rfl, ?hy11_t4⟩) (by assumption) ?rest11_t4
  case hy11_t4 => (intro W_ hS_; (try dsimp only at hS_); go_simp; (try (with_reducible rfl)))
  try simp only [Act.put, List.setIfInBounds_toArray, List.set_cons_zero, List.set_cons_succ]
  refine wpAnyH_ready (rs := [12]) (by kernel_rfl) (by simp) ?_
  refine AllReadyH.cons rfl (fun K_ hK_ => ?_) AllReadyH.nil
  go_simp
  refine (refFrRight_q x i r n A m c _ true Hq.out).mono ?_; rintro e wr12 ⟨rfl, hBr12⟩
  go_wp2_with fail
  refine hK_.out _ _ (by exact ⟨cells5' (block_below hBr12 (block_below (below_drew1 _) hf1)), cells5' (block_below hBr12 (block_below (below_drew1 _) hg1))⟩) (fun hHeld_12 => ?_)
  clear hK_
  try simp only [Act.put, List.setIfInBounds_toArray, List.set_cons_zero, List.set_cons_succ]
  refine wpAnyH_take' (i := 13) (v := ?v13_t4) 30 rfl rfl (by kernel_rfl) (by kernel_rfl) (by kernel_rfl) (fun _ _ _ h => h) (Or.inl ⟨by kernel_rfl, ?hy13_t4⟩) (by assumption) ?rest13_t4
  case hy13_t4 => (intro W_ hS_; (try dsimp only at hS_); go_simp; (try (with_reducible rfl)))
  try simp only [Act.put, List.setIfInBounds_toArray, List.set_cons_zero, List.set_cons_succ]
  refine wpAnyH_take' (i := 14) (v := ?v14_t4) 31 rfl rfl (by kernel_rfl) (by kernel_rfl) (by kernel_rfl) (fun _ _ _ h => h) (Or.inl ⟨by kernel_rfl, ?hy14_t4⟩) (by assumption) ?rest14_t4
  case hy14_t4 => (intro W_ hS_; (try dsimp only at hS_); go_simp; (try (with_reducible rfl)))
  try simp only [Act.put, List.setIfInBounds_toArray, List.set_cons_zero, List.set_cons_succ]
  refine wpAnyH_take' (i := 15) (v := ?v15_t4) 32 rfl rfl (by kernel_rfl) (by kernel_rfl) (by kernel_rfl) (fun _ _ _ h => h) (Or.inl ⟨by kernel_rfl, ?hy15_t4⟩) (by assumption) ?rest15_t4
  case hy15_t4 => (intro W_ hS_; (try dsimp only at hS_); go_simp; (try (with_reducible rfl)))
  try simp only [Act.put, List.setIfInBounds_toArray, List.set_cons_zero, List.set_cons_succ]
  refine wpAnyH_take' (i := 16) (v := ?v16_t4) 33 rfl rfl (by kernel_rfl) (by kernel_rfl) (by kernel_rfl) (fun _ _ _ h => h) (Or.inl ⟨by kernel_rfl, ?hy16_t4⟩) (by assumption) ?rest16_t4
  case hy16_t4 => (intro W_ hS_; (try dsimp only at hS_); go_simp; (try (with_reducible rfl)))
  try simp only [Act.put, List.setIfInBounds_toArray, List.set_cons_zero, List.set_cons_succ]
  refine wpAnyH_ready (rs := [17]) (by kernel_rfl) (by simp) ?_
  refine AllReadyH.cons rfl (fun K_ hK_ => ?_) AllReadyH.nil
  go_simp
  refine (refFrRight_q x' i' r' n' A' m' c' _ false Hp.out).mono ?_; rintro e wr17 ⟨rfl, hBr17⟩
  go_wp2_with fail
  refine hK_.out _ _ (by exact ⟨cells5' (block_below hBr17 (block_below hBr12 (block_below (below_drew1 _) hf1))), cells5' (block_below hBr17 (block_below hBr12 (block_below (below_drew1 _) hg1)))⟩) (fun hHeld_17 => ?_)
  clear hK_
  try simp only [Act.put, List.setIfInBounds_toArray, List.set_cons_zero, List.set_cons_succ]
  refine wpAnyH_take' (i := 18) (v := ?v18_t4) 35 rfl rfl (by kernel_rfl) (by kernel_rfl) (by kernel_rfl) (fun _ _ _ h => h) (Or.inl ⟨by kernel_rfl, ?hy18_t4⟩) (by assumption) ?rest18_t4
  case hy18_t4 => (intro W_ hS_; (try dsimp only at hS_); go_simp; (try (with_reducible rfl)))
  try simp only [Act.put, List.setIfInBounds_toArray, List.set_cons_zero, List.set_cons_succ]
  refine wpAnyH_take' (i := 19) (v := ?v19_t4) 36 rfl rfl (by kernel_rfl) (by kernel_rfl) (by kernel_rfl) (fun _ _ _ h => h) (Or.inl ⟨by kernel_rfl, ?hy19_t4⟩) (by assumption) ?rest19_t4
  case hy19_t4 => (intro W_ hS_; (try dsimp only at hS_); go_simp; (try (with_reducible rfl)))
  try simp only [Act.put, List.setIfInBounds_toArray, List.set_cons_zero, List.set_cons_succ]
  refine wpAnyH_take' (i := 20) (v := ?v20_t4) 37 rfl rfl (by kernel_rfl) (by kernel_rfl) (by kernel_rfl) (fun _ _ _ h => h) (Or.inl ⟨by kernel_rfl, ?hy20_t4⟩) (by assumption) ?rest20_t4
  case hy20_t4 => (intro W_ hS_; (try dsimp only at hS_); go_simp; (try (with_reducible rfl)))
  try simp only [Act.put, List.setIfInBounds_toArray, List.set_cons_zero, List.set_cons_succ]
  refine wpAnyH_take' (i := 21) (v := undef) 38 rfl rfl (by kernel_rfl) (by kernel_rfl) (by kernel_rfl) (fun _ _ _ h => h) (Or.inr ⟨by kernel_rfl, rfl⟩) (by assumption) ?_
  try simp only [Act.put, List.setIfInBounds_toArray, List.set_cons_zero, List.set_cons_succ]
  refine wpAnyH_take' (i := 23) (v := undef) 40 rfl rfl (by kernel_rfl) (by kernel_rfl) (by kernel_rfl) (fun _ _ _ h => h) (Or.inr ⟨by kernel_rfl, rfl⟩) (by assumption) ?_
  try simp only [Act.put, List.setIfInBounds_toArray, List.set_cons_zero, List.set_cons_succ]
  refine wpAnyH_skip (i := 22) 39 rfl rfl (by kernel_rfl) (by kernel_rfl) (by assumption) ?_
  try simp only [Act.put, List.setIfInBounds_toArray, List.set_cons_zero, List.set_cons_succ]
  refine wpAnyH_skip (i := 24) 41 rfl rfl (by kernel_rfl) (by kernel_rfl) (by assumption) ?_
  try simp only [Act.put, List.setIfInBounds_toArray, List.set_cons_zero, List.set_cons_succ]
  refine wpAnyH_skip (i := 25) 42 rfl rfl (by kernel_rfl) (by kernel_rfl) (by assumption) ?_
  try simp only [Act.put, List.setIfInBounds_toArray, List.set_cons_zero, List.set_cons_succ]
  refine wpAnyH_take' (i := 26) (v := ?v26_t4) 43 rfl rfl (by kernel_rfl) (by kernel_rfl) (by kernel_rfl) (fun _ _ _ h => h) (Or.inl ⟨by kernel_rfl, ?hy26_t4⟩) (by assumption) ?rest26_t4
  case hy26_t4 => (intro W_ hS_; (try dsimp only at hS_); go_simp; (try (with_reducible rfl)))
  try simp only [Act.put, List.setIfInBounds_toArray, List.set_cons_zero, List.set_cons_succ]
  refine wpAnyH_done (by kernel_rfl) ?_ _
  obtain ⟨w2, hw2⟩ : ∃ w2, wr17 = w2 := ⟨_, rfl⟩
  have hB2 : Below w1.heap.size w1 w2 := by rw [← hw2]; exact (below_then (below_then (below_drew1 _) hBr12) hBr17)
  rw [hw2]
  clear hw2
  have hT2 := below_then hT1 hB2
  have hf2 := block_below hB2 hf1
  have hg2 := block_below hB2 hg1
  have hd2 := Row.to hd1 hB2
  have he2 := Row.to he1 hB2
  clear hT1 hf1 hg1 hd1 he1 hB2
  obtain ⟨fc0, fc1, fc2, fc3, fc4⟩ := cells5' hf2
  obtain ⟨gc0, gc1, gc2, gc3, gc4⟩ := cells5' hg2
  go_wp2_with fail
  go_ret
  exact ⟨rfl, hT2⟩

set_option maxRecDepth 100000 in
set_option maxHeartbeats 2000000 in
theorem topLine_e (x : Bool) (i : Int) (r : Bool) (n : Int) (dl : List Int) (m : Nat) (hdl : dl.length = m) (A : Option Addr) (c : Nat) (x' : Bool) (i' : Int) (r' : Bool) (n' : Int) (dl' : List Int) (m' : Nat) (hdl' : dl'.length = m') (A' : Option Addr) (c' : Nat) (w : World)
    (hd : Row .u8 w w.heap.size A dl) (hb : byteB dl) (he : Row .u8 w w.heap.size A' dl') (hb' : byteB dl') (hb1 : ¬ 8 < m) (hb2 : ¬ 8 < m') (hq : rightV x i r n m = true) (hp : rightV x' i' r' n' m' = true) (hs : sameB (rankF (⟨x, i, r, n, A, m, c⟩ : FV)) (rankF (⟨x', i', r', n', A', m', c'⟩ : FV)) = true) :
    Calls Try.prog 4 #[.agg #[.bool x, .int .i64 i, .bool r, .int .i64 n, .slice A m c], .agg #[.bool x', .int .i64 i', .bool r', .int .i64 n', .slice A' m' c']] w fun e w' => e = .returned (.bool true) ∧ Below w.heap.size w w' := by
  have HD := Lib.hid hdl
  have HB := Lib.hid hb
  have HD' := Lib.hid hdl'
  have HB' := Lib.hid hb'
  clear hdl hb hdl' hb'
  have Hq := Lib.hid hq
  clear hq
  have Hp := Lib.hid hp
  clear hp
  have Hs := Lib.hid hs
  clear hs
  go_enter Try.func4, Try.ntmps4
  go_wp2_with fail
  obtain ⟨w0, hw0⟩ : ∃ w0, (w.alloc (.cells #[.bool x, .int .i64 i, .bool r, .int .i64 n, .slice A m c] 24)).alloc (.cells #[.bool x', .int .i64 i', .bool r', .int .i64 n', .slice A' m' c'] 24) = w0 := ⟨_, rfl⟩
  have hT0 : Below w.heap.size w w0 := by rw [← hw0]; exact below_then (below_alloc1 _ _) (below_alloc1 _ _)
  have hf0 : w0.heap[w.heap.size]? = some (.cells #[.bool x, .int .i64 i, .bool r, .int .i64 n, .slice A m c] 24) := by rw [← hw0]; exact block_below (below_alloc1 _ _) (World.alloc_heap_new _ _)
  have hg0 : w0.heap[w.heap.size + 1]? = some (.cells #[.bool x', .int .i64 i', .bool r', .int .i64 n', .slice A' m' c'] 24) := by rw [← hw0]; have := World.alloc_heap_new (w.alloc (.cells #[.bool x, .int .i64 i, .bool r, .int .i64 n, .slice A m c] 24)) (.cells #[.bool x', .int .i64 i', .bool r', .int .i64 n', .slice A' m' c'] 24); simpa using this
  have hd0 := Row.to hd hT0
  have he0 := Row.to he hT0
  rw [hw0]
  clear hw0 hd he
  refine (head06_any w0).mono ?_
  rintro e w1 ⟨rfl, hB1⟩
  have hT1 := below_then hT0 hB1
  have hf1 := block_below hB1 hf0
  have hg1 := block_below hB1 hg0
  have hd1 := Row.to hd0 hB1
  have he1 := Row.to he0 hB1
  clear hT0 hf0 hg0 hd0 he0 hB1
  obtain ⟨fc0, fc1, fc2, fc3, fc4⟩ := cells5' hf1
  obtain ⟨gc0, gc1, gc2, gc3, gc4⟩ := cells5' hg1
  go_wp2_with fail
  clear fc0 fc1 fc2 fc3 fc4 gc0 gc1 gc2 gc3 gc4
  have k1 : decide ((8 : Int) < (m : Int)) = false := by simp; omega
  have k2 : decide (8 < m) = false := by simp; omega
  have k3 : decide ((8 : Int) < (m' : Int)) = false := by simp; omega
  have k4 : decide (8 < m') = false := by simp; omega
  obtain ⟨ID, L, rfl, rfl, hID, hL, -⟩ := right_ok Hq.out
  obtain ⟨ID', L', rfl, rfl, hID', hL', -⟩ := right_ok Hp.out
  have hok1 : FOk (⟨x, (ID : Int), r, (L : Int), A, m, c⟩ : FV) := ⟨ID, rfl, hID⟩
  have hok2 : FOk (⟨x', (ID' : Int), r', (L' : Int), A', m', c'⟩ : FV) := ⟨ID', rfl, hID'⟩
  obtain ⟨q1, hq1⟩ : ∃ q1, (rankF (⟨x, (ID : Int), r, (L : Int), A, m, c⟩ : FV)).length = q1 := ⟨_, rfl⟩
  obtain ⟨q2, hq2⟩ : ∃ q2, (rankF (⟨x', (ID' : Int), r', (L' : Int), A', m', c'⟩ : FV)).length = q2 := ⟨_, rfl⟩
  have hq1l : q1 ≤ 32 := by rw [← hq1]; exact rankF_le _
  have hq2l : q2 ≤ 32 := by rw [← hq2]; exact rankF_le _
  have Hq1 := Lib.hid hq1
  have Hq2 := Lib.hid hq2
  clear hq1 hq2
  refine wp_region_held_drew (S := fun W => (W.cell? ⟨w.heap.size, 0, none⟩ = some (.bool x) ∧ W.cell? ⟨w.heap.size, 1, none⟩ = some (.int .i64 ID) ∧ W.cell? ⟨w.heap.size, 2, none⟩ = some (.bool r) ∧ W.cell? ⟨w.heap.size, 3, none⟩ = some (.int .i64 L) ∧ W.cell? ⟨w.heap.size, 4, none⟩ = some (.slice A m c)) ∧ (W.cell? ⟨(w.heap.size + 1), 0, none⟩ = some (.bool x') ∧ W.cell? ⟨(w.heap.size + 1), 1, none⟩ = some (.int .i64 ID') ∧ W.cell? ⟨(w.heap.size + 1), 2, none⟩ = some (.bool r') ∧ W.cell? ⟨(w.heap.size + 1), 3, none⟩ = some (.int .i64 L') ∧ W.cell? ⟨(w.heap.size + 1), 4, none⟩ = some (.slice A' m' c'))) (by kernel_rfl) (by exact ⟨cells5' (block_below (below_drew1 _) hf1), cells5' (block_below (below_drew1 _) hg1)⟩) (fun hHeld_ => ?_)
  refine wpAnyH_take' (i := 0) (v := ?v0_t5) 17 rfl rfl (by kernel_rfl) (by kernel_rfl) (by kernel_rfl) (fun _ _ _ h => h) (Or.inl ⟨by kernel_rfl, ?hy0_t5⟩) (by assumption) ?rest0_t5
  case hy0_t5 => (intro W_ hS_; (try dsimp only at hS_); go_simp; (try (with_reducible rfl)))
  try simp only [Act.put, List.setIfInBounds_toArray, List.set_cons_zero, List.set_cons_succ]
  refine wpAnyH_take' (i := 1) (v := ?v1_t5) 18 rfl rfl (by kernel_rfl) (by kernel_rfl) (by kernel_rfl) (fun _ _ _ h => h) (Or.inl ⟨by kernel_rfl, ?hy1_t5⟩) (by assumption) ?rest1_t5
  case hy1_t5 => (intro W_ hS_; (try dsimp only at hS_); go_simp; (try (with_reducible rfl)))
  try simp only [Act.put, List.setIfInBounds_toArray, List.set_cons_zero, List.set_cons_succ]
  refine wpAnyH_take' (i := 2) (v := ?v2_t5) 19 rfl rfl (by kernel_rfl) (by kernel_rfl) (by kernel_rfl) (fun _ _ _ h => h) (Or.inl ⟨by kernel_rfl, ?hy2_t5⟩) (by assumption) ?rest2_t5
  case hy2_t5 => (intro W_ hS_; (try dsimp only at hS_); go_simp; (try (with_reducible rfl)))
  try simp only [Act.put, List.setIfInBounds_toArray, List.set_cons_zero, List.set_cons_succ]
  refine wpAnyH_take' (i := 3) (v := ?v3_t5) 20 rfl rfl (by kernel_rfl) (by kernel_rfl) (by kernel_rfl) (fun _ _ _ h => h) (Or.inl ⟨by kernel_rfl, ?hy3_t5⟩) (by assumption) ?rest3_t5
  case hy3_t5 => (intro W_ hS_; (try dsimp only at hS_); go_simp; (try (with_reducible rfl)))
  try simp only [Act.put, List.setIfInBounds_toArray, List.set_cons_zero, List.set_cons_succ]
  refine wpAnyH_take' (i := 4) (v := ?v4_t5) 21 rfl rfl (by kernel_rfl) (by kernel_rfl) (by kernel_rfl) (fun _ _ _ h => h) (Or.inl ⟨by kernel_rfl, ?hy4_t5⟩) (by assumption) ?rest4_t5
  case hy4_t5 => (intro W_ hS_; (try dsimp only at hS_); go_simp; (try (with_reducible rfl)))
  try simp only [Act.put, List.setIfInBounds_toArray, List.set_cons_zero, List.set_cons_succ]
  refine wpAnyH_take' (i := 5) (v := ?v5_t5) 22 rfl rfl (by kernel_rfl) (by kernel_rfl) (by kernel_rfl) (fun _ _ _ h => h) (Or.inl ⟨by kernel_rfl, ?hy5_t5⟩) (by assumption) ?rest5_t5
  case hy5_t5 => (intro W_ hS_; (try dsimp only at hS_); go_simp; (try (with_reducible rfl)))
  try simp only [Act.put, List.setIfInBounds_toArray, List.set_cons_zero, List.set_cons_succ]
  refine wpAnyH_take' (i := 6) (v := ?v6_t5) 23 rfl rfl (by kernel_rfl) (by kernel_rfl) (by kernel_rfl) (fun _ _ _ h => h) (Or.inl ⟨by kernel_rfl, ?hy6_t5⟩) (by assumption) ?rest6_t5
  case hy6_t5 => (intro W_ hS_; (try dsimp only at hS_); go_simp; (try (with_reducible rfl)))
  try simp only [Act.put, List.setIfInBounds_toArray, List.set_cons_zero, List.set_cons_succ]
  refine wpAnyH_take' (i := 7) (v := ?v7_t5) 24 rfl rfl (by kernel_rfl) (by kernel_rfl) (by kernel_rfl) (fun _ _ _ h => h) (Or.inl ⟨by kernel_rfl, ?hy7_t5⟩) (by assumption) ?rest7_t5
  case hy7_t5 => (intro W_ hS_; (try dsimp only at hS_); go_simp; (try (with_reducible rfl)))
  try simp only [Act.put, List.setIfInBounds_toArray, List.set_cons_zero, List.set_cons_succ]
  refine wpAnyH_take' (i := 8) (v := ?v8_t5) 25 rfl rfl (by kernel_rfl) (by kernel_rfl) (by kernel_rfl) (fun _ _ _ h => h) (Or.inl ⟨by kernel_rfl, ?hy8_t5⟩) (by assumption) ?rest8_t5
  case hy8_t5 => (intro W_ hS_; (try dsimp only at hS_); go_simp; (try (with_reducible rfl)))
  try simp only [Act.put, List.setIfInBounds_toArray, List.set_cons_zero, List.set_cons_succ]
  refine wpAnyH_take' (i := 9) (v := ?v9_t5) 26 rfl rfl (by kernel_rfl) (by kernel_rfl) (by kernel_rfl) (fun _ _ _ h => h) (Or.inl ⟨by kernel_rfl, ?hy9_t5⟩) (by assumption) ?rest9_t5
  case hy9_t5 => (intro W_ hS_; (try dsimp only at hS_); go_simp; (try (with_reducible rfl)))
  try simp only [Act.put, List.setIfInBounds_toArray, List.set_cons_zero, List.set_cons_succ]
  refine wpAnyH_take' (i := 10) (v := ?v10_t5) 27 rfl rfl (by kernel_rfl) (by kernel_rfl) (by kernel_rfl) (fun _ _ _ h => h) (Or.inl ⟨by kernel_rfl, ?hy10_t5⟩) (by assumption) ?rest10_t5
  case hy10_t5 => (intro W_ hS_; (try dsimp only at hS_); go_simp; (try (with_reducible rfl)))
  try simp only [Act.put, List.setIfInBounds_toArray, List.set_cons_zero, List.set_cons_succ]
  refine wpAnyH_take' (i := 11) (v := ?v11_t5) 28 rfl rfl (by kernel_rfl) (by kernel_rfl) (by kernel_rfl) (fun _ _ _ h => h) (Or.inl ⟨by kernel_rfl, ?hy11_t5⟩) (by assumption) ?rest11_t5
  case hy11_t5 => (intro W_ hS_; (try dsimp only at hS_); go_simp; (try (with_reducible rfl)))
  try simp only [Act.put, List.setIfInBounds_toArray, List.set_cons_zero, List.set_cons_succ]
  refine wpAnyH_ready (rs := [12]) (by kernel_rfl) (by simp) ?_
  refine AllReadyH.cons rfl (fun K_ hK_ => ?_) AllReadyH.nil
  go_simp
  refine (refFrRight_q x (ID : Int) r (L : Int) A m c _ true Hq.out).mono ?_; rintro e wr12 ⟨rfl, hBr12⟩
  go_wp2_with fail
  refine hK_.out _ _ (by exact ⟨cells5' (block_below hBr12 (block_below (below_drew1 _) hf1)), cells5' (block_below hBr12 (block_below (below_drew1 _) hg1))⟩) (fun hHeld_12 => ?_)
  clear hK_
  try simp only [Act.put, List.setIfInBounds_toArray, List.set_cons_zero, List.set_cons_succ]
  refine wpAnyH_take' (i := 13) (v := ?v13_t5) 30 rfl rfl (by kernel_rfl) (by kernel_rfl) (by kernel_rfl) (fun _ _ _ h => h) (Or.inl ⟨by kernel_rfl, ?hy13_t5⟩) (by assumption) ?rest13_t5
  case hy13_t5 => (intro W_ hS_; (try dsimp only at hS_); go_simp; (try (with_reducible rfl)))
  try simp only [Act.put, List.setIfInBounds_toArray, List.set_cons_zero, List.set_cons_succ]
  refine wpAnyH_take' (i := 14) (v := ?v14_t5) 31 rfl rfl (by kernel_rfl) (by kernel_rfl) (by kernel_rfl) (fun _ _ _ h => h) (Or.inl ⟨by kernel_rfl, ?hy14_t5⟩) (by assumption) ?rest14_t5
  case hy14_t5 => (intro W_ hS_; (try dsimp only at hS_); go_simp; (try (with_reducible rfl)))
  try simp only [Act.put, List.setIfInBounds_toArray, List.set_cons_zero, List.set_cons_succ]
  refine wpAnyH_take' (i := 15) (v := ?v15_t5) 32 rfl rfl (by kernel_rfl) (by kernel_rfl) (by kernel_rfl) (fun _ _ _ h => h) (Or.inl ⟨by kernel_rfl, ?hy15_t5⟩) (by assumption) ?rest15_t5
  case hy15_t5 => (intro W_ hS_; (try dsimp only at hS_); go_simp; (try (with_reducible rfl)))
  try simp only [Act.put, List.setIfInBounds_toArray, List.set_cons_zero, List.set_cons_succ]
  refine wpAnyH_take' (i := 16) (v := ?v16_t5) 33 rfl rfl (by kernel_rfl) (by kernel_rfl) (by kernel_rfl) (fun _ _ _ h => h) (Or.inl ⟨by kernel_rfl, ?hy16_t5⟩) (by assumption) ?rest16_t5
  case hy16_t5 => (intro W_ hS_; (try dsimp only at hS_); go_simp; (try (with_reducible rfl)))
  try simp only [Act.put, List.setIfInBounds_toArray, List.set_cons_zero, List.set_cons_succ]
  refine wpAnyH_ready (rs := [17]) (by kernel_rfl) (by simp) ?_
  refine AllReadyH.cons rfl (fun K_ hK_ => ?_) AllReadyH.nil
  go_simp
  refine (refFrRight_q x' (ID' : Int) r' (L' : Int) A' m' c' _ true Hp.out).mono ?_; rintro e wr17 ⟨rfl, hBr17⟩
  go_wp2_with fail
  refine hK_.out _ _ (by exact ⟨cells5' (block_below hBr17 (block_below hBr12 (block_below (below_drew1 _) hf1))), cells5' (block_below hBr17 (block_below hBr12 (block_below (below_drew1 _) hg1)))⟩) (fun hHeld_17 => ?_)
  clear hK_
  try simp only [Act.put, List.setIfInBounds_toArray, List.set_cons_zero, List.set_cons_succ]
  refine wpAnyH_take' (i := 18) (v := ?v18_t5) 35 rfl rfl (by kernel_rfl) (by kernel_rfl) (by kernel_rfl) (fun _ _ _ h => h) (Or.inl ⟨by kernel_rfl, ?hy18_t5⟩) (by assumption) ?rest18_t5
  case hy18_t5 => (intro W_ hS_; (try dsimp only at hS_); go_simp; (try (with_reducible rfl)))
  try simp only [Act.put, List.setIfInBounds_toArray, List.set_cons_zero, List.set_cons_succ]
  refine wpAnyH_take' (i := 19) (v := ?v19_t5) 36 rfl rfl (by kernel_rfl) (by kernel_rfl) (by kernel_rfl) (fun _ _ _ h => h) (Or.inl ⟨by kernel_rfl, ?hy19_t5⟩) (by assumption) ?rest19_t5
  case hy19_t5 => (intro W_ hS_; (try dsimp only at hS_); go_simp; (try (with_reducible rfl)))
  try simp only [Act.put, List.setIfInBounds_toArray, List.set_cons_zero, List.set_cons_succ]
  refine wpAnyH_take' (i := 20) (v := ?v20_t5) 37 rfl rfl (by kernel_rfl) (by kernel_rfl) (by kernel_rfl) (fun _ _ _ h => h) (Or.inl ⟨by kernel_rfl, ?hy20_t5⟩) (by assumption) ?rest20_t5
  case hy20_t5 => (intro W_ hS_; (try dsimp only at hS_); go_simp; (try (with_reducible rfl)))
  try simp only [Act.put, List.setIfInBounds_toArray, List.set_cons_zero, List.set_cons_succ]
  refine wpAnyH_take' (i := 21) (v := ?v21_t5) 38 rfl rfl (by kernel_rfl) (by kernel_rfl) (by kernel_rfl) (fun _ _ _ h => h) (Or.inl ⟨by kernel_rfl, ?hy21_t5⟩) (by assumption) ?rest21_t5
  case hy21_t5 => (intro W_ hS_; (try dsimp only at hS_); go_simp; (try (with_reducible rfl)))
  try simp only [Act.put, List.setIfInBounds_toArray, List.set_cons_zero, List.set_cons_succ]
  refine wpAnyH_take' (i := 23) (v := ?v23_t5) 40 rfl rfl (by kernel_rfl) (by kernel_rfl) (by kernel_rfl) (fun _ _ _ h => h) (Or.inl ⟨by kernel_rfl, ?hy23_t5⟩) (by assumption) ?rest23_t5
  case hy23_t5 => (intro W_ hS_; (try dsimp only at hS_); go_simp; (try (with_reducible rfl)))
  try simp only [Act.put, List.setIfInBounds_toArray, List.set_cons_zero, List.set_cons_succ]
  refine wpAnyH_ready (rs := [22]) (by kernel_rfl) (by simp) ?_
  refine AllReadyH.cons rfl (fun K_ hK_ => ?_) AllReadyH.nil
  go_simp
  refine (refRankF_at ⟨x, (ID : Int), r, (L : Int), A, m, c⟩ hok1 q1 Hq1.out _).mono ?_; rintro e wr22 ⟨Ar1, cr1, rfl, hr1_, hcr1, hBr22⟩
  go_wp2_with fail
  refine hK_.out _ _ (by exact ⟨cells5' (block_below hBr22 (block_below hBr17 (block_below hBr12 (block_below (below_drew1 _) hf1)))), cells5' (block_below hBr22 (block_below hBr17 (block_below hBr12 (block_below (below_drew1 _) hg1))))⟩) (fun hHeld_22 => ?_)
  clear hK_
  try simp only [Act.put, List.setIfInBounds_toArray, List.set_cons_zero, List.set_cons_succ]
  refine wpAnyH_ready (rs := [24]) (by kernel_rfl) (by simp) ?_
  refine AllReadyH.cons rfl (fun K_ hK_ => ?_) AllReadyH.nil
  go_simp
  refine (refRankF_at ⟨x', (ID' : Int), r', (L' : Int), A', m', c'⟩ hok2 q2 Hq2.out _).mono ?_; rintro e wr24 ⟨Ar2, cr2, rfl, hr2_, hcr2, hBr24⟩
  go_wp2_with fail
  refine hK_.out _ _ (by exact ⟨cells5' (block_below hBr24 (block_below hBr22 (block_below hBr17 (block_below hBr12 (block_below (below_drew1 _) hf1))))), cells5' (block_below hBr24 (block_below hBr22 (block_below hBr17 (block_below hBr12 (block_below (below_drew1 _) hg1)))))⟩) (fun hHeld_24 => ?_)
  clear hK_
  try simp only [Act.put, List.setIfInBounds_toArray, List.set_cons_zero, List.set_cons_succ]
  refine wpAnyH_ready (rs := [25]) (by kernel_rfl) (by simp) ?_
  refine AllReadyH.cons rfl (fun K_ hK_ => ?_) AllReadyH.nil
  go_simp
  refine (same_q (rankF (⟨x, (ID : Int), r, (L : Int), A, m, c⟩ : FV)) (rankF (⟨x', (ID' : Int), r', (L' : Int), A', m', c'⟩ : FV)) q1 q2 Hq1.out Hq2.out _ _ _ _ _ (Row.to hr1_ hBr24) hr2_ (by unfold maxLen; omega) true Hs.out).mono ?_; rintro e wr25 ⟨rfl, hBr25⟩
  go_wp2_with fail
  refine hK_.out _ _ (by exact ⟨cells5' (block_below hBr25 (block_below hBr24 (block_below hBr22 (block_below hBr17 (block_below hBr12 (block_below (below_drew1 _) hf1)))))), cells5' (block_below hBr25 (block_below hBr24 (block_below hBr22 (block_below hBr17 (block_below hBr12 (block_below (below_drew1 _) hg1))))))⟩) (fun hHeld_25 => ?_)
  clear hK_
  try simp only [Act.put, List.setIfInBounds_toArray, List.set_cons_zero, List.set_cons_succ]
  refine wpAnyH_take' (i := 26) (v := ?v26_t5) 43 rfl rfl (by kernel_rfl) (by kernel_rfl) (by kernel_rfl) (fun _ _ _ h => h) (Or.inl ⟨by kernel_rfl, ?hy26_t5⟩) (by assumption) ?rest26_t5
  case hy26_t5 => (intro W_ hS_; (try dsimp only at hS_); go_simp; (try (with_reducible rfl)))
  try simp only [Act.put, List.setIfInBounds_toArray, List.set_cons_zero, List.set_cons_succ]
  refine wpAnyH_done (by kernel_rfl) ?_ _
  obtain ⟨w2, hw2⟩ : ∃ w2, wr25 = w2 := ⟨_, rfl⟩
  have hB2 : Below w1.heap.size w1 w2 := by rw [← hw2]; exact (below_then (below_then (below_then (below_then (below_then (below_drew1 _) hBr12) hBr17) hBr22) hBr24) hBr25)
  rw [hw2]
  clear hw2
  have hT2 := below_then hT1 hB2
  have hf2 := block_below hB2 hf1
  have hg2 := block_below hB2 hg1
  have hd2 := Row.to hd1 hB2
  have he2 := Row.to he1 hB2
  clear hT1 hf1 hg1 hd1 he1 hB2
  obtain ⟨fc0, fc1, fc2, fc3, fc4⟩ := cells5' hf2
  obtain ⟨gc0, gc1, gc2, gc3, gc4⟩ := cells5' hg2
  go_wp2_with fail
  go_ret
  exact ⟨rfl, hT2⟩

end Go.Proofs.Ytajabpjphobabaa
