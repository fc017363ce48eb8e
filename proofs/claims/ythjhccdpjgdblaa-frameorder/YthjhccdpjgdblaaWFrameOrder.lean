/-
  FrameOrder, walked: the lesser identifier stands ahead; of one identifier the frame with data ahead of the Remote one; of eleven alike bits the short one ahead of the long one.
-/
import Derived.Test.YthjhccdpjgdblaaLaw4
import Derived.Test.YthjhccdpjgdblaaFrOrder
import Derived.IntWalk
namespace Go.Proofs.Ythjhccdpjgdblaa
open Go.RowKit

set_option maxRecDepth 100000 in
set_option maxHeartbeats 20000000 in
theorem frameOrder_walk (x : Bool) (i : Int) (r : Bool) (n : Int) (A : Option Addr) (m c : Nat) (x' : Bool) (i' : Int) (r' : Bool) (n' : Int) (A' : Option Addr) (m' c' : Nat) (w : World) :
    Calls Try.prog 7 #[.agg #[.bool x, .int .i64 i, .bool r, .int .i64 n, .slice A m c], .agg #[.bool x', .int .i64 i', .bool r', .int .i64 n', .slice A' m' c']] w fun e w' => e = .returned (.bool true) ∧ Below w.heap.size w w' := by
  obtain ⟨w0, hw0⟩ : ∃ w0, (w.alloc (.cells #[.bool x, .int .i64 i, .bool r, .int .i64 n, .slice A m c] 24)).alloc (.cells #[.bool x', .int .i64 i', .bool r', .int .i64 n', .slice A' m' c'] 24) = w0 := ⟨_, rfl⟩
  have hB0 : Below w.heap.size w w0 := by rw [← hw0]; exact below_then (below_alloc1 _ _) (below_alloc1 _ _)
  have hF0 : w0.heap[w.heap.size]? = some (.cells #[.bool x, .int .i64 i, .bool r, .int .i64 n, .slice A m c] 24) := by rw [← hw0]; exact block_below (below_alloc1 _ _) (World.alloc_heap_new _ _)
  have hG0 : w0.heap[w.heap.size + 1]? = some (.cells #[.bool x', .int .i64 i', .bool r', .int .i64 n', .slice A' m' c'] 24) := by rw [← hw0]; have := World.alloc_heap_new (w.alloc (.cells #[.bool x, .int .i64 i, .bool r, .int .i64 n, .slice A m c] 24)) (.cells #[.bool x', .int .i64 i', .bool r', .int .i64 n', .slice A' m' c'] 24); simpa using this
  have HW0 := Lib.hid hw0
  clear hw0
  go_enter Try.func7, Try.ntmps7
  go_wp2_with fail
  rw [HW0.out]
  clear HW0
  refine (head_any _).mono ?_
  rintro e w1 ⟨rfl, hB1⟩
  have hF1 : w1.heap[w.heap.size]? = some (.cells #[.bool x, .int .i64 i, .bool r, .int .i64 n, .slice A m c] 24) := by repeat (first | assumption | exact Below.refl _ _ | ((with_reducible refine lit2 _ _ _ _ _ ?_); (first | (with_reducible rfl) | (simp; done))) | ((with_reducible refine lit1 _ _ _ _ ?_); (first | (with_reducible rfl) | (simp; done))) | refine row_step (by first | assumption | exact below_alloc1 _ _ | exact below_drew1 _ | exact below_drewN0 _ _) ?_ | refine block_below (by first | assumption | exact below_alloc1 _ _ | exact below_drew1 _ | exact below_drewN0 _ _) ?_ | refine below_then ?_ (by first | assumption | exact below_alloc1 _ _ | exact below_drew1 _ | exact below_drewN0 _ _))
  obtain ⟨cF0, cF1, cF2, cF3, cF4⟩ := cells5' hF1
  have hG1 : w1.heap[w.heap.size + 1]? = some (.cells #[.bool x', .int .i64 i', .bool r', .int .i64 n', .slice A' m' c'] 24) := by repeat (first | assumption | exact Below.refl _ _ | ((with_reducible refine lit2 _ _ _ _ _ ?_); (first | (with_reducible rfl) | (simp; done))) | ((with_reducible refine lit1 _ _ _ _ ?_); (first | (with_reducible rfl) | (simp; done))) | refine row_step (by first | assumption | exact below_alloc1 _ _ | exact below_drew1 _ | exact below_drewN0 _ _) ?_ | refine block_below (by first | assumption | exact below_alloc1 _ _ | exact below_drew1 _ | exact below_drewN0 _ _) ?_ | refine below_then ?_ (by first | assumption | exact below_alloc1 _ _ | exact below_drew1 _ | exact below_drewN0 _ _))
  obtain ⟨cG0, cG1, cG2, cG3, cG4⟩ := cells5' hG1
  go_wp2_with fail
  by_cases h1 : 100 < m
  · refine (great_q x i r n A m c _ true (by simp; omega)).mono ?_
    rintro e wE ⟨rfl, hBE⟩
    go_wp2_with fail
    go_ret
    exact ⟨rfl, by repeat (first | assumption | exact Below.refl _ _ | ((with_reducible refine lit2 _ _ _ _ _ ?_); (first | (with_reducible rfl) | (simp; done))) | ((with_reducible refine lit1 _ _ _ _ ?_); (first | (with_reducible rfl) | (simp; done))) | refine row_step (by first | assumption | exact below_alloc1 _ _ | exact below_drew1 _ | exact below_drewN0 _ _) ?_ | refine block_below (by first | assumption | exact below_alloc1 _ _ | exact below_drew1 _ | exact below_drewN0 _ _) ?_ | refine below_then ?_ (by first | assumption | exact below_alloc1 _ _ | exact below_drew1 _ | exact below_drewN0 _ _))⟩
  refine (great_q x i r n A m c _ false (by simp; omega)).mono ?_
  rintro e w2 ⟨rfl, hB2⟩
  clear cF0 cF1 cF2 cF3 cF4
  have hF2 : w2.heap[w.heap.size]? = some (.cells #[.bool x, .int .i64 i, .bool r, .int .i64 n, .slice A m c] 24) := by repeat (first | assumption | exact Below.refl _ _ | ((with_reducible refine lit2 _ _ _ _ _ ?_); (first | (with_reducible rfl) | (simp; done))) | ((with_reducible refine lit1 _ _ _ _ ?_); (first | (with_reducible rfl) | (simp; done))) | refine row_step (by first | assumption | exact below_alloc1 _ _ | exact below_drew1 _ | exact below_drewN0 _ _) ?_ | refine block_below (by first | assumption | exact below_alloc1 _ _ | exact below_drew1 _ | exact below_drewN0 _ _) ?_ | refine below_then ?_ (by first | assumption | exact below_alloc1 _ _ | exact below_drew1 _ | exact below_drewN0 _ _))
  obtain ⟨cF0, cF1, cF2, cF3, cF4⟩ := cells5' hF2
  clear cG0 cG1 cG2 cG3 cG4
  have hG2 : w2.heap[w.heap.size + 1]? = some (.cells #[.bool x', .int .i64 i', .bool r', .int .i64 n', .slice A' m' c'] 24) := by repeat (first | assumption | exact Below.refl _ _ | ((with_reducible refine lit2 _ _ _ _ _ ?_); (first | (with_reducible rfl) | (simp; done))) | ((with_reducible refine lit1 _ _ _ _ ?_); (first | (with_reducible rfl) | (simp; done))) | refine row_step (by first | assumption | exact below_alloc1 _ _ | exact below_drew1 _ | exact below_drewN0 _ _) ?_ | refine block_below (by first | assumption | exact below_alloc1 _ _ | exact below_drew1 _ | exact below_drewN0 _ _) ?_ | refine below_then ?_ (by first | assumption | exact below_alloc1 _ _ | exact below_drew1 _ | exact below_drewN0 _ _))
  obtain ⟨cG0, cG1, cG2, cG3, cG4⟩ := cells5' hG2
  go_wp2_with fail
  by_cases h2 : 100 < m'
  · refine (great_q x' i' r' n' A' m' c' _ true (by simp; omega)).mono ?_
    rintro e wE ⟨rfl, hBE⟩
    go_wp2_with fail
    go_ret
    exact ⟨rfl, by repeat (first | assumption | exact Below.refl _ _ | ((with_reducible refine lit2 _ _ _ _ _ ?_); (first | (with_reducible rfl) | (simp; done))) | ((with_reducible refine lit1 _ _ _ _ ?_); (first | (with_reducible rfl) | (simp; done))) | refine row_step (by first | assumption | exact below_alloc1 _ _ | exact below_drew1 _ | exact below_drewN0 _ _) ?_ | refine block_below (by first | assumption | exact below_alloc1 _ _ | exact below_drew1 _ | exact below_drewN0 _ _) ?_ | refine below_then ?_ (by first | assumption | exact below_alloc1 _ _ | exact below_drew1 _ | exact below_drewN0 _ _))⟩
  refine (great_q x' i' r' n' A' m' c' _ false (by simp; omega)).mono ?_
  rintro e w3 ⟨rfl, hB3⟩
  clear cF0 cF1 cF2 cF3 cF4
  have hF3 : w3.heap[w.heap.size]? = some (.cells #[.bool x, .int .i64 i, .bool r, .int .i64 n, .slice A m c] 24) := by repeat (first | assumption | exact Below.refl _ _ | ((with_reducible refine lit2 _ _ _ _ _ ?_); (first | (with_reducible rfl) | (simp; done))) | ((with_reducible refine lit1 _ _ _ _ ?_); (first | (with_reducible rfl) | (simp; done))) | refine row_step (by first | assumption | exact below_alloc1 _ _ | exact below_drew1 _ | exact below_drewN0 _ _) ?_ | refine block_below (by first | assumption | exact below_alloc1 _ _ | exact below_drew1 _ | exact below_drewN0 _ _) ?_ | refine below_then ?_ (by first | assumption | exact below_alloc1 _ _ | exact below_drew1 _ | exact below_drewN0 _ _))
  obtain ⟨cF0, cF1, cF2, cF3, cF4⟩ := cells5' hF3
  clear cG0 cG1 cG2 cG3 cG4
  have hG3 : w3.heap[w.heap.size + 1]? = some (.cells #[.bool x', .int .i64 i', .bool r', .int .i64 n', .slice A' m' c'] 24) := by repeat (first | assumption | exact Below.refl _ _ | ((with_reducible refine lit2 _ _ _ _ _ ?_); (first | (with_reducible rfl) | (simp; done))) | ((with_reducible refine lit1 _ _ _ _ ?_); (first | (with_reducible rfl) | (simp; done))) | refine row_step (by first | assumption | exact below_alloc1 _ _ | exact below_drew1 _ | exact below_drewN0 _ _) ?_ | refine block_below (by first | assumption | exact below_alloc1 _ _ | exact below_drew1 _ | exact below_drewN0 _ _) ?_ | refine below_then ?_ (by first | assumption | exact below_alloc1 _ _ | exact below_drew1 _ | exact below_drewN0 _ _))
  obtain ⟨cG0, cG1, cG2, cG3, cG4⟩ := cells5' hG3
  go_wp2_with fail
  by_cases h3 : rightV x i r n m = true
  rotate_left
  · refine (refFrRight_q x i r n A m c _ false (by simpa using h3)).mono ?_
    rintro e wE ⟨rfl, hBE⟩
    go_wp2_with fail
    go_ret
    exact ⟨rfl, by repeat (first | assumption | exact Below.refl _ _ | ((with_reducible refine lit2 _ _ _ _ _ ?_); (first | (with_reducible rfl) | (simp; done))) | ((with_reducible refine lit1 _ _ _ _ ?_); (first | (with_reducible rfl) | (simp; done))) | refine row_step (by first | assumption | exact below_alloc1 _ _ | exact below_drew1 _ | exact below_drewN0 _ _) ?_ | refine block_below (by first | assumption | exact below_alloc1 _ _ | exact below_drew1 _ | exact below_drewN0 _ _) ?_ | refine below_then ?_ (by first | assumption | exact below_alloc1 _ _ | exact below_drew1 _ | exact below_drewN0 _ _))⟩
  have H3 := Lib.hid h3
  clear h3
  refine (refFrRight_q x i r n A m c _ true H3.out).mono ?_
  rintro e w4 ⟨rfl, hB4⟩
  clear cF0 cF1 cF2 cF3 cF4
  have hF4 : w4.heap[w.heap.size]? = some (.cells #[.bool x, .int .i64 i, .bool r, .int .i64 n, .slice A m c] 24) := by repeat (first | assumption | exact Below.refl _ _ | ((with_reducible refine lit2 _ _ _ _ _ ?_); (first | (with_reducible rfl) | (simp; done))) | ((with_reducible refine lit1 _ _ _ _ ?_); (first | (with_reducible rfl) | (simp; done))) | refine row_step (by first | assumption | exact below_alloc1 _ _ | exact below_drew1 _ | exact below_drewN0 _ _) ?_ | refine block_below (by first | assumption | exact below_alloc1 _ _ | exact below_drew1 _ | exact below_drewN0 _ _) ?_ | refine below_then ?_ (by first | assumption | exact below_alloc1 _ _ | exact below_drew1 _ | exact below_drewN0 _ _))
  obtain ⟨cF0, cF1, cF2, cF3, cF4⟩ := cells5' hF4
  clear cG0 cG1 cG2 cG3 cG4
  have hG4 : w4.heap[w.heap.size + 1]? = some (.cells #[.bool x', .int .i64 i', .bool r', .int .i64 n', .slice A' m' c'] 24) := by repeat (first | assumption | exact Below.refl _ _ | ((with_reducible refine lit2 _ _ _ _ _ ?_); (first | (with_reducible rfl) | (simp; done))) | ((with_reducible refine lit1 _ _ _ _ ?_); (first | (with_reducible rfl) | (simp; done))) | refine row_step (by first | assumption | exact below_alloc1 _ _ | exact below_drew1 _ | exact below_drewN0 _ _) ?_ | refine block_below (by first | assumption | exact below_alloc1 _ _ | exact below_drew1 _ | exact below_drewN0 _ _) ?_ | refine below_then ?_ (by first | assumption | exact below_alloc1 _ _ | exact below_drew1 _ | exact below_drewN0 _ _))
  obtain ⟨cG0, cG1, cG2, cG3, cG4⟩ := cells5' hG4
  go_wp2_with fail
  by_cases h4 : rightV x' i' r' n' m' = true
  rotate_left
  · refine (refFrRight_q x' i' r' n' A' m' c' _ false (by simpa using h4)).mono ?_
    rintro e wE ⟨rfl, hBE⟩
    go_wp2_with fail
    go_ret
    exact ⟨rfl, by repeat (first | assumption | exact Below.refl _ _ | ((with_reducible refine lit2 _ _ _ _ _ ?_); (first | (with_reducible rfl) | (simp; done))) | ((with_reducible refine lit1 _ _ _ _ ?_); (first | (with_reducible rfl) | (simp; done))) | refine row_step (by first | assumption | exact below_alloc1 _ _ | exact below_drew1 _ | exact below_drewN0 _ _) ?_ | refine block_below (by first | assumption | exact below_alloc1 _ _ | exact below_drew1 _ | exact below_drewN0 _ _) ?_ | refine below_then ?_ (by first | assumption | exact below_alloc1 _ _ | exact below_drew1 _ | exact below_drewN0 _ _))⟩
  have H4 := Lib.hid h4
  clear h4
  refine (refFrRight_q x' i' r' n' A' m' c' _ true H4.out).mono ?_
  rintro e w5 ⟨rfl, hB5⟩
  clear cF0 cF1 cF2 cF3 cF4
  have hF5 : w5.heap[w.heap.size]? = some (.cells #[.bool x, .int .i64 i, .bool r, .int .i64 n, .slice A m c] 24) := by repeat (first | assumption | exact Below.refl _ _ | ((with_reducible refine lit2 _ _ _ _ _ ?_); (first | (with_reducible rfl) | (simp; done))) | ((with_reducible refine lit1 _ _ _ _ ?_); (first | (with_reducible rfl) | (simp; done))) | refine row_step (by first | assumption | exact below_alloc1 _ _ | exact below_drew1 _ | exact below_drewN0 _ _) ?_ | refine block_below (by first | assumption | exact below_alloc1 _ _ | exact below_drew1 _ | exact below_drewN0 _ _) ?_ | refine below_then ?_ (by first | assumption | exact below_alloc1 _ _ | exact below_drew1 _ | exact below_drewN0 _ _))
  obtain ⟨cF0, cF1, cF2, cF3, cF4⟩ := cells5' hF5
  clear cG0 cG1 cG2 cG3 cG4
  have hG5 : w5.heap[w.heap.size + 1]? = some (.cells #[.bool x', .int .i64 i', .bool r', .int .i64 n', .slice A' m' c'] 24) := by repeat (first | assumption | exact Below.refl _ _ | ((with_reducible refine lit2 _ _ _ _ _ ?_); (first | (with_reducible rfl) | (simp; done))) | ((with_reducible refine lit1 _ _ _ _ ?_); (first | (with_reducible rfl) | (simp; done))) | refine row_step (by first | assumption | exact below_alloc1 _ _ | exact below_drew1 _ | exact below_drewN0 _ _) ?_ | refine block_below (by first | assumption | exact below_alloc1 _ _ | exact below_drew1 _ | exact below_drewN0 _ _) ?_ | refine below_then ?_ (by first | assumption | exact below_alloc1 _ _ | exact below_drew1 _ | exact below_drewN0 _ _))
  obtain ⟨cG0, cG1, cG2, cG3, cG4⟩ := cells5' hG5
  obtain ⟨ID, L, rfl, rfl, hID, hL, -⟩ := right_ok H3.out
  obtain ⟨ID', L', rfl, rfl, hID', hL', -⟩ := right_ok H4.out
  clear H3 H4
  obtain ⟨k, hk⟩ : ∃ k, rn x = k := ⟨_, rfl⟩
  obtain ⟨k', hk'⟩ : ∃ k', rn x' = k' := ⟨_, rfl⟩
  have HK := Lib.hid hk
  have HK' := Lib.hid hk'
  clear hk hk'
  go_wp2_with fail
  refine (rank_at x ID r L A m c hID k HK.out _).mono ?_
  rintro e w6 ⟨A6, c6, rfl, hr6, hc6, hB6⟩
  clear cF0 cF1 cF2 cF3 cF4
  have hF6 : w6.heap[w.heap.size]? = some (.cells #[.bool x, .int .i64 ID, .bool r, .int .i64 L, .slice A m c] 24) := by repeat (first | assumption | exact Below.refl _ _ | ((with_reducible refine lit2 _ _ _ _ _ ?_); (first | (with_reducible rfl) | (simp; done))) | ((with_reducible refine lit1 _ _ _ _ ?_); (first | (with_reducible rfl) | (simp; done))) | refine row_step (by first | assumption | exact below_alloc1 _ _ | exact below_drew1 _ | exact below_drewN0 _ _) ?_ | refine block_below (by first | assumption | exact below_alloc1 _ _ | exact below_drew1 _ | exact below_drewN0 _ _) ?_ | refine below_then ?_ (by first | assumption | exact below_alloc1 _ _ | exact below_drew1 _ | exact below_drewN0 _ _))
  obtain ⟨cF0, cF1, cF2, cF3, cF4⟩ := cells5' hF6
  clear cG0 cG1 cG2 cG3 cG4
  have hG6 : w6.heap[w.heap.size + 1]? = some (.cells #[.bool x', .int .i64 ID', .bool r', .int .i64 L', .slice A' m' c'] 24) := by repeat (first | assumption | exact Below.refl _ _ | ((with_reducible refine lit2 _ _ _ _ _ ?_); (first | (with_reducible rfl) | (simp; done))) | ((with_reducible refine lit1 _ _ _ _ ?_); (first | (with_reducible rfl) | (simp; done))) | refine row_step (by first | assumption | exact below_alloc1 _ _ | exact below_drew1 _ | exact below_drewN0 _ _) ?_ | refine block_below (by first | assumption | exact below_alloc1 _ _ | exact below_drew1 _ | exact below_drewN0 _ _) ?_ | refine below_then ?_ (by first | assumption | exact below_alloc1 _ _ | exact below_drew1 _ | exact below_drewN0 _ _))
  obtain ⟨cG0, cG1, cG2, cG3, cG4⟩ := cells5' hG6
  go_wp2_with fail
  refine (rank_at x' ID' r' L' A' m' c' hID' k' HK'.out _).mono ?_
  rintro e w7 ⟨A7, c7, rfl, hr7, hc7, hB7⟩
  clear cF0 cF1 cF2 cF3 cF4
  have hF7 : w7.heap[w.heap.size]? = some (.cells #[.bool x, .int .i64 ID, .bool r, .int .i64 L, .slice A m c] 24) := by repeat (first | assumption | exact Below.refl _ _ | ((with_reducible refine lit2 _ _ _ _ _ ?_); (first | (with_reducible rfl) | (simp; done))) | ((with_reducible refine lit1 _ _ _ _ ?_); (first | (with_reducible rfl) | (simp; done))) | refine row_step (by first | assumption | exact below_alloc1 _ _ | exact below_drew1 _ | exact below_drewN0 _ _) ?_ | refine block_below (by first | assumption | exact below_alloc1 _ _ | exact below_drew1 _ | exact below_drewN0 _ _) ?_ | refine below_then ?_ (by first | assumption | exact below_alloc1 _ _ | exact below_drew1 _ | exact below_drewN0 _ _))
  obtain ⟨cF0, cF1, cF2, cF3, cF4⟩ := cells5' hF7
  clear cG0 cG1 cG2 cG3 cG4
  have hG7 : w7.heap[w.heap.size + 1]? = some (.cells #[.bool x', .int .i64 ID', .bool r', .int .i64 L', .slice A' m' c'] 24) := by repeat (first | assumption | exact Below.refl _ _ | ((with_reducible refine lit2 _ _ _ _ _ ?_); (first | (with_reducible rfl) | (simp; done))) | ((with_reducible refine lit1 _ _ _ _ ?_); (first | (with_reducible rfl) | (simp; done))) | refine row_step (by first | assumption | exact below_alloc1 _ _ | exact below_drew1 _ | exact below_drewN0 _ _) ?_ | refine block_below (by first | assumption | exact below_alloc1 _ _ | exact below_drew1 _ | exact below_drewN0 _ _) ?_ | refine below_then ?_ (by first | assumption | exact below_alloc1 _ _ | exact below_drew1 _ | exact below_drewN0 _ _))
  obtain ⟨cG0, cG1, cG2, cG3, cG4⟩ := cells5' hG7
  have z6 : Row .i64 w7 w7.heap.size A6 (rankV x ID r) := by repeat (first | assumption | exact Below.refl _ _ | ((with_reducible refine lit2 _ _ _ _ _ ?_); (first | (with_reducible rfl) | (simp; done))) | ((with_reducible refine lit1 _ _ _ _ ?_); (first | (with_reducible rfl) | (simp; done))) | refine row_step (by first | assumption | exact below_alloc1 _ _ | exact below_drew1 _ | exact below_drewN0 _ _) ?_ | refine block_below (by first | assumption | exact below_alloc1 _ _ | exact below_drew1 _ | exact below_drewN0 _ _) ?_ | refine below_then ?_ (by first | assumption | exact below_alloc1 _ _ | exact below_drew1 _ | exact below_drewN0 _ _))
  have hall : Below w.heap.size w w7 := by repeat (first | assumption | exact Below.refl _ _ | ((with_reducible refine lit2 _ _ _ _ _ ?_); (first | (with_reducible rfl) | (simp; done))) | ((with_reducible refine lit1 _ _ _ _ ?_); (first | (with_reducible rfl) | (simp; done))) | refine row_step (by first | assumption | exact below_alloc1 _ _ | exact below_drew1 _ | exact below_drewN0 _ _) ?_ | refine block_below (by first | assumption | exact below_alloc1 _ _ | exact below_drew1 _ | exact below_drewN0 _ _) ?_ | refine below_then ?_ (by first | assumption | exact below_alloc1 _ _ | exact below_drew1 _ | exact below_drewN0 _ _))
  have l6 : (rankV x ID r).length = k := by rw [rankV_len, HK.out]
  have l7 : (rankV x' ID' r').length = k' := by rw [rankV_len, HK'.out]
  have k32 : k ≤ 32 := by rw [← HK.out]; cases x <;> decide
  have R6 := Lib.hid (rankV_right x ID r)
  have R7 := Lib.hid (rankV_right x' ID' r')
  have L6 := Lib.hid l6
  have L7 := Lib.hid l7
  clear l6 l7 hB0 hB1 hB2 hB3 hB4 hB5 hB6 hB7
  obtain ⟨a, ha⟩ : ∃ a, rankV x ID r = a := ⟨_, rfl⟩
  obtain ⟨b, hb⟩ : ∃ b, rankV x' ID' r' = b := ⟨_, rfl⟩
  rw [ha] at z6 R6 L6
  rw [hb] at hr7 R7 L7
  have Ha := Lib.hid ha
  have Hb := Lib.hid hb
  clear ha hb hr6
  go_wp2_with fail
  go_loopw [8, 9] (fun d i wr => ∃ (j : Nat) (D : Int), j ≤ k ∧ i = .int .i64 j ∧ d = .int .i64 D ∧ (-1 ≤ D ∧ D ≤ 1) ∧ (Ahead a b j D) ∧ ∃ q, wr = w7.drewN q) (fun _ i _ => k - (intOf i).toNat)
  case atStart => exact ⟨0, 0, Nat.zero_le _, rfl, rfl, ⟨by omega, by omega⟩, Ahead.start a b, 0, rfl⟩
  case round =>
    obtain ⟨j, D, hj, rfl, rfl, hD, hA, q, rfl⟩ := hrel
    have HA := Lib.hid hA
    clear hA
    by_cases hgo : j < k ∧ j < k' ∧ D = 0
    · obtain ⟨g1, g2, rfl⟩ := hgo
      obtain ⟨ad6, u, rfl, hu, hcu⟩ := z6.get_ (k := j) (by rw [L6.out]; exact g1)
      obtain ⟨ad7, v, rfl, hv, hcv⟩ := hr7.get_ (k := j) (by rw [L7.out]; exact g2)
      have bu := rightB_at R6.out hu
      have bv := rightB_at R7.out hv
      have hst := Lib.hid (HA.out.step hu hv)
      have b1 : 0 ≤ u ∧ u ≤ 1 := by omega
      have b2 : 0 ≤ v ∧ v ≤ 1 := by omega
      obtain ⟨b3, b4⟩ := b1
      obtain ⟨b5, b6⟩ := b2
      clear bu bv hu hv
      have wr1 : IntKind.i64.wrap (u - v) = u - v := IntWalk.i64_in _ (by omega)
      go_wp2_with fail
      go_quiet (fail)
      go_wp2_with fail
      refine ⟨⟨j + 1, u - v, by omega, by go_num, rfl, ⟨by omega, by omega⟩, hst.out, _, by first | rfl | (rw [World.drewN_drewN])⟩, by simp [intOf]; omega⟩
    · have hfd : firstD a b = D := by
        by_cases g1 : j < k
        · by_cases g2 : j < k'
          · exact HA.out.end_d (fun e => hgo ⟨g1, g2, e⟩)
          · exact HA.out.end_b (by rw [L7.out]; omega)
        · exact HA.out.end_a (by rw [L6.out]; omega)
      rw [← Ha.out, ← Hb.out] at hfd
      have HFD := Lib.hid hfd
      clear hfd HA R6 R7 L6 L7 HK HK' z6 hr7 Ha Hb
      have hend : ∀ q, Below w.heap.size w (w7.drewN q) := fun q => below_drewN' hall q
      have HEnd := Lib.hid hend
      clear hend
      have hex : (decide ((j : Int) < (k : Int)) = false ∧ decide (j < k) = false) ∨ ((decide ((j : Int) < (k : Int)) = true ∧ decide (j < k) = true) ∧ decide ((j : Int) < (k' : Int)) = false ∧ decide (j < k') = false) ∨ ((decide ((j : Int) < (k : Int)) = true ∧ decide (j < k) = true) ∧ (decide ((j : Int) < (k' : Int)) = true ∧ decide (j < k') = true) ∧ (D == 0) = false) := by
        by_cases g1 : j < k
        · by_cases g2 : j < k'
          · have : D ≠ 0 := fun e => hgo ⟨g1, g2, e⟩
            right; right; simp [g1, g2, this]
          · right; left; simp [g1, g2]
        · left; simp [g1]
      clear hgo
      rcases hex with ⟨f1, f2⟩ | ⟨⟨f1, f2⟩, f3, f4⟩ | ⟨⟨f1, f2⟩, ⟨f3, f4⟩, f5⟩
      all_goals
        cases x <;> cases x'
        · obtain ⟨o1, o2, o3⟩ := orderSS (r := r) (s := r') hID hID'
          rw [show firstD (rankS ID r) (rankS ID' r') = D from HFD.out] at o1 o2 o3
          by_cases e1 : ID = ID'
          · have e2 := o2 e1
            subst e1
            clear o1 o2 o3
            cases r <;> cases r' <;> (simp only [flag, if_true, if_false, Bool.false_eq_true] at e2; subst e2; clear HFD)
            all_goals
              (first | (exact absurd f5 (by decide)) | (go_wp2_with fail; go_ret; exact ⟨ret_bool (by simp), HEnd.out _⟩))
          · have t1 : ((ID : Int) != (ID' : Int)) = true := by simp; omega
            have t2 : (ID != ID') = true := by simp [e1]
            have t1' : ((ID : Int) == (ID' : Int)) = false := by simp; omega
            have t2' : (ID == ID') = false := by simp [e1]
            by_cases e3 : ID < ID'
            · have e4 := o1 e3
              clear o1 o2 o3
              have t3 : decide (D < 0) = true := by simp; omega
              have t4 : (D != 0) = true := by simp; omega
              have t4' : (D == 0) = false := by simp; omega
              have t5 : decide ((ID : Int) < (ID' : Int)) = true := by simp; omega
              have t6 : decide (ID < ID') = true := by simp; omega
              (go_wp2_with fail; go_ret; exact ⟨ret_bool (by simp), HEnd.out _⟩)
            · have e4 := o3 (by omega)
              clear o1 o2 o3
              have t3 : decide (D < 0) = false := by simp; omega
              have t4 : (D != 0) = true := by simp; omega
              have t4' : (D == 0) = false := by simp; omega
              have t5 : decide ((ID : Int) < (ID' : Int)) = false := by simp; omega
              have t6 : decide (ID < ID') = false := by simp; omega
              (go_wp2_with fail; go_ret; exact ⟨ret_bool (by simp), HEnd.out _⟩)
        · obtain ⟨o1, o2⟩ := orderSX (r := r) (s := r') hID hID'
          rw [show firstD (rankS ID r) (rankX ID' r') = D from HFD.out] at o1 o2
          obtain ⟨U, hU⟩ : ∃ U, ID' / 262144 = U := ⟨_, rfl⟩
          rw [hU] at o1
          have hsh : (ID' : Int) / 262144 = (U : Int) := by omega
          have t4 : (D != 0) = true := by simp [o2]
          have t4' : (D == 0) = false := by simp [o2]
          by_cases e1 : ID = U
          · have e2 := o1 e1
            subst e1
            clear o1 o2 hU
            have t3 : decide (D < 0) = true := by simp; omega
            (go_wp2_with fail; go_ret; exact ⟨ret_bool (by simp), HEnd.out _⟩)
          · clear o1 o2 hU
            have t1 : ((ID : Int) == (U : Int)) = false := by simp; omega
            have t2 : (ID == U) = false := by simp [e1]
            (go_wp2_with fail; go_ret; exact ⟨ret_bool (by simp), HEnd.out _⟩)
        · have o2 := orderXS (r := r) (s := r') hID hID'
          rw [show firstD (rankX ID r) (rankS ID' r') = D from HFD.out] at o2
          have t4 : (D != 0) = true := by simp [o2]
          have t4' : (D == 0) = false := by simp [o2]
          clear o2
          (go_wp2_with fail; go_ret; exact ⟨ret_bool (by simp), HEnd.out _⟩)
        · obtain ⟨o1, o2, o3⟩ := orderXX (r := r) (s := r') hID hID'
          rw [show firstD (rankX ID r) (rankX ID' r') = D from HFD.out] at o1 o2 o3
          by_cases e1 : ID = ID'
          · have e2 := o2 e1
            subst e1
            clear o1 o2 o3
            cases r <;> cases r' <;> (simp only [flag, if_true, if_false, Bool.false_eq_true] at e2; subst e2; clear HFD)
            all_goals
              (first | (exact absurd f5 (by decide)) | (go_wp2_with fail; go_ret; exact ⟨ret_bool (by simp), HEnd.out _⟩))
          · have t1 : ((ID : Int) != (ID' : Int)) = true := by simp; omega
            have t2 : (ID != ID') = true := by simp [e1]
            have t1' : ((ID : Int) == (ID' : Int)) = false := by simp; omega
            have t2' : (ID == ID') = false := by simp [e1]
            by_cases e3 : ID < ID'
            · have e4 := o1 e3
              clear o1 o2 o3
              have t3 : decide (D < 0) = true := by simp; omega
              have t4 : (D != 0) = true := by simp; omega
              have t4' : (D == 0) = false := by simp; omega
              have t5 : decide ((ID : Int) < (ID' : Int)) = true := by simp; omega
              have t6 : decide (ID < ID') = true := by simp; omega
              (go_wp2_with fail; go_ret; exact ⟨ret_bool (by simp), HEnd.out _⟩)
            · have e4 := o3 (by omega)
              clear o1 o2 o3
              have t3 : decide (D < 0) = false := by simp; omega
              have t4 : (D != 0) = true := by simp; omega
              have t4' : (D == 0) = false := by simp; omega
              have t5 : decide ((ID : Int) < (ID' : Int)) = false := by simp; omega
              have t6 : decide (ID < ID') = false := by simp; omega
              (go_wp2_with fail; go_ret; exact ⟨ret_bool (by simp), HEnd.out _⟩)

end Go.Proofs.Ythjhccdpjgdblaa
