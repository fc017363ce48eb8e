/-
  WireShares. (Written by wip/tools/mk_wwalk.py.)
-/
import Derived.Test.YtmapkjjglhpamaaWLaw
import Derived.Test.YtmapkjjglhpamaaHead5
import Derived.Test.YtmapkjjglhpamaaWLaw2
namespace Go.Proofs.Ytmapkjjglhpamaa
open Go.RowKit

theorem same_d (a b : List Int) (n m : Nat) (hn : a.length = n) (hm : b.length = m) (A A' : Option Addr) (c c' B B' : Nat) (w : World) (h : Row .i64 w B A a) (h' : Row .i64 w B' A' b) (hl : n ≤ maxLen) (q : Bool) (hq : sameB a b = q) :
    Calls Try.prog 14 #[.slice A n c, .slice A' m c'] w fun e w' => e = .returned (.bool q) ∧ ∃ k, w' = w.drewN k := by
  subst hq; exact same_at a b n m hn hm A A' c c' B B' w h h' hl

set_option maxRecDepth 100000 in
set_option maxHeartbeats 2000000 in
theorem wireShares_walk (x : Bool) (i : Int) (r : Bool) (n : Int) (dl : List Int) (m : Nat) (hdl : dl.length = m) (A : Option Addr) (c : Nat) (x' : Bool) (i' : Int) (r' : Bool) (n' : Int) (dl' : List Int) (m' : Nat) (hdl' : dl'.length = m') (A' : Option Addr) (c' : Nat) (w : World) (h : Row .u8 w w.heap.size A dl) (hb : byteB dl) (h' : Row .u8 w w.heap.size A' dl') (hb' : byteB dl') :
    Calls Try.prog 9 #[.agg #[.bool x, .int .i64 i, .bool r, .int .i64 n, .slice A m c], .agg #[.bool x', .int .i64 i', .bool r', .int .i64 n', .slice A' m' c']] w fun e w' => e = .returned (.bool true) ∧ Below w.heap.size w w' := by
  have HD := Lib.hid hdl
  have HB := Lib.hid hb
  have HD' := Lib.hid hdl'
  have HB' := Lib.hid hb'
  clear hdl hb hdl' hb'
  obtain ⟨w0, hw0⟩ : ∃ w0, (w.alloc (.cells #[.bool x, .int .i64 i, .bool r, .int .i64 n, .slice A m c] 24)).alloc (.cells #[.bool x', .int .i64 i', .bool r', .int .i64 n', .slice A' m' c'] 24) = w0 := ⟨_, rfl⟩
  have hB0 : Below w.heap.size w w0 := by rw [← hw0]; exact below_then (below_alloc1 _ _) (below_alloc1 _ _)
  have hF0 : w0.heap[w.heap.size]? = some (.cells #[.bool x, .int .i64 i, .bool r, .int .i64 n, .slice A m c] 24) := by rw [← hw0]; exact block_below (below_alloc1 _ _) (World.alloc_heap_new _ _)
  have hG0 : w0.heap[w.heap.size + 1]? = some (.cells #[.bool x', .int .i64 i', .bool r', .int .i64 n', .slice A' m' c'] 24) := by rw [← hw0]; have := World.alloc_heap_new (w.alloc (.cells #[.bool x, .int .i64 i, .bool r, .int .i64 n, .slice A m c] 24)) (.cells #[.bool x', .int .i64 i', .bool r', .int .i64 n', .slice A' m' c'] 24); simpa using this
  have HW0 := Lib.hid hw0
  clear hw0
  go_enter Try.func9, Try.ntmps9
  go_wp2_with fail
  rw [HW0.out]
  clear HW0
  refine (head5_any _).mono ?_
  rintro e w1 ⟨rfl, hB1⟩
  have hF1 : w1.heap[w.heap.size]? = some (.cells #[.bool x, .int .i64 i, .bool r, .int .i64 n, .slice A m c] 24) := by repeat (first | assumption | exact Below.refl _ _ | ((with_reducible refine lit2 _ _ _ _ _ ?_); (first | (with_reducible rfl) | (simp; done))) | ((with_reducible refine lit1 _ _ _ _ ?_); (first | (with_reducible rfl) | (simp; done))) | refine row_step (by first | assumption | exact below_alloc1 _ _ | exact below_drew1 _ | exact below_drewN0 _ _) ?_ | refine block_below (by first | assumption | exact below_alloc1 _ _ | exact below_drew1 _ | exact below_drewN0 _ _) ?_ | refine below_then ?_ (by first | assumption | exact below_alloc1 _ _ | exact below_drew1 _ | exact below_drewN0 _ _))
  obtain ⟨cF0, cF1, cF2, cF3, cF4⟩ := cells5' hF1
  have hG1 : w1.heap[w.heap.size + 1]? = some (.cells #[.bool x', .int .i64 i', .bool r', .int .i64 n', .slice A' m' c'] 24) := by repeat (first | assumption | exact Below.refl _ _ | ((with_reducible refine lit2 _ _ _ _ _ ?_); (first | (with_reducible rfl) | (simp; done))) | ((with_reducible refine lit1 _ _ _ _ ?_); (first | (with_reducible rfl) | (simp; done))) | refine row_step (by first | assumption | exact below_alloc1 _ _ | exact below_drew1 _ | exact below_drewN0 _ _) ?_ | refine block_below (by first | assumption | exact below_alloc1 _ _ | exact below_drew1 _ | exact below_drewN0 _ _) ?_ | refine below_then ?_ (by first | assumption | exact below_alloc1 _ _ | exact below_drew1 _ | exact below_drewN0 _ _))
  obtain ⟨cG0, cG1, cG2, cG3, cG4⟩ := cells5' hG1
  go_wp2_with fail
  by_cases h1 : 100 < m
  · refine (great_q x i r n A m c _ true (by simp; omega)).mono ?_
    rintro e wE ⟨rfl, hBE⟩
    go_wp2_with fail
    go_ret
    exact ⟨rfl, by repeat (first | assumption | exact Below.refl _ _ | ((with_reducible refine lit2 _ _ _ _ _ ?_); (first | (with_reducible rfl) | (simp; done))) | ((with_reducible refine lit1 _ _ _ _ ?_); (first | (with_reducible rfl) | (simp; done))) | refine row_step (by first | assumption | exact below_alloc1 _ _ | exact below_drew1 _ | exact below_drewN0 _ _) ?_ | refine block_below (by first | assumption | exact below_alloc1 _ _ | exact below_drew1 _ | exact below_drewN0 _ _) ?_ | refine below_then ?_ (by first | assumption | exact below_alloc1 _ _ | exact below_drew1 _ | exact below_drewN0 _ _))⟩
  refine (great_q x i r n A m c _ false (by simp; omega)).mono ?_
  rintro e w2 ⟨rfl, hB2⟩
  clear cF0 cF1 cF2 cF3 cF4
  have hF2 : w2.heap[w.heap.size]? = some (.cells #[.bool x, .int .i64 i, .bool r, .int .i64 n, .slice A m c] 24) := by repeat (first | assumption | exact Below.refl _ _ | ((with_reducible refine lit2 _ _ _ _ _ ?_); (first | (with_reducible rfl) | (simp; done))) | ((with_reducible refine lit1 _ _ _ _ ?_); (first | (with_reducible rfl) | (simp; done))) | refine row_step (by first | assumption | exact below_alloc1 _ _ | exact below_drew1 _ | exact below_drewN0 _ _) ?_ | refine block_below (by first | assumption | exact below_alloc1 _ _ | exact below_drew1 _ | exact below_drewN0 _ _) ?_ | refine below_then ?_ (by first | assumption | exact below_alloc1 _ _ | exact below_drew1 _ | exact below_drewN0 _ _))
  obtain ⟨cF0, cF1, cF2, cF3, cF4⟩ := cells5' hF2
  clear cG0 cG1 cG2 cG3 cG4
  have hG2 : w2.heap[w.heap.size + 1]? = some (.cells #[.bool x', .int .i64 i', .bool r', .int .i64 n', .slice A' m' c'] 24) := by repeat (first | assumption | exact Below.refl _ _ | ((with_reducible refine lit2 _ _ _ _ _ ?_); (first | (with_reducible rfl) | (simp; done))) | ((with_reducible refine lit1 _ _ _ _ ?_); (first | (with_reducible rfl) | (simp; done))) | refine row_step (by first | assumption | exact below_alloc1 _ _ | exact below_drew1 _ | exact below_drewN0 _ _) ?_ | refine block_below (by first | assumption | exact below_alloc1 _ _ | exact below_drew1 _ | exact below_drewN0 _ _) ?_ | refine below_then ?_ (by first | assumption | exact below_alloc1 _ _ | exact below_drew1 _ | exact below_drewN0 _ _))
  obtain ⟨cG0, cG1, cG2, cG3, cG4⟩ := cells5' hG2
  go_wp2_with fail
  by_cases h2 : 100 < m'
  · refine (great_q x' i' r' n' A' m' c' _ true (by simp; omega)).mono ?_
    rintro e wE ⟨rfl, hBE⟩
    go_wp2_with fail
    go_ret
    exact ⟨rfl, by repeat (first | assumption | exact Below.refl _ _ | ((with_reducible refine lit2 _ _ _ _ _ ?_); (first | (with_reducible rfl) | (simp; done))) | ((with_reducible refine lit1 _ _ _ _ ?_); (first | (with_reducible rfl) | (simp; done))) | refine row_step (by first | assumption | exact below_alloc1 _ _ | exact below_drew1 _ | exact below_drewN0 _ _) ?_ | refine block_below (by first | assumption | exact below_alloc1 _ _ | exact below_drew1 _ | exact below_drewN0 _ _) ?_ | refine below_then ?_ (by first | assumption | exact below_alloc1 _ _ | exact below_drew1 _ | exact below_drewN0 _ _))⟩
  refine (great_q x' i' r' n' A' m' c' _ false (by simp; omega)).mono ?_
  rintro e w3 ⟨rfl, hB3⟩
  clear cF0 cF1 cF2 cF3 cF4
  have hF3 : w3.heap[w.heap.size]? = some (.cells #[.bool x, .int .i64 i, .bool r, .int .i64 n, .slice A m c] 24) := by repeat (first | assumption | exact Below.refl _ _ | ((with_reducible refine lit2 _ _ _ _ _ ?_); (first | (with_reducible rfl) | (simp; done))) | ((with_reducible refine lit1 _ _ _ _ ?_); (first | (with_reducible rfl) | (simp; done))) | refine row_step (by first | assumption | exact below_alloc1 _ _ | exact below_drew1 _ | exact below_drewN0 _ _) ?_ | refine block_below (by first | assumption | exact below_alloc1 _ _ | exact below_drew1 _ | exact below_drewN0 _ _) ?_ | refine below_then ?_ (by first | assumption | exact below_alloc1 _ _ | exact below_drew1 _ | exact below_drewN0 _ _))
  obtain ⟨cF0, cF1, cF2, cF3, cF4⟩ := cells5' hF3
  clear cG0 cG1 cG2 cG3 cG4
  have hG3 : w3.heap[w.heap.size + 1]? = some (.cells #[.bool x', .int .i64 i', .bool r', .int .i64 n', .slice A' m' c'] 24) := by repeat (first | assumption | exact Below.refl _ _ | ((with_reducible refine lit2 _ _ _ _ _ ?_); (first | (with_reducible rfl) | (simp; done))) | ((with_reducible refine lit1 _ _ _ _ ?_); (first | (with_reducible rfl) | (simp; done))) | refine row_step (by first | assumption | exact below_alloc1 _ _ | exact below_drew1 _ | exact below_drewN0 _ _) ?_ | refine block_below (by first | assumption | exact below_alloc1 _ _ | exact below_drew1 _ | exact below_drewN0 _ _) ?_ | refine below_then ?_ (by first | assumption | exact below_alloc1 _ _ | exact below_drew1 _ | exact below_drewN0 _ _))
  obtain ⟨cG0, cG1, cG2, cG3, cG4⟩ := cells5' hG3
  go_wp2_with fail
  by_cases h3 : rightV x i r n m = true
  rotate_left
  · refine (refFrRight_q x i r n A m c _ false (by simpa using h3)).mono ?_
    rintro e wE ⟨rfl, hBE⟩
    go_wp2_with fail
    go_ret
    exact ⟨rfl, by repeat (first | assumption | exact Below.refl _ _ | ((with_reducible refine lit2 _ _ _ _ _ ?_); (first | (with_reducible rfl) | (simp; done))) | ((with_reducible refine lit1 _ _ _ _ ?_); (first | (with_reducible rfl) | (simp; done))) | refine row_step (by first | assumption | exact below_alloc1 _ _ | exact below_drew1 _ | exact below_drewN0 _ _) ?_ | refine block_below (by first | assumption | exact below_alloc1 _ _ | exact below_drew1 _ | exact below_drewN0 _ _) ?_ | refine below_then ?_ (by first | assumption | exact below_alloc1 _ _ | exact below_drew1 _ | exact below_drewN0 _ _))⟩
  have H3 := Lib.hid h3
  clear h3
  refine (refFrRight_q x i r n A m c _ true H3.out).mono ?_
  rintro e w4 ⟨rfl, hB4⟩
  clear cF0 cF1 cF2 cF3 cF4
  have hF4 : w4.heap[w.heap.size]? = some (.cells #[.bool x, .int .i64 i, .bool r, .int .i64 n, .slice A m c] 24) := by repeat (first | assumption | exact Below.refl _ _ | ((with_reducible refine lit2 _ _ _ _ _ ?_); (first | (with_reducible rfl) | (simp; done))) | ((with_reducible refine lit1 _ _ _ _ ?_); (first | (with_reducible rfl) | (simp; done))) | refine row_step (by first | assumption | exact below_alloc1 _ _ | exact below_drew1 _ | exact below_drewN0 _ _) ?_ | refine block_below (by first | assumption | exact below_alloc1 _ _ | exact below_drew1 _ | exact below_drewN0 _ _) ?_ | refine below_then ?_ (by first | assumption | exact below_alloc1 _ _ | exact below_drew1 _ | exact below_drewN0 _ _))
  obtain ⟨cF0, cF1, cF2, cF3, cF4⟩ := cells5' hF4
  clear cG0 cG1 cG2 cG3 cG4
  have hG4 : w4.heap[w.heap.size + 1]? = some (.cells #[.bool x', .int .i64 i', .bool r', .int .i64 n', .slice A' m' c'] 24) := by repeat (first | assumption | exact Below.refl _ _ | ((with_reducible refine lit2 _ _ _ _ _ ?_); (first | (with_reducible rfl) | (simp; done))) | ((with_reducible refine lit1 _ _ _ _ ?_); (first | (with_reducible rfl) | (simp; done))) | refine row_step (by first | assumption | exact below_alloc1 _ _ | exact below_drew1 _ | exact below_drewN0 _ _) ?_ | refine block_below (by first | assumption | exact below_alloc1 _ _ | exact below_drew1 _ | exact below_drewN0 _ _) ?_ | refine below_then ?_ (by first | assumption | exact below_alloc1 _ _ | exact below_drew1 _ | exact below_drewN0 _ _))
  obtain ⟨cG0, cG1, cG2, cG3, cG4⟩ := cells5' hG4
  go_wp2_with fail
  by_cases h4 : rightV x' i' r' n' m' = true
  rotate_left
  · refine (refFrRight_q x' i' r' n' A' m' c' _ false (by simpa using h4)).mono ?_
    rintro e wE ⟨rfl, hBE⟩
    go_wp2_with fail
    go_ret
    exact ⟨rfl, by repeat (first | assumption | exact Below.refl _ _ | ((with_reducible refine lit2 _ _ _ _ _ ?_); (first | (with_reducible rfl) | (simp; done))) | ((with_reducible refine lit1 _ _ _ _ ?_); (first | (with_reducible rfl) | (simp; done))) | refine row_step (by first | assumption | exact below_alloc1 _ _ | exact below_drew1 _ | exact below_drewN0 _ _) ?_ | refine block_below (by first | assumption | exact below_alloc1 _ _ | exact below_drew1 _ | exact below_drewN0 _ _) ?_ | refine below_then ?_ (by first | assumption | exact below_alloc1 _ _ | exact below_drew1 _ | exact below_drewN0 _ _))⟩
  have H4 := Lib.hid h4
  clear h4
  refine (refFrRight_q x' i' r' n' A' m' c' _ true H4.out).mono ?_
  rintro e w5 ⟨rfl, hB5⟩
  clear cF0 cF1 cF2 cF3 cF4
  have hF5 : w5.heap[w.heap.size]? = some (.cells #[.bool x, .int .i64 i, .bool r, .int .i64 n, .slice A m c] 24) := by repeat (first | assumption | exact Below.refl _ _ | ((with_reducible refine lit2 _ _ _ _ _ ?_); (first | (with_reducible rfl) | (simp; done))) | ((with_reducible refine lit1 _ _ _ _ ?_); (first | (with_reducible rfl) | (simp; done))) | refine row_step (by first | assumption | exact below_alloc1 _ _ | exact below_drew1 _ | exact below_drewN0 _ _) ?_ | refine block_below (by first | assumption | exact below_alloc1 _ _ | exact below_drew1 _ | exact below_drewN0 _ _) ?_ | refine below_then ?_ (by first | assumption | exact below_alloc1 _ _ | exact below_drew1 _ | exact below_drewN0 _ _))
  obtain ⟨cF0, cF1, cF2, cF3, cF4⟩ := cells5' hF5
  clear cG0 cG1 cG2 cG3 cG4
  have hG5 : w5.heap[w.heap.size + 1]? = some (.cells #[.bool x', .int .i64 i', .bool r', .int .i64 n', .slice A' m' c'] 24) := by repeat (first | assumption | exact Below.refl _ _ | ((with_reducible refine lit2 _ _ _ _ _ ?_); (first | (with_reducible rfl) | (simp; done))) | ((with_reducible refine lit1 _ _ _ _ ?_); (first | (with_reducible rfl) | (simp; done))) | refine row_step (by first | assumption | exact below_alloc1 _ _ | exact below_drew1 _ | exact below_drewN0 _ _) ?_ | refine block_below (by first | assumption | exact below_alloc1 _ _ | exact below_drew1 _ | exact below_drewN0 _ _) ?_ | refine below_then ?_ (by first | assumption | exact below_alloc1 _ _ | exact below_drew1 _ | exact below_drewN0 _ _))
  obtain ⟨cG0, cG1, cG2, cG3, cG4⟩ := cells5' hG5
  clear cF0 cF1 cF2 cF3 cF4 cG0 cG1 cG2 cG3 cG4
  obtain ⟨ID, L, rfl, rfl, hID, hL, hmr⟩ := right_ok H3.out
  obtain ⟨ID', L', rfl, rfl, hID', hL', hmr'⟩ := right_ok H4.out
  have HMr := Lib.hid hmr
  have HMr' := Lib.hid hmr'
  clear hmr hmr'
  obtain ⟨T, hT⟩ : ∃ T, headV x ID r L dl = T := ⟨_, rfl⟩
  obtain ⟨T', hT'⟩ : ∃ T', headV x' ID' r' L' dl' = T' := ⟨_, rfl⟩
  obtain ⟨k, hk⟩ : ∃ k, T.length = k := ⟨_, rfl⟩
  obtain ⟨k', hk'⟩ : ∃ k', T'.length = k' := ⟨_, rfl⟩
  have hk2 : k ≤ 1000 := by
    have : hn x ≤ 39 := (by cases x <;> decide)
    rw [← hk, ← hT, headV_len, HD.out]; omega
  have hk2' : k' ≤ 1000 := by
    have : hn x' ≤ 39 := (by cases x' <;> decide)
    rw [← hk', ← hT', headV_len, HD'.out]; omega
  have HT := Lib.hid hT
  have HT' := Lib.hid hT'
  have Hk := Lib.hid hk
  have Hk' := Lib.hid hk'
  clear hT hT' hk hk'
  obtain ⟨c0, c1, c2, c3, c4⟩ := cells5' hF5
  go_wp2_with fail
  refine (refHead_at x ID r L dl m HD.out A c hID hL _ (by repeat (first | assumption | exact Below.refl _ _ | ((with_reducible refine lit2 _ _ _ _ _ ?_); (first | (with_reducible rfl) | (simp; done))) | ((with_reducible refine lit1 _ _ _ _ ?_); (first | (with_reducible rfl) | (simp; done))) | refine row_step (by first | assumption | exact below_alloc1 _ _ | exact below_drew1 _ | exact below_drewN0 _ _) ?_ | refine block_below (by first | assumption | exact below_alloc1 _ _ | exact below_drew1 _ | exact below_drewN0 _ _) ?_ | refine below_then ?_ (by first | assumption | exact below_alloc1 _ _ | exact below_drew1 _ | exact below_drewN0 _ _))) HB.out (by omega) T HT.out k Hk.out).mono ?_
  rintro e w6 ⟨A6, c6, rfl, hr6, hB6⟩
  clear c0 c1 c2 c3 c4
  have hF6 : w6.heap[w.heap.size]? = some (.cells #[.bool x, .int .i64 ID, .bool r, .int .i64 L, .slice A m c] 24) := by repeat (first | assumption | exact Below.refl _ _ | ((with_reducible refine lit2 _ _ _ _ _ ?_); (first | (with_reducible rfl) | (simp; done))) | ((with_reducible refine lit1 _ _ _ _ ?_); (first | (with_reducible rfl) | (simp; done))) | refine row_step (by first | assumption | exact below_alloc1 _ _ | exact below_drew1 _ | exact below_drewN0 _ _) ?_ | refine block_below (by first | assumption | exact below_alloc1 _ _ | exact below_drew1 _ | exact below_drewN0 _ _) ?_ | refine below_then ?_ (by first | assumption | exact below_alloc1 _ _ | exact below_drew1 _ | exact below_drewN0 _ _))
  have hG6 : w6.heap[w.heap.size + 1]? = some (.cells #[.bool x', .int .i64 ID', .bool r', .int .i64 L', .slice A' m' c'] 24) := by repeat (first | assumption | exact Below.refl _ _ | ((with_reducible refine lit2 _ _ _ _ _ ?_); (first | (with_reducible rfl) | (simp; done))) | ((with_reducible refine lit1 _ _ _ _ ?_); (first | (with_reducible rfl) | (simp; done))) | refine row_step (by first | assumption | exact below_alloc1 _ _ | exact below_drew1 _ | exact below_drewN0 _ _) ?_ | refine block_below (by first | assumption | exact below_alloc1 _ _ | exact below_drew1 _ | exact below_drewN0 _ _) ?_ | refine below_then ?_ (by first | assumption | exact below_alloc1 _ _ | exact below_drew1 _ | exact below_drewN0 _ _))
  obtain ⟨c0, c1, c2, c3, c4⟩ := cells5' hG6
  go_wp2_with fail
  refine (refHead_at x' ID' r' L' dl' m' HD'.out A' c' hID' hL' _ (by repeat (first | assumption | exact Below.refl _ _ | ((with_reducible refine lit2 _ _ _ _ _ ?_); (first | (with_reducible rfl) | (simp; done))) | ((with_reducible refine lit1 _ _ _ _ ?_); (first | (with_reducible rfl) | (simp; done))) | refine row_step (by first | assumption | exact below_alloc1 _ _ | exact below_drew1 _ | exact below_drewN0 _ _) ?_ | refine block_below (by first | assumption | exact below_alloc1 _ _ | exact below_drew1 _ | exact below_drewN0 _ _) ?_ | refine below_then ?_ (by first | assumption | exact below_alloc1 _ _ | exact below_drew1 _ | exact below_drewN0 _ _))) HB'.out (by omega) T' HT'.out k' Hk'.out).mono ?_
  rintro e w7 ⟨A7, c7, rfl, hr7, hB7⟩
  clear c0 c1 c2 c3 c4
  have hF7 : w7.heap[w.heap.size]? = some (.cells #[.bool x, .int .i64 ID, .bool r, .int .i64 L, .slice A m c] 24) := by repeat (first | assumption | exact Below.refl _ _ | ((with_reducible refine lit2 _ _ _ _ _ ?_); (first | (with_reducible rfl) | (simp; done))) | ((with_reducible refine lit1 _ _ _ _ ?_); (first | (with_reducible rfl) | (simp; done))) | refine row_step (by first | assumption | exact below_alloc1 _ _ | exact below_drew1 _ | exact below_drewN0 _ _) ?_ | refine block_below (by first | assumption | exact below_alloc1 _ _ | exact below_drew1 _ | exact below_drewN0 _ _) ?_ | refine below_then ?_ (by first | assumption | exact below_alloc1 _ _ | exact below_drew1 _ | exact below_drewN0 _ _))
  have hG7 : w7.heap[w.heap.size + 1]? = some (.cells #[.bool x', .int .i64 ID', .bool r', .int .i64 L', .slice A' m' c'] 24) := by repeat (first | assumption | exact Below.refl _ _ | ((with_reducible refine lit2 _ _ _ _ _ ?_); (first | (with_reducible rfl) | (simp; done))) | ((with_reducible refine lit1 _ _ _ _ ?_); (first | (with_reducible rfl) | (simp; done))) | refine row_step (by first | assumption | exact below_alloc1 _ _ | exact below_drew1 _ | exact below_drewN0 _ _) ?_ | refine block_below (by first | assumption | exact below_alloc1 _ _ | exact below_drew1 _ | exact below_drewN0 _ _) ?_ | refine below_then ?_ (by first | assumption | exact below_alloc1 _ _ | exact below_drew1 _ | exact below_drewN0 _ _))
  have ra7 : Row .i64 w7 w7.heap.size A6 T := by repeat (first | assumption | exact Below.refl _ _ | ((with_reducible refine lit2 _ _ _ _ _ ?_); (first | (with_reducible rfl) | (simp; done))) | ((with_reducible refine lit1 _ _ _ _ ?_); (first | (with_reducible rfl) | (simp; done))) | refine row_step (by first | assumption | exact below_alloc1 _ _ | exact below_drew1 _ | exact below_drewN0 _ _) ?_ | refine block_below (by first | assumption | exact below_alloc1 _ _ | exact below_drew1 _ | exact below_drewN0 _ _) ?_ | refine below_then ?_ (by first | assumption | exact below_alloc1 _ _ | exact below_drew1 _ | exact below_drewN0 _ _))
  have dl7 : Row .u8 w7 w7.heap.size A dl := by repeat (first | assumption | exact Below.refl _ _ | ((with_reducible refine lit2 _ _ _ _ _ ?_); (first | (with_reducible rfl) | (simp; done))) | ((with_reducible refine lit1 _ _ _ _ ?_); (first | (with_reducible rfl) | (simp; done))) | refine row_step (by first | assumption | exact below_alloc1 _ _ | exact below_drew1 _ | exact below_drewN0 _ _) ?_ | refine block_below (by first | assumption | exact below_alloc1 _ _ | exact below_drew1 _ | exact below_drewN0 _ _) ?_ | refine below_then ?_ (by first | assumption | exact below_alloc1 _ _ | exact below_drew1 _ | exact below_drewN0 _ _))
  have dm7 : Row .u8 w7 w7.heap.size A' dl' := by repeat (first | assumption | exact Below.refl _ _ | ((with_reducible refine lit2 _ _ _ _ _ ?_); (first | (with_reducible rfl) | (simp; done))) | ((with_reducible refine lit1 _ _ _ _ ?_); (first | (with_reducible rfl) | (simp; done))) | refine row_step (by first | assumption | exact below_alloc1 _ _ | exact below_drew1 _ | exact below_drewN0 _ _) ?_ | refine block_below (by first | assumption | exact below_alloc1 _ _ | exact below_drew1 _ | exact below_drewN0 _ _) ?_ | refine below_then ?_ (by first | assumption | exact below_alloc1 _ _ | exact below_drew1 _ | exact below_drewN0 _ _))
  have tot7 : Below w.heap.size w w7 := by repeat (first | assumption | exact Below.refl _ _ | ((with_reducible refine lit2 _ _ _ _ _ ?_); (first | (with_reducible rfl) | (simp; done))) | ((with_reducible refine lit1 _ _ _ _ ?_); (first | (with_reducible rfl) | (simp; done))) | refine row_step (by first | assumption | exact below_alloc1 _ _ | exact below_drew1 _ | exact below_drewN0 _ _) ?_ | refine block_below (by first | assumption | exact below_alloc1 _ _ | exact below_drew1 _ | exact below_drewN0 _ _) ?_ | refine below_then ?_ (by first | assumption | exact below_alloc1 _ _ | exact below_drew1 _ | exact below_drewN0 _ _))
  clear hB0 hB1 hB2 hB3 hB4 hB5 hB6 hB7 hF0 hF1 hF2 hF3 hF4 hF5 hF6 hG0 hG1 hG2 hG3 hG4 hG5 hG6 hr6
  go_wp2_with fail
  go_loopw [8] (fun i wr => ∃ j q : Nat, j ≤ k ∧ j ≤ k' ∧ i = .int .i64 j ∧ T.take j = T'.take j ∧ wr = w7.drewN q) (fun i _ => k - (intOf i).toNat)
  case atStart => exact ⟨0, 0, Nat.zero_le _, Nat.zero_le _, rfl, by simp, rfl⟩
  case round =>
    obtain ⟨j, q, hj, hj', rfl, htk, rfl⟩ := hrel
    have Htk := Lib.hid htk
    clear htk
    have more : j < k → j < k' → (∃ ad ad2 a b, A6 = some ad ∧ A7 = some ad2 ∧ T[j]? = some a ∧ T'[j]? = some b ∧ w7.cell? (ad.add j) = some (.int .i64 a) ∧ w7.cell? (ad2.add j) = some (.int .i64 b)) := by
      intro g1 g2
      obtain ⟨ad, a, e1, e2, e3⟩ := ra7.get_ (k := j) (by rw [Hk.out]; exact g1)
      obtain ⟨ad2, b, e4, e5, e6⟩ := hr7.get_ (k := j) (by rw [Hk'.out]; exact g2)
      exact ⟨ad, ad2, a, b, e1, e4, e2, e5, e3, e6⟩
    by_cases g1 : j < k
    · have d1 : decide ((j : Int) < (k : Int)) = true := by simp; omega
      by_cases g2 : j < k'
      · obtain ⟨ad, ad2, a, b, rfl, rfl, ha, hb, ca, cb⟩ := more g1 g2
        have d2 : decide ((j : Int) < (k' : Int)) = true := by simp; omega
        have Ha := Lib.hid ha
        have Hb := Lib.hid hb
        clear ha hb
        by_cases hab : a = b
        · subst hab
          have d3 : (a == a) = true := by simp
          go_wp2_with fail
          go_quiet (fail)
          go_wp2_with fail
          refine ⟨⟨j + 1, _, by omega, by omega, by go_num, ?_, rfl⟩, by simp [intOf]; omega⟩
          rw [take_snoc Ha.out, take_snoc Hb.out, Htk.out]
        · have d3 : (a == b) = false := by simp [hab]
          clear hab more
          go_wp2_with fail
          go_quiet (fail)
          have hBq : Below w7.heap.size w7 ((w7.drewN q).drewN nq) := below_drewN' (below_drewN0 _ _) _
          have hF8 := obj_below hF7 hBq
          have hG8 := obj_below hG7 hBq
          have dl8 := dl7.to hBq
          have dm8 := dm7.to hBq
          have tot8 := below_then tot7 hBq
          generalize (w7.drewN q).drewN nq = w8 at hF8 hG8 dl8 dm8 tot8 ⊢
          clear hBq
          obtain ⟨c0, c1, c2, c3, c4⟩ := cells5' hF8
          obtain ⟨K, hK⟩ : ∃ K, (sentV T).length = K := ⟨_, rfl⟩
          obtain ⟨K', hK'⟩ : ∃ K', (sentV T').length = K' := ⟨_, rfl⟩
          have b1 : k + 25 ≤ K := by rw [← hK, ← Hk.out]; exact sent_min T
          have b1' : k' + 25 ≤ K' := by rw [← hK', ← Hk'.out]; exact sent_min T'
          have b2 : K ≤ 4000 := by
            have e2 := sentV_len T
            have e3 := stuffL_most (bareV T)
            rw [bareV_len, Hk.out] at e3
            omega
          have b2' : K' ≤ 4000 := by
            have e2 := sentV_len T'
            have e3 := stuffL_most (bareV T')
            rw [bareV_len, Hk'.out] at e3
            omega
          have HK := Lib.hid hK
          have HK' := Lib.hid hK'
          clear hK hK'
          go_wp2_with fail
          refine (wireBits_at x ID r L dl m HD.out A c hID hL _ dl8 HB.out (by omega) T HT.out K HK.out).mono ?_
          rintro e w9 ⟨A9, c9, rfl, hr9, hc9, hB9⟩
          clear c0 c1 c2 c3 c4
          have dm9 := dm8.to hB9
          have tot9 := below_then tot8 hB9
          obtain ⟨c0, c1, c2, c3, c4⟩ := cells5' (obj_below hG8 hB9)
          go_wp2_with fail
          refine (wireBits_at x' ID' r' L' dl' m' HD'.out A' c' hID' hL' _ dm9 HB'.out (by omega) T' HT'.out K' HK'.out).mono ?_
          rintro e w10 ⟨A10, c10, rfl, hr10, hc10, hB10⟩
          clear c0 c1 c2 c3 c4
          have tot10 := below_then tot9 hB10
          have s9 : Row .i64 w10 w10.heap.size A9 ((sentV T).take j) := (hr9.to hB10).sub_ 0 j (by omega) (by rw [HK.out]; omega) (fun _ => by cases A9 <;> rfl)
          have s10 : Row .i64 w10 w10.heap.size A10 ((sentV T').take j) := hr10.sub_ 0 j (by omega) (by rw [HK'.out]; omega) (fun _ => by cases A10 <;> rfl)
          have Hsame := Lib.hid (show sameB ((sentV T).take j) ((sentV T').take j) = true by unfold sameB; rw [shares (by rw [Hk.out]; omega) (by rw [Hk'.out]; omega) Htk.out]; simp)
          have Hs1 := Lib.hid (show ((sentV T).take j).length = j by rw [List.length_take, HK.out]; omega)
          have Hs2 := Lib.hid (show ((sentV T').take j).length = j by rw [List.length_take, HK'.out]; omega)
          clear hr9 hr10 hB9 hB10 hF8 hG8 dl8 dm8 tot8 dm9 tot9
          have u1 : decide ((j : Int) ≤ (K : Int)) = true := by simp; omega
          have u2 : decide ((j : Int) ≤ (K' : Int)) = true := by simp; omega
          have u3 : decide ((k : Int) + 15 < (K : Int)) = true := by simp; omega
          have u4 : decide ((k' : Int) + 15 < (K' : Int)) = true := by simp; omega
          have v1 : j ≤ K := by omega
          have v2 : j ≤ K' := by omega
          have v3 : (j : Int) ≤ (c9 : Int) := by omega
          have v4 : (j : Int) ≤ (c10 : Int) := by omega
          have v5 : j ≤ c9 := by omega
          have v6 : j ≤ c10 := by omega
          have v7 : (k : Int) + 15 < (K : Int) := by omega
          have v8 : (k' : Int) + 15 < (K' : Int) := by omega
          go_wp2_with fail
          go_quiet ((go_at_call 14; refine Calls.quiet_of (same_d _ _ j j Hs1.out Hs2.out A9 A10 _ _ w10.heap.size w10.heap.size _ (s9.drewN _) (s10.drewN _) (by unfold maxLen; omega) true Hsame.out)))
          go_wp2_with fail
          go_ret
          exact ⟨rfl, below_drewN' tot10 _⟩
      · have d2 : decide ((j : Int) < (k' : Int)) = false := by simp; omega
        clear more
        go_wp2_with fail
        go_quiet (fail)
        have hBq : Below w7.heap.size w7 ((w7.drewN q).drewN nq) := below_drewN' (below_drewN0 _ _) _
        have hF8 := obj_below hF7 hBq
        have hG8 := obj_below hG7 hBq
        have dl8 := dl7.to hBq
        have dm8 := dm7.to hBq
        have tot8 := below_then tot7 hBq
        generalize (w7.drewN q).drewN nq = w8 at hF8 hG8 dl8 dm8 tot8 ⊢
        clear hBq
        obtain ⟨c0, c1, c2, c3, c4⟩ := cells5' hF8
        obtain ⟨K, hK⟩ : ∃ K, (sentV T).length = K := ⟨_, rfl⟩
        obtain ⟨K', hK'⟩ : ∃ K', (sentV T').length = K' := ⟨_, rfl⟩
        have b1 : k + 25 ≤ K := by rw [← hK, ← Hk.out]; exact sent_min T
        have b1' : k' + 25 ≤ K' := by rw [← hK', ← Hk'.out]; exact sent_min T'
        have b2 : K ≤ 4000 := by
          have e2 := sentV_len T
          have e3 := stuffL_most (bareV T)
          rw [bareV_len, Hk.out] at e3
          omega
        have b2' : K' ≤ 4000 := by
          have e2 := sentV_len T'
          have e3 := stuffL_most (bareV T')
          rw [bareV_len, Hk'.out] at e3
          omega
        have HK := Lib.hid hK
        have HK' := Lib.hid hK'
        clear hK hK'
        go_wp2_with fail
        refine (wireBits_at x ID r L dl m HD.out A c hID hL _ dl8 HB.out (by omega) T HT.out K HK.out).mono ?_
        rintro e w9 ⟨A9, c9, rfl, hr9, hc9, hB9⟩
        clear c0 c1 c2 c3 c4
        have dm9 := dm8.to hB9
        have tot9 := below_then tot8 hB9
        obtain ⟨c0, c1, c2, c3, c4⟩ := cells5' (obj_below hG8 hB9)
        go_wp2_with fail
        refine (wireBits_at x' ID' r' L' dl' m' HD'.out A' c' hID' hL' _ dm9 HB'.out (by omega) T' HT'.out K' HK'.out).mono ?_
        rintro e w10 ⟨A10, c10, rfl, hr10, hc10, hB10⟩
        clear c0 c1 c2 c3 c4
        have tot10 := below_then tot9 hB10
        have s9 : Row .i64 w10 w10.heap.size A9 ((sentV T).take j) := (hr9.to hB10).sub_ 0 j (by omega) (by rw [HK.out]; omega) (fun _ => by cases A9 <;> rfl)
        have s10 : Row .i64 w10 w10.heap.size A10 ((sentV T').take j) := hr10.sub_ 0 j (by omega) (by rw [HK'.out]; omega) (fun _ => by cases A10 <;> rfl)
        have Hsame := Lib.hid (show sameB ((sentV T).take j) ((sentV T').take j) = true by unfold sameB; rw [shares (by rw [Hk.out]; omega) (by rw [Hk'.out]; omega) Htk.out]; simp)
        have Hs1 := Lib.hid (show ((sentV T).take j).length = j by rw [List.length_take, HK.out]; omega)
        have Hs2 := Lib.hid (show ((sentV T').take j).length = j by rw [List.length_take, HK'.out]; omega)
        clear hr9 hr10 hB9 hB10 hF8 hG8 dl8 dm8 tot8 dm9 tot9
        have u1 : decide ((j : Int) ≤ (K : Int)) = true := by simp; omega
        have u2 : decide ((j : Int) ≤ (K' : Int)) = true := by simp; omega
        have u3 : decide ((k : Int) + 15 < (K : Int)) = true := by simp; omega
        have u4 : decide ((k' : Int) + 15 < (K' : Int)) = true := by simp; omega
        have v1 : j ≤ K := by omega
        have v2 : j ≤ K' := by omega
        have v3 : (j : Int) ≤ (c9 : Int) := by omega
        have v4 : (j : Int) ≤ (c10 : Int) := by omega
        have v5 : j ≤ c9 := by omega
        have v6 : j ≤ c10 := by omega
        have v7 : (k : Int) + 15 < (K : Int) := by omega
        have v8 : (k' : Int) + 15 < (K' : Int) := by omega
        go_wp2_with fail
        go_quiet ((go_at_call 14; refine Calls.quiet_of (same_d _ _ j j Hs1.out Hs2.out A9 A10 _ _ w10.heap.size w10.heap.size _ (s9.drewN _) (s10.drewN _) (by unfold maxLen; omega) true Hsame.out)))
        go_wp2_with fail
        go_ret
        exact ⟨rfl, below_drewN' tot10 _⟩
    · have d1 : decide ((j : Int) < (k : Int)) = false := by simp; omega
      clear more
      go_wp2_with fail
      go_quiet (fail)
      have hBq : Below w7.heap.size w7 ((w7.drewN q).drewN nq) := below_drewN' (below_drewN0 _ _) _
      have hF8 := obj_below hF7 hBq
      have hG8 := obj_below hG7 hBq
      have dl8 := dl7.to hBq
      have dm8 := dm7.to hBq
      have tot8 := below_then tot7 hBq
      generalize (w7.drewN q).drewN nq = w8 at hF8 hG8 dl8 dm8 tot8 ⊢
      clear hBq
      obtain ⟨c0, c1, c2, c3, c4⟩ := cells5' hF8
      obtain ⟨K, hK⟩ : ∃ K, (sentV T).length = K := ⟨_, rfl⟩
      obtain ⟨K', hK'⟩ : ∃ K', (sentV T').length = K' := ⟨_, rfl⟩
      have b1 : k + 25 ≤ K := by rw [← hK, ← Hk.out]; exact sent_min T
      have b1' : k' + 25 ≤ K' := by rw [← hK', ← Hk'.out]; exact sent_min T'
      have b2 : K ≤ 4000 := by
        have e2 := sentV_len T
        have e3 := stuffL_most (bareV T)
        rw [bareV_len, Hk.out] at e3
        omega
      have b2' : K' ≤ 4000 := by
        have e2 := sentV_len T'
        have e3 := stuffL_most (bareV T')
        rw [bareV_len, Hk'.out] at e3
        omega
      have HK := Lib.hid hK
      have HK' := Lib.hid hK'
      clear hK hK'
      go_wp2_with fail
      refine (wireBits_at x ID r L dl m HD.out A c hID hL _ dl8 HB.out (by omega) T HT.out K HK.out).mono ?_
      rintro e w9 ⟨A9, c9, rfl, hr9, hc9, hB9⟩
      clear c0 c1 c2 c3 c4
      have dm9 := dm8.to hB9
      have tot9 := below_then tot8 hB9
      obtain ⟨c0, c1, c2, c3, c4⟩ := cells5' (obj_below hG8 hB9)
      go_wp2_with fail
      refine (wireBits_at x' ID' r' L' dl' m' HD'.out A' c' hID' hL' _ dm9 HB'.out (by omega) T' HT'.out K' HK'.out).mono ?_
      rintro e w10 ⟨A10, c10, rfl, hr10, hc10, hB10⟩
      clear c0 c1 c2 c3 c4
      have tot10 := below_then tot9 hB10
      have s9 : Row .i64 w10 w10.heap.size A9 ((sentV T).take j) := (hr9.to hB10).sub_ 0 j (by omega) (by rw [HK.out]; omega) (fun _ => by cases A9 <;> rfl)
      have s10 : Row .i64 w10 w10.heap.size A10 ((sentV T').take j) := hr10.sub_ 0 j (by omega) (by rw [HK'.out]; omega) (fun _ => by cases A10 <;> rfl)
      have Hsame := Lib.hid (show sameB ((sentV T).take j) ((sentV T').take j) = true by unfold sameB; rw [shares (by rw [Hk.out]; omega) (by rw [Hk'.out]; omega) Htk.out]; simp)
      have Hs1 := Lib.hid (show ((sentV T).take j).length = j by rw [List.length_take, HK.out]; omega)
      have Hs2 := Lib.hid (show ((sentV T').take j).length = j by rw [List.length_take, HK'.out]; omega)
      clear hr9 hr10 hB9 hB10 hF8 hG8 dl8 dm8 tot8 dm9 tot9
      have u1 : decide ((j : Int) ≤ (K : Int)) = true := by simp; omega
      have u2 : decide ((j : Int) ≤ (K' : Int)) = true := by simp; omega
      have u3 : decide ((k : Int) + 15 < (K : Int)) = true := by simp; omega
      have u4 : decide ((k' : Int) + 15 < (K' : Int)) = true := by simp; omega
      have v1 : j ≤ K := by omega
      have v2 : j ≤ K' := by omega
      have v3 : (j : Int) ≤ (c9 : Int) := by omega
      have v4 : (j : Int) ≤ (c10 : Int) := by omega
      have v5 : j ≤ c9 := by omega
      have v6 : j ≤ c10 := by omega
      have v7 : (k : Int) + 15 < (K : Int) := by omega
      have v8 : (k' : Int) + 15 < (K' : Int) := by omega
      go_wp2_with fail
      go_quiet ((go_at_call 14; refine Calls.quiet_of (same_d _ _ j j Hs1.out Hs2.out A9 A10 _ _ w10.heap.size w10.heap.size _ (s9.drewN _) (s10.drewN _) (by unfold maxLen; omega) true Hsame.out)))
      go_wp2_with fail
      go_ret
      exact ⟨rfl, below_drewN' tot10 _⟩

end Go.Proofs.Ytmapkjjglhpamaa
