/-
  WireApart. (Written by wip/tools/mk_wwalk.py.)
-/
import Derived.Test.YtmapkjjglhpamaaWLaw
import Derived.Test.YtmapkjjglhpamaaHead5
import Derived.Test.YtmapkjjglhpamaaWLaw2
namespace Go.Proofs.Ytmapkjjglhpamaa
open Go.RowKit

theorem and10 {a b c d e a' b' c' d' e' : Prop} (h : a ∧ b ∧ c ∧ d ∧ e) (k : a' ∧ b' ∧ c' ∧ d' ∧ e') : a ∧ b ∧ c ∧ d ∧ e ∧ a' ∧ b' ∧ c' ∧ d' ∧ e' := ⟨h.1, h.2.1, h.2.2.1, h.2.2.2.1, h.2.2.2.2, k⟩

set_option maxRecDepth 100000 in
set_option maxHeartbeats 2000000 in
theorem wireApart_walk (x : Bool) (i : Int) (r : Bool) (n : Int) (dl : List Int) (m : Nat) (hdl : dl.length = m) (A : Option Addr) (c : Nat) (x' : Bool) (i' : Int) (r' : Bool) (n' : Int) (dl' : List Int) (m' : Nat) (hdl' : dl'.length = m') (A' : Option Addr) (c' : Nat) (w : World) (h : Row .u8 w w.heap.size A dl) (hb : byteB dl) (h' : Row .u8 w w.heap.size A' dl') (hb' : byteB dl') :
    Calls Try.prog 8 #[.agg #[.bool x, .int .i64 i, .bool r, .int .i64 n, .slice A m c], .agg #[.bool x', .int .i64 i', .bool r', .int .i64 n', .slice A' m' c']] w fun e w' => e = .returned (.bool true) ∧ Below w.heap.size w w' := by
  have HD := Lib.hid hdl
  have HB := Lib.hid hb
  have HD' := Lib.hid hdl'
  have HB' := Lib.hid hb'
  clear hdl hb hdl' hb'
  obtain ⟨w0, hw0⟩ : ∃ w0, (w.alloc (.cells #[.bool x, .int .i64 i, .bool r, .int .i64 n, .slice A m c] 24)).alloc (.cells #[.bool x', .int .i64 i', .bool r', .int .i64 n', .slice A' m' c'] 24) = w0 := ⟨_, rfl⟩
  have hB0 : Below w.heap.size w w0 := by rw [← hw0]; exact below_then (below_alloc1 _ _) (below_alloc1 _ _)
  have hF0 : w0.heap[w.heap.size]? = some (.cells #[.bool x, .int .i64 i, .bool r, .int .i64 n, .slice A m c] 24) := by rw [← hw0]; exact block_below (below_alloc1 _ _) (World.alloc_heap_new _ _)
  have hG0 : w0.heap[w.heap.size + 1]? = some (.cells #[.bool x', .int .i64 i', .bool r', .int .i64 n', .slice A' m' c'] 24) := by rw [← hw0]; have := World.alloc_heap_new (w.alloc (.cells #[.bool x, .int .i64 i, .bool r, .int .i64 n, .slice A m c] 24)) (.cells #[.bool x', .int .i64 i', .bool r', .int .i64 n', .slice A' m' c'] 24); simpa using this
  have HW0 := Lib.hid hw0
  clear hw0
  go_enter Try.func8, Try.ntmps8
  go_wp2_with fail
  rw [HW0.out]
  clear HW0
  refine (head5_any _).mono ?_
  rintro e w1 ⟨rfl, hB1⟩
  have hF1 : w1.heap[w.heap.size]? = some (.cells #[.bool x, .int .i64 i, .bool r, .int .i64 n, .slice A m c] 24) := by repeat (first | assumption | exact Below.refl _ _ | ((with_reducible refine lit2 _ _ _ _ _ ?_); (first | (with_reducible rfl) | (simp; done))) | ((with_reducible refine lit1 _ _ _ _ ?_); (first | (with_reducible rfl) | (simp; done))) | refine row_step (by first | assumption | exact below_alloc1 _ _ | exact below_drew1 _ | exact below_drewN0 _ _) ?_ | refine block_below (by first | assumption | exact below_alloc1 _ _ | exact below_drew1 _ | exact below_drewN0 _ _) ?_ | refine below_then ?_ (by first | assumption | exact below_alloc1 _ _ | exact below_drew1 _ | exact below_drewN0 _ _))
  obtain ⟨cF0, cF1, cF2, cF3, cF4⟩ := cells5' hF1
  have hG1 : w1.heap[w.heap.size + 1]? = some (.cells #[.bool x', .int .i64 i', .bool r', .int .i64 n', .slice A' m' c'] 24) := by repeat (first | assumption | exact Below.refl _ _ | ((with_reducible refine lit2 _ _ _ _ _ ?_); (first | (with_reducible rfl) | (simp; done))) | ((with_reducible refine lit1 _ _ _ _ ?_); (first | (with_reducible rfl) | (simp; done))) | refine row_step (by first | assumption | exact below_alloc1 _ _ | exact below_drew1 _ | exact below_drewN0 _ _) ?_ | refine block_below (by first | assumption | exact below_alloc1 _ _ | exact below_drew1 _ | exact below_drewN0 _ _) ?_ | refine below_then ?_ (by first | assumption | exact below_alloc1 _ _ | exact below_drew1 _ | exact below_drewN0 _ _))
  obtain ⟨cG0, cG1, cG2, cG3, cG4⟩ := cells5' hG1
  go_wp2_with fail
  by_cases h1 : 100 < m
  · refine (great_q x i r n A m c _ true (by simp; omega)).mono ?_
    rintro e wE ⟨rfl, hBE⟩
    go_wp2_with fail
    go_ret
    exact ⟨rfl, by repeat (first | assumption | exact Below.refl _ _ | ((with_reducible refine lit2 _ _ _ _ _ ?_); (first | (with_reducible rfl) | (simp; done))) | ((with_reducible refine lit1 _ _ _ _ ?_); (first | (with_reducible rfl) | (simp; done))) | refine row_step (by first | assumption | exact below_alloc1 _ _ | exact below_drew1 _ | exact below_drewN0 _ _) ?_ | refine block_below (by first | assumption | exact below_alloc1 _ _ | exact below_drew1 _ | exact below_drewN0 _ _) ?_ | refine below_then ?_ (by first | assumption | exact below_alloc1 _ _ | exact below_drew1 _ | exact below_drewN0 _ _))⟩
  refine (great_q x i r n A m c _ false (by simp; omega)).mono ?_
  rintro e w2 ⟨rfl, hB2⟩
  clear cF0 cF1 cF2 cF3 cF4
  have hF2 : w2.heap[w.heap.size]? = some (.cells #[.bool x, .int .i64 i, .bool r, .int .i64 n, .slice A m c] 24) := by repeat (first | assumption | exact Below.refl _ _ | ((with_reducible refine lit2 _ _ _ _ _ ?_); (first | (with_reducible rfl) | (simp; done))) | ((with_reducible refine lit1 _ _ _ _ ?_); (first | (with_reducible rfl) | (simp; done))) | refine row_step (by first | assumption | exact below_alloc1 _ _ | exact below_drew1 _ | exact below_drewN0 _ _) ?_ | refine block_below (by first | assumption | exact below_alloc1 _ _ | exact below_drew1 _ | exact below_drewN0 _ _) ?_ | refine below_then ?_ (by first | assumption | exact below_alloc1 _ _ | exact below_drew1 _ | exact below_drewN0 _ _))
  obtain ⟨cF0, cF1, cF2, cF3, cF4⟩ := cells5' hF2
  clear cG0 cG1 cG2 cG3 cG4
  have hG2 : w2.heap[w.heap.size + 1]? = some (.cells #[.bool x', .int .i64 i', .bool r', .int .i64 n', .slice A' m' c'] 24) := by repeat (first | assumption | exact Below.refl _ _ | ((with_reducible refine lit2 _ _ _ _ _ ?_); (first | (with_reducible rfl) | (simp; done))) | ((with_reducible refine lit1 _ _ _ _ ?_); (first | (with_reducible rfl) | (simp; done))) | refine row_step (by first | assumption | exact below_alloc1 _ _ | exact below_drew1 _ | exact below_drewN0 _ _) ?_ | refine block_below (by first | assumption | exact below_alloc1 _ _ | exact below_drew1 _ | exact below_drewN0 _ _) ?_ | refine below_then ?_ (by first | assumption | exact below_alloc1 _ _ | exact below_drew1 _ | exact below_drewN0 _ _))
  obtain ⟨cG0, cG1, cG2, cG3, cG4⟩ := cells5' hG2
  go_wp2_with fail
  by_cases h2 : 100 < m'
  · refine (great_q x' i' r' n' A' m' c' _ true (by simp; omega)).mono ?_
    rintro e wE ⟨rfl, hBE⟩
    go_wp2_with fail
    go_ret
    exact ⟨rfl, by repeat (first | assumption | exact Below.refl _ _ | ((with_reducible refine lit2 _ _ _ _ _ ?_); (first | (with_reducible rfl) | (simp; done))) | ((with_reducible refine lit1 _ _ _ _ ?_); (first | (with_reducible rfl) | (simp; done))) | refine row_step (by first | assumption | exact below_alloc1 _ _ | exact below_drew1 _ | exact below_drewN0 _ _) ?_ | refine block_below (by first | assumption | exact below_alloc1 _ _ | exact below_drew1 _ | exact below_drewN0 _ _) ?_ | refine below_then ?_ (by first | assumption | exact below_alloc1 _ _ | exact below_drew1 _ | exact below_drewN0 _ _))⟩
  refine (great_q x' i' r' n' A' m' c' _ false (by simp; omega)).mono ?_
  rintro e w3 ⟨rfl, hB3⟩
  clear cF0 cF1 cF2 cF3 cF4
  have hF3 : w3.heap[w.heap.size]? = some (.cells #[.bool x, .int .i64 i, .bool r, .int .i64 n, .slice A m c] 24) := by repeat (first | assumption | exact Below.refl _ _ | ((with_reducible refine lit2 _ _ _ _ _ ?_); (first | (with_reducible rfl) | (simp; done))) | ((with_reducible refine lit1 _ _ _ _ ?_); (first | (with_reducible rfl) | (simp; done))) | refine row_step (by first | assumption | exact below_alloc1 _ _ | exact below_drew1 _ | exact below_drewN0 _ _) ?_ | refine block_below (by first | assumption | exact below_alloc1 _ _ | exact below_drew1 _ | exact below_drewN0 _ _) ?_ | refine below_then ?_ (by first | assumption | exact below_alloc1 _ _ | exact below_drew1 _ | exact below_drewN0 _ _))
  obtain ⟨cF0, cF1, cF2, cF3, cF4⟩ := cells5' hF3
  clear cG0 cG1 cG2 cG3 cG4
  have hG3 : w3.heap[w.heap.size + 1]? = some (.cells #[.bool x', .int .i64 i', .bool r', .int .i64 n', .slice A' m' c'] 24) := by repeat (first | assumption | exact Below.refl _ _ | ((with_reducible refine lit2 _ _ _ _ _ ?_); (first | (with_reducible rfl) | (simp; done))) | ((with_reducible refine lit1 _ _ _ _ ?_); (first | (with_reducible rfl) | (simp; done))) | refine row_step (by first | assumption | exact below_alloc1 _ _ | exact below_drew1 _ | exact below_drewN0 _ _) ?_ | refine block_below (by first | assumption | exact below_alloc1 _ _ | exact below_drew1 _ | exact below_drewN0 _ _) ?_ | refine below_then ?_ (by first | assumption | exact below_alloc1 _ _ | exact below_drew1 _ | exact below_drewN0 _ _))
  obtain ⟨cG0, cG1, cG2, cG3, cG4⟩ := cells5' hG3
  go_wp2_with fail
  by_cases h3 : rightV x i r n m = true
  rotate_left
  · refine (refFrRight_q x i r n A m c _ false (by simpa using h3)).mono ?_
    rintro e wE ⟨rfl, hBE⟩
    go_wp2_with fail
    go_ret
    exact ⟨rfl, by repeat (first | assumption | exact Below.refl _ _ | ((with_reducible refine lit2 _ _ _ _ _ ?_); (first | (with_reducible rfl) | (simp; done))) | ((with_reducible refine lit1 _ _ _ _ ?_); (first | (with_reducible rfl) | (simp; done))) | refine row_step (by first | assumption | exact below_alloc1 _ _ | exact below_drew1 _ | exact below_drewN0 _ _) ?_ | refine block_below (by first | assumption | exact below_alloc1 _ _ | exact below_drew1 _ | exact below_drewN0 _ _) ?_ | refine below_then ?_ (by first | assumption | exact below_alloc1 _ _ | exact below_drew1 _ | exact below_drewN0 _ _))⟩
  have H3 := Lib.hid h3
  clear h3
  refine (refFrRight_q x i r n A m c _ true H3.out).mono ?_
  rintro e w4 ⟨rfl, hB4⟩
  clear cF0 cF1 cF2 cF3 cF4
  have hF4 : w4.heap[w.heap.size]? = some (.cells #[.bool x, .int .i64 i, .bool r, .int .i64 n, .slice A m c] 24) := by repeat (first | assumption | exact Below.refl _ _ | ((with_reducible refine lit2 _ _ _ _ _ ?_); (first | (with_reducible rfl) | (simp; done))) | ((with_reducible refine lit1 _ _ _ _ ?_); (first | (with_reducible rfl) | (simp; done))) | refine row_step (by first | assumption | exact below_alloc1 _ _ | exact below_drew1 _ | exact below_drewN0 _ _) ?_ | refine block_below (by first | assumption | exact below_alloc1 _ _ | exact below_drew1 _ | exact below_drewN0 _ _) ?_ | refine below_then ?_ (by first | assumption | exact below_alloc1 _ _ | exact below_drew1 _ | exact below_drewN0 _ _))
  obtain ⟨cF0, cF1, cF2, cF3, cF4⟩ := cells5' hF4
  clear cG0 cG1 cG2 cG3 cG4
  have hG4 : w4.heap[w.heap.size + 1]? = some (.cells #[.bool x', .int .i64 i', .bool r', .int .i64 n', .slice A' m' c'] 24) := by repeat (first | assumption | exact Below.refl _ _ | ((with_reducible refine lit2 _ _ _ _ _ ?_); (first | (with_reducible rfl) | (simp; done))) | ((with_reducible refine lit1 _ _ _ _ ?_); (first | (with_reducible rfl) | (simp; done))) | refine row_step (by first | assumption | exact below_alloc1 _ _ | exact below_drew1 _ | exact below_drewN0 _ _) ?_ | refine block_below (by first | assumption | exact below_alloc1 _ _ | exact below_drew1 _ | exact below_drewN0 _ _) ?_ | refine below_then ?_ (by first | assumption | exact below_alloc1 _ _ | exact below_drew1 _ | exact below_drewN0 _ _))
  obtain ⟨cG0, cG1, cG2, cG3, cG4⟩ := cells5' hG4
  go_wp2_with fail
  by_cases h4 : rightV x' i' r' n' m' = true
  rotate_left
  · refine (refFrRight_q x' i' r' n' A' m' c' _ false (by simpa using h4)).mono ?_
    rintro e wE ⟨rfl, hBE⟩
    go_wp2_with fail
    go_ret
    exact ⟨rfl, by repeat (first | assumption | exact Below.refl _ _ | ((with_reducible refine lit2 _ _ _ _ _ ?_); (first | (with_reducible rfl) | (simp; done))) | ((with_reducible refine lit1 _ _ _ _ ?_); (first | (with_reducible rfl) | (simp; done))) | refine row_step (by first | assumption | exact below_alloc1 _ _ | exact below_drew1 _ | exact below_drewN0 _ _) ?_ | refine block_below (by first | assumption | exact below_alloc1 _ _ | exact below_drew1 _ | exact below_drewN0 _ _) ?_ | refine below_then ?_ (by first | assumption | exact below_alloc1 _ _ | exact below_drew1 _ | exact below_drewN0 _ _))⟩
  have H4 := Lib.hid h4
  clear h4
  refine (refFrRight_q x' i' r' n' A' m' c' _ true H4.out).mono ?_
  rintro e w5 ⟨rfl, hB5⟩
  clear cF0 cF1 cF2 cF3 cF4
  have hF5 : w5.heap[w.heap.size]? = some (.cells #[.bool x, .int .i64 i, .bool r, .int .i64 n, .slice A m c] 24) := by repeat (first | assumption | exact Below.refl _ _ | ((with_reducible refine lit2 _ _ _ _ _ ?_); (first | (with_reducible rfl) | (simp; done))) | ((with_reducible refine lit1 _ _ _ _ ?_); (first | (with_reducible rfl) | (simp; done))) | refine row_step (by first | assumption | exact below_alloc1 _ _ | exact below_drew1 _ | exact below_drewN0 _ _) ?_ | refine block_below (by first | assumption | exact below_alloc1 _ _ | exact below_drew1 _ | exact below_drewN0 _ _) ?_ | refine below_then ?_ (by first | assumption | exact below_alloc1 _ _ | exact below_drew1 _ | exact below_drewN0 _ _))
  obtain ⟨cF0, cF1, cF2, cF3, cF4⟩ := cells5' hF5
  clear cG0 cG1 cG2 cG3 cG4
  have hG5 : w5.heap[w.heap.size + 1]? = some (.cells #[.bool x', .int .i64 i', .bool r', .int .i64 n', .slice A' m' c'] 24) := by repeat (first | assumption | exact Below.refl _ _ | ((with_reducible refine lit2 _ _ _ _ _ ?_); (first | (with_reducible rfl) | (simp; done))) | ((with_reducible refine lit1 _ _ _ _ ?_); (first | (with_reducible rfl) | (simp; done))) | refine row_step (by first | assumption | exact below_alloc1 _ _ | exact below_drew1 _ | exact below_drewN0 _ _) ?_ | refine block_below (by first | assumption | exact below_alloc1 _ _ | exact below_drew1 _ | exact below_drewN0 _ _) ?_ | refine below_then ?_ (by first | assumption | exact below_alloc1 _ _ | exact below_drew1 _ | exact below_drewN0 _ _))
  obtain ⟨cG0, cG1, cG2, cG3, cG4⟩ := cells5' hG5
  clear cF0 cF1 cF2 cF3 cF4 cG0 cG1 cG2 cG3 cG4
  obtain ⟨ID, L, rfl, rfl, hID, hL, hmr⟩ := right_ok H3.out
  obtain ⟨ID', L', rfl, rfl, hID', hL', hmr'⟩ := right_ok H4.out
  have HMr := Lib.hid hmr
  have HMr' := Lib.hid hmr'
  clear hmr hmr'
  obtain ⟨c0, c1, c2, c3, c4⟩ := cells5' hF5
  obtain ⟨T, hT⟩ : ∃ T, headV x ID r L dl = T := ⟨_, rfl⟩
  have hO : HeadOf T ⟨x, ID, r, L, dl⟩ := by rw [← hT]; exact headOf x ID r L dl hID hL HB.out (by rw [HD.out]; exact HMr.out)
  have hTl : T.length = hn x + 8 * m := by rw [← hT, headV_len, HD.out]
  obtain ⟨K, hK⟩ : ∃ K, (sentV T).length = K + 9 := ⟨(sentV T).length - 9, by have := sentV_len T; omega⟩
  have hKb : 35 ≤ K ∧ K ≤ 4000 := by
    have e1 := sent_min T
    have e2 := sentV_len T
    have e3 := stuffL_most (bareV T)
    rw [bareV_len] at e3
    have : hn x ≤ 39 := by cases x <;> decide
    have : 19 ≤ hn x := by cases x <;> decide
    omega
  have HT := Lib.hid hT
  have HK := Lib.hid hK
  have HO := Lib.hid hO
  have HTl := Lib.hid hTl
  obtain ⟨hKa, hKc⟩ := hKb
  clear hT hK hO hTl
  go_wp2_with fail
  refine (wireBits_at x ID r L dl m HD.out A c hID hL _ (by repeat (first | assumption | exact Below.refl _ _ | ((with_reducible refine lit2 _ _ _ _ _ ?_); (first | (with_reducible rfl) | (simp; done))) | ((with_reducible refine lit1 _ _ _ _ ?_); (first | (with_reducible rfl) | (simp; done))) | refine row_step (by first | assumption | exact below_alloc1 _ _ | exact below_drew1 _ | exact below_drewN0 _ _) ?_ | refine block_below (by first | assumption | exact below_alloc1 _ _ | exact below_drew1 _ | exact below_drewN0 _ _) ?_ | refine below_then ?_ (by first | assumption | exact below_alloc1 _ _ | exact below_drew1 _ | exact below_drewN0 _ _))) HB.out (by omega) T HT.out (K + 9) HK.out).mono ?_
  rintro e w6 ⟨A6, c6, rfl, hr6, hc6, hB6⟩
  clear c0 c1 c2 c3 c4
  have hF6 : w6.heap[w.heap.size]? = some (.cells #[.bool x, .int .i64 ID, .bool r, .int .i64 L, .slice A m c] 24) := by repeat (first | assumption | exact Below.refl _ _ | ((with_reducible refine lit2 _ _ _ _ _ ?_); (first | (with_reducible rfl) | (simp; done))) | ((with_reducible refine lit1 _ _ _ _ ?_); (first | (with_reducible rfl) | (simp; done))) | refine row_step (by first | assumption | exact below_alloc1 _ _ | exact below_drew1 _ | exact below_drewN0 _ _) ?_ | refine block_below (by first | assumption | exact below_alloc1 _ _ | exact below_drew1 _ | exact below_drewN0 _ _) ?_ | refine below_then ?_ (by first | assumption | exact below_alloc1 _ _ | exact below_drew1 _ | exact below_drewN0 _ _))
  have hG6 : w6.heap[w.heap.size + 1]? = some (.cells #[.bool x', .int .i64 ID', .bool r', .int .i64 L', .slice A' m' c'] 24) := by repeat (first | assumption | exact Below.refl _ _ | ((with_reducible refine lit2 _ _ _ _ _ ?_); (first | (with_reducible rfl) | (simp; done))) | ((with_reducible refine lit1 _ _ _ _ ?_); (first | (with_reducible rfl) | (simp; done))) | refine row_step (by first | assumption | exact below_alloc1 _ _ | exact below_drew1 _ | exact below_drewN0 _ _) ?_ | refine block_below (by first | assumption | exact below_alloc1 _ _ | exact below_drew1 _ | exact below_drewN0 _ _) ?_ | refine below_then ?_ (by first | assumption | exact below_alloc1 _ _ | exact below_drew1 _ | exact below_drewN0 _ _))
  obtain ⟨c0, c1, c2, c3, c4⟩ := cells5' hG6
  obtain ⟨T', hT'⟩ : ∃ T', headV x' ID' r' L' dl' = T' := ⟨_, rfl⟩
  have hO' : HeadOf T' ⟨x', ID', r', L', dl'⟩ := by rw [← hT']; exact headOf x' ID' r' L' dl' hID' hL' HB'.out (by rw [HD'.out]; exact HMr'.out)
  have hTl' : T'.length = hn x' + 8 * m' := by rw [← hT', headV_len, HD'.out]
  obtain ⟨K', hK'⟩ : ∃ K, (sentV T').length = K + 9 := ⟨(sentV T').length - 9, by have := sentV_len T'; omega⟩
  have hKb' : 35 ≤ K' ∧ K' ≤ 4000 := by
    have e1 := sent_min T'
    have e2 := sentV_len T'
    have e3 := stuffL_most (bareV T')
    rw [bareV_len] at e3
    have : hn x' ≤ 39 := by cases x' <;> decide
    have : 19 ≤ hn x' := by cases x' <;> decide
    omega
  have HT' := Lib.hid hT'
  have HK' := Lib.hid hK'
  have HO' := Lib.hid hO'
  have HTl' := Lib.hid hTl'
  obtain ⟨hKa', hKc'⟩ := hKb'
  clear hT' hK' hO' hTl'
  go_wp2_with fail
  refine (wireBits_at x' ID' r' L' dl' m' HD'.out A' c' hID' hL' _ (by repeat (first | assumption | exact Below.refl _ _ | ((with_reducible refine lit2 _ _ _ _ _ ?_); (first | (with_reducible rfl) | (simp; done))) | ((with_reducible refine lit1 _ _ _ _ ?_); (first | (with_reducible rfl) | (simp; done))) | refine row_step (by first | assumption | exact below_alloc1 _ _ | exact below_drew1 _ | exact below_drewN0 _ _) ?_ | refine block_below (by first | assumption | exact below_alloc1 _ _ | exact below_drew1 _ | exact below_drewN0 _ _) ?_ | refine below_then ?_ (by first | assumption | exact below_alloc1 _ _ | exact below_drew1 _ | exact below_drewN0 _ _))) HB'.out (by omega) T' HT'.out (K' + 9) HK'.out).mono ?_
  rintro e w7 ⟨A7, c7, rfl, hr7, hc7, hB7⟩
  clear c0 c1 c2 c3 c4
  have hG7 : w7.heap[w.heap.size + 1]? = some (.cells #[.bool x', .int .i64 ID', .bool r', .int .i64 L', .slice A' m' c'] 24) := by repeat (first | assumption | exact Below.refl _ _ | ((with_reducible refine lit2 _ _ _ _ _ ?_); (first | (with_reducible rfl) | (simp; done))) | ((with_reducible refine lit1 _ _ _ _ ?_); (first | (with_reducible rfl) | (simp; done))) | refine row_step (by first | assumption | exact below_alloc1 _ _ | exact below_drew1 _ | exact below_drewN0 _ _) ?_ | refine block_below (by first | assumption | exact below_alloc1 _ _ | exact below_drew1 _ | exact below_drewN0 _ _) ?_ | refine below_then ?_ (by first | assumption | exact below_alloc1 _ _ | exact below_drew1 _ | exact below_drewN0 _ _))
  have hF7 : w7.heap[w.heap.size]? = some (.cells #[.bool x, .int .i64 ID, .bool r, .int .i64 L, .slice A m c] 24) := by repeat (first | assumption | exact Below.refl _ _ | ((with_reducible refine lit2 _ _ _ _ _ ?_); (first | (with_reducible rfl) | (simp; done))) | ((with_reducible refine lit1 _ _ _ _ ?_); (first | (with_reducible rfl) | (simp; done))) | refine row_step (by first | assumption | exact below_alloc1 _ _ | exact below_drew1 _ | exact below_drewN0 _ _) ?_ | refine block_below (by first | assumption | exact below_alloc1 _ _ | exact below_drew1 _ | exact below_drewN0 _ _) ?_ | refine below_then ?_ (by first | assumption | exact below_alloc1 _ _ | exact below_drew1 _ | exact below_drewN0 _ _))
  obtain ⟨nn, hnn⟩ : ∃ nn, nn = min (K + 9) (K' + 9) := ⟨_, rfl⟩
  have hn20 : 20 ≤ nn := by omega
  have hnK : nn ≤ K + 9 := by omega
  have hnK' : nn ≤ K' + 9 := by omega
  have hTT : (⟨x, ID, r, L, dl⟩ : Fr) = ⟨x', ID', r', L', dl'⟩ → T = T' := by
    intro e
    injection e with e1 e2 e3 e4 e5
    have e2' : ID = ID' := by omega
    have e4' : L = L' := by omega
    rw [← HT.out, ← HT'.out, e1, e2', e3, e4', e5]
  have hap := apart HO.out HO'.out hTT (n := nn) (by rw [HK.out, HK'.out]; exact hnn)
  obtain ⟨q, hq⟩ : ∃ q, sameB ((sentV T).take nn) ((sentV T').take nn) = q := ⟨_, rfl⟩
  have hq2 : sameV x ID r L dl x' ID' r' L' dl' = q := by
    rw [← hq]
    unfold sameV sameB
    apply decide_eq_decide.2
    rw [hap]
    constructor
    · rintro ⟨e1, e2, e3, e4, e5⟩; rw [e1, e2, e3, e4, e5]
    · intro e; injection e with e1 e2 e3 e4 e5; exact ⟨e1, e2, e3, e4, e5⟩
  have Hq := Lib.hid hq
  have Hq2 := Lib.hid hq2
  have hmin : (if (K' : Int) + 9 < (K : Int) + 9 then (K' : Int) + 9 else (K : Int) + 9) = (nn : Int) := by split <;> omega
  have hmin2 : (if (K : Int) + 9 ≤ (K' : Int) + 9 then (K : Int) + 9 else (K' : Int) + 9) = (nn : Int) := by split <;> omega
  have Hmin := Lib.hid hmin
  have Hmin2 := Lib.hid hmin2
  clear hmin hmin2 hap hTT hq hq2
  have s6 : Row .i64 w7 w7.heap.size A6 ((sentV T).take nn) := (show Row .i64 w7 w7.heap.size A6 (sentV T) by repeat (first | assumption | exact Below.refl _ _ | ((with_reducible refine lit2 _ _ _ _ _ ?_); (first | (with_reducible rfl) | (simp; done))) | ((with_reducible refine lit1 _ _ _ _ ?_); (first | (with_reducible rfl) | (simp; done))) | refine row_step (by first | assumption | exact below_alloc1 _ _ | exact below_drew1 _ | exact below_drewN0 _ _) ?_ | refine block_below (by first | assumption | exact below_alloc1 _ _ | exact below_drew1 _ | exact below_drewN0 _ _) ?_ | refine below_then ?_ (by first | assumption | exact below_alloc1 _ _ | exact below_drew1 _ | exact below_drewN0 _ _))).sub_ 0 nn (by omega) (by rw [HK.out]; omega) (fun _ => by cases A6 <;> rfl)
  have s7 : Row .i64 w7 w7.heap.size A7 ((sentV T').take nn) := (show Row .i64 w7 w7.heap.size A7 (sentV T') by repeat (first | assumption | exact Below.refl _ _ | ((with_reducible refine lit2 _ _ _ _ _ ?_); (first | (with_reducible rfl) | (simp; done))) | ((with_reducible refine lit1 _ _ _ _ ?_); (first | (with_reducible rfl) | (simp; done))) | refine row_step (by first | assumption | exact below_alloc1 _ _ | exact below_drew1 _ | exact below_drewN0 _ _) ?_ | refine block_below (by first | assumption | exact below_alloc1 _ _ | exact below_drew1 _ | exact below_drewN0 _ _) ?_ | refine below_then ?_ (by first | assumption | exact below_alloc1 _ _ | exact below_drew1 _ | exact below_drewN0 _ _))).sub_ 0 nn (by omega) (by rw [HK'.out]; omega) (fun _ => by cases A7 <;> rfl)
  have Hs1 := Lib.hid (show ((sentV T).take nn).length = nn by rw [List.length_take, HK.out]; omega)
  have Hs2 := Lib.hid (show ((sentV T').take nn).length = nn by rw [List.length_take, HK'.out]; omega)
  have t20 : decide ((20 : Int) ≤ (nn : Int)) = true := by simp; omega
  have t21 : (20 : Int) ≤ (nn : Int) := by omega
  have q2 : (nn : Int) ≤ (c6 : Int) := by omega
  have q3 : nn ≤ c6 := by omega
  have q4 : (nn : Int) ≤ (c7 : Int) := by omega
  have q5 : nn ≤ c7 := by omega
  have hFG : True := trivial
  clear hnn
  by_cases hlt : K' < K
  · have e1 : ¬ (K : Int) < (K' : Int) := by omega
    have e2 : (K' : Int) < (K : Int) := by omega
    have e3 : (K' : Int) + 9 = (nn : Int) := by have := Hmin.out; rw [if_pos (by omega)] at this; exact this
    go_wp2_with fail
    first | (rw [e3]) | skip
    go_region_held3 (fun W => W.cell? ⟨w.heap.size, 0, none⟩ = some (.bool x) ∧ W.cell? ⟨w.heap.size, 1, none⟩ = some (.int .i64 ID) ∧ W.cell? ⟨w.heap.size, 2, none⟩ = some (.bool r) ∧ W.cell? ⟨w.heap.size, 3, none⟩ = some (.int .i64 L) ∧ W.cell? ⟨w.heap.size, 4, none⟩ = some (.slice A m c) ∧ W.cell? ⟨w.heap.size + 1, 0, none⟩ = some (.bool x') ∧ W.cell? ⟨w.heap.size + 1, 1, none⟩ = some (.int .i64 ID') ∧ W.cell? ⟨w.heap.size + 1, 2, none⟩ = some (.bool r') ∧ W.cell? ⟨w.heap.size + 1, 3, none⟩ = some (.int .i64 L') ∧ W.cell? ⟨w.heap.size + 1, 4, none⟩ = some (.slice A' m' c'))
      (exact and10 (cells5' (by repeat (first | assumption | exact Below.refl _ _ | ((with_reducible refine lit2 _ _ _ _ _ ?_); (first | (with_reducible rfl) | (simp; done))) | ((with_reducible refine lit1 _ _ _ _ ?_); (first | (with_reducible rfl) | (simp; done))) | refine row_step (by first | assumption | exact below_alloc1 _ _ | exact below_drew1 _ | exact below_drewN0 _ _) ?_ | refine block_below (by first | assumption | exact below_alloc1 _ _ | exact below_drew1 _ | exact below_drewN0 _ _) ?_ | refine below_then ?_ (by first | assumption | exact below_alloc1 _ _ | exact below_drew1 _ | exact below_drewN0 _ _)))) (cells5' (by repeat (first | assumption | exact Below.refl _ _ | ((with_reducible refine lit2 _ _ _ _ _ ?_); (first | (with_reducible rfl) | (simp; done))) | ((with_reducible refine lit1 _ _ _ _ ?_); (first | (with_reducible rfl) | (simp; done))) | refine row_step (by first | assumption | exact below_alloc1 _ _ | exact below_drew1 _ | exact below_drewN0 _ _) ?_ | refine block_below (by first | assumption | exact below_alloc1 _ _ | exact below_drew1 _ | exact below_drewN0 _ _) ?_ | refine below_then ?_ (by first | assumption | exact below_alloc1 _ _ | exact below_drew1 _ | exact below_drewN0 _ _)))))
      (first
        | (go_at_call 14; refine (same_q ((sentV T).take nn) ((sentV T').take nn) nn nn Hs1.out Hs2.out A6 A7 _ _ _ (show Row .i64 _ _ A6 ((sentV T).take nn) by repeat (first | assumption | exact Below.refl _ _ | ((with_reducible refine lit2 _ _ _ _ _ ?_); (first | (with_reducible rfl) | (simp; done))) | ((with_reducible refine lit1 _ _ _ _ ?_); (first | (with_reducible rfl) | (simp; done))) | refine row_step (by first | assumption | exact below_alloc1 _ _ | exact below_drew1 _ | exact below_drewN0 _ _) ?_ | refine block_below (by first | assumption | exact below_alloc1 _ _ | exact below_drew1 _ | exact below_drewN0 _ _) ?_ | refine below_then ?_ (by first | assumption | exact below_alloc1 _ _ | exact below_drew1 _ | exact below_drewN0 _ _))) (show Row .i64 _ _ A7 ((sentV T').take nn) by repeat (first | assumption | exact Below.refl _ _ | ((with_reducible refine lit2 _ _ _ _ _ ?_); (first | (with_reducible rfl) | (simp; done))) | ((with_reducible refine lit1 _ _ _ _ ?_); (first | (with_reducible rfl) | (simp; done))) | refine row_step (by first | assumption | exact below_alloc1 _ _ | exact below_drew1 _ | exact below_drewN0 _ _) ?_ | refine block_below (by first | assumption | exact below_alloc1 _ _ | exact below_drew1 _ | exact below_drewN0 _ _) ?_ | refine below_then ?_ (by first | assumption | exact below_alloc1 _ _ | exact below_drew1 _ | exact below_drewN0 _ _))) (by unfold maxLen; omega) q Hq.out).mono ?_; rintro e w8 ⟨rfl, hB8⟩)
        | (go_at_call 24; refine (refFrSame_at x ID r L dl m HD.out A c x' ID' r' L' dl' m' HD'.out A' c' _ (show Row .u8 _ _ A dl by repeat (first | assumption | exact Below.refl _ _ | ((with_reducible refine lit2 _ _ _ _ _ ?_); (first | (with_reducible rfl) | (simp; done))) | ((with_reducible refine lit1 _ _ _ _ ?_); (first | (with_reducible rfl) | (simp; done))) | refine row_step (by first | assumption | exact below_alloc1 _ _ | exact below_drew1 _ | exact below_drewN0 _ _) ?_ | refine block_below (by first | assumption | exact below_alloc1 _ _ | exact below_drew1 _ | exact below_drewN0 _ _) ?_ | refine below_then ?_ (by first | assumption | exact below_alloc1 _ _ | exact below_drew1 _ | exact below_drewN0 _ _))) (show Row .u8 _ _ A' dl' by repeat (first | assumption | exact Below.refl _ _ | ((with_reducible refine lit2 _ _ _ _ _ ?_); (first | (with_reducible rfl) | (simp; done))) | ((with_reducible refine lit1 _ _ _ _ ?_); (first | (with_reducible rfl) | (simp; done))) | refine row_step (by first | assumption | exact below_alloc1 _ _ | exact below_drew1 _ | exact below_drewN0 _ _) ?_ | refine block_below (by first | assumption | exact below_alloc1 _ _ | exact below_drew1 _ | exact below_drewN0 _ _) ?_ | refine below_then ?_ (by first | assumption | exact below_alloc1 _ _ | exact below_drew1 _ | exact below_drewN0 _ _))) HB.out HB'.out q Hq2.out).mono ?_; rintro e w9 ⟨rfl, hB9⟩))
    all_goals
      go_wp2_with fail
      go_ret
      exact ⟨by simp, by repeat (first | assumption | exact Below.refl _ _ | ((with_reducible refine lit2 _ _ _ _ _ ?_); (first | (with_reducible rfl) | (simp; done))) | ((with_reducible refine lit1 _ _ _ _ ?_); (first | (with_reducible rfl) | (simp; done))) | refine row_step (by first | assumption | exact below_alloc1 _ _ | exact below_drew1 _ | exact below_drewN0 _ _) ?_ | refine block_below (by first | assumption | exact below_alloc1 _ _ | exact below_drew1 _ | exact below_drewN0 _ _) ?_ | refine below_then ?_ (by first | assumption | exact below_alloc1 _ _ | exact below_drew1 _ | exact below_drewN0 _ _))⟩
  · have e1 : ¬ (K' : Int) < (K : Int) := by omega
    have e2 : (K : Int) ≤ (K' : Int) := by omega
    have e3 : (K : Int) + 9 = (nn : Int) := by have := Hmin.out; rw [if_neg (by omega)] at this; exact this
    go_wp2_with fail
    first | (rw [e3]) | skip
    go_region_held3 (fun W => W.cell? ⟨w.heap.size, 0, none⟩ = some (.bool x) ∧ W.cell? ⟨w.heap.size, 1, none⟩ = some (.int .i64 ID) ∧ W.cell? ⟨w.heap.size, 2, none⟩ = some (.bool r) ∧ W.cell? ⟨w.heap.size, 3, none⟩ = some (.int .i64 L) ∧ W.cell? ⟨w.heap.size, 4, none⟩ = some (.slice A m c) ∧ W.cell? ⟨w.heap.size + 1, 0, none⟩ = some (.bool x') ∧ W.cell? ⟨w.heap.size + 1, 1, none⟩ = some (.int .i64 ID') ∧ W.cell? ⟨w.heap.size + 1, 2, none⟩ = some (.bool r') ∧ W.cell? ⟨w.heap.size + 1, 3, none⟩ = some (.int .i64 L') ∧ W.cell? ⟨w.heap.size + 1, 4, none⟩ = some (.slice A' m' c'))
      (exact and10 (cells5' (by repeat (first | assumption | exact Below.refl _ _ | ((with_reducible refine lit2 _ _ _ _ _ ?_); (first | (with_reducible rfl) | (simp; done))) | ((with_reducible refine lit1 _ _ _ _ ?_); (first | (with_reducible rfl) | (simp; done))) | refine row_step (by first | assumption | exact below_alloc1 _ _ | exact below_drew1 _ | exact below_drewN0 _ _) ?_ | refine block_below (by first | assumption | exact below_alloc1 _ _ | exact below_drew1 _ | exact below_drewN0 _ _) ?_ | refine below_then ?_ (by first | assumption | exact below_alloc1 _ _ | exact below_drew1 _ | exact below_drewN0 _ _)))) (cells5' (by repeat (first | assumption | exact Below.refl _ _ | ((with_reducible refine lit2 _ _ _ _ _ ?_); (first | (with_reducible rfl) | (simp; done))) | ((with_reducible refine lit1 _ _ _ _ ?_); (first | (with_reducible rfl) | (simp; done))) | refine row_step (by first | assumption | exact below_alloc1 _ _ | exact below_drew1 _ | exact below_drewN0 _ _) ?_ | refine block_below (by first | assumption | exact below_alloc1 _ _ | exact below_drew1 _ | exact below_drewN0 _ _) ?_ | refine below_then ?_ (by first | assumption | exact below_alloc1 _ _ | exact below_drew1 _ | exact below_drewN0 _ _)))))
      (first
        | (go_at_call 14; refine (same_q ((sentV T).take nn) ((sentV T').take nn) nn nn Hs1.out Hs2.out A6 A7 _ _ _ (show Row .i64 _ _ A6 ((sentV T).take nn) by repeat (first | assumption | exact Below.refl _ _ | ((with_reducible refine lit2 _ _ _ _ _ ?_); (first | (with_reducible rfl) | (simp; done))) | ((with_reducible refine lit1 _ _ _ _ ?_); (first | (with_reducible rfl) | (simp; done))) | refine row_step (by first | assumption | exact below_alloc1 _ _ | exact below_drew1 _ | exact below_drewN0 _ _) ?_ | refine block_below (by first | assumption | exact below_alloc1 _ _ | exact below_drew1 _ | exact below_drewN0 _ _) ?_ | refine below_then ?_ (by first | assumption | exact below_alloc1 _ _ | exact below_drew1 _ | exact below_drewN0 _ _))) (show Row .i64 _ _ A7 ((sentV T').take nn) by repeat (first | assumption | exact Below.refl _ _ | ((with_reducible refine lit2 _ _ _ _ _ ?_); (first | (with_reducible rfl) | (simp; done))) | ((with_reducible refine lit1 _ _ _ _ ?_); (first | (with_reducible rfl) | (simp; done))) | refine row_step (by first | assumption | exact below_alloc1 _ _ | exact below_drew1 _ | exact below_drewN0 _ _) ?_ | refine block_below (by first | assumption | exact below_alloc1 _ _ | exact below_drew1 _ | exact below_drewN0 _ _) ?_ | refine below_then ?_ (by first | assumption | exact below_alloc1 _ _ | exact below_drew1 _ | exact below_drewN0 _ _))) (by unfold maxLen; omega) q Hq.out).mono ?_; rintro e w8 ⟨rfl, hB8⟩)
        | (go_at_call 24; refine (refFrSame_at x ID r L dl m HD.out A c x' ID' r' L' dl' m' HD'.out A' c' _ (show Row .u8 _ _ A dl by repeat (first | assumption | exact Below.refl _ _ | ((with_reducible refine lit2 _ _ _ _ _ ?_); (first | (with_reducible rfl) | (simp; done))) | ((with_reducible refine lit1 _ _ _ _ ?_); (first | (with_reducible rfl) | (simp; done))) | refine row_step (by first | assumption | exact below_alloc1 _ _ | exact below_drew1 _ | exact below_drewN0 _ _) ?_ | refine block_below (by first | assumption | exact below_alloc1 _ _ | exact below_drew1 _ | exact below_drewN0 _ _) ?_ | refine below_then ?_ (by first | assumption | exact below_alloc1 _ _ | exact below_drew1 _ | exact below_drewN0 _ _))) (show Row .u8 _ _ A' dl' by repeat (first | assumption | exact Below.refl _ _ | ((with_reducible refine lit2 _ _ _ _ _ ?_); (first | (with_reducible rfl) | (simp; done))) | ((with_reducible refine lit1 _ _ _ _ ?_); (first | (with_reducible rfl) | (simp; done))) | refine row_step (by first | assumption | exact below_alloc1 _ _ | exact below_drew1 _ | exact below_drewN0 _ _) ?_ | refine block_below (by first | assumption | exact below_alloc1 _ _ | exact below_drew1 _ | exact below_drewN0 _ _) ?_ | refine below_then ?_ (by first | assumption | exact below_alloc1 _ _ | exact below_drew1 _ | exact below_drewN0 _ _))) HB.out HB'.out q Hq2.out).mono ?_; rintro e w9 ⟨rfl, hB9⟩))
    all_goals
      go_wp2_with fail
      go_ret
      exact ⟨by simp, by repeat (first | assumption | exact Below.refl _ _ | ((with_reducible refine lit2 _ _ _ _ _ ?_); (first | (with_reducible rfl) | (simp; done))) | ((with_reducible refine lit1 _ _ _ _ ?_); (first | (with_reducible rfl) | (simp; done))) | refine row_step (by first | assumption | exact below_alloc1 _ _ | exact below_drew1 _ | exact below_drewN0 _ _) ?_ | refine block_below (by first | assumption | exact below_alloc1 _ _ | exact below_drew1 _ | exact below_drewN0 _ _) ?_ | refine below_then ?_ (by first | assumption | exact below_alloc1 _ _ | exact below_drew1 _ | exact below_drewN0 _ _))⟩

end Go.Proofs.Ytmapkjjglhpamaa
