/-
  FrameBack, walked: a right frame is read of its head, whatever bits stand behind; of less than its head none is.
-/
import Derived.Test.YthjhccdpjgdblaaWFrameBits
namespace Go.Proofs.Ythjhccdpjgdblaa
open Go.RowKit

theorem sameV_self (x : Bool) (i : Int) (r : Bool) (n : Int) (a : List Int) : sameV x i r n a x i r n a = true := by simp [sameV]
theorem headV_right (x : Bool) (ID : Nat) (r : Bool) (L : Nat) (dl : List Int) : rightB (headV x ID r L dl) = true := by
  have hf : ∀ b, rightB [flag b] = true := by decide
  cases x
  · simp only [headV, Bool.false_eq_true, if_false, rankS, rightB_append, bitRow_right, spreadL_right]
    cases r <;> decide
  · simp only [headV, if_true, rankX, rightB_append, bitRow_right, spreadL_right]
    cases r <;> decide

set_option maxRecDepth 100000 in
set_option maxHeartbeats 8000000 in
theorem frameBack_walk (x : Bool) (i : Int) (r : Bool) (n : Int) (dl : List Int) (m : Nat) (hdl : dl.length = m) (A : Option Addr) (c : Nat) (more : List Int) (nm : Nat) (hnm : more.length = nm) (B : Option Addr) (cB : Nat) (T : Nat) (hT : T ≤ 255)
    (w : World) (h : Row .u8 w w.heap.size A dl) (hb : byteB dl) (hr : Row .i64 w w.heap.size B more) (hmm : nm ≤ maxLen) :
    Calls Try.prog 4 #[.agg #[.bool x, .int .i64 i, .bool r, .int .i64 n, .slice A m c], .slice B nm cB, .int .u8 T] w fun e w' => e = .returned (.bool true) ∧ Below w.heap.size w w' := by
  obtain ⟨i0, hi, hz0, hz1, hz2⟩ := info_parts Try.infoInt
  have HD := Lib.hid hdl
  have HB := Lib.hid hb
  have HM := Lib.hid hnm
  clear hdl hb hnm
  obtain ⟨w0, hw0⟩ : ∃ w0, w.alloc (.cells #[.bool x, .int .i64 i, .bool r, .int .i64 n, .slice A m c] 24) = w0 := ⟨_, rfl⟩
  have hB0 : Below w.heap.size w w0 := by rw [← hw0]; exact below_alloc1 _ _
  have hF0 : w0.heap[w.heap.size]? = some (.cells #[.bool x, .int .i64 i, .bool r, .int .i64 n, .slice A m c] 24) := by rw [← hw0]; exact World.alloc_heap_new _ _
  have HW0 := Lib.hid hw0
  clear hw0
  go_enter Try.func4, Try.ntmps4
  go_wp2_with fail
  rw [HW0.out]
  clear HW0
  refine (head_any _).mono ?_
  rintro e w1 ⟨rfl, hB1⟩
  have hF1 : w1.heap[w.heap.size]? = some (.cells #[.bool x, .int .i64 i, .bool r, .int .i64 n, .slice A m c] 24) := by repeat (first | assumption | exact Below.refl _ _ | ((with_reducible refine lit2 _ _ _ _ _ ?_); (first | (with_reducible rfl) | (simp; done))) | ((with_reducible refine lit1 _ _ _ _ ?_); (first | (with_reducible rfl) | (simp; done))) | refine row_step (by first | assumption | exact below_alloc1 _ _ | exact below_drew1 _ | exact below_drewN0 _ _) ?_ | refine block_below (by first | assumption | exact below_alloc1 _ _ | exact below_drew1 _ | exact below_drewN0 _ _) ?_ | refine below_then ?_ (by first | assumption | exact below_alloc1 _ _ | exact below_drew1 _ | exact below_drewN0 _ _))
  obtain ⟨c0, c1, c2, c3, c4⟩ := cells5' hF1
  go_wp2_with fail
  by_cases h1 : 100 < m
  · refine (great_q x i r n A m c _ true (by simp; omega)).mono ?_
    rintro e w2 ⟨rfl, hB2⟩
    go_wp2_with fail
    go_ret
    exact ⟨rfl, by repeat (first | assumption | exact Below.refl _ _ | ((with_reducible refine lit2 _ _ _ _ _ ?_); (first | (with_reducible rfl) | (simp; done))) | ((with_reducible refine lit1 _ _ _ _ ?_); (first | (with_reducible rfl) | (simp; done))) | refine row_step (by first | assumption | exact below_alloc1 _ _ | exact below_drew1 _ | exact below_drewN0 _ _) ?_ | refine block_below (by first | assumption | exact below_alloc1 _ _ | exact below_drew1 _ | exact below_drewN0 _ _) ?_ | refine below_then ?_ (by first | assumption | exact below_alloc1 _ _ | exact below_drew1 _ | exact below_drewN0 _ _))⟩
  refine (great_q x i r n A m c _ false (by simp; omega)).mono ?_
  rintro e w2 ⟨rfl, hB2⟩
  clear c0 c1 c2 c3 c4
  have hF2 : w2.heap[w.heap.size]? = some (.cells #[.bool x, .int .i64 i, .bool r, .int .i64 n, .slice A m c] 24) := by repeat (first | assumption | exact Below.refl _ _ | ((with_reducible refine lit2 _ _ _ _ _ ?_); (first | (with_reducible rfl) | (simp; done))) | ((with_reducible refine lit1 _ _ _ _ ?_); (first | (with_reducible rfl) | (simp; done))) | refine row_step (by first | assumption | exact below_alloc1 _ _ | exact below_drew1 _ | exact below_drewN0 _ _) ?_ | refine block_below (by first | assumption | exact below_alloc1 _ _ | exact below_drew1 _ | exact below_drewN0 _ _) ?_ | refine below_then ?_ (by first | assumption | exact below_alloc1 _ _ | exact below_drew1 _ | exact below_drewN0 _ _))
  obtain ⟨c0, c1, c2, c3, c4⟩ := cells5' hF2
  go_wp2_with fail
  by_cases h3 : rightV x i r n m = true
  rotate_left
  · refine (refFrRight_q x i r n A m c _ false (by simpa using h3)).mono ?_
    rintro e w3 ⟨rfl, hB3⟩
    clear h3
    go_wp2_with fail
    go_ret
    exact ⟨rfl, by repeat (first | assumption | exact Below.refl _ _ | ((with_reducible refine lit2 _ _ _ _ _ ?_); (first | (with_reducible rfl) | (simp; done))) | ((with_reducible refine lit1 _ _ _ _ ?_); (first | (with_reducible rfl) | (simp; done))) | refine row_step (by first | assumption | exact below_alloc1 _ _ | exact below_drew1 _ | exact below_drewN0 _ _) ?_ | refine block_below (by first | assumption | exact below_alloc1 _ _ | exact below_drew1 _ | exact below_drewN0 _ _) ?_ | refine below_then ?_ (by first | assumption | exact below_alloc1 _ _ | exact below_drew1 _ | exact below_drewN0 _ _))⟩
  obtain ⟨ID, L, rfl, rfl, hID, hL, hmr⟩ := right_ok h3
  have H3 := Lib.hid h3
  have HMr := Lib.hid hmr
  clear h3 hmr
  refine (refFrRight_q x ID r L A m c _ true H3.out).mono ?_
  rintro e w3 ⟨rfl, hB3⟩
  clear c0 c1 c2 c3 c4
  have hF3 : w3.heap[w.heap.size]? = some (.cells #[.bool x, .int .i64 ID, .bool r, .int .i64 L, .slice A m c] 24) := by repeat (first | assumption | exact Below.refl _ _ | ((with_reducible refine lit2 _ _ _ _ _ ?_); (first | (with_reducible rfl) | (simp; done))) | ((with_reducible refine lit1 _ _ _ _ ?_); (first | (with_reducible rfl) | (simp; done))) | refine row_step (by first | assumption | exact below_alloc1 _ _ | exact below_drew1 _ | exact below_drewN0 _ _) ?_ | refine block_below (by first | assumption | exact below_alloc1 _ _ | exact below_drew1 _ | exact below_drewN0 _ _) ?_ | refine below_then ?_ (by first | assumption | exact below_alloc1 _ _ | exact below_drew1 _ | exact below_drewN0 _ _))
  by_cases h4 : 200 < nm
  · have d4 : decide ((200 : Int) < (nm : Int)) = true := by simp; omega
    go_wp2_with fail
    go_ret
    exact ⟨rfl, by repeat (first | assumption | exact Below.refl _ _ | ((with_reducible refine lit2 _ _ _ _ _ ?_); (first | (with_reducible rfl) | (simp; done))) | ((with_reducible refine lit1 _ _ _ _ ?_); (first | (with_reducible rfl) | (simp; done))) | refine row_step (by first | assumption | exact below_alloc1 _ _ | exact below_drew1 _ | exact below_drewN0 _ _) ?_ | refine block_below (by first | assumption | exact below_alloc1 _ _ | exact below_drew1 _ | exact below_drewN0 _ _) ?_ | refine below_then ?_ (by first | assumption | exact below_alloc1 _ _ | exact below_drew1 _ | exact below_drewN0 _ _))⟩
  have d4 : decide ((200 : Int) < (nm : Int)) = false := by simp; omega
  go_wp2_with fail
  by_cases h5 : rightB more = true
  rotate_left
  · refine (refRight_q more nm HM.out B cB _ (by repeat (first | assumption | exact Below.refl _ _ | ((with_reducible refine lit2 _ _ _ _ _ ?_); (first | (with_reducible rfl) | (simp; done))) | ((with_reducible refine lit1 _ _ _ _ ?_); (first | (with_reducible rfl) | (simp; done))) | refine row_step (by first | assumption | exact below_alloc1 _ _ | exact below_drew1 _ | exact below_drewN0 _ _) ?_ | refine block_below (by first | assumption | exact below_alloc1 _ _ | exact below_drew1 _ | exact below_drewN0 _ _) ?_ | refine below_then ?_ (by first | assumption | exact below_alloc1 _ _ | exact below_drew1 _ | exact below_drewN0 _ _))) hmm false (by simpa using h5)).mono ?_
    rintro e w4 ⟨rfl, hB4⟩
    clear h5
    go_wp2_with fail
    go_ret
    exact ⟨rfl, by repeat (first | assumption | exact Below.refl _ _ | ((with_reducible refine lit2 _ _ _ _ _ ?_); (first | (with_reducible rfl) | (simp; done))) | ((with_reducible refine lit1 _ _ _ _ ?_); (first | (with_reducible rfl) | (simp; done))) | refine row_step (by first | assumption | exact below_alloc1 _ _ | exact below_drew1 _ | exact below_drewN0 _ _) ?_ | refine block_below (by first | assumption | exact below_alloc1 _ _ | exact below_drew1 _ | exact below_drewN0 _ _) ?_ | refine below_then ?_ (by first | assumption | exact below_alloc1 _ _ | exact below_drew1 _ | exact below_drewN0 _ _))⟩
  have H5 := Lib.hid h5
  clear h5
  refine (refRight_q more nm HM.out B cB _ (by repeat (first | assumption | exact Below.refl _ _ | ((with_reducible refine lit2 _ _ _ _ _ ?_); (first | (with_reducible rfl) | (simp; done))) | ((with_reducible refine lit1 _ _ _ _ ?_); (first | (with_reducible rfl) | (simp; done))) | refine row_step (by first | assumption | exact below_alloc1 _ _ | exact below_drew1 _ | exact below_drewN0 _ _) ?_ | refine block_below (by first | assumption | exact below_alloc1 _ _ | exact below_drew1 _ | exact below_drewN0 _ _) ?_ | refine below_then ?_ (by first | assumption | exact below_alloc1 _ _ | exact below_drew1 _ | exact below_drewN0 _ _))) hmm true H5.out).mono ?_
  rintro e w4 ⟨rfl, hB4⟩
  have hF4 : w4.heap[w.heap.size]? = some (.cells #[.bool x, .int .i64 ID, .bool r, .int .i64 L, .slice A m c] 24) := by repeat (first | assumption | exact Below.refl _ _ | ((with_reducible refine lit2 _ _ _ _ _ ?_); (first | (with_reducible rfl) | (simp; done))) | ((with_reducible refine lit1 _ _ _ _ ?_); (first | (with_reducible rfl) | (simp; done))) | refine row_step (by first | assumption | exact below_alloc1 _ _ | exact below_drew1 _ | exact below_drewN0 _ _) ?_ | refine block_below (by first | assumption | exact below_alloc1 _ _ | exact below_drew1 _ | exact below_drewN0 _ _) ?_ | refine below_then ?_ (by first | assumption | exact below_alloc1 _ _ | exact below_drew1 _ | exact below_drewN0 _ _))
  obtain ⟨c0, c1, c2, c3, c4⟩ := cells5' hF4
  obtain ⟨M, hM⟩ : ∃ M, 8 * m = M := ⟨_, rfl⟩
  obtain ⟨N, hN⟩ : ∃ N, hn x + M = N := ⟨_, rfl⟩
  have hN1 : 19 ≤ N := by have := hn_rn x; have : 13 ≤ rn x := by cases x <;> decide
                          omega
  have hN2 : N ≤ 1000 := by have : hn x ≤ 39 := by cases x <;> decide
                            omega
  have HM8 := Lib.hid hM
  have HN := Lib.hid hN
  clear hM hN
  go_wp2_with fail
  refine (head_at x ID r L dl m HD.out A c hID hL _ (by repeat (first | assumption | exact Below.refl _ _ | ((with_reducible refine lit2 _ _ _ _ _ ?_); (first | (with_reducible rfl) | (simp; done))) | ((with_reducible refine lit1 _ _ _ _ ?_); (first | (with_reducible rfl) | (simp; done))) | refine row_step (by first | assumption | exact below_alloc1 _ _ | exact below_drew1 _ | exact below_drewN0 _ _) ?_ | refine block_below (by first | assumption | exact below_alloc1 _ _ | exact below_drew1 _ | exact below_drewN0 _ _) ?_ | refine below_then ?_ (by first | assumption | exact below_alloc1 _ _ | exact below_drew1 _ | exact below_drewN0 _ _))) HB.out (by omega) M HM8.out N HN.out).mono ?_
  rintro e w5 ⟨A5, c5, rfl, hr5, hc5, hB5⟩
  clear c0 c1 c2 c3 c4
  have HLn := Lib.hid (headV_len' x ID r L dl HD.out HM8.out HN.out)
  have hd' : dl.length = if r then 0 else L := by rw [HD.out]; exact HMr.out
  have HRd := Lib.hid (read_head x ID r L dl more hID hL HB.out hd')
  have HCut := Lib.hid (read_cut x ID r L dl hL hd')
  have HRt := Lib.hid (headV_right x ID r L dl)
  clear hd'
  obtain ⟨hd, hhd⟩ : ∃ hd, headV x ID r L dl = hd := ⟨_, rfl⟩
  rw [hhd] at hr5 HLn HRd HCut HRt
  clear hhd
  have hF5 : w5.heap[w.heap.size]? = some (.cells #[.bool x, .int .i64 ID, .bool r, .int .i64 L, .slice A m c] 24) := by repeat (first | assumption | exact Below.refl _ _ | ((with_reducible refine lit2 _ _ _ _ _ ?_); (first | (with_reducible rfl) | (simp; done))) | ((with_reducible refine lit1 _ _ _ _ ?_); (first | (with_reducible rfl) | (simp; done))) | refine row_step (by first | assumption | exact below_alloc1 _ _ | exact below_drew1 _ | exact below_drewN0 _ _) ?_ | refine block_below (by first | assumption | exact below_alloc1 _ _ | exact below_drew1 _ | exact below_drewN0 _ _) ?_ | refine below_then ?_ (by first | assumption | exact below_alloc1 _ _ | exact below_drew1 _ | exact below_drewN0 _ _))
  have hb5 : Row .i64 w5 w5.heap.size B more := by repeat (first | assumption | exact Below.refl _ _ | ((with_reducible refine lit2 _ _ _ _ _ ?_); (first | (with_reducible rfl) | (simp; done))) | ((with_reducible refine lit1 _ _ _ _ ?_); (first | (with_reducible rfl) | (simp; done))) | refine row_step (by first | assumption | exact below_alloc1 _ _ | exact below_drew1 _ | exact below_drewN0 _ _) ?_ | refine block_below (by first | assumption | exact below_alloc1 _ _ | exact below_drew1 _ | exact below_drewN0 _ _) ?_ | refine below_then ?_ (by first | assumption | exact below_alloc1 _ _ | exact below_drew1 _ | exact below_drewN0 _ _))
  have o6 := own_lit w5 .i64 [] 0 rfl 3 (cs := #[]) rfl (by decide)
  have r6 := hr5.to (below_alloc1 w5 (.cells #[] 3))
  go_wp2_with (first
    | (at_builtin; have hq_ := hown6; clear hq_; refine wpList_append_row _ .i64 rfl _ _ 25 rfl w5.heap.size 3 i0 (.int .i64 0) 8 Try.underlying25 hi hz0 hz1 hz2 rfl _ N hd rfl hown6 B nm cB _ more rfl HM.out hb6 (by unfold maxLen; omega) (by omega) hs6 ?_; intro A7 c7 w7 hown7 hc7 hB7)
    | (at_builtin; refine wpList_append_row _ .i64 rfl _ _ 25 rfl w5.heap.size 3 i0 (.int .i64 0) 8 Try.underlying25 hi hz0 hz1 hz2 rfl _ 0 [] rfl o6 A5 N c5 _ hd rfl HLn.out r6 (by unfold maxLen; omega) (by omega) (by simp) ?_; intro A6 c6 w6 hown6 hc6 hB6; rw [Nat.zero_add, List.nil_append] at hown6; have hs6 : w5.heap.size ≤ w6.heap.size := (by have := hB6.size; simp at this; omega); have hb6 : Row .i64 w6 w5.heap.size B more := (hb5.below ((below_alloc1 w5 (.cells #[] 3)))).below hB6))
  have hB7' : Below w5.heap.size w5 w7 := ((below_alloc1 w5 _).trans hB6).trans hB7
  have hr7 := Row.own hown7
  clear o6 r6 hown6 hc6 hB6 hs6 hb6 hown7 hB7
  refine (read_any (hd ++ more) (N + nm) (by rw [List.length_append, HLn.out, HM.out]) A7 c7 w7 hr7 (by rw [rightB_append, HRt.out, H5.out]; rfl) (by omega)).mono ?_
  rw [HRd.out]
  rintro e w8 ⟨D8, m8, c8, rfl, hm8, hmc8, hr8, hB8⟩
  simp only at hm8 hr8
  rw [HLn.out]
  obtain rfl : m = m8 := HD.out.symm.trans hm8
  clear hm8 hr7
  have hF8 : w8.heap[w.heap.size]? = some (.cells #[.bool x, .int .i64 ID, .bool r, .int .i64 L, .slice A m c] 24) := by repeat (first | assumption | exact Below.refl _ _ | ((with_reducible refine lit2 _ _ _ _ _ ?_); (first | (with_reducible rfl) | (simp; done))) | ((with_reducible refine lit1 _ _ _ _ ?_); (first | (with_reducible rfl) | (simp; done))) | refine row_step (by first | assumption | exact below_alloc1 _ _ | exact below_drew1 _ | exact below_drewN0 _ _) ?_ | refine block_below (by first | assumption | exact below_alloc1 _ _ | exact below_drew1 _ | exact below_drewN0 _ _) ?_ | refine below_then ?_ (by first | assumption | exact below_alloc1 _ _ | exact below_drew1 _ | exact below_drewN0 _ _))
  obtain ⟨c0, c1, c2, c3, c4⟩ := cells5' (block_below (below_alloc1 w8 (.cells #[.bool x, .int .i64 ID, .bool r, .int .i64 L, .slice D8 m c8] 24)) hF8)
  have t0 : ((N : Int) == 0) = false := by simp; omega
  have t1 : (N == 0) = false := by simp; omega
  have hdw : Row .u8 w8 w8.heap.size A dl := by repeat (first | assumption | exact Below.refl _ _ | ((with_reducible refine lit2 _ _ _ _ _ ?_); (first | (with_reducible rfl) | (simp; done))) | ((with_reducible refine lit1 _ _ _ _ ?_); (first | (with_reducible rfl) | (simp; done))) | refine row_step (by first | assumption | exact below_alloc1 _ _ | exact below_drew1 _ | exact below_drewN0 _ _) ?_ | refine block_below (by first | assumption | exact below_alloc1 _ _ | exact below_drew1 _ | exact below_drewN0 _ _) ?_ | refine below_then ?_ (by first | assumption | exact below_alloc1 _ _ | exact below_drew1 _ | exact below_drewN0 _ _))
  go_wp2_with fail
  obtain ⟨w9, hw9⟩ : ∃ w9, w8.alloc (.cells #[.bool x, .int .i64 ID, .bool r, .int .i64 L, .slice D8 m c8] 24) = w9 := ⟨_, rfl⟩
  have hB9 := below_lits hw9
  rw [hw9]
  clear hw9 c0 c1 c2 c3 c4
  refine (refFrSame_at x ID r L dl m HD.out A c x ID r L dl m HD.out D8 c8 _ (by repeat (first | assumption | exact Below.refl _ _ | ((with_reducible refine lit2 _ _ _ _ _ ?_); (first | (with_reducible rfl) | (simp; done))) | ((with_reducible refine lit1 _ _ _ _ ?_); (first | (with_reducible rfl) | (simp; done))) | refine row_step (by first | assumption | exact below_alloc1 _ _ | exact below_drew1 _ | exact below_drewN0 _ _) ?_ | refine block_below (by first | assumption | exact below_alloc1 _ _ | exact below_drew1 _ | exact below_drewN0 _ _) ?_ | refine below_then ?_ (by first | assumption | exact below_alloc1 _ _ | exact below_drew1 _ | exact below_drewN0 _ _))) (by repeat (first | assumption | exact Below.refl _ _ | ((with_reducible refine lit2 _ _ _ _ _ ?_); (first | (with_reducible rfl) | (simp; done))) | ((with_reducible refine lit1 _ _ _ _ ?_); (first | (with_reducible rfl) | (simp; done))) | refine row_step (by first | assumption | exact below_alloc1 _ _ | exact below_drew1 _ | exact below_drewN0 _ _) ?_ | refine block_below (by first | assumption | exact below_alloc1 _ _ | exact below_drew1 _ | exact below_drewN0 _ _) ?_ | refine below_then ?_ (by first | assumption | exact below_alloc1 _ _ | exact below_drew1 _ | exact below_drewN0 _ _))) HB.out HB.out true (sameV_self _ _ _ _ _)).mono ?_
  rintro e w10 ⟨rfl, hB10⟩
  have hr10 : Row .i64 w10 w10.heap.size A5 hd := by repeat (first | assumption | exact Below.refl _ _ | ((with_reducible refine lit2 _ _ _ _ _ ?_); (first | (with_reducible rfl) | (simp; done))) | ((with_reducible refine lit1 _ _ _ _ ?_); (first | (with_reducible rfl) | (simp; done))) | refine row_step (by first | assumption | exact below_alloc1 _ _ | exact below_drew1 _ | exact below_drewN0 _ _) ?_ | refine block_below (by first | assumption | exact below_alloc1 _ _ | exact below_drew1 _ | exact below_drewN0 _ _) ?_ | refine below_then ?_ (by first | assumption | exact below_alloc1 _ _ | exact below_drew1 _ | exact below_drewN0 _ _))
  go_wp2_with fail
  refine (refRight_q hd N HLn.out A5 c5 _ hr10 (by unfold maxLen; omega) true HRt.out).mono ?_
  rintro e w11 ⟨rfl, hB11⟩
  obtain ⟨j, hj⟩ : ∃ j, T % N = j := ⟨_, rfl⟩
  have hjN : j < N := by rw [← hj]; exact Nat.mod_lt _ (by omega)
  have hmod : (T : Int) % (N : Int) = (j : Int) := by rw [← hj]; simp
  have htmod : Int.tmod (T : Int) (N : Int) = (j : Int) := by rw [Int.tmod_eq_emod_of_nonneg (by omega)]; exact hmod
  have hz : ¬ (N : Int) = 0 := by omega
  have q1 : (0 : Int) ≤ (j : Int) := by omega
  have q2 : (j : Int) ≤ (c5 : Int) := by omega
  have q3 : j ≤ c5 := by omega
  have HJ := Lib.hid hj
  clear hj
  go_wp2_with fail
  have hr11 : Row .i64 w11 w11.heap.size A5 (hd.take j) := (show Row .i64 w11 w11.heap.size A5 hd by repeat (first | assumption | exact Below.refl _ _ | ((with_reducible refine lit2 _ _ _ _ _ ?_); (first | (with_reducible rfl) | (simp; done))) | ((with_reducible refine lit1 _ _ _ _ ?_); (first | (with_reducible rfl) | (simp; done))) | refine row_step (by first | assumption | exact below_alloc1 _ _ | exact below_drew1 _ | exact below_drewN0 _ _) ?_ | refine block_below (by first | assumption | exact below_alloc1 _ _ | exact below_drew1 _ | exact below_drewN0 _ _) ?_ | refine below_then ?_ (by first | assumption | exact below_alloc1 _ _ | exact below_drew1 _ | exact below_drewN0 _ _))).sub_ 0 j (by omega) (by rw [HLn.out]; omega) (fun _ => by cases A5 <;> rfl)
  refine (read_any (hd.take j) j (by rw [List.length_take, HLn.out]; omega) A5 c5 _ hr11 (rightB_take HRt.out j) (by omega)).mono ?_
  rw [HCut.out j (by rw [HLn.out]; exact hjN)]
  rintro e w12 ⟨rfl, hB12⟩
  go_wp2_with fail
  refine (refFrSame_at false 0 false 0 [] 0 rfl none 0 false 0 false 0 [] 0 rfl none 0 _ (.inl rfl) (.inl rfl) byte_nil byte_nil true (by decide)).mono ?_
  rintro e w13 ⟨rfl, hB13⟩
  go_wp2_with fail
  go_ret
  exact ⟨rfl, by repeat (first | assumption | exact Below.refl _ _ | ((with_reducible refine lit2 _ _ _ _ _ ?_); (first | (with_reducible rfl) | (simp; done))) | ((with_reducible refine lit1 _ _ _ _ ?_); (first | (with_reducible rfl) | (simp; done))) | refine row_step (by first | assumption | exact below_alloc1 _ _ | exact below_drew1 _ | exact below_drewN0 _ _) ?_ | refine block_below (by first | assumption | exact below_alloc1 _ _ | exact below_drew1 _ | exact below_drewN0 _ _) ?_ | refine below_then ?_ (by first | assumption | exact below_alloc1 _ _ | exact below_drew1 _ | exact below_drewN0 _ _))⟩

end Go.Proofs.Ythjhccdpjgdblaa
