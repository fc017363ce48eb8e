/-
  WireRuns. (Written by wip/tools/mk_wwalk.py.)
-/
import Derived.Test.YtmapkjjglhpamaaWLaw
import Derived.Test.YtmapkjjglhpamaaHead5
import Derived.Test.YtmapkjjglhpamaaWLaw2
namespace Go.Proofs.Ytmapkjjglhpamaa
open Go.RowKit

set_option maxRecDepth 100000 in
set_option maxHeartbeats 2000000 in
theorem wireRuns_walk (x : Bool) (i : Int) (r : Bool) (n : Int) (dl : List Int) (m : Nat) (hdl : dl.length = m) (A : Option Addr) (c : Nat)
    (w : World) (h : Row .u8 w w.heap.size A dl) (hb : byteB dl) :
    Calls Try.prog 6 #[.agg #[.bool x, .int .i64 i, .bool r, .int .i64 n, .slice A m c]] w fun e w' => e = .returned (.bool true) ∧ Below w.heap.size w w' := by
  have HD := Lib.hid hdl
  have HB := Lib.hid hb
  clear hdl hb
  obtain ⟨w0, hw0⟩ : ∃ w0, w.alloc (.cells #[.bool x, .int .i64 i, .bool r, .int .i64 n, .slice A m c] 24) = w0 := ⟨_, rfl⟩
  have hB0 : Below w.heap.size w w0 := by rw [← hw0]; exact below_alloc1 _ _
  have hF0 : w0.heap[w.heap.size]? = some (.cells #[.bool x, .int .i64 i, .bool r, .int .i64 n, .slice A m c] 24) := by rw [← hw0]; exact World.alloc_heap_new _ _
  have HW0 := Lib.hid hw0
  clear hw0
  go_enter Try.func6, Try.ntmps6
  go_wp2_with fail
  rw [HW0.out]
  clear HW0
  refine (head5_any _).mono ?_
  rintro e w1 ⟨rfl, hB1⟩
  have hF1 : w1.heap[w.heap.size]? = some (.cells #[.bool x, .int .i64 i, .bool r, .int .i64 n, .slice A m c] 24) := by repeat (first | assumption | exact Below.refl _ _ | ((with_reducible refine lit2 _ _ _ _ _ ?_); (first | (with_reducible rfl) | (simp; done))) | ((with_reducible refine lit1 _ _ _ _ ?_); (first | (with_reducible rfl) | (simp; done))) | refine row_step (by first | assumption | exact below_alloc1 _ _ | exact below_drew1 _ | exact below_drewN0 _ _) ?_ | refine block_below (by first | assumption | exact below_alloc1 _ _ | exact below_drew1 _ | exact below_drewN0 _ _) ?_ | refine below_then ?_ (by first | assumption | exact below_alloc1 _ _ | exact below_drew1 _ | exact below_drewN0 _ _))
  obtain ⟨c0, c1, c2, c3, c4⟩ := cells5' hF1
  go_wp2_with fail
  by_cases h1 : 100 < m
  · refine (great_q x i r n A m c _ true (by simp; omega)).mono ?_
    rintro e w2 ⟨rfl, hB2⟩
    go_wp2_with fail
    go_ret
    exact ⟨rfl, by repeat (first | assumption | exact Below.refl _ _ | ((with_reducible refine lit2 _ _ _ _ _ ?_); (first | (with_reducible rfl) | (simp; done))) | ((with_reducible refine lit1 _ _ _ _ ?_); (first | (with_reducible rfl) | (simp; done))) | refine row_step (by first | assumption | exact below_alloc1 _ _ | exact below_drew1 _ | exact below_drewN0 _ _) ?_ | refine block_below (by first | assumption | exact below_alloc1 _ _ | exact below_drew1 _ | exact below_drewN0 _ _) ?_ | refine below_then ?_ (by first | assumption | exact below_alloc1 _ _ | exact below_drew1 _ | exact below_drewN0 _ _))⟩
  refine (great_q x i r n A m c _ false (by simp; omega)).mono ?_
  rintro e w2 ⟨rfl, hB2⟩
  clear c0 c1 c2 c3 c4
  have hF2 : w2.heap[w.heap.size]? = some (.cells #[.bool x, .int .i64 i, .bool r, .int .i64 n, .slice A m c] 24) := by repeat (first | assumption | exact Below.refl _ _ | ((with_reducible refine lit2 _ _ _ _ _ ?_); (first | (with_reducible rfl) | (simp; done))) | ((with_reducible refine lit1 _ _ _ _ ?_); (first | (with_reducible rfl) | (simp; done))) | refine row_step (by first | assumption | exact below_alloc1 _ _ | exact below_drew1 _ | exact below_drewN0 _ _) ?_ | refine block_below (by first | assumption | exact below_alloc1 _ _ | exact below_drew1 _ | exact below_drewN0 _ _) ?_ | refine below_then ?_ (by first | assumption | exact below_alloc1 _ _ | exact below_drew1 _ | exact below_drewN0 _ _))
  obtain ⟨c0, c1, c2, c3, c4⟩ := cells5' hF2
  go_wp2_with fail
  by_cases h3 : rightV x i r n m = true
  rotate_left
  · refine (refFrRight_q x i r n A m c _ false (by simpa using h3)).mono ?_
    rintro e w3 ⟨rfl, hB3⟩
    clear h3
    go_wp2_with fail
    go_ret
    exact ⟨rfl, by repeat (first | assumption | exact Below.refl _ _ | ((with_reducible refine lit2 _ _ _ _ _ ?_); (first | (with_reducible rfl) | (simp; done))) | ((with_reducible refine lit1 _ _ _ _ ?_); (first | (with_reducible rfl) | (simp; done))) | refine row_step (by first | assumption | exact below_alloc1 _ _ | exact below_drew1 _ | exact below_drewN0 _ _) ?_ | refine block_below (by first | assumption | exact below_alloc1 _ _ | exact below_drew1 _ | exact below_drewN0 _ _) ?_ | refine below_then ?_ (by first | assumption | exact below_alloc1 _ _ | exact below_drew1 _ | exact below_drewN0 _ _))⟩
  obtain ⟨ID, L, rfl, rfl, hID, hL, hmr⟩ := right_ok h3
  have H3 := Lib.hid h3
  have HMr := Lib.hid hmr
  clear h3 hmr
  refine (refFrRight_q x ID r L A m c _ true H3.out).mono ?_
  rintro e w3 ⟨rfl, hB3⟩
  clear c0 c1 c2 c3 c4
  have hF3 : w3.heap[w.heap.size]? = some (.cells #[.bool x, .int .i64 ID, .bool r, .int .i64 L, .slice A m c] 24) := by repeat (first | assumption | exact Below.refl _ _ | ((with_reducible refine lit2 _ _ _ _ _ ?_); (first | (with_reducible rfl) | (simp; done))) | ((with_reducible refine lit1 _ _ _ _ ?_); (first | (with_reducible rfl) | (simp; done))) | refine row_step (by first | assumption | exact below_alloc1 _ _ | exact below_drew1 _ | exact below_drewN0 _ _) ?_ | refine block_below (by first | assumption | exact below_alloc1 _ _ | exact below_drew1 _ | exact below_drewN0 _ _) ?_ | refine below_then ?_ (by first | assumption | exact below_alloc1 _ _ | exact below_drew1 _ | exact below_drewN0 _ _))
  obtain ⟨c0, c1, c2, c3, c4⟩ := cells5' hF3
  obtain ⟨T, hT⟩ : ∃ T, headV x ID r L dl = T := ⟨_, rfl⟩
  have hO : HeadOf T ⟨x, ID, r, L, dl⟩ := by rw [← hT]; exact headOf x ID r L dl hID hL HB.out (by rw [HD.out]; exact HMr.out)
  have hTl : T.length = hn x + 8 * m := by rw [← hT, headV_len, HD.out]
  obtain ⟨K, hK⟩ : ∃ K, (sentV T).length = K + 9 := ⟨(sentV T).length - 9, by have := sentV_len T; omega⟩
  have hKb : 35 ≤ K ∧ K ≤ 4000 := by
    have e1 := sent_min T
    have e2 := sentV_len T
    have e3 := stuffL_most (bareV T)
    rw [bareV_len] at e3
    have : hn x ≤ 39 := by cases x <;> decide
    have : 19 ≤ hn x := by cases x <;> decide
    omega
  have HT := Lib.hid hT
  have HK := Lib.hid hK
  have HO := Lib.hid hO
  have HTl := Lib.hid hTl
  obtain ⟨hKa, hKc⟩ := hKb
  clear hT hK hO hTl
  go_wp2_with fail
  refine (wireBits_at x ID r L dl m HD.out A c hID hL _ (by repeat (first | assumption | exact Below.refl _ _ | ((with_reducible refine lit2 _ _ _ _ _ ?_); (first | (with_reducible rfl) | (simp; done))) | ((with_reducible refine lit1 _ _ _ _ ?_); (first | (with_reducible rfl) | (simp; done))) | refine row_step (by first | assumption | exact below_alloc1 _ _ | exact below_drew1 _ | exact below_drewN0 _ _) ?_ | refine block_below (by first | assumption | exact below_alloc1 _ _ | exact below_drew1 _ | exact below_drewN0 _ _) ?_ | refine below_then ?_ (by first | assumption | exact below_alloc1 _ _ | exact below_drew1 _ | exact below_drewN0 _ _))) HB.out (by omega) T HT.out (K + 9) HK.out).mono ?_
  rintro e w4 ⟨A4, c4', rfl, hr4, hc4, hB4⟩
  clear c0 c1 c2 c3 c4
  have hF4 : w4.heap[w.heap.size]? = some (.cells #[.bool x, .int .i64 ID, .bool r, .int .i64 L, .slice A m c] 24) := by repeat (first | assumption | exact Below.refl _ _ | ((with_reducible refine lit2 _ _ _ _ _ ?_); (first | (with_reducible rfl) | (simp; done))) | ((with_reducible refine lit1 _ _ _ _ ?_); (first | (with_reducible rfl) | (simp; done))) | refine row_step (by first | assumption | exact below_alloc1 _ _ | exact below_drew1 _ | exact below_drewN0 _ _) ?_ | refine block_below (by first | assumption | exact below_alloc1 _ _ | exact below_drew1 _ | exact below_drewN0 _ _) ?_ | refine below_then ?_ (by first | assumption | exact below_alloc1 _ _ | exact below_drew1 _ | exact below_drewN0 _ _))
  obtain ⟨kT, hkT⟩ : ∃ kT, T.length = kT := ⟨_, rfl⟩
  have hmin : kT + 25 ≤ K + 9 := by rw [← hkT, ← HK.out]; exact sent_min T
  have hmost : K + 9 ≤ mostV x m := by rw [← HK.out]; exact sent_most HTl.out
  obtain ⟨mo, hmo⟩ : ∃ mo, mostV x m = mo := ⟨_, rfl⟩
  rw [hmo] at hmost
  have hmo2 : mo ≤ 2000 := by
    rw [← hmo]
    unfold mostV
    cases x <;> simp <;> omega
  have Hmo := Lib.hid hmo
  have HkT := Lib.hid hkT
  obtain ⟨M, hM⟩ : ∃ M, (stuffL (bareV T)).length = M := ⟨_, rfl⟩
  have hMK : M + 1 = K := by have := sentV_len T; rw [HK.out, hM] at this; omega
  have HM := Lib.hid hM
  clear hkT hmo hM
  obtain ⟨c0, c1, c2, c3, c4⟩ := cells5' hF4
  have dl4 : Row .u8 w4 w4.heap.size A dl := by repeat (first | assumption | exact Below.refl _ _ | ((with_reducible refine lit2 _ _ _ _ _ ?_); (first | (with_reducible rfl) | (simp; done))) | ((with_reducible refine lit1 _ _ _ _ ?_); (first | (with_reducible rfl) | (simp; done))) | refine row_step (by first | assumption | exact below_alloc1 _ _ | exact below_drew1 _ | exact below_drewN0 _ _) ?_ | refine block_below (by first | assumption | exact below_alloc1 _ _ | exact below_drew1 _ | exact below_drewN0 _ _) ?_ | refine below_then ?_ (by first | assumption | exact below_alloc1 _ _ | exact below_drew1 _ | exact below_drewN0 _ _))
  have tot4 : Below w.heap.size w w4 := by repeat (first | assumption | exact Below.refl _ _ | ((with_reducible refine lit2 _ _ _ _ _ ?_); (first | (with_reducible rfl) | (simp; done))) | ((with_reducible refine lit1 _ _ _ _ ?_); (first | (with_reducible rfl) | (simp; done))) | refine row_step (by first | assumption | exact below_alloc1 _ _ | exact below_drew1 _ | exact below_drewN0 _ _) ?_ | refine block_below (by first | assumption | exact below_alloc1 _ _ | exact below_drew1 _ | exact below_drewN0 _ _) ?_ | refine below_then ?_ (by first | assumption | exact below_alloc1 _ _ | exact below_drew1 _ | exact below_drewN0 _ _))
  clear hB0 hB1 hB2 hB3 hB4 hF0 hF1 hF2 hF3
  go_wp2_with fail
  refine (refHead_at x ID r L dl m HD.out A c hID hL _ dl4 HB.out (by omega) T HT.out kT HkT.out).mono ?_
  rintro e w5 ⟨A5, c5, rfl, hr5, hB5⟩
  clear c0 c1 c2 c3 c4 hr5
  obtain ⟨c0, c1, c2, c3, c4⟩ := cells5' (obj_below hF4 hB5)
  go_wp2_with fail
  refine (wireLength_at x ID r L dl m HD.out A c hID hL _ (dl4.to hB5) HB.out (by omega) T HT.out (K + 9) HK.out).mono ?_
  rintro e w6 ⟨rfl, hB6⟩
  have hB56 := below_then hB5 hB6
  clear c0 c1 c2 c3 c4 hB5 hB6
  obtain ⟨c0, c1, c2, c3, c4⟩ := cells5' (obj_below hF4 hB56)
  have t1 : ((K : Int) + 9 != (K : Int) + 9) = false := by simp
  have t2 : decide ((K : Int) + 9 < (kT : Int) + 25) = false := by simp; omega
  have t3 : decide ((mo : Int) < (K : Int) + 9) = false := by simp; omega
  go_wp2_with fail
  refine (wireMost_at x m (by omega) w6 mo (by rw [Hmo.out])).mono ?_
  rintro e w7 ⟨rfl, rfl⟩
  have r6 := hr4.to hB56
  have tot6 := below_then tot4 hB56
  clear c0 c1 c2 c3 c4 hr4 tot4 dl4 hF4
  go_wp2_with fail
  refine (refRight_q (sentV T) (K + 9) HK.out A4 c4' _ r6 (by unfold maxLen; omega) true (sent_right HO.out)).mono ?_
  rintro e w7 ⟨rfl, hB7⟩
  have r7 := r6.to hB7
  have tot7 := below_then tot6 hB7
  clear r6 tot6 hB7 hB56
  subst hMK
  go_wp2_with fail
  go_loopw [6, 7] (fun rn i wr => ∃ k q : Nat, k ≤ M ∧ i = .int .i64 k ∧ rn = .int .i64 ((runOf ((sentV T).take k)).2 : Nat) ∧ wr = w7.drewN q) (fun _ i _ => M - (intOf i).toNat)
  case atStart => exact ⟨0, 0, Nat.zero_le _, rfl, rfl, rfl⟩
  case round =>
    obtain ⟨k, q, hk, rfl, rfl, rfl⟩ := hrel
    by_cases hlt : k < M
    · obtain ⟨ad, a, rfl, ha, ca⟩ := r7.get_ (k := k) (by rw [HK.out]; omega)
      have hrn := run_next ha
      have h5 := sent_run (T := T) (k := k) (by rw [HM.out]; omega)
      rw [hrn] at h5
      have d1 : decide ((k : Int) < (M : Int) + 1 + 9 - 10) = true := by simp; omega
      have d2 : (M : Int) + 1 + 9 - 10 = (M : Int) := by omega
      have Hrn := Lib.hid hrn
      have Ha := Lib.hid ha
      clear ha hrn
      by_cases h0 : k = 0
      · subst h0
        have hq1 : (tick (runOf ((sentV T).take 0)) a).2 = 1 := by
          show (tick (0, 0) a).2 = 1
          unfold tick; split <;> simp
        have Hq1 := Lib.hid hq1
        clear hq1 h5
        go_wp2_with fail
        go_quiet (fail)
        go_wp2_with fail
        refine ⟨⟨1, _, by omega, rfl, ?_, rfl⟩, by simp [intOf]; omega⟩
        rw [Hrn.out, Hq1.out]; rfl
      · obtain ⟨p, rfl⟩ : ∃ p, k = p + 1 := ⟨k - 1, by omega⟩
        obtain ⟨b, hb⟩ : ∃ b, (sentV T)[p]? = some b := ⟨_, List.getElem?_eq_getElem (by rw [HK.out]; omega)⟩
        have cb := r7.at_ hb
        have hlast := run_last hb
        obtain ⟨s, hs⟩ : ∃ s, runOf ((sentV T).take (p + 1)) = s := ⟨_, rfl⟩
        rw [hs] at hlast h5
        rw [hs] at Hrn ⊢
        have c1 : (0 : Int) < (p : Int) + 1 := by omega
        have c2 : (p : Int) + 1 - 1 = (p : Int) := by omega
        have c5 : (p : Int) < (M : Int) + 1 + 9 := by omega
        have c6 : (p : Int) + 1 < (M : Int) + 1 + 9 := by omega
        simp [Addr.add] at ca
        clear hb hs h0
        by_cases hab : a = b
        · have hq1 : (tick s a).2 = s.2 + 1 := by rw [hab, ← hlast, tick_same]
          rw [hq1] at h5
          have d3 : (a == b) = true := by simp [hab]
          have d5 : decide ((5 : Int) < ((s.2 : Nat) : Int) + 1) = false := by simp; omega
          have Hq1 := Lib.hid hq1
          clear hq1 hab hlast
          go_wp2_with fail
          go_quiet (fail)
          go_wp2_with fail
          refine ⟨⟨p + 1 + 1, _, by omega, by go_num, ?_, rfl⟩, by simp [intOf]; omega⟩
          rw [Hrn.out, Hq1.out]; go_num
        · have hq1 : (tick s a).2 = 1 := by rw [tick_other (by rw [hlast]; exact hab)]
          have d3 : (a == b) = false := by simp [hab]
          have Hq1 := Lib.hid hq1
          clear hq1 hab hlast
          go_wp2_with fail
          go_quiet (fail)
          go_wp2_with fail
          refine ⟨⟨p + 1 + 1, _, by omega, by go_num, ?_, rfl⟩, by simp [intOf]; omega⟩
          rw [Hrn.out, Hq1.out]; rfl
    · obtain rfl : k = M := by omega
      have d1 : decide ((k : Int) < (k : Int) + 1 + 9 - 10) = false := by simp; omega
      have d2 : (k : Int) + 1 + 9 - 10 = (k : Int) := by omega
      have r8 : Row .i64 (w7.drewN q) (w7.drewN q).heap.size A4 (sentV T) := r7
      have tot8 : Below w.heap.size w (w7.drewN q) := below_drewN' tot7 q
      generalize w7.drewN q = w8 at r8 tot8 ⊢
      go_wp2_with fail
      go_loopw [8] (fun i wr => ∃ j : Nat, j ≤ 10 ∧ i = .int .i64 ((k + j : Nat) : Int) ∧ wr = w8) (fun i _ => k + 10 - (intOf i).toNat)
      case atStart => exact ⟨0, by omega, by go_num, rfl⟩
      case round =>
        obtain ⟨j, hj, rfl, rfl⟩ := hrel
        by_cases hj2 : j < 10
        · have ho := sent_one (T := T) hj2
          rw [HM.out] at ho
          obtain ⟨ad, a, rfl, ha, ca⟩ := r8.get_ (k := k + j) (by rw [HK.out]; omega)
          obtain rfl : a = 1 := by rw [ha] at ho; injection ho
          have e1 : decide ((k : Int) + (j : Int) < (k : Int) + 1 + 9) = true := by simp; omega
          have e2 : (k : Int) + (j : Int) < (k : Int) + 1 + 9 := by omega
          clear ho ha
          go_wp2_with fail
          refine ⟨⟨j + 1, by omega, by go_num, by first | trivial | rfl⟩, by simp [intOf]; omega⟩
        · obtain rfl : j = 10 := by omega
          have e1 : decide ((k : Int) + 10 < (k : Int) + 1 + 9) = false := by simp; omega
          go_wp2_with fail
          go_ret
          exact ⟨rfl, tot8⟩

end Go.Proofs.Ytmapkjjglhpamaa
