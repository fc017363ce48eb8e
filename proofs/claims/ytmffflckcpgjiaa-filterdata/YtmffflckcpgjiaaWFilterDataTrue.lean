/-
  FilterData.
-/
import Derived.Test.YtmffflckcpgjiaaFilLaw
import Derived.Test.YtmffflckcpgjiaaHead7
import Derived.Test.YtmffflckcpgjiaaAny7
namespace Go.Proofs.Ytmffflckcpgjiaa
open Go.RowKit
set_option linter.unusedVariables false
set_option linter.unusedSimpArgs false

set_option maxRecDepth 100000 in
set_option maxHeartbeats 2000000 in
theorem filterData_true_false (f : FL) (xi : Int) (xr : Bool) (xn : Int) (xa : Option Addr) (xm xc : Nat) (hxM : xm ≤ maxLen) (yi : Int) (yr : Bool) (yn : Int) (ya : Option Addr) (ym yc : Nat) (hyM : ym ≤ maxLen) (w : World) :
    Calls Try.prog 8 #[f.v, .agg #[.bool true, .int .i64 xi, .bool xr, .int .i64 xn, .slice xa xm xc], .agg #[.bool false, .int .i64 yi, .bool yr, .int .i64 yn, .slice ya ym yc]] w fun e w' => e = .returned (.bool true) ∧ Below w.heap.size w w' := by
  unfold maxLen at hxM hyM
  go_enter Try.func8, Try.ntmps8
  go_wp2_with fail
  obtain ⟨w0, hw0⟩ : ∃ w0, (((w.alloc (.cells #[.bool f.x, .int .i64 f.k, .int .i64 f.m] 23)).alloc (.cells #[.bool true, .int .i64 xi, .bool xr, .int .i64 xn, .slice xa xm xc] 27)).alloc (.cells #[.bool false, .int .i64 yi, .bool yr, .int .i64 yn, .slice ya ym yc] 27)) = w0 := ⟨_, rfl⟩
  have hT0 : Below w.heap.size w w0 := by rw [← hw0]; exact below_then (below_two _ _ _) (below_alloc1 _ _)
  have hf0 : HasL w0 w.heap.size ⟨f.x, f.k, f.m⟩ := by rw [← hw0]; exact block_below (below_alloc1 _ _) (blk1 _ _ _)
  have hx0 : HasF w0 (w.heap.size + 1) ⟨true, xi, xr, xn, xa, xm, xc⟩ := by rw [← hw0]; exact block_below (below_alloc1 _ _) (blk2 _ _ _)
  have hy0 : HasF w0 (w.heap.size + 2) ⟨false, yi, yr, yn, ya, ym, yc⟩ := by rw [← hw0]; exact blk3 _ _ _ _
  rw [hw0]
  clear hw0
  refine (head7_any w0).mono ?_
  rintro e w1 ⟨rfl, hB1⟩
  have hT1 := below_then hT0 hB1
  have hf1 := block_below hB1 hf0
  have hx1 := block_below hB1 hx0
  have hy1 := block_below hB1 hy0
  clear hT0 hf0 hx0 hy0  hB1
  obtain ⟨fc0, fc1, fc2⟩ := cells3' hf1
  obtain ⟨xc0, xc1, xc2, xc3, xc4⟩ := cells5' hx1
  obtain ⟨yc0, yc1, yc2, yc3, yc4⟩ := cells5' hy1
  go_wp2_with fail
  clear fc0 fc1 fc2 xc0 xc1 xc2 xc3 xc4 yc0 yc1 yc2 yc3 yc4
  obtain ⟨qf, hqf⟩ : ∃ q, refRightP f = q := ⟨_, rfl⟩
  have Hqf := Lib.hid hqf
  clear hqf
  cases qf
  · skip
    refine (refRight_q f w1 false Hqf.out).mono ?_
    rintro e w2 ⟨rfl, hB2⟩
    have hT2 := below_then hT1 hB2
    have hf2 := block_below hB2 hf1
    have hx2 := block_below hB2 hx1
    have hy2 := block_below hB2 hy1
    clear hT1 hf1 hx1 hy1  hB2
    obtain ⟨fc0, fc1, fc2⟩ := cells3' hf2
    obtain ⟨xc0, xc1, xc2, xc3, xc4⟩ := cells5' hx2
    obtain ⟨yc0, yc1, yc2, yc3, yc4⟩ := cells5' hy2
    go_wp2_with fail
    go_ret
    exact ⟨rfl, hT2⟩
  refine (refRight_q f w1 true Hqf.out).mono ?_
  rintro e w2 ⟨rfl, hB2⟩
  have hT2 := below_then hT1 hB2
  have hf2 := block_below hB2 hf1
  have hx2 := block_below hB2 hx1
  have hy2 := block_below hB2 hy1
  clear hT1 hf1 hx1 hy1  hB2
  rcases dec (100 < xm) with ⟨dx, gx⟩ | ⟨dx, gx⟩
  · skip
    have dx' : decide ((100 : Int) < (xm : Int)) = true := by simp; omega
    obtain ⟨fc0, fc1, fc2⟩ := cells3' hf2
    obtain ⟨xc0, xc1, xc2, xc3, xc4⟩ := cells5' hx2
    obtain ⟨yc0, yc1, yc2, yc3, yc4⟩ := cells5' hy2
    go_wp2_with fail
    go_ret
    exact ⟨rfl, hT2⟩
  have dx' : decide ((100 : Int) < (xm : Int)) = false := by simp; omega
  rcases dec (100 < ym) with ⟨dy, gy⟩ | ⟨dy, gy⟩
  · skip
    have dy' : decide ((100 : Int) < (ym : Int)) = true := by simp; omega
    obtain ⟨fc0, fc1, fc2⟩ := cells3' hf2
    obtain ⟨xc0, xc1, xc2, xc3, xc4⟩ := cells5' hx2
    obtain ⟨yc0, yc1, yc2, yc3, yc4⟩ := cells5' hy2
    go_wp2_with fail
    go_ret
    exact ⟨rfl, hT2⟩
  have dy' : decide ((100 : Int) < (ym : Int)) = false := by simp; omega
  clear gx gy hxM hyM
  obtain ⟨fc0, fc1, fc2⟩ := cells3' hf2
  obtain ⟨xc0, xc1, xc2, xc3, xc4⟩ := cells5' hx2
  obtain ⟨yc0, yc1, yc2, yc3, yc4⟩ := cells5' hy2
  go_wp2_with fail
  clear fc0 fc1 fc2 xc0 xc1 xc2 xc3 xc4 yc0 yc1 yc2 yc3 yc4
  obtain ⟨qx, hqx⟩ : ∃ q, frRightP ⟨true, xi, xr, xn, xa, xm, xc⟩ = q := ⟨_, rfl⟩
  have Hqx := Lib.hid hqx
  clear hqx
  cases qx
  · skip
    refine (frRight_q ⟨true, xi, xr, xn, xa, xm, xc⟩ w2 false Hqx.out).mono ?_
    rintro e w3 ⟨rfl, hB3⟩
    have hT3 := below_then hT2 hB3
    have hf3 := block_below hB3 hf2
    have hx3 := block_below hB3 hx2
    have hy3 := block_below hB3 hy2
    clear hT2 hf2 hx2 hy2  hB3
    obtain ⟨fc0, fc1, fc2⟩ := cells3' hf3
    obtain ⟨xc0, xc1, xc2, xc3, xc4⟩ := cells5' hx3
    obtain ⟨yc0, yc1, yc2, yc3, yc4⟩ := cells5' hy3
    go_wp2_with fail
    go_ret
    exact ⟨rfl, hT3⟩
  refine (frRight_q ⟨true, xi, xr, xn, xa, xm, xc⟩ w2 true Hqx.out).mono ?_
  rintro e w3 ⟨rfl, hB3⟩
  have hT3 := below_then hT2 hB3
  have hf3 := block_below hB3 hf2
  have hx3 := block_below hB3 hx2
  have hy3 := block_below hB3 hy2
  clear hT2 hf2 hx2 hy2  hB3
  obtain ⟨fc0, fc1, fc2⟩ := cells3' hf3
  obtain ⟨xc0, xc1, xc2, xc3, xc4⟩ := cells5' hx3
  obtain ⟨yc0, yc1, yc2, yc3, yc4⟩ := cells5' hy3
  go_wp2_with fail
  clear fc0 fc1 fc2 xc0 xc1 xc2 xc3 xc4 yc0 yc1 yc2 yc3 yc4
  obtain ⟨qy, hqy⟩ : ∃ q, frRightP ⟨false, yi, yr, yn, ya, ym, yc⟩ = q := ⟨_, rfl⟩
  have Hqy := Lib.hid hqy
  clear hqy
  cases qy
  · skip
    refine (frRight_q ⟨false, yi, yr, yn, ya, ym, yc⟩ w3 false Hqy.out).mono ?_
    rintro e w4 ⟨rfl, hB4⟩
    have hT4 := below_then hT3 hB4
    have hf4 := block_below hB4 hf3
    have hx4 := block_below hB4 hx3
    have hy4 := block_below hB4 hy3
    clear hT3 hf3 hx3 hy3  hB4
    obtain ⟨fc0, fc1, fc2⟩ := cells3' hf4
    obtain ⟨xc0, xc1, xc2, xc3, xc4⟩ := cells5' hx4
    obtain ⟨yc0, yc1, yc2, yc3, yc4⟩ := cells5' hy4
    go_wp2_with fail
    go_ret
    exact ⟨rfl, hT4⟩
  refine (frRight_q ⟨false, yi, yr, yn, ya, ym, yc⟩ w3 true Hqy.out).mono ?_
  rintro e w4 ⟨rfl, hB4⟩
  have hT4 := below_then hT3 hB4
  have hf4 := block_below hB4 hf3
  have hx4 := block_below hB4 hx3
  have hy4 := block_below hB4 hy3
  clear hT3 hf3 hx3 hy3  hB4
  clear dx dx' dy dy'
  obtain ⟨I, hI, lI, mI⟩ := frRight_id Hqx.out
  obtain ⟨J, hJ, lJ, mJ⟩ := frRight_id Hqy.out
  dsimp only at hI hJ lJ
  subst hI hJ
  clear lI
  have htw := takes_whole (x := true) (y := false) (i := I) (j := J) lJ
  rw [show ((allN true : Nat) : Int) = 536870911 from by decide] at htw
  have htw2 : takesV ⟨true, 536870911, (I : Int)⟩ false (J : Int) = false := by rw [htw]; rfl
  have htn := takes_none (x := true) (i := I) (by omega)
  have HW := Lib.hid htw2
  have HN := Lib.hid htn
  clear htw htw2 htn lJ
  obtain ⟨q, hq⟩ : ∃ q, takesV f true (I : Int) = q := ⟨_, rfl⟩
  have Hq := Lib.hid hq
  clear hq
  obtain ⟨fc0, fc1, fc2⟩ := cells3' hf4
  obtain ⟨xc0, xc1, xc2, xc3, xc4⟩ := cells5' hx4
  obtain ⟨yc0, yc1, yc2, yc3, yc4⟩ := cells5' hy4
  have hlf := (Array.getElem?_eq_some_iff.1 hf4).1
  have hlx := (Array.getElem?_eq_some_iff.1 hx4).1
  have hly := (Array.getElem?_eq_some_iff.1 hy4).1
  go_wp2_with fail
  clear fc0 fc1 fc2 xc0 xc1 xc2 xc3 xc4 yc0 yc1 yc2 yc3 yc4 hlf hlx hly
  obtain ⟨w5, hw5⟩ : ∃ w5, ((w4.alloc (.cells #[.bool true, .int .i64 (I : Int), .bool yr, .int .i64 yn, .slice ya ym yc] 27)).alloc (.cells #[.bool true, .int .i64 536870911, .int .i64 (I : Int)] 23)) = w5 := ⟨_, rfl⟩
  have hB5 : Below w4.heap.size w4 w5 := by rw [← hw5]; exact below_two _ _ _
  have hz5 : HasF w5 w4.heap.size ⟨true, (I : Int), yr, yn, ya, ym, yc⟩ := by rw [← hw5]; exact blk1 _ _ _
  have hv5 : HasL w5 (w4.heap.size + 1) ⟨true, 536870911, (I : Int)⟩ := by rw [← hw5]; exact blk2 _ _ _
  rw [hw5]
  clear hw5
  have hT5 := below_then hT4 hB5
  have hf5 := block_below hB5 hf4
  have hx5 := block_below hB5 hx4
  have hy5 := block_below hB5 hy4
  clear hT4 hf4 hx4 hy4  hB5
  refine wp_region_held_drew (S := fun W => (W.cell? ⟨w.heap.size, 0, none⟩ = some (.bool f.x) ∧ W.cell? ⟨w.heap.size, 1, none⟩ = some (.int .i64 f.k) ∧ W.cell? ⟨w.heap.size, 2, none⟩ = some (.int .i64 f.m)) ∧ (W.cell? ⟨(w.heap.size + 1), 0, none⟩ = some (.bool true) ∧ W.cell? ⟨(w.heap.size + 1), 1, none⟩ = some (.int .i64 (I : Int)) ∧ W.cell? ⟨(w.heap.size + 1), 2, none⟩ = some (.bool xr) ∧ W.cell? ⟨(w.heap.size + 1), 3, none⟩ = some (.int .i64 xn) ∧ W.cell? ⟨(w.heap.size + 1), 4, none⟩ = some (.slice xa xm xc)) ∧ (W.cell? ⟨(w.heap.size + 2), 0, none⟩ = some (.bool false) ∧ W.cell? ⟨(w.heap.size + 2), 1, none⟩ = some (.int .i64 (J : Int)) ∧ W.cell? ⟨(w.heap.size + 2), 2, none⟩ = some (.bool yr) ∧ W.cell? ⟨(w.heap.size + 2), 3, none⟩ = some (.int .i64 yn) ∧ W.cell? ⟨(w.heap.size + 2), 4, none⟩ = some (.slice ya ym yc)) ∧ (W.cell? ⟨w4.heap.size, 0, none⟩ = some (.bool true) ∧ W.cell? ⟨w4.heap.size, 1, none⟩ = some (.int .i64 (I : Int)) ∧ W.cell? ⟨w4.heap.size, 2, none⟩ = some (.bool yr) ∧ W.cell? ⟨w4.heap.size, 3, none⟩ = some (.int .i64 yn) ∧ W.cell? ⟨w4.heap.size, 4, none⟩ = some (.slice ya ym yc)) ∧ (W.cell? ⟨(w4.heap.size + 1), 0, none⟩ = some (.bool true) ∧ W.cell? ⟨(w4.heap.size + 1), 1, none⟩ = some (.int .i64 536870911) ∧ W.cell? ⟨(w4.heap.size + 1), 2, none⟩ = some (.int .i64 (I : Int)))) (by kernel_rfl) (by exact ⟨HasL.cl (f := ⟨f.x, f.k, f.m⟩) (block_below (below_drew1 _) hf5), HasF.cf (f := ⟨true, (I : Int), xr, xn, xa, xm, xc⟩) (block_below (below_drew1 _) hx5), HasF.cf (f := ⟨false, (J : Int), yr, yn, ya, ym, yc⟩) (block_below (below_drew1 _) hy5), HasF.cf (f := ⟨true, (I : Int), yr, yn, ya, ym, yc⟩) (block_below (below_drew1 _) hz5), HasL.cl (f := ⟨true, 536870911, (I : Int)⟩) (block_below (below_drew1 _) hv5)⟩) (fun hHeld_ => ?_)
  refine wpAnyH_take' (i := 0) (v := ?v0_t11) 52 rfl rfl (by kernel_rfl) (by kernel_rfl) (by kernel_rfl) (fun _ _ _ h => h) (Or.inl ⟨by kernel_rfl, ?hy0_t11⟩) (by assumption) ?rest0_t11
  case hy0_t11 => (intro W_ hS_; (try dsimp only at hS_); go_simp; (try (with_reducible rfl)))
  try simp only [Act.put, List.setIfInBounds_toArray, List.set_cons_zero, List.set_cons_succ]
  refine wpAnyH_take' (i := 1) (v := ?v1_t11) 53 rfl rfl (by kernel_rfl) (by kernel_rfl) (by kernel_rfl) (fun _ _ _ h => h) (Or.inl ⟨by kernel_rfl, ?hy1_t11⟩) (by assumption) ?rest1_t11
  case hy1_t11 => (intro W_ hS_; (try dsimp only at hS_); go_simp; (try (with_reducible rfl)))
  try simp only [Act.put, List.setIfInBounds_toArray, List.set_cons_zero, List.set_cons_succ]
  refine wpAnyH_take' (i := 2) (v := ?v2_t11) 54 rfl rfl (by kernel_rfl) (by kernel_rfl) (by kernel_rfl) (fun _ _ _ h => h) (Or.inl ⟨by kernel_rfl, ?hy2_t11⟩) (by assumption) ?rest2_t11
  case hy2_t11 => (intro W_ hS_; (try dsimp only at hS_); go_simp; (try (with_reducible rfl)))
  try simp only [Act.put, List.setIfInBounds_toArray, List.set_cons_zero, List.set_cons_succ]
  refine wpAnyH_take' (i := 3) (v := ?v3_t11) 55 rfl rfl (by kernel_rfl) (by kernel_rfl) (by kernel_rfl) (fun _ _ _ h => h) (Or.inl ⟨by kernel_rfl, ?hy3_t11⟩) (by assumption) ?rest3_t11
  case hy3_t11 => (intro W_ hS_; (try dsimp only at hS_); go_simp; (try (with_reducible rfl)))
  try simp only [Act.put, List.setIfInBounds_toArray, List.set_cons_zero, List.set_cons_succ]
  refine wpAnyH_take' (i := 5) (v := ?v5_t11) 57 rfl rfl (by kernel_rfl) (by kernel_rfl) (by kernel_rfl) (fun _ _ _ h => h) (Or.inl ⟨by kernel_rfl, ?hy5_t11⟩) (by assumption) ?rest5_t11
  case hy5_t11 => (intro W_ hS_; (try dsimp only at hS_); go_simp; (try (with_reducible rfl)))
  try simp only [Act.put, List.setIfInBounds_toArray, List.set_cons_zero, List.set_cons_succ]
  refine wpAnyH_take' (i := 6) (v := ?v6_t11) 58 rfl rfl (by kernel_rfl) (by kernel_rfl) (by kernel_rfl) (fun _ _ _ h => h) (Or.inl ⟨by kernel_rfl, ?hy6_t11⟩) (by assumption) ?rest6_t11
  case hy6_t11 => (intro W_ hS_; (try dsimp only at hS_); go_simp; (try (with_reducible rfl)))
  try simp only [Act.put, List.setIfInBounds_toArray, List.set_cons_zero, List.set_cons_succ]
  refine wpAnyH_ready (rs := [4]) (by kernel_rfl) (by simp) ?_
  refine AllReadyH.cons rfl (fun K_ hK_ => ?_) AllReadyH.nil
  go_simp
  refine (takes_q f ⟨true, (I : Int), xr, xn, xa, xm, xc⟩ _ q Hq.out).mono ?_; rintro e wr4 ⟨rfl, hBr4⟩
  go_wp2_with fail
  refine hK_.out _ _ (by exact ⟨HasL.cl (f := ⟨f.x, f.k, f.m⟩) (block_below hBr4 (block_below (below_drew1 _) hf5)), HasF.cf (f := ⟨true, (I : Int), xr, xn, xa, xm, xc⟩) (block_below hBr4 (block_below (below_drew1 _) hx5)), HasF.cf (f := ⟨false, (J : Int), yr, yn, ya, ym, yc⟩) (block_below hBr4 (block_below (below_drew1 _) hy5)), HasF.cf (f := ⟨true, (I : Int), yr, yn, ya, ym, yc⟩) (block_below hBr4 (block_below (below_drew1 _) hz5)), HasL.cl (f := ⟨true, 536870911, (I : Int)⟩) (block_below hBr4 (block_below (below_drew1 _) hv5))⟩) (fun hHeld_4 => ?_)
  clear hK_
  try simp only [Act.put, List.setIfInBounds_toArray, List.set_cons_zero, List.set_cons_succ]
  refine wpAnyH_ready (rs := [7]) (by kernel_rfl) (by simp) ?_
  refine AllReadyH.cons rfl (fun K_ hK_ => ?_) AllReadyH.nil
  go_simp
  refine (takes_q f ⟨true, (I : Int), yr, yn, ya, ym, yc⟩ _ q Hq.out).mono ?_; rintro e wr7 ⟨rfl, hBr7⟩
  go_wp2_with fail
  refine hK_.out _ _ (by exact ⟨HasL.cl (f := ⟨f.x, f.k, f.m⟩) (block_below hBr7 (block_below hBr4 (block_below (below_drew1 _) hf5))), HasF.cf (f := ⟨true, (I : Int), xr, xn, xa, xm, xc⟩) (block_below hBr7 (block_below hBr4 (block_below (below_drew1 _) hx5))), HasF.cf (f := ⟨false, (J : Int), yr, yn, ya, ym, yc⟩) (block_below hBr7 (block_below hBr4 (block_below (below_drew1 _) hy5))), HasF.cf (f := ⟨true, (I : Int), yr, yn, ya, ym, yc⟩) (block_below hBr7 (block_below hBr4 (block_below (below_drew1 _) hz5))), HasL.cl (f := ⟨true, 536870911, (I : Int)⟩) (block_below hBr7 (block_below hBr4 (block_below (below_drew1 _) hv5)))⟩) (fun hHeld_7 => ?_)
  clear hK_
  try simp only [Act.put, List.setIfInBounds_toArray, List.set_cons_zero, List.set_cons_succ]
  refine wpAnyH_take' (i := 8) (v := ?v8_t11) 60 rfl rfl (by kernel_rfl) (by kernel_rfl) (by kernel_rfl) (fun _ _ _ h => h) (Or.inl ⟨by kernel_rfl, ?hy8_t11⟩) (by assumption) ?rest8_t11
  case hy8_t11 => (intro W_ hS_; (try dsimp only at hS_); go_simp; (try (with_reducible rfl)))
  try simp only [Act.put, List.setIfInBounds_toArray, List.set_cons_zero, List.set_cons_succ]
  refine wpAnyH_take' (i := 9) (v := ?v9_t11) 61 rfl rfl (by kernel_rfl) (by kernel_rfl) (by kernel_rfl) (fun _ _ _ h => h) (Or.inl ⟨by kernel_rfl, ?hy9_t11⟩) (by assumption) ?rest9_t11
  case hy9_t11 => (intro W_ hS_; (try dsimp only at hS_); go_simp; (try (with_reducible rfl)))
  try simp only [Act.put, List.setIfInBounds_toArray, List.set_cons_zero, List.set_cons_succ]
  refine wpAnyH_take' (i := 10) (v := ?v10_t11) 62 rfl rfl (by kernel_rfl) (by kernel_rfl) (by kernel_rfl) (fun _ _ _ h => h) (Or.inl ⟨by kernel_rfl, ?hy10_t11⟩) (by assumption) ?rest10_t11
  case hy10_t11 => (intro W_ hS_; (try dsimp only at hS_); go_simp; (try (with_reducible rfl)))
  try simp only [Act.put, List.setIfInBounds_toArray, List.set_cons_zero, List.set_cons_succ]
  refine wpAnyH_take' (i := 11) (v := ?v11_t11) 63 rfl rfl (by kernel_rfl) (by kernel_rfl) (by kernel_rfl) (fun _ _ _ h => h) (Or.inl ⟨by kernel_rfl, ?hy11_t11⟩) (by assumption) ?rest11_t11
  case hy11_t11 => (intro W_ hS_; (try dsimp only at hS_); go_simp; (try (with_reducible rfl)))
  try simp only [Act.put, List.setIfInBounds_toArray, List.set_cons_zero, List.set_cons_succ]
  refine wpAnyH_take' (i := 12) (v := ?v12_t11) 64 rfl rfl (by kernel_rfl) (by kernel_rfl) (by kernel_rfl) (fun _ _ _ h => h) (Or.inl ⟨by kernel_rfl, ?hy12_t11⟩) (by assumption) ?rest12_t11
  case hy12_t11 => (intro W_ hS_; (try dsimp only at hS_); go_simp; (try (with_reducible rfl)))
  try simp only [Act.put, List.setIfInBounds_toArray, List.set_cons_zero, List.set_cons_succ]
  refine wpAnyH_take' (i := 13) (v := ?v13_t11) 65 rfl rfl (by kernel_rfl) (by kernel_rfl) (by kernel_rfl) (fun _ _ _ h => h) (Or.inl ⟨by kernel_rfl, ?hy13_t11⟩) (by assumption) ?rest13_t11
  case hy13_t11 => (intro W_ hS_; (try dsimp only at hS_); go_simp; (try (with_reducible rfl)))
  try simp only [Act.put, List.setIfInBounds_toArray, List.set_cons_zero, List.set_cons_succ]
  refine wpAnyH_take' (i := 14) (v := ?v14_t11) 66 rfl rfl (by kernel_rfl) (by kernel_rfl) (by kernel_rfl) (fun _ _ _ h => h) (Or.inl ⟨by kernel_rfl, ?hy14_t11⟩) (by assumption) ?rest14_t11
  case hy14_t11 => (intro W_ hS_; (try dsimp only at hS_); go_simp; (try (with_reducible rfl)))
  try simp only [Act.put, List.setIfInBounds_toArray, List.set_cons_zero, List.set_cons_succ]
  refine wpAnyH_ready (rs := [15]) (by kernel_rfl) (by simp) ?_
  refine AllReadyH.cons rfl (fun K_ hK_ => ?_) AllReadyH.nil
  go_simp
  refine (takes_q ⟨true, 0, 0⟩ ⟨true, (I : Int), xr, xn, xa, xm, xc⟩ _ true HN.out.1).mono ?_; rintro e wr15 ⟨rfl, hBr15⟩
  go_wp2_with fail
  refine hK_.out _ _ (by exact ⟨HasL.cl (f := ⟨f.x, f.k, f.m⟩) (block_below hBr15 (block_below hBr7 (block_below hBr4 (block_below (below_drew1 _) hf5)))), HasF.cf (f := ⟨true, (I : Int), xr, xn, xa, xm, xc⟩) (block_below hBr15 (block_below hBr7 (block_below hBr4 (block_below (below_drew1 _) hx5)))), HasF.cf (f := ⟨false, (J : Int), yr, yn, ya, ym, yc⟩) (block_below hBr15 (block_below hBr7 (block_below hBr4 (block_below (below_drew1 _) hy5)))), HasF.cf (f := ⟨true, (I : Int), yr, yn, ya, ym, yc⟩) (block_below hBr15 (block_below hBr7 (block_below hBr4 (block_below (below_drew1 _) hz5)))), HasL.cl (f := ⟨true, 536870911, (I : Int)⟩) (block_below hBr15 (block_below hBr7 (block_below hBr4 (block_below (below_drew1 _) hv5))))⟩) (fun hHeld_15 => ?_)
  clear hK_
  try simp only [Act.put, List.setIfInBounds_toArray, List.set_cons_zero, List.set_cons_succ]
  refine wpAnyH_take' (i := 16) (v := ?v16_t11) 68 rfl rfl (by kernel_rfl) (by kernel_rfl) (by kernel_rfl) (fun _ _ _ h => h) (Or.inl ⟨by kernel_rfl, ?hy16_t11⟩) (by assumption) ?rest16_t11
  case hy16_t11 => (intro W_ hS_; (try dsimp only at hS_); go_simp; (try (with_reducible rfl)))
  try simp only [Act.put, List.setIfInBounds_toArray, List.set_cons_zero, List.set_cons_succ]
  refine wpAnyH_take' (i := 17) (v := ?v17_t11) 69 rfl rfl (by kernel_rfl) (by kernel_rfl) (by kernel_rfl) (fun _ _ _ h => h) (Or.inl ⟨by kernel_rfl, ?hy17_t11⟩) (by assumption) ?rest17_t11
  case hy17_t11 => (intro W_ hS_; (try dsimp only at hS_); go_simp; (try (with_reducible rfl)))
  try simp only [Act.put, List.setIfInBounds_toArray, List.set_cons_zero, List.set_cons_succ]
  refine wpAnyH_take' (i := 18) (v := ?v18_t11) 70 rfl rfl (by kernel_rfl) (by kernel_rfl) (by kernel_rfl) (fun _ _ _ h => h) (Or.inl ⟨by kernel_rfl, ?hy18_t11⟩) (by assumption) ?rest18_t11
  case hy18_t11 => (intro W_ hS_; (try dsimp only at hS_); go_simp; (try (with_reducible rfl)))
  try simp only [Act.put, List.setIfInBounds_toArray, List.set_cons_zero, List.set_cons_succ]
  refine wpAnyH_take' (i := 19) (v := ?v19_t11) 71 rfl rfl (by kernel_rfl) (by kernel_rfl) (by kernel_rfl) (fun _ _ _ h => h) (Or.inl ⟨by kernel_rfl, ?hy19_t11⟩) (by assumption) ?rest19_t11
  case hy19_t11 => (intro W_ hS_; (try dsimp only at hS_); go_simp; (try (with_reducible rfl)))
  try simp only [Act.put, List.setIfInBounds_toArray, List.set_cons_zero, List.set_cons_succ]
  refine wpAnyH_take' (i := 20) (v := ?v20_t11) 72 rfl rfl (by kernel_rfl) (by kernel_rfl) (by kernel_rfl) (fun _ _ _ h => h) (Or.inl ⟨by kernel_rfl, ?hy20_t11⟩) (by assumption) ?rest20_t11
  case hy20_t11 => (intro W_ hS_; (try dsimp only at hS_); go_simp; (try (with_reducible rfl)))
  try simp only [Act.put, List.setIfInBounds_toArray, List.set_cons_zero, List.set_cons_succ]
  refine wpAnyH_take' (i := 21) (v := ?v21_t11) 73 rfl rfl (by kernel_rfl) (by kernel_rfl) (by kernel_rfl) (fun _ _ _ h => h) (Or.inl ⟨by kernel_rfl, ?hy21_t11⟩) (by assumption) ?rest21_t11
  case hy21_t11 => (intro W_ hS_; (try dsimp only at hS_); go_simp; (try (with_reducible rfl)))
  try simp only [Act.put, List.setIfInBounds_toArray, List.set_cons_zero, List.set_cons_succ]
  refine wpAnyH_take' (i := 22) (v := ?v22_t11) 74 rfl rfl (by kernel_rfl) (by kernel_rfl) (by kernel_rfl) (fun _ _ _ h => h) (Or.inl ⟨by kernel_rfl, ?hy22_t11⟩) (by assumption) ?rest22_t11
  case hy22_t11 => (intro W_ hS_; (try dsimp only at hS_); go_simp; (try (with_reducible rfl)))
  try simp only [Act.put, List.setIfInBounds_toArray, List.set_cons_zero, List.set_cons_succ]
  refine wpAnyH_ready (rs := [23]) (by kernel_rfl) (by simp) ?_
  refine AllReadyH.cons rfl (fun K_ hK_ => ?_) AllReadyH.nil
  go_simp
  refine (takes_q ⟨false, 0, 0⟩ ⟨true, (I : Int), xr, xn, xa, xm, xc⟩ _ false HN.out.2).mono ?_; rintro e wr23 ⟨rfl, hBr23⟩
  go_wp2_with fail
  refine hK_.out _ _ (by exact ⟨HasL.cl (f := ⟨f.x, f.k, f.m⟩) (block_below hBr23 (block_below hBr15 (block_below hBr7 (block_below hBr4 (block_below (below_drew1 _) hf5))))), HasF.cf (f := ⟨true, (I : Int), xr, xn, xa, xm, xc⟩) (block_below hBr23 (block_below hBr15 (block_below hBr7 (block_below hBr4 (block_below (below_drew1 _) hx5))))), HasF.cf (f := ⟨false, (J : Int), yr, yn, ya, ym, yc⟩) (block_below hBr23 (block_below hBr15 (block_below hBr7 (block_below hBr4 (block_below (below_drew1 _) hy5))))), HasF.cf (f := ⟨true, (I : Int), yr, yn, ya, ym, yc⟩) (block_below hBr23 (block_below hBr15 (block_below hBr7 (block_below hBr4 (block_below (below_drew1 _) hz5))))), HasL.cl (f := ⟨true, 536870911, (I : Int)⟩) (block_below hBr23 (block_below hBr15 (block_below hBr7 (block_below hBr4 (block_below (below_drew1 _) hv5)))))⟩) (fun hHeld_23 => ?_)
  clear hK_
  try simp only [Act.put, List.setIfInBounds_toArray, List.set_cons_zero, List.set_cons_succ]
  refine wpAnyH_take' (i := 24) (v := ?v24_t11) 76 rfl rfl (by kernel_rfl) (by kernel_rfl) (by kernel_rfl) (fun _ _ _ h => h) (Or.inl ⟨by kernel_rfl, ?hy24_t11⟩) (by assumption) ?rest24_t11
  case hy24_t11 => (intro W_ hS_; (try dsimp only at hS_); go_simp; (try (with_reducible rfl)))
  try simp only [Act.put, List.setIfInBounds_toArray, List.set_cons_zero, List.set_cons_succ]
  refine wpAnyH_take' (i := 25) (v := ?v25_t11) 77 rfl rfl (by kernel_rfl) (by kernel_rfl) (by kernel_rfl) (fun _ _ _ h => h) (Or.inl ⟨by kernel_rfl, ?hy25_t11⟩) (by assumption) ?rest25_t11
  case hy25_t11 => (intro W_ hS_; (try dsimp only at hS_); go_simp; (try (with_reducible rfl)))
  try simp only [Act.put, List.setIfInBounds_toArray, List.set_cons_zero, List.set_cons_succ]
  refine wpAnyH_take' (i := 26) (v := ?v26_t11) 78 rfl rfl (by kernel_rfl) (by kernel_rfl) (by kernel_rfl) (fun _ _ _ h => h) (Or.inl ⟨by kernel_rfl, ?hy26_t11⟩) (by assumption) ?rest26_t11
  case hy26_t11 => (intro W_ hS_; (try dsimp only at hS_); go_simp; (try (with_reducible rfl)))
  try simp only [Act.put, List.setIfInBounds_toArray, List.set_cons_zero, List.set_cons_succ]
  refine wpAnyH_take' (i := 27) (v := ?v27_t11) 79 rfl rfl (by kernel_rfl) (by kernel_rfl) (by kernel_rfl) (fun _ _ _ h => h) (Or.inl ⟨by kernel_rfl, ?hy27_t11⟩) (by assumption) ?rest27_t11
  case hy27_t11 => (intro W_ hS_; (try dsimp only at hS_); go_simp; (try (with_reducible rfl)))
  try simp only [Act.put, List.setIfInBounds_toArray, List.set_cons_zero, List.set_cons_succ]
  refine wpAnyH_take' (i := 28) (v := ?v28_t11) 80 rfl rfl (by kernel_rfl) (by kernel_rfl) (by kernel_rfl) (fun _ _ _ h => h) (Or.inl ⟨by kernel_rfl, ?hy28_t11⟩) (by assumption) ?rest28_t11
  case hy28_t11 => (intro W_ hS_; (try dsimp only at hS_); go_simp; (try (with_reducible rfl)))
  try simp only [Act.put, List.setIfInBounds_toArray, List.set_cons_zero, List.set_cons_succ]
  refine wpAnyH_take' (i := 30) (v := ?v30_t11) 82 rfl rfl (by kernel_rfl) (by kernel_rfl) (by kernel_rfl) (fun _ _ _ h => h) (Or.inl ⟨by kernel_rfl, ?hy30_t11⟩) (by assumption) ?rest30_t11
  case hy30_t11 => (intro W_ hS_; (try dsimp only at hS_); go_simp; (try (with_reducible rfl)))
  try simp only [Act.put, List.setIfInBounds_toArray, List.set_cons_zero, List.set_cons_succ]
  refine wpAnyH_take' (i := 31) (v := ?v31_t11) 83 rfl rfl (by kernel_rfl) (by kernel_rfl) (by kernel_rfl) (fun _ _ _ h => h) (Or.inl ⟨by kernel_rfl, ?hy31_t11⟩) (by assumption) ?rest31_t11
  case hy31_t11 => (intro W_ hS_; (try dsimp only at hS_); go_simp; (try (with_reducible rfl)))
  try simp only [Act.put, List.setIfInBounds_toArray, List.set_cons_zero, List.set_cons_succ]
  refine wpAnyH_take' (i := 32) (v := ?v32_t11) 84 rfl rfl (by kernel_rfl) (by kernel_rfl) (by kernel_rfl) (fun _ _ _ h => h) (Or.inl ⟨by kernel_rfl, ?hy32_t11⟩) (by assumption) ?rest32_t11
  case hy32_t11 => (intro W_ hS_; (try dsimp only at hS_); go_simp; (try (with_reducible rfl)))
  try simp only [Act.put, List.setIfInBounds_toArray, List.set_cons_zero, List.set_cons_succ]
  refine wpAnyH_take' (i := 33) (v := ?v33_t11) 85 rfl rfl (by kernel_rfl) (by kernel_rfl) (by kernel_rfl) (fun _ _ _ h => h) (Or.inl ⟨by kernel_rfl, ?hy33_t11⟩) (by assumption) ?rest33_t11
  case hy33_t11 => (intro W_ hS_; (try dsimp only at hS_); go_simp; (try (with_reducible rfl)))
  try simp only [Act.put, List.setIfInBounds_toArray, List.set_cons_zero, List.set_cons_succ]
  refine wpAnyH_take' (i := 34) (v := ?v34_t11) 86 rfl rfl (by kernel_rfl) (by kernel_rfl) (by kernel_rfl) (fun _ _ _ h => h) (Or.inl ⟨by kernel_rfl, ?hy34_t11⟩) (by assumption) ?rest34_t11
  case hy34_t11 => (intro W_ hS_; (try dsimp only at hS_); go_simp; (try (with_reducible rfl)))
  try simp only [Act.put, List.setIfInBounds_toArray, List.set_cons_zero, List.set_cons_succ]
  refine wpAnyH_ready (rs := [29]) (by kernel_rfl) (by simp) ?_
  refine AllReadyH.cons rfl (fun K_ hK_ => ?_) AllReadyH.nil
  go_simp
  refine (takes_q ⟨true, 536870911, (I : Int)⟩ ⟨false, (J : Int), yr, yn, ya, ym, yc⟩ _ false HW.out).mono ?_; rintro e wr29 ⟨rfl, hBr29⟩
  go_wp2_with fail
  refine hK_.out _ _ (by exact ⟨HasL.cl (f := ⟨f.x, f.k, f.m⟩) (block_below hBr29 (block_below hBr23 (block_below hBr15 (block_below hBr7 (block_below hBr4 (block_below (below_drew1 _) hf5)))))), HasF.cf (f := ⟨true, (I : Int), xr, xn, xa, xm, xc⟩) (block_below hBr29 (block_below hBr23 (block_below hBr15 (block_below hBr7 (block_below hBr4 (block_below (below_drew1 _) hx5)))))), HasF.cf (f := ⟨false, (J : Int), yr, yn, ya, ym, yc⟩) (block_below hBr29 (block_below hBr23 (block_below hBr15 (block_below hBr7 (block_below hBr4 (block_below (below_drew1 _) hy5)))))), HasF.cf (f := ⟨true, (I : Int), yr, yn, ya, ym, yc⟩) (block_below hBr29 (block_below hBr23 (block_below hBr15 (block_below hBr7 (block_below hBr4 (block_below (below_drew1 _) hz5)))))), HasL.cl (f := ⟨true, 536870911, (I : Int)⟩) (block_below hBr29 (block_below hBr23 (block_below hBr15 (block_below hBr7 (block_below hBr4 (block_below (below_drew1 _) hv5))))))⟩) (fun hHeld_29 => ?_)
  clear hK_
  try simp only [Act.put, List.setIfInBounds_toArray, List.set_cons_zero, List.set_cons_succ]
  refine wpAnyH_take' (i := 35) (v := ?v35_t11) 87 rfl rfl (by kernel_rfl) (by kernel_rfl) (by kernel_rfl) (fun _ _ _ h => h) (Or.inl ⟨by kernel_rfl, ?hy35_t11⟩) (by assumption) ?rest35_t11
  case hy35_t11 => (intro W_ hS_; (try dsimp only at hS_); go_simp; (try (with_reducible rfl)))
  try simp only [Act.put, List.setIfInBounds_toArray, List.set_cons_zero, List.set_cons_succ]
  refine wpAnyH_take' (i := 36) (v := undef) 88 rfl rfl (by kernel_rfl) (by kernel_rfl) (by kernel_rfl) (fun _ _ _ h => h) (Or.inr ⟨by kernel_rfl, rfl⟩) (by assumption) ?_
  try simp only [Act.put, List.setIfInBounds_toArray, List.set_cons_zero, List.set_cons_succ]
  refine wpAnyH_take' (i := 37) (v := undef) 89 rfl rfl (by kernel_rfl) (by kernel_rfl) (by kernel_rfl) (fun _ _ _ h => h) (Or.inr ⟨by kernel_rfl, rfl⟩) (by assumption) ?_
  try simp only [Act.put, List.setIfInBounds_toArray, List.set_cons_zero, List.set_cons_succ]
  refine wpAnyH_take' (i := 38) (v := undef) 90 rfl rfl (by kernel_rfl) (by kernel_rfl) (by kernel_rfl) (fun _ _ _ h => h) (Or.inr ⟨by kernel_rfl, rfl⟩) (by assumption) ?_
  try simp only [Act.put, List.setIfInBounds_toArray, List.set_cons_zero, List.set_cons_succ]
  refine wpAnyH_take' (i := 39) (v := undef) 91 rfl rfl (by kernel_rfl) (by kernel_rfl) (by kernel_rfl) (fun _ _ _ h => h) (Or.inr ⟨by kernel_rfl, rfl⟩) (by assumption) ?_
  try simp only [Act.put, List.setIfInBounds_toArray, List.set_cons_zero, List.set_cons_succ]
  refine wpAnyH_take' (i := 40) (v := undef) 92 rfl rfl (by kernel_rfl) (by kernel_rfl) (by kernel_rfl) (fun _ _ _ h => h) (Or.inr ⟨by kernel_rfl, rfl⟩) (by assumption) ?_
  try simp only [Act.put, List.setIfInBounds_toArray, List.set_cons_zero, List.set_cons_succ]
  refine wpAnyH_take' (i := 41) (v := ?v41_t11) 93 rfl rfl (by kernel_rfl) (by kernel_rfl) (by kernel_rfl) (fun _ _ _ h => h) (Or.inl ⟨by kernel_rfl, ?hy41_t11⟩) (by assumption) ?rest41_t11
  case hy41_t11 => (intro W_ hS_; (try dsimp only at hS_); go_simp; (try (with_reducible rfl)))
  try simp only [Act.put, List.setIfInBounds_toArray, List.set_cons_zero, List.set_cons_succ]
  refine wpAnyH_take' (i := 42) (v := ?v42_t11) 94 rfl rfl (by kernel_rfl) (by kernel_rfl) (by kernel_rfl) (fun _ _ _ h => h) (Or.inl ⟨by kernel_rfl, ?hy42_t11⟩) (by assumption) ?rest42_t11
  case hy42_t11 => (intro W_ hS_; (try dsimp only at hS_); go_simp; (try (with_reducible rfl)))
  try simp only [Act.put, List.setIfInBounds_toArray, List.set_cons_zero, List.set_cons_succ]
  refine wpAnyH_take' (i := 43) (v := ?v43_t11) 95 rfl rfl (by kernel_rfl) (by kernel_rfl) (by kernel_rfl) (fun _ _ _ h => h) (Or.inl ⟨by kernel_rfl, ?hy43_t11⟩) (by assumption) ?rest43_t11
  case hy43_t11 => (intro W_ hS_; (try dsimp only at hS_); go_simp; (try (with_reducible rfl)))
  try simp only [Act.put, List.setIfInBounds_toArray, List.set_cons_zero, List.set_cons_succ]
  refine wpAnyH_take' (i := 44) (v := ?v44_t11) 6 rfl rfl (by kernel_rfl) (by kernel_rfl) (by kernel_rfl) (fun _ _ _ h => h) (Or.inl ⟨by kernel_rfl, ?hy44_t11⟩) (by assumption) ?rest44_t11
  case hy44_t11 => (intro W_ hS_; (try dsimp only at hS_); go_simp; (try (with_reducible rfl)))
  try simp only [Act.put, List.setIfInBounds_toArray, List.set_cons_zero, List.set_cons_succ]
  refine wpAnyH_done (by kernel_rfl) ?_ _
  go_wp2_with fail
  go_ret
  exact ⟨rfl, below_then hT5 (below_then (below_then (below_then (below_then (below_then (below_drew1 _) hBr4) hBr7) hBr15) hBr23) hBr29)⟩

set_option maxRecDepth 100000 in
set_option maxHeartbeats 2000000 in
theorem filterData_true_true (f : FL) (xi : Int) (xr : Bool) (xn : Int) (xa : Option Addr) (xm xc : Nat) (hxM : xm ≤ maxLen) (yi : Int) (yr : Bool) (yn : Int) (ya : Option Addr) (ym yc : Nat) (hyM : ym ≤ maxLen) (w : World) :
    Calls Try.prog 8 #[f.v, .agg #[.bool true, .int .i64 xi, .bool xr, .int .i64 xn, .slice xa xm xc], .agg #[.bool true, .int .i64 yi, .bool yr, .int .i64 yn, .slice ya ym yc]] w fun e w' => e = .returned (.bool true) ∧ Below w.heap.size w w' := by
  unfold maxLen at hxM hyM
  go_enter Try.func8, Try.ntmps8
  go_wp2_with fail
  obtain ⟨w0, hw0⟩ : ∃ w0, (((w.alloc (.cells #[.bool f.x, .int .i64 f.k, .int .i64 f.m] 23)).alloc (.cells #[.bool true, .int .i64 xi, .bool xr, .int .i64 xn, .slice xa xm xc] 27)).alloc (.cells #[.bool true, .int .i64 yi, .bool yr, .int .i64 yn, .slice ya ym yc] 27)) = w0 := ⟨_, rfl⟩
  have hT0 : Below w.heap.size w w0 := by rw [← hw0]; exact below_then (below_two _ _ _) (below_alloc1 _ _)
  have hf0 : HasL w0 w.heap.size ⟨f.x, f.k, f.m⟩ := by rw [← hw0]; exact block_below (below_alloc1 _ _) (blk1 _ _ _)
  have hx0 : HasF w0 (w.heap.size + 1) ⟨true, xi, xr, xn, xa, xm, xc⟩ := by rw [← hw0]; exact block_below (below_alloc1 _ _) (blk2 _ _ _)
  have hy0 : HasF w0 (w.heap.size + 2) ⟨true, yi, yr, yn, ya, ym, yc⟩ := by rw [← hw0]; exact blk3 _ _ _ _
  rw [hw0]
  clear hw0
  refine (head7_any w0).mono ?_
  rintro e w1 ⟨rfl, hB1⟩
  have hT1 := below_then hT0 hB1
  have hf1 := block_below hB1 hf0
  have hx1 := block_below hB1 hx0
  have hy1 := block_below hB1 hy0
  clear hT0 hf0 hx0 hy0  hB1
  obtain ⟨fc0, fc1, fc2⟩ := cells3' hf1
  obtain ⟨xc0, xc1, xc2, xc3, xc4⟩ := cells5' hx1
  obtain ⟨yc0, yc1, yc2, yc3, yc4⟩ := cells5' hy1
  go_wp2_with fail
  clear fc0 fc1 fc2 xc0 xc1 xc2 xc3 xc4 yc0 yc1 yc2 yc3 yc4
  obtain ⟨qf, hqf⟩ : ∃ q, refRightP f = q := ⟨_, rfl⟩
  have Hqf := Lib.hid hqf
  clear hqf
  cases qf
  · skip
    refine (refRight_q f w1 false Hqf.out).mono ?_
    rintro e w2 ⟨rfl, hB2⟩
    have hT2 := below_then hT1 hB2
    have hf2 := block_below hB2 hf1
    have hx2 := block_below hB2 hx1
    have hy2 := block_below hB2 hy1
    clear hT1 hf1 hx1 hy1  hB2
    obtain ⟨fc0, fc1, fc2⟩ := cells3' hf2
    obtain ⟨xc0, xc1, xc2, xc3, xc4⟩ := cells5' hx2
    obtain ⟨yc0, yc1, yc2, yc3, yc4⟩ := cells5' hy2
    go_wp2_with fail
    go_ret
    exact ⟨rfl, hT2⟩
  refine (refRight_q f w1 true Hqf.out).mono ?_
  rintro e w2 ⟨rfl, hB2⟩
  have hT2 := below_then hT1 hB2
  have hf2 := block_below hB2 hf1
  have hx2 := block_below hB2 hx1
  have hy2 := block_below hB2 hy1
  clear hT1 hf1 hx1 hy1  hB2
  rcases dec (100 < xm) with ⟨dx, gx⟩ | ⟨dx, gx⟩
  · skip
    have dx' : decide ((100 : Int) < (xm : Int)) = true := by simp; omega
    obtain ⟨fc0, fc1, fc2⟩ := cells3' hf2
    obtain ⟨xc0, xc1, xc2, xc3, xc4⟩ := cells5' hx2
    obtain ⟨yc0, yc1, yc2, yc3, yc4⟩ := cells5' hy2
    go_wp2_with fail
    go_ret
    exact ⟨rfl, hT2⟩
  have dx' : decide ((100 : Int) < (xm : Int)) = false := by simp; omega
  rcases dec (100 < ym) with ⟨dy, gy⟩ | ⟨dy, gy⟩
  · skip
    have dy' : decide ((100 : Int) < (ym : Int)) = true := by simp; omega
    obtain ⟨fc0, fc1, fc2⟩ := cells3' hf2
    obtain ⟨xc0, xc1, xc2, xc3, xc4⟩ := cells5' hx2
    obtain ⟨yc0, yc1, yc2, yc3, yc4⟩ := cells5' hy2
    go_wp2_with fail
    go_ret
    exact ⟨rfl, hT2⟩
  have dy' : decide ((100 : Int) < (ym : Int)) = false := by simp; omega
  clear gx gy hxM hyM
  obtain ⟨fc0, fc1, fc2⟩ := cells3' hf2
  obtain ⟨xc0, xc1, xc2, xc3, xc4⟩ := cells5' hx2
  obtain ⟨yc0, yc1, yc2, yc3, yc4⟩ := cells5' hy2
  go_wp2_with fail
  clear fc0 fc1 fc2 xc0 xc1 xc2 xc3 xc4 yc0 yc1 yc2 yc3 yc4
  obtain ⟨qx, hqx⟩ : ∃ q, frRightP ⟨true, xi, xr, xn, xa, xm, xc⟩ = q := ⟨_, rfl⟩
  have Hqx := Lib.hid hqx
  clear hqx
  cases qx
  · skip
    refine (frRight_q ⟨true, xi, xr, xn, xa, xm, xc⟩ w2 false Hqx.out).mono ?_
    rintro e w3 ⟨rfl, hB3⟩
    have hT3 := below_then hT2 hB3
    have hf3 := block_below hB3 hf2
    have hx3 := block_below hB3 hx2
    have hy3 := block_below hB3 hy2
    clear hT2 hf2 hx2 hy2  hB3
    obtain ⟨fc0, fc1, fc2⟩ := cells3' hf3
    obtain ⟨xc0, xc1, xc2, xc3, xc4⟩ := cells5' hx3
    obtain ⟨yc0, yc1, yc2, yc3, yc4⟩ := cells5' hy3
    go_wp2_with fail
    go_ret
    exact ⟨rfl, hT3⟩
  refine (frRight_q ⟨true, xi, xr, xn, xa, xm, xc⟩ w2 true Hqx.out).mono ?_
  rintro e w3 ⟨rfl, hB3⟩
  have hT3 := below_then hT2 hB3
  have hf3 := block_below hB3 hf2
  have hx3 := block_below hB3 hx2
  have hy3 := block_below hB3 hy2
  clear hT2 hf2 hx2 hy2  hB3
  obtain ⟨fc0, fc1, fc2⟩ := cells3' hf3
  obtain ⟨xc0, xc1, xc2, xc3, xc4⟩ := cells5' hx3
  obtain ⟨yc0, yc1, yc2, yc3, yc4⟩ := cells5' hy3
  go_wp2_with fail
  clear fc0 fc1 fc2 xc0 xc1 xc2 xc3 xc4 yc0 yc1 yc2 yc3 yc4
  obtain ⟨qy, hqy⟩ : ∃ q, frRightP ⟨true, yi, yr, yn, ya, ym, yc⟩ = q := ⟨_, rfl⟩
  have Hqy := Lib.hid hqy
  clear hqy
  cases qy
  · skip
    refine (frRight_q ⟨true, yi, yr, yn, ya, ym, yc⟩ w3 false Hqy.out).mono ?_
    rintro e w4 ⟨rfl, hB4⟩
    have hT4 := below_then hT3 hB4
    have hf4 := block_below hB4 hf3
    have hx4 := block_below hB4 hx3
    have hy4 := block_below hB4 hy3
    clear hT3 hf3 hx3 hy3  hB4
    obtain ⟨fc0, fc1, fc2⟩ := cells3' hf4
    obtain ⟨xc0, xc1, xc2, xc3, xc4⟩ := cells5' hx4
    obtain ⟨yc0, yc1, yc2, yc3, yc4⟩ := cells5' hy4
    go_wp2_with fail
    go_ret
    exact ⟨rfl, hT4⟩
  refine (frRight_q ⟨true, yi, yr, yn, ya, ym, yc⟩ w3 true Hqy.out).mono ?_
  rintro e w4 ⟨rfl, hB4⟩
  have hT4 := below_then hT3 hB4
  have hf4 := block_below hB4 hf3
  have hx4 := block_below hB4 hx3
  have hy4 := block_below hB4 hy3
  clear hT3 hf3 hx3 hy3  hB4
  clear dx dx' dy dy'
  obtain ⟨I, hI, lI, mI⟩ := frRight_id Hqx.out
  obtain ⟨J, hJ, lJ, mJ⟩ := frRight_id Hqy.out
  dsimp only at hI hJ lJ
  subst hI hJ
  clear lI
  have htw := takes_whole (x := true) (y := true) (i := I) (j := J) lJ
  rw [show ((allN true : Nat) : Int) = 536870911 from by decide] at htw
  obtain ⟨t, ht⟩ : ∃ t, ((J : Int) == (I : Int)) = t := ⟨_, rfl⟩
  have htw2 : takesV ⟨true, 536870911, (I : Int)⟩ true (J : Int) = t := by rw [htw, ht]; rfl
  have hd2 : (J == I) = t := by rw [← ht, Bool.eq_iff_iff]; simp only [beq_iff_eq]; omega
  have hd3 : decide (J = I) = t := by rw [← ht, Bool.eq_iff_iff]; simp only [beq_iff_eq, decide_eq_true_eq]; omega
  have hd4 : decide ((J : Int) = (I : Int)) = t := by rw [← ht, Bool.eq_iff_iff]; simp only [beq_iff_eq, decide_eq_true_eq]
  have htn := takes_none (x := true) (i := I) (by omega)
  have HW := Lib.hid htw2
  have HN := Lib.hid htn
  clear htw htw2 htn lJ
  obtain ⟨q, hq⟩ : ∃ q, takesV f true (I : Int) = q := ⟨_, rfl⟩
  have Hq := Lib.hid hq
  clear hq
  obtain ⟨fc0, fc1, fc2⟩ := cells3' hf4
  obtain ⟨xc0, xc1, xc2, xc3, xc4⟩ := cells5' hx4
  obtain ⟨yc0, yc1, yc2, yc3, yc4⟩ := cells5' hy4
  have hlf := (Array.getElem?_eq_some_iff.1 hf4).1
  have hlx := (Array.getElem?_eq_some_iff.1 hx4).1
  have hly := (Array.getElem?_eq_some_iff.1 hy4).1
  go_wp2_with fail
  clear fc0 fc1 fc2 xc0 xc1 xc2 xc3 xc4 yc0 yc1 yc2 yc3 yc4 hlf hlx hly
  obtain ⟨w5, hw5⟩ : ∃ w5, ((w4.alloc (.cells #[.bool true, .int .i64 (I : Int), .bool yr, .int .i64 yn, .slice ya ym yc] 27)).alloc (.cells #[.bool true, .int .i64 536870911, .int .i64 (I : Int)] 23)) = w5 := ⟨_, rfl⟩
  have hB5 : Below w4.heap.size w4 w5 := by rw [← hw5]; exact below_two _ _ _
  have hz5 : HasF w5 w4.heap.size ⟨true, (I : Int), yr, yn, ya, ym, yc⟩ := by rw [← hw5]; exact blk1 _ _ _
  have hv5 : HasL w5 (w4.heap.size + 1) ⟨true, 536870911, (I : Int)⟩ := by rw [← hw5]; exact blk2 _ _ _
  rw [hw5]
  clear hw5
  have hT5 := below_then hT4 hB5
  have hf5 := block_below hB5 hf4
  have hx5 := block_below hB5 hx4
  have hy5 := block_below hB5 hy4
  clear hT4 hf4 hx4 hy4  hB5
  refine wp_region_held_drew (S := fun W => (W.cell? ⟨w.heap.size, 0, none⟩ = some (.bool f.x) ∧ W.cell? ⟨w.heap.size, 1, none⟩ = some (.int .i64 f.k) ∧ W.cell? ⟨w.heap.size, 2, none⟩ = some (.int .i64 f.m)) ∧ (W.cell? ⟨(w.heap.size + 1), 0, none⟩ = some (.bool true) ∧ W.cell? ⟨(w.heap.size + 1), 1, none⟩ = some (.int .i64 (I : Int)) ∧ W.cell? ⟨(w.heap.size + 1), 2, none⟩ = some (.bool xr) ∧ W.cell? ⟨(w.heap.size + 1), 3, none⟩ = some (.int .i64 xn) ∧ W.cell? ⟨(w.heap.size + 1), 4, none⟩ = some (.slice xa xm xc)) ∧ (W.cell? ⟨(w.heap.size + 2), 0, none⟩ = some (.bool true) ∧ W.cell? ⟨(w.heap.size + 2), 1, none⟩ = some (.int .i64 (J : Int)) ∧ W.cell? ⟨(w.heap.size + 2), 2, none⟩ = some (.bool yr) ∧ W.cell? ⟨(w.heap.size + 2), 3, none⟩ = some (.int .i64 yn) ∧ W.cell? ⟨(w.heap.size + 2), 4, none⟩ = some (.slice ya ym yc)) ∧ (W.cell? ⟨w4.heap.size, 0, none⟩ = some (.bool true) ∧ W.cell? ⟨w4.heap.size, 1, none⟩ = some (.int .i64 (I : Int)) ∧ W.cell? ⟨w4.heap.size, 2, none⟩ = some (.bool yr) ∧ W.cell? ⟨w4.heap.size, 3, none⟩ = some (.int .i64 yn) ∧ W.cell? ⟨w4.heap.size, 4, none⟩ = some (.slice ya ym yc)) ∧ (W.cell? ⟨(w4.heap.size + 1), 0, none⟩ = some (.bool true) ∧ W.cell? ⟨(w4.heap.size + 1), 1, none⟩ = some (.int .i64 536870911) ∧ W.cell? ⟨(w4.heap.size + 1), 2, none⟩ = some (.int .i64 (I : Int)))) (by kernel_rfl) (by exact ⟨HasL.cl (f := ⟨f.x, f.k, f.m⟩) (block_below (below_drew1 _) hf5), HasF.cf (f := ⟨true, (I : Int), xr, xn, xa, xm, xc⟩) (block_below (below_drew1 _) hx5), HasF.cf (f := ⟨true, (J : Int), yr, yn, ya, ym, yc⟩) (block_below (below_drew1 _) hy5), HasF.cf (f := ⟨true, (I : Int), yr, yn, ya, ym, yc⟩) (block_below (below_drew1 _) hz5), HasL.cl (f := ⟨true, 536870911, (I : Int)⟩) (block_below (below_drew1 _) hv5)⟩) (fun hHeld_ => ?_)
  refine wpAnyH_take' (i := 0) (v := ?v0_t12) 52 rfl rfl (by kernel_rfl) (by kernel_rfl) (by kernel_rfl) (fun _ _ _ h => h) (Or.inl ⟨by kernel_rfl, ?hy0_t12⟩) (by assumption) ?rest0_t12
  case hy0_t12 => (intro W_ hS_; (try dsimp only at hS_); go_simp; (try (with_reducible rfl)))
  try simp only [Act.put, List.setIfInBounds_toArray, List.set_cons_zero, List.set_cons_succ]
  refine wpAnyH_take' (i := 1) (v := ?v1_t12) 53 rfl rfl (by kernel_rfl) (by kernel_rfl) (by kernel_rfl) (fun _ _ _ h => h) (Or.inl ⟨by kernel_rfl, ?hy1_t12⟩) (by assumption) ?rest1_t12
  case hy1_t12 => (intro W_ hS_; (try dsimp only at hS_); go_simp; (try (with_reducible rfl)))
  try simp only [Act.put, List.setIfInBounds_toArray, List.set_cons_zero, List.set_cons_succ]
  refine wpAnyH_take' (i := 2) (v := ?v2_t12) 54 rfl rfl (by kernel_rfl) (by kernel_rfl) (by kernel_rfl) (fun _ _ _ h => h) (Or.inl ⟨by kernel_rfl, ?hy2_t12⟩) (by assumption) ?rest2_t12
  case hy2_t12 => (intro W_ hS_; (try dsimp only at hS_); go_simp; (try (with_reducible rfl)))
  try simp only [Act.put, List.setIfInBounds_toArray, List.set_cons_zero, List.set_cons_succ]
  refine wpAnyH_take' (i := 3) (v := ?v3_t12) 55 rfl rfl (by kernel_rfl) (by kernel_rfl) (by kernel_rfl) (fun _ _ _ h => h) (Or.inl ⟨by kernel_rfl, ?hy3_t12⟩) (by assumption) ?rest3_t12
  case hy3_t12 => (intro W_ hS_; (try dsimp only at hS_); go_simp; (try (with_reducible rfl)))
  try simp only [Act.put, List.setIfInBounds_toArray, List.set_cons_zero, List.set_cons_succ]
  refine wpAnyH_take' (i := 5) (v := ?v5_t12) 57 rfl rfl (by kernel_rfl) (by kernel_rfl) (by kernel_rfl) (fun _ _ _ h => h) (Or.inl ⟨by kernel_rfl, ?hy5_t12⟩) (by assumption) ?rest5_t12
  case hy5_t12 => (intro W_ hS_; (try dsimp only at hS_); go_simp; (try (with_reducible rfl)))
  try simp only [Act.put, List.setIfInBounds_toArray, List.set_cons_zero, List.set_cons_succ]
  refine wpAnyH_take' (i := 6) (v := ?v6_t12) 58 rfl rfl (by kernel_rfl) (by kernel_rfl) (by kernel_rfl) (fun _ _ _ h => h) (Or.inl ⟨by kernel_rfl, ?hy6_t12⟩) (by assumption) ?rest6_t12
  case hy6_t12 => (intro W_ hS_; (try dsimp only at hS_); go_simp; (try (with_reducible rfl)))
  try simp only [Act.put, List.setIfInBounds_toArray, List.set_cons_zero, List.set_cons_succ]
  refine wpAnyH_ready (rs := [4]) (by kernel_rfl) (by simp) ?_
  refine AllReadyH.cons rfl (fun K_ hK_ => ?_) AllReadyH.nil
  go_simp
  refine (takes_q f ⟨true, (I : Int), xr, xn, xa, xm, xc⟩ _ q Hq.out).mono ?_; rintro e wr4 ⟨rfl, hBr4⟩
  go_wp2_with fail
  refine hK_.out _ _ (by exact ⟨HasL.cl (f := ⟨f.x, f.k, f.m⟩) (block_below hBr4 (block_below (below_drew1 _) hf5)), HasF.cf (f := ⟨true, (I : Int), xr, xn, xa, xm, xc⟩) (block_below hBr4 (block_below (below_drew1 _) hx5)), HasF.cf (f := ⟨true, (J : Int), yr, yn, ya, ym, yc⟩) (block_below hBr4 (block_below (below_drew1 _) hy5)), HasF.cf (f := ⟨true, (I : Int), yr, yn, ya, ym, yc⟩) (block_below hBr4 (block_below (below_drew1 _) hz5)), HasL.cl (f := ⟨true, 536870911, (I : Int)⟩) (block_below hBr4 (block_below (below_drew1 _) hv5))⟩) (fun hHeld_4 => ?_)
  clear hK_
  try simp only [Act.put, List.setIfInBounds_toArray, List.set_cons_zero, List.set_cons_succ]
  refine wpAnyH_ready (rs := [7]) (by kernel_rfl) (by simp) ?_
  refine AllReadyH.cons rfl (fun K_ hK_ => ?_) AllReadyH.nil
  go_simp
  refine (takes_q f ⟨true, (I : Int), yr, yn, ya, ym, yc⟩ _ q Hq.out).mono ?_; rintro e wr7 ⟨rfl, hBr7⟩
  go_wp2_with fail
  refine hK_.out _ _ (by exact ⟨HasL.cl (f := ⟨f.x, f.k, f.m⟩) (block_below hBr7 (block_below hBr4 (block_below (below_drew1 _) hf5))), HasF.cf (f := ⟨true, (I : Int), xr, xn, xa, xm, xc⟩) (block_below hBr7 (block_below hBr4 (block_below (below_drew1 _) hx5))), HasF.cf (f := ⟨true, (J : Int), yr, yn, ya, ym, yc⟩) (block_below hBr7 (block_below hBr4 (block_below (below_drew1 _) hy5))), HasF.cf (f := ⟨true, (I : Int), yr, yn, ya, ym, yc⟩) (block_below hBr7 (block_below hBr4 (block_below (below_drew1 _) hz5))), HasL.cl (f := ⟨true, 536870911, (I : Int)⟩) (block_below hBr7 (block_below hBr4 (block_below (below_drew1 _) hv5)))⟩) (fun hHeld_7 => ?_)
  clear hK_
  try simp only [Act.put, List.setIfInBounds_toArray, List.set_cons_zero, List.set_cons_succ]
  refine wpAnyH_take' (i := 8) (v := ?v8_t12) 60 rfl rfl (by kernel_rfl) (by kernel_rfl) (by kernel_rfl) (fun _ _ _ h => h) (Or.inl ⟨by kernel_rfl, ?hy8_t12⟩) (by assumption) ?rest8_t12
  case hy8_t12 => (intro W_ hS_; (try dsimp only at hS_); go_simp; (try (with_reducible rfl)))
  try simp only [Act.put, List.setIfInBounds_toArray, List.set_cons_zero, List.set_cons_succ]
  refine wpAnyH_take' (i := 9) (v := ?v9_t12) 61 rfl rfl (by kernel_rfl) (by kernel_rfl) (by kernel_rfl) (fun _ _ _ h => h) (Or.inl ⟨by kernel_rfl, ?hy9_t12⟩) (by assumption) ?rest9_t12
  case hy9_t12 => (intro W_ hS_; (try dsimp only at hS_); go_simp; (try (with_reducible rfl)))
  try simp only [Act.put, List.setIfInBounds_toArray, List.set_cons_zero, List.set_cons_succ]
  refine wpAnyH_take' (i := 10) (v := ?v10_t12) 62 rfl rfl (by kernel_rfl) (by kernel_rfl) (by kernel_rfl) (fun _ _ _ h => h) (Or.inl ⟨by kernel_rfl, ?hy10_t12⟩) (by assumption) ?rest10_t12
  case hy10_t12 => (intro W_ hS_; (try dsimp only at hS_); go_simp; (try (with_reducible rfl)))
  try simp only [Act.put, List.setIfInBounds_toArray, List.set_cons_zero, List.set_cons_succ]
  refine wpAnyH_take' (i := 11) (v := ?v11_t12) 63 rfl rfl (by kernel_rfl) (by kernel_rfl) (by kernel_rfl) (fun _ _ _ h => h) (Or.inl ⟨by kernel_rfl, ?hy11_t12⟩) (by assumption) ?rest11_t12
  case hy11_t12 => (intro W_ hS_; (try dsimp only at hS_); go_simp; (try (with_reducible rfl)))
  try simp only [Act.put, List.setIfInBounds_toArray, List.set_cons_zero, List.set_cons_succ]
  refine wpAnyH_take' (i := 12) (v := ?v12_t12) 64 rfl rfl (by kernel_rfl) (by kernel_rfl) (by kernel_rfl) (fun _ _ _ h => h) (Or.inl ⟨by kernel_rfl, ?hy12_t12⟩) (by assumption) ?rest12_t12
  case hy12_t12 => (intro W_ hS_; (try dsimp only at hS_); go_simp; (try (with_reducible rfl)))
  try simp only [Act.put, List.setIfInBounds_toArray, List.set_cons_zero, List.set_cons_succ]
  refine wpAnyH_take' (i := 13) (v := ?v13_t12) 65 rfl rfl (by kernel_rfl) (by kernel_rfl) (by kernel_rfl) (fun _ _ _ h => h) (Or.inl ⟨by kernel_rfl, ?hy13_t12⟩) (by assumption) ?rest13_t12
  case hy13_t12 => (intro W_ hS_; (try dsimp only at hS_); go_simp; (try (with_reducible rfl)))
  try simp only [Act.put, List.setIfInBounds_toArray, List.set_cons_zero, List.set_cons_succ]
  refine wpAnyH_take' (i := 14) (v := ?v14_t12) 66 rfl rfl (by kernel_rfl) (by kernel_rfl) (by kernel_rfl) (fun _ _ _ h => h) (Or.inl ⟨by kernel_rfl, ?hy14_t12⟩) (by assumption) ?rest14_t12
  case hy14_t12 => (intro W_ hS_; (try dsimp only at hS_); go_simp; (try (with_reducible rfl)))
  try simp only [Act.put, List.setIfInBounds_toArray, List.set_cons_zero, List.set_cons_succ]
  refine wpAnyH_ready (rs := [15]) (by kernel_rfl) (by simp) ?_
  refine AllReadyH.cons rfl (fun K_ hK_ => ?_) AllReadyH.nil
  go_simp
  refine (takes_q ⟨true, 0, 0⟩ ⟨true, (I : Int), xr, xn, xa, xm, xc⟩ _ true HN.out.1).mono ?_; rintro e wr15 ⟨rfl, hBr15⟩
  go_wp2_with fail
  refine hK_.out _ _ (by exact ⟨HasL.cl (f := ⟨f.x, f.k, f.m⟩) (block_below hBr15 (block_below hBr7 (block_below hBr4 (block_below (below_drew1 _) hf5)))), HasF.cf (f := ⟨true, (I : Int), xr, xn, xa, xm, xc⟩) (block_below hBr15 (block_below hBr7 (block_below hBr4 (block_below (below_drew1 _) hx5)))), HasF.cf (f := ⟨true, (J : Int), yr, yn, ya, ym, yc⟩) (block_below hBr15 (block_below hBr7 (block_below hBr4 (block_below (below_drew1 _) hy5)))), HasF.cf (f := ⟨true, (I : Int), yr, yn, ya, ym, yc⟩) (block_below hBr15 (block_below hBr7 (block_below hBr4 (block_below (below_drew1 _) hz5)))), HasL.cl (f := ⟨true, 536870911, (I : Int)⟩) (block_below hBr15 (block_below hBr7 (block_below hBr4 (block_below (below_drew1 _) hv5))))⟩) (fun hHeld_15 => ?_)
  clear hK_
  try simp only [Act.put, List.setIfInBounds_toArray, List.set_cons_zero, List.set_cons_succ]
  refine wpAnyH_take' (i := 16) (v := ?v16_t12) 68 rfl rfl (by kernel_rfl) (by kernel_rfl) (by kernel_rfl) (fun _ _ _ h => h) (Or.inl ⟨by kernel_rfl, ?hy16_t12⟩) (by assumption) ?rest16_t12
  case hy16_t12 => (intro W_ hS_; (try dsimp only at hS_); go_simp; (try (with_reducible rfl)))
  try simp only [Act.put, List.setIfInBounds_toArray, List.set_cons_zero, List.set_cons_succ]
  refine wpAnyH_take' (i := 17) (v := ?v17_t12) 69 rfl rfl (by kernel_rfl) (by kernel_rfl) (by kernel_rfl) (fun _ _ _ h => h) (Or.inl ⟨by kernel_rfl, ?hy17_t12⟩) (by assumption) ?rest17_t12
  case hy17_t12 => (intro W_ hS_; (try dsimp only at hS_); go_simp; (try (with_reducible rfl)))
  try simp only [Act.put, List.setIfInBounds_toArray, List.set_cons_zero, List.set_cons_succ]
  refine wpAnyH_take' (i := 18) (v := ?v18_t12) 70 rfl rfl (by kernel_rfl) (by kernel_rfl) (by kernel_rfl) (fun _ _ _ h => h) (Or.inl ⟨by kernel_rfl, ?hy18_t12⟩) (by assumption) ?rest18_t12
  case hy18_t12 => (intro W_ hS_; (try dsimp only at hS_); go_simp; (try (with_reducible rfl)))
  try simp only [Act.put, List.setIfInBounds_toArray, List.set_cons_zero, List.set_cons_succ]
  refine wpAnyH_take' (i := 19) (v := ?v19_t12) 71 rfl rfl (by kernel_rfl) (by kernel_rfl) (by kernel_rfl) (fun _ _ _ h => h) (Or.inl ⟨by kernel_rfl, ?hy19_t12⟩) (by assumption) ?rest19_t12
  case hy19_t12 => (intro W_ hS_; (try dsimp only at hS_); go_simp; (try (with_reducible rfl)))
  try simp only [Act.put, List.setIfInBounds_toArray, List.set_cons_zero, List.set_cons_succ]
  refine wpAnyH_take' (i := 20) (v := ?v20_t12) 72 rfl rfl (by kernel_rfl) (by kernel_rfl) (by kernel_rfl) (fun _ _ _ h => h) (Or.inl ⟨by kernel_rfl, ?hy20_t12⟩) (by assumption) ?rest20_t12
  case hy20_t12 => (intro W_ hS_; (try dsimp only at hS_); go_simp; (try (with_reducible rfl)))
  try simp only [Act.put, List.setIfInBounds_toArray, List.set_cons_zero, List.set_cons_succ]
  refine wpAnyH_take' (i := 21) (v := ?v21_t12) 73 rfl rfl (by kernel_rfl) (by kernel_rfl) (by kernel_rfl) (fun _ _ _ h => h) (Or.inl ⟨by kernel_rfl, ?hy21_t12⟩) (by assumption) ?rest21_t12
  case hy21_t12 => (intro W_ hS_; (try dsimp only at hS_); go_simp; (try (with_reducible rfl)))
  try simp only [Act.put, List.setIfInBounds_toArray, List.set_cons_zero, List.set_cons_succ]
  refine wpAnyH_take' (i := 22) (v := ?v22_t12) 74 rfl rfl (by kernel_rfl) (by kernel_rfl) (by kernel_rfl) (fun _ _ _ h => h) (Or.inl ⟨by kernel_rfl, ?hy22_t12⟩) (by assumption) ?rest22_t12
  case hy22_t12 => (intro W_ hS_; (try dsimp only at hS_); go_simp; (try (with_reducible rfl)))
  try simp only [Act.put, List.setIfInBounds_toArray, List.set_cons_zero, List.set_cons_succ]
  refine wpAnyH_ready (rs := [23]) (by kernel_rfl) (by simp) ?_
  refine AllReadyH.cons rfl (fun K_ hK_ => ?_) AllReadyH.nil
  go_simp
  refine (takes_q ⟨false, 0, 0⟩ ⟨true, (I : Int), xr, xn, xa, xm, xc⟩ _ false HN.out.2).mono ?_; rintro e wr23 ⟨rfl, hBr23⟩
  go_wp2_with fail
  refine hK_.out _ _ (by exact ⟨HasL.cl (f := ⟨f.x, f.k, f.m⟩) (block_below hBr23 (block_below hBr15 (block_below hBr7 (block_below hBr4 (block_below (below_drew1 _) hf5))))), HasF.cf (f := ⟨true, (I : Int), xr, xn, xa, xm, xc⟩) (block_below hBr23 (block_below hBr15 (block_below hBr7 (block_below hBr4 (block_below (below_drew1 _) hx5))))), HasF.cf (f := ⟨true, (J : Int), yr, yn, ya, ym, yc⟩) (block_below hBr23 (block_below hBr15 (block_below hBr7 (block_below hBr4 (block_below (below_drew1 _) hy5))))), HasF.cf (f := ⟨true, (I : Int), yr, yn, ya, ym, yc⟩) (block_below hBr23 (block_below hBr15 (block_below hBr7 (block_below hBr4 (block_below (below_drew1 _) hz5))))), HasL.cl (f := ⟨true, 536870911, (I : Int)⟩) (block_below hBr23 (block_below hBr15 (block_below hBr7 (block_below hBr4 (block_below (below_drew1 _) hv5)))))⟩) (fun hHeld_23 => ?_)
  clear hK_
  try simp only [Act.put, List.setIfInBounds_toArray, List.set_cons_zero, List.set_cons_succ]
  refine wpAnyH_take' (i := 24) (v := ?v24_t12) 76 rfl rfl (by kernel_rfl) (by kernel_rfl) (by kernel_rfl) (fun _ _ _ h => h) (Or.inl ⟨by kernel_rfl, ?hy24_t12⟩) (by assumption) ?rest24_t12
  case hy24_t12 => (intro W_ hS_; (try dsimp only at hS_); go_simp; (try (with_reducible rfl)))
  try simp only [Act.put, List.setIfInBounds_toArray, List.set_cons_zero, List.set_cons_succ]
  refine wpAnyH_take' (i := 25) (v := ?v25_t12) 77 rfl rfl (by kernel_rfl) (by kernel_rfl) (by kernel_rfl) (fun _ _ _ h => h) (Or.inl ⟨by kernel_rfl, ?hy25_t12⟩) (by assumption) ?rest25_t12
  case hy25_t12 => (intro W_ hS_; (try dsimp only at hS_); go_simp; (try (with_reducible rfl)))
  try simp only [Act.put, List.setIfInBounds_toArray, List.set_cons_zero, List.set_cons_succ]
  refine wpAnyH_take' (i := 26) (v := ?v26_t12) 78 rfl rfl (by kernel_rfl) (by kernel_rfl) (by kernel_rfl) (fun _ _ _ h => h) (Or.inl ⟨by kernel_rfl, ?hy26_t12⟩) (by assumption) ?rest26_t12
  case hy26_t12 => (intro W_ hS_; (try dsimp only at hS_); go_simp; (try (with_reducible rfl)))
  try simp only [Act.put, List.setIfInBounds_toArray, List.set_cons_zero, List.set_cons_succ]
  refine wpAnyH_take' (i := 27) (v := ?v27_t12) 79 rfl rfl (by kernel_rfl) (by kernel_rfl) (by kernel_rfl) (fun _ _ _ h => h) (Or.inl ⟨by kernel_rfl, ?hy27_t12⟩) (by assumption) ?rest27_t12
  case hy27_t12 => (intro W_ hS_; (try dsimp only at hS_); go_simp; (try (with_reducible rfl)))
  try simp only [Act.put, List.setIfInBounds_toArray, List.set_cons_zero, List.set_cons_succ]
  refine wpAnyH_take' (i := 28) (v := ?v28_t12) 80 rfl rfl (by kernel_rfl) (by kernel_rfl) (by kernel_rfl) (fun _ _ _ h => h) (Or.inl ⟨by kernel_rfl, ?hy28_t12⟩) (by assumption) ?rest28_t12
  case hy28_t12 => (intro W_ hS_; (try dsimp only at hS_); go_simp; (try (with_reducible rfl)))
  try simp only [Act.put, List.setIfInBounds_toArray, List.set_cons_zero, List.set_cons_succ]
  refine wpAnyH_take' (i := 30) (v := ?v30_t12) 82 rfl rfl (by kernel_rfl) (by kernel_rfl) (by kernel_rfl) (fun _ _ _ h => h) (Or.inl ⟨by kernel_rfl, ?hy30_t12⟩) (by assumption) ?rest30_t12
  case hy30_t12 => (intro W_ hS_; (try dsimp only at hS_); go_simp; (try (with_reducible rfl)))
  try simp only [Act.put, List.setIfInBounds_toArray, List.set_cons_zero, List.set_cons_succ]
  refine wpAnyH_take' (i := 31) (v := ?v31_t12) 83 rfl rfl (by kernel_rfl) (by kernel_rfl) (by kernel_rfl) (fun _ _ _ h => h) (Or.inl ⟨by kernel_rfl, ?hy31_t12⟩) (by assumption) ?rest31_t12
  case hy31_t12 => (intro W_ hS_; (try dsimp only at hS_); go_simp; (try (with_reducible rfl)))
  try simp only [Act.put, List.setIfInBounds_toArray, List.set_cons_zero, List.set_cons_succ]
  refine wpAnyH_take' (i := 32) (v := ?v32_t12) 84 rfl rfl (by kernel_rfl) (by kernel_rfl) (by kernel_rfl) (fun _ _ _ h => h) (Or.inl ⟨by kernel_rfl, ?hy32_t12⟩) (by assumption) ?rest32_t12
  case hy32_t12 => (intro W_ hS_; (try dsimp only at hS_); go_simp; (try (with_reducible rfl)))
  try simp only [Act.put, List.setIfInBounds_toArray, List.set_cons_zero, List.set_cons_succ]
  refine wpAnyH_take' (i := 33) (v := ?v33_t12) 85 rfl rfl (by kernel_rfl) (by kernel_rfl) (by kernel_rfl) (fun _ _ _ h => h) (Or.inl ⟨by kernel_rfl, ?hy33_t12⟩) (by assumption) ?rest33_t12
  case hy33_t12 => (intro W_ hS_; (try dsimp only at hS_); go_simp; (try (with_reducible rfl)))
  try simp only [Act.put, List.setIfInBounds_toArray, List.set_cons_zero, List.set_cons_succ]
  refine wpAnyH_take' (i := 34) (v := ?v34_t12) 86 rfl rfl (by kernel_rfl) (by kernel_rfl) (by kernel_rfl) (fun _ _ _ h => h) (Or.inl ⟨by kernel_rfl, ?hy34_t12⟩) (by assumption) ?rest34_t12
  case hy34_t12 => (intro W_ hS_; (try dsimp only at hS_); go_simp; (try (with_reducible rfl)))
  try simp only [Act.put, List.setIfInBounds_toArray, List.set_cons_zero, List.set_cons_succ]
  refine wpAnyH_ready (rs := [29]) (by kernel_rfl) (by simp) ?_
  refine AllReadyH.cons rfl (fun K_ hK_ => ?_) AllReadyH.nil
  go_simp
  refine (takes_q ⟨true, 536870911, (I : Int)⟩ ⟨true, (J : Int), yr, yn, ya, ym, yc⟩ _ t HW.out).mono ?_; rintro e wr29 ⟨rfl, hBr29⟩
  go_wp2_with fail
  refine hK_.out _ _ (by exact ⟨HasL.cl (f := ⟨f.x, f.k, f.m⟩) (block_below hBr29 (block_below hBr23 (block_below hBr15 (block_below hBr7 (block_below hBr4 (block_below (below_drew1 _) hf5)))))), HasF.cf (f := ⟨true, (I : Int), xr, xn, xa, xm, xc⟩) (block_below hBr29 (block_below hBr23 (block_below hBr15 (block_below hBr7 (block_below hBr4 (block_below (below_drew1 _) hx5)))))), HasF.cf (f := ⟨true, (J : Int), yr, yn, ya, ym, yc⟩) (block_below hBr29 (block_below hBr23 (block_below hBr15 (block_below hBr7 (block_below hBr4 (block_below (below_drew1 _) hy5)))))), HasF.cf (f := ⟨true, (I : Int), yr, yn, ya, ym, yc⟩) (block_below hBr29 (block_below hBr23 (block_below hBr15 (block_below hBr7 (block_below hBr4 (block_below (below_drew1 _) hz5)))))), HasL.cl (f := ⟨true, 536870911, (I : Int)⟩) (block_below hBr29 (block_below hBr23 (block_below hBr15 (block_below hBr7 (block_below hBr4 (block_below (below_drew1 _) hv5))))))⟩) (fun hHeld_29 => ?_)
  clear hK_
  try simp only [Act.put, List.setIfInBounds_toArray, List.set_cons_zero, List.set_cons_succ]
  refine wpAnyH_take' (i := 35) (v := ?v35_t12) 87 rfl rfl (by kernel_rfl) (by kernel_rfl) (by kernel_rfl) (fun _ _ _ h => h) (Or.inl ⟨by kernel_rfl, ?hy35_t12⟩) (by assumption) ?rest35_t12
  case hy35_t12 => (intro W_ hS_; (try dsimp only at hS_); go_simp; (try (with_reducible rfl)))
  try simp only [Act.put, List.setIfInBounds_toArray, List.set_cons_zero, List.set_cons_succ]
  refine wpAnyH_take' (i := 36) (v := ?v36_t12) 88 rfl rfl (by kernel_rfl) (by kernel_rfl) (by kernel_rfl) (fun _ _ _ h => h) (Or.inl ⟨by kernel_rfl, ?hy36_t12⟩) (by assumption) ?rest36_t12
  case hy36_t12 => (intro W_ hS_; (try dsimp only at hS_); go_simp; (try (with_reducible rfl)))
  try simp only [Act.put, List.setIfInBounds_toArray, List.set_cons_zero, List.set_cons_succ]
  refine wpAnyH_take' (i := 37) (v := ?v37_t12) 89 rfl rfl (by kernel_rfl) (by kernel_rfl) (by kernel_rfl) (fun _ _ _ h => h) (Or.inl ⟨by kernel_rfl, ?hy37_t12⟩) (by assumption) ?rest37_t12
  case hy37_t12 => (intro W_ hS_; (try dsimp only at hS_); go_simp; (try (with_reducible rfl)))
  try simp only [Act.put, List.setIfInBounds_toArray, List.set_cons_zero, List.set_cons_succ]
  refine wpAnyH_take' (i := 38) (v := ?v38_t12) 90 rfl rfl (by kernel_rfl) (by kernel_rfl) (by kernel_rfl) (fun _ _ _ h => h) (Or.inl ⟨by kernel_rfl, ?hy38_t12⟩) (by assumption) ?rest38_t12
  case hy38_t12 => (intro W_ hS_; (try dsimp only at hS_); go_simp; (try (with_reducible rfl)))
  try simp only [Act.put, List.setIfInBounds_toArray, List.set_cons_zero, List.set_cons_succ]
  refine wpAnyH_take' (i := 39) (v := ?v39_t12) 91 rfl rfl (by kernel_rfl) (by kernel_rfl) (by kernel_rfl) (fun _ _ _ h => h) (Or.inl ⟨by kernel_rfl, ?hy39_t12⟩) (by assumption) ?rest39_t12
  case hy39_t12 => (intro W_ hS_; (try dsimp only at hS_); go_simp; (try (with_reducible rfl)))
  try simp only [Act.put, List.setIfInBounds_toArray, List.set_cons_zero, List.set_cons_succ]
  refine wpAnyH_take' (i := 40) (v := ?v40_t12) 92 rfl rfl (by kernel_rfl) (by kernel_rfl) (by kernel_rfl) (fun _ _ _ h => h) (Or.inl ⟨by kernel_rfl, ?hy40_t12⟩) (by assumption) ?rest40_t12
  case hy40_t12 => (intro W_ hS_; (try dsimp only at hS_); go_simp; (try (with_reducible rfl)))
  try simp only [Act.put, List.setIfInBounds_toArray, List.set_cons_zero, List.set_cons_succ]
  refine wpAnyH_take' (i := 41) (v := ?v41_t12) 93 rfl rfl (by kernel_rfl) (by kernel_rfl) (by kernel_rfl) (fun _ _ _ h => h) (Or.inl ⟨by kernel_rfl, ?hy41_t12⟩) (by assumption) ?rest41_t12
  case hy41_t12 => (intro W_ hS_; (try dsimp only at hS_); go_simp; (try (with_reducible rfl)))
  try simp only [Act.put, List.setIfInBounds_toArray, List.set_cons_zero, List.set_cons_succ]
  refine wpAnyH_take' (i := 42) (v := ?v42_t12) 94 rfl rfl (by kernel_rfl) (by kernel_rfl) (by kernel_rfl) (fun _ _ _ h => h) (Or.inl ⟨by kernel_rfl, ?hy42_t12⟩) (by assumption) ?rest42_t12
  case hy42_t12 => (intro W_ hS_; (try dsimp only at hS_); go_simp; (try (with_reducible rfl)))
  try simp only [Act.put, List.setIfInBounds_toArray, List.set_cons_zero, List.set_cons_succ]
  refine wpAnyH_take' (i := 43) (v := ?v43_t12) 95 rfl rfl (by kernel_rfl) (by kernel_rfl) (by kernel_rfl) (fun _ _ _ h => h) (Or.inl ⟨by kernel_rfl, ?hy43_t12⟩) (by assumption) ?rest43_t12
  case hy43_t12 => (intro W_ hS_; (try dsimp only at hS_); go_simp; (try (with_reducible rfl)))
  try simp only [Act.put, List.setIfInBounds_toArray, List.set_cons_zero, List.set_cons_succ]
  refine wpAnyH_take' (i := 44) (v := ?v44_t12) 6 rfl rfl (by kernel_rfl) (by kernel_rfl) (by kernel_rfl) (fun _ _ _ h => h) (Or.inl ⟨by kernel_rfl, ?hy44_t12⟩) (by assumption) ?rest44_t12
  case hy44_t12 => (intro W_ hS_; (try dsimp only at hS_); go_simp; (try (with_reducible rfl)))
  try simp only [Act.put, List.setIfInBounds_toArray, List.set_cons_zero, List.set_cons_succ]
  refine wpAnyH_done (by kernel_rfl) ?_ _
  go_wp2_with fail
  go_ret
  exact ⟨rfl, below_then hT5 (below_then (below_then (below_then (below_then (below_then (below_drew1 _) hBr4) hBr7) hBr15) hBr23) hBr29)⟩

end Go.Proofs.Ytmffflckcpgjiaa
