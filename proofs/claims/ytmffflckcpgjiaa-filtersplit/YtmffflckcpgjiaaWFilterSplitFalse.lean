/-
  FilterSplit.
-/
import Derived.Test.YtmffflckcpgjiaaFilLaw
import Derived.Test.YtmffflckcpgjiaaHead7
import Derived.Test.YtmffflckcpgjiaaAny7
namespace Go.Proofs.Ytmffflckcpgjiaa
open Go.RowKit
set_option linter.unusedVariables false
set_option linter.unusedSimpArgs false

set_option maxRecDepth 100000 in
set_option maxHeartbeats 2000000 in
theorem filterSplit_false (fk fm : Int) (xi : Int) (xr : Bool) (xn : Int) (xa : Option Addr) (xm xc : Nat) (hxM : xm ≤ maxLen) (xx : Bool) (T : Nat) (hT : T < 256) (w : World) :
    Calls Try.prog 9 #[.agg #[.bool false, .int .i64 fk, .int .i64 fm], .agg #[.bool xx, .int .i64 xi, .bool xr, .int .i64 xn, .slice xa xm xc], .int .u8 T] w fun e w' => e = .returned (.bool true) ∧ Below w.heap.size w w' := by
  unfold maxLen at hxM
  go_enter Try.func9, Try.ntmps9
  go_wp2_with fail
  obtain ⟨w0, hw0⟩ : ∃ w0, ((w.alloc (.cells #[.bool false, .int .i64 fk, .int .i64 fm] 23)).alloc (.cells #[.bool xx, .int .i64 xi, .bool xr, .int .i64 xn, .slice xa xm xc] 27)) = w0 := ⟨_, rfl⟩
  have hT0 : Below w.heap.size w w0 := by rw [← hw0]; exact below_two _ _ _
  have hf0 : HasL w0 w.heap.size ⟨false, fk, fm⟩ := by rw [← hw0]; exact blk1 _ _ _
  have hx0 : HasF w0 (w.heap.size + 1) ⟨xx, xi, xr, xn, xa, xm, xc⟩ := by rw [← hw0]; exact blk2 _ _ _
  rw [hw0]
  clear hw0
  refine (head7_any w0).mono ?_
  rintro e w1 ⟨rfl, hB1⟩
  have hT1 := below_then hT0 hB1
  have hf1 := block_below hB1 hf0
  have hx1 := block_below hB1 hx0
  clear hT0 hf0 hx0  hB1
  obtain ⟨fc0, fc1, fc2⟩ := cells3' hf1
  obtain ⟨xc0, xc1, xc2, xc3, xc4⟩ := cells5' hx1
  go_wp2_with fail
  clear fc0 fc1 fc2 xc0 xc1 xc2 xc3 xc4
  obtain ⟨qf, hqf⟩ : ∃ q, refRightP ⟨false, fk, fm⟩ = q := ⟨_, rfl⟩
  have Hqf := Lib.hid hqf
  clear hqf
  cases qf
  · skip
    refine (refRight_q ⟨false, fk, fm⟩ w1 false Hqf.out).mono ?_
    rintro e w2 ⟨rfl, hB2⟩
    have hT2 := below_then hT1 hB2
    have hf2 := block_below hB2 hf1
    have hx2 := block_below hB2 hx1
    clear hT1 hf1 hx1  hB2
    obtain ⟨fc0, fc1, fc2⟩ := cells3' hf2
    obtain ⟨xc0, xc1, xc2, xc3, xc4⟩ := cells5' hx2
    go_wp2_with fail
    go_ret
    exact ⟨rfl, hT2⟩
  refine (refRight_q ⟨false, fk, fm⟩ w1 true Hqf.out).mono ?_
  rintro e w2 ⟨rfl, hB2⟩
  have hT2 := below_then hT1 hB2
  have hf2 := block_below hB2 hf1
  have hx2 := block_below hB2 hx1
  clear hT1 hf1 hx1  hB2
  rcases dec (100 < xm) with ⟨dx, gx⟩ | ⟨dx, gx⟩
  · skip
    have dx' : decide ((100 : Int) < (xm : Int)) = true := by simp; omega
    obtain ⟨fc0, fc1, fc2⟩ := cells3' hf2
    obtain ⟨xc0, xc1, xc2, xc3, xc4⟩ := cells5' hx2
    go_wp2_with fail
    go_ret
    exact ⟨rfl, hT2⟩
  have dx' : decide ((100 : Int) < (xm : Int)) = false := by simp; omega
  clear gx hxM
  obtain ⟨fc0, fc1, fc2⟩ := cells3' hf2
  obtain ⟨xc0, xc1, xc2, xc3, xc4⟩ := cells5' hx2
  go_wp2_with fail
  clear fc0 fc1 fc2 xc0 xc1 xc2 xc3 xc4
  obtain ⟨qx, hqx⟩ : ∃ q, frRightP ⟨xx, xi, xr, xn, xa, xm, xc⟩ = q := ⟨_, rfl⟩
  have Hqx := Lib.hid hqx
  clear hqx
  cases qx
  · skip
    refine (frRight_q ⟨xx, xi, xr, xn, xa, xm, xc⟩ w2 false Hqx.out).mono ?_
    rintro e w3 ⟨rfl, hB3⟩
    have hT3 := below_then hT2 hB3
    have hf3 := block_below hB3 hf2
    have hx3 := block_below hB3 hx2
    clear hT2 hf2 hx2  hB3
    obtain ⟨fc0, fc1, fc2⟩ := cells3' hf3
    obtain ⟨xc0, xc1, xc2, xc3, xc4⟩ := cells5' hx3
    go_wp2_with fail
    go_ret
    exact ⟨rfl, hT3⟩
  refine (frRight_q ⟨xx, xi, xr, xn, xa, xm, xc⟩ w2 true Hqx.out).mono ?_
  rintro e w3 ⟨rfl, hB3⟩
  have hT3 := below_then hT2 hB3
  have hf3 := block_below hB3 hf2
  have hx3 := block_below hB3 hx2
  clear hT2 hf2 hx2  hB3
  clear dx dx'
  obtain ⟨I, hI, lI, mI⟩ := frRight_id Hqx.out
  dsimp only at hI
  subst hI
  clear lI
  obtain ⟨K, M, hf⟩ := okL_of Hqf.out
  have hfk : fk = (K : Int) := hf.k
  have hfm : fm = (M : Int) := hf.m
  subst hfk hfm
  have hpa := pow_all false (p := T % 11) (by simp; omega)
  obtain ⟨B, hB⟩ : ∃ B, 2 ^ (T % 11) = B := ⟨_, rfl⟩
  have hsh : wrap64 (2 ^ (T % 11)) = (B : Int) := by rw [wrap_pow29 hpa.2, hB]
  have lB : B < 536870912 := by rw [← hB]; exact hpa.2
  have lK := hf.kl
  have lM := hf.ml
  obtain ⟨C, hC⟩ : ∃ C, K &&& B = C := ⟨_, rfl⟩
  have hand : bits .and .i64 (K : Int) (B : Int) = (C : Int) := by rw [and_nat (by omega) (by omega), hC]
  obtain ⟨KB, hKB⟩ : ∃ C, K ||| B = C := ⟨_, rfl⟩
  have hor1 : bits .or .i64 (K : Int) (B : Int) = (KB : Int) := by rw [or_nat (by omega) (by omega), hKB]
  obtain ⟨MB, hMB⟩ : ∃ C, M ||| B = C := ⟨_, rfl⟩
  have hor2 : bits .or .i64 (M : Int) (B : Int) = (MB : Int) := by rw [or_nat (by omega) (by omega), hMB]
  by_cases hC0 : C = 0
  · skip
    have hz : K &&& 2 ^ (T % 11) = 0 := by rw [hB, hC, hC0]
    have hs := split_all (f := ⟨false, (K : Int), (M : Int)⟩) hf hpa.1 hz xx (i := I) (by omega)
    rw [hB, hKB, hMB] at hs
    have HS := Lib.hid hs
    clear hs hz hf hpa hB lB lK lM hKB hMB hC
    subst hC0
    obtain ⟨z, hz⟩ : ∃ q, takesV ⟨false, (KB : Int), (M : Int)⟩ xx (I : Int) = q := ⟨_, rfl⟩
    have Hz := Lib.hid hz
    clear hz
    obtain ⟨o, ho⟩ : ∃ q, takesV ⟨false, (KB : Int), (MB : Int)⟩ xx (I : Int) = q := ⟨_, rfl⟩
    have Ho := Lib.hid ho
    clear ho
    have Hq : takesV ⟨false, (K : Int), (M : Int)⟩ xx (I : Int) = (z || o) := by rw [HS.out.1, Hz.out, Ho.out]
    have HQ := Lib.hid Hq
    clear Hq
    obtain ⟨fc0, fc1, fc2⟩ := cells3' hf3
    obtain ⟨xc0, xc1, xc2, xc3, xc4⟩ := cells5' hx3
    have hlf := (Array.getElem?_eq_some_iff.1 hf3).1
    have hlx := (Array.getElem?_eq_some_iff.1 hx3).1
    go_wp2_with fail
    clear fc0 fc1 fc2 xc0 xc1 xc2 xc3 xc4 hlf hlx
    clear hsh hand hor1 hor2
    obtain ⟨w4, hw4⟩ : ∃ w4, ((w3.alloc (.cells #[.bool false, .int .i64 (KB : Int), .int .i64 (M : Int)] 23)).alloc (.cells #[.bool false, .int .i64 (KB : Int), .int .i64 (MB : Int)] 23)) = w4 := ⟨_, rfl⟩
    have hB4 : Below w3.heap.size w3 w4 := by rw [← hw4]; exact below_two _ _ _
    have hz4 : HasL w4 w3.heap.size ⟨false, (KB : Int), (M : Int)⟩ := by rw [← hw4]; exact blk1 _ _ _
    have ho4 : HasL w4 (w3.heap.size + 1) ⟨false, (KB : Int), (MB : Int)⟩ := by rw [← hw4]; exact blk2 _ _ _
    rw [hw4]
    clear hw4
    have hT4 := below_then hT3 hB4
    have hf4 := block_below hB4 hf3
    have hx4 := block_below hB4 hx3
    clear hT3 hf3 hx3  hB4
    cases z
    · skip
      refine wp_region_held_drew (S := fun W => (W.cell? ⟨w.heap.size, 0, none⟩ = some (.bool false) ∧ W.cell? ⟨w.heap.size, 1, none⟩ = some (.int .i64 (K : Int)) ∧ W.cell? ⟨w.heap.size, 2, none⟩ = some (.int .i64 (M : Int))) ∧ (W.cell? ⟨(w.heap.size + 1), 0, none⟩ = some (.bool xx) ∧ W.cell? ⟨(w.heap.size + 1), 1, none⟩ = some (.int .i64 (I : Int)) ∧ W.cell? ⟨(w.heap.size + 1), 2, none⟩ = some (.bool xr) ∧ W.cell? ⟨(w.heap.size + 1), 3, none⟩ = some (.int .i64 xn) ∧ W.cell? ⟨(w.heap.size + 1), 4, none⟩ = some (.slice xa xm xc)) ∧ (W.cell? ⟨w3.heap.size, 0, none⟩ = some (.bool false) ∧ W.cell? ⟨w3.heap.size, 1, none⟩ = some (.int .i64 (KB : Int)) ∧ W.cell? ⟨w3.heap.size, 2, none⟩ = some (.int .i64 (M : Int))) ∧ (W.cell? ⟨(w3.heap.size + 1), 0, none⟩ = some (.bool false) ∧ W.cell? ⟨(w3.heap.size + 1), 1, none⟩ = some (.int .i64 (KB : Int)) ∧ W.cell? ⟨(w3.heap.size + 1), 2, none⟩ = some (.int .i64 (MB : Int)))) (by kernel_rfl) (by exact ⟨HasL.cl (f := ⟨false, (K : Int), (M : Int)⟩) (block_below (below_drew1 _) hf4), HasF.cf (f := ⟨xx, (I : Int), xr, xn, xa, xm, xc⟩) (block_below (below_drew1 _) hx4), HasL.cl (f := ⟨false, (KB : Int), (M : Int)⟩) (block_below (below_drew1 _) hz4), HasL.cl (f := ⟨false, (KB : Int), (MB : Int)⟩) (block_below (below_drew1 _) ho4)⟩) (fun hHeld_ => ?_)
      refine wpAnyH_take' (i := 0) (v := ?v0_t13) 61 rfl rfl (by kernel_rfl) (by kernel_rfl) (by kernel_rfl) (fun _ _ _ h => h) (Or.inl ⟨by kernel_rfl, ?hy0_t13⟩) (by assumption) ?rest0_t13
      case hy0_t13 => (intro W_ hS_; (try dsimp only at hS_); go_simp; (try (with_reducible rfl)))
      try simp only [Act.put, List.setIfInBounds_toArray, List.set_cons_zero, List.set_cons_succ]
      refine wpAnyH_take' (i := 1) (v := ?v1_t13) 62 rfl rfl (by kernel_rfl) (by kernel_rfl) (by kernel_rfl) (fun _ _ _ h => h) (Or.inl ⟨by kernel_rfl, ?hy1_t13⟩) (by assumption) ?rest1_t13
      case hy1_t13 => (intro W_ hS_; (try dsimp only at hS_); go_simp; (try (with_reducible rfl)))
      try simp only [Act.put, List.setIfInBounds_toArray, List.set_cons_zero, List.set_cons_succ]
      refine wpAnyH_take' (i := 2) (v := ?v2_t13) 63 rfl rfl (by kernel_rfl) (by kernel_rfl) (by kernel_rfl) (fun _ _ _ h => h) (Or.inl ⟨by kernel_rfl, ?hy2_t13⟩) (by assumption) ?rest2_t13
      case hy2_t13 => (intro W_ hS_; (try dsimp only at hS_); go_simp; (try (with_reducible rfl)))
      try simp only [Act.put, List.setIfInBounds_toArray, List.set_cons_zero, List.set_cons_succ]
      refine wpAnyH_take' (i := 3) (v := ?v3_t13) 64 rfl rfl (by kernel_rfl) (by kernel_rfl) (by kernel_rfl) (fun _ _ _ h => h) (Or.inl ⟨by kernel_rfl, ?hy3_t13⟩) (by assumption) ?rest3_t13
      case hy3_t13 => (intro W_ hS_; (try dsimp only at hS_); go_simp; (try (with_reducible rfl)))
      try simp only [Act.put, List.setIfInBounds_toArray, List.set_cons_zero, List.set_cons_succ]
      refine wpAnyH_take' (i := 5) (v := ?v5_t13) 66 rfl rfl (by kernel_rfl) (by kernel_rfl) (by kernel_rfl) (fun _ _ _ h => h) (Or.inl ⟨by kernel_rfl, ?hy5_t13⟩) (by assumption) ?rest5_t13
      case hy5_t13 => (intro W_ hS_; (try dsimp only at hS_); go_simp; (try (with_reducible rfl)))
      try simp only [Act.put, List.setIfInBounds_toArray, List.set_cons_zero, List.set_cons_succ]
      refine wpAnyH_take' (i := 6) (v := ?v6_t13) 67 rfl rfl (by kernel_rfl) (by kernel_rfl) (by kernel_rfl) (fun _ _ _ h => h) (Or.inl ⟨by kernel_rfl, ?hy6_t13⟩) (by assumption) ?rest6_t13
      case hy6_t13 => (intro W_ hS_; (try dsimp only at hS_); go_simp; (try (with_reducible rfl)))
      try simp only [Act.put, List.setIfInBounds_toArray, List.set_cons_zero, List.set_cons_succ]
      refine wpAnyH_ready (rs := [4]) (by kernel_rfl) (by simp) ?_
      refine AllReadyH.cons rfl (fun K_ hK_ => ?_) AllReadyH.nil
      go_simp
      refine (takes_q ⟨false, (K : Int), (M : Int)⟩ ⟨xx, (I : Int), xr, xn, xa, xm, xc⟩ _ o (by rw [HQ.out]; simp)).mono ?_; rintro e wr4 ⟨rfl, hBr4⟩
      go_wp2_with fail
      refine hK_.out _ _ (by exact ⟨HasL.cl (f := ⟨false, (K : Int), (M : Int)⟩) (block_below hBr4 (block_below (below_drew1 _) hf4)), HasF.cf (f := ⟨xx, (I : Int), xr, xn, xa, xm, xc⟩) (block_below hBr4 (block_below (below_drew1 _) hx4)), HasL.cl (f := ⟨false, (KB : Int), (M : Int)⟩) (block_below hBr4 (block_below (below_drew1 _) hz4)), HasL.cl (f := ⟨false, (KB : Int), (MB : Int)⟩) (block_below hBr4 (block_below (below_drew1 _) ho4))⟩) (fun hHeld_4 => ?_)
      clear hK_
      try simp only [Act.put, List.setIfInBounds_toArray, List.set_cons_zero, List.set_cons_succ]
      refine wpAnyH_ready (rs := [7]) (by kernel_rfl) (by simp) ?_
      refine AllReadyH.cons rfl (fun K_ hK_ => ?_) AllReadyH.nil
      go_simp
      refine (takes_q ⟨false, (KB : Int), (M : Int)⟩ ⟨xx, (I : Int), xr, xn, xa, xm, xc⟩ _ false Hz.out).mono ?_; rintro e wr7 ⟨rfl, hBr7⟩
      go_wp2_with fail
      refine hK_.out _ _ (by exact ⟨HasL.cl (f := ⟨false, (K : Int), (M : Int)⟩) (block_below hBr7 (block_below hBr4 (block_below (below_drew1 _) hf4))), HasF.cf (f := ⟨xx, (I : Int), xr, xn, xa, xm, xc⟩) (block_below hBr7 (block_below hBr4 (block_below (below_drew1 _) hx4))), HasL.cl (f := ⟨false, (KB : Int), (M : Int)⟩) (block_below hBr7 (block_below hBr4 (block_below (below_drew1 _) hz4))), HasL.cl (f := ⟨false, (KB : Int), (MB : Int)⟩) (block_below hBr7 (block_below hBr4 (block_below (below_drew1 _) ho4)))⟩) (fun hHeld_7 => ?_)
      clear hK_
      try simp only [Act.put, List.setIfInBounds_toArray, List.set_cons_zero, List.set_cons_succ]
      refine wpAnyH_take' (i := 8) (v := ?v8_t13) 69 rfl rfl (by kernel_rfl) (by kernel_rfl) (by kernel_rfl) (fun _ _ _ h => h) (Or.inl ⟨by kernel_rfl, ?hy8_t13⟩) (by assumption) ?rest8_t13
      case hy8_t13 => (intro W_ hS_; (try dsimp only at hS_); go_simp; (try (with_reducible rfl)))
      try simp only [Act.put, List.setIfInBounds_toArray, List.set_cons_zero, List.set_cons_succ]
      refine wpAnyH_take' (i := 9) (v := ?v9_t13) 70 rfl rfl (by kernel_rfl) (by kernel_rfl) (by kernel_rfl) (fun _ _ _ h => h) (Or.inl ⟨by kernel_rfl, ?hy9_t13⟩) (by assumption) ?rest9_t13
      case hy9_t13 => (intro W_ hS_; (try dsimp only at hS_); go_simp; (try (with_reducible rfl)))
      try simp only [Act.put, List.setIfInBounds_toArray, List.set_cons_zero, List.set_cons_succ]
      refine wpAnyH_take' (i := 10) (v := ?v10_t13) 71 rfl rfl (by kernel_rfl) (by kernel_rfl) (by kernel_rfl) (fun _ _ _ h => h) (Or.inl ⟨by kernel_rfl, ?hy10_t13⟩) (by assumption) ?rest10_t13
      case hy10_t13 => (intro W_ hS_; (try dsimp only at hS_); go_simp; (try (with_reducible rfl)))
      try simp only [Act.put, List.setIfInBounds_toArray, List.set_cons_zero, List.set_cons_succ]
      refine wpAnyH_ready (rs := [11]) (by kernel_rfl) (by simp) ?_
      refine AllReadyH.cons rfl (fun K_ hK_ => ?_) AllReadyH.nil
      go_simp
      refine (takes_q ⟨false, (KB : Int), (MB : Int)⟩ ⟨xx, (I : Int), xr, xn, xa, xm, xc⟩ _ o Ho.out).mono ?_; rintro e wr11 ⟨rfl, hBr11⟩
      go_wp2_with fail
      refine hK_.out _ _ (by exact ⟨HasL.cl (f := ⟨false, (K : Int), (M : Int)⟩) (block_below hBr11 (block_below hBr7 (block_below hBr4 (block_below (below_drew1 _) hf4)))), HasF.cf (f := ⟨xx, (I : Int), xr, xn, xa, xm, xc⟩) (block_below hBr11 (block_below hBr7 (block_below hBr4 (block_below (below_drew1 _) hx4)))), HasL.cl (f := ⟨false, (KB : Int), (M : Int)⟩) (block_below hBr11 (block_below hBr7 (block_below hBr4 (block_below (below_drew1 _) hz4)))), HasL.cl (f := ⟨false, (KB : Int), (MB : Int)⟩) (block_below hBr11 (block_below hBr7 (block_below hBr4 (block_below (below_drew1 _) ho4))))⟩) (fun hHeld_11 => ?_)
      clear hK_
      try simp only [Act.put, List.setIfInBounds_toArray, List.set_cons_zero, List.set_cons_succ]
      refine wpAnyH_take' (i := 12) (v := ?v12_t13) 73 rfl rfl (by kernel_rfl) (by kernel_rfl) (by kernel_rfl) (fun _ _ _ h => h) (Or.inl ⟨by kernel_rfl, ?hy12_t13⟩) (by assumption) ?rest12_t13
      case hy12_t13 => (intro W_ hS_; (try dsimp only at hS_); go_simp; (try (with_reducible rfl)))
      try simp only [Act.put, List.setIfInBounds_toArray, List.set_cons_zero, List.set_cons_succ]
      refine wpAnyH_take' (i := 13) (v := ?v13_t13) 74 rfl rfl (by kernel_rfl) (by kernel_rfl) (by kernel_rfl) (fun _ _ _ h => h) (Or.inl ⟨by kernel_rfl, ?hy13_t13⟩) (by assumption) ?rest13_t13
      case hy13_t13 => (intro W_ hS_; (try dsimp only at hS_); go_simp; (try (with_reducible rfl)))
      try simp only [Act.put, List.setIfInBounds_toArray, List.set_cons_zero, List.set_cons_succ]
      refine wpAnyH_take' (i := 14) (v := ?v14_t13) 75 rfl rfl (by kernel_rfl) (by kernel_rfl) (by kernel_rfl) (fun _ _ _ h => h) (Or.inl ⟨by kernel_rfl, ?hy14_t13⟩) (by assumption) ?rest14_t13
      case hy14_t13 => (intro W_ hS_; (try dsimp only at hS_); go_simp; (try (with_reducible rfl)))
      try simp only [Act.put, List.setIfInBounds_toArray, List.set_cons_zero, List.set_cons_succ]
      refine wpAnyH_take' (i := 15) (v := ?v15_t13) 76 rfl rfl (by kernel_rfl) (by kernel_rfl) (by kernel_rfl) (fun _ _ _ h => h) (Or.inl ⟨by kernel_rfl, ?hy15_t13⟩) (by assumption) ?rest15_t13
      case hy15_t13 => (intro W_ hS_; (try dsimp only at hS_); go_simp; (try (with_reducible rfl)))
      try simp only [Act.put, List.setIfInBounds_toArray, List.set_cons_zero, List.set_cons_succ]
      refine wpAnyH_take' (i := 16) (v := ?v16_t13) 77 rfl rfl (by kernel_rfl) (by kernel_rfl) (by kernel_rfl) (fun _ _ _ h => h) (Or.inl ⟨by kernel_rfl, ?hy16_t13⟩) (by assumption) ?rest16_t13
      case hy16_t13 => (intro W_ hS_; (try dsimp only at hS_); go_simp; (try (with_reducible rfl)))
      try simp only [Act.put, List.setIfInBounds_toArray, List.set_cons_zero, List.set_cons_succ]
      refine wpAnyH_take' (i := 17) (v := ?v17_t13) 78 rfl rfl (by kernel_rfl) (by kernel_rfl) (by kernel_rfl) (fun _ _ _ h => h) (Or.inl ⟨by kernel_rfl, ?hy17_t13⟩) (by assumption) ?rest17_t13
      case hy17_t13 => (intro W_ hS_; (try dsimp only at hS_); go_simp; (try (with_reducible rfl)))
      try simp only [Act.put, List.setIfInBounds_toArray, List.set_cons_zero, List.set_cons_succ]
      refine wpAnyH_ready (rs := [18]) (by kernel_rfl) (by simp) ?_
      refine AllReadyH.cons rfl (fun K_ hK_ => ?_) AllReadyH.nil
      go_simp
      refine (covers_q ⟨false, (K : Int), (M : Int)⟩ ⟨false, (KB : Int), (M : Int)⟩ _ true HS.out.2.1).mono ?_; rintro e wr18 ⟨rfl, hBr18⟩
      go_wp2_with fail
      refine hK_.out _ _ (by exact ⟨HasL.cl (f := ⟨false, (K : Int), (M : Int)⟩) (block_below hBr18 (block_below hBr11 (block_below hBr7 (block_below hBr4 (block_below (below_drew1 _) hf4))))), HasF.cf (f := ⟨xx, (I : Int), xr, xn, xa, xm, xc⟩) (block_below hBr18 (block_below hBr11 (block_below hBr7 (block_below hBr4 (block_below (below_drew1 _) hx4))))), HasL.cl (f := ⟨false, (KB : Int), (M : Int)⟩) (block_below hBr18 (block_below hBr11 (block_below hBr7 (block_below hBr4 (block_below (below_drew1 _) hz4))))), HasL.cl (f := ⟨false, (KB : Int), (MB : Int)⟩) (block_below hBr18 (block_below hBr11 (block_below hBr7 (block_below hBr4 (block_below (below_drew1 _) ho4)))))⟩) (fun hHeld_18 => ?_)
      clear hK_
      try simp only [Act.put, List.setIfInBounds_toArray, List.set_cons_zero, List.set_cons_succ]
      refine wpAnyH_take' (i := 19) (v := ?v19_t13) 80 rfl rfl (by kernel_rfl) (by kernel_rfl) (by kernel_rfl) (fun _ _ _ h => h) (Or.inl ⟨by kernel_rfl, ?hy19_t13⟩) (by assumption) ?rest19_t13
      case hy19_t13 => (intro W_ hS_; (try dsimp only at hS_); go_simp; (try (with_reducible rfl)))
      try simp only [Act.put, List.setIfInBounds_toArray, List.set_cons_zero, List.set_cons_succ]
      refine wpAnyH_take' (i := 20) (v := ?v20_t13) 81 rfl rfl (by kernel_rfl) (by kernel_rfl) (by kernel_rfl) (fun _ _ _ h => h) (Or.inl ⟨by kernel_rfl, ?hy20_t13⟩) (by assumption) ?rest20_t13
      case hy20_t13 => (intro W_ hS_; (try dsimp only at hS_); go_simp; (try (with_reducible rfl)))
      try simp only [Act.put, List.setIfInBounds_toArray, List.set_cons_zero, List.set_cons_succ]
      refine wpAnyH_take' (i := 21) (v := ?v21_t13) 82 rfl rfl (by kernel_rfl) (by kernel_rfl) (by kernel_rfl) (fun _ _ _ h => h) (Or.inl ⟨by kernel_rfl, ?hy21_t13⟩) (by assumption) ?rest21_t13
      case hy21_t13 => (intro W_ hS_; (try dsimp only at hS_); go_simp; (try (with_reducible rfl)))
      try simp only [Act.put, List.setIfInBounds_toArray, List.set_cons_zero, List.set_cons_succ]
      refine wpAnyH_take' (i := 22) (v := ?v22_t13) 83 rfl rfl (by kernel_rfl) (by kernel_rfl) (by kernel_rfl) (fun _ _ _ h => h) (Or.inl ⟨by kernel_rfl, ?hy22_t13⟩) (by assumption) ?rest22_t13
      case hy22_t13 => (intro W_ hS_; (try dsimp only at hS_); go_simp; (try (with_reducible rfl)))
      try simp only [Act.put, List.setIfInBounds_toArray, List.set_cons_zero, List.set_cons_succ]
      refine wpAnyH_ready (rs := [23]) (by kernel_rfl) (by simp) ?_
      refine AllReadyH.cons rfl (fun K_ hK_ => ?_) AllReadyH.nil
      go_simp
      refine (covers_q ⟨false, (K : Int), (M : Int)⟩ ⟨false, (KB : Int), (MB : Int)⟩ _ true HS.out.2.2.1).mono ?_; rintro e wr23 ⟨rfl, hBr23⟩
      go_wp2_with fail
      refine hK_.out _ _ (by exact ⟨HasL.cl (f := ⟨false, (K : Int), (M : Int)⟩) (block_below hBr23 (block_below hBr18 (block_below hBr11 (block_below hBr7 (block_below hBr4 (block_below (below_drew1 _) hf4)))))), HasF.cf (f := ⟨xx, (I : Int), xr, xn, xa, xm, xc⟩) (block_below hBr23 (block_below hBr18 (block_below hBr11 (block_below hBr7 (block_below hBr4 (block_below (below_drew1 _) hx4)))))), HasL.cl (f := ⟨false, (KB : Int), (M : Int)⟩) (block_below hBr23 (block_below hBr18 (block_below hBr11 (block_below hBr7 (block_below hBr4 (block_below (below_drew1 _) hz4)))))), HasL.cl (f := ⟨false, (KB : Int), (MB : Int)⟩) (block_below hBr23 (block_below hBr18 (block_below hBr11 (block_below hBr7 (block_below hBr4 (block_below (below_drew1 _) ho4))))))⟩) (fun hHeld_23 => ?_)
      clear hK_
      try simp only [Act.put, List.setIfInBounds_toArray, List.set_cons_zero, List.set_cons_succ]
      refine wpAnyH_take' (i := 24) (v := ?v24_t13) 85 rfl rfl (by kernel_rfl) (by kernel_rfl) (by kernel_rfl) (fun _ _ _ h => h) (Or.inl ⟨by kernel_rfl, ?hy24_t13⟩) (by assumption) ?rest24_t13
      case hy24_t13 => (intro W_ hS_; (try dsimp only at hS_); go_simp; (try (with_reducible rfl)))
      try simp only [Act.put, List.setIfInBounds_toArray, List.set_cons_zero, List.set_cons_succ]
      refine wpAnyH_take' (i := 25) (v := ?v25_t13) 86 rfl rfl (by kernel_rfl) (by kernel_rfl) (by kernel_rfl) (fun _ _ _ h => h) (Or.inl ⟨by kernel_rfl, ?hy25_t13⟩) (by assumption) ?rest25_t13
      case hy25_t13 => (intro W_ hS_; (try dsimp only at hS_); go_simp; (try (with_reducible rfl)))
      try simp only [Act.put, List.setIfInBounds_toArray, List.set_cons_zero, List.set_cons_succ]
      refine wpAnyH_take' (i := 26) (v := ?v26_t13) 87 rfl rfl (by kernel_rfl) (by kernel_rfl) (by kernel_rfl) (fun _ _ _ h => h) (Or.inl ⟨by kernel_rfl, ?hy26_t13⟩) (by assumption) ?rest26_t13
      case hy26_t13 => (intro W_ hS_; (try dsimp only at hS_); go_simp; (try (with_reducible rfl)))
      try simp only [Act.put, List.setIfInBounds_toArray, List.set_cons_zero, List.set_cons_succ]
      refine wpAnyH_take' (i := 27) (v := ?v27_t13) 88 rfl rfl (by kernel_rfl) (by kernel_rfl) (by kernel_rfl) (fun _ _ _ h => h) (Or.inl ⟨by kernel_rfl, ?hy27_t13⟩) (by assumption) ?rest27_t13
      case hy27_t13 => (intro W_ hS_; (try dsimp only at hS_); go_simp; (try (with_reducible rfl)))
      try simp only [Act.put, List.setIfInBounds_toArray, List.set_cons_zero, List.set_cons_succ]
      refine wpAnyH_ready (rs := [28]) (by kernel_rfl) (by simp) ?_
      refine AllReadyH.cons rfl (fun K_ hK_ => ?_) AllReadyH.nil
      go_simp
      refine (meets_q ⟨false, (KB : Int), (M : Int)⟩ ⟨false, (KB : Int), (MB : Int)⟩ _ false HS.out.2.2.2.1).mono ?_; rintro e wr28 ⟨rfl, hBr28⟩
      go_wp2_with fail
      refine hK_.out _ _ (by exact ⟨HasL.cl (f := ⟨false, (K : Int), (M : Int)⟩) (block_below hBr28 (block_below hBr23 (block_below hBr18 (block_below hBr11 (block_below hBr7 (block_below hBr4 (block_below (below_drew1 _) hf4))))))), HasF.cf (f := ⟨xx, (I : Int), xr, xn, xa, xm, xc⟩) (block_below hBr28 (block_below hBr23 (block_below hBr18 (block_below hBr11 (block_below hBr7 (block_below hBr4 (block_below (below_drew1 _) hx4))))))), HasL.cl (f := ⟨false, (KB : Int), (M : Int)⟩) (block_below hBr28 (block_below hBr23 (block_below hBr18 (block_below hBr11 (block_below hBr7 (block_below hBr4 (block_below (below_drew1 _) hz4))))))), HasL.cl (f := ⟨false, (KB : Int), (MB : Int)⟩) (block_below hBr28 (block_below hBr23 (block_below hBr18 (block_below hBr11 (block_below hBr7 (block_below hBr4 (block_below (below_drew1 _) ho4)))))))⟩) (fun hHeld_28 => ?_)
      clear hK_
      try simp only [Act.put, List.setIfInBounds_toArray, List.set_cons_zero, List.set_cons_succ]
      refine wpAnyH_take' (i := 29) (v := ?v29_t13) 90 rfl rfl (by kernel_rfl) (by kernel_rfl) (by kernel_rfl) (fun _ _ _ h => h) (Or.inl ⟨by kernel_rfl, ?hy29_t13⟩) (by assumption) ?rest29_t13
      case hy29_t13 => (intro W_ hS_; (try dsimp only at hS_); go_simp; (try (with_reducible rfl)))
      try simp only [Act.put, List.setIfInBounds_toArray, List.set_cons_zero, List.set_cons_succ]
      refine wpAnyH_take' (i := 30) (v := ?v30_t13) 91 rfl rfl (by kernel_rfl) (by kernel_rfl) (by kernel_rfl) (fun _ _ _ h => h) (Or.inl ⟨by kernel_rfl, ?hy30_t13⟩) (by assumption) ?rest30_t13
      case hy30_t13 => (intro W_ hS_; (try dsimp only at hS_); go_simp; (try (with_reducible rfl)))
      try simp only [Act.put, List.setIfInBounds_toArray, List.set_cons_zero, List.set_cons_succ]
      refine wpAnyH_take' (i := 31) (v := ?v31_t13) 92 rfl rfl (by kernel_rfl) (by kernel_rfl) (by kernel_rfl) (fun _ _ _ h => h) (Or.inl ⟨by kernel_rfl, ?hy31_t13⟩) (by assumption) ?rest31_t13
      case hy31_t13 => (intro W_ hS_; (try dsimp only at hS_); go_simp; (try (with_reducible rfl)))
      try simp only [Act.put, List.setIfInBounds_toArray, List.set_cons_zero, List.set_cons_succ]
      refine wpAnyH_take' (i := 32) (v := ?v32_t13) 93 rfl rfl (by kernel_rfl) (by kernel_rfl) (by kernel_rfl) (fun _ _ _ h => h) (Or.inl ⟨by kernel_rfl, ?hy32_t13⟩) (by assumption) ?rest32_t13
      case hy32_t13 => (intro W_ hS_; (try dsimp only at hS_); go_simp; (try (with_reducible rfl)))
      try simp only [Act.put, List.setIfInBounds_toArray, List.set_cons_zero, List.set_cons_succ]
      refine wpAnyH_take' (i := 33) (v := ?v33_t13) 94 rfl rfl (by kernel_rfl) (by kernel_rfl) (by kernel_rfl) (fun _ _ _ h => h) (Or.inl ⟨by kernel_rfl, ?hy33_t13⟩) (by assumption) ?rest33_t13
      case hy33_t13 => (intro W_ hS_; (try dsimp only at hS_); go_simp; (try (with_reducible rfl)))
      try simp only [Act.put, List.setIfInBounds_toArray, List.set_cons_zero, List.set_cons_succ]
      refine wpAnyH_ready (rs := [34]) (by kernel_rfl) (by simp) ?_
      refine AllReadyH.cons rfl (fun K_ hK_ => ?_) AllReadyH.nil
      go_simp
      refine (covers_q ⟨false, (KB : Int), (M : Int)⟩ ⟨false, (K : Int), (M : Int)⟩ _ false HS.out.2.2.2.2).mono ?_; rintro e wr34 ⟨rfl, hBr34⟩
      go_wp2_with fail
      refine hK_.out _ _ (by exact ⟨HasL.cl (f := ⟨false, (K : Int), (M : Int)⟩) (block_below hBr34 (block_below hBr28 (block_below hBr23 (block_below hBr18 (block_below hBr11 (block_below hBr7 (block_below hBr4 (block_below (below_drew1 _) hf4)))))))), HasF.cf (f := ⟨xx, (I : Int), xr, xn, xa, xm, xc⟩) (block_below hBr34 (block_below hBr28 (block_below hBr23 (block_below hBr18 (block_below hBr11 (block_below hBr7 (block_below hBr4 (block_below (below_drew1 _) hx4)))))))), HasL.cl (f := ⟨false, (KB : Int), (M : Int)⟩) (block_below hBr34 (block_below hBr28 (block_below hBr23 (block_below hBr18 (block_below hBr11 (block_below hBr7 (block_below hBr4 (block_below (below_drew1 _) hz4)))))))), HasL.cl (f := ⟨false, (KB : Int), (MB : Int)⟩) (block_below hBr34 (block_below hBr28 (block_below hBr23 (block_below hBr18 (block_below hBr11 (block_below hBr7 (block_below hBr4 (block_below (below_drew1 _) ho4))))))))⟩) (fun hHeld_34 => ?_)
      clear hK_
      try simp only [Act.put, List.setIfInBounds_toArray, List.set_cons_zero, List.set_cons_succ]
      refine wpAnyH_take' (i := 35) (v := ?v35_t13) 96 rfl rfl (by kernel_rfl) (by kernel_rfl) (by kernel_rfl) (fun _ _ _ h => h) (Or.inl ⟨by kernel_rfl, ?hy35_t13⟩) (by assumption) ?rest35_t13
      case hy35_t13 => (intro W_ hS_; (try dsimp only at hS_); go_simp; (try (with_reducible rfl)))
      try simp only [Act.put, List.setIfInBounds_toArray, List.set_cons_zero, List.set_cons_succ]
      refine wpAnyH_take' (i := 36) (v := ?v36_t13) 97 rfl rfl (by kernel_rfl) (by kernel_rfl) (by kernel_rfl) (fun _ _ _ h => h) (Or.inl ⟨by kernel_rfl, ?hy36_t13⟩) (by assumption) ?rest36_t13
      case hy36_t13 => (intro W_ hS_; (try dsimp only at hS_); go_simp; (try (with_reducible rfl)))
      try simp only [Act.put, List.setIfInBounds_toArray, List.set_cons_zero, List.set_cons_succ]
      refine wpAnyH_take' (i := 37) (v := ?v37_t13) 6 rfl rfl (by kernel_rfl) (by kernel_rfl) (by kernel_rfl) (fun _ _ _ h => h) (Or.inl ⟨by kernel_rfl, ?hy37_t13⟩) (by assumption) ?rest37_t13
      case hy37_t13 => (intro W_ hS_; (try dsimp only at hS_); go_simp; (try (with_reducible rfl)))
      try simp only [Act.put, List.setIfInBounds_toArray, List.set_cons_zero, List.set_cons_succ]
      refine wpAnyH_done (by kernel_rfl) ?_ _
      go_wp2_with fail
      go_ret
      exact ⟨rfl, below_then hT4 (below_then (below_then (below_then (below_then (below_then (below_then (below_then (below_drew1 _) hBr4) hBr7) hBr11) hBr18) hBr23) hBr28) hBr34)⟩
    · skip
      refine wp_region_held_drew (S := fun W => (W.cell? ⟨w.heap.size, 0, none⟩ = some (.bool false) ∧ W.cell? ⟨w.heap.size, 1, none⟩ = some (.int .i64 (K : Int)) ∧ W.cell? ⟨w.heap.size, 2, none⟩ = some (.int .i64 (M : Int))) ∧ (W.cell? ⟨(w.heap.size + 1), 0, none⟩ = some (.bool xx) ∧ W.cell? ⟨(w.heap.size + 1), 1, none⟩ = some (.int .i64 (I : Int)) ∧ W.cell? ⟨(w.heap.size + 1), 2, none⟩ = some (.bool xr) ∧ W.cell? ⟨(w.heap.size + 1), 3, none⟩ = some (.int .i64 xn) ∧ W.cell? ⟨(w.heap.size + 1), 4, none⟩ = some (.slice xa xm xc)) ∧ (W.cell? ⟨w3.heap.size, 0, none⟩ = some (.bool false) ∧ W.cell? ⟨w3.heap.size, 1, none⟩ = some (.int .i64 (KB : Int)) ∧ W.cell? ⟨w3.heap.size, 2, none⟩ = some (.int .i64 (M : Int))) ∧ (W.cell? ⟨(w3.heap.size + 1), 0, none⟩ = some (.bool false) ∧ W.cell? ⟨(w3.heap.size + 1), 1, none⟩ = some (.int .i64 (KB : Int)) ∧ W.cell? ⟨(w3.heap.size + 1), 2, none⟩ = some (.int .i64 (MB : Int)))) (by kernel_rfl) (by exact ⟨HasL.cl (f := ⟨false, (K : Int), (M : Int)⟩) (block_below (below_drew1 _) hf4), HasF.cf (f := ⟨xx, (I : Int), xr, xn, xa, xm, xc⟩) (block_below (below_drew1 _) hx4), HasL.cl (f := ⟨false, (KB : Int), (M : Int)⟩) (block_below (below_drew1 _) hz4), HasL.cl (f := ⟨false, (KB : Int), (MB : Int)⟩) (block_below (below_drew1 _) ho4)⟩) (fun hHeld_ => ?_)
      refine wpAnyH_take' (i := 0) (v := ?v0_t14) 61 rfl rfl (by kernel_rfl) (by kernel_rfl) (by kernel_rfl) (fun _ _ _ h => h) (Or.inl ⟨by kernel_rfl, ?hy0_t14⟩) (by assumption) ?rest0_t14
      case hy0_t14 => (intro W_ hS_; (try dsimp only at hS_); go_simp; (try (with_reducible rfl)))
      try simp only [Act.put, List.setIfInBounds_toArray, List.set_cons_zero, List.set_cons_succ]
      refine wpAnyH_take' (i := 1) (v := ?v1_t14) 62 rfl rfl (by kernel_rfl) (by kernel_rfl) (by kernel_rfl) (fun _ _ _ h => h) (Or.inl ⟨by kernel_rfl, ?hy1_t14⟩) (by assumption) ?rest1_t14
      case hy1_t14 => (intro W_ hS_; (try dsimp only at hS_); go_simp; (try (with_reducible rfl)))
      try simp only [Act.put, List.setIfInBounds_toArray, List.set_cons_zero, List.set_cons_succ]
      refine wpAnyH_take' (i := 2) (v := ?v2_t14) 63 rfl rfl (by kernel_rfl) (by kernel_rfl) (by kernel_rfl) (fun _ _ _ h => h) (Or.inl ⟨by kernel_rfl, ?hy2_t14⟩) (by assumption) ?rest2_t14
      case hy2_t14 => (intro W_ hS_; (try dsimp only at hS_); go_simp; (try (with_reducible rfl)))
      try simp only [Act.put, List.setIfInBounds_toArray, List.set_cons_zero, List.set_cons_succ]
      refine wpAnyH_take' (i := 3) (v := ?v3_t14) 64 rfl rfl (by kernel_rfl) (by kernel_rfl) (by kernel_rfl) (fun _ _ _ h => h) (Or.inl ⟨by kernel_rfl, ?hy3_t14⟩) (by assumption) ?rest3_t14
      case hy3_t14 => (intro W_ hS_; (try dsimp only at hS_); go_simp; (try (with_reducible rfl)))
      try simp only [Act.put, List.setIfInBounds_toArray, List.set_cons_zero, List.set_cons_succ]
      refine wpAnyH_take' (i := 5) (v := ?v5_t14) 66 rfl rfl (by kernel_rfl) (by kernel_rfl) (by kernel_rfl) (fun _ _ _ h => h) (Or.inl ⟨by kernel_rfl, ?hy5_t14⟩) (by assumption) ?rest5_t14
      case hy5_t14 => (intro W_ hS_; (try dsimp only at hS_); go_simp; (try (with_reducible rfl)))
      try simp only [Act.put, List.setIfInBounds_toArray, List.set_cons_zero, List.set_cons_succ]
      refine wpAnyH_take' (i := 6) (v := ?v6_t14) 67 rfl rfl (by kernel_rfl) (by kernel_rfl) (by kernel_rfl) (fun _ _ _ h => h) (Or.inl ⟨by kernel_rfl, ?hy6_t14⟩) (by assumption) ?rest6_t14
      case hy6_t14 => (intro W_ hS_; (try dsimp only at hS_); go_simp; (try (with_reducible rfl)))
      try simp only [Act.put, List.setIfInBounds_toArray, List.set_cons_zero, List.set_cons_succ]
      refine wpAnyH_ready (rs := [4]) (by kernel_rfl) (by simp) ?_
      refine AllReadyH.cons rfl (fun K_ hK_ => ?_) AllReadyH.nil
      go_simp
      refine (takes_q ⟨false, (K : Int), (M : Int)⟩ ⟨xx, (I : Int), xr, xn, xa, xm, xc⟩ _ true (by rw [HQ.out]; simp)).mono ?_; rintro e wr4 ⟨rfl, hBr4⟩
      go_wp2_with fail
      refine hK_.out _ _ (by exact ⟨HasL.cl (f := ⟨false, (K : Int), (M : Int)⟩) (block_below hBr4 (block_below (below_drew1 _) hf4)), HasF.cf (f := ⟨xx, (I : Int), xr, xn, xa, xm, xc⟩) (block_below hBr4 (block_below (below_drew1 _) hx4)), HasL.cl (f := ⟨false, (KB : Int), (M : Int)⟩) (block_below hBr4 (block_below (below_drew1 _) hz4)), HasL.cl (f := ⟨false, (KB : Int), (MB : Int)⟩) (block_below hBr4 (block_below (below_drew1 _) ho4))⟩) (fun hHeld_4 => ?_)
      clear hK_
      try simp only [Act.put, List.setIfInBounds_toArray, List.set_cons_zero, List.set_cons_succ]
      refine wpAnyH_ready (rs := [7]) (by kernel_rfl) (by simp) ?_
      refine AllReadyH.cons rfl (fun K_ hK_ => ?_) AllReadyH.nil
      go_simp
      refine (takes_q ⟨false, (KB : Int), (M : Int)⟩ ⟨xx, (I : Int), xr, xn, xa, xm, xc⟩ _ true Hz.out).mono ?_; rintro e wr7 ⟨rfl, hBr7⟩
      go_wp2_with fail
      refine hK_.out _ _ (by exact ⟨HasL.cl (f := ⟨false, (K : Int), (M : Int)⟩) (block_below hBr7 (block_below hBr4 (block_below (below_drew1 _) hf4))), HasF.cf (f := ⟨xx, (I : Int), xr, xn, xa, xm, xc⟩) (block_below hBr7 (block_below hBr4 (block_below (below_drew1 _) hx4))), HasL.cl (f := ⟨false, (KB : Int), (M : Int)⟩) (block_below hBr7 (block_below hBr4 (block_below (below_drew1 _) hz4))), HasL.cl (f := ⟨false, (KB : Int), (MB : Int)⟩) (block_below hBr7 (block_below hBr4 (block_below (below_drew1 _) ho4)))⟩) (fun hHeld_7 => ?_)
      clear hK_
      try simp only [Act.put, List.setIfInBounds_toArray, List.set_cons_zero, List.set_cons_succ]
      refine wpAnyH_take' (i := 8) (v := ?v8_t14) 69 rfl rfl (by kernel_rfl) (by kernel_rfl) (by kernel_rfl) (fun _ _ _ h => h) (Or.inl ⟨by kernel_rfl, ?hy8_t14⟩) (by assumption) ?rest8_t14
      case hy8_t14 => (intro W_ hS_; (try dsimp only at hS_); go_simp; (try (with_reducible rfl)))
      try simp only [Act.put, List.setIfInBounds_toArray, List.set_cons_zero, List.set_cons_succ]
      refine wpAnyH_take' (i := 9) (v := undef) 70 rfl rfl (by kernel_rfl) (by kernel_rfl) (by kernel_rfl) (fun _ _ _ h => h) (Or.inr ⟨by kernel_rfl, rfl⟩) (by assumption) ?_
      try simp only [Act.put, List.setIfInBounds_toArray, List.set_cons_zero, List.set_cons_succ]
      refine wpAnyH_take' (i := 10) (v := undef) 71 rfl rfl (by kernel_rfl) (by kernel_rfl) (by kernel_rfl) (fun _ _ _ h => h) (Or.inr ⟨by kernel_rfl, rfl⟩) (by assumption) ?_
      try simp only [Act.put, List.setIfInBounds_toArray, List.set_cons_zero, List.set_cons_succ]
      refine wpAnyH_skip (i := 11) 72 rfl rfl (by kernel_rfl) (by kernel_rfl) (by assumption) ?_
      try simp only [Act.put, List.setIfInBounds_toArray, List.set_cons_zero, List.set_cons_succ]
      refine wpAnyH_take' (i := 12) (v := ?v12_t14) 73 rfl rfl (by kernel_rfl) (by kernel_rfl) (by kernel_rfl) (fun _ _ _ h => h) (Or.inl ⟨by kernel_rfl, ?hy12_t14⟩) (by assumption) ?rest12_t14
      case hy12_t14 => (intro W_ hS_; (try dsimp only at hS_); go_simp; (try (with_reducible rfl)))
      try simp only [Act.put, List.setIfInBounds_toArray, List.set_cons_zero, List.set_cons_succ]
      refine wpAnyH_take' (i := 13) (v := ?v13_t14) 74 rfl rfl (by kernel_rfl) (by kernel_rfl) (by kernel_rfl) (fun _ _ _ h => h) (Or.inl ⟨by kernel_rfl, ?hy13_t14⟩) (by assumption) ?rest13_t14
      case hy13_t14 => (intro W_ hS_; (try dsimp only at hS_); go_simp; (try (with_reducible rfl)))
      try simp only [Act.put, List.setIfInBounds_toArray, List.set_cons_zero, List.set_cons_succ]
      refine wpAnyH_take' (i := 14) (v := ?v14_t14) 75 rfl rfl (by kernel_rfl) (by kernel_rfl) (by kernel_rfl) (fun _ _ _ h => h) (Or.inl ⟨by kernel_rfl, ?hy14_t14⟩) (by assumption) ?rest14_t14
      case hy14_t14 => (intro W_ hS_; (try dsimp only at hS_); go_simp; (try (with_reducible rfl)))
      try simp only [Act.put, List.setIfInBounds_toArray, List.set_cons_zero, List.set_cons_succ]
      refine wpAnyH_take' (i := 15) (v := ?v15_t14) 76 rfl rfl (by kernel_rfl) (by kernel_rfl) (by kernel_rfl) (fun _ _ _ h => h) (Or.inl ⟨by kernel_rfl, ?hy15_t14⟩) (by assumption) ?rest15_t14
      case hy15_t14 => (intro W_ hS_; (try dsimp only at hS_); go_simp; (try (with_reducible rfl)))
      try simp only [Act.put, List.setIfInBounds_toArray, List.set_cons_zero, List.set_cons_succ]
      refine wpAnyH_take' (i := 16) (v := ?v16_t14) 77 rfl rfl (by kernel_rfl) (by kernel_rfl) (by kernel_rfl) (fun _ _ _ h => h) (Or.inl ⟨by kernel_rfl, ?hy16_t14⟩) (by assumption) ?rest16_t14
      case hy16_t14 => (intro W_ hS_; (try dsimp only at hS_); go_simp; (try (with_reducible rfl)))
      try simp only [Act.put, List.setIfInBounds_toArray, List.set_cons_zero, List.set_cons_succ]
      refine wpAnyH_take' (i := 17) (v := ?v17_t14) 78 rfl rfl (by kernel_rfl) (by kernel_rfl) (by kernel_rfl) (fun _ _ _ h => h) (Or.inl ⟨by kernel_rfl, ?hy17_t14⟩) (by assumption) ?rest17_t14
      case hy17_t14 => (intro W_ hS_; (try dsimp only at hS_); go_simp; (try (with_reducible rfl)))
      try simp only [Act.put, List.setIfInBounds_toArray, List.set_cons_zero, List.set_cons_succ]
      refine wpAnyH_ready (rs := [18]) (by kernel_rfl) (by simp) ?_
      refine AllReadyH.cons rfl (fun K_ hK_ => ?_) AllReadyH.nil
      go_simp
      refine (covers_q ⟨false, (K : Int), (M : Int)⟩ ⟨false, (KB : Int), (M : Int)⟩ _ true HS.out.2.1).mono ?_; rintro e wr18 ⟨rfl, hBr18⟩
      go_wp2_with fail
      refine hK_.out _ _ (by exact ⟨HasL.cl (f := ⟨false, (K : Int), (M : Int)⟩) (block_below hBr18 (block_below hBr7 (block_below hBr4 (block_below (below_drew1 _) hf4)))), HasF.cf (f := ⟨xx, (I : Int), xr, xn, xa, xm, xc⟩) (block_below hBr18 (block_below hBr7 (block_below hBr4 (block_below (below_drew1 _) hx4)))), HasL.cl (f := ⟨false, (KB : Int), (M : Int)⟩) (block_below hBr18 (block_below hBr7 (block_below hBr4 (block_below (below_drew1 _) hz4)))), HasL.cl (f := ⟨false, (KB : Int), (MB : Int)⟩) (block_below hBr18 (block_below hBr7 (block_below hBr4 (block_below (below_drew1 _) ho4))))⟩) (fun hHeld_18 => ?_)
      clear hK_
      try simp only [Act.put, List.setIfInBounds_toArray, List.set_cons_zero, List.set_cons_succ]
      refine wpAnyH_take' (i := 19) (v := ?v19_t14) 80 rfl rfl (by kernel_rfl) (by kernel_rfl) (by kernel_rfl) (fun _ _ _ h => h) (Or.inl ⟨by kernel_rfl, ?hy19_t14⟩) (by assumption) ?rest19_t14
      case hy19_t14 => (intro W_ hS_; (try dsimp only at hS_); go_simp; (try (with_reducible rfl)))
      try simp only [Act.put, List.setIfInBounds_toArray, List.set_cons_zero, List.set_cons_succ]
      refine wpAnyH_take' (i := 20) (v := ?v20_t14) 81 rfl rfl (by kernel_rfl) (by kernel_rfl) (by kernel_rfl) (fun _ _ _ h => h) (Or.inl ⟨by kernel_rfl, ?hy20_t14⟩) (by assumption) ?rest20_t14
      case hy20_t14 => (intro W_ hS_; (try dsimp only at hS_); go_simp; (try (with_reducible rfl)))
      try simp only [Act.put, List.setIfInBounds_toArray, List.set_cons_zero, List.set_cons_succ]
      refine wpAnyH_take' (i := 21) (v := ?v21_t14) 82 rfl rfl (by kernel_rfl) (by kernel_rfl) (by kernel_rfl) (fun _ _ _ h => h) (Or.inl ⟨by kernel_rfl, ?hy21_t14⟩) (by assumption) ?rest21_t14
      case hy21_t14 => (intro W_ hS_; (try dsimp only at hS_); go_simp; (try (with_reducible rfl)))
      try simp only [Act.put, List.setIfInBounds_toArray, List.set_cons_zero, List.set_cons_succ]
      refine wpAnyH_take' (i := 22) (v := ?v22_t14) 83 rfl rfl (by kernel_rfl) (by kernel_rfl) (by kernel_rfl) (fun _ _ _ h => h) (Or.inl ⟨by kernel_rfl, ?hy22_t14⟩) (by assumption) ?rest22_t14
      case hy22_t14 => (intro W_ hS_; (try dsimp only at hS_); go_simp; (try (with_reducible rfl)))
      try simp only [Act.put, List.setIfInBounds_toArray, List.set_cons_zero, List.set_cons_succ]
      refine wpAnyH_ready (rs := [23]) (by kernel_rfl) (by simp) ?_
      refine AllReadyH.cons rfl (fun K_ hK_ => ?_) AllReadyH.nil
      go_simp
      refine (covers_q ⟨false, (K : Int), (M : Int)⟩ ⟨false, (KB : Int), (MB : Int)⟩ _ true HS.out.2.2.1).mono ?_; rintro e wr23 ⟨rfl, hBr23⟩
      go_wp2_with fail
      refine hK_.out _ _ (by exact ⟨HasL.cl (f := ⟨false, (K : Int), (M : Int)⟩) (block_below hBr23 (block_below hBr18 (block_below hBr7 (block_below hBr4 (block_below (below_drew1 _) hf4))))), HasF.cf (f := ⟨xx, (I : Int), xr, xn, xa, xm, xc⟩) (block_below hBr23 (block_below hBr18 (block_below hBr7 (block_below hBr4 (block_below (below_drew1 _) hx4))))), HasL.cl (f := ⟨false, (KB : Int), (M : Int)⟩) (block_below hBr23 (block_below hBr18 (block_below hBr7 (block_below hBr4 (block_below (below_drew1 _) hz4))))), HasL.cl (f := ⟨false, (KB : Int), (MB : Int)⟩) (block_below hBr23 (block_below hBr18 (block_below hBr7 (block_below hBr4 (block_below (below_drew1 _) ho4)))))⟩) (fun hHeld_23 => ?_)
      clear hK_
      try simp only [Act.put, List.setIfInBounds_toArray, List.set_cons_zero, List.set_cons_succ]
      refine wpAnyH_take' (i := 24) (v := ?v24_t14) 85 rfl rfl (by kernel_rfl) (by kernel_rfl) (by kernel_rfl) (fun _ _ _ h => h) (Or.inl ⟨by kernel_rfl, ?hy24_t14⟩) (by assumption) ?rest24_t14
      case hy24_t14 => (intro W_ hS_; (try dsimp only at hS_); go_simp; (try (with_reducible rfl)))
      try simp only [Act.put, List.setIfInBounds_toArray, List.set_cons_zero, List.set_cons_succ]
      refine wpAnyH_take' (i := 25) (v := ?v25_t14) 86 rfl rfl (by kernel_rfl) (by kernel_rfl) (by kernel_rfl) (fun _ _ _ h => h) (Or.inl ⟨by kernel_rfl, ?hy25_t14⟩) (by assumption) ?rest25_t14
      case hy25_t14 => (intro W_ hS_; (try dsimp only at hS_); go_simp; (try (with_reducible rfl)))
      try simp only [Act.put, List.setIfInBounds_toArray, List.set_cons_zero, List.set_cons_succ]
      refine wpAnyH_take' (i := 26) (v := ?v26_t14) 87 rfl rfl (by kernel_rfl) (by kernel_rfl) (by kernel_rfl) (fun _ _ _ h => h) (Or.inl ⟨by kernel_rfl, ?hy26_t14⟩) (by assumption) ?rest26_t14
      case hy26_t14 => (intro W_ hS_; (try dsimp only at hS_); go_simp; (try (with_reducible rfl)))
      try simp only [Act.put, List.setIfInBounds_toArray, List.set_cons_zero, List.set_cons_succ]
      refine wpAnyH_take' (i := 27) (v := ?v27_t14) 88 rfl rfl (by kernel_rfl) (by kernel_rfl) (by kernel_rfl) (fun _ _ _ h => h) (Or.inl ⟨by kernel_rfl, ?hy27_t14⟩) (by assumption) ?rest27_t14
      case hy27_t14 => (intro W_ hS_; (try dsimp only at hS_); go_simp; (try (with_reducible rfl)))
      try simp only [Act.put, List.setIfInBounds_toArray, List.set_cons_zero, List.set_cons_succ]
      refine wpAnyH_ready (rs := [28]) (by kernel_rfl) (by simp) ?_
      refine AllReadyH.cons rfl (fun K_ hK_ => ?_) AllReadyH.nil
      go_simp
      refine (meets_q ⟨false, (KB : Int), (M : Int)⟩ ⟨false, (KB : Int), (MB : Int)⟩ _ false HS.out.2.2.2.1).mono ?_; rintro e wr28 ⟨rfl, hBr28⟩
      go_wp2_with fail
      refine hK_.out _ _ (by exact ⟨HasL.cl (f := ⟨false, (K : Int), (M : Int)⟩) (block_below hBr28 (block_below hBr23 (block_below hBr18 (block_below hBr7 (block_below hBr4 (block_below (below_drew1 _) hf4)))))), HasF.cf (f := ⟨xx, (I : Int), xr, xn, xa, xm, xc⟩) (block_below hBr28 (block_below hBr23 (block_below hBr18 (block_below hBr7 (block_below hBr4 (block_below (below_drew1 _) hx4)))))), HasL.cl (f := ⟨false, (KB : Int), (M : Int)⟩) (block_below hBr28 (block_below hBr23 (block_below hBr18 (block_below hBr7 (block_below hBr4 (block_below (below_drew1 _) hz4)))))), HasL.cl (f := ⟨false, (KB : Int), (MB : Int)⟩) (block_below hBr28 (block_below hBr23 (block_below hBr18 (block_below hBr7 (block_below hBr4 (block_below (below_drew1 _) ho4))))))⟩) (fun hHeld_28 => ?_)
      clear hK_
      try simp only [Act.put, List.setIfInBounds_toArray, List.set_cons_zero, List.set_cons_succ]
      refine wpAnyH_take' (i := 29) (v := ?v29_t14) 90 rfl rfl (by kernel_rfl) (by kernel_rfl) (by kernel_rfl) (fun _ _ _ h => h) (Or.inl ⟨by kernel_rfl, ?hy29_t14⟩) (by assumption) ?rest29_t14
      case hy29_t14 => (intro W_ hS_; (try dsimp only at hS_); go_simp; (try (with_reducible rfl)))
      try simp only [Act.put, List.setIfInBounds_toArray, List.set_cons_zero, List.set_cons_succ]
      refine wpAnyH_take' (i := 30) (v := ?v30_t14) 91 rfl rfl (by kernel_rfl) (by kernel_rfl) (by kernel_rfl) (fun _ _ _ h => h) (Or.inl ⟨by kernel_rfl, ?hy30_t14⟩) (by assumption) ?rest30_t14
      case hy30_t14 => (intro W_ hS_; (try dsimp only at hS_); go_simp; (try (with_reducible rfl)))
      try simp only [Act.put, List.setIfInBounds_toArray, List.set_cons_zero, List.set_cons_succ]
      refine wpAnyH_take' (i := 31) (v := ?v31_t14) 92 rfl rfl (by kernel_rfl) (by kernel_rfl) (by kernel_rfl) (fun _ _ _ h => h) (Or.inl ⟨by kernel_rfl, ?hy31_t14⟩) (by assumption) ?rest31_t14
      case hy31_t14 => (intro W_ hS_; (try dsimp only at hS_); go_simp; (try (with_reducible rfl)))
      try simp only [Act.put, List.setIfInBounds_toArray, List.set_cons_zero, List.set_cons_succ]
      refine wpAnyH_take' (i := 32) (v := ?v32_t14) 93 rfl rfl (by kernel_rfl) (by kernel_rfl) (by kernel_rfl) (fun _ _ _ h => h) (Or.inl ⟨by kernel_rfl, ?hy32_t14⟩) (by assumption) ?rest32_t14
      case hy32_t14 => (intro W_ hS_; (try dsimp only at hS_); go_simp; (try (with_reducible rfl)))
      try simp only [Act.put, List.setIfInBounds_toArray, List.set_cons_zero, List.set_cons_succ]
      refine wpAnyH_take' (i := 33) (v := ?v33_t14) 94 rfl rfl (by kernel_rfl) (by kernel_rfl) (by kernel_rfl) (fun _ _ _ h => h) (Or.inl ⟨by kernel_rfl, ?hy33_t14⟩) (by assumption) ?rest33_t14
      case hy33_t14 => (intro W_ hS_; (try dsimp only at hS_); go_simp; (try (with_reducible rfl)))
      try simp only [Act.put, List.setIfInBounds_toArray, List.set_cons_zero, List.set_cons_succ]
      refine wpAnyH_ready (rs := [34]) (by kernel_rfl) (by simp) ?_
      refine AllReadyH.cons rfl (fun K_ hK_ => ?_) AllReadyH.nil
      go_simp
      refine (covers_q ⟨false, (KB : Int), (M : Int)⟩ ⟨false, (K : Int), (M : Int)⟩ _ false HS.out.2.2.2.2).mono ?_; rintro e wr34 ⟨rfl, hBr34⟩
      go_wp2_with fail
      refine hK_.out _ _ (by exact ⟨HasL.cl (f := ⟨false, (K : Int), (M : Int)⟩) (block_below hBr34 (block_below hBr28 (block_below hBr23 (block_below hBr18 (block_below hBr7 (block_below hBr4 (block_below (below_drew1 _) hf4))))))), HasF.cf (f := ⟨xx, (I : Int), xr, xn, xa, xm, xc⟩) (block_below hBr34 (block_below hBr28 (block_below hBr23 (block_below hBr18 (block_below hBr7 (block_below hBr4 (block_below (below_drew1 _) hx4))))))), HasL.cl (f := ⟨false, (KB : Int), (M : Int)⟩) (block_below hBr34 (block_below hBr28 (block_below hBr23 (block_below hBr18 (block_below hBr7 (block_below hBr4 (block_below (below_drew1 _) hz4))))))), HasL.cl (f := ⟨false, (KB : Int), (MB : Int)⟩) (block_below hBr34 (block_below hBr28 (block_below hBr23 (block_below hBr18 (block_below hBr7 (block_below hBr4 (block_below (below_drew1 _) ho4)))))))⟩) (fun hHeld_34 => ?_)
      clear hK_
      try simp only [Act.put, List.setIfInBounds_toArray, List.set_cons_zero, List.set_cons_succ]
      refine wpAnyH_take' (i := 35) (v := ?v35_t14) 96 rfl rfl (by kernel_rfl) (by kernel_rfl) (by kernel_rfl) (fun _ _ _ h => h) (Or.inl ⟨by kernel_rfl, ?hy35_t14⟩) (by assumption) ?rest35_t14
      case hy35_t14 => (intro W_ hS_; (try dsimp only at hS_); go_simp; (try (with_reducible rfl)))
      try simp only [Act.put, List.setIfInBounds_toArray, List.set_cons_zero, List.set_cons_succ]
      refine wpAnyH_take' (i := 36) (v := ?v36_t14) 97 rfl rfl (by kernel_rfl) (by kernel_rfl) (by kernel_rfl) (fun _ _ _ h => h) (Or.inl ⟨by kernel_rfl, ?hy36_t14⟩) (by assumption) ?rest36_t14
      case hy36_t14 => (intro W_ hS_; (try dsimp only at hS_); go_simp; (try (with_reducible rfl)))
      try simp only [Act.put, List.setIfInBounds_toArray, List.set_cons_zero, List.set_cons_succ]
      refine wpAnyH_take' (i := 37) (v := ?v37_t14) 6 rfl rfl (by kernel_rfl) (by kernel_rfl) (by kernel_rfl) (fun _ _ _ h => h) (Or.inl ⟨by kernel_rfl, ?hy37_t14⟩) (by assumption) ?rest37_t14
      case hy37_t14 => (intro W_ hS_; (try dsimp only at hS_); go_simp; (try (with_reducible rfl)))
      try simp only [Act.put, List.setIfInBounds_toArray, List.set_cons_zero, List.set_cons_succ]
      refine wpAnyH_done (by kernel_rfl) ?_ _
      go_wp2_with fail
      go_ret
      exact ⟨rfl, below_then hT4 (below_then (below_then (below_then (below_then (below_then (below_then (below_drew1 _) hBr4) hBr7) hBr18) hBr23) hBr28) hBr34)⟩
  · skip
    clear hf hpa hB hC hKB hMB
    have hc1 : ((C : Int) != 0) = true := by simp; omega
    have hc2 : (C != 0) = true := by simp; omega
    have hc3 : ((C : Int) == 0) = false := by simp; omega
    obtain ⟨fc0, fc1, fc2⟩ := cells3' hf3
    obtain ⟨xc0, xc1, xc2, xc3, xc4⟩ := cells5' hx3
    go_wp2_with fail
    go_ret
    exact ⟨rfl, hT3⟩

end Go.Proofs.Ytmffflckcpgjiaa
