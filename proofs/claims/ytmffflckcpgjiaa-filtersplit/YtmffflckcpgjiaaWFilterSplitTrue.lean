/-
  FilterSplit.
-/
import Derived.Test.YtmffflckcpgjiaaFilLaw
import Derived.Test.YtmffflckcpgjiaaHead7
import Derived.Test.YtmffflckcpgjiaaAny7
namespace Go.Proofs.Ytmffflckcpgjiaa
open Go.RowKit
set_option linter.unusedVariables false
set_option linter.unusedSimpArgs false

set_option maxRecDepth 100000 in
set_option maxHeartbeats 2000000 in
theorem filterSplit_true (fk fm : Int) (xi : Int) (xr : Bool) (xn : Int) (xa : Option Addr) (xm xc : Nat) (hxM : xm ≤ maxLen) (xx : Bool) (T : Nat) (hT : T < 256) (w : World) :
    Calls Try.prog 9 #[.agg #[.bool true, .int .i64 fk, .int .i64 fm], .agg #[.bool xx, .int .i64 xi, .bool xr, .int .i64 xn, .slice xa xm xc], .int .u8 T] w fun e w' => e = .returned (.bool true) ∧ Below w.heap.size w w' := by
  unfold maxLen at hxM
  go_enter Try.func9, Try.ntmps9
  go_wp2_with fail
  obtain ⟨w0, hw0⟩ : ∃ w0, ((w.alloc (.cells #[.bool true, .int .i64 fk, .int .i64 fm] 23)).alloc (.cells #[.bool xx, .int .i64 xi, .bool xr, .int .i64 xn, .slice xa xm xc] 27)) = w0 := ⟨_, rfl⟩
  have hT0 : Below w.heap.size w w0 := by rw [← hw0]; exact below_two _ _ _
  have hf0 : HasL w0 w.heap.size ⟨true, fk, fm⟩ := by rw [← hw0]; exact blk1 _ _ _
  have hx0 : HasF w0 (w.heap.size + 1) ⟨xx, xi, xr, xn, xa, xm, xc⟩ := by rw [← hw0]; exact blk2 _ _ _
  rw [hw0]
  clear hw0
  refine (head7_any w0).mono ?_
  rintro e w1 ⟨rfl, hB1⟩
  have hT1 := below_then hT0 hB1
  have hf1 := block_below hB1 hf0
  have hx1 := block_below hB1 hx0
  clear hT0 hf0 hx0  hB1
  obtain ⟨fc0, fc1, fc2⟩ := cells3' hf1
  obtain ⟨xc0, xc1, xc2, xc3, xc4⟩ := cells5' hx1
  go_wp2_with fail
  clear fc0 fc1 fc2 xc0 xc1 xc2 xc3 xc4
  obtain ⟨qf, hqf⟩ : ∃ q, refRightP ⟨true, fk, fm⟩ = q := ⟨_, rfl⟩
  have Hqf := Lib.hid hqf
  clear hqf
  cases qf
  · skip
    refine (refRight_q ⟨true, fk, fm⟩ w1 false Hqf.out).mono ?_
    rintro e w2 ⟨rfl, hB2⟩
    have hT2 := below_then hT1 hB2
    have hf2 := block_below hB2 hf1
    have hx2 := block_below hB2 hx1
    clear hT1 hf1 hx1  hB2
    obtain ⟨fc0, fc1, fc2⟩ := cells3' hf2
    obtain ⟨xc0, xc1, xc2, xc3, xc4⟩ := cells5' hx2
    go_wp2_with fail
    go_ret
    exact ⟨rfl, hT2⟩
  refine (refRight_q ⟨true, fk, fm⟩ w1 true Hqf.out).mono ?_
  rintro e w2 ⟨rfl, hB2⟩
  have hT2 := below_then hT1 hB2
  have hf2 := block_below hB2 hf1
  have hx2 := block_below hB2 hx1
  clear hT1 hf1 hx1  hB2
  rcases dec (100 < xm) with ⟨dx, gx⟩ | ⟨dx, gx⟩
  · skip
    have dx' : decide ((100 : Int) < (xm : Int)) = true := by simp; omega
    obtain ⟨fc0, fc1, fc2⟩ := cells3' hf2
    obtain ⟨xc0, xc1, xc2, xc3, xc4⟩ := cells5' hx2
    go_wp2_with fail
    go_ret
    exact ⟨rfl, hT2⟩
  have dx' : decide ((100 : Int) < (xm : Int)) = false := by simp; omega
  clear gx hxM
  obtain ⟨fc0, fc1, fc2⟩ := cells3' hf2
  obtain ⟨xc0, xc1, xc2, xc3, xc4⟩ := cells5' hx2
  go_wp2_with fail
  clear fc0 fc1 fc2 xc0 xc1 xc2 xc3 xc4
  obtain ⟨qx, hqx⟩ : ∃ q, frRightP ⟨xx, xi, xr, xn, xa, xm, xc⟩ = q := ⟨_, rfl⟩
  have Hqx := Lib.hid hqx
  clear hqx
  cases qx
  · skip
    refine (frRight_q ⟨xx, xi, xr, xn, xa, xm, xc⟩ w2 false Hqx.out).mono ?_
    rintro e w3 ⟨rfl, hB3⟩
    have hT3 := below_then hT2 hB3
    have hf3 := block_below hB3 hf2
    have hx3 := block_below hB3 hx2
    clear hT2 hf2 hx2  hB3
    obtain ⟨fc0, fc1, fc2⟩ := cells3' hf3
    obtain ⟨xc0, xc1, xc2, xc3, xc4⟩ := cells5' hx3
    go_wp2_with fail
    go_ret
    exact ⟨rfl, hT3⟩
  refine (frRight_q ⟨xx, xi, xr, xn, xa, xm, xc⟩ w2 true Hqx.out).mono ?_
  rintro e w3 ⟨rfl, hB3⟩
  have hT3 := below_then hT2 hB3
  have hf3 := block_below hB3 hf2
  have hx3 := block_below hB3 hx2
  clear hT2 hf2 hx2  hB3
  clear dx dx'
  obtain ⟨I, hI, lI, mI⟩ := frRight_id Hqx.out
  dsimp only at hI
  subst hI
  clear lI
  obtain ⟨K, M, hf⟩ := okL_of Hqf.out
  have hfk : fk = (K : Int) := hf.k
  have hfm : fm = (M : Int) := hf.m
  subst hfk hfm
  have hpa := pow_all true (p := T % 29) (by simp; omega)
  obtain ⟨B, hB⟩ : ∃ B, 2 ^ (T % 29) = B := ⟨_, rfl⟩
  have hsh : wrap64 (2 ^ (T % 29)) = (B : Int) := by rw [wrap_pow29 hpa.2, hB]
  have lB : B < 536870912 := by rw [← hB]; exact hpa.2
  have lK := hf.kl
  have lM := hf.ml
  obtain ⟨C, hC⟩ : ∃ C, K &&& B = C := ⟨_, rfl⟩
  have hand : bits .and .i64 (K : Int) (B : Int) = (C : Int) := by rw [and_nat (by omega) (by omega), hC]
  obtain ⟨KB, hKB⟩ : ∃ C, K ||| B = C := ⟨_, rfl⟩
  have hor1 : bits .or .i64 (K : Int) (B : Int) = (KB : Int) := by rw [or_nat (by omega) (by omega), hKB]
  obtain ⟨MB, hMB⟩ : ∃ C, M ||| B = C := ⟨_, rfl⟩
  have hor2 : bits .or .i64 (M : Int) (B : Int) = (MB : Int) := by rw [or_nat (by omega) (by omega), hMB]
  by_cases hC0 : C = 0
  · skip
    have hz : K &&& 2 ^ (T % 29) = 0 := by rw [hB, hC, hC0]
    have hs := split_all (f := ⟨true, (K : Int), (M : Int)⟩) hf hpa.1 hz xx (i := I) (by omega)
    rw [hB, hKB, hMB] at hs
    have HS := Lib.hid hs
    clear hs hz hf hpa hB lB lK lM hKB hMB hC
    subst hC0
    obtain ⟨z, hz⟩ : ∃ q, takesV ⟨true, (KB : Int), (M : Int)⟩ xx (I : Int) = q := ⟨_, rfl⟩
    have Hz := Lib.hid hz
    clear hz
    obtain ⟨o, ho⟩ : ∃ q, takesV ⟨true, (KB : Int), (MB : Int)⟩ xx (I : Int) = q := ⟨_, rfl⟩
    have Ho := Lib.hid ho
    clear ho
    have Hq : takesV ⟨true, (K : Int), (M : Int)⟩ xx (I : Int) = (z || o) := by rw [HS.out.1, Hz.out, Ho.out]
    have HQ := Lib.hid Hq
    clear Hq
    obtain ⟨fc0, fc1, fc2⟩ := cells3' hf3
    obtain ⟨xc0, xc1, xc2, xc3, xc4⟩ := cells5' hx3
    have hlf := (Array.getElem?_eq_some_iff.1 hf3).1
    have hlx := (Array.getElem?_eq_some_iff.1 hx3).1
    go_wp2_with fail
    clear fc0 fc1 fc2 xc0 xc1 xc2 xc3 xc4 hlf hlx
    clear hsh hand hor1 hor2
    obtain ⟨w4, hw4⟩ : ∃ w4, ((w3.alloc (.cells #[.bool true, .int .i64 (KB : Int), .int .i64 (M : Int)] 23)).alloc (.cells #[.bool true, .int .i64 (KB : Int), .int .i64 (MB : Int)] 23)) = w4 := ⟨_, rfl⟩
    have hB4 : Below w3.heap.size w3 w4 := by rw [← hw4]; exact below_two _ _ _
    have hz4 : HasL w4 w3.heap.size ⟨true, (KB : Int), (M : Int)⟩ := by rw [← hw4]; exact blk1 _ _ _
    have ho4 : HasL w4 (w3.heap.size + 1) ⟨true, (KB : Int), (MB : Int)⟩ := by rw [← hw4]; exact blk2 _ _ _
    rw [hw4]
    clear hw4
    have hT4 := below_then hT3 hB4
    have hf4 := block_below hB4 hf3
    have hx4 := block_below hB4 hx3
    clear hT3 hf3 hx3  hB4
    cases z
    · skip
      refine wp_region_held_drew (S := fun W => (W.cell? ⟨w.heap.size, 0, none⟩ = some (.bool true) ∧ W.cell? ⟨w.heap.size, 1, none⟩ = some (.int .i64 (K : Int)) ∧ W.cell? ⟨w.heap.size, 2, none⟩ = some (.int .i64 (M : Int))) ∧ (W.cell? ⟨(w.heap.size + 1), 0, none⟩ = some (.bool xx) ∧ W.cell? ⟨(w.heap.size + 1), 1, none⟩ = some (.int .i64 (I : Int)) ∧ W.cell? ⟨(w.heap.size + 1), 2, none⟩ = some (.bool xr) ∧ W.cell? ⟨(w.heap.size + 1), 3, none⟩ = some (.int .i64 xn) ∧ W.cell? ⟨(w.heap.size + 1), 4, none⟩ = some (.slice xa xm xc)) ∧ (W.cell? ⟨w3.heap.size, 0, none⟩ = some (.bool true) ∧ W.cell? ⟨w3.heap.size, 1, none⟩ = some (.int .i64 (KB : Int)) ∧ W.cell? ⟨w3.heap.size, 2, none⟩ = some (.int .i64 (M : Int))) ∧ (W.cell? ⟨(w3.heap.size + 1), 0, none⟩ = some (.bool true) ∧ W.cell? ⟨(w3.heap.size + 1), 1, none⟩ = some (.int .i64 (KB : Int)) ∧ W.cell? ⟨(w3.heap.size + 1), 2, none⟩ = some (.int .i64 (MB : Int)))) (by kernel_rfl) (by exact ⟨HasL.cl (f := ⟨true, (K : Int), (M : Int)⟩) (block_below (below_drew1 _) hf4), HasF.cf (f := ⟨xx, (I : Int), xr, xn, xa, xm, xc⟩) (block_below (below_drew1 _) hx4), HasL.cl (f := ⟨true, (KB : Int), (M : Int)⟩) (block_below (below_drew1 _) hz4), HasL.cl (f := ⟨true, (KB : Int), (MB : Int)⟩) (block_below (below_drew1 _) ho4)⟩) (fun hHeld_ => ?_)
      refine wpAnyH_take' (i := 0) (v := ?v0_t15) 61 rfl rfl (by kernel_rfl) (by kernel_rfl) (by kernel_rfl) (fun _ _ _ h => h) (Or.inl ⟨by kernel_rfl, ?hy0_t15⟩) (by assumption) ?rest0_t15
      case hy0_t15 => (intro W_ hS_; (try dsimp only at hS_); go_simp; (try (with_reducible rfl)))
      try simp only [Act.put, List.setIfInBounds_toArray, List.set_cons_zero, List.set_cons_succ]
      refine wpAnyH_take' (i := 1) (v := ?v1_t15) 62 rfl rfl (by kernel_rfl) (by kernel_rfl) (by kernel_rfl) (fun _ _ _ h => h) (Or.inl ⟨by kernel_rfl, ?hy1_t15⟩) (by assumption) ?rest1_t15
      case hy1_t15 => (intro W_ hS_; (try dsimp only at hS_); go_simp; (try (with_reducible rfl)))
      try simp only [Act.put, List.setIfInBounds_toArray, List.set_cons_zero, List.set_cons_succ]
      refine wpAnyH_take' (i := 2) (v := ?v2_t15) 63 rfl rfl (by kernel_rfl) (by kernel_rfl) (by kernel_rfl) (fun _ _ _ h => h) (Or.inl ⟨by kernel_rfl, ?hy2_t15⟩) (by assumption) ?rest2_t15
      case hy2_t15 => (intro W_ hS_; (try dsimp only at hS_); go_simp; (try (with_reducible rfl)))
      try simp only [Act.put, List.setIfInBounds_toArray, List.set_cons_zero, List.set_cons_succ]
      refine wpAnyH_take' (i := 3) (v := ?v3_t15) 64 rfl rfl (by kernel_rfl) (by kernel_rfl) (by kernel_rfl) (fun _ _ _ h => h) (Or.inl ⟨by kernel_rfl, ?hy3_t15⟩) (by assumption) ?rest3_t15
      case hy3_t15 => (intro W_ hS_; (try dsimp only at hS_); go_simp; (try (with_reducible rfl)))
      try simp only [Act.put, List.setIfInBounds_toArray, List.set_cons_zero, List.set_cons_succ]
      refine wpAnyH_take' (i := 5) (v := ?v5_t15) 66 rfl rfl (by kernel_rfl) (by kernel_rfl) (by kernel_rfl) (fun _ _ _ h => h) (Or.inl ⟨by kernel_rfl, ?hy5_t15⟩) (by assumption) ?rest5_t15
      case hy5_t15 => (intro W_ hS_; (try dsimp only at hS_); go_simp; (try (with_reducible rfl)))
      try simp only [Act.put, List.setIfInBounds_toArray, List.set_cons_zero, List.set_cons_succ]
      refine wpAnyH_take' (i := 6) (v := ?v6_t15) 67 rfl rfl (by kernel_rfl) (by kernel_rfl) (by kernel_rfl) (fun _ _ _ h => h) (Or.inl ⟨by kernel_rfl, ?hy6_t15⟩) (by assumption) ?rest6_t15
      case hy6_t15 => (intro W_ hS_; (try dsimp only at hS_); go_simp; (try (with_reducible rfl)))
      try simp only [Act.put, List.setIfInBounds_toArray, List.set_cons_zero, List.set_cons_succ]
      refine wpAnyH_ready (rs := [4]) (by kernel_rfl) (by simp) ?_
      refine AllReadyH.cons rfl (fun K_ hK_ => ?_) AllReadyH.nil
      go_simp
      refine (takes_q ⟨true, (K : Int), (M : Int)⟩ ⟨xx, (I : Int), xr, xn, xa, xm, xc⟩ _ o (by rw [HQ.out]; simp)).mono ?_; rintro e wr4 ⟨rfl, hBr4⟩
      go_wp2_with fail
      refine hK_.out _ _ (by exact ⟨HasL.cl (f := ⟨true, (K : Int), (M : Int)⟩) (block_below hBr4 (block_below (below_drew1 _) hf4)), HasF.cf (f := ⟨xx, (I : Int), xr, xn, xa, xm, xc⟩) (block_below hBr4 (block_below (below_drew1 _) hx4)), HasL.cl (f := ⟨true, (KB : Int), (M : Int)⟩) (block_below hBr4 (block_below (below_drew1 _) hz4)), HasL.cl (f := ⟨true, (KB : Int), (MB : Int)⟩) (block_below hBr4 (block_below (below_drew1 _) ho4))⟩) (fun hHeld_4 => ?_)
      clear hK_
      try simp only [Act.put, List.setIfInBounds_toArray, List.set_cons_zero, List.set_cons_succ]
      refine wpAnyH_ready (rs := [7]) (by kernel_rfl) (by simp) ?_
      refine AllReadyH.cons rfl (fun K_ hK_ => ?_) AllReadyH.nil
      go_simp
      refine (takes_q ⟨true, (KB : Int), (M : Int)⟩ ⟨xx, (I : Int), xr, xn, xa, xm, xc⟩ _ false Hz.out).mono ?_; rintro e wr7 ⟨rfl, hBr7⟩
      go_wp2_with fail
      refine hK_.out _ _ (by exact ⟨HasL.cl (f := ⟨true, (K : Int), (M : Int)⟩) (block_below hBr7 (block_below hBr4 (block_below (below_drew1 _) hf4))), HasF.cf (f := ⟨xx, (I : Int), xr, xn, xa, xm, xc⟩) (block_below hBr7 (block_below hBr4 (block_below (below_drew1 _) hx4))), HasL.cl (f := ⟨true, (KB : Int), (M : Int)⟩) (block_below hBr7 (block_below hBr4 (block_below (below_drew1 _) hz4))), HasL.cl (f := ⟨true, (KB : Int), (MB : Int)⟩) (block_below hBr7 (block_below hBr4 (block_below (below_drew1 _) ho4)))⟩) (fun hHeld_7 => ?_)
      clear hK_
      try simp only [Act.put, List.setIfInBounds_toArray, List.set_cons_zero, List.set_cons_succ]
      refine wpAnyH_take' (i := 8) (v := ?v8_t15) 69 rfl rfl (by kernel_rfl) (by kernel_rfl) (by kernel_rfl) (fun _ _ _ h => h) (Or.inl ⟨by kernel_rfl, ?hy8_t15⟩) (by assumption) ?rest8_t15
      case hy8_t15 => (intro W_ hS_; (try dsimp only at hS_); go_simp; (try (with_reducible rfl)))
      try simp only [Act.put, List.setIfInBounds_toArray, List.set_cons_zero, List.set_cons_succ]
      refine wpAnyH_take' (i := 9) (v := ?v9_t15) 70 rfl rfl (by kernel_rfl) (by kernel_rfl) (by kernel_rfl) (fun _ _ _ h => h) (Or.inl ⟨by kernel_rfl, ?hy9_t15⟩) (by assumption) ?rest9_t15
      case hy9_t15 => (intro W_ hS_; (try dsimp only at hS_); go_simp; (try (with_reducible rfl)))
      try simp only [Act.put, List.setIfInBounds_toArray, List.set_cons_zero, List.set_cons_succ]
      refine wpAnyH_take' (i := 10) (v := ?v10_t15) 71 rfl rfl (by kernel_rfl) (by kernel_rfl) (by kernel_rfl) (fun _ _ _ h => h) (Or.inl ⟨by kernel_rfl, ?hy10_t15⟩) (by assumption) ?rest10_t15
      case hy10_t15 => (intro W_ hS_; (try dsimp only at hS_); go_simp; (try (with_reducible rfl)))
      try simp only [Act.put, List.setIfInBounds_toArray, List.set_cons_zero, List.set_cons_succ]
      refine wpAnyH_ready (rs := [11]) (by kernel_rfl) (by simp) ?_
      refine AllReadyH.cons rfl (fun K_ hK_ => ?_) AllReadyH.nil
      go_simp
      refine (takes_q ⟨true, (KB : Int), (MB : Int)⟩ ⟨xx, (I : Int), xr, xn, xa, xm, xc⟩ _ o Ho.out).mono ?_; rintro e wr11 ⟨rfl, hBr11⟩
      go_wp2_with fail
      refine hK_.out _ _ (by exact ⟨HasL.cl (f := ⟨true, (K : Int), (M : Int)⟩) (block_below hBr11 (block_below hBr7 (block_below hBr4 (block_below (below_drew1 _) hf4)))), HasF.cf (f := ⟨xx, (I : Int), xr, xn, xa, xm, xc⟩) (block_below hBr11 (block_below hBr7 (block_below hBr4 (block_below (below_drew1 _) hx4)))), HasL.cl (f := ⟨true, (KB : Int), (M : Int)⟩) (block_below hBr11 (block_below hBr7 (block_below hBr4 (block_below (below_drew1 _) hz4)))), HasL.cl (f := ⟨true, (KB : Int), (MB : Int)⟩) (block_below hBr11 (block_below hBr7 (block_below hBr4 (block_below (below_drew1 _) ho4))))⟩) (fun hHeld_11 => ?_)
      clear hK_
      try simp only [Act.put, List.setIfInBounds_toArray, List.set_cons_zero, List.set_cons_succ]
      refine wpAnyH_take' (i := 12) (v := ?v12_t15) 73 rfl rfl (by kernel_rfl) (by kernel_rfl) (by kernel_rfl) (fun _ _ _ h => h) (Or.inl ⟨by kernel_rfl, ?hy12_t15⟩) (by assumption) ?rest12_t15
      case hy12_t15 => (intro W_ hS_; (try dsimp only at hS_); go_simp; (try (with_reducible rfl)))
      try simp only [Act.put, List.setIfInBounds_toArray, List.set_cons_zero, List.set_cons_succ]
      refine wpAnyH_take' (i := 13) (v := ?v13_t15) 74 rfl rfl (by kernel_rfl) (by kernel_rfl) (by kernel_rfl) (fun _ _ _ h => h) (Or.inl ⟨by kernel_rfl, ?hy13_t15⟩) (by assumption) ?rest13_t15
      case hy13_t15 => (intro W_ hS_; (try dsimp only at hS_); go_simp; (try (with_reducible rfl)))
      try simp only [Act.put, List.setIfInBounds_toArray, List.set_cons_zero, List.set_cons_succ]
      refine wpAnyH_take' (i := 14) (v := ?v14_t15) 75 rfl rfl (by kernel_rfl) (by kernel_rfl) (by kernel_rfl) (fun _ _ _ h => h) (Or.inl ⟨by kernel_rfl, ?hy14_t15⟩) (by assumption) ?rest14_t15
      case hy14_t15 => (intro W_ hS_; (try dsimp only at hS_); go_simp; (try (with_reducible rfl)))
      try simp only [Act.put, List.setIfInBounds_toArray, List.set_cons_zero, List.set_cons_succ]
      refine wpAnyH_take' (i := 15) (v := ?v15_t15) 76 rfl rfl (by kernel_rfl) (by kernel_rfl) (by kernel_rfl) (fun _ _ _ h => h) (Or.inl ⟨by kernel_rfl, ?hy15_t15⟩) (by assumption) ?rest15_t15
      case hy15_t15 => (intro W_ hS_; (try dsimp only at hS_); go_simp; (try (with_reducible rfl)))
      try simp only [Act.put, List.setIfInBounds_toArray, List.set_cons_zero, List.set_cons_succ]
      refine wpAnyH_take' (i := 16) (v := ?v16_t15) 77 rfl rfl (by kernel_rfl) (by kernel_rfl) (by kernel_rfl) (fun _ _ _ h => h) (Or.inl ⟨by kernel_rfl, ?hy16_t15⟩) (by assumption) ?rest16_t15
      case hy16_t15 => (intro W_ hS_; (try dsimp only at hS_); go_simp; (try (with_reducible rfl)))
      try simp only [Act.put, List.setIfInBounds_toArray, List.set_cons_zero, List.set_cons_succ]
      refine wpAnyH_take' (i := 17) (v := ?v17_t15) 78 rfl rfl (by kernel_rfl) (by kernel_rfl) (by kernel_rfl) (fun _ _ _ h => h) (Or.inl ⟨by kernel_rfl, ?hy17_t15⟩) (by assumption) ?rest17_t15
      case hy17_t15 => (intro W_ hS_; (try dsimp only at hS_); go_simp; (try (with_reducible rfl)))
      try simp only [Act.put, List.setIfInBounds_toArray, List.set_cons_zero, List.set_cons_succ]
      refine wpAnyH_ready (rs := [18]) (by kernel_rfl) (by simp) ?_
      refine AllReadyH.cons rfl (fun K_ hK_ => ?_) AllReadyH.nil
      go_simp
      refine (covers_q ⟨true, (K : Int), (M : Int)⟩ ⟨true, (KB : Int), (M : Int)⟩ _ true HS.out.2.1).mono ?_; rintro e wr18 ⟨rfl, hBr18⟩
      go_wp2_with fail
      refine hK_.out _ _ (by exact ⟨HasL.cl (f := ⟨true, (K : Int), (M : Int)⟩) (block_below hBr18 (block_below hBr11 (block_below hBr7 (block_below hBr4 (block_below (below_drew1 _) hf4))))), HasF.cf (f := ⟨xx, (I : Int), xr, xn, xa, xm, xc⟩) (block_below hBr18 (block_below hBr11 (block_below hBr7 (block_below hBr4 (block_below (below_drew1 _) hx4))))), HasL.cl (f := ⟨true, (KB : Int), (M : Int)⟩) (block_below hBr18 (block_below hBr11 (block_below hBr7 (block_below hBr4 (block_below (below_drew1 _) hz4))))), HasL.cl (f := ⟨true, (KB : Int), (MB : Int)⟩) (block_below hBr18 (block_below hBr11 (block_below hBr7 (block_below hBr4 (block_below (below_drew1 _) ho4)))))⟩) (fun hHeld_18 => ?_)
      clear hK_
      try simp only [Act.put, List.setIfInBounds_toArray, List.set_cons_zero, List.set_cons_succ]
      refine wpAnyH_take' (i := 19) (v := ?v19_t15) 80 rfl rfl (by kernel_rfl) (by kernel_rfl) (by kernel_rfl) (fun _ _ _ h => h) (Or.inl ⟨by kernel_rfl, ?hy19_t15⟩) (by assumption) ?rest19_t15
      case hy19_t15 => (intro W_ hS_; (try dsimp only at hS_); go_simp; (try (with_reducible rfl)))
      try simp only [Act.put, List.setIfInBounds_toArray, List.set_cons_zero, List.set_cons_succ]
      refine wpAnyH_take' (i := 20) (v := ?v20_t15) 81 rfl rfl (by kernel_rfl) (by kernel_rfl) (by kernel_rfl) (fun _ _ _ h => h) (Or.inl ⟨by kernel_rfl, ?hy20_t15⟩) (by assumption) ?rest20_t15
      case hy20_t15 => (intro W_ hS_; (try dsimp only at hS_); go_simp; (try (with_reducible rfl)))
      try simp only [Act.put, List.setIfInBounds_toArray, List.set_cons_zero, List.set_cons_succ]
      refine wpAnyH_take' (i := 21) (v := ?v21_t15) 82 rfl rfl (by kernel_rfl) (by kernel_rfl) (by kernel_rfl) (fun _ _ _ h => h) (Or.inl ⟨by kernel_rfl, ?hy21_t15⟩) (by assumption) ?rest21_t15
      case hy21_t15 => (intro W_ hS_; (try dsimp only at hS_); go_simp; (try (with_reducible rfl)))
      try simp only [Act.put, List.setIfInBounds_toArray, List.set_cons_zero, List.set_cons_succ]
      refine wpAnyH_take' (i := 22) (v := ?v22_t15) 83 rfl rfl (by kernel_rfl) (by kernel_rfl) (by kernel_rfl) (fun _ _ _ h => h) (Or.inl ⟨by kernel_rfl, ?hy22_t15⟩) (by assumption) ?rest22_t15
      case hy22_t15 => (intro W_ hS_; (try dsimp only at hS_); go_simp; (try (with_reducible rfl)))
      try simp only [Act.put, List.setIfInBounds_toArray, List.set_cons_zero, List.set_cons_succ]
      refine wpAnyH_ready (rs := [23]) (by kernel_rfl) (by simp) ?_
      refine AllReadyH.cons rfl (fun K_ hK_ => ?_) AllReadyH.nil
      go_simp
      refine (covers_q ⟨true, (K : Int), (M : Int)⟩ ⟨true, (KB : Int), (MB : Int)⟩ _ true HS.out.2.2.1).mono ?_; rintro e wr23 ⟨rfl, hBr23⟩
      go_wp2_with fail
      refine hK_.out _ _ (by exact ⟨HasL.cl (f := ⟨true, (K : Int), (M : Int)⟩) (block_below hBr23 (block_below hBr18 (block_below hBr11 (block_below hBr7 (block_below hBr4 (block_below (below_drew1 _) hf4)))))), HasF.cf (f := ⟨xx, (I : Int), xr, xn, xa, xm, xc⟩) (block_below hBr23 (block_below hBr18 (block_below hBr11 (block_below hBr7 (block_below hBr4 (block_below (below_drew1 _) hx4)))))), HasL.cl (f := ⟨true, (KB : Int), (M : Int)⟩) (block_below hBr23 (block_below hBr18 (block_below hBr11 (block_below hBr7 (block_below hBr4 (block_below (below_drew1 _) hz4)))))), HasL.cl (f := ⟨true, (KB : Int), (MB : Int)⟩) (block_below hBr23 (block_below hBr18 (block_below hBr11 (block_below hBr7 (block_below hBr4 (block_below (below_drew1 _) ho4))))))⟩) (fun hHeld_23 => ?_)
      clear hK_
      try simp only [Act.put, List.setIfInBounds_toArray, List.set_cons_zero, List.set_cons_succ]
      refine wpAnyH_take' (i := 24) (v := ?v24_t15) 85 rfl rfl (by kernel_rfl) (by kernel_rfl) (by kernel_rfl) (fun _ _ _ h => h) (Or.inl ⟨by kernel_rfl, ?hy24_t15⟩) (by assumption) ?rest24_t15
      case hy24_t15 => (intro W_ hS_; (try dsimp only at hS_); go_simp; (try (with_reducible rfl)))
      try simp only [Act.put, List.setIfInBounds_toArray, List.set_cons_zero, List.set_cons_succ]
      refine wpAnyH_take' (i := 25) (v := ?v25_t15) 86 rfl rfl (by kernel_rfl) (by kernel_rfl) (by kernel_rfl) (fun _ _ _ h => h) (Or.inl ⟨by kernel_rfl, ?hy25_t15⟩) (by assumption) ?rest25_t15
      case hy25_t15 => (intro W_ hS_; (try dsimp only at hS_); go_simp; (try (with_reducible rfl)))
      try simp only [Act.put, List.setIfInBounds_toArray, List.set_cons_zero, List.set_cons_succ]
      refine wpAnyH_take' (i := 26) (v := ?v26_t15) 87 rfl rfl (by kernel_rfl) (by kernel_rfl) (by kernel_rfl) (fun _ _ _ h => h) (Or.inl ⟨by kernel_rfl, ?hy26_t15⟩) (by assumption) ?rest26_t15
      case hy26_t15 => (intro W_ hS_; (try dsimp only at hS_); go_simp; (try (with_reducible rfl)))
      try simp only [Act.put, List.setIfInBounds_toArray, List.set_cons_zero, List.set_cons_succ]
      refine wpAnyH_take' (i := 27) (v := ?v27_t15) 88 rfl rfl (by kernel_rfl) (by kernel_rfl) (by kernel_rfl) (fun _ _ _ h => h) (Or.inl ⟨by kernel_rfl, ?hy27_t15⟩) (by assumption) ?rest27_t15
      case hy27_t15 => (intro W_ hS_; (try dsimp only at hS_); go_simp; (try (with_reducible rfl)))
      try simp only [Act.put, List.setIfInBounds_toArray, List.set_cons_zero, List.set_cons_succ]
      refine wpAnyH_ready (rs := [28]) (by kernel_rfl) (by simp) ?_
      refine AllReadyH.cons rfl (fun K_ hK_ => ?_) AllReadyH.nil
      go_simp
      refine (meets_q ⟨true, (KB : Int), (M : Int)⟩ ⟨true, (KB : Int), (MB : Int)⟩ _ false HS.out.2.2.2.1).mono ?_; rintro e wr28 ⟨rfl, hBr28⟩
      go_wp2_with fail
      refine hK_.out _ _ (by exact ⟨HasL.cl (f := ⟨true, (K : Int), (M : Int)⟩) (block_below hBr28 (block_below hBr23 (block_below hBr18 (block_below hBr11 (block_below hBr7 (block_below hBr4 (block_below (below_drew1 _) hf4))))))), HasF.cf (f := ⟨xx, (I : Int), xr, xn, xa, xm, xc⟩) (block_below hBr28 (block_below hBr23 (block_below hBr18 (block_below hBr11 (block_below hBr7 (block_below hBr4 (block_below (below_drew1 _) hx4))))))), HasL.cl (f := ⟨true, (KB : Int), (M : Int)⟩) (block_below hBr28 (block_below hBr23 (block_below hBr18 (block_below hBr11 (block_below hBr7 (block_below hBr4 (block_below (below_drew1 _) hz4))))))), HasL.cl (f := ⟨true, (KB : Int), (MB : Int)⟩) (block_below hBr28 (block_below hBr23 (block_below hBr18 (block_below hBr11 (block_below hBr7 (block_below hBr4 (block_below (below_drew1 _) ho4)))))))⟩) (fun hHeld_28 => ?_)
      clear hK_
      try simp only [Act.put, List.setIfInBounds_toArray, List.set_cons_zero, List.set_cons_succ]
      refine wpAnyH_take' (i := 29) (v := ?v29_t15) 90 rfl rfl (by kernel_rfl) (by kernel_rfl) (by kernel_rfl) (fun _ _ _ h => h) (Or.inl ⟨by kernel_rfl, ?hy29_t15⟩) (by assumption) ?rest29_t15
      case hy29_t15 => (intro W_ hS_; (try dsimp only at hS_); go_simp; (try (with_reducible rfl)))
      try simp only [Act.put, List.setIfInBounds_toArray, List.set_cons_zero, List.set_cons_succ]
      refine wpAnyH_take' (i := 30) (v := ?v30_t15) 91 rfl rfl (by kernel_rfl) (by kernel_rfl) (by kernel_rfl) (fun _ _ _ h => h) (Or.inl ⟨by kernel_rfl, ?hy30_t15⟩) (by assumption) ?rest30_t15
      case hy30_t15 => (intro W_ hS_; (try dsimp only at hS_); go_simp; (try (with_reducible rfl)))
      try simp only [Act.put, List.setIfInBounds_toArray, List.set_cons_zero, List.set_cons_succ]
      refine wpAnyH_take' (i := 31) (v := ?v31_t15) 92 rfl rfl (by kernel_rfl) (by kernel_rfl) (by kernel_rfl) (fun _ _ _ h => h) (Or.inl ⟨by kernel_rfl, ?hy31_t15⟩) (by assumption) ?rest31_t15
      case hy31_t15 => (intro W_ hS_; (try dsimp only at hS_); go_simp; (try (with_reducible rfl)))
      try simp only [Act.put, List.setIfInBounds_toArray, List.set_cons_zero, List.set_cons_succ]
      refine wpAnyH_take' (i := 32) (v := ?v32_t15) 93 rfl rfl (by kernel_rfl) (by kernel_rfl) (by kernel_rfl) (fun _ _ _ h => h) (Or.inl ⟨by kernel_rfl, ?hy32_t15⟩) (by assumption) ?rest32_t15
      case hy32_t15 => (intro W_ hS_; (try dsimp only at hS_); go_simp; (try (with_reducible rfl)))
      try simp only [Act.put, List.setIfInBounds_toArray, List.set_cons_zero, List.set_cons_succ]
      refine wpAnyH_take' (i := 33) (v := ?v33_t15) 94 rfl rfl (by kernel_rfl) (by kernel_rfl) (by kernel_rfl) (fun _ _ _ h => h) (Or.inl ⟨by kernel_rfl, ?hy33_t15⟩) (by assumption) ?rest33_t15
      case hy33_t15 => (intro W_ hS_; (try dsimp only at hS_); go_simp; (try (with_reducible rfl)))
      try simp only [Act.put, List.setIfInBounds_toArray, List.set_cons_zero, List.set_cons_succ]
      refine wpAnyH_ready (rs := [34]) (by kernel_rfl) (by simp) ?_
      refine AllReadyH.cons rfl (fun K_ hK_ => ?_) AllReadyH.nil
      go_simp
      refine (covers_q ⟨true, (KB : Int), (M : Int)⟩ ⟨true, (K : Int), (M : Int)⟩ _ false HS.out.2.2.2.2).mono ?_; rintro e wr34 ⟨rfl, hBr34⟩
      go_wp2_with fail
      refine hK_.out _ _ (by exact ⟨HasL.cl (f := ⟨true, (K : Int), (M : Int)⟩) (block_below hBr34 (block_below hBr28 (block_below hBr23 (block_below hBr18 (block_below hBr11 (block_below hBr7 (block_below hBr4 (block_below (below_drew1 _) hf4)))))))), HasF.cf (f := ⟨xx, (I : Int), xr, xn, xa, xm, xc⟩) (block_below hBr34 (block_below hBr28 (block_below hBr23 (block_below hBr18 (block_below hBr11 (block_below hBr7 (block_below hBr4 (block_below (below_drew1 _) hx4)))))))), HasL.cl (f := ⟨true, (KB : Int), (M : Int)⟩) (block_below hBr34 (block_below hBr28 (block_below hBr23 (block_below hBr18 (block_below hBr11 (block_below hBr7 (block_below hBr4 (block_below (below_drew1 _) hz4)))))))), HasL.cl (f := ⟨true, (KB : Int), (MB : Int)⟩) (block_below hBr34 (block_below hBr28 (block_below hBr23 (block_below hBr18 (block_below hBr11 (block_below hBr7 (block_below hBr4 (block_below (below_drew1 _) ho4))))))))⟩) (fun hHeld_34 => ?_)
      clear hK_
      try simp only [Act.put, List.setIfInBounds_toArray, List.set_cons_zero, List.set_cons_succ]
      refine wpAnyH_take' (i := 35) (v := ?v35_t15) 96 rfl rfl (by kernel_rfl) (by kernel_rfl) (by kernel_rfl) (fun _ _ _ h => h) (Or.inl ⟨by kernel_rfl, ?hy35_t15⟩) (by assumption) ?rest35_t15
      case hy35_t15 => (intro W_ hS_; (try dsimp only at hS_); go_simp; (try (with_reducible rfl)))
      try simp only [Act.put, List.setIfInBounds_toArray, List.set_cons_zero, List.set_cons_succ]
      refine wpAnyH_take' (i := 36) (v := ?v36_t15) 97 rfl rfl (by kernel_rfl) (by kernel_rfl) (by kernel_rfl) (fun _ _ _ h => h) (Or.inl ⟨by kernel_rfl, ?hy36_t15⟩) (by assumption) ?rest36_t15
      case hy36_t15 => (intro W_ hS_; (try dsimp only at hS_); go_simp; (try (with_reducible rfl)))
      try simp only [Act.put, List.setIfInBounds_toArray, List.set_cons_zero, List.set_cons_succ]
      refine wpAnyH_take' (i := 37) (v := ?v37_t15) 6 rfl rfl (by kernel_rfl) (by kernel_rfl) (by kernel_rfl) (fun _ _ _ h => h) (Or.inl ⟨by kernel_rfl, ?hy37_t15⟩) (by assumption) ?rest37_t15
      case hy37_t15 => (intro W_ hS_; (try dsimp only at hS_); go_simp; (try (with_reducible rfl)))
      try simp only [Act.put, List.setIfInBounds_toArray, List.set_cons_zero, List.set_cons_succ]
      refine wpAnyH_done (by kernel_rfl) ?_ _
      go_wp2_with fail
      go_ret
      exact ⟨rfl, below_then hT4 (below_then (below_then (below_then (below_then (below_then (below_then (below_then (below_drew1 _) hBr4) hBr7) hBr11) hBr18) hBr23) hBr28) hBr34)⟩
    · skip
      refine wp_region_held_drew (S := fun W => (W.cell? ⟨w.heap.size, 0, none⟩ = some (.bool true) ∧ W.cell? ⟨w.heap.size, 1, none⟩ = some (.int .i64 (K : Int)) ∧ W.cell? ⟨w.heap.size, 2, none⟩ = some (.int .i64 (M : Int))) ∧ (W.cell? ⟨(w.heap.size + 1), 0, none⟩ = some (.bool xx) ∧ W.cell? ⟨(w.heap.size + 1), 1, none⟩ = some (.int .i64 (I : Int)) ∧ W.cell? ⟨(w.heap.size + 1), 2, none⟩ = some (.bool xr) ∧ W.cell? ⟨(w.heap.size + 1), 3, none⟩ = some (.int .i64 xn) ∧ W.cell? ⟨(w.heap.size + 1), 4, none⟩ = some (.slice xa xm xc)) ∧ (W.cell? ⟨w3.heap.size, 0, none⟩ = some (.bool true) ∧ W.cell? ⟨w3.heap.size, 1, none⟩ = some (.int .i64 (KB : Int)) ∧ W.cell? ⟨w3.heap.size, 2, none⟩ = some (.int .i64 (M : Int))) ∧ (W.cell? ⟨(w3.heap.size + 1), 0, none⟩ = some (.bool true) ∧ W.cell? ⟨(w3.heap.size + 1), 1, none⟩ = some (.int .i64 (KB : Int)) ∧ W.cell? ⟨(w3.heap.size + 1), 2, none⟩ = some (.int .i64 (MB : Int)))) (by kernel_rfl) (by exact ⟨HasL.cl (f := ⟨true, (K : Int), (M : Int)⟩) (block_below (below_drew1 _) hf4), HasF.cf (f := ⟨xx, (I : Int), xr, xn, xa, xm, xc⟩) (block_below (below_drew1 _) hx4), HasL.cl (f := ⟨true, (KB : Int), (M : Int)⟩) (block_below (below_drew1 _) hz4), HasL.cl (f := ⟨true, (KB : Int), (MB : Int)⟩) (block_below (below_drew1 _) ho4)⟩) (fun hHeld_ => ?_)
      refine wpAnyH_take' (i := 0) (v := ?v0_t16) 61 rfl rfl (by kernel_rfl) (by kernel_rfl) (by kernel_rfl) (fun _ _ _ h => h) (Or.inl ⟨by kernel_rfl, ?hy0_t16⟩) (by assumption) ?rest0_t16
      case hy0_t16 => (intro W_ hS_; (try dsimp only at hS_); go_simp; (try (with_reducible rfl)))
      try simp only [Act.put, List.setIfInBounds_toArray, List.set_cons_zero, List.set_cons_succ]
      refine wpAnyH_take' (i := 1) (v := ?v1_t16) 62 rfl rfl (by kernel_rfl) (by kernel_rfl) (by kernel_rfl) (fun _ _ _ h => h) (Or.inl ⟨by kernel_rfl, ?hy1_t16⟩) (by assumption) ?rest1_t16
      case hy1_t16 => (intro W_ hS_; (try dsimp only at hS_); go_simp; (try (with_reducible rfl)))
      try simp only [Act.put, List.setIfInBounds_toArray, List.set_cons_zero, List.set_cons_succ]
      refine wpAnyH_take' (i := 2) (v := ?v2_t16) 63 rfl rfl (by kernel_rfl) (by kernel_rfl) (by kernel_rfl) (fun _ _ _ h => h) (Or.inl ⟨by kernel_rfl, ?hy2_t16⟩) (by assumption) ?rest2_t16
      case hy2_t16 => (intro W_ hS_; (try dsimp only at hS_); go_simp; (try (with_reducible rfl)))
      try simp only [Act.put, List.setIfInBounds_toArray, List.set_cons_zero, List.set_cons_succ]
      refine wpAnyH_take' (i := 3) (v := ?v3_t16) 64 rfl rfl (by kernel_rfl) (by kernel_rfl) (by kernel_rfl) (fun _ _ _ h => h) (Or.inl ⟨by kernel_rfl, ?hy3_t16⟩) (by assumption) ?rest3_t16
      case hy3_t16 => (intro W_ hS_; (try dsimp only at hS_); go_simp; (try (with_reducible rfl)))
      try simp only [Act.put, List.setIfInBounds_toArray, List.set_cons_zero, List.set_cons_succ]
      refine wpAnyH_take' (i := 5) (v := ?v5_t16) 66 rfl rfl (by kernel_rfl) (by kernel_rfl) (by kernel_rfl) (fun _ _ _ h => h) (Or.inl ⟨by kernel_rfl, ?hy5_t16⟩) (by assumption) ?rest5_t16
      case hy5_t16 => (intro W_ hS_; (try dsimp only at hS_); go_simp; (try (with_reducible rfl)))
      try simp only [Act.put, List.setIfInBounds_toArray, List.set_cons_zero, List.set_cons_succ]
      refine wpAnyH_take' (i := 6) (v := ?v6_t16) 67 rfl rfl (by kernel_rfl) (by kernel_rfl) (by kernel_rfl) (fun _ _ _ h => h) (Or.inl ⟨by kernel_rfl, ?hy6_t16⟩) (by assumption) ?rest6_t16
      case hy6_t16 => (intro W_ hS_; (try dsimp only at hS_); go_simp; (try (with_reducible rfl)))
      try simp only [Act.put, List.setIfInBounds_toArray, List.set_cons_zero, List.set_cons_succ]
      refine wpAnyH_ready (rs := [4]) (by kernel_rfl) (by simp) ?_
      refine AllReadyH.cons rfl (fun K_ hK_ => ?_) AllReadyH.nil
      go_simp
      refine (takes_q ⟨true, (K : Int), (M : Int)⟩ ⟨xx, (I : Int), xr, xn, xa, xm, xc⟩ _ true (by rw [HQ.out]; simp)).mono ?_; rintro e wr4 ⟨rfl, hBr4⟩
      go_wp2_with fail
      refine hK_.out _ _ (by exact ⟨HasL.cl (f := ⟨true, (K : Int), (M : Int)⟩) (block_below hBr4 (block_below (below_drew1 _) hf4)), HasF.cf (f := ⟨xx, (I : Int), xr, xn, xa, xm, xc⟩) (block_below hBr4 (block_below (below_drew1 _) hx4)), HasL.cl (f := ⟨true, (KB : Int), (M : Int)⟩) (block_below hBr4 (block_below (below_drew1 _) hz4)), HasL.cl (f := ⟨true, (KB : Int), (MB : Int)⟩) (block_below hBr4 (block_below (below_drew1 _) ho4))⟩) (fun hHeld_4 => ?_)
      clear hK_
      try simp only [Act.put, List.setIfInBounds_toArray, List.set_cons_zero, List.set_cons_succ]
      refine wpAnyH_ready (rs := [7]) (by kernel_rfl) (by simp) ?_
      refine AllReadyH.cons rfl (fun K_ hK_ => ?_) AllReadyH.nil
      go_simp
      refine (takes_q ⟨true, (KB : Int), (M : Int)⟩ ⟨xx, (I : Int), xr, xn, xa, xm, xc⟩ _ true Hz.out).mono ?_; rintro e wr7 ⟨rfl, hBr7⟩
      go_wp2_with fail
      refine hK_.out _ _ (by exact ⟨HasL.cl (f := ⟨true, (K : Int), (M : Int)⟩) (block_below hBr7 (block_below hBr4 (block_below (below_drew1 _) hf4))), HasF.cf (f := ⟨xx, (I : Int), xr, xn, xa, xm, xc⟩) (block_below hBr7 (block_below hBr4 (block_below (below_drew1 _) hx4))), HasL.cl (f := ⟨true, (KB : Int), (M : Int)⟩) (block_below hBr7 (block_below hBr4 (block_below (below_drew1 _) hz4))), HasL.cl (f := ⟨true, (KB : Int), (MB : Int)⟩) (block_below hBr7 (block_below hBr4 (block_below (below_drew1 _) ho4)))⟩) (fun hHeld_7 => ?_)
      clear hK_
      try simp only [Act.put, List.setIfInBounds_toArray, List.set_cons_zero, List.set_cons_succ]
      refine wpAnyH_take' (i := 8) (v := ?v8_t16) 69 rfl rfl (by kernel_rfl) (by kernel_rfl) (by kernel_rfl) (fun _ _ _ h => h) (Or.inl ⟨by kernel_rfl, ?hy8_t16⟩) (by assumption) ?rest8_t16
      case hy8_t16 => (intro W_ hS_; (try dsimp only at hS_); go_simp; (try (with_reducible rfl)))
      try simp only [Act.put, List.setIfInBounds_toArray, List.set_cons_zero, List.set_cons_succ]
      refine wpAnyH_take' (i := 9) (v := undef) 70 rfl rfl (by kernel_rfl) (by kernel_rfl) (by kernel_rfl) (fun _ _ _ h => h) (Or.inr ⟨by kernel_rfl, rfl⟩) (by assumption) ?_
      try simp only [Act.put, List.setIfInBounds_toArray, List.set_cons_zero, List.set_cons_succ]
      refine wpAnyH_take' (i := 10) (v := undef) 71 rfl rfl (by kernel_rfl) (by kernel_rfl) (by kernel_rfl) (fun _ _ _ h => h) (Or.inr ⟨by kernel_rfl, rfl⟩) (by assumption) ?_
      try simp only [Act.put, List.setIfInBounds_toArray, List.set_cons_zero, List.set_cons_succ]
      refine wpAnyH_skip (i := 11) 72 rfl rfl (by kernel_rfl) (by kernel_rfl) (by assumption) ?_
      try simp only [Act.put, List.setIfInBounds_toArray, List.set_cons_zero, List.set_cons_succ]
      refine wpAnyH_take' (i := 12) (v := ?v12_t16) 73 rfl rfl (by kernel_rfl) (by kernel_rfl) (by kernel_rfl) (fun _ _ _ h => h) (Or.inl ⟨by kernel_rfl, ?hy12_t16⟩) (by assumption) ?rest12_t16
      case hy12_t16 => (intro W_ hS_; (try dsimp only at hS_); go_simp; (try (with_reducible rfl)))
      try simp only [Act.put, List.setIfInBounds_toArray, List.set_cons_zero, List.set_cons_succ]
      refine wpAnyH_take' (i := 13) (v := ?v13_t16) 74 rfl rfl (by kernel_rfl) (by kernel_rfl) (by kernel_rfl) (fun _ _ _ h => h) (Or.inl ⟨by kernel_rfl, ?hy13_t16⟩) (by assumption) ?rest13_t16
      case hy13_t16 => (intro W_ hS_; (try dsimp only at hS_); go_simp; (try (with_reducible rfl)))
      try simp only [Act.put, List.setIfInBounds_toArray, List.set_cons_zero, List.set_cons_succ]
      refine wpAnyH_take' (i := 14) (v := ?v14_t16) 75 rfl rfl (by kernel_rfl) (by kernel_rfl) (by kernel_rfl) (fun _ _ _ h => h) (Or.inl ⟨by kernel_rfl, ?hy14_t16⟩) (by assumption) ?rest14_t16
      case hy14_t16 => (intro W_ hS_; (try dsimp only at hS_); go_simp; (try (with_reducible rfl)))
      try simp only [Act.put, List.setIfInBounds_toArray, List.set_cons_zero, List.set_cons_succ]
      refine wpAnyH_take' (i := 15) (v := ?v15_t16) 76 rfl rfl (by kernel_rfl) (by kernel_rfl) (by kernel_rfl) (fun _ _ _ h => h) (Or.inl ⟨by kernel_rfl, ?hy15_t16⟩) (by assumption) ?rest15_t16
      case hy15_t16 => (intro W_ hS_; (try dsimp only at hS_); go_simp; (try (with_reducible rfl)))
      try simp only [Act.put, List.setIfInBounds_toArray, List.set_cons_zero, List.set_cons_succ]
      refine wpAnyH_take' (i := 16) (v := ?v16_t16) 77 rfl rfl (by kernel_rfl) (by kernel_rfl) (by kernel_rfl) (fun _ _ _ h => h) (Or.inl ⟨by kernel_rfl, ?hy16_t16⟩) (by assumption) ?rest16_t16
      case hy16_t16 => (intro W_ hS_; (try dsimp only at hS_); go_simp; (try (with_reducible rfl)))
      try simp only [Act.put, List.setIfInBounds_toArray, List.set_cons_zero, List.set_cons_succ]
      refine wpAnyH_take' (i := 17) (v := ?v17_t16) 78 rfl rfl (by kernel_rfl) (by kernel_rfl) (by kernel_rfl) (fun _ _ _ h => h) (Or.inl ⟨by kernel_rfl, ?hy17_t16⟩) (by assumption) ?rest17_t16
      case hy17_t16 => (intro W_ hS_; (try dsimp only at hS_); go_simp; (try (with_reducible rfl)))
      try simp only [Act.put, List.setIfInBounds_toArray, List.set_cons_zero, List.set_cons_succ]
      refine wpAnyH_ready (rs := [18]) (by kernel_rfl) (by simp) ?_
      refine AllReadyH.cons rfl (fun K_ hK_ => ?_) AllReadyH.nil
      go_simp
      refine (covers_q ⟨true, (K : Int), (M : Int)⟩ ⟨true, (KB : Int), (M : Int)⟩ _ true HS.out.2.1).mono ?_; rintro e wr18 ⟨rfl, hBr18⟩
      go_wp2_with fail
      refine hK_.out _ _ (by exact ⟨HasL.cl (f := ⟨true, (K : Int), (M : Int)⟩) (block_below hBr18 (block_below hBr7 (block_below hBr4 (block_below (below_drew1 _) hf4)))), HasF.cf (f := ⟨xx, (I : Int), xr, xn, xa, xm, xc⟩) (block_below hBr18 (block_below hBr7 (block_below hBr4 (block_below (below_drew1 _) hx4)))), HasL.cl (f := ⟨true, (KB : Int), (M : Int)⟩) (block_below hBr18 (block_below hBr7 (block_below hBr4 (block_below (below_drew1 _) hz4)))), HasL.cl (f := ⟨true, (KB : Int), (MB : Int)⟩) (block_below hBr18 (block_below hBr7 (block_below hBr4 (block_below (below_drew1 _) ho4))))⟩) (fun hHeld_18 => ?_)
      clear hK_
      try simp only [Act.put, List.setIfInBounds_toArray, List.set_cons_zero, List.set_cons_succ]
      refine wpAnyH_take' (i := 19) (v := ?v19_t16) 80 rfl rfl (by kernel_rfl) (by kernel_rfl) (by kernel_rfl) (fun _ _ _ h => h) (Or.inl ⟨by kernel_rfl, ?hy19_t16⟩) (by assumption) ?rest19_t16
      case hy19_t16 => (intro W_ hS_; (try dsimp only at hS_); go_simp; (try (with_reducible rfl)))
      try simp only [Act.put, List.setIfInBounds_toArray, List.set_cons_zero, List.set_cons_succ]
      refine wpAnyH_take' (i := 20) (v := ?v20_t16) 81 rfl rfl (by kernel_rfl) (by kernel_rfl) (by kernel_rfl) (fun _ _ _ h => h) (Or.inl ⟨by kernel_rfl, ?hy20_t16⟩) (by assumption) ?rest20_t16
      case hy20_t16 => (intro W_ hS_; (try dsimp only at hS_); go_simp; (try (with_reducible rfl)))
      try simp only [Act.put, List.setIfInBounds_toArray, List.set_cons_zero, List.set_cons_succ]
      refine wpAnyH_take' (i := 21) (v := ?v21_t16) 82 rfl rfl (by kernel_rfl) (by kernel_rfl) (by kernel_rfl) (fun _ _ _ h => h) (Or.inl ⟨by kernel_rfl, ?hy21_t16⟩) (by assumption) ?rest21_t16
      case hy21_t16 => (intro W_ hS_; (try dsimp only at hS_); go_simp; (try (with_reducible rfl)))
      try simp only [Act.put, List.setIfInBounds_toArray, List.set_cons_zero, List.set_cons_succ]
      refine wpAnyH_take' (i := 22) (v := ?v22_t16) 83 rfl rfl (by kernel_rfl) (by kernel_rfl) (by kernel_rfl) (fun _ _ _ h => h) (Or.inl ⟨by kernel_rfl, ?hy22_t16⟩) (by assumption) ?rest22_t16
      case hy22_t16 => (intro W_ hS_; (try dsimp only at hS_); go_simp; (try (with_reducible rfl)))
      try simp only [Act.put, List.setIfInBounds_toArray, List.set_cons_zero, List.set_cons_succ]
      refine wpAnyH_ready (rs := [23]) (by kernel_rfl) (by simp) ?_
      refine AllReadyH.cons rfl (fun K_ hK_ => ?_) AllReadyH.nil
      go_simp
      refine (covers_q ⟨true, (K : Int), (M : Int)⟩ ⟨true, (KB : Int), (MB : Int)⟩ _ true HS.out.2.2.1).mono ?_; rintro e wr23 ⟨rfl, hBr23⟩
      go_wp2_with fail
      refine hK_.out _ _ (by exact ⟨HasL.cl (f := ⟨true, (K : Int), (M : Int)⟩) (block_below hBr23 (block_below hBr18 (block_below hBr7 (block_below hBr4 (block_below (below_drew1 _) hf4))))), HasF.cf (f := ⟨xx, (I : Int), xr, xn, xa, xm, xc⟩) (block_below hBr23 (block_below hBr18 (block_below hBr7 (block_below hBr4 (block_below (below_drew1 _) hx4))))), HasL.cl (f := ⟨true, (KB : Int), (M : Int)⟩) (block_below hBr23 (block_below hBr18 (block_below hBr7 (block_below hBr4 (block_below (below_drew1 _) hz4))))), HasL.cl (f := ⟨true, (KB : Int), (MB : Int)⟩) (block_below hBr23 (block_below hBr18 (block_below hBr7 (block_below hBr4 (block_below (below_drew1 _) ho4)))))⟩) (fun hHeld_23 => ?_)
      clear hK_
      try simp only [Act.put, List.setIfInBounds_toArray, List.set_cons_zero, List.set_cons_succ]
      refine wpAnyH_take' (i := 24) (v := ?v24_t16) 85 rfl rfl (by kernel_rfl) (by kernel_rfl) (by kernel_rfl) (fun _ _ _ h => h) (Or.inl ⟨by kernel_rfl, ?hy24_t16⟩) (by assumption) ?rest24_t16
      case hy24_t16 => (intro W_ hS_; (try dsimp only at hS_); go_simp; (try (with_reducible rfl)))
      try simp only [Act.put, List.setIfInBounds_toArray, List.set_cons_zero, List.set_cons_succ]
      refine wpAnyH_take' (i := 25) (v := ?v25_t16) 86 rfl rfl (by kernel_rfl) (by kernel_rfl) (by kernel_rfl) (fun _ _ _ h => h) (Or.inl ⟨by kernel_rfl, ?hy25_t16⟩) (by assumption) ?rest25_t16
      case hy25_t16 => (intro W_ hS_; (try dsimp only at hS_); go_simp; (try (with_reducible rfl)))
      try simp only [Act.put, List.setIfInBounds_toArray, List.set_cons_zero, List.set_cons_succ]
      refine wpAnyH_take' (i := 26) (v := ?v26_t16) 87 rfl rfl (by kernel_rfl) (by kernel_rfl) (by kernel_rfl) (fun _ _ _ h => h) (Or.inl ⟨by kernel_rfl, ?hy26_t16⟩) (by assumption) ?rest26_t16
      case hy26_t16 => (intro W_ hS_; (try dsimp only at hS_); go_simp; (try (with_reducible rfl)))
      try simp only [Act.put, List.setIfInBounds_toArray, List.set_cons_zero, List.set_cons_succ]
      refine wpAnyH_take' (i := 27) (v := ?v27_t16) 88 rfl rfl (by kernel_rfl) (by kernel_rfl) (by kernel_rfl) (fun _ _ _ h => h) (Or.inl ⟨by kernel_rfl, ?hy27_t16⟩) (by assumption) ?rest27_t16
      case hy27_t16 => (intro W_ hS_; (try dsimp only at hS_); go_simp; (try (with_reducible rfl)))
      try simp only [Act.put, List.setIfInBounds_toArray, List.set_cons_zero, List.set_cons_succ]
      refine wpAnyH_ready (rs := [28]) (by kernel_rfl) (by simp) ?_
      refine AllReadyH.cons rfl (fun K_ hK_ => ?_) AllReadyH.nil
      go_simp
      refine (meets_q ⟨true, (KB : Int), (M : Int)⟩ ⟨true, (KB : Int), (MB : Int)⟩ _ false HS.out.2.2.2.1).mono ?_; rintro e wr28 ⟨rfl, hBr28⟩
      go_wp2_with fail
      refine hK_.out _ _ (by exact ⟨HasL.cl (f := ⟨true, (K : Int), (M : Int)⟩) (block_below hBr28 (block_below hBr23 (block_below hBr18 (block_below hBr7 (block_below hBr4 (block_below (below_drew1 _) hf4)))))), HasF.cf (f := ⟨xx, (I : Int), xr, xn, xa, xm, xc⟩) (block_below hBr28 (block_below hBr23 (block_below hBr18 (block_below hBr7 (block_below hBr4 (block_below (below_drew1 _) hx4)))))), HasL.cl (f := ⟨true, (KB : Int), (M : Int)⟩) (block_below hBr28 (block_below hBr23 (block_below hBr18 (block_below hBr7 (block_below hBr4 (block_below (below_drew1 _) hz4)))))), HasL.cl (f := ⟨true, (KB : Int), (MB : Int)⟩) (block_below hBr28 (block_below hBr23 (block_below hBr18 (block_below hBr7 (block_below hBr4 (block_below (below_drew1 _) ho4))))))⟩) (fun hHeld_28 => ?_)
      clear hK_
      try simp only [Act.put, List.setIfInBounds_toArray, List.set_cons_zero, List.set_cons_succ]
      refine wpAnyH_take' (i := 29) (v := ?v29_t16) 90 rfl rfl (by kernel_rfl) (by kernel_rfl) (by kernel_rfl) (fun _ _ _ h => h) (Or.inl ⟨by kernel_rfl, ?hy29_t16⟩) (by assumption) ?rest29_t16
      case hy29_t16 => (intro W_ hS_; (try dsimp only at hS_); go_simp; (try (with_reducible rfl)))
      try simp only [Act.put, List.setIfInBounds_toArray, List.set_cons_zero, List.set_cons_succ]
      refine wpAnyH_take' (i := 30) (v := ?v30_t16) 91 rfl rfl (by kernel_rfl) (by kernel_rfl) (by kernel_rfl) (fun _ _ _ h => h) (Or.inl ⟨by kernel_rfl, ?hy30_t16⟩) (by assumption) ?rest30_t16
      case hy30_t16 => (intro W_ hS_; (try dsimp only at hS_); go_simp; (try (with_reducible rfl)))
      try simp only [Act.put, List.setIfInBounds_toArray, List.set_cons_zero, List.set_cons_succ]
      refine wpAnyH_take' (i := 31) (v := ?v31_t16) 92 rfl rfl (by kernel_rfl) (by kernel_rfl) (by kernel_rfl) (fun _ _ _ h => h) (Or.inl ⟨by kernel_rfl, ?hy31_t16⟩) (by assumption) ?rest31_t16
      case hy31_t16 => (intro W_ hS_; (try dsimp only at hS_); go_simp; (try (with_reducible rfl)))
      try simp only [Act.put, List.setIfInBounds_toArray, List.set_cons_zero, List.set_cons_succ]
      refine wpAnyH_take' (i := 32) (v := ?v32_t16) 93 rfl rfl (by kernel_rfl) (by kernel_rfl) (by kernel_rfl) (fun _ _ _ h => h) (Or.inl ⟨by kernel_rfl, ?hy32_t16⟩) (by assumption) ?rest32_t16
      case hy32_t16 => (intro W_ hS_; (try dsimp only at hS_); go_simp; (try (with_reducible rfl)))
      try simp only [Act.put, List.setIfInBounds_toArray, List.set_cons_zero, List.set_cons_succ]
      refine wpAnyH_take' (i := 33) (v := ?v33_t16) 94 rfl rfl (by kernel_rfl) (by kernel_rfl) (by kernel_rfl) (fun _ _ _ h => h) (Or.inl ⟨by kernel_rfl, ?hy33_t16⟩) (by assumption) ?rest33_t16
      case hy33_t16 => (intro W_ hS_; (try dsimp only at hS_); go_simp; (try (with_reducible rfl)))
      try simp only [Act.put, List.setIfInBounds_toArray, List.set_cons_zero, List.set_cons_succ]
      refine wpAnyH_ready (rs := [34]) (by kernel_rfl) (by simp) ?_
      refine AllReadyH.cons rfl (fun K_ hK_ => ?_) AllReadyH.nil
      go_simp
      refine (covers_q ⟨true, (KB : Int), (M : Int)⟩ ⟨true, (K : Int), (M : Int)⟩ _ false HS.out.2.2.2.2).mono ?_; rintro e wr34 ⟨rfl, hBr34⟩
      go_wp2_with fail
      refine hK_.out _ _ (by exact ⟨HasL.cl (f := ⟨true, (K : Int), (M : Int)⟩) (block_below hBr34 (block_below hBr28 (block_below hBr23 (block_below hBr18 (block_below hBr7 (block_below hBr4 (block_below (below_drew1 _) hf4))))))), HasF.cf (f := ⟨xx, (I : Int), xr, xn, xa, xm, xc⟩) (block_below hBr34 (block_below hBr28 (block_below hBr23 (block_below hBr18 (block_below hBr7 (block_below hBr4 (block_below (below_drew1 _) hx4))))))), HasL.cl (f := ⟨true, (KB : Int), (M : Int)⟩) (block_below hBr34 (block_below hBr28 (block_below hBr23 (block_below hBr18 (block_below hBr7 (block_below hBr4 (block_below (below_drew1 _) hz4))))))), HasL.cl (f := ⟨true, (KB : Int), (MB : Int)⟩) (block_below hBr34 (block_below hBr28 (block_below hBr23 (block_below hBr18 (block_below hBr7 (block_below hBr4 (block_below (below_drew1 _) ho4)))))))⟩) (fun hHeld_34 => ?_)
      clear hK_
      try simp only [Act.put, List.setIfInBounds_toArray, List.set_cons_zero, List.set_cons_succ]
      refine wpAnyH_take' (i := 35) (v := ?v35_t16) 96 rfl rfl (by kernel_rfl) (by kernel_rfl) (by kernel_rfl) (fun _ _ _ h => h) (Or.inl ⟨by kernel_rfl, ?hy35_t16⟩) (by assumption) ?rest35_t16
      case hy35_t16 => (intro W_ hS_; (try dsimp only at hS_); go_simp; (try (with_reducible rfl)))
      try simp only [Act.put, List.setIfInBounds_toArray, List.set_cons_zero, List.set_cons_succ]
      refine wpAnyH_take' (i := 36) (v := ?v36_t16) 97 rfl rfl (by kernel_rfl) (by kernel_rfl) (by kernel_rfl) (fun _ _ _ h => h) (Or.inl ⟨by kernel_rfl, ?hy36_t16⟩) (by assumption) ?rest36_t16
      case hy36_t16 => (intro W_ hS_; (try dsimp only at hS_); go_simp; (try (with_reducible rfl)))
      try simp only [Act.put, List.setIfInBounds_toArray, List.set_cons_zero, List.set_cons_succ]
      refine wpAnyH_take' (i := 37) (v := ?v37_t16) 6 rfl rfl (by kernel_rfl) (by kernel_rfl) (by kernel_rfl) (fun _ _ _ h => h) (Or.inl ⟨by kernel_rfl, ?hy37_t16⟩) (by assumption) ?rest37_t16
      case hy37_t16 => (intro W_ hS_; (try dsimp only at hS_); go_simp; (try (with_reducible rfl)))
      try simp only [Act.put, List.setIfInBounds_toArray, List.set_cons_zero, List.set_cons_succ]
      refine wpAnyH_done (by kernel_rfl) ?_ _
      go_wp2_with fail
      go_ret
      exact ⟨rfl, below_then hT4 (below_then (below_then (below_then (below_then (below_then (below_then (below_drew1 _) hBr4) hBr7) hBr18) hBr23) hBr28) hBr34)⟩
  · skip
    clear hf hpa hB hC hKB hMB
    have hc1 : ((C : Int) != 0) = true := by simp; omega
    have hc2 : (C != 0) = true := by simp; omega
    have hc3 : ((C : Int) == 0) = false := by simp; omega
    obtain ⟨fc0, fc1, fc2⟩ := cells3' hf3
    obtain ⟨xc0, xc1, xc2, xc3, xc4⟩ := cells5' hx3
    go_wp2_with fail
    go_ret
    exact ⟨rfl, hT3⟩

end Go.Proofs.Ytmffflckcpgjiaa
