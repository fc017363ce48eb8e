/-
  CountParts.
-/
import Derived.Test.YtbkldbckcnnafaaCntMath
import Derived.Test.YtbkldbckcnnafaaHead8
import Derived.Test.YtbkldbckcnnafaaCell8
import Derived.Deep.RegionWith
namespace Go.Proofs.Ytbkldbckcnnafaa
open Go.RowKit
set_option linter.unusedVariables false
set_option linter.unusedSimpArgs false

theorem parts_odd {c : CV} (h : OkC c) {k : Int} (hk : k < 1 ∨ 6 < k) : stepV c k = c := by
  by_cases hs : c.s = 3
  · rw [(ok_off_eq h hs).1, step_off_other (by omega)]
  · obtain ⟨hmk, hb⟩ := ok_mk h hs
    rw [hmk, step_mk0 hb.2.1 (by omega)]
theorem parts_calm {c : CV} (h : OkC c) (hs : c.s ≠ 3) : stepV c 6 = c := by
  obtain ⟨hmk, hb⟩ := ok_mk h hs
  rw [hmk, step_mk0 hb.2.1 (by omega)]
set_option maxRecDepth 100000 in
set_option maxHeartbeats 1000000 in
theorem countParts_any (c : CV) (l : List Int) (n : Nat) (hn : l.length = n) (A : Option Addr) (cp : Nat) (m : List Int) (n2 : Nat) (hn2 : m.length = n2) (A2 : Option Addr) (cp2 : Nat) (o : Int) (w : World) (hl : Row .i64 w w.heap.size A l) (hm : Row .i64 w w.heap.size A2 m) :
    Calls Try.prog 8 #[c.v, .slice A n cp, .slice A2 n2 cp2, .int .i64 o] w fun e w' => e = .returned (.bool true) ∧ Below w.heap.size w w' := by
  have Hn := Lib.hid hn
  have Hn2 := Lib.hid hn2
  clear hn hn2
  have q1 := eqIn_c
  have q2 := eq_c
  have q3 := neq_c
  have q4 := sameC_refl
  obtain ⟨i0, hi, hz0, hz1, hz2⟩ := info_parts Try.infoInt
  go_enter Try.func8, Try.ntmps8
  go_wp2_with fail
  obtain ⟨w0, hw0⟩ : ∃ w0, w.alloc (.cells #[.int .i64 c.t, .int .i64 c.r, .int .i64 c.s, .int .i64 c.q] 23) = w0 := ⟨_, rfl⟩
  have hT0 : Below w.heap.size w w0 := by rw [← hw0]; exact below_alloc1 _ _
  have hc0 : HasC w0 w.heap.size c := by rw [← hw0]; exact World.alloc_heap_new _ _
  rw [hw0]
  clear hw0
  refine (head_any w0).mono ?_
  rintro e w1 ⟨rfl, hB1⟩
  have hT1 := below_then hT0 hB1
  have hc1 := block_below hB1 hc0
  clear hT0 hc0   hB1
  by_cases hbig : 1000 < n
  · skip
    have hb2 : (1000 : Int) < (n : Int) := by omega
    obtain ⟨cc0, cc1, cc2, cc3⟩ := HasC.cc (c := c) hc1
    go_wp2_with fail
    go_ret
    exact ⟨rfl, hT1⟩
  have hb2 : ¬ (1000 : Int) < (n : Int) := by omega
  by_cases hbig2 : 1000 < n2
  · skip
    have hb3 : (1000 : Int) < (n2 : Int) := by omega
    obtain ⟨cc0, cc1, cc2, cc3⟩ := HasC.cc (c := c) hc1
    go_wp2_with fail
    go_ret
    exact ⟨rfl, hT1⟩
  have hb3 : ¬ (1000 : Int) < (n2 : Int) := by omega
  obtain ⟨cc0, cc1, cc2, cc3⟩ := HasC.cc (c := c) hc1
  go_wp2_with fail
  clear cc0 cc1 cc2 cc3
  obtain ⟨q, hq⟩ : ∃ q, rightV c = q := ⟨_, rfl⟩
  have Hq := Lib.hid hq
  clear hq
  cases q
  · skip
    refine (right_q c false Hq.out w1).mono ?_
    rintro e w2 ⟨rfl, hB2⟩
    have hT2 := below_then hT1 hB2
    have hc2 := block_below hB2 hc1
    clear hT1 hc1   hB2
    obtain ⟨cc0, cc1, cc2, cc3⟩ := HasC.cc (c := c) hc2
    go_wp2_with fail
    go_ret
    exact ⟨rfl, hT2⟩
  refine (right_q c true Hq.out w1).mono ?_
  rintro e w2 ⟨rfl, hB2⟩
  have hT2 := below_then hT1 hB2
  have hc2 := block_below hB2 hc1
  clear hT1 hc1   hB2
  have Hok := Lib.hid (show OkC c from of_decide_eq_true (show decide (OkC c) = true from Hq.out))
  obtain ⟨cc0, cc1, cc2, cc3⟩ := HasC.cc (c := c) hc2
  go_wp2_with fail
  clear cc0 cc1 cc2 cc3
  go_loopw [11] (fun i wr => ∃ (k : Nat) (b : CV), k ≤ n ∧ i = .int .i64 k ∧ Hid (stepsV c (l.take k) = b) ∧ HasC wr w.heap.size c ∧ HasC wr w2.heap.size b ∧ Below w.heap.size w wr) (fun i _ => n - (intOf i).toNat)
  case atStart => exact ⟨0, c, Nat.zero_le _, rfl, Lib.hid rfl, block_below (below_alloc1 _ _) hc2, World.alloc_heap_new _ _, below_then hT2 (below_alloc1 _ _)⟩
  case round =>
  have hlt2 : w.heap.size < w2.heap.size := (Array.getElem?_eq_some_iff.1 hc2).1
  obtain ⟨X, hX⟩ : ∃ X, w2.heap.size = X := ⟨_, rfl⟩
  rw [hX] at hlt2
  skip
  clear hc2 hT2
  obtain ⟨k, b, hk, rfl, Hb, hc50, hd50, hT50⟩ := hrel
  rw [hX] at hd50
  rw [hX]
  by_cases hlt : k < n
  · skip
    obtain ⟨ad, x, rfl, hx, hx50⟩ := (hl.below hT50).get_ (k := k) (by rw [Hn.out]; exact hlt)
    have i1 : (0 : Int) ≤ (k : Int) := by omega
    have i2 : (k : Int) < (n : Int) := by omega
    obtain ⟨b2, hb2⟩ : ∃ q : CV, stepV b x = q := ⟨_, rfl⟩
    have Hb2 := Lib.hid hb2
    clear hb2
    have Hs := Lib.hid (show stepsV c (l.take (k + 1)) = b2 from by rw [stepsV_take hx, Hb.out]; exact Hb2.out)
    clear hx
    obtain ⟨⟨c0, c1, c2, c3⟩, f0, f1, f2, f3⟩ := cells4 hd50
    go_wp2_with fail
    go_region_with (first
      | (go_at_call 15; refine (step1_any b b2 x Hb2.out (by rw [← Hb.out]; exact ok_steps _ _ Hok.out) _).mono ?_; rintro e w2 ⟨rfl, hB2⟩; have hBB := below_then (below_then hT50 (below_drew1 _)) hB2; have hC2 := block_below hB2 hc50; have hD2 := block_below hB2 hd50; clear c0 c1 c2 c3 f0 f1 f2 f3; obtain ⟨⟨c0, c1, c2, c3⟩, f0, f1, f2, f3⟩ := cells4 hD2)
      | fail)
    all_goals
      go_wp2_with fail
      go_round
      case measure => simp [intOf]; omega
      exact ⟨k + 1, b2, by omega, by go_num, Hs, other_grownF (set4_grown _ _ _ _ _ _) hC2 (by omega), set4_obj hD2 _ _ _ _, below_set4 hBB (by omega) _ _ _ _⟩
  obtain rfl : k = n := by omega
  have e1 : l.take k = l := by rw [← Hn.out, List.take_length]
  have Hb3 := Lib.hid (show stepsV c l = b from by rw [← e1]; exact Hb.out)
  have Hbok := Lib.hid (show OkC b from by rw [← Hb3.out]; exact ok_steps _ _ Hok.out)
  clear e1 Hb
  have hl50 := Row.to hl hT50
  have hm50 := Row.to hm hT50
  have ho0 := own_lit wr .i64 [] 0 rfl 3 rfl (by decide)
  have hl51 := Row.to hl50 (below_alloc1 wr (.cells #[] 3))
  go_wp2_with (first
    | (have hq_ := own1; clear hq_; at_builtin; refine wpList_append_row _ .i64 rfl _ _ 24 rfl wr.heap.size 3 i0 (.int .i64 0) 8 Try.underlying24 hi hz0 hz1 hz2 rfl _ k l rfl own1 A2 n2 cp2 _ m rfl Hn2.out (hm50.below hbw3) (by unfold maxLen; omega) (by omega) (by first | (exact hbsz) | (simp; done)) ?_; intro A4 c4 w4 own2 hc4 hb2x; skip)
    | (at_builtin; refine wpList_append_row _ .i64 rfl _ _ 24 rfl wr.heap.size 3 i0 (.int .i64 0) 8 Try.underlying24 hi hz0 hz1 hz2 rfl _ 0 ([] : List Int) rfl ho0 A k cp _ l rfl Hn.out hl51 (by unfold maxLen; omega) (by omega) (by first | (exact hbsz) | (simp; done)) ?_; intro A3 c3 w3 own1 hc3 hb1x; simp only [Nat.zero_add, List.nil_append] at own1 ⊢; have hbw3 := ((Below.refl wr.heap.size wr).alloc (Nat.le_refl _) (.cells #[] 3)).trans hb1x; have hbsz := hbw3.size)
    | fail)
  have hB51 : Below wr.heap.size wr w4 := hbw3.trans hb2x
  have hp51 := Row.own own2
  clear own1 own2 hc3 hc4 hb1x hb2x hbw3 hbsz ho0 hl51
  have hT51 := below_then hT50 hB51
  have hc51 := block_below hB51 hc50
  have hd51 := block_below hB51 hd50
  have hl51 := Row.to hl50 hB51
  have hm51 := Row.to hm50 hB51
  clear hT50 hc50 hd50  hl50 hm50 hB51
  obtain ⟨e2, he2⟩ : ∃ q : CV, stepsV b m = q := ⟨_, rfl⟩
  have He2 := Lib.hid he2
  clear he2
  have He3 := Lib.hid (show stepsV c (l ++ m) = e2 from by rw [stepsV_append, Hb3.out]; exact He2.out)
  refine wp_region_held_drew (S := fun W => (W.cell? ⟨w.heap.size, 0, none⟩ = some (.int .i64 c.t) ∧ W.cell? ⟨w.heap.size, 1, none⟩ = some (.int .i64 c.r) ∧ W.cell? ⟨w.heap.size, 2, none⟩ = some (.int .i64 c.s) ∧ W.cell? ⟨w.heap.size, 3, none⟩ = some (.int .i64 c.q)) ∧ (W.cell? ⟨X, 0, none⟩ = some (.int .i64 b.t) ∧ W.cell? ⟨X, 1, none⟩ = some (.int .i64 b.r) ∧ W.cell? ⟨X, 2, none⟩ = some (.int .i64 b.s) ∧ W.cell? ⟨X, 3, none⟩ = some (.int .i64 b.q))) (by kernel_rfl) (by exact ⟨HasC.cc (c := c) (block_below (below_drew1 _) hc51), HasC.cc (c := b) (block_below (below_drew1 _) hd51)⟩) (fun hHeld_ => ?_)
  refine wpAnyH_take' (i := 0) (v := ?v0_t5) 46 rfl rfl (by kernel_rfl) (by kernel_rfl) (by kernel_rfl) (fun _ _ _ h => h) (Or.inl ⟨by kernel_rfl, ?hy0_t5⟩) (by assumption) ?rest0_t5
  case hy0_t5 => (intro W_ hS_; (try dsimp only at hS_); go_simp; (try (with_reducible rfl)))
  try simp only [Act.put, List.setIfInBounds_toArray, List.set_cons_zero, List.set_cons_succ]
  refine wpAnyH_take' (i := 1) (v := ?v1_t5) 47 rfl rfl (by kernel_rfl) (by kernel_rfl) (by kernel_rfl) (fun _ _ _ h => h) (Or.inl ⟨by kernel_rfl, ?hy1_t5⟩) (by assumption) ?rest1_t5
  case hy1_t5 => (intro W_ hS_; (try dsimp only at hS_); go_simp; (try (with_reducible rfl)))
  try simp only [Act.put, List.setIfInBounds_toArray, List.set_cons_zero, List.set_cons_succ]
  refine wpAnyH_take' (i := 3) (v := ?v3_t5) 49 rfl rfl (by kernel_rfl) (by kernel_rfl) (by kernel_rfl) (fun _ _ _ h => h) (Or.inl ⟨by kernel_rfl, ?hy3_t5⟩) (by assumption) ?rest3_t5
  case hy3_t5 => (intro W_ hS_; (try dsimp only at hS_); go_simp; (try (with_reducible rfl)))
  try simp only [Act.put, List.setIfInBounds_toArray, List.set_cons_zero, List.set_cons_succ]
  refine wpAnyH_ready (rs := [2]) (by kernel_rfl) (by simp) ?_
  refine AllReadyH.cons rfl (fun K_ hK_ => ?_) AllReadyH.nil
  go_simp
  refine (steps_any c b l Hb3.out Hok.out k Hn.out (by omega) A cp _ (Row.to hl51 (below_drew1 _))).mono ?_; rintro e wr2 ⟨rfl, hBr2⟩
  go_wp2_with fail
  refine hK_.out _ _ (by exact ⟨HasC.cc (c := c) (block_below hBr2 (block_below (below_drew1 _) hc51)), HasC.cc (c := b) (block_below hBr2 (block_below (below_drew1 _) hd51))⟩) (fun hHeld_2 => ?_)
  clear hK_
  try simp only [Act.put, List.setIfInBounds_toArray, List.set_cons_zero, List.set_cons_succ]
  refine wpAnyH_take' (i := 4) (v := ?v4_t5) 50 rfl rfl (by kernel_rfl) (by kernel_rfl) (by kernel_rfl) (fun _ _ _ h => h) (Or.inl ⟨by kernel_rfl, ?hy4_t5⟩) (by assumption) ?rest4_t5
  case hy4_t5 => (intro W_ hS_; (try dsimp only at hS_); go_simp; (try (with_reducible rfl)))
  try simp only [Act.put, List.setIfInBounds_toArray, List.set_cons_zero, List.set_cons_succ]
  refine wpAnyH_take' (i := 5) (v := ?v5_t5) 51 rfl rfl (by kernel_rfl) (by kernel_rfl) (by kernel_rfl) (fun _ _ _ h => h) (Or.inl ⟨by kernel_rfl, ?hy5_t5⟩) (by assumption) ?rest5_t5
  case hy5_t5 => (intro W_ hS_; (try dsimp only at hS_); go_simp; (try (with_reducible rfl)))
  try simp only [Act.put, List.setIfInBounds_toArray, List.set_cons_zero, List.set_cons_succ]
  refine wpAnyH_take' (i := 6) (v := ?v6_t5) 52 rfl rfl (by kernel_rfl) (by kernel_rfl) (by kernel_rfl) (fun _ _ _ h => h) (Or.inl ⟨by kernel_rfl, ?hy6_t5⟩) (by assumption) ?rest6_t5
  case hy6_t5 => (intro W_ hS_; (try dsimp only at hS_); go_simp; (try (with_reducible rfl)))
  try simp only [Act.put, List.setIfInBounds_toArray, List.set_cons_zero, List.set_cons_succ]
  refine wpAnyH_take' (i := 7) (v := ?v7_t5) 53 rfl rfl (by kernel_rfl) (by kernel_rfl) (by kernel_rfl) (fun _ _ _ h => h) (Or.inl ⟨by kernel_rfl, ?hy7_t5⟩) (by assumption) ?rest7_t5
  case hy7_t5 => (intro W_ hS_; (try dsimp only at hS_); go_simp; (try (with_reducible rfl)))
  try simp only [Act.put, List.setIfInBounds_toArray, List.set_cons_zero, List.set_cons_succ]
  refine wpAnyH_take' (i := 9) (v := ?v9_t5) 55 rfl rfl (by kernel_rfl) (by kernel_rfl) (by kernel_rfl) (fun _ _ _ h => h) (Or.inl ⟨by kernel_rfl, ?hy9_t5⟩) (by assumption) ?rest9_t5
  case hy9_t5 => (intro W_ hS_; (try dsimp only at hS_); go_simp; (try (with_reducible rfl)))
  try simp only [Act.put, List.setIfInBounds_toArray, List.set_cons_zero, List.set_cons_succ]
  refine wpAnyH_take' (i := 10) (v := ?v10_t5) 56 rfl rfl (by kernel_rfl) (by kernel_rfl) (by kernel_rfl) (fun _ _ _ h => h) (Or.inl ⟨by kernel_rfl, ?hy10_t5⟩) (by assumption) ?rest10_t5
  case hy10_t5 => (intro W_ hS_; (try dsimp only at hS_); go_simp; (try (with_reducible rfl)))
  try simp only [Act.put, List.setIfInBounds_toArray, List.set_cons_zero, List.set_cons_succ]
  refine wpAnyH_ready (rs := [8]) (by kernel_rfl) (by simp) ?_
  refine AllReadyH.cons rfl (fun K_ hK_ => ?_) AllReadyH.nil
  go_simp
  refine (steps_any c e2 (l ++ m) He3.out Hok.out (k + n2) (by rw [List.length_append, Hn.out, Hn2.out]) (by omega) A4 c4 _ (Row.to (Row.to hp51 (below_drew1 _)) hBr2)).mono ?_; rintro e wr8 ⟨rfl, hBr8⟩
  go_wp2_with fail
  refine hK_.out _ _ (by exact ⟨HasC.cc (c := c) (block_below hBr8 (block_below hBr2 (block_below (below_drew1 _) hc51))), HasC.cc (c := b) (block_below hBr8 (block_below hBr2 (block_below (below_drew1 _) hd51)))⟩) (fun hHeld_8 => ?_)
  clear hK_
  try simp only [Act.put, List.setIfInBounds_toArray, List.set_cons_zero, List.set_cons_succ]
  refine wpAnyH_ready (rs := [11]) (by kernel_rfl) (by simp) ?_
  refine AllReadyH.cons rfl (fun K_ hK_ => ?_) AllReadyH.nil
  go_simp
  refine (steps_any b e2 m He2.out Hbok.out n2 Hn2.out (by omega) A2 cp2 _ (Row.to (Row.to (Row.to hm51 (below_drew1 _)) hBr2) hBr8)).mono ?_; rintro e wr11 ⟨rfl, hBr11⟩
  go_wp2_with fail
  refine hK_.out _ _ (by exact ⟨HasC.cc (c := c) (block_below hBr11 (block_below hBr8 (block_below hBr2 (block_below (below_drew1 _) hc51)))), HasC.cc (c := b) (block_below hBr11 (block_below hBr8 (block_below hBr2 (block_below (below_drew1 _) hd51))))⟩) (fun hHeld_11 => ?_)
  clear hK_
  try simp only [Act.put, List.setIfInBounds_toArray, List.set_cons_zero, List.set_cons_succ]
  refine wpAnyH_take' (i := 12) (v := ?v12_t5) 58 rfl rfl (by kernel_rfl) (by kernel_rfl) (by kernel_rfl) (fun _ _ _ h => h) (Or.inl ⟨by kernel_rfl, ?hy12_t5⟩) (by assumption) ?rest12_t5
  case hy12_t5 => (intro W_ hS_; (try dsimp only at hS_); go_simp; (try (with_reducible rfl)))
  try simp only [Act.put, List.setIfInBounds_toArray, List.set_cons_zero, List.set_cons_succ]
  refine wpAnyH_take' (i := 13) (v := ?v13_t5) 59 rfl rfl (by kernel_rfl) (by kernel_rfl) (by kernel_rfl) (fun _ _ _ h => h) (Or.inl ⟨by kernel_rfl, ?hy13_t5⟩) (by assumption) ?rest13_t5
  case hy13_t5 => (intro W_ hS_; (try dsimp only at hS_); go_simp; (try (with_reducible rfl)))
  try simp only [Act.put, List.setIfInBounds_toArray, List.set_cons_zero, List.set_cons_succ]
  refine wpAnyH_take' (i := 14) (v := ?v14_t5) 60 rfl rfl (by kernel_rfl) (by kernel_rfl) (by kernel_rfl) (fun _ _ _ h => h) (Or.inl ⟨by kernel_rfl, ?hy14_t5⟩) (by assumption) ?rest14_t5
  case hy14_t5 => (intro W_ hS_; (try dsimp only at hS_); go_simp; (try (with_reducible rfl)))
  try simp only [Act.put, List.setIfInBounds_toArray, List.set_cons_zero, List.set_cons_succ]
  refine wpAnyH_take' (i := 15) (v := ?v15_t5) 61 rfl rfl (by kernel_rfl) (by kernel_rfl) (by kernel_rfl) (fun _ _ _ h => h) (Or.inl ⟨by kernel_rfl, ?hy15_t5⟩) (by assumption) ?rest15_t5
  case hy15_t5 => (intro W_ hS_; (try dsimp only at hS_); go_simp; (try (with_reducible rfl)))
  try simp only [Act.put, List.setIfInBounds_toArray, List.set_cons_zero, List.set_cons_succ]
  refine wpAnyH_take' (i := 17) (v := ?v17_t5) 63 rfl rfl (by kernel_rfl) (by kernel_rfl) (by kernel_rfl) (fun _ _ _ h => h) (Or.inl ⟨by kernel_rfl, ?hy17_t5⟩) (by assumption) ?rest17_t5
  case hy17_t5 => (intro W_ hS_; (try dsimp only at hS_); go_simp; (try (with_reducible rfl)))
  try simp only [Act.put, List.setIfInBounds_toArray, List.set_cons_zero, List.set_cons_succ]
  refine wpAnyH_ready (rs := [16]) (by kernel_rfl) (by simp) ?_
  refine AllReadyH.cons rfl (fun K_ hK_ => ?_) AllReadyH.nil
  go_simp
  refine (steps_any c c [] rfl Hok.out 0 rfl (by omega) none 0 _ Row.none_).mono ?_; rintro e wr16 ⟨rfl, hBr16⟩
  go_wp2_with fail
  refine hK_.out _ _ (by exact ⟨HasC.cc (c := c) (block_below hBr16 (block_below hBr11 (block_below hBr8 (block_below hBr2 (block_below (below_drew1 _) hc51))))), HasC.cc (c := b) (block_below hBr16 (block_below hBr11 (block_below hBr8 (block_below hBr2 (block_below (below_drew1 _) hd51)))))⟩) (fun hHeld_16 => ?_)
  clear hK_
  try simp only [Act.put, List.setIfInBounds_toArray, List.set_cons_zero, List.set_cons_succ]
  refine wpAnyH_take' (i := 18) (v := ?v18_t5) 64 rfl rfl (by kernel_rfl) (by kernel_rfl) (by kernel_rfl) (fun _ _ _ h => h) (Or.inl ⟨by kernel_rfl, ?hy18_t5⟩) (by assumption) ?rest18_t5
  case hy18_t5 => (intro W_ hS_; (try dsimp only at hS_); go_simp; (try (with_reducible rfl)))
  try simp only [Act.put, List.setIfInBounds_toArray, List.set_cons_zero, List.set_cons_succ]
  refine wpAnyH_take' (i := 19) (v := ?v19_t5) 65 rfl rfl (by kernel_rfl) (by kernel_rfl) (by kernel_rfl) (fun _ _ _ h => h) (Or.inl ⟨by kernel_rfl, ?hy19_t5⟩) (by assumption) ?rest19_t5
  case hy19_t5 => (intro W_ hS_; (try dsimp only at hS_); go_simp; (try (with_reducible rfl)))
  try simp only [Act.put, List.setIfInBounds_toArray, List.set_cons_zero, List.set_cons_succ]
  refine wpAnyH_done (by kernel_rfl) ?_ _
  obtain ⟨w52, hw52⟩ : ∃ w52, wr16 = w52 := ⟨_, rfl⟩
  have hB52 : Below w4.heap.size w4 w52 := by rw [← hw52]; exact (below_then (below_then (below_then (below_then (below_drew1 _) hBr2) hBr8) hBr11) hBr16)
  rw [hw52]
  clear hw52
  have hT52 := below_then hT51 hB52
  have hc52 := block_below hB52 hc51
  have hd52 := block_below hB52 hd51
  have hl52 := Row.to hl51 hB52
  have hm52 := Row.to hm51 hB52
  have hp52 := Row.to hp51 hB52
  clear hT51 hc51 hd51  hl51 hm51 hp51 hB52
  clear hl52
  clear hm52
  clear hp52
  clear Hb3 Hbok He2 He3
  clear hd52
  obtain ⟨cc0, cc1, cc2, cc3⟩ := HasC.cc (c := c) hc52
  go_wp2_with fail
  clear cc0 cc1 cc2 cc3
  by_cases o1 : 1 ≤ o
  · skip
    have o3 : decide (1 ≤ o) = true := by simpa using o1
    by_cases o2 : o ≤ 6
    · skip
      have o4 : decide (o ≤ 6) = true := by simpa using o2
      by_cases hs : c.s = 3
      · skip
        have hs2 : (c.s == 3) = true := by simpa using hs
        have Hs := Lib.hid hs
        clear hs
        refine wp_region_held_drew (S := fun W => (W.cell? ⟨w.heap.size, 0, none⟩ = some (.int .i64 c.t) ∧ W.cell? ⟨w.heap.size, 1, none⟩ = some (.int .i64 c.r) ∧ W.cell? ⟨w.heap.size, 2, none⟩ = some (.int .i64 c.s) ∧ W.cell? ⟨w.heap.size, 3, none⟩ = some (.int .i64 c.q))) (by kernel_rfl) (by exact HasC.cc (c := c) (block_below (below_drew1 _) hc52)) (fun hHeld_ => ?_)
        refine wpAnyH_take' (i := 0) (v := ?v0_t6) 66 rfl rfl (by kernel_rfl) (by kernel_rfl) (by kernel_rfl) (fun _ _ _ h => h) (Or.inl ⟨by kernel_rfl, ?hy0_t6⟩) (by assumption) ?rest0_t6
        case hy0_t6 => (intro W_ hS_; (try dsimp only at hS_); go_simp; (try (with_reducible rfl)))
        try simp only [Act.put, List.setIfInBounds_toArray, List.set_cons_zero, List.set_cons_succ]
        refine wpAnyH_take' (i := 1) (v := ?v1_t6) 67 rfl rfl (by kernel_rfl) (by kernel_rfl) (by kernel_rfl) (fun _ _ _ h => h) (Or.inl ⟨by kernel_rfl, ?hy1_t6⟩) (by assumption) ?rest1_t6
        case hy1_t6 => (intro W_ hS_; (try dsimp only at hS_); go_simp; (try (with_reducible rfl)))
        try simp only [Act.put, List.setIfInBounds_toArray, List.set_cons_zero, List.set_cons_succ]
        refine wpAnyH_take' (i := 2) (v := ?v2_t6) 68 rfl rfl (by kernel_rfl) (by kernel_rfl) (by kernel_rfl) (fun _ _ _ h => h) (Or.inl ⟨by kernel_rfl, ?hy2_t6⟩) (by assumption) ?rest2_t6
        case hy2_t6 => (intro W_ hS_; (try dsimp only at hS_); go_simp; (try (with_reducible rfl)))
        try simp only [Act.put, List.setIfInBounds_toArray, List.set_cons_zero, List.set_cons_succ]
        refine wpAnyH_take' (i := 3) (v := ?v3_t6) 69 rfl rfl (by kernel_rfl) (by kernel_rfl) (by kernel_rfl) (fun _ _ _ h => h) (Or.inl ⟨by kernel_rfl, ?hy3_t6⟩) (by assumption) ?rest3_t6
        case hy3_t6 => (intro W_ hS_; (try dsimp only at hS_); go_simp; (try (with_reducible rfl)))
        try simp only [Act.put, List.setIfInBounds_toArray, List.set_cons_zero, List.set_cons_succ]
        refine wpAnyH_take' (i := 4) (v := ?v4_t6) 70 rfl rfl (by kernel_rfl) (by kernel_rfl) (by kernel_rfl) (fun _ _ _ h => h) (Or.inl ⟨by kernel_rfl, ?hy4_t6⟩) (by assumption) ?rest4_t6
        case hy4_t6 => (intro W_ hS_; (try dsimp only at hS_); go_simp; (try (with_reducible rfl)))
        try simp only [Act.put, List.setIfInBounds_toArray, List.set_cons_zero, List.set_cons_succ]
        refine wpAnyH_take' (i := 5) (v := ?v5_t6) 71 rfl rfl (by kernel_rfl) (by kernel_rfl) (by kernel_rfl) (fun _ _ _ h => h) (Or.inl ⟨by kernel_rfl, ?hy5_t6⟩) (by assumption) ?rest5_t6
        case hy5_t6 => (intro W_ hS_; (try dsimp only at hS_); go_simp; (try (with_reducible rfl)))
        try simp only [Act.put, List.setIfInBounds_toArray, List.set_cons_zero, List.set_cons_succ]
        refine wpAnyH_take' (i := 6) (v := ?v6_t6) 72 rfl rfl (by kernel_rfl) (by kernel_rfl) (by kernel_rfl) (fun _ _ _ h => h) (Or.inl ⟨by kernel_rfl, ?hy6_t6⟩) (by assumption) ?rest6_t6
        case hy6_t6 => (intro W_ hS_; (try dsimp only at hS_); go_simp; (try (with_reducible rfl)))
        try simp only [Act.put, List.setIfInBounds_toArray, List.set_cons_zero, List.set_cons_succ]
        refine wpAnyH_take' (i := 7) (v := ?v7_t6) 73 rfl rfl (by kernel_rfl) (by kernel_rfl) (by kernel_rfl) (fun _ _ _ h => h) (Or.inl ⟨by kernel_rfl, ?hy7_t6⟩) (by assumption) ?rest7_t6
        case hy7_t6 => (intro W_ hS_; (try dsimp only at hS_); go_simp; (try (with_reducible rfl)))
        try simp only [Act.put, List.setIfInBounds_toArray, List.set_cons_zero, List.set_cons_succ]
        refine wpAnyH_take' (i := 8) (v := ?v8_t6) 74 rfl rfl (by kernel_rfl) (by kernel_rfl) (by kernel_rfl) (fun _ _ _ h => h) (Or.inl ⟨by kernel_rfl, ?hy8_t6⟩) (by assumption) ?rest8_t6
        case hy8_t6 => (intro W_ hS_; (try dsimp only at hS_); go_simp; (try (with_reducible rfl)))
        try simp only [Act.put, List.setIfInBounds_toArray, List.set_cons_zero, List.set_cons_succ]
        refine wpAnyH_take' (i := 9) (v := undef) 75 rfl rfl (by kernel_rfl) (by kernel_rfl) (by kernel_rfl) (fun _ _ _ h => h) (Or.inr ⟨by kernel_rfl, rfl⟩) (by assumption) ?_
        try simp only [Act.put, List.setIfInBounds_toArray, List.set_cons_zero, List.set_cons_succ]
        refine wpAnyH_take' (i := 10) (v := undef) 76 rfl rfl (by kernel_rfl) (by kernel_rfl) (by kernel_rfl) (fun _ _ _ h => h) (Or.inr ⟨by kernel_rfl, rfl⟩) (by assumption) ?_
        try simp only [Act.put, List.setIfInBounds_toArray, List.set_cons_zero, List.set_cons_succ]
        refine wpAnyH_take' (i := 12) (v := undef) 78 rfl rfl (by kernel_rfl) (by kernel_rfl) (by kernel_rfl) (fun _ _ _ h => h) (Or.inr ⟨by kernel_rfl, rfl⟩) (by assumption) ?_
        try simp only [Act.put, List.setIfInBounds_toArray, List.set_cons_zero, List.set_cons_succ]
        refine wpAnyH_skip (i := 11) 77 rfl rfl (by kernel_rfl) (by kernel_rfl) (by assumption) ?_
        try simp only [Act.put, List.setIfInBounds_toArray, List.set_cons_zero, List.set_cons_succ]
        refine wpAnyH_take' (i := 13) (v := undef) 79 rfl rfl (by kernel_rfl) (by kernel_rfl) (by kernel_rfl) (fun _ _ _ h => h) (Or.inr ⟨by kernel_rfl, rfl⟩) (by assumption) ?_
        try simp only [Act.put, List.setIfInBounds_toArray, List.set_cons_zero, List.set_cons_succ]
        refine wpAnyH_take' (i := 14) (v := ?v14_t6) 80 rfl rfl (by kernel_rfl) (by kernel_rfl) (by kernel_rfl) (fun _ _ _ h => h) (Or.inl ⟨by kernel_rfl, ?hy14_t6⟩) (by assumption) ?rest14_t6
        case hy14_t6 => (intro W_ hS_; (try dsimp only at hS_); go_simp; (try (with_reducible rfl)))
        try simp only [Act.put, List.setIfInBounds_toArray, List.set_cons_zero, List.set_cons_succ]
        refine wpAnyH_take' (i := 15) (v := ?v15_t6) 81 rfl rfl (by kernel_rfl) (by kernel_rfl) (by kernel_rfl) (fun _ _ _ h => h) (Or.inl ⟨by kernel_rfl, ?hy15_t6⟩) (by assumption) ?rest15_t6
        case hy15_t6 => (intro W_ hS_; (try dsimp only at hS_); go_simp; (try (with_reducible rfl)))
        try simp only [Act.put, List.setIfInBounds_toArray, List.set_cons_zero, List.set_cons_succ]
        refine wpAnyH_take' (i := 16) (v := ?v16_t6) 82 rfl rfl (by kernel_rfl) (by kernel_rfl) (by kernel_rfl) (fun _ _ _ h => h) (Or.inl ⟨by kernel_rfl, ?hy16_t6⟩) (by assumption) ?rest16_t6
        case hy16_t6 => (intro W_ hS_; (try dsimp only at hS_); go_simp; (try (with_reducible rfl)))
        try simp only [Act.put, List.setIfInBounds_toArray, List.set_cons_zero, List.set_cons_succ]
        refine wpAnyH_take' (i := 17) (v := ?v17_t6) 83 rfl rfl (by kernel_rfl) (by kernel_rfl) (by kernel_rfl) (fun _ _ _ h => h) (Or.inl ⟨by kernel_rfl, ?hy17_t6⟩) (by assumption) ?rest17_t6
        case hy17_t6 => (intro W_ hS_; (try dsimp only at hS_); go_simp; (try (with_reducible rfl)))
        try simp only [Act.put, List.setIfInBounds_toArray, List.set_cons_zero, List.set_cons_succ]
        refine wpAnyH_take' (i := 18) (v := ?v18_t6) 84 rfl rfl (by kernel_rfl) (by kernel_rfl) (by kernel_rfl) (fun _ _ _ h => h) (Or.inl ⟨by kernel_rfl, ?hy18_t6⟩) (by assumption) ?rest18_t6
        case hy18_t6 => (intro W_ hS_; (try dsimp only at hS_); go_simp; (try (with_reducible rfl)))
        try simp only [Act.put, List.setIfInBounds_toArray, List.set_cons_zero, List.set_cons_succ]
        refine wpAnyH_take' (i := 19) (v := ?v19_t6) 85 rfl rfl (by kernel_rfl) (by kernel_rfl) (by kernel_rfl) (fun _ _ _ h => h) (Or.inl ⟨by kernel_rfl, ?hy19_t6⟩) (by assumption) ?rest19_t6
        case hy19_t6 => (intro W_ hS_; (try dsimp only at hS_); go_simp; (try (with_reducible rfl)))
        try simp only [Act.put, List.setIfInBounds_toArray, List.set_cons_zero, List.set_cons_succ]
        refine wpAnyH_take' (i := 20) (v := ?v20_t6) 86 rfl rfl (by kernel_rfl) (by kernel_rfl) (by kernel_rfl) (fun _ _ _ h => h) (Or.inl ⟨by kernel_rfl, ?hy20_t6⟩) (by assumption) ?rest20_t6
        case hy20_t6 => (intro W_ hS_; (try dsimp only at hS_); go_simp; (try (with_reducible rfl)))
        try simp only [Act.put, List.setIfInBounds_toArray, List.set_cons_zero, List.set_cons_succ]
        refine wpAnyH_take' (i := 21) (v := undef) 87 rfl rfl (by kernel_rfl) (by kernel_rfl) (by kernel_rfl) (fun _ _ _ h => h) (Or.inr ⟨by kernel_rfl, rfl⟩) (by assumption) ?_
        try simp only [Act.put, List.setIfInBounds_toArray, List.set_cons_zero, List.set_cons_succ]
        refine wpAnyH_take' (i := 23) (v := undef) 89 rfl rfl (by kernel_rfl) (by kernel_rfl) (by kernel_rfl) (fun _ _ _ h => h) (Or.inr ⟨by kernel_rfl, rfl⟩) (by assumption) ?_
        try simp only [Act.put, List.setIfInBounds_toArray, List.set_cons_zero, List.set_cons_succ]
        refine wpAnyH_skip (i := 22) 88 rfl rfl (by kernel_rfl) (by kernel_rfl) (by assumption) ?_
        try simp only [Act.put, List.setIfInBounds_toArray, List.set_cons_zero, List.set_cons_succ]
        refine wpAnyH_take' (i := 24) (v := undef) 90 rfl rfl (by kernel_rfl) (by kernel_rfl) (by kernel_rfl) (fun _ _ _ h => h) (Or.inr ⟨by kernel_rfl, rfl⟩) (by assumption) ?_
        try simp only [Act.put, List.setIfInBounds_toArray, List.set_cons_zero, List.set_cons_succ]
        refine wpAnyH_take' (i := 25) (v := ?v25_t6) 91 rfl rfl (by kernel_rfl) (by kernel_rfl) (by kernel_rfl) (fun _ _ _ h => h) (Or.inl ⟨by kernel_rfl, ?hy25_t6⟩) (by assumption) ?rest25_t6
        case hy25_t6 => (intro W_ hS_; (try dsimp only at hS_); go_simp; (try (with_reducible rfl)))
        try simp only [Act.put, List.setIfInBounds_toArray, List.set_cons_zero, List.set_cons_succ]
        refine wpAnyH_take' (i := 26) (v := ?v26_t6) 92 rfl rfl (by kernel_rfl) (by kernel_rfl) (by kernel_rfl) (fun _ _ _ h => h) (Or.inl ⟨by kernel_rfl, ?hy26_t6⟩) (by assumption) ?rest26_t6
        case hy26_t6 => (intro W_ hS_; (try dsimp only at hS_); go_simp; (try (with_reducible rfl)))
        try simp only [Act.put, List.setIfInBounds_toArray, List.set_cons_zero, List.set_cons_succ]
        refine wpAnyH_take' (i := 27) (v := ?v27_t6) 8 rfl rfl (by kernel_rfl) (by kernel_rfl) (by kernel_rfl) (fun _ _ _ h => h) (Or.inl ⟨by kernel_rfl, ?hy27_t6⟩) (by assumption) ?rest27_t6
        case hy27_t6 => (intro W_ hS_; (try dsimp only at hS_); go_simp; (try (with_reducible rfl)))
        try simp only [Act.put, List.setIfInBounds_toArray, List.set_cons_zero, List.set_cons_succ]
        refine wpAnyH_done (by kernel_rfl) ?_ _
        go_wp2_with fail
        go_ret
        exact ⟨rfl, below_then hT52 (below_drew1 _)⟩
      have hs2 : (c.s == 3) = false := by simpa using hs
      have Hcm := Lib.hid (parts_calm Hok.out hs)
      clear hs
      refine wp_region_held_drew (S := fun W => (W.cell? ⟨w.heap.size, 0, none⟩ = some (.int .i64 c.t) ∧ W.cell? ⟨w.heap.size, 1, none⟩ = some (.int .i64 c.r) ∧ W.cell? ⟨w.heap.size, 2, none⟩ = some (.int .i64 c.s) ∧ W.cell? ⟨w.heap.size, 3, none⟩ = some (.int .i64 c.q))) (by kernel_rfl) (by exact HasC.cc (c := c) (block_below (below_drew1 _) hc52)) (fun hHeld_ => ?_)
      refine wpAnyH_take' (i := 0) (v := ?v0_t7) 66 rfl rfl (by kernel_rfl) (by kernel_rfl) (by kernel_rfl) (fun _ _ _ h => h) (Or.inl ⟨by kernel_rfl, ?hy0_t7⟩) (by assumption) ?rest0_t7
      case hy0_t7 => (intro W_ hS_; (try dsimp only at hS_); go_simp; (try (with_reducible rfl)))
      try simp only [Act.put, List.setIfInBounds_toArray, List.set_cons_zero, List.set_cons_succ]
      refine wpAnyH_take' (i := 1) (v := ?v1_t7) 67 rfl rfl (by kernel_rfl) (by kernel_rfl) (by kernel_rfl) (fun _ _ _ h => h) (Or.inl ⟨by kernel_rfl, ?hy1_t7⟩) (by assumption) ?rest1_t7
      case hy1_t7 => (intro W_ hS_; (try dsimp only at hS_); go_simp; (try (with_reducible rfl)))
      try simp only [Act.put, List.setIfInBounds_toArray, List.set_cons_zero, List.set_cons_succ]
      refine wpAnyH_take' (i := 2) (v := ?v2_t7) 68 rfl rfl (by kernel_rfl) (by kernel_rfl) (by kernel_rfl) (fun _ _ _ h => h) (Or.inl ⟨by kernel_rfl, ?hy2_t7⟩) (by assumption) ?rest2_t7
      case hy2_t7 => (intro W_ hS_; (try dsimp only at hS_); go_simp; (try (with_reducible rfl)))
      try simp only [Act.put, List.setIfInBounds_toArray, List.set_cons_zero, List.set_cons_succ]
      refine wpAnyH_take' (i := 3) (v := ?v3_t7) 69 rfl rfl (by kernel_rfl) (by kernel_rfl) (by kernel_rfl) (fun _ _ _ h => h) (Or.inl ⟨by kernel_rfl, ?hy3_t7⟩) (by assumption) ?rest3_t7
      case hy3_t7 => (intro W_ hS_; (try dsimp only at hS_); go_simp; (try (with_reducible rfl)))
      try simp only [Act.put, List.setIfInBounds_toArray, List.set_cons_zero, List.set_cons_succ]
      refine wpAnyH_take' (i := 4) (v := ?v4_t7) 70 rfl rfl (by kernel_rfl) (by kernel_rfl) (by kernel_rfl) (fun _ _ _ h => h) (Or.inl ⟨by kernel_rfl, ?hy4_t7⟩) (by assumption) ?rest4_t7
      case hy4_t7 => (intro W_ hS_; (try dsimp only at hS_); go_simp; (try (with_reducible rfl)))
      try simp only [Act.put, List.setIfInBounds_toArray, List.set_cons_zero, List.set_cons_succ]
      refine wpAnyH_take' (i := 5) (v := ?v5_t7) 71 rfl rfl (by kernel_rfl) (by kernel_rfl) (by kernel_rfl) (fun _ _ _ h => h) (Or.inl ⟨by kernel_rfl, ?hy5_t7⟩) (by assumption) ?rest5_t7
      case hy5_t7 => (intro W_ hS_; (try dsimp only at hS_); go_simp; (try (with_reducible rfl)))
      try simp only [Act.put, List.setIfInBounds_toArray, List.set_cons_zero, List.set_cons_succ]
      refine wpAnyH_take' (i := 6) (v := ?v6_t7) 72 rfl rfl (by kernel_rfl) (by kernel_rfl) (by kernel_rfl) (fun _ _ _ h => h) (Or.inl ⟨by kernel_rfl, ?hy6_t7⟩) (by assumption) ?rest6_t7
      case hy6_t7 => (intro W_ hS_; (try dsimp only at hS_); go_simp; (try (with_reducible rfl)))
      try simp only [Act.put, List.setIfInBounds_toArray, List.set_cons_zero, List.set_cons_succ]
      refine wpAnyH_take' (i := 7) (v := ?v7_t7) 73 rfl rfl (by kernel_rfl) (by kernel_rfl) (by kernel_rfl) (fun _ _ _ h => h) (Or.inl ⟨by kernel_rfl, ?hy7_t7⟩) (by assumption) ?rest7_t7
      case hy7_t7 => (intro W_ hS_; (try dsimp only at hS_); go_simp; (try (with_reducible rfl)))
      try simp only [Act.put, List.setIfInBounds_toArray, List.set_cons_zero, List.set_cons_succ]
      refine wpAnyH_take' (i := 8) (v := ?v8_t7) 74 rfl rfl (by kernel_rfl) (by kernel_rfl) (by kernel_rfl) (fun _ _ _ h => h) (Or.inl ⟨by kernel_rfl, ?hy8_t7⟩) (by assumption) ?rest8_t7
      case hy8_t7 => (intro W_ hS_; (try dsimp only at hS_); go_simp; (try (with_reducible rfl)))
      try simp only [Act.put, List.setIfInBounds_toArray, List.set_cons_zero, List.set_cons_succ]
      refine wpAnyH_take' (i := 9) (v := undef) 75 rfl rfl (by kernel_rfl) (by kernel_rfl) (by kernel_rfl) (fun _ _ _ h => h) (Or.inr ⟨by kernel_rfl, rfl⟩) (by assumption) ?_
      try simp only [Act.put, List.setIfInBounds_toArray, List.set_cons_zero, List.set_cons_succ]
      refine wpAnyH_take' (i := 10) (v := undef) 76 rfl rfl (by kernel_rfl) (by kernel_rfl) (by kernel_rfl) (fun _ _ _ h => h) (Or.inr ⟨by kernel_rfl, rfl⟩) (by assumption) ?_
      try simp only [Act.put, List.setIfInBounds_toArray, List.set_cons_zero, List.set_cons_succ]
      refine wpAnyH_take' (i := 12) (v := undef) 78 rfl rfl (by kernel_rfl) (by kernel_rfl) (by kernel_rfl) (fun _ _ _ h => h) (Or.inr ⟨by kernel_rfl, rfl⟩) (by assumption) ?_
      try simp only [Act.put, List.setIfInBounds_toArray, List.set_cons_zero, List.set_cons_succ]
      refine wpAnyH_skip (i := 11) 77 rfl rfl (by kernel_rfl) (by kernel_rfl) (by assumption) ?_
      try simp only [Act.put, List.setIfInBounds_toArray, List.set_cons_zero, List.set_cons_succ]
      refine wpAnyH_take' (i := 13) (v := undef) 79 rfl rfl (by kernel_rfl) (by kernel_rfl) (by kernel_rfl) (fun _ _ _ h => h) (Or.inr ⟨by kernel_rfl, rfl⟩) (by assumption) ?_
      try simp only [Act.put, List.setIfInBounds_toArray, List.set_cons_zero, List.set_cons_succ]
      refine wpAnyH_take' (i := 14) (v := ?v14_t7) 80 rfl rfl (by kernel_rfl) (by kernel_rfl) (by kernel_rfl) (fun _ _ _ h => h) (Or.inl ⟨by kernel_rfl, ?hy14_t7⟩) (by assumption) ?rest14_t7
      case hy14_t7 => (intro W_ hS_; (try dsimp only at hS_); go_simp; (try (with_reducible rfl)))
      try simp only [Act.put, List.setIfInBounds_toArray, List.set_cons_zero, List.set_cons_succ]
      refine wpAnyH_take' (i := 15) (v := ?v15_t7) 81 rfl rfl (by kernel_rfl) (by kernel_rfl) (by kernel_rfl) (fun _ _ _ h => h) (Or.inl ⟨by kernel_rfl, ?hy15_t7⟩) (by assumption) ?rest15_t7
      case hy15_t7 => (intro W_ hS_; (try dsimp only at hS_); go_simp; (try (with_reducible rfl)))
      try simp only [Act.put, List.setIfInBounds_toArray, List.set_cons_zero, List.set_cons_succ]
      refine wpAnyH_take' (i := 16) (v := ?v16_t7) 82 rfl rfl (by kernel_rfl) (by kernel_rfl) (by kernel_rfl) (fun _ _ _ h => h) (Or.inl ⟨by kernel_rfl, ?hy16_t7⟩) (by assumption) ?rest16_t7
      case hy16_t7 => (intro W_ hS_; (try dsimp only at hS_); go_simp; (try (with_reducible rfl)))
      try simp only [Act.put, List.setIfInBounds_toArray, List.set_cons_zero, List.set_cons_succ]
      refine wpAnyH_take' (i := 17) (v := ?v17_t7) 83 rfl rfl (by kernel_rfl) (by kernel_rfl) (by kernel_rfl) (fun _ _ _ h => h) (Or.inl ⟨by kernel_rfl, ?hy17_t7⟩) (by assumption) ?rest17_t7
      case hy17_t7 => (intro W_ hS_; (try dsimp only at hS_); go_simp; (try (with_reducible rfl)))
      try simp only [Act.put, List.setIfInBounds_toArray, List.set_cons_zero, List.set_cons_succ]
      refine wpAnyH_take' (i := 18) (v := ?v18_t7) 84 rfl rfl (by kernel_rfl) (by kernel_rfl) (by kernel_rfl) (fun _ _ _ h => h) (Or.inl ⟨by kernel_rfl, ?hy18_t7⟩) (by assumption) ?rest18_t7
      case hy18_t7 => (intro W_ hS_; (try dsimp only at hS_); go_simp; (try (with_reducible rfl)))
      try simp only [Act.put, List.setIfInBounds_toArray, List.set_cons_zero, List.set_cons_succ]
      refine wpAnyH_take' (i := 19) (v := ?v19_t7) 85 rfl rfl (by kernel_rfl) (by kernel_rfl) (by kernel_rfl) (fun _ _ _ h => h) (Or.inl ⟨by kernel_rfl, ?hy19_t7⟩) (by assumption) ?rest19_t7
      case hy19_t7 => (intro W_ hS_; (try dsimp only at hS_); go_simp; (try (with_reducible rfl)))
      try simp only [Act.put, List.setIfInBounds_toArray, List.set_cons_zero, List.set_cons_succ]
      refine wpAnyH_take' (i := 20) (v := ?v20_t7) 86 rfl rfl (by kernel_rfl) (by kernel_rfl) (by kernel_rfl) (fun _ _ _ h => h) (Or.inl ⟨by kernel_rfl, ?hy20_t7⟩) (by assumption) ?rest20_t7
      case hy20_t7 => (intro W_ hS_; (try dsimp only at hS_); go_simp; (try (with_reducible rfl)))
      try simp only [Act.put, List.setIfInBounds_toArray, List.set_cons_zero, List.set_cons_succ]
      refine wpAnyH_take' (i := 21) (v := ?v21_t7) 87 rfl rfl (by kernel_rfl) (by kernel_rfl) (by kernel_rfl) (fun _ _ _ h => h) (Or.inl ⟨by kernel_rfl, ?hy21_t7⟩) (by assumption) ?rest21_t7
      case hy21_t7 => (intro W_ hS_; (try dsimp only at hS_); go_simp; (try (with_reducible rfl)))
      try simp only [Act.put, List.setIfInBounds_toArray, List.set_cons_zero, List.set_cons_succ]
      refine wpAnyH_take' (i := 23) (v := ?v23_t7) 89 rfl rfl (by kernel_rfl) (by kernel_rfl) (by kernel_rfl) (fun _ _ _ h => h) (Or.inl ⟨by kernel_rfl, ?hy23_t7⟩) (by assumption) ?rest23_t7
      case hy23_t7 => (intro W_ hS_; (try dsimp only at hS_); go_simp; (try (with_reducible rfl)))
      try simp only [Act.put, List.setIfInBounds_toArray, List.set_cons_zero, List.set_cons_succ]
      refine wpAnyH_ready (rs := [22]) (by kernel_rfl) (by simp) ?_
      refine AllReadyH.cons rfl (fun K_ hK_ => ?_) AllReadyH.nil
      go_simp
      refine (step1_any c c 6 Hcm.out Hok.out _).mono ?_; rintro e wr22 ⟨rfl, hBr22⟩
      go_wp2_with fail
      refine hK_.out _ _ (by exact HasC.cc (c := c) (block_below hBr22 (block_below (below_drew1 _) hc52))) (fun hHeld_22 => ?_)
      clear hK_
      try simp only [Act.put, List.setIfInBounds_toArray, List.set_cons_zero, List.set_cons_succ]
      refine wpAnyH_take' (i := 24) (v := ?v24_t7) 90 rfl rfl (by kernel_rfl) (by kernel_rfl) (by kernel_rfl) (fun _ _ _ h => h) (Or.inl ⟨by kernel_rfl, ?hy24_t7⟩) (by assumption) ?rest24_t7
      case hy24_t7 => (intro W_ hS_; (try dsimp only at hS_); go_simp; (try (with_reducible rfl)))
      try simp only [Act.put, List.setIfInBounds_toArray, List.set_cons_zero, List.set_cons_succ]
      refine wpAnyH_take' (i := 25) (v := ?v25_t7) 91 rfl rfl (by kernel_rfl) (by kernel_rfl) (by kernel_rfl) (fun _ _ _ h => h) (Or.inl ⟨by kernel_rfl, ?hy25_t7⟩) (by assumption) ?rest25_t7
      case hy25_t7 => (intro W_ hS_; (try dsimp only at hS_); go_simp; (try (with_reducible rfl)))
      try simp only [Act.put, List.setIfInBounds_toArray, List.set_cons_zero, List.set_cons_succ]
      refine wpAnyH_take' (i := 26) (v := ?v26_t7) 92 rfl rfl (by kernel_rfl) (by kernel_rfl) (by kernel_rfl) (fun _ _ _ h => h) (Or.inl ⟨by kernel_rfl, ?hy26_t7⟩) (by assumption) ?rest26_t7
      case hy26_t7 => (intro W_ hS_; (try dsimp only at hS_); go_simp; (try (with_reducible rfl)))
      try simp only [Act.put, List.setIfInBounds_toArray, List.set_cons_zero, List.set_cons_succ]
      refine wpAnyH_take' (i := 27) (v := ?v27_t7) 8 rfl rfl (by kernel_rfl) (by kernel_rfl) (by kernel_rfl) (fun _ _ _ h => h) (Or.inl ⟨by kernel_rfl, ?hy27_t7⟩) (by assumption) ?rest27_t7
      case hy27_t7 => (intro W_ hS_; (try dsimp only at hS_); go_simp; (try (with_reducible rfl)))
      try simp only [Act.put, List.setIfInBounds_toArray, List.set_cons_zero, List.set_cons_succ]
      refine wpAnyH_done (by kernel_rfl) ?_ _
      go_wp2_with fail
      go_ret
      exact ⟨rfl, below_then hT52 (below_then (below_drew1 _) hBr22)⟩
    have o4 : decide (o ≤ 6) = false := by simpa using o2
    have Hodd := Lib.hid (parts_odd Hok.out (k := o) (by omega))
    by_cases hs : c.s = 3
    · skip
      have hs2 : (c.s == 3) = true := by simpa using hs
      have Hs := Lib.hid hs
      clear hs
      refine wp_region_held_drew (S := fun W => (W.cell? ⟨w.heap.size, 0, none⟩ = some (.int .i64 c.t) ∧ W.cell? ⟨w.heap.size, 1, none⟩ = some (.int .i64 c.r) ∧ W.cell? ⟨w.heap.size, 2, none⟩ = some (.int .i64 c.s) ∧ W.cell? ⟨w.heap.size, 3, none⟩ = some (.int .i64 c.q))) (by kernel_rfl) (by exact HasC.cc (c := c) (block_below (below_drew1 _) hc52)) (fun hHeld_ => ?_)
      refine wpAnyH_take' (i := 0) (v := ?v0_t8) 66 rfl rfl (by kernel_rfl) (by kernel_rfl) (by kernel_rfl) (fun _ _ _ h => h) (Or.inl ⟨by kernel_rfl, ?hy0_t8⟩) (by assumption) ?rest0_t8
      case hy0_t8 => (intro W_ hS_; (try dsimp only at hS_); go_simp; (try (with_reducible rfl)))
      try simp only [Act.put, List.setIfInBounds_toArray, List.set_cons_zero, List.set_cons_succ]
      refine wpAnyH_take' (i := 1) (v := ?v1_t8) 67 rfl rfl (by kernel_rfl) (by kernel_rfl) (by kernel_rfl) (fun _ _ _ h => h) (Or.inl ⟨by kernel_rfl, ?hy1_t8⟩) (by assumption) ?rest1_t8
      case hy1_t8 => (intro W_ hS_; (try dsimp only at hS_); go_simp; (try (with_reducible rfl)))
      try simp only [Act.put, List.setIfInBounds_toArray, List.set_cons_zero, List.set_cons_succ]
      refine wpAnyH_take' (i := 2) (v := ?v2_t8) 68 rfl rfl (by kernel_rfl) (by kernel_rfl) (by kernel_rfl) (fun _ _ _ h => h) (Or.inl ⟨by kernel_rfl, ?hy2_t8⟩) (by assumption) ?rest2_t8
      case hy2_t8 => (intro W_ hS_; (try dsimp only at hS_); go_simp; (try (with_reducible rfl)))
      try simp only [Act.put, List.setIfInBounds_toArray, List.set_cons_zero, List.set_cons_succ]
      refine wpAnyH_take' (i := 3) (v := ?v3_t8) 69 rfl rfl (by kernel_rfl) (by kernel_rfl) (by kernel_rfl) (fun _ _ _ h => h) (Or.inl ⟨by kernel_rfl, ?hy3_t8⟩) (by assumption) ?rest3_t8
      case hy3_t8 => (intro W_ hS_; (try dsimp only at hS_); go_simp; (try (with_reducible rfl)))
      try simp only [Act.put, List.setIfInBounds_toArray, List.set_cons_zero, List.set_cons_succ]
      refine wpAnyH_take' (i := 4) (v := ?v4_t8) 70 rfl rfl (by kernel_rfl) (by kernel_rfl) (by kernel_rfl) (fun _ _ _ h => h) (Or.inl ⟨by kernel_rfl, ?hy4_t8⟩) (by assumption) ?rest4_t8
      case hy4_t8 => (intro W_ hS_; (try dsimp only at hS_); go_simp; (try (with_reducible rfl)))
      try simp only [Act.put, List.setIfInBounds_toArray, List.set_cons_zero, List.set_cons_succ]
      refine wpAnyH_take' (i := 5) (v := ?v5_t8) 71 rfl rfl (by kernel_rfl) (by kernel_rfl) (by kernel_rfl) (fun _ _ _ h => h) (Or.inl ⟨by kernel_rfl, ?hy5_t8⟩) (by assumption) ?rest5_t8
      case hy5_t8 => (intro W_ hS_; (try dsimp only at hS_); go_simp; (try (with_reducible rfl)))
      try simp only [Act.put, List.setIfInBounds_toArray, List.set_cons_zero, List.set_cons_succ]
      refine wpAnyH_take' (i := 6) (v := ?v6_t8) 72 rfl rfl (by kernel_rfl) (by kernel_rfl) (by kernel_rfl) (fun _ _ _ h => h) (Or.inl ⟨by kernel_rfl, ?hy6_t8⟩) (by assumption) ?rest6_t8
      case hy6_t8 => (intro W_ hS_; (try dsimp only at hS_); go_simp; (try (with_reducible rfl)))
      try simp only [Act.put, List.setIfInBounds_toArray, List.set_cons_zero, List.set_cons_succ]
      refine wpAnyH_take' (i := 7) (v := ?v7_t8) 73 rfl rfl (by kernel_rfl) (by kernel_rfl) (by kernel_rfl) (fun _ _ _ h => h) (Or.inl ⟨by kernel_rfl, ?hy7_t8⟩) (by assumption) ?rest7_t8
      case hy7_t8 => (intro W_ hS_; (try dsimp only at hS_); go_simp; (try (with_reducible rfl)))
      try simp only [Act.put, List.setIfInBounds_toArray, List.set_cons_zero, List.set_cons_succ]
      refine wpAnyH_take' (i := 8) (v := ?v8_t8) 74 rfl rfl (by kernel_rfl) (by kernel_rfl) (by kernel_rfl) (fun _ _ _ h => h) (Or.inl ⟨by kernel_rfl, ?hy8_t8⟩) (by assumption) ?rest8_t8
      case hy8_t8 => (intro W_ hS_; (try dsimp only at hS_); go_simp; (try (with_reducible rfl)))
      try simp only [Act.put, List.setIfInBounds_toArray, List.set_cons_zero, List.set_cons_succ]
      refine wpAnyH_take' (i := 9) (v := ?v9_t8) 75 rfl rfl (by kernel_rfl) (by kernel_rfl) (by kernel_rfl) (fun _ _ _ h => h) (Or.inl ⟨by kernel_rfl, ?hy9_t8⟩) (by assumption) ?rest9_t8
      case hy9_t8 => (intro W_ hS_; (try dsimp only at hS_); go_simp; (try (with_reducible rfl)))
      try simp only [Act.put, List.setIfInBounds_toArray, List.set_cons_zero, List.set_cons_succ]
      refine wpAnyH_take' (i := 10) (v := ?v10_t8) 76 rfl rfl (by kernel_rfl) (by kernel_rfl) (by kernel_rfl) (fun _ _ _ h => h) (Or.inl ⟨by kernel_rfl, ?hy10_t8⟩) (by assumption) ?rest10_t8
      case hy10_t8 => (intro W_ hS_; (try dsimp only at hS_); go_simp; (try (with_reducible rfl)))
      try simp only [Act.put, List.setIfInBounds_toArray, List.set_cons_zero, List.set_cons_succ]
      refine wpAnyH_take' (i := 12) (v := ?v12_t8) 78 rfl rfl (by kernel_rfl) (by kernel_rfl) (by kernel_rfl) (fun _ _ _ h => h) (Or.inl ⟨by kernel_rfl, ?hy12_t8⟩) (by assumption) ?rest12_t8
      case hy12_t8 => (intro W_ hS_; (try dsimp only at hS_); go_simp; (try (with_reducible rfl)))
      try simp only [Act.put, List.setIfInBounds_toArray, List.set_cons_zero, List.set_cons_succ]
      refine wpAnyH_ready (rs := [11]) (by kernel_rfl) (by simp) ?_
      refine AllReadyH.cons rfl (fun K_ hK_ => ?_) AllReadyH.nil
      go_simp
      refine (step1_any c c o Hodd.out Hok.out _).mono ?_; rintro e wr11 ⟨rfl, hBr11⟩
      go_wp2_with fail
      refine hK_.out _ _ (by exact HasC.cc (c := c) (block_below hBr11 (block_below (below_drew1 _) hc52))) (fun hHeld_11 => ?_)
      clear hK_
      try simp only [Act.put, List.setIfInBounds_toArray, List.set_cons_zero, List.set_cons_succ]
      refine wpAnyH_take' (i := 13) (v := ?v13_t8) 79 rfl rfl (by kernel_rfl) (by kernel_rfl) (by kernel_rfl) (fun _ _ _ h => h) (Or.inl ⟨by kernel_rfl, ?hy13_t8⟩) (by assumption) ?rest13_t8
      case hy13_t8 => (intro W_ hS_; (try dsimp only at hS_); go_simp; (try (with_reducible rfl)))
      try simp only [Act.put, List.setIfInBounds_toArray, List.set_cons_zero, List.set_cons_succ]
      refine wpAnyH_take' (i := 14) (v := ?v14_t8) 80 rfl rfl (by kernel_rfl) (by kernel_rfl) (by kernel_rfl) (fun _ _ _ h => h) (Or.inl ⟨by kernel_rfl, ?hy14_t8⟩) (by assumption) ?rest14_t8
      case hy14_t8 => (intro W_ hS_; (try dsimp only at hS_); go_simp; (try (with_reducible rfl)))
      try simp only [Act.put, List.setIfInBounds_toArray, List.set_cons_zero, List.set_cons_succ]
      refine wpAnyH_take' (i := 15) (v := ?v15_t8) 81 rfl rfl (by kernel_rfl) (by kernel_rfl) (by kernel_rfl) (fun _ _ _ h => h) (Or.inl ⟨by kernel_rfl, ?hy15_t8⟩) (by assumption) ?rest15_t8
      case hy15_t8 => (intro W_ hS_; (try dsimp only at hS_); go_simp; (try (with_reducible rfl)))
      try simp only [Act.put, List.setIfInBounds_toArray, List.set_cons_zero, List.set_cons_succ]
      refine wpAnyH_take' (i := 16) (v := ?v16_t8) 82 rfl rfl (by kernel_rfl) (by kernel_rfl) (by kernel_rfl) (fun _ _ _ h => h) (Or.inl ⟨by kernel_rfl, ?hy16_t8⟩) (by assumption) ?rest16_t8
      case hy16_t8 => (intro W_ hS_; (try dsimp only at hS_); go_simp; (try (with_reducible rfl)))
      try simp only [Act.put, List.setIfInBounds_toArray, List.set_cons_zero, List.set_cons_succ]
      refine wpAnyH_take' (i := 17) (v := ?v17_t8) 83 rfl rfl (by kernel_rfl) (by kernel_rfl) (by kernel_rfl) (fun _ _ _ h => h) (Or.inl ⟨by kernel_rfl, ?hy17_t8⟩) (by assumption) ?rest17_t8
      case hy17_t8 => (intro W_ hS_; (try dsimp only at hS_); go_simp; (try (with_reducible rfl)))
      try simp only [Act.put, List.setIfInBounds_toArray, List.set_cons_zero, List.set_cons_succ]
      refine wpAnyH_take' (i := 18) (v := ?v18_t8) 84 rfl rfl (by kernel_rfl) (by kernel_rfl) (by kernel_rfl) (fun _ _ _ h => h) (Or.inl ⟨by kernel_rfl, ?hy18_t8⟩) (by assumption) ?rest18_t8
      case hy18_t8 => (intro W_ hS_; (try dsimp only at hS_); go_simp; (try (with_reducible rfl)))
      try simp only [Act.put, List.setIfInBounds_toArray, List.set_cons_zero, List.set_cons_succ]
      refine wpAnyH_take' (i := 19) (v := ?v19_t8) 85 rfl rfl (by kernel_rfl) (by kernel_rfl) (by kernel_rfl) (fun _ _ _ h => h) (Or.inl ⟨by kernel_rfl, ?hy19_t8⟩) (by assumption) ?rest19_t8
      case hy19_t8 => (intro W_ hS_; (try dsimp only at hS_); go_simp; (try (with_reducible rfl)))
      try simp only [Act.put, List.setIfInBounds_toArray, List.set_cons_zero, List.set_cons_succ]
      refine wpAnyH_take' (i := 20) (v := ?v20_t8) 86 rfl rfl (by kernel_rfl) (by kernel_rfl) (by kernel_rfl) (fun _ _ _ h => h) (Or.inl ⟨by kernel_rfl, ?hy20_t8⟩) (by assumption) ?rest20_t8
      case hy20_t8 => (intro W_ hS_; (try dsimp only at hS_); go_simp; (try (with_reducible rfl)))
      try simp only [Act.put, List.setIfInBounds_toArray, List.set_cons_zero, List.set_cons_succ]
      refine wpAnyH_take' (i := 21) (v := undef) 87 rfl rfl (by kernel_rfl) (by kernel_rfl) (by kernel_rfl) (fun _ _ _ h => h) (Or.inr ⟨by kernel_rfl, rfl⟩) (by assumption) ?_
      try simp only [Act.put, List.setIfInBounds_toArray, List.set_cons_zero, List.set_cons_succ]
      refine wpAnyH_take' (i := 23) (v := undef) 89 rfl rfl (by kernel_rfl) (by kernel_rfl) (by kernel_rfl) (fun _ _ _ h => h) (Or.inr ⟨by kernel_rfl, rfl⟩) (by assumption) ?_
      try simp only [Act.put, List.setIfInBounds_toArray, List.set_cons_zero, List.set_cons_succ]
      refine wpAnyH_skip (i := 22) 88 rfl rfl (by kernel_rfl) (by kernel_rfl) (by assumption) ?_
      try simp only [Act.put, List.setIfInBounds_toArray, List.set_cons_zero, List.set_cons_succ]
      refine wpAnyH_take' (i := 24) (v := undef) 90 rfl rfl (by kernel_rfl) (by kernel_rfl) (by kernel_rfl) (fun _ _ _ h => h) (Or.inr ⟨by kernel_rfl, rfl⟩) (by assumption) ?_
      try simp only [Act.put, List.setIfInBounds_toArray, List.set_cons_zero, List.set_cons_succ]
      refine wpAnyH_take' (i := 25) (v := ?v25_t8) 91 rfl rfl (by kernel_rfl) (by kernel_rfl) (by kernel_rfl) (fun _ _ _ h => h) (Or.inl ⟨by kernel_rfl, ?hy25_t8⟩) (by assumption) ?rest25_t8
      case hy25_t8 => (intro W_ hS_; (try dsimp only at hS_); go_simp; (try (with_reducible rfl)))
      try simp only [Act.put, List.setIfInBounds_toArray, List.set_cons_zero, List.set_cons_succ]
      refine wpAnyH_take' (i := 26) (v := ?v26_t8) 92 rfl rfl (by kernel_rfl) (by kernel_rfl) (by kernel_rfl) (fun _ _ _ h => h) (Or.inl ⟨by kernel_rfl, ?hy26_t8⟩) (by assumption) ?rest26_t8
      case hy26_t8 => (intro W_ hS_; (try dsimp only at hS_); go_simp; (try (with_reducible rfl)))
      try simp only [Act.put, List.setIfInBounds_toArray, List.set_cons_zero, List.set_cons_succ]
      refine wpAnyH_take' (i := 27) (v := ?v27_t8) 8 rfl rfl (by kernel_rfl) (by kernel_rfl) (by kernel_rfl) (fun _ _ _ h => h) (Or.inl ⟨by kernel_rfl, ?hy27_t8⟩) (by assumption) ?rest27_t8
      case hy27_t8 => (intro W_ hS_; (try dsimp only at hS_); go_simp; (try (with_reducible rfl)))
      try simp only [Act.put, List.setIfInBounds_toArray, List.set_cons_zero, List.set_cons_succ]
      refine wpAnyH_done (by kernel_rfl) ?_ _
      go_wp2_with fail
      go_ret
      exact ⟨rfl, below_then hT52 (below_then (below_drew1 _) hBr11)⟩
    have hs2 : (c.s == 3) = false := by simpa using hs
    have Hcm := Lib.hid (parts_calm Hok.out hs)
    clear hs
    refine wp_region_held_drew (S := fun W => (W.cell? ⟨w.heap.size, 0, none⟩ = some (.int .i64 c.t) ∧ W.cell? ⟨w.heap.size, 1, none⟩ = some (.int .i64 c.r) ∧ W.cell? ⟨w.heap.size, 2, none⟩ = some (.int .i64 c.s) ∧ W.cell? ⟨w.heap.size, 3, none⟩ = some (.int .i64 c.q))) (by kernel_rfl) (by exact HasC.cc (c := c) (block_below (below_drew1 _) hc52)) (fun hHeld_ => ?_)
    refine wpAnyH_take' (i := 0) (v := ?v0_t9) 66 rfl rfl (by kernel_rfl) (by kernel_rfl) (by kernel_rfl) (fun _ _ _ h => h) (Or.inl ⟨by kernel_rfl, ?hy0_t9⟩) (by assumption) ?rest0_t9
    case hy0_t9 => (intro W_ hS_; (try dsimp only at hS_); go_simp; (try (with_reducible rfl)))
    try simp only [Act.put, List.setIfInBounds_toArray, List.set_cons_zero, List.set_cons_succ]
    refine wpAnyH_take' (i := 1) (v := ?v1_t9) 67 rfl rfl (by kernel_rfl) (by kernel_rfl) (by kernel_rfl) (fun _ _ _ h => h) (Or.inl ⟨by kernel_rfl, ?hy1_t9⟩) (by assumption) ?rest1_t9
    case hy1_t9 => (intro W_ hS_; (try dsimp only at hS_); go_simp; (try (with_reducible rfl)))
    try simp only [Act.put, List.setIfInBounds_toArray, List.set_cons_zero, List.set_cons_succ]
    refine wpAnyH_take' (i := 2) (v := ?v2_t9) 68 rfl rfl (by kernel_rfl) (by kernel_rfl) (by kernel_rfl) (fun _ _ _ h => h) (Or.inl ⟨by kernel_rfl, ?hy2_t9⟩) (by assumption) ?rest2_t9
    case hy2_t9 => (intro W_ hS_; (try dsimp only at hS_); go_simp; (try (with_reducible rfl)))
    try simp only [Act.put, List.setIfInBounds_toArray, List.set_cons_zero, List.set_cons_succ]
    refine wpAnyH_take' (i := 3) (v := ?v3_t9) 69 rfl rfl (by kernel_rfl) (by kernel_rfl) (by kernel_rfl) (fun _ _ _ h => h) (Or.inl ⟨by kernel_rfl, ?hy3_t9⟩) (by assumption) ?rest3_t9
    case hy3_t9 => (intro W_ hS_; (try dsimp only at hS_); go_simp; (try (with_reducible rfl)))
    try simp only [Act.put, List.setIfInBounds_toArray, List.set_cons_zero, List.set_cons_succ]
    refine wpAnyH_take' (i := 4) (v := ?v4_t9) 70 rfl rfl (by kernel_rfl) (by kernel_rfl) (by kernel_rfl) (fun _ _ _ h => h) (Or.inl ⟨by kernel_rfl, ?hy4_t9⟩) (by assumption) ?rest4_t9
    case hy4_t9 => (intro W_ hS_; (try dsimp only at hS_); go_simp; (try (with_reducible rfl)))
    try simp only [Act.put, List.setIfInBounds_toArray, List.set_cons_zero, List.set_cons_succ]
    refine wpAnyH_take' (i := 5) (v := ?v5_t9) 71 rfl rfl (by kernel_rfl) (by kernel_rfl) (by kernel_rfl) (fun _ _ _ h => h) (Or.inl ⟨by kernel_rfl, ?hy5_t9⟩) (by assumption) ?rest5_t9
    case hy5_t9 => (intro W_ hS_; (try dsimp only at hS_); go_simp; (try (with_reducible rfl)))
    try simp only [Act.put, List.setIfInBounds_toArray, List.set_cons_zero, List.set_cons_succ]
    refine wpAnyH_take' (i := 6) (v := ?v6_t9) 72 rfl rfl (by kernel_rfl) (by kernel_rfl) (by kernel_rfl) (fun _ _ _ h => h) (Or.inl ⟨by kernel_rfl, ?hy6_t9⟩) (by assumption) ?rest6_t9
    case hy6_t9 => (intro W_ hS_; (try dsimp only at hS_); go_simp; (try (with_reducible rfl)))
    try simp only [Act.put, List.setIfInBounds_toArray, List.set_cons_zero, List.set_cons_succ]
    refine wpAnyH_take' (i := 7) (v := ?v7_t9) 73 rfl rfl (by kernel_rfl) (by kernel_rfl) (by kernel_rfl) (fun _ _ _ h => h) (Or.inl ⟨by kernel_rfl, ?hy7_t9⟩) (by assumption) ?rest7_t9
    case hy7_t9 => (intro W_ hS_; (try dsimp only at hS_); go_simp; (try (with_reducible rfl)))
    try simp only [Act.put, List.setIfInBounds_toArray, List.set_cons_zero, List.set_cons_succ]
    refine wpAnyH_take' (i := 8) (v := ?v8_t9) 74 rfl rfl (by kernel_rfl) (by kernel_rfl) (by kernel_rfl) (fun _ _ _ h => h) (Or.inl ⟨by kernel_rfl, ?hy8_t9⟩) (by assumption) ?rest8_t9
    case hy8_t9 => (intro W_ hS_; (try dsimp only at hS_); go_simp; (try (with_reducible rfl)))
    try simp only [Act.put, List.setIfInBounds_toArray, List.set_cons_zero, List.set_cons_succ]
    refine wpAnyH_take' (i := 9) (v := ?v9_t9) 75 rfl rfl (by kernel_rfl) (by kernel_rfl) (by kernel_rfl) (fun _ _ _ h => h) (Or.inl ⟨by kernel_rfl, ?hy9_t9⟩) (by assumption) ?rest9_t9
    case hy9_t9 => (intro W_ hS_; (try dsimp only at hS_); go_simp; (try (with_reducible rfl)))
    try simp only [Act.put, List.setIfInBounds_toArray, List.set_cons_zero, List.set_cons_succ]
    refine wpAnyH_take' (i := 10) (v := ?v10_t9) 76 rfl rfl (by kernel_rfl) (by kernel_rfl) (by kernel_rfl) (fun _ _ _ h => h) (Or.inl ⟨by kernel_rfl, ?hy10_t9⟩) (by assumption) ?rest10_t9
    case hy10_t9 => (intro W_ hS_; (try dsimp only at hS_); go_simp; (try (with_reducible rfl)))
    try simp only [Act.put, List.setIfInBounds_toArray, List.set_cons_zero, List.set_cons_succ]
    refine wpAnyH_take' (i := 12) (v := ?v12_t9) 78 rfl rfl (by kernel_rfl) (by kernel_rfl) (by kernel_rfl) (fun _ _ _ h => h) (Or.inl ⟨by kernel_rfl, ?hy12_t9⟩) (by assumption) ?rest12_t9
    case hy12_t9 => (intro W_ hS_; (try dsimp only at hS_); go_simp; (try (with_reducible rfl)))
    try simp only [Act.put, List.setIfInBounds_toArray, List.set_cons_zero, List.set_cons_succ]
    refine wpAnyH_ready (rs := [11]) (by kernel_rfl) (by simp) ?_
    refine AllReadyH.cons rfl (fun K_ hK_ => ?_) AllReadyH.nil
    go_simp
    refine (step1_any c c o Hodd.out Hok.out _).mono ?_; rintro e wr11 ⟨rfl, hBr11⟩
    go_wp2_with fail
    refine hK_.out _ _ (by exact HasC.cc (c := c) (block_below hBr11 (block_below (below_drew1 _) hc52))) (fun hHeld_11 => ?_)
    clear hK_
    try simp only [Act.put, List.setIfInBounds_toArray, List.set_cons_zero, List.set_cons_succ]
    refine wpAnyH_take' (i := 13) (v := ?v13_t9) 79 rfl rfl (by kernel_rfl) (by kernel_rfl) (by kernel_rfl) (fun _ _ _ h => h) (Or.inl ⟨by kernel_rfl, ?hy13_t9⟩) (by assumption) ?rest13_t9
    case hy13_t9 => (intro W_ hS_; (try dsimp only at hS_); go_simp; (try (with_reducible rfl)))
    try simp only [Act.put, List.setIfInBounds_toArray, List.set_cons_zero, List.set_cons_succ]
    refine wpAnyH_take' (i := 14) (v := ?v14_t9) 80 rfl rfl (by kernel_rfl) (by kernel_rfl) (by kernel_rfl) (fun _ _ _ h => h) (Or.inl ⟨by kernel_rfl, ?hy14_t9⟩) (by assumption) ?rest14_t9
    case hy14_t9 => (intro W_ hS_; (try dsimp only at hS_); go_simp; (try (with_reducible rfl)))
    try simp only [Act.put, List.setIfInBounds_toArray, List.set_cons_zero, List.set_cons_succ]
    refine wpAnyH_take' (i := 15) (v := ?v15_t9) 81 rfl rfl (by kernel_rfl) (by kernel_rfl) (by kernel_rfl) (fun _ _ _ h => h) (Or.inl ⟨by kernel_rfl, ?hy15_t9⟩) (by assumption) ?rest15_t9
    case hy15_t9 => (intro W_ hS_; (try dsimp only at hS_); go_simp; (try (with_reducible rfl)))
    try simp only [Act.put, List.setIfInBounds_toArray, List.set_cons_zero, List.set_cons_succ]
    refine wpAnyH_take' (i := 16) (v := ?v16_t9) 82 rfl rfl (by kernel_rfl) (by kernel_rfl) (by kernel_rfl) (fun _ _ _ h => h) (Or.inl ⟨by kernel_rfl, ?hy16_t9⟩) (by assumption) ?rest16_t9
    case hy16_t9 => (intro W_ hS_; (try dsimp only at hS_); go_simp; (try (with_reducible rfl)))
    try simp only [Act.put, List.setIfInBounds_toArray, List.set_cons_zero, List.set_cons_succ]
    refine wpAnyH_take' (i := 17) (v := ?v17_t9) 83 rfl rfl (by kernel_rfl) (by kernel_rfl) (by kernel_rfl) (fun _ _ _ h => h) (Or.inl ⟨by kernel_rfl, ?hy17_t9⟩) (by assumption) ?rest17_t9
    case hy17_t9 => (intro W_ hS_; (try dsimp only at hS_); go_simp; (try (with_reducible rfl)))
    try simp only [Act.put, List.setIfInBounds_toArray, List.set_cons_zero, List.set_cons_succ]
    refine wpAnyH_take' (i := 18) (v := ?v18_t9) 84 rfl rfl (by kernel_rfl) (by kernel_rfl) (by kernel_rfl) (fun _ _ _ h => h) (Or.inl ⟨by kernel_rfl, ?hy18_t9⟩) (by assumption) ?rest18_t9
    case hy18_t9 => (intro W_ hS_; (try dsimp only at hS_); go_simp; (try (with_reducible rfl)))
    try simp only [Act.put, List.setIfInBounds_toArray, List.set_cons_zero, List.set_cons_succ]
    refine wpAnyH_take' (i := 19) (v := ?v19_t9) 85 rfl rfl (by kernel_rfl) (by kernel_rfl) (by kernel_rfl) (fun _ _ _ h => h) (Or.inl ⟨by kernel_rfl, ?hy19_t9⟩) (by assumption) ?rest19_t9
    case hy19_t9 => (intro W_ hS_; (try dsimp only at hS_); go_simp; (try (with_reducible rfl)))
    try simp only [Act.put, List.setIfInBounds_toArray, List.set_cons_zero, List.set_cons_succ]
    refine wpAnyH_take' (i := 20) (v := ?v20_t9) 86 rfl rfl (by kernel_rfl) (by kernel_rfl) (by kernel_rfl) (fun _ _ _ h => h) (Or.inl ⟨by kernel_rfl, ?hy20_t9⟩) (by assumption) ?rest20_t9
    case hy20_t9 => (intro W_ hS_; (try dsimp only at hS_); go_simp; (try (with_reducible rfl)))
    try simp only [Act.put, List.setIfInBounds_toArray, List.set_cons_zero, List.set_cons_succ]
    refine wpAnyH_take' (i := 21) (v := ?v21_t9) 87 rfl rfl (by kernel_rfl) (by kernel_rfl) (by kernel_rfl) (fun _ _ _ h => h) (Or.inl ⟨by kernel_rfl, ?hy21_t9⟩) (by assumption) ?rest21_t9
    case hy21_t9 => (intro W_ hS_; (try dsimp only at hS_); go_simp; (try (with_reducible rfl)))
    try simp only [Act.put, List.setIfInBounds_toArray, List.set_cons_zero, List.set_cons_succ]
    refine wpAnyH_take' (i := 23) (v := ?v23_t9) 89 rfl rfl (by kernel_rfl) (by kernel_rfl) (by kernel_rfl) (fun _ _ _ h => h) (Or.inl ⟨by kernel_rfl, ?hy23_t9⟩) (by assumption) ?rest23_t9
    case hy23_t9 => (intro W_ hS_; (try dsimp only at hS_); go_simp; (try (with_reducible rfl)))
    try simp only [Act.put, List.setIfInBounds_toArray, List.set_cons_zero, List.set_cons_succ]
    refine wpAnyH_ready (rs := [22]) (by kernel_rfl) (by simp) ?_
    refine AllReadyH.cons rfl (fun K_ hK_ => ?_) AllReadyH.nil
    go_simp
    refine (step1_any c c 6 Hcm.out Hok.out _).mono ?_; rintro e wr22 ⟨rfl, hBr22⟩
    go_wp2_with fail
    refine hK_.out _ _ (by exact HasC.cc (c := c) (block_below hBr22 (block_below hBr11 (block_below (below_drew1 _) hc52)))) (fun hHeld_22 => ?_)
    clear hK_
    try simp only [Act.put, List.setIfInBounds_toArray, List.set_cons_zero, List.set_cons_succ]
    refine wpAnyH_take' (i := 24) (v := ?v24_t9) 90 rfl rfl (by kernel_rfl) (by kernel_rfl) (by kernel_rfl) (fun _ _ _ h => h) (Or.inl ⟨by kernel_rfl, ?hy24_t9⟩) (by assumption) ?rest24_t9
    case hy24_t9 => (intro W_ hS_; (try dsimp only at hS_); go_simp; (try (with_reducible rfl)))
    try simp only [Act.put, List.setIfInBounds_toArray, List.set_cons_zero, List.set_cons_succ]
    refine wpAnyH_take' (i := 25) (v := ?v25_t9) 91 rfl rfl (by kernel_rfl) (by kernel_rfl) (by kernel_rfl) (fun _ _ _ h => h) (Or.inl ⟨by kernel_rfl, ?hy25_t9⟩) (by assumption) ?rest25_t9
    case hy25_t9 => (intro W_ hS_; (try dsimp only at hS_); go_simp; (try (with_reducible rfl)))
    try simp only [Act.put, List.setIfInBounds_toArray, List.set_cons_zero, List.set_cons_succ]
    refine wpAnyH_take' (i := 26) (v := ?v26_t9) 92 rfl rfl (by kernel_rfl) (by kernel_rfl) (by kernel_rfl) (fun _ _ _ h => h) (Or.inl ⟨by kernel_rfl, ?hy26_t9⟩) (by assumption) ?rest26_t9
    case hy26_t9 => (intro W_ hS_; (try dsimp only at hS_); go_simp; (try (with_reducible rfl)))
    try simp only [Act.put, List.setIfInBounds_toArray, List.set_cons_zero, List.set_cons_succ]
    refine wpAnyH_take' (i := 27) (v := ?v27_t9) 8 rfl rfl (by kernel_rfl) (by kernel_rfl) (by kernel_rfl) (fun _ _ _ h => h) (Or.inl ⟨by kernel_rfl, ?hy27_t9⟩) (by assumption) ?rest27_t9
    case hy27_t9 => (intro W_ hS_; (try dsimp only at hS_); go_simp; (try (with_reducible rfl)))
    try simp only [Act.put, List.setIfInBounds_toArray, List.set_cons_zero, List.set_cons_succ]
    refine wpAnyH_done (by kernel_rfl) ?_ _
    go_wp2_with fail
    go_ret
    exact ⟨rfl, below_then hT52 (below_then (below_then (below_drew1 _) hBr11) hBr22)⟩
  have o3 : decide (1 ≤ o) = false := by simpa using o1
  have Hodd := Lib.hid (parts_odd Hok.out (k := o) (by omega))
  by_cases hs : c.s = 3
  · skip
    have hs2 : (c.s == 3) = true := by simpa using hs
    have Hs := Lib.hid hs
    clear hs
    refine wp_region_held_drew (S := fun W => (W.cell? ⟨w.heap.size, 0, none⟩ = some (.int .i64 c.t) ∧ W.cell? ⟨w.heap.size, 1, none⟩ = some (.int .i64 c.r) ∧ W.cell? ⟨w.heap.size, 2, none⟩ = some (.int .i64 c.s) ∧ W.cell? ⟨w.heap.size, 3, none⟩ = some (.int .i64 c.q))) (by kernel_rfl) (by exact HasC.cc (c := c) (block_below (below_drew1 _) hc52)) (fun hHeld_ => ?_)
    refine wpAnyH_take' (i := 0) (v := ?v0_t10) 66 rfl rfl (by kernel_rfl) (by kernel_rfl) (by kernel_rfl) (fun _ _ _ h => h) (Or.inl ⟨by kernel_rfl, ?hy0_t10⟩) (by assumption) ?rest0_t10
    case hy0_t10 => (intro W_ hS_; (try dsimp only at hS_); go_simp; (try (with_reducible rfl)))
    try simp only [Act.put, List.setIfInBounds_toArray, List.set_cons_zero, List.set_cons_succ]
    refine wpAnyH_take' (i := 1) (v := ?v1_t10) 67 rfl rfl (by kernel_rfl) (by kernel_rfl) (by kernel_rfl) (fun _ _ _ h => h) (Or.inl ⟨by kernel_rfl, ?hy1_t10⟩) (by assumption) ?rest1_t10
    case hy1_t10 => (intro W_ hS_; (try dsimp only at hS_); go_simp; (try (with_reducible rfl)))
    try simp only [Act.put, List.setIfInBounds_toArray, List.set_cons_zero, List.set_cons_succ]
    refine wpAnyH_take' (i := 2) (v := ?v2_t10) 68 rfl rfl (by kernel_rfl) (by kernel_rfl) (by kernel_rfl) (fun _ _ _ h => h) (Or.inl ⟨by kernel_rfl, ?hy2_t10⟩) (by assumption) ?rest2_t10
    case hy2_t10 => (intro W_ hS_; (try dsimp only at hS_); go_simp; (try (with_reducible rfl)))
    try simp only [Act.put, List.setIfInBounds_toArray, List.set_cons_zero, List.set_cons_succ]
    refine wpAnyH_take' (i := 3) (v := ?v3_t10) 69 rfl rfl (by kernel_rfl) (by kernel_rfl) (by kernel_rfl) (fun _ _ _ h => h) (Or.inl ⟨by kernel_rfl, ?hy3_t10⟩) (by assumption) ?rest3_t10
    case hy3_t10 => (intro W_ hS_; (try dsimp only at hS_); go_simp; (try (with_reducible rfl)))
    try simp only [Act.put, List.setIfInBounds_toArray, List.set_cons_zero, List.set_cons_succ]
    refine wpAnyH_take' (i := 4) (v := ?v4_t10) 70 rfl rfl (by kernel_rfl) (by kernel_rfl) (by kernel_rfl) (fun _ _ _ h => h) (Or.inl ⟨by kernel_rfl, ?hy4_t10⟩) (by assumption) ?rest4_t10
    case hy4_t10 => (intro W_ hS_; (try dsimp only at hS_); go_simp; (try (with_reducible rfl)))
    try simp only [Act.put, List.setIfInBounds_toArray, List.set_cons_zero, List.set_cons_succ]
    refine wpAnyH_take' (i := 5) (v := undef) 71 rfl rfl (by kernel_rfl) (by kernel_rfl) (by kernel_rfl) (fun _ _ _ h => h) (Or.inr ⟨by kernel_rfl, rfl⟩) (by assumption) ?_
    try simp only [Act.put, List.setIfInBounds_toArray, List.set_cons_zero, List.set_cons_succ]
    refine wpAnyH_take' (i := 6) (v := undef) 72 rfl rfl (by kernel_rfl) (by kernel_rfl) (by kernel_rfl) (fun _ _ _ h => h) (Or.inr ⟨by kernel_rfl, rfl⟩) (by assumption) ?_
    try simp only [Act.put, List.setIfInBounds_toArray, List.set_cons_zero, List.set_cons_succ]
    refine wpAnyH_take' (i := 7) (v := ?v7_t10) 73 rfl rfl (by kernel_rfl) (by kernel_rfl) (by kernel_rfl) (fun _ _ _ h => h) (Or.inl ⟨by kernel_rfl, ?hy7_t10⟩) (by assumption) ?rest7_t10
    case hy7_t10 => (intro W_ hS_; (try dsimp only at hS_); go_simp; (try (with_reducible rfl)))
    try simp only [Act.put, List.setIfInBounds_toArray, List.set_cons_zero, List.set_cons_succ]
    refine wpAnyH_take' (i := 8) (v := ?v8_t10) 74 rfl rfl (by kernel_rfl) (by kernel_rfl) (by kernel_rfl) (fun _ _ _ h => h) (Or.inl ⟨by kernel_rfl, ?hy8_t10⟩) (by assumption) ?rest8_t10
    case hy8_t10 => (intro W_ hS_; (try dsimp only at hS_); go_simp; (try (with_reducible rfl)))
    try simp only [Act.put, List.setIfInBounds_toArray, List.set_cons_zero, List.set_cons_succ]
    refine wpAnyH_take' (i := 9) (v := ?v9_t10) 75 rfl rfl (by kernel_rfl) (by kernel_rfl) (by kernel_rfl) (fun _ _ _ h => h) (Or.inl ⟨by kernel_rfl, ?hy9_t10⟩) (by assumption) ?rest9_t10
    case hy9_t10 => (intro W_ hS_; (try dsimp only at hS_); go_simp; (try (with_reducible rfl)))
    try simp only [Act.put, List.setIfInBounds_toArray, List.set_cons_zero, List.set_cons_succ]
    refine wpAnyH_take' (i := 10) (v := ?v10_t10) 76 rfl rfl (by kernel_rfl) (by kernel_rfl) (by kernel_rfl) (fun _ _ _ h => h) (Or.inl ⟨by kernel_rfl, ?hy10_t10⟩) (by assumption) ?rest10_t10
    case hy10_t10 => (intro W_ hS_; (try dsimp only at hS_); go_simp; (try (with_reducible rfl)))
    try simp only [Act.put, List.setIfInBounds_toArray, List.set_cons_zero, List.set_cons_succ]
    refine wpAnyH_take' (i := 12) (v := ?v12_t10) 78 rfl rfl (by kernel_rfl) (by kernel_rfl) (by kernel_rfl) (fun _ _ _ h => h) (Or.inl ⟨by kernel_rfl, ?hy12_t10⟩) (by assumption) ?rest12_t10
    case hy12_t10 => (intro W_ hS_; (try dsimp only at hS_); go_simp; (try (with_reducible rfl)))
    try simp only [Act.put, List.setIfInBounds_toArray, List.set_cons_zero, List.set_cons_succ]
    refine wpAnyH_ready (rs := [11]) (by kernel_rfl) (by simp) ?_
    refine AllReadyH.cons rfl (fun K_ hK_ => ?_) AllReadyH.nil
    go_simp
    refine (step1_any c c o Hodd.out Hok.out _).mono ?_; rintro e wr11 ⟨rfl, hBr11⟩
    go_wp2_with fail
    refine hK_.out _ _ (by exact HasC.cc (c := c) (block_below hBr11 (block_below (below_drew1 _) hc52))) (fun hHeld_11 => ?_)
    clear hK_
    try simp only [Act.put, List.setIfInBounds_toArray, List.set_cons_zero, List.set_cons_succ]
    refine wpAnyH_take' (i := 13) (v := ?v13_t10) 79 rfl rfl (by kernel_rfl) (by kernel_rfl) (by kernel_rfl) (fun _ _ _ h => h) (Or.inl ⟨by kernel_rfl, ?hy13_t10⟩) (by assumption) ?rest13_t10
    case hy13_t10 => (intro W_ hS_; (try dsimp only at hS_); go_simp; (try (with_reducible rfl)))
    try simp only [Act.put, List.setIfInBounds_toArray, List.set_cons_zero, List.set_cons_succ]
    refine wpAnyH_take' (i := 14) (v := ?v14_t10) 80 rfl rfl (by kernel_rfl) (by kernel_rfl) (by kernel_rfl) (fun _ _ _ h => h) (Or.inl ⟨by kernel_rfl, ?hy14_t10⟩) (by assumption) ?rest14_t10
    case hy14_t10 => (intro W_ hS_; (try dsimp only at hS_); go_simp; (try (with_reducible rfl)))
    try simp only [Act.put, List.setIfInBounds_toArray, List.set_cons_zero, List.set_cons_succ]
    refine wpAnyH_take' (i := 15) (v := ?v15_t10) 81 rfl rfl (by kernel_rfl) (by kernel_rfl) (by kernel_rfl) (fun _ _ _ h => h) (Or.inl ⟨by kernel_rfl, ?hy15_t10⟩) (by assumption) ?rest15_t10
    case hy15_t10 => (intro W_ hS_; (try dsimp only at hS_); go_simp; (try (with_reducible rfl)))
    try simp only [Act.put, List.setIfInBounds_toArray, List.set_cons_zero, List.set_cons_succ]
    refine wpAnyH_take' (i := 16) (v := ?v16_t10) 82 rfl rfl (by kernel_rfl) (by kernel_rfl) (by kernel_rfl) (fun _ _ _ h => h) (Or.inl ⟨by kernel_rfl, ?hy16_t10⟩) (by assumption) ?rest16_t10
    case hy16_t10 => (intro W_ hS_; (try dsimp only at hS_); go_simp; (try (with_reducible rfl)))
    try simp only [Act.put, List.setIfInBounds_toArray, List.set_cons_zero, List.set_cons_succ]
    refine wpAnyH_take' (i := 17) (v := ?v17_t10) 83 rfl rfl (by kernel_rfl) (by kernel_rfl) (by kernel_rfl) (fun _ _ _ h => h) (Or.inl ⟨by kernel_rfl, ?hy17_t10⟩) (by assumption) ?rest17_t10
    case hy17_t10 => (intro W_ hS_; (try dsimp only at hS_); go_simp; (try (with_reducible rfl)))
    try simp only [Act.put, List.setIfInBounds_toArray, List.set_cons_zero, List.set_cons_succ]
    refine wpAnyH_take' (i := 18) (v := ?v18_t10) 84 rfl rfl (by kernel_rfl) (by kernel_rfl) (by kernel_rfl) (fun _ _ _ h => h) (Or.inl ⟨by kernel_rfl, ?hy18_t10⟩) (by assumption) ?rest18_t10
    case hy18_t10 => (intro W_ hS_; (try dsimp only at hS_); go_simp; (try (with_reducible rfl)))
    try simp only [Act.put, List.setIfInBounds_toArray, List.set_cons_zero, List.set_cons_succ]
    refine wpAnyH_take' (i := 19) (v := ?v19_t10) 85 rfl rfl (by kernel_rfl) (by kernel_rfl) (by kernel_rfl) (fun _ _ _ h => h) (Or.inl ⟨by kernel_rfl, ?hy19_t10⟩) (by assumption) ?rest19_t10
    case hy19_t10 => (intro W_ hS_; (try dsimp only at hS_); go_simp; (try (with_reducible rfl)))
    try simp only [Act.put, List.setIfInBounds_toArray, List.set_cons_zero, List.set_cons_succ]
    refine wpAnyH_take' (i := 20) (v := ?v20_t10) 86 rfl rfl (by kernel_rfl) (by kernel_rfl) (by kernel_rfl) (fun _ _ _ h => h) (Or.inl ⟨by kernel_rfl, ?hy20_t10⟩) (by assumption) ?rest20_t10
    case hy20_t10 => (intro W_ hS_; (try dsimp only at hS_); go_simp; (try (with_reducible rfl)))
    try simp only [Act.put, List.setIfInBounds_toArray, List.set_cons_zero, List.set_cons_succ]
    refine wpAnyH_take' (i := 21) (v := undef) 87 rfl rfl (by kernel_rfl) (by kernel_rfl) (by kernel_rfl) (fun _ _ _ h => h) (Or.inr ⟨by kernel_rfl, rfl⟩) (by assumption) ?_
    try simp only [Act.put, List.setIfInBounds_toArray, List.set_cons_zero, List.set_cons_succ]
    refine wpAnyH_take' (i := 23) (v := undef) 89 rfl rfl (by kernel_rfl) (by kernel_rfl) (by kernel_rfl) (fun _ _ _ h => h) (Or.inr ⟨by kernel_rfl, rfl⟩) (by assumption) ?_
    try simp only [Act.put, List.setIfInBounds_toArray, List.set_cons_zero, List.set_cons_succ]
    refine wpAnyH_skip (i := 22) 88 rfl rfl (by kernel_rfl) (by kernel_rfl) (by assumption) ?_
    try simp only [Act.put, List.setIfInBounds_toArray, List.set_cons_zero, List.set_cons_succ]
    refine wpAnyH_take' (i := 24) (v := undef) 90 rfl rfl (by kernel_rfl) (by kernel_rfl) (by kernel_rfl) (fun _ _ _ h => h) (Or.inr ⟨by kernel_rfl, rfl⟩) (by assumption) ?_
    try simp only [Act.put, List.setIfInBounds_toArray, List.set_cons_zero, List.set_cons_succ]
    refine wpAnyH_take' (i := 25) (v := ?v25_t10) 91 rfl rfl (by kernel_rfl) (by kernel_rfl) (by kernel_rfl) (fun _ _ _ h => h) (Or.inl ⟨by kernel_rfl, ?hy25_t10⟩) (by assumption) ?rest25_t10
    case hy25_t10 => (intro W_ hS_; (try dsimp only at hS_); go_simp; (try (with_reducible rfl)))
    try simp only [Act.put, List.setIfInBounds_toArray, List.set_cons_zero, List.set_cons_succ]
    refine wpAnyH_take' (i := 26) (v := ?v26_t10) 92 rfl rfl (by kernel_rfl) (by kernel_rfl) (by kernel_rfl) (fun _ _ _ h => h) (Or.inl ⟨by kernel_rfl, ?hy26_t10⟩) (by assumption) ?rest26_t10
    case hy26_t10 => (intro W_ hS_; (try dsimp only at hS_); go_simp; (try (with_reducible rfl)))
    try simp only [Act.put, List.setIfInBounds_toArray, List.set_cons_zero, List.set_cons_succ]
    refine wpAnyH_take' (i := 27) (v := ?v27_t10) 8 rfl rfl (by kernel_rfl) (by kernel_rfl) (by kernel_rfl) (fun _ _ _ h => h) (Or.inl ⟨by kernel_rfl, ?hy27_t10⟩) (by assumption) ?rest27_t10
    case hy27_t10 => (intro W_ hS_; (try dsimp only at hS_); go_simp; (try (with_reducible rfl)))
    try simp only [Act.put, List.setIfInBounds_toArray, List.set_cons_zero, List.set_cons_succ]
    refine wpAnyH_done (by kernel_rfl) ?_ _
    go_wp2_with fail
    go_ret
    exact ⟨rfl, below_then hT52 (below_then (below_drew1 _) hBr11)⟩
  have hs2 : (c.s == 3) = false := by simpa using hs
  have Hcm := Lib.hid (parts_calm Hok.out hs)
  clear hs
  refine wp_region_held_drew (S := fun W => (W.cell? ⟨w.heap.size, 0, none⟩ = some (.int .i64 c.t) ∧ W.cell? ⟨w.heap.size, 1, none⟩ = some (.int .i64 c.r) ∧ W.cell? ⟨w.heap.size, 2, none⟩ = some (.int .i64 c.s) ∧ W.cell? ⟨w.heap.size, 3, none⟩ = some (.int .i64 c.q))) (by kernel_rfl) (by exact HasC.cc (c := c) (block_below (below_drew1 _) hc52)) (fun hHeld_ => ?_)
  refine wpAnyH_take' (i := 0) (v := ?v0_t11) 66 rfl rfl (by kernel_rfl) (by kernel_rfl) (by kernel_rfl) (fun _ _ _ h => h) (Or.inl ⟨by kernel_rfl, ?hy0_t11⟩) (by assumption) ?rest0_t11
  case hy0_t11 => (intro W_ hS_; (try dsimp only at hS_); go_simp; (try (with_reducible rfl)))
  try simp only [Act.put, List.setIfInBounds_toArray, List.set_cons_zero, List.set_cons_succ]
  refine wpAnyH_take' (i := 1) (v := ?v1_t11) 67 rfl rfl (by kernel_rfl) (by kernel_rfl) (by kernel_rfl) (fun _ _ _ h => h) (Or.inl ⟨by kernel_rfl, ?hy1_t11⟩) (by assumption) ?rest1_t11
  case hy1_t11 => (intro W_ hS_; (try dsimp only at hS_); go_simp; (try (with_reducible rfl)))
  try simp only [Act.put, List.setIfInBounds_toArray, List.set_cons_zero, List.set_cons_succ]
  refine wpAnyH_take' (i := 2) (v := ?v2_t11) 68 rfl rfl (by kernel_rfl) (by kernel_rfl) (by kernel_rfl) (fun _ _ _ h => h) (Or.inl ⟨by kernel_rfl, ?hy2_t11⟩) (by assumption) ?rest2_t11
  case hy2_t11 => (intro W_ hS_; (try dsimp only at hS_); go_simp; (try (with_reducible rfl)))
  try simp only [Act.put, List.setIfInBounds_toArray, List.set_cons_zero, List.set_cons_succ]
  refine wpAnyH_take' (i := 3) (v := ?v3_t11) 69 rfl rfl (by kernel_rfl) (by kernel_rfl) (by kernel_rfl) (fun _ _ _ h => h) (Or.inl ⟨by kernel_rfl, ?hy3_t11⟩) (by assumption) ?rest3_t11
  case hy3_t11 => (intro W_ hS_; (try dsimp only at hS_); go_simp; (try (with_reducible rfl)))
  try simp only [Act.put, List.setIfInBounds_toArray, List.set_cons_zero, List.set_cons_succ]
  refine wpAnyH_take' (i := 4) (v := ?v4_t11) 70 rfl rfl (by kernel_rfl) (by kernel_rfl) (by kernel_rfl) (fun _ _ _ h => h) (Or.inl ⟨by kernel_rfl, ?hy4_t11⟩) (by assumption) ?rest4_t11
  case hy4_t11 => (intro W_ hS_; (try dsimp only at hS_); go_simp; (try (with_reducible rfl)))
  try simp only [Act.put, List.setIfInBounds_toArray, List.set_cons_zero, List.set_cons_succ]
  refine wpAnyH_take' (i := 5) (v := undef) 71 rfl rfl (by kernel_rfl) (by kernel_rfl) (by kernel_rfl) (fun _ _ _ h => h) (Or.inr ⟨by kernel_rfl, rfl⟩) (by assumption) ?_
  try simp only [Act.put, List.setIfInBounds_toArray, List.set_cons_zero, List.set_cons_succ]
  refine wpAnyH_take' (i := 6) (v := undef) 72 rfl rfl (by kernel_rfl) (by kernel_rfl) (by kernel_rfl) (fun _ _ _ h => h) (Or.inr ⟨by kernel_rfl, rfl⟩) (by assumption) ?_
  try simp only [Act.put, List.setIfInBounds_toArray, List.set_cons_zero, List.set_cons_succ]
  refine wpAnyH_take' (i := 7) (v := ?v7_t11) 73 rfl rfl (by kernel_rfl) (by kernel_rfl) (by kernel_rfl) (fun _ _ _ h => h) (Or.inl ⟨by kernel_rfl, ?hy7_t11⟩) (by assumption) ?rest7_t11
  case hy7_t11 => (intro W_ hS_; (try dsimp only at hS_); go_simp; (try (with_reducible rfl)))
  try simp only [Act.put, List.setIfInBounds_toArray, List.set_cons_zero, List.set_cons_succ]
  refine wpAnyH_take' (i := 8) (v := ?v8_t11) 74 rfl rfl (by kernel_rfl) (by kernel_rfl) (by kernel_rfl) (fun _ _ _ h => h) (Or.inl ⟨by kernel_rfl, ?hy8_t11⟩) (by assumption) ?rest8_t11
  case hy8_t11 => (intro W_ hS_; (try dsimp only at hS_); go_simp; (try (with_reducible rfl)))
  try simp only [Act.put, List.setIfInBounds_toArray, List.set_cons_zero, List.set_cons_succ]
  refine wpAnyH_take' (i := 9) (v := ?v9_t11) 75 rfl rfl (by kernel_rfl) (by kernel_rfl) (by kernel_rfl) (fun _ _ _ h => h) (Or.inl ⟨by kernel_rfl, ?hy9_t11⟩) (by assumption) ?rest9_t11
  case hy9_t11 => (intro W_ hS_; (try dsimp only at hS_); go_simp; (try (with_reducible rfl)))
  try simp only [Act.put, List.setIfInBounds_toArray, List.set_cons_zero, List.set_cons_succ]
  refine wpAnyH_take' (i := 10) (v := ?v10_t11) 76 rfl rfl (by kernel_rfl) (by kernel_rfl) (by kernel_rfl) (fun _ _ _ h => h) (Or.inl ⟨by kernel_rfl, ?hy10_t11⟩) (by assumption) ?rest10_t11
  case hy10_t11 => (intro W_ hS_; (try dsimp only at hS_); go_simp; (try (with_reducible rfl)))
  try simp only [Act.put, List.setIfInBounds_toArray, List.set_cons_zero, List.set_cons_succ]
  refine wpAnyH_take' (i := 12) (v := ?v12_t11) 78 rfl rfl (by kernel_rfl) (by kernel_rfl) (by kernel_rfl) (fun _ _ _ h => h) (Or.inl ⟨by kernel_rfl, ?hy12_t11⟩) (by assumption) ?rest12_t11
  case hy12_t11 => (intro W_ hS_; (try dsimp only at hS_); go_simp; (try (with_reducible rfl)))
  try simp only [Act.put, List.setIfInBounds_toArray, List.set_cons_zero, List.set_cons_succ]
  refine wpAnyH_ready (rs := [11]) (by kernel_rfl) (by simp) ?_
  refine AllReadyH.cons rfl (fun K_ hK_ => ?_) AllReadyH.nil
  go_simp
  refine (step1_any c c o Hodd.out Hok.out _).mono ?_; rintro e wr11 ⟨rfl, hBr11⟩
  go_wp2_with fail
  refine hK_.out _ _ (by exact HasC.cc (c := c) (block_below hBr11 (block_below (below_drew1 _) hc52))) (fun hHeld_11 => ?_)
  clear hK_
  try simp only [Act.put, List.setIfInBounds_toArray, List.set_cons_zero, List.set_cons_succ]
  refine wpAnyH_take' (i := 13) (v := ?v13_t11) 79 rfl rfl (by kernel_rfl) (by kernel_rfl) (by kernel_rfl) (fun _ _ _ h => h) (Or.inl ⟨by kernel_rfl, ?hy13_t11⟩) (by assumption) ?rest13_t11
  case hy13_t11 => (intro W_ hS_; (try dsimp only at hS_); go_simp; (try (with_reducible rfl)))
  try simp only [Act.put, List.setIfInBounds_toArray, List.set_cons_zero, List.set_cons_succ]
  refine wpAnyH_take' (i := 14) (v := ?v14_t11) 80 rfl rfl (by kernel_rfl) (by kernel_rfl) (by kernel_rfl) (fun _ _ _ h => h) (Or.inl ⟨by kernel_rfl, ?hy14_t11⟩) (by assumption) ?rest14_t11
  case hy14_t11 => (intro W_ hS_; (try dsimp only at hS_); go_simp; (try (with_reducible rfl)))
  try simp only [Act.put, List.setIfInBounds_toArray, List.set_cons_zero, List.set_cons_succ]
  refine wpAnyH_take' (i := 15) (v := ?v15_t11) 81 rfl rfl (by kernel_rfl) (by kernel_rfl) (by kernel_rfl) (fun _ _ _ h => h) (Or.inl ⟨by kernel_rfl, ?hy15_t11⟩) (by assumption) ?rest15_t11
  case hy15_t11 => (intro W_ hS_; (try dsimp only at hS_); go_simp; (try (with_reducible rfl)))
  try simp only [Act.put, List.setIfInBounds_toArray, List.set_cons_zero, List.set_cons_succ]
  refine wpAnyH_take' (i := 16) (v := ?v16_t11) 82 rfl rfl (by kernel_rfl) (by kernel_rfl) (by kernel_rfl) (fun _ _ _ h => h) (Or.inl ⟨by kernel_rfl, ?hy16_t11⟩) (by assumption) ?rest16_t11
  case hy16_t11 => (intro W_ hS_; (try dsimp only at hS_); go_simp; (try (with_reducible rfl)))
  try simp only [Act.put, List.setIfInBounds_toArray, List.set_cons_zero, List.set_cons_succ]
  refine wpAnyH_take' (i := 17) (v := ?v17_t11) 83 rfl rfl (by kernel_rfl) (by kernel_rfl) (by kernel_rfl) (fun _ _ _ h => h) (Or.inl ⟨by kernel_rfl, ?hy17_t11⟩) (by assumption) ?rest17_t11
  case hy17_t11 => (intro W_ hS_; (try dsimp only at hS_); go_simp; (try (with_reducible rfl)))
  try simp only [Act.put, List.setIfInBounds_toArray, List.set_cons_zero, List.set_cons_succ]
  refine wpAnyH_take' (i := 18) (v := ?v18_t11) 84 rfl rfl (by kernel_rfl) (by kernel_rfl) (by kernel_rfl) (fun _ _ _ h => h) (Or.inl ⟨by kernel_rfl, ?hy18_t11⟩) (by assumption) ?rest18_t11
  case hy18_t11 => (intro W_ hS_; (try dsimp only at hS_); go_simp; (try (with_reducible rfl)))
  try simp only [Act.put, List.setIfInBounds_toArray, List.set_cons_zero, List.set_cons_succ]
  refine wpAnyH_take' (i := 19) (v := ?v19_t11) 85 rfl rfl (by kernel_rfl) (by kernel_rfl) (by kernel_rfl) (fun _ _ _ h => h) (Or.inl ⟨by kernel_rfl, ?hy19_t11⟩) (by assumption) ?rest19_t11
  case hy19_t11 => (intro W_ hS_; (try dsimp only at hS_); go_simp; (try (with_reducible rfl)))
  try simp only [Act.put, List.setIfInBounds_toArray, List.set_cons_zero, List.set_cons_succ]
  refine wpAnyH_take' (i := 20) (v := ?v20_t11) 86 rfl rfl (by kernel_rfl) (by kernel_rfl) (by kernel_rfl) (fun _ _ _ h => h) (Or.inl ⟨by kernel_rfl, ?hy20_t11⟩) (by assumption) ?rest20_t11
  case hy20_t11 => (intro W_ hS_; (try dsimp only at hS_); go_simp; (try (with_reducible rfl)))
  try simp only [Act.put, List.setIfInBounds_toArray, List.set_cons_zero, List.set_cons_succ]
  refine wpAnyH_take' (i := 21) (v := ?v21_t11) 87 rfl rfl (by kernel_rfl) (by kernel_rfl) (by kernel_rfl) (fun _ _ _ h => h) (Or.inl ⟨by kernel_rfl, ?hy21_t11⟩) (by assumption) ?rest21_t11
  case hy21_t11 => (intro W_ hS_; (try dsimp only at hS_); go_simp; (try (with_reducible rfl)))
  try simp only [Act.put, List.setIfInBounds_toArray, List.set_cons_zero, List.set_cons_succ]
  refine wpAnyH_take' (i := 23) (v := ?v23_t11) 89 rfl rfl (by kernel_rfl) (by kernel_rfl) (by kernel_rfl) (fun _ _ _ h => h) (Or.inl ⟨by kernel_rfl, ?hy23_t11⟩) (by assumption) ?rest23_t11
  case hy23_t11 => (intro W_ hS_; (try dsimp only at hS_); go_simp; (try (with_reducible rfl)))
  try simp only [Act.put, List.setIfInBounds_toArray, List.set_cons_zero, List.set_cons_succ]
  refine wpAnyH_ready (rs := [22]) (by kernel_rfl) (by simp) ?_
  refine AllReadyH.cons rfl (fun K_ hK_ => ?_) AllReadyH.nil
  go_simp
  refine (step1_any c c 6 Hcm.out Hok.out _).mono ?_; rintro e wr22 ⟨rfl, hBr22⟩
  go_wp2_with fail
  refine hK_.out _ _ (by exact HasC.cc (c := c) (block_below hBr22 (block_below hBr11 (block_below (below_drew1 _) hc52)))) (fun hHeld_22 => ?_)
  clear hK_
  try simp only [Act.put, List.setIfInBounds_toArray, List.set_cons_zero, List.set_cons_succ]
  refine wpAnyH_take' (i := 24) (v := ?v24_t11) 90 rfl rfl (by kernel_rfl) (by kernel_rfl) (by kernel_rfl) (fun _ _ _ h => h) (Or.inl ⟨by kernel_rfl, ?hy24_t11⟩) (by assumption) ?rest24_t11
  case hy24_t11 => (intro W_ hS_; (try dsimp only at hS_); go_simp; (try (with_reducible rfl)))
  try simp only [Act.put, List.setIfInBounds_toArray, List.set_cons_zero, List.set_cons_succ]
  refine wpAnyH_take' (i := 25) (v := ?v25_t11) 91 rfl rfl (by kernel_rfl) (by kernel_rfl) (by kernel_rfl) (fun _ _ _ h => h) (Or.inl ⟨by kernel_rfl, ?hy25_t11⟩) (by assumption) ?rest25_t11
  case hy25_t11 => (intro W_ hS_; (try dsimp only at hS_); go_simp; (try (with_reducible rfl)))
  try simp only [Act.put, List.setIfInBounds_toArray, List.set_cons_zero, List.set_cons_succ]
  refine wpAnyH_take' (i := 26) (v := ?v26_t11) 92 rfl rfl (by kernel_rfl) (by kernel_rfl) (by kernel_rfl) (fun _ _ _ h => h) (Or.inl ⟨by kernel_rfl, ?hy26_t11⟩) (by assumption) ?rest26_t11
  case hy26_t11 => (intro W_ hS_; (try dsimp only at hS_); go_simp; (try (with_reducible rfl)))
  try simp only [Act.put, List.setIfInBounds_toArray, List.set_cons_zero, List.set_cons_succ]
  refine wpAnyH_take' (i := 27) (v := ?v27_t11) 8 rfl rfl (by kernel_rfl) (by kernel_rfl) (by kernel_rfl) (fun _ _ _ h => h) (Or.inl ⟨by kernel_rfl, ?hy27_t11⟩) (by assumption) ?rest27_t11
  case hy27_t11 => (intro W_ hS_; (try dsimp only at hS_); go_simp; (try (with_reducible rfl)))
  try simp only [Act.put, List.setIfInBounds_toArray, List.set_cons_zero, List.set_cons_succ]
  refine wpAnyH_done (by kernel_rfl) ?_ _
  go_wp2_with fail
  go_ret
  exact ⟨rfl, below_then hT52 (below_then (below_then (below_drew1 _) hBr11) hBr22)⟩

end Go.Proofs.Ytbkldbckcnnafaa
