/-
  The live question of layer 8; contracts whose answers are letters.
-/
import Derived.Test.YtbkldbckcnnafaaCnt5
import Derived.Test.YtbkldbckcnnafaaCnt6
import Derived.Test.YtbkldbckcnnafaaAny8
namespace Go.Proofs.Ytbkldbckcnnafaa
open Go.RowKit
set_option linter.unusedVariables false
set_option linter.unusedSimpArgs false

theorem fact1 : stepsV newV (List.replicate 32 3) = ⟨256, 0, 3, 0⟩ := by decide +kernel
theorem fact2 : stepsV ⟨256, 0, 3, 0⟩ (List.replicate 127 6) = ⟨256, 0, 3, 127⟩ := by decide +kernel
theorem fact3 : stepV ⟨256, 0, 3, 127⟩ 6 = newV := by decide +kernel
theorem fact4 : stepV newV 5 = ⟨0, 8, 1, 0⟩ := by decide +kernel
theorem fact5 : stepsV newV (List.replicate 16 3) = ⟨128, 0, 2, 0⟩ := by decide +kernel
theorem fact6 : rightV newV = true := by decide +kernel
theorem fact7 : rightV ⟨0, 0, 0, 0⟩ = false := by decide +kernel
theorem ok_off : OkC ⟨256, 0, 3, 0⟩ := .inr (.inr (by decide))
theorem ok_off127 : OkC ⟨256, 0, 3, 127⟩ := .inr (.inr (by decide))

set_option maxRecDepth 100000 in
set_option maxHeartbeats 4000000 in
theorem head_any (w : World) :
    Calls Try.prog 10 #[] w fun e w' => e = .returned (.bool true) ∧ Below w.heap.size w w' := by
  have q1 := eqIn_c
  have q2 := eq_c
  have s1 : sameC ⟨256, 0, 3, 0⟩ ⟨256, 0, 3, 0⟩ = true := by decide
  have s2 : sameC ⟨0, 0, 1, 0⟩ ⟨0, 0, 1, 0⟩ = true := by decide
  have s3 : sameC ⟨0, 8, 1, 0⟩ ⟨0, 8, 1, 0⟩ = true := by decide
  have s4 : sameC ⟨128, 0, 2, 0⟩ ⟨128, 0, 2, 0⟩ = true := by decide
  go_enter Try.func10, Try.ntmps10
  go_wp2_with fail
  have hT0 : Below w.heap.size w w := Below.refl _ _
  refine (new_any w).mono ?_
  rintro e w1 ⟨rfl, hB1⟩
  have hT1 := below_then hT0 hB1
  clear hT0   hB1
  go_wp2_with fail
  refine (times_any 3 32 (by omega) w1).mono ?_
  rintro e w2 ⟨Ap, cp, rfl, hp2, hB2⟩
  have hT2 := below_then hT1 hB2
  clear hT1   hB2
  go_wp2_with fail
  refine (steps_any newV ⟨256, 0, 3, 0⟩ _ fact1 ok_new 32 rfl (by omega) Ap cp w2 hp2).mono ?_
  rintro e w3 ⟨rfl, hB3⟩
  have hT3 := below_then hT2 hB3
  have hp3 := Row.to hp2 hB3
  clear hT2  hp2 hB3
  go_wp2_with fail
  clear hp3
  obtain ⟨w4, hw4⟩ : ∃ w4, w3.alloc (.cells #[.int .i64 256, .int .i64 0, .int .i64 3, .int .i64 0] 23) = w4 := ⟨_, rfl⟩
  have hB4 : Below w3.heap.size w3 w4 := by rw [← hw4]; exact below_alloc1 _ _
  have hc4 : HasC w4 w3.heap.size ⟨256, 0, 3, 0⟩ := by rw [← hw4]; exact World.alloc_heap_new _ _
  rw [hw4]
  clear hw4
  have hT4 := below_then hT3 hB4
  clear hT3   hB4
  have hltc : w3.heap.size < w4.heap.size := (Array.getElem?_eq_some_iff.1 hc4).1
  go_cut [2] from 6 to 8 (fun p wc => ∃ X : Nat, p = .pointer (some ⟨X, 0, none⟩) ∧ w4.heap.size ≤ X ∧ HasC wc X ⟨256, 0, 3, 127⟩ ∧ Below w4.heap.size w4 wc)
  case first =>
    refine wp_region_held_drew (S := fun W => (W.cell? ⟨w3.heap.size, 0, none⟩ = some (.int .i64 256) ∧ W.cell? ⟨w3.heap.size, 1, none⟩ = some (.int .i64 0) ∧ W.cell? ⟨w3.heap.size, 2, none⟩ = some (.int .i64 3) ∧ W.cell? ⟨w3.heap.size, 3, none⟩ = some (.int .i64 0))) (by kernel_rfl) (by exact HasC.cc (c := ⟨256, 0, 3, 0⟩) (block_below (below_drew1 _) hc4)) (fun hHeld_ => ?_)
    refine wpAnyH_take' (i := 0) (v := ?vm1_0_0_) 6 rfl rfl (by kernel_rfl) (by kernel_rfl) (by kernel_rfl) (fun _ _ _ h => h) (Or.inl ⟨by kernel_rfl, ?hm1_0_0_⟩) (by assumption) ?rm1_0_0_
    case hm1_0_0_ => (intro W_ hS_; (try dsimp only at hS_); go_simp; (try (with_reducible rfl)))
    try simp only [Act.put, List.setIfInBounds_toArray, List.set_cons_zero, List.set_cons_succ]
    refine wpAnyH_ready (rs := [1, 3]) (by kernel_rfl) (by simp) ?_
    refine (AllReadyH.cons rfl (fun K_ hK_ => ?_) (AllReadyH.cons rfl (fun K_ hK_ => ?_) AllReadyH.nil))
    · go_simp
      refine (times_any 6 127 (by omega) _).mono ?_
      rintro e wr1 ⟨Ar1, cr1, rfl, hRr1, hBr1⟩
      go_wp2_with fail
      refine hK_.out _ _ (by exact HasC.cc (c := ⟨256, 0, 3, 0⟩) (block_below hBr1 (block_below (below_drew1 _) hc4))) (fun hHeld_1_0 => ?_)
      clear hK_
      try simp only [Act.put, List.setIfInBounds_toArray, List.set_cons_zero, List.set_cons_succ]
      refine wpAnyH_ready (rs := [2, 3]) (by kernel_rfl) (by simp) ?_
      refine (AllReadyH.cons rfl (fun K_ hK_ => ?_) (AllReadyH.cons rfl (fun K_ hK_ => ?_) AllReadyH.nil))
      · go_simp
        refine (steps_any ⟨256, 0, 3, 0⟩ ⟨256, 0, 3, 127⟩ _ fact2 ok_off 127 rfl (by omega) Ar1 cr1 _ hRr1).mono ?_
        rintro e wr2 ⟨rfl, hBr2⟩
        go_wp2_with fail
        refine hK_.out _ _ (by exact HasC.cc (c := ⟨256, 0, 3, 0⟩) (block_below hBr2 (block_below hBr1 (block_below (below_drew1 _) hc4)))) (fun hHeld_2_1 => ?_)
        clear hK_
        try simp only [Act.put, List.setIfInBounds_toArray, List.set_cons_zero, List.set_cons_succ]
        refine wpAnyH_ready (rs := [3]) (by kernel_rfl) (by simp) ?_
        refine (AllReadyH.cons rfl (fun K_ hK_ => ?_) AllReadyH.nil)
        go_simp
        have hblk3 : (wr2.alloc (.cells #[.int .i64 0, .int .i64 0, .int .i64 0, .int .i64 0] 23)).heap[wr2.heap.size]? = some (.cells #[.int .i64 0, .int .i64 0, .int .i64 0, .int .i64 0] 23) := World.alloc_heap_new _ _
        go_wp2_with fail
        refine hK_.out _ _ (by exact HasC.cc (c := ⟨256, 0, 3, 0⟩) (block_below (below_alloc1 _ _) (block_below hBr2 (block_below hBr1 (block_below (below_drew1 _) hc4))))) (fun hHeld_3_2 => ?_)
        clear hK_
        try simp only [Act.put, List.setIfInBounds_toArray, List.set_cons_zero, List.set_cons_succ]
        refine wpAnyH_ready (rs := [4]) (by kernel_rfl) (by simp) ?_
        refine (AllReadyH.cons rfl (fun K_ hK_ => ?_) AllReadyH.nil)
        go_simp
        go_wp2_with fail
        refine hK_.out _ _ (by exact HasC.cc (c := ⟨256, 0, 3, 0⟩) (block_below (below_alloc1 _ _) (block_below hBr2 (block_below hBr1 (block_below (below_drew1 _) hc4))))) (fun hHeld_4_3 => ?_)
        clear hK_
        try simp only [Act.put, List.setIfInBounds_toArray, List.set_cons_zero, List.set_cons_succ]
        refine wpAnyH_done (by kernel_rfl) ?_ _
        go_wp2_with fail
        go_meet
        exact ⟨wr2.heap.size, rfl, (below_then (below_then (below_drew1 _) hBr1) hBr2).size, World.alloc_heap_new _ _, (below_then (below_then (below_then (below_drew1 _) hBr1) hBr2) (below_alloc1 _ _))⟩
      · go_simp
        have hblk3 : (wr1.alloc (.cells #[.int .i64 0, .int .i64 0, .int .i64 0, .int .i64 0] 23)).heap[wr1.heap.size]? = some (.cells #[.int .i64 0, .int .i64 0, .int .i64 0, .int .i64 0] 23) := World.alloc_heap_new _ _
        go_wp2_with fail
        refine hK_.out _ _ (by exact HasC.cc (c := ⟨256, 0, 3, 0⟩) (block_below (below_alloc1 _ _) (block_below hBr1 (block_below (below_drew1 _) hc4)))) (fun hHeld_3_1 => ?_)
        clear hK_
        try simp only [Act.put, List.setIfInBounds_toArray, List.set_cons_zero, List.set_cons_succ]
        refine wpAnyH_ready (rs := [2]) (by kernel_rfl) (by simp) ?_
        refine (AllReadyH.cons rfl (fun K_ hK_ => ?_) AllReadyH.nil)
        go_simp
        refine (steps_any ⟨256, 0, 3, 0⟩ ⟨256, 0, 3, 127⟩ _ fact2 ok_off 127 rfl (by omega) Ar1 cr1 _ (Row.to hRr1 (below_alloc1 _ _))).mono ?_
        rintro e wr2 ⟨rfl, hBr2⟩
        have hblk2 := block_below hBr2 hblk3
        go_wp2_with fail
        refine hK_.out _ _ (by exact HasC.cc (c := ⟨256, 0, 3, 0⟩) (block_below hBr2 (block_below (below_alloc1 _ _) (block_below hBr1 (block_below (below_drew1 _) hc4))))) (fun hHeld_2_2 => ?_)
        clear hK_
        try simp only [Act.put, List.setIfInBounds_toArray, List.set_cons_zero, List.set_cons_succ]
        refine wpAnyH_ready (rs := [4]) (by kernel_rfl) (by simp) ?_
        refine (AllReadyH.cons rfl (fun K_ hK_ => ?_) AllReadyH.nil)
        obtain ⟨⟨z0, z1, z2, z3⟩, y0, y1, y2, y3⟩ := cells4 hblk2
        go_simp
        go_wp2_with fail
        clear z0 z1 z2 z3 y0 y1 y2 y3
        refine hK_.out _ _ (by have hle_ := (below_then (below_drew1 _) hBr1).size; exact HasC.cc (c := ⟨256, 0, 3, 0⟩) (other_grownF (set4_grown _ _ _ _ _ _) (block_below hBr2 (block_below (below_alloc1 _ _) (block_below hBr1 (block_below (below_drew1 _) hc4)))) (by omega))) (fun hHeld_4_3 => ?_)
        clear hK_
        try simp only [Act.put, List.setIfInBounds_toArray, List.set_cons_zero, List.set_cons_succ]
        refine wpAnyH_done (by kernel_rfl) ?_ _
        go_wp2_with fail
        go_meet
        exact ⟨wr1.heap.size, rfl, (below_then (below_drew1 _) hBr1).size, set4_obj hblk2 _ _ _ _, below_set4 (below_then (below_then (below_then (below_drew1 _) hBr1) (below_alloc1 _ _)) hBr2) ((below_then (below_drew1 _) hBr1).size) _ _ _ _⟩
    · go_simp
      have hblk3 : (w4.alloc (.cells #[.int .i64 0, .int .i64 0, .int .i64 0, .int .i64 0] 23)).drew.heap[w4.heap.size]? = some (.cells #[.int .i64 0, .int .i64 0, .int .i64 0, .int .i64 0] 23) := World.alloc_heap_new w4 _
      go_wp2_with fail
      refine hK_.out _ _ (by exact HasC.cc (c := ⟨256, 0, 3, 0⟩) (block_below (below_drew1 _) (block_below (below_alloc1 _ _) hc4))) (fun hHeld_3_0 => ?_)
      clear hK_
      try simp only [Act.put, List.setIfInBounds_toArray, List.set_cons_zero, List.set_cons_succ]
      refine wpAnyH_ready (rs := [1]) (by kernel_rfl) (by simp) ?_
      refine (AllReadyH.cons rfl (fun K_ hK_ => ?_) AllReadyH.nil)
      go_simp
      refine (times_any 6 127 (by omega) _).mono ?_
      rintro e wr1 ⟨Ar1, cr1, rfl, hRr1, hBr1⟩
      have hblk1 := block_below hBr1 hblk3
      go_wp2_with fail
      refine hK_.out _ _ (by exact HasC.cc (c := ⟨256, 0, 3, 0⟩) (block_below hBr1 (block_below (below_drew1 _) (block_below (below_alloc1 _ _) hc4)))) (fun hHeld_1_1 => ?_)
      clear hK_
      try simp only [Act.put, List.setIfInBounds_toArray, List.set_cons_zero, List.set_cons_succ]
      refine wpAnyH_ready (rs := [2]) (by kernel_rfl) (by simp) ?_
      refine (AllReadyH.cons rfl (fun K_ hK_ => ?_) AllReadyH.nil)
      go_simp
      refine (steps_any ⟨256, 0, 3, 0⟩ ⟨256, 0, 3, 127⟩ _ fact2 ok_off 127 rfl (by omega) Ar1 cr1 _ hRr1).mono ?_
      rintro e wr2 ⟨rfl, hBr2⟩
      have hblk2 := block_below hBr2 hblk1
      go_wp2_with fail
      refine hK_.out _ _ (by exact HasC.cc (c := ⟨256, 0, 3, 0⟩) (block_below hBr2 (block_below hBr1 (block_below (below_drew1 _) (block_below (below_alloc1 _ _) hc4))))) (fun hHeld_2_2 => ?_)
      clear hK_
      try simp only [Act.put, List.setIfInBounds_toArray, List.set_cons_zero, List.set_cons_succ]
      refine wpAnyH_ready (rs := [4]) (by kernel_rfl) (by simp) ?_
      refine (AllReadyH.cons rfl (fun K_ hK_ => ?_) AllReadyH.nil)
      obtain ⟨⟨z0, z1, z2, z3⟩, y0, y1, y2, y3⟩ := cells4 hblk2
      go_simp
      go_wp2_with fail
      clear z0 z1 z2 z3 y0 y1 y2 y3
      refine hK_.out _ _ (by exact HasC.cc (c := ⟨256, 0, 3, 0⟩) (other_grownF (set4_grown _ _ _ _ _ _) (block_below hBr2 (block_below hBr1 (block_below (below_drew1 _) (block_below (below_alloc1 _ _) hc4)))) (by omega))) (fun hHeld_4_3 => ?_)
      clear hK_
      try simp only [Act.put, List.setIfInBounds_toArray, List.set_cons_zero, List.set_cons_succ]
      refine wpAnyH_done (by kernel_rfl) ?_ _
      go_wp2_with fail
      go_meet
      exact ⟨w4.heap.size, rfl, Nat.le_refl _, set4_obj hblk2 _ _ _ _, below_set4 (below_then (below_then (below_then (below_alloc1 _ _) (below_drew1 _)) hBr1) hBr2) (Nat.le_refl _) _ _ _ _⟩
  case rest =>
  obtain ⟨Xd, rfl, hXd, hd5, hB5⟩ := hcut
  obtain ⟨w5, e_⟩ : ∃ w_, w_ = wc := ⟨_, rfl⟩
  subst e_
  clear hltc
  have hT5 := below_then hT4 hB5
  have hc5 := block_below hB5 hc4
  clear hT4 hc4  hB5
  obtain ⟨cc0, cc1, cc2, cc3⟩ := HasC.cc (c := ⟨256, 0, 3, 0⟩) hc5
  dsimp only at cc0 cc1 cc2 cc3
  obtain ⟨dc0, dc1, dc2, dc3⟩ := HasC.cc (c := ⟨256, 0, 3, 127⟩) hd5
  dsimp only at dc0 dc1 dc2 dc3
  go_wp2_with fail
  clear cc0 cc1 cc2 cc3 dc0 dc1 dc2 dc3
  refine (new_any w5).mono ?_
  rintro e w6 ⟨rfl, hB6⟩
  have hT6 := below_then hT5 hB6
  have hc6 := block_below hB6 hc5
  have hd6 := block_below hB6 hd5
  clear hT5 hc5 hd5  hB6
  obtain ⟨cc0, cc1, cc2, cc3⟩ := HasC.cc (c := ⟨256, 0, 3, 0⟩) hc6
  dsimp only at cc0 cc1 cc2 cc3
  obtain ⟨dc0, dc1, dc2, dc3⟩ := HasC.cc (c := ⟨256, 0, 3, 127⟩) hd6
  dsimp only at dc0 dc1 dc2 dc3
  go_wp2_with fail
  clear cc0 cc1 cc2 cc3 dc0 dc1 dc2 dc3
  refine (right_q newV true fact6 w6).mono ?_
  rintro e w7 ⟨rfl, hB7⟩
  have hT7 := below_then hT6 hB7
  have hc7 := block_below hB7 hc6
  have hd7 := block_below hB7 hd6
  clear hT6 hc6 hd6  hB7
  obtain ⟨cc0, cc1, cc2, cc3⟩ := HasC.cc (c := ⟨256, 0, 3, 0⟩) hc7
  dsimp only at cc0 cc1 cc2 cc3
  obtain ⟨dc0, dc1, dc2, dc3⟩ := HasC.cc (c := ⟨256, 0, 3, 127⟩) hd7
  dsimp only at dc0 dc1 dc2 dc3
  go_wp2_with fail
  clear cc0 cc1 cc2 cc3 dc0 dc1 dc2 dc3
  refine (step1_any ⟨256, 0, 3, 127⟩ newV 6 fact3 ok_off127 w7).mono ?_
  rintro e w8 ⟨rfl, hB8⟩
  have hT8 := below_then hT7 hB8
  have hc8 := block_below hB8 hc7
  have hd8 := block_below hB8 hd7
  clear hT7 hc7 hd7  hB8
  obtain ⟨cc0, cc1, cc2, cc3⟩ := HasC.cc (c := ⟨256, 0, 3, 0⟩) hc8
  dsimp only at cc0 cc1 cc2 cc3
  obtain ⟨dc0, dc1, dc2, dc3⟩ := HasC.cc (c := ⟨256, 0, 3, 127⟩) hd8
  dsimp only at dc0 dc1 dc2 dc3
  go_wp2_with fail
  clear cc0 cc1 cc2 cc3 dc0 dc1 dc2 dc3
  refine (new_any w8).mono ?_
  rintro e w9 ⟨rfl, hB9⟩
  have hT9 := below_then hT8 hB9
  have hc9 := block_below hB9 hc8
  have hd9 := block_below hB9 hd8
  clear hT8 hc8 hd8  hB9
  obtain ⟨cc0, cc1, cc2, cc3⟩ := HasC.cc (c := ⟨256, 0, 3, 0⟩) hc9
  dsimp only at cc0 cc1 cc2 cc3
  obtain ⟨dc0, dc1, dc2, dc3⟩ := HasC.cc (c := ⟨256, 0, 3, 127⟩) hd9
  dsimp only at dc0 dc1 dc2 dc3
  go_wp2_with fail
  clear cc0 cc1 cc2 cc3 dc0 dc1 dc2 dc3
  refine (new_any w9).mono ?_
  rintro e w10 ⟨rfl, hB10⟩
  have hT10 := below_then hT9 hB10
  have hc10 := block_below hB10 hc9
  have hd10 := block_below hB10 hd9
  clear hT9 hc9 hd9  hB10
  obtain ⟨cc0, cc1, cc2, cc3⟩ := HasC.cc (c := ⟨256, 0, 3, 0⟩) hc10
  dsimp only at cc0 cc1 cc2 cc3
  obtain ⟨dc0, dc1, dc2, dc3⟩ := HasC.cc (c := ⟨256, 0, 3, 127⟩) hd10
  dsimp only at dc0 dc1 dc2 dc3
  go_wp2_with fail
  clear cc0 cc1 cc2 cc3 dc0 dc1 dc2 dc3
  refine (step1_any newV ⟨0, 8, 1, 0⟩ 5 fact4 ok_new w10).mono ?_
  rintro e w11 ⟨rfl, hB11⟩
  have hT11 := below_then hT10 hB11
  have hc11 := block_below hB11 hc10
  have hd11 := block_below hB11 hd10
  clear hT10 hc10 hd10  hB11
  obtain ⟨cc0, cc1, cc2, cc3⟩ := HasC.cc (c := ⟨256, 0, 3, 0⟩) hc11
  dsimp only at cc0 cc1 cc2 cc3
  obtain ⟨dc0, dc1, dc2, dc3⟩ := HasC.cc (c := ⟨256, 0, 3, 127⟩) hd11
  dsimp only at dc0 dc1 dc2 dc3
  go_wp2_with fail
  clear cc0 cc1 cc2 cc3 dc0 dc1 dc2 dc3
  refine (new_any w11).mono ?_
  rintro e w12 ⟨rfl, hB12⟩
  have hT12 := below_then hT11 hB12
  have hc12 := block_below hB12 hc11
  have hd12 := block_below hB12 hd11
  clear hT11 hc11 hd11  hB12
  obtain ⟨cc0, cc1, cc2, cc3⟩ := HasC.cc (c := ⟨256, 0, 3, 0⟩) hc12
  dsimp only at cc0 cc1 cc2 cc3
  obtain ⟨dc0, dc1, dc2, dc3⟩ := HasC.cc (c := ⟨256, 0, 3, 127⟩) hd12
  dsimp only at dc0 dc1 dc2 dc3
  go_wp2_with fail
  clear cc0 cc1 cc2 cc3 dc0 dc1 dc2 dc3
  refine (times_any 3 16 (by omega) w12).mono ?_
  rintro e w13 ⟨Ap, cp, rfl, hp13, hB13⟩
  have hT13 := below_then hT12 hB13
  have hc13 := block_below hB13 hc12
  have hd13 := block_below hB13 hd12
  clear hT12 hc12 hd12  hB13
  obtain ⟨cc0, cc1, cc2, cc3⟩ := HasC.cc (c := ⟨256, 0, 3, 0⟩) hc13
  dsimp only at cc0 cc1 cc2 cc3
  obtain ⟨dc0, dc1, dc2, dc3⟩ := HasC.cc (c := ⟨256, 0, 3, 127⟩) hd13
  dsimp only at dc0 dc1 dc2 dc3
  go_wp2_with fail
  clear cc0 cc1 cc2 cc3 dc0 dc1 dc2 dc3
  refine (steps_any newV ⟨128, 0, 2, 0⟩ _ fact5 ok_new 16 rfl (by omega) Ap cp w13 hp13).mono ?_
  rintro e w14 ⟨rfl, hB14⟩
  have hT14 := below_then hT13 hB14
  have hc14 := block_below hB14 hc13
  have hd14 := block_below hB14 hd13
  have hp14 := Row.to hp13 hB14
  clear hT13 hc13 hd13 hp13 hB14
  obtain ⟨cc0, cc1, cc2, cc3⟩ := HasC.cc (c := ⟨256, 0, 3, 0⟩) hc14
  dsimp only at cc0 cc1 cc2 cc3
  obtain ⟨dc0, dc1, dc2, dc3⟩ := HasC.cc (c := ⟨256, 0, 3, 127⟩) hd14
  dsimp only at dc0 dc1 dc2 dc3
  go_wp2_with fail
  clear cc0 cc1 cc2 cc3 dc0 dc1 dc2 dc3
  clear hp14
  refine (right_q ⟨0, 0, 0, 0⟩ false fact7 w14).mono ?_
  rintro e w15 ⟨rfl, hB15⟩
  have hT15 := below_then hT14 hB15
  have hc15 := block_below hB15 hc14
  have hd15 := block_below hB15 hd14
  clear hT14 hc14 hd14  hB15
  obtain ⟨cc0, cc1, cc2, cc3⟩ := HasC.cc (c := ⟨256, 0, 3, 0⟩) hc15
  dsimp only at cc0 cc1 cc2 cc3
  obtain ⟨dc0, dc1, dc2, dc3⟩ := HasC.cc (c := ⟨256, 0, 3, 127⟩) hd15
  dsimp only at dc0 dc1 dc2 dc3
  go_wp2_with fail
  go_ret
  exact ⟨rfl, hT15⟩

end Go.Proofs.Ytbkldbckcnnafaa
