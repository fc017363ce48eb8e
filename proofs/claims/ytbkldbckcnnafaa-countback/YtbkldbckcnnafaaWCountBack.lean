/-
  CountBack.
-/
import Derived.Test.YtbkldbckcnnafaaCntMath
import Derived.Test.YtbkldbckcnnafaaHead8
namespace Go.Proofs.Ytbkldbckcnnafaa
open Go.RowKit
set_option linter.unusedVariables false
set_option linter.unusedSimpArgs false

set_option maxRecDepth 100000 in
set_option maxHeartbeats 1000000 in
theorem countBack_any (c : CV) (w : World) :
    Calls Try.prog 6 #[c.v] w fun e w' => e = .returned (.bool true) ∧ Below w.heap.size w w' := by
  have q1 := eqIn_c
  have q2 := eq_c
  have s2 : sameC ⟨0, 0, 1, 0⟩ ⟨0, 0, 1, 0⟩ = true := by decide
  go_enter Try.func6, Try.ntmps6
  go_wp2_with fail
  obtain ⟨w0, hw0⟩ : ∃ w0, w.alloc (.cells #[.int .i64 c.t, .int .i64 c.r, .int .i64 c.s, .int .i64 c.q] 23) = w0 := ⟨_, rfl⟩
  have hT0 : Below w.heap.size w w0 := by rw [← hw0]; exact below_alloc1 _ _
  have hc0 : HasC w0 w.heap.size c := by rw [← hw0]; exact World.alloc_heap_new _ _
  rw [hw0]
  clear hw0
  refine (head_any w0).mono ?_
  rintro e w1 ⟨rfl, hB1⟩
  have hT1 := below_then hT0 hB1
  have hc1 := block_below hB1 hc0
  clear hT0 hc0  hB1
  obtain ⟨cc0, cc1, cc2, cc3⟩ := HasC.cc (c := c) hc1
  go_wp2_with fail
  clear cc0 cc1 cc2 cc3
  obtain ⟨q, hq⟩ : ∃ q, rightV c = q := ⟨_, rfl⟩
  have Hq := Lib.hid hq
  clear hq
  cases q
  · skip
    refine (right_q c false Hq.out w1).mono ?_
    rintro e w2 ⟨rfl, hB2⟩
    have hT2 := below_then hT1 hB2
    have hc2 := block_below hB2 hc1
    clear hT1 hc1  hB2
    obtain ⟨cc0, cc1, cc2, cc3⟩ := HasC.cc (c := c) hc2
    go_wp2_with fail
    go_ret
    exact ⟨rfl, hT2⟩
  refine (right_q c true Hq.out w1).mono ?_
  rintro e w2 ⟨rfl, hB2⟩
  have hT2 := below_then hT1 hB2
  have hc2 := block_below hB2 hc1
  clear hT1 hc1  hB2
  have Hok := Lib.hid (show OkC c from of_decide_eq_true (show decide (OkC c) = true from Hq.out))
  by_cases hs : c.s = 3
  · skip
    have hs2 : (c.s == 3) = true := by simpa using hs
    have Hs := Lib.hid hs
    clear hs
    obtain ⟨cc0, cc1, cc2, cc3⟩ := HasC.cc (c := c) hc2
    go_wp2_with fail
    go_ret
    exact ⟨rfl, hT2⟩
  have hs2 : (c.s == 3) = false := by simpa using hs
  obtain ⟨hmk, hbx⟩ := ok_mk Hok.out hs
  obtain ⟨N, hN⟩ : ∃ N : Nat, max (c.t - 127) 0 = (N : Int) := ⟨(max (c.t - 127) 0).toNat, by omega⟩
  have hN2 : N ≤ 128 := by omega
  have HN := Lib.hid hN
  have hw1 : wrap64 (c.t - 127) = c.t - 127 := by unfold wrap64; omega
  have Ha1 := Lib.hid (show (stepsV (stepV c 2) (List.replicate N 1)).s = 1 from by rw [hmk]; exact back_a hbx hN)
  have Hb1 := Lib.hid (show stepsV (stepsV c (List.replicate 255 1)) (List.replicate 255 2) = newV from by rw [hmk]; exact back_b hbx)
  have Hc1 := Lib.hid (show ∀ M : Nat, N = M + 1 → (stepsV (stepV c 2) (List.replicate M 1)).s = 2 from fun M hM => by rw [hmk]; exact back_c hbx (by rw [← hM]; exact hN))
  clear hmk hbx hs
  obtain ⟨cc0, cc1, cc2, cc3⟩ := HasC.cc (c := c) hc2
  go_wp2_with fail
  clear cc0 cc1 cc2 cc3
  clear hs2
  obtain ⟨d, hd⟩ : ∃ q : CV, stepV c 2 = q := ⟨_, rfl⟩
  have Hd := Lib.hid hd
  clear hd
  have Hdok := Lib.hid (show OkC d from by rw [← Hd.out]; exact ok_step _ _ Hok.out)
  obtain ⟨a, ha⟩ : ∃ q : CV, stepsV d (List.replicate N 1) = q := ⟨_, rfl⟩
  have Ha := Lib.hid ha
  clear ha
  have has : a.s = 1 := by rw [← Ha.out, ← Hd.out]; exact Ha1.out
  obtain ⟨at_, ar_, as_, aq_⟩ := a
  dsimp only at has
  subst has
  refine (step1_any c d 2 Hd.out Hok.out w2).mono ?_
  rintro e w3 ⟨rfl, hB3⟩
  have hT3 := below_then hT2 hB3
  have hc3 := block_below hB3 hc2
  clear hT2 hc2  hB3
  obtain ⟨cc0, cc1, cc2, cc3⟩ := HasC.cc (c := c) hc3
  go_wp2_with fail
  clear cc0 cc1 cc2 cc3
  refine (times_any 1 N (by omega) w3).mono ?_
  rintro e w4 ⟨Ap, cp, rfl, hp4, hB4⟩
  have hT4 := below_then hT3 hB4
  have hc4 := block_below hB4 hc3
  clear hT3 hc3  hB4
  obtain ⟨cc0, cc1, cc2, cc3⟩ := HasC.cc (c := c) hc4
  go_wp2_with fail
  clear cc0 cc1 cc2 cc3
  refine (steps_any d ⟨at_, ar_, 1, aq_⟩ _ Ha.out Hdok.out N (by simp) (by omega) Ap cp w4 hp4).mono ?_
  rintro e w5 ⟨rfl, hB5⟩
  have hT5 := below_then hT4 hB5
  have hc5 := block_below hB5 hc4
  have hp5 := Row.to hp4 hB5
  clear hT4 hc4 hp4 hB5
  obtain ⟨cc0, cc1, cc2, cc3⟩ := HasC.cc (c := c) hc5
  go_wp2_with fail
  clear cc0 cc1 cc2 cc3
  clear hp5
  clear hw1 hN
  obtain ⟨w6, hw6⟩ : ∃ w6, w5.alloc (.cells #[.int .i64 at_, .int .i64 ar_, .int .i64 1, .int .i64 aq_] 23) = w6 := ⟨_, rfl⟩
  have hB6 : Below w5.heap.size w5 w6 := by rw [← hw6]; exact below_alloc1 _ _
  have ha6 : HasC w6 w5.heap.size ⟨at_, ar_, 1, aq_⟩ := by rw [← hw6]; exact World.alloc_heap_new _ _
  rw [hw6]
  clear hw6
  have hT6 := below_then hT5 hB6
  have hc6 := block_below hB6 hc5
  clear hT5 hc5  hB6
  obtain ⟨f, hf⟩ : ∃ q : CV, stepsV c (List.replicate 255 1) = q := ⟨_, rfl⟩
  have Hf := Lib.hid hf
  clear hf
  have Hfok := Lib.hid (show OkC f from by rw [← Hf.out]; exact ok_steps _ _ Hok.out)
  have Hb2 := Lib.hid (show stepsV f (List.replicate 255 2) = ⟨0, 0, 1, 0⟩ from by rw [← Hf.out]; exact Hb1.out)
  have hltc : w.heap.size < w6.heap.size := (Array.getElem?_eq_some_iff.1 hc6).1
  have hlta : w5.heap.size < w6.heap.size := (Array.getElem?_eq_some_iff.1 ha6).1
  go_cut [6] from 26 to 30 (fun p wc => ∃ X : Nat, p = .pointer (some ⟨X, 0, none⟩) ∧ w6.heap.size ≤ X ∧ HasC wc X ⟨0, 0, 1, 0⟩ ∧ Below w6.heap.size w6 wc)
  case first =>
    refine wp_region_held_drew (S := fun W => (W.cell? ⟨w.heap.size, 0, none⟩ = some (.int .i64 c.t) ∧ W.cell? ⟨w.heap.size, 1, none⟩ = some (.int .i64 c.r) ∧ W.cell? ⟨w.heap.size, 2, none⟩ = some (.int .i64 c.s) ∧ W.cell? ⟨w.heap.size, 3, none⟩ = some (.int .i64 c.q)) ∧ (W.cell? ⟨w5.heap.size, 0, none⟩ = some (.int .i64 at_) ∧ W.cell? ⟨w5.heap.size, 1, none⟩ = some (.int .i64 ar_) ∧ W.cell? ⟨w5.heap.size, 2, none⟩ = some (.int .i64 1) ∧ W.cell? ⟨w5.heap.size, 3, none⟩ = some (.int .i64 aq_))) (by kernel_rfl) (by exact ⟨HasC.cc (c := c) (block_below (below_drew1 _) hc6), HasC.cc (c := ⟨at_, ar_, 1, aq_⟩) (block_below (below_drew1 _) ha6)⟩) (fun hHeld_ => ?_)
    refine wpAnyH_take' (i := 0) (v := ?vm6_0_0_) 26 rfl rfl (by kernel_rfl) (by kernel_rfl) (by kernel_rfl) (fun _ _ _ h => h) (Or.inl ⟨by kernel_rfl, ?hm6_0_0_⟩) (by assumption) ?rm6_0_0_
    case hm6_0_0_ => (intro W_ hS_; (try dsimp only at hS_); go_simp; (try (with_reducible rfl)))
    try simp only [Act.put, List.setIfInBounds_toArray, List.set_cons_zero, List.set_cons_succ]
    refine wpAnyH_ready (rs := [1, 5]) (by kernel_rfl) (by simp) ?_
    refine (AllReadyH.cons rfl (fun K_ hK_ => ?_) (AllReadyH.cons rfl (fun K_ hK_ => ?_) AllReadyH.nil))
    · go_simp
      refine (times_any 1 255 (by omega) _).mono ?_
      rintro e wr1 ⟨Ar1, cr1, rfl, hRr1, hBr1⟩
      go_wp2_with fail
      refine hK_.out _ _ (by exact ⟨HasC.cc (c := c) (block_below hBr1 (block_below (below_drew1 _) hc6)), HasC.cc (c := ⟨at_, ar_, 1, aq_⟩) (block_below hBr1 (block_below (below_drew1 _) ha6))⟩) (fun hHeld_1_0 => ?_)
      clear hK_
      try simp only [Act.put, List.setIfInBounds_toArray, List.set_cons_zero, List.set_cons_succ]
      refine wpAnyH_ready (rs := [2, 5]) (by kernel_rfl) (by simp) ?_
      refine (AllReadyH.cons rfl (fun K_ hK_ => ?_) (AllReadyH.cons rfl (fun K_ hK_ => ?_) AllReadyH.nil))
      · go_simp
        refine (steps_any c f _ Hf.out Hok.out 255 (by simp) (by omega) Ar1 cr1 _ hRr1).mono ?_
        rintro e wr2 ⟨rfl, hBr2⟩
        go_wp2_with fail
        refine hK_.out _ _ (by exact ⟨HasC.cc (c := c) (block_below hBr2 (block_below hBr1 (block_below (below_drew1 _) hc6))), HasC.cc (c := ⟨at_, ar_, 1, aq_⟩) (block_below hBr2 (block_below hBr1 (block_below (below_drew1 _) ha6)))⟩) (fun hHeld_2_1 => ?_)
        clear hK_
        try simp only [Act.put, List.setIfInBounds_toArray, List.set_cons_zero, List.set_cons_succ]
        refine wpAnyH_ready (rs := [3, 5]) (by kernel_rfl) (by simp) ?_
        refine (AllReadyH.cons rfl (fun K_ hK_ => ?_) (AllReadyH.cons rfl (fun K_ hK_ => ?_) AllReadyH.nil))
        · go_simp
          refine (times_any 2 255 (by omega) _).mono ?_
          rintro e wr3 ⟨Ar3, cr3, rfl, hRr3, hBr3⟩
          go_wp2_with fail
          refine hK_.out _ _ (by exact ⟨HasC.cc (c := c) (block_below hBr3 (block_below hBr2 (block_below hBr1 (block_below (below_drew1 _) hc6)))), HasC.cc (c := ⟨at_, ar_, 1, aq_⟩) (block_below hBr3 (block_below hBr2 (block_below hBr1 (block_below (below_drew1 _) ha6))))⟩) (fun hHeld_3_2 => ?_)
          clear hK_
          try simp only [Act.put, List.setIfInBounds_toArray, List.set_cons_zero, List.set_cons_succ]
          refine wpAnyH_ready (rs := [4, 5]) (by kernel_rfl) (by simp) ?_
          refine (AllReadyH.cons rfl (fun K_ hK_ => ?_) (AllReadyH.cons rfl (fun K_ hK_ => ?_) AllReadyH.nil))
          · go_simp
            refine (steps_any f ⟨0, 0, 1, 0⟩ _ Hb2.out Hfok.out 255 (by simp) (by omega) Ar3 cr3 _ hRr3).mono ?_
            rintro e wr4 ⟨rfl, hBr4⟩
            go_wp2_with fail
            refine hK_.out _ _ (by exact ⟨HasC.cc (c := c) (block_below hBr4 (block_below hBr3 (block_below hBr2 (block_below hBr1 (block_below (below_drew1 _) hc6))))), HasC.cc (c := ⟨at_, ar_, 1, aq_⟩) (block_below hBr4 (block_below hBr3 (block_below hBr2 (block_below hBr1 (block_below (below_drew1 _) ha6)))))⟩) (fun hHeld_4_3 => ?_)
            clear hK_
            try simp only [Act.put, List.setIfInBounds_toArray, List.set_cons_zero, List.set_cons_succ]
            refine wpAnyH_ready (rs := [5]) (by kernel_rfl) (by simp) ?_
            refine (AllReadyH.cons rfl (fun K_ hK_ => ?_) AllReadyH.nil)
            go_simp
            have hblk5 : (wr4.alloc (.cells #[.int .i64 0, .int .i64 0, .int .i64 0, .int .i64 0] 23)).heap[wr4.heap.size]? = some (.cells #[.int .i64 0, .int .i64 0, .int .i64 0, .int .i64 0] 23) := World.alloc_heap_new _ _
            go_wp2_with fail
            refine hK_.out _ _ (by exact ⟨HasC.cc (c := c) (block_below (below_alloc1 _ _) (block_below hBr4 (block_below hBr3 (block_below hBr2 (block_below hBr1 (block_below (below_drew1 _) hc6)))))), HasC.cc (c := ⟨at_, ar_, 1, aq_⟩) (block_below (below_alloc1 _ _) (block_below hBr4 (block_below hBr3 (block_below hBr2 (block_below hBr1 (block_below (below_drew1 _) ha6))))))⟩) (fun hHeld_5_4 => ?_)
            clear hK_
            try simp only [Act.put, List.setIfInBounds_toArray, List.set_cons_zero, List.set_cons_succ]
            refine wpAnyH_ready (rs := [6]) (by kernel_rfl) (by simp) ?_
            refine (AllReadyH.cons rfl (fun K_ hK_ => ?_) AllReadyH.nil)
            go_simp
            go_wp2_with fail
            refine hK_.out _ _ (by exact ⟨HasC.cc (c := c) (block_below (below_alloc1 _ _) (block_below hBr4 (block_below hBr3 (block_below hBr2 (block_below hBr1 (block_below (below_drew1 _) hc6)))))), HasC.cc (c := ⟨at_, ar_, 1, aq_⟩) (block_below (below_alloc1 _ _) (block_below hBr4 (block_below hBr3 (block_below hBr2 (block_below hBr1 (block_below (below_drew1 _) ha6))))))⟩) (fun hHeld_6_5 => ?_)
            clear hK_
            try simp only [Act.put, List.setIfInBounds_toArray, List.set_cons_zero, List.set_cons_succ]
            refine wpAnyH_done (by kernel_rfl) ?_ _
            go_wp2_with fail
            go_meet
            exact ⟨wr4.heap.size, rfl, (below_then (below_then (below_then (below_then (below_drew1 _) hBr1) hBr2) hBr3) hBr4).size, World.alloc_heap_new _ _, (below_then (below_then (below_then (below_then (below_then (below_drew1 _) hBr1) hBr2) hBr3) hBr4) (below_alloc1 _ _))⟩
          · go_simp
            have hblk5 : (wr3.alloc (.cells #[.int .i64 0, .int .i64 0, .int .i64 0, .int .i64 0] 23)).heap[wr3.heap.size]? = some (.cells #[.int .i64 0, .int .i64 0, .int .i64 0, .int .i64 0] 23) := World.alloc_heap_new _ _
            go_wp2_with fail
            refine hK_.out _ _ (by exact ⟨HasC.cc (c := c) (block_below (below_alloc1 _ _) (block_below hBr3 (block_below hBr2 (block_below hBr1 (block_below (below_drew1 _) hc6))))), HasC.cc (c := ⟨at_, ar_, 1, aq_⟩) (block_below (below_alloc1 _ _) (block_below hBr3 (block_below hBr2 (block_below hBr1 (block_below (below_drew1 _) ha6)))))⟩) (fun hHeld_5_3 => ?_)
            clear hK_
            try simp only [Act.put, List.setIfInBounds_toArray, List.set_cons_zero, List.set_cons_succ]
            refine wpAnyH_ready (rs := [4]) (by kernel_rfl) (by simp) ?_
            refine (AllReadyH.cons rfl (fun K_ hK_ => ?_) AllReadyH.nil)
            go_simp
            refine (steps_any f ⟨0, 0, 1, 0⟩ _ Hb2.out Hfok.out 255 (by simp) (by omega) Ar3 cr3 _ (Row.to hRr3 (below_alloc1 _ _))).mono ?_
            rintro e wr4 ⟨rfl, hBr4⟩
            have hblk4 := block_below hBr4 hblk5
            go_wp2_with fail
            refine hK_.out _ _ (by exact ⟨HasC.cc (c := c) (block_below hBr4 (block_below (below_alloc1 _ _) (block_below hBr3 (block_below hBr2 (block_below hBr1 (block_below (below_drew1 _) hc6)))))), HasC.cc (c := ⟨at_, ar_, 1, aq_⟩) (block_below hBr4 (block_below (below_alloc1 _ _) (block_below hBr3 (block_below hBr2 (block_below hBr1 (block_below (below_drew1 _) ha6))))))⟩) (fun hHeld_4_4 => ?_)
            clear hK_
            try simp only [Act.put, List.setIfInBounds_toArray, List.set_cons_zero, List.set_cons_succ]
            refine wpAnyH_ready (rs := [6]) (by kernel_rfl) (by simp) ?_
            refine (AllReadyH.cons rfl (fun K_ hK_ => ?_) AllReadyH.nil)
            obtain ⟨⟨z0, z1, z2, z3⟩, y0, y1, y2, y3⟩ := cells4 hblk4
            go_simp
            go_wp2_with fail
            clear z0 z1 z2 z3 y0 y1 y2 y3
            refine hK_.out _ _ (by have hle_ := (below_then (below_then (below_then (below_drew1 _) hBr1) hBr2) hBr3).size; exact ⟨HasC.cc (c := c) (other_grownF (set4_grown _ _ _ _ _ _) (block_below hBr4 (block_below (below_alloc1 _ _) (block_below hBr3 (block_below hBr2 (block_below hBr1 (block_below (below_drew1 _) hc6)))))) (by omega)), HasC.cc (c := ⟨at_, ar_, 1, aq_⟩) (other_grownF (set4_grown _ _ _ _ _ _) (block_below hBr4 (block_below (below_alloc1 _ _) (block_below hBr3 (block_below hBr2 (block_below hBr1 (block_below (below_drew1 _) ha6)))))) (by omega))⟩) (fun hHeld_6_5 => ?_)
            clear hK_
            try simp only [Act.put, List.setIfInBounds_toArray, List.set_cons_zero, List.set_cons_succ]
            refine wpAnyH_done (by kernel_rfl) ?_ _
            go_wp2_with fail
            go_meet
            exact ⟨wr3.heap.size, rfl, (below_then (below_then (below_then (below_drew1 _) hBr1) hBr2) hBr3).size, set4_obj hblk4 _ _ _ _, below_set4 (below_then (below_then (below_then (below_then (below_then (below_drew1 _) hBr1) hBr2) hBr3) (below_alloc1 _ _)) hBr4) ((below_then (below_then (below_then (below_drew1 _) hBr1) hBr2) hBr3).size) _ _ _ _⟩
        · go_simp
          have hblk5 : (wr2.alloc (.cells #[.int .i64 0, .int .i64 0, .int .i64 0, .int .i64 0] 23)).heap[wr2.heap.size]? = some (.cells #[.int .i64 0, .int .i64 0, .int .i64 0, .int .i64 0] 23) := World.alloc_heap_new _ _
          go_wp2_with fail
          refine hK_.out _ _ (by exact ⟨HasC.cc (c := c) (block_below (below_alloc1 _ _) (block_below hBr2 (block_below hBr1 (block_below (below_drew1 _) hc6)))), HasC.cc (c := ⟨at_, ar_, 1, aq_⟩) (block_below (below_alloc1 _ _) (block_below hBr2 (block_below hBr1 (block_below (below_drew1 _) ha6))))⟩) (fun hHeld_5_2 => ?_)
          clear hK_
          try simp only [Act.put, List.setIfInBounds_toArray, List.set_cons_zero, List.set_cons_succ]
          refine wpAnyH_ready (rs := [3]) (by kernel_rfl) (by simp) ?_
          refine (AllReadyH.cons rfl (fun K_ hK_ => ?_) AllReadyH.nil)
          go_simp
          refine (times_any 2 255 (by omega) _).mono ?_
          rintro e wr3 ⟨Ar3, cr3, rfl, hRr3, hBr3⟩
          have hblk3 := block_below hBr3 hblk5
          go_wp2_with fail
          refine hK_.out _ _ (by exact ⟨HasC.cc (c := c) (block_below hBr3 (block_below (below_alloc1 _ _) (block_below hBr2 (block_below hBr1 (block_below (below_drew1 _) hc6))))), HasC.cc (c := ⟨at_, ar_, 1, aq_⟩) (block_below hBr3 (block_below (below_alloc1 _ _) (block_below hBr2 (block_below hBr1 (block_below (below_drew1 _) ha6)))))⟩) (fun hHeld_3_3 => ?_)
          clear hK_
          try simp only [Act.put, List.setIfInBounds_toArray, List.set_cons_zero, List.set_cons_succ]
          refine wpAnyH_ready (rs := [4]) (by kernel_rfl) (by simp) ?_
          refine (AllReadyH.cons rfl (fun K_ hK_ => ?_) AllReadyH.nil)
          go_simp
          refine (steps_any f ⟨0, 0, 1, 0⟩ _ Hb2.out Hfok.out 255 (by simp) (by omega) Ar3 cr3 _ hRr3).mono ?_
          rintro e wr4 ⟨rfl, hBr4⟩
          have hblk4 := block_below hBr4 hblk3
          go_wp2_with fail
          refine hK_.out _ _ (by exact ⟨HasC.cc (c := c) (block_below hBr4 (block_below hBr3 (block_below (below_alloc1 _ _) (block_below hBr2 (block_below hBr1 (block_below (below_drew1 _) hc6)))))), HasC.cc (c := ⟨at_, ar_, 1, aq_⟩) (block_below hBr4 (block_below hBr3 (block_below (below_alloc1 _ _) (block_below hBr2 (block_below hBr1 (block_below (below_drew1 _) ha6))))))⟩) (fun hHeld_4_4 => ?_)
          clear hK_
          try simp only [Act.put, List.setIfInBounds_toArray, List.set_cons_zero, List.set_cons_succ]
          refine wpAnyH_ready (rs := [6]) (by kernel_rfl) (by simp) ?_
          refine (AllReadyH.cons rfl (fun K_ hK_ => ?_) AllReadyH.nil)
          obtain ⟨⟨z0, z1, z2, z3⟩, y0, y1, y2, y3⟩ := cells4 hblk4
          go_simp
          go_wp2_with fail
          clear z0 z1 z2 z3 y0 y1 y2 y3
          refine hK_.out _ _ (by have hle_ := (below_then (below_then (below_drew1 _) hBr1) hBr2).size; exact ⟨HasC.cc (c := c) (other_grownF (set4_grown _ _ _ _ _ _) (block_below hBr4 (block_below hBr3 (block_below (below_alloc1 _ _) (block_below hBr2 (block_below hBr1 (block_below (below_drew1 _) hc6)))))) (by omega)), HasC.cc (c := ⟨at_, ar_, 1, aq_⟩) (other_grownF (set4_grown _ _ _ _ _ _) (block_below hBr4 (block_below hBr3 (block_below (below_alloc1 _ _) (block_below hBr2 (block_below hBr1 (block_below (below_drew1 _) ha6)))))) (by omega))⟩) (fun hHeld_6_5 => ?_)
          clear hK_
          try simp only [Act.put, List.setIfInBounds_toArray, List.set_cons_zero, List.set_cons_succ]
          refine wpAnyH_done (by kernel_rfl) ?_ _
          go_wp2_with fail
          go_meet
          exact ⟨wr2.heap.size, rfl, (below_then (below_then (below_drew1 _) hBr1) hBr2).size, set4_obj hblk4 _ _ _ _, below_set4 (below_then (below_then (below_then (below_then (below_then (below_drew1 _) hBr1) hBr2) (below_alloc1 _ _)) hBr3) hBr4) ((below_then (below_then (below_drew1 _) hBr1) hBr2).size) _ _ _ _⟩
      · go_simp
        have hblk5 : (wr1.alloc (.cells #[.int .i64 0, .int .i64 0, .int .i64 0, .int .i64 0] 23)).heap[wr1.heap.size]? = some (.cells #[.int .i64 0, .int .i64 0, .int .i64 0, .int .i64 0] 23) := World.alloc_heap_new _ _
        go_wp2_with fail
        refine hK_.out _ _ (by exact ⟨HasC.cc (c := c) (block_below (below_alloc1 _ _) (block_below hBr1 (block_below (below_drew1 _) hc6))), HasC.cc (c := ⟨at_, ar_, 1, aq_⟩) (block_below (below_alloc1 _ _) (block_below hBr1 (block_below (below_drew1 _) ha6)))⟩) (fun hHeld_5_1 => ?_)
        clear hK_
        try simp only [Act.put, List.setIfInBounds_toArray, List.set_cons_zero, List.set_cons_succ]
        refine wpAnyH_ready (rs := [2]) (by kernel_rfl) (by simp) ?_
        refine (AllReadyH.cons rfl (fun K_ hK_ => ?_) AllReadyH.nil)
        go_simp
        refine (steps_any c f _ Hf.out Hok.out 255 (by simp) (by omega) Ar1 cr1 _ (Row.to hRr1 (below_alloc1 _ _))).mono ?_
        rintro e wr2 ⟨rfl, hBr2⟩
        have hblk2 := block_below hBr2 hblk5
        go_wp2_with fail
        refine hK_.out _ _ (by exact ⟨HasC.cc (c := c) (block_below hBr2 (block_below (below_alloc1 _ _) (block_below hBr1 (block_below (below_drew1 _) hc6)))), HasC.cc (c := ⟨at_, ar_, 1, aq_⟩) (block_below hBr2 (block_below (below_alloc1 _ _) (block_below hBr1 (block_below (below_drew1 _) ha6))))⟩) (fun hHeld_2_2 => ?_)
        clear hK_
        try simp only [Act.put, List.setIfInBounds_toArray, List.set_cons_zero, List.set_cons_succ]
        refine wpAnyH_ready (rs := [3]) (by kernel_rfl) (by simp) ?_
        refine (AllReadyH.cons rfl (fun K_ hK_ => ?_) AllReadyH.nil)
        go_simp
        refine (times_any 2 255 (by omega) _).mono ?_
        rintro e wr3 ⟨Ar3, cr3, rfl, hRr3, hBr3⟩
        have hblk3 := block_below hBr3 hblk2
        go_wp2_with fail
        refine hK_.out _ _ (by exact ⟨HasC.cc (c := c) (block_below hBr3 (block_below hBr2 (block_below (below_alloc1 _ _) (block_below hBr1 (block_below (below_drew1 _) hc6))))), HasC.cc (c := ⟨at_, ar_, 1, aq_⟩) (block_below hBr3 (block_below hBr2 (block_below (below_alloc1 _ _) (block_below hBr1 (block_below (below_drew1 _) ha6)))))⟩) (fun hHeld_3_3 => ?_)
        clear hK_
        try simp only [Act.put, List.setIfInBounds_toArray, List.set_cons_zero, List.set_cons_succ]
        refine wpAnyH_ready (rs := [4]) (by kernel_rfl) (by simp) ?_
        refine (AllReadyH.cons rfl (fun K_ hK_ => ?_) AllReadyH.nil)
        go_simp
        refine (steps_any f ⟨0, 0, 1, 0⟩ _ Hb2.out Hfok.out 255 (by simp) (by omega) Ar3 cr3 _ hRr3).mono ?_
        rintro e wr4 ⟨rfl, hBr4⟩
        have hblk4 := block_below hBr4 hblk3
        go_wp2_with fail
        refine hK_.out _ _ (by exact ⟨HasC.cc (c := c) (block_below hBr4 (block_below hBr3 (block_below hBr2 (block_below (below_alloc1 _ _) (block_below hBr1 (block_below (below_drew1 _) hc6)))))), HasC.cc (c := ⟨at_, ar_, 1, aq_⟩) (block_below hBr4 (block_below hBr3 (block_below hBr2 (block_below (below_alloc1 _ _) (block_below hBr1 (block_below (below_drew1 _) ha6))))))⟩) (fun hHeld_4_4 => ?_)
        clear hK_
        try simp only [Act.put, List.setIfInBounds_toArray, List.set_cons_zero, List.set_cons_succ]
        refine wpAnyH_ready (rs := [6]) (by kernel_rfl) (by simp) ?_
        refine (AllReadyH.cons rfl (fun K_ hK_ => ?_) AllReadyH.nil)
        obtain ⟨⟨z0, z1, z2, z3⟩, y0, y1, y2, y3⟩ := cells4 hblk4
        go_simp
        go_wp2_with fail
        clear z0 z1 z2 z3 y0 y1 y2 y3
        refine hK_.out _ _ (by have hle_ := (below_then (below_drew1 _) hBr1).size; exact ⟨HasC.cc (c := c) (other_grownF (set4_grown _ _ _ _ _ _) (block_below hBr4 (block_below hBr3 (block_below hBr2 (block_below (below_alloc1 _ _) (block_below hBr1 (block_below (below_drew1 _) hc6)))))) (by omega)), HasC.cc (c := ⟨at_, ar_, 1, aq_⟩) (other_grownF (set4_grown _ _ _ _ _ _) (block_below hBr4 (block_below hBr3 (block_below hBr2 (block_below (below_alloc1 _ _) (block_below hBr1 (block_below (below_drew1 _) ha6)))))) (by omega))⟩) (fun hHeld_6_5 => ?_)
        clear hK_
        try simp only [Act.put, List.setIfInBounds_toArray, List.set_cons_zero, List.set_cons_succ]
        refine wpAnyH_done (by kernel_rfl) ?_ _
        go_wp2_with fail
        go_meet
        exact ⟨wr1.heap.size, rfl, (below_then (below_drew1 _) hBr1).size, set4_obj hblk4 _ _ _ _, below_set4 (below_then (below_then (below_then (below_then (below_then (below_drew1 _) hBr1) (below_alloc1 _ _)) hBr2) hBr3) hBr4) ((below_then (below_drew1 _) hBr1).size) _ _ _ _⟩
    · go_simp
      have hblk5 : (w6.alloc (.cells #[.int .i64 0, .int .i64 0, .int .i64 0, .int .i64 0] 23)).drew.heap[w6.heap.size]? = some (.cells #[.int .i64 0, .int .i64 0, .int .i64 0, .int .i64 0] 23) := World.alloc_heap_new w6 _
      go_wp2_with fail
      refine hK_.out _ _ (by exact ⟨HasC.cc (c := c) (block_below (below_drew1 _) (block_below (below_alloc1 _ _) hc6)), HasC.cc (c := ⟨at_, ar_, 1, aq_⟩) (block_below (below_drew1 _) (block_below (below_alloc1 _ _) ha6))⟩) (fun hHeld_5_0 => ?_)
      clear hK_
      try simp only [Act.put, List.setIfInBounds_toArray, List.set_cons_zero, List.set_cons_succ]
      refine wpAnyH_ready (rs := [1]) (by kernel_rfl) (by simp) ?_
      refine (AllReadyH.cons rfl (fun K_ hK_ => ?_) AllReadyH.nil)
      go_simp
      refine (times_any 1 255 (by omega) _).mono ?_
      rintro e wr1 ⟨Ar1, cr1, rfl, hRr1, hBr1⟩
      have hblk1 := block_below hBr1 hblk5
      go_wp2_with fail
      refine hK_.out _ _ (by exact ⟨HasC.cc (c := c) (block_below hBr1 (block_below (below_drew1 _) (block_below (below_alloc1 _ _) hc6))), HasC.cc (c := ⟨at_, ar_, 1, aq_⟩) (block_below hBr1 (block_below (below_drew1 _) (block_below (below_alloc1 _ _) ha6)))⟩) (fun hHeld_1_1 => ?_)
      clear hK_
      try simp only [Act.put, List.setIfInBounds_toArray, List.set_cons_zero, List.set_cons_succ]
      refine wpAnyH_ready (rs := [2]) (by kernel_rfl) (by simp) ?_
      refine (AllReadyH.cons rfl (fun K_ hK_ => ?_) AllReadyH.nil)
      go_simp
      refine (steps_any c f _ Hf.out Hok.out 255 (by simp) (by omega) Ar1 cr1 _ hRr1).mono ?_
      rintro e wr2 ⟨rfl, hBr2⟩
      have hblk2 := block_below hBr2 hblk1
      go_wp2_with fail
      refine hK_.out _ _ (by exact ⟨HasC.cc (c := c) (block_below hBr2 (block_below hBr1 (block_below (below_drew1 _) (block_below (below_alloc1 _ _) hc6)))), HasC.cc (c := ⟨at_, ar_, 1, aq_⟩) (block_below hBr2 (block_below hBr1 (block_below (below_drew1 _) (block_below (below_alloc1 _ _) ha6))))⟩) (fun hHeld_2_2 => ?_)
      clear hK_
      try simp only [Act.put, List.setIfInBounds_toArray, List.set_cons_zero, List.set_cons_succ]
      refine wpAnyH_ready (rs := [3]) (by kernel_rfl) (by simp) ?_
      refine (AllReadyH.cons rfl (fun K_ hK_ => ?_) AllReadyH.nil)
      go_simp
      refine (times_any 2 255 (by omega) _).mono ?_
      rintro e wr3 ⟨Ar3, cr3, rfl, hRr3, hBr3⟩
      have hblk3 := block_below hBr3 hblk2
      go_wp2_with fail
      refine hK_.out _ _ (by exact ⟨HasC.cc (c := c) (block_below hBr3 (block_below hBr2 (block_below hBr1 (block_below (below_drew1 _) (block_below (below_alloc1 _ _) hc6))))), HasC.cc (c := ⟨at_, ar_, 1, aq_⟩) (block_below hBr3 (block_below hBr2 (block_below hBr1 (block_below (below_drew1 _) (block_below (below_alloc1 _ _) ha6)))))⟩) (fun hHeld_3_3 => ?_)
      clear hK_
      try simp only [Act.put, List.setIfInBounds_toArray, List.set_cons_zero, List.set_cons_succ]
      refine wpAnyH_ready (rs := [4]) (by kernel_rfl) (by simp) ?_
      refine (AllReadyH.cons rfl (fun K_ hK_ => ?_) AllReadyH.nil)
      go_simp
      refine (steps_any f ⟨0, 0, 1, 0⟩ _ Hb2.out Hfok.out 255 (by simp) (by omega) Ar3 cr3 _ hRr3).mono ?_
      rintro e wr4 ⟨rfl, hBr4⟩
      have hblk4 := block_below hBr4 hblk3
      go_wp2_with fail
      refine hK_.out _ _ (by exact ⟨HasC.cc (c := c) (block_below hBr4 (block_below hBr3 (block_below hBr2 (block_below hBr1 (block_below (below_drew1 _) (block_below (below_alloc1 _ _) hc6)))))), HasC.cc (c := ⟨at_, ar_, 1, aq_⟩) (block_below hBr4 (block_below hBr3 (block_below hBr2 (block_below hBr1 (block_below (below_drew1 _) (block_below (below_alloc1 _ _) ha6))))))⟩) (fun hHeld_4_4 => ?_)
      clear hK_
      try simp only [Act.put, List.setIfInBounds_toArray, List.set_cons_zero, List.set_cons_succ]
      refine wpAnyH_ready (rs := [6]) (by kernel_rfl) (by simp) ?_
      refine (AllReadyH.cons rfl (fun K_ hK_ => ?_) AllReadyH.nil)
      obtain ⟨⟨z0, z1, z2, z3⟩, y0, y1, y2, y3⟩ := cells4 hblk4
      go_simp
      go_wp2_with fail
      clear z0 z1 z2 z3 y0 y1 y2 y3
      refine hK_.out _ _ (by exact ⟨HasC.cc (c := c) (other_grownF (set4_grown _ _ _ _ _ _) (block_below hBr4 (block_below hBr3 (block_below hBr2 (block_below hBr1 (block_below (below_drew1 _) (block_below (below_alloc1 _ _) hc6)))))) (by omega)), HasC.cc (c := ⟨at_, ar_, 1, aq_⟩) (other_grownF (set4_grown _ _ _ _ _ _) (block_below hBr4 (block_below hBr3 (block_below hBr2 (block_below hBr1 (block_below (below_drew1 _) (block_below (below_alloc1 _ _) ha6)))))) (by omega))⟩) (fun hHeld_6_5 => ?_)
      clear hK_
      try simp only [Act.put, List.setIfInBounds_toArray, List.set_cons_zero, List.set_cons_succ]
      refine wpAnyH_done (by kernel_rfl) ?_ _
      go_wp2_with fail
      go_meet
      exact ⟨w6.heap.size, rfl, Nat.le_refl _, set4_obj hblk4 _ _ _ _, below_set4 (below_then (below_then (below_then (below_then (below_then (below_alloc1 _ _) (below_drew1 _)) hBr1) hBr2) hBr3) hBr4) (Nat.le_refl _) _ _ _ _⟩
  case rest =>
  obtain ⟨Xb, rfl, hXb, hb7, hB7⟩ := hcut
  obtain ⟨w7, e_⟩ : ∃ w_, w_ = wc := ⟨_, rfl⟩
  subst e_
  clear hltc hlta
  have hT7 := below_then hT6 hB7
  have hc7 := block_below hB7 hc6
  have ha7 := block_below hB7 ha6
  clear hT6 hc6 ha6  hB7
  rcases Nat.eq_zero_or_pos N with h0 | h0
  · skip
    subst h0
    obtain ⟨cc0, cc1, cc2, cc3⟩ := HasC.cc (c := c) hc7
    obtain ⟨ac0, ac1, ac2, ac3⟩ := HasC.cc (c := ⟨at_, ar_, 1, aq_⟩) ha7
    dsimp only at ac0 ac1 ac2 ac3
    obtain ⟨bc0, bc1, bc2, bc3⟩ := HasC.cc (c := ⟨0, 0, 1, 0⟩) hb7
    dsimp only at bc0 bc1 bc2 bc3
    go_wp2_with fail
    clear cc0 cc1 cc2 cc3 ac0 ac1 ac2 ac3 bc0 bc1 bc2 bc3
    refine wp_region_held_drew (S := fun W => (W.cell? ⟨w.heap.size, 0, none⟩ = some (.int .i64 c.t) ∧ W.cell? ⟨w.heap.size, 1, none⟩ = some (.int .i64 c.r) ∧ W.cell? ⟨w.heap.size, 2, none⟩ = some (.int .i64 c.s) ∧ W.cell? ⟨w.heap.size, 3, none⟩ = some (.int .i64 c.q)) ∧ (W.cell? ⟨w5.heap.size, 0, none⟩ = some (.int .i64 at_) ∧ W.cell? ⟨w5.heap.size, 1, none⟩ = some (.int .i64 ar_) ∧ W.cell? ⟨w5.heap.size, 2, none⟩ = some (.int .i64 1) ∧ W.cell? ⟨w5.heap.size, 3, none⟩ = some (.int .i64 aq_)) ∧ (W.cell? ⟨Xb, 0, none⟩ = some (.int .i64 0) ∧ W.cell? ⟨Xb, 1, none⟩ = some (.int .i64 0) ∧ W.cell? ⟨Xb, 2, none⟩ = some (.int .i64 1) ∧ W.cell? ⟨Xb, 3, none⟩ = some (.int .i64 0))) (by kernel_rfl) (by exact ⟨HasC.cc (c := c) (block_below (below_drew1 _) hc7), HasC.cc (c := ⟨at_, ar_, 1, aq_⟩) (block_below (below_drew1 _) ha7), HasC.cc (c := ⟨0, 0, 1, 0⟩) (block_below (below_drew1 _) hb7)⟩) (fun hHeld_ => ?_)
    refine wpAnyH_take' (i := 0) (v := ?v0_t7) 31 rfl rfl (by kernel_rfl) (by kernel_rfl) (by kernel_rfl) (fun _ _ _ h => h) (Or.inl ⟨by kernel_rfl, ?hy0_t7⟩) (by assumption) ?rest0_t7
    case hy0_t7 => (intro W_ hS_; (try dsimp only at hS_); go_simp; (try (with_reducible rfl)))
    try simp only [Act.put, List.setIfInBounds_toArray, List.set_cons_zero, List.set_cons_succ]
    refine wpAnyH_take' (i := 1) (v := ?v1_t7) 32 rfl rfl (by kernel_rfl) (by kernel_rfl) (by kernel_rfl) (fun _ _ _ h => h) (Or.inl ⟨by kernel_rfl, ?hy1_t7⟩) (by assumption) ?rest1_t7
    case hy1_t7 => (intro W_ hS_; (try dsimp only at hS_); go_simp; (try (with_reducible rfl)))
    try simp only [Act.put, List.setIfInBounds_toArray, List.set_cons_zero, List.set_cons_succ]
    refine wpAnyH_take' (i := 2) (v := ?v2_t7) 33 rfl rfl (by kernel_rfl) (by kernel_rfl) (by kernel_rfl) (fun _ _ _ h => h) (Or.inl ⟨by kernel_rfl, ?hy2_t7⟩) (by assumption) ?rest2_t7
    case hy2_t7 => (intro W_ hS_; (try dsimp only at hS_); go_simp; (try (with_reducible rfl)))
    try simp only [Act.put, List.setIfInBounds_toArray, List.set_cons_zero, List.set_cons_succ]
    refine wpAnyH_take' (i := 3) (v := ?v3_t7) 34 rfl rfl (by kernel_rfl) (by kernel_rfl) (by kernel_rfl) (fun _ _ _ h => h) (Or.inl ⟨by kernel_rfl, ?hy3_t7⟩) (by assumption) ?rest3_t7
    case hy3_t7 => (intro W_ hS_; (try dsimp only at hS_); go_simp; (try (with_reducible rfl)))
    try simp only [Act.put, List.setIfInBounds_toArray, List.set_cons_zero, List.set_cons_succ]
    refine wpAnyH_take' (i := 4) (v := ?v4_t7) 35 rfl rfl (by kernel_rfl) (by kernel_rfl) (by kernel_rfl) (fun _ _ _ h => h) (Or.inl ⟨by kernel_rfl, ?hy4_t7⟩) (by assumption) ?rest4_t7
    case hy4_t7 => (intro W_ hS_; (try dsimp only at hS_); go_simp; (try (with_reducible rfl)))
    try simp only [Act.put, List.setIfInBounds_toArray, List.set_cons_zero, List.set_cons_succ]
    refine wpAnyH_take' (i := 5) (v := ?v5_t7) 36 rfl rfl (by kernel_rfl) (by kernel_rfl) (by kernel_rfl) (fun _ _ _ h => h) (Or.inl ⟨by kernel_rfl, ?hy5_t7⟩) (by assumption) ?rest5_t7
    case hy5_t7 => (intro W_ hS_; (try dsimp only at hS_); go_simp; (try (with_reducible rfl)))
    try simp only [Act.put, List.setIfInBounds_toArray, List.set_cons_zero, List.set_cons_succ]
    refine wpAnyH_take' (i := 6) (v := ?v6_t7) 37 rfl rfl (by kernel_rfl) (by kernel_rfl) (by kernel_rfl) (fun _ _ _ h => h) (Or.inl ⟨by kernel_rfl, ?hy6_t7⟩) (by assumption) ?rest6_t7
    case hy6_t7 => (intro W_ hS_; (try dsimp only at hS_); go_simp; (try (with_reducible rfl)))
    try simp only [Act.put, List.setIfInBounds_toArray, List.set_cons_zero, List.set_cons_succ]
    refine wpAnyH_take' (i := 7) (v := ?v7_t7) 38 rfl rfl (by kernel_rfl) (by kernel_rfl) (by kernel_rfl) (fun _ _ _ h => h) (Or.inl ⟨by kernel_rfl, ?hy7_t7⟩) (by assumption) ?rest7_t7
    case hy7_t7 => (intro W_ hS_; (try dsimp only at hS_); go_simp; (try (with_reducible rfl)))
    try simp only [Act.put, List.setIfInBounds_toArray, List.set_cons_zero, List.set_cons_succ]
    refine wpAnyH_ready (rs := [8]) (by kernel_rfl) (by simp) ?_
    refine AllReadyH.cons rfl (fun K_ hK_ => ?_) AllReadyH.nil
    go_simp
    refine (new_any _).mono ?_; rintro e wr8 ⟨rfl, hBr8⟩
    go_wp2_with fail
    refine hK_.out _ _ (by exact ⟨HasC.cc (c := c) (block_below hBr8 (block_below (below_drew1 _) hc7)), HasC.cc (c := ⟨at_, ar_, 1, aq_⟩) (block_below hBr8 (block_below (below_drew1 _) ha7)), HasC.cc (c := ⟨0, 0, 1, 0⟩) (block_below hBr8 (block_below (below_drew1 _) hb7))⟩) (fun hHeld_8 => ?_)
    clear hK_
    try simp only [Act.put, List.setIfInBounds_toArray, List.set_cons_zero, List.set_cons_succ]
    refine wpAnyH_take' (i := 9) (v := ?v9_t7) 40 rfl rfl (by kernel_rfl) (by kernel_rfl) (by kernel_rfl) (fun _ _ _ h => h) (Or.inl ⟨by kernel_rfl, ?hy9_t7⟩) (by assumption) ?rest9_t7
    case hy9_t7 => (intro W_ hS_; (try dsimp only at hS_); go_simp; (try (with_reducible rfl)))
    try simp only [Act.put, List.setIfInBounds_toArray, List.set_cons_zero, List.set_cons_succ]
    refine wpAnyH_take' (i := 10) (v := ?v10_t7) 41 rfl rfl (by kernel_rfl) (by kernel_rfl) (by kernel_rfl) (fun _ _ _ h => h) (Or.inl ⟨by kernel_rfl, ?hy10_t7⟩) (by assumption) ?rest10_t7
    case hy10_t7 => (intro W_ hS_; (try dsimp only at hS_); go_simp; (try (with_reducible rfl)))
    try simp only [Act.put, List.setIfInBounds_toArray, List.set_cons_zero, List.set_cons_succ]
    refine wpAnyH_take' (i := 11) (v := ?v11_t7) 42 rfl rfl (by kernel_rfl) (by kernel_rfl) (by kernel_rfl) (fun _ _ _ h => h) (Or.inl ⟨by kernel_rfl, ?hy11_t7⟩) (by assumption) ?rest11_t7
    case hy11_t7 => (intro W_ hS_; (try dsimp only at hS_); go_simp; (try (with_reducible rfl)))
    try simp only [Act.put, List.setIfInBounds_toArray, List.set_cons_zero, List.set_cons_succ]
    refine wpAnyH_take' (i := 12) (v := ?v12_t7) 43 rfl rfl (by kernel_rfl) (by kernel_rfl) (by kernel_rfl) (fun _ _ _ h => h) (Or.inl ⟨by kernel_rfl, ?hy12_t7⟩) (by assumption) ?rest12_t7
    case hy12_t7 => (intro W_ hS_; (try dsimp only at hS_); go_simp; (try (with_reducible rfl)))
    try simp only [Act.put, List.setIfInBounds_toArray, List.set_cons_zero, List.set_cons_succ]
    refine wpAnyH_take' (i := 13) (v := ?v13_t7) 44 rfl rfl (by kernel_rfl) (by kernel_rfl) (by kernel_rfl) (fun _ _ _ h => h) (Or.inl ⟨by kernel_rfl, ?hy13_t7⟩) (by assumption) ?rest13_t7
    case hy13_t7 => (intro W_ hS_; (try dsimp only at hS_); go_simp; (try (with_reducible rfl)))
    try simp only [Act.put, List.setIfInBounds_toArray, List.set_cons_zero, List.set_cons_succ]
    refine wpAnyH_take' (i := 14) (v := ?v14_t7) 45 rfl rfl (by kernel_rfl) (by kernel_rfl) (by kernel_rfl) (fun _ _ _ h => h) (Or.inl ⟨by kernel_rfl, ?hy14_t7⟩) (by assumption) ?rest14_t7
    case hy14_t7 => (intro W_ hS_; (try dsimp only at hS_); go_simp; (try (with_reducible rfl)))
    try simp only [Act.put, List.setIfInBounds_toArray, List.set_cons_zero, List.set_cons_succ]
    refine wpAnyH_take' (i := 15) (v := undef) 46 rfl rfl (by kernel_rfl) (by kernel_rfl) (by kernel_rfl) (fun _ _ _ h => h) (Or.inr ⟨by kernel_rfl, rfl⟩) (by assumption) ?_
    try simp only [Act.put, List.setIfInBounds_toArray, List.set_cons_zero, List.set_cons_succ]
    refine wpAnyH_take' (i := 17) (v := undef) 48 rfl rfl (by kernel_rfl) (by kernel_rfl) (by kernel_rfl) (fun _ _ _ h => h) (Or.inr ⟨by kernel_rfl, rfl⟩) (by assumption) ?_
    try simp only [Act.put, List.setIfInBounds_toArray, List.set_cons_zero, List.set_cons_succ]
    refine wpAnyH_take' (i := 18) (v := undef) 49 rfl rfl (by kernel_rfl) (by kernel_rfl) (by kernel_rfl) (fun _ _ _ h => h) (Or.inr ⟨by kernel_rfl, rfl⟩) (by assumption) ?_
    try simp only [Act.put, List.setIfInBounds_toArray, List.set_cons_zero, List.set_cons_succ]
    refine wpAnyH_skip (i := 16) 47 rfl rfl (by kernel_rfl) (by kernel_rfl) (by assumption) ?_
    try simp only [Act.put, List.setIfInBounds_toArray, List.set_cons_zero, List.set_cons_succ]
    refine wpAnyH_skip (i := 19) 50 rfl rfl (by kernel_rfl) (by kernel_rfl) (by assumption) ?_
    try simp only [Act.put, List.setIfInBounds_toArray, List.set_cons_zero, List.set_cons_succ]
    refine wpAnyH_skip (i := 20) 51 rfl rfl (by kernel_rfl) (by kernel_rfl) (by assumption) ?_
    try simp only [Act.put, List.setIfInBounds_toArray, List.set_cons_zero, List.set_cons_succ]
    refine wpAnyH_take' (i := 21) (v := undef) 52 rfl rfl (by kernel_rfl) (by kernel_rfl) (by kernel_rfl) (fun _ _ _ h => h) (Or.inr ⟨by kernel_rfl, rfl⟩) (by assumption) ?_
    try simp only [Act.put, List.setIfInBounds_toArray, List.set_cons_zero, List.set_cons_succ]
    refine wpAnyH_take' (i := 22) (v := undef) 53 rfl rfl (by kernel_rfl) (by kernel_rfl) (by kernel_rfl) (fun _ _ _ h => h) (Or.inr ⟨by kernel_rfl, rfl⟩) (by assumption) ?_
    try simp only [Act.put, List.setIfInBounds_toArray, List.set_cons_zero, List.set_cons_succ]
    refine wpAnyH_take' (i := 23) (v := ?v23_t7) 54 rfl rfl (by kernel_rfl) (by kernel_rfl) (by kernel_rfl) (fun _ _ _ h => h) (Or.inl ⟨by kernel_rfl, ?hy23_t7⟩) (by assumption) ?rest23_t7
    case hy23_t7 => (intro W_ hS_; (try dsimp only at hS_); go_simp; (try (with_reducible rfl)))
    try simp only [Act.put, List.setIfInBounds_toArray, List.set_cons_zero, List.set_cons_succ]
    refine wpAnyH_take' (i := 24) (v := ?v24_t7) 55 rfl rfl (by kernel_rfl) (by kernel_rfl) (by kernel_rfl) (fun _ _ _ h => h) (Or.inl ⟨by kernel_rfl, ?hy24_t7⟩) (by assumption) ?rest24_t7
    case hy24_t7 => (intro W_ hS_; (try dsimp only at hS_); go_simp; (try (with_reducible rfl)))
    try simp only [Act.put, List.setIfInBounds_toArray, List.set_cons_zero, List.set_cons_succ]
    refine wpAnyH_take' (i := 25) (v := ?v25_t7) 2 rfl rfl (by kernel_rfl) (by kernel_rfl) (by kernel_rfl) (fun _ _ _ h => h) (Or.inl ⟨by kernel_rfl, ?hy25_t7⟩) (by assumption) ?rest25_t7
    case hy25_t7 => (intro W_ hS_; (try dsimp only at hS_); go_simp; (try (with_reducible rfl)))
    try simp only [Act.put, List.setIfInBounds_toArray, List.set_cons_zero, List.set_cons_succ]
    refine wpAnyH_done (by kernel_rfl) ?_ _
    go_wp2_with fail
    go_ret
    exact ⟨rfl, below_then hT7 (below_then (below_drew1 _) hBr8)⟩
  obtain ⟨M, hM⟩ : ∃ M, N = M + 1 := ⟨N - 1, by omega⟩
  have h1 : ((N : Int) == 0) = false := by simp; omega
  have h2 : wrap64 ((N : Int) - 1) = (M : Int) := by unfold wrap64; omega
  have h6 : IntKind.i64.wrap ((N : Int) - 1) = (M : Int) := by rw [IntKind.wrap_i64]; omega
  have h3 : ¬ ((N : Int) = 0) := by omega
  have h4 : (N == 0) = false := by simp; omega
  have h5 : ¬ N = 0 := by omega
  have hM2 : M ≤ 128 := by omega
  have HM := Lib.hid hM
  clear h0 hM
  obtain ⟨e2, he2⟩ : ∃ q : CV, stepsV d (List.replicate M 1) = q := ⟨_, rfl⟩
  have He2 := Lib.hid he2
  clear he2
  have hes : e2.s = 2 := by rw [← He2.out, ← Hd.out]; exact Hc1.out M HM.out
  obtain ⟨et_, er_, es_, eq_⟩ := e2
  dsimp only at hes
  subst hes
  have hfl : ∀ W, (Instr.field 23 (CV.v ⟨et_, er_, 2, eq_⟩) 2).run Try.prog W = .ok (.int .i64 2) W := fun W => rfl
  obtain ⟨cc0, cc1, cc2, cc3⟩ := HasC.cc (c := c) hc7
  obtain ⟨ac0, ac1, ac2, ac3⟩ := HasC.cc (c := ⟨at_, ar_, 1, aq_⟩) ha7
  dsimp only at ac0 ac1 ac2 ac3
  obtain ⟨bc0, bc1, bc2, bc3⟩ := HasC.cc (c := ⟨0, 0, 1, 0⟩) hb7
  dsimp only at bc0 bc1 bc2 bc3
  go_wp2_with fail
  clear cc0 cc1 cc2 cc3 ac0 ac1 ac2 ac3 bc0 bc1 bc2 bc3
  refine wp_region_held_drew (S := fun W => (W.cell? ⟨w.heap.size, 0, none⟩ = some (.int .i64 c.t) ∧ W.cell? ⟨w.heap.size, 1, none⟩ = some (.int .i64 c.r) ∧ W.cell? ⟨w.heap.size, 2, none⟩ = some (.int .i64 c.s) ∧ W.cell? ⟨w.heap.size, 3, none⟩ = some (.int .i64 c.q)) ∧ (W.cell? ⟨w5.heap.size, 0, none⟩ = some (.int .i64 at_) ∧ W.cell? ⟨w5.heap.size, 1, none⟩ = some (.int .i64 ar_) ∧ W.cell? ⟨w5.heap.size, 2, none⟩ = some (.int .i64 1) ∧ W.cell? ⟨w5.heap.size, 3, none⟩ = some (.int .i64 aq_)) ∧ (W.cell? ⟨Xb, 0, none⟩ = some (.int .i64 0) ∧ W.cell? ⟨Xb, 1, none⟩ = some (.int .i64 0) ∧ W.cell? ⟨Xb, 2, none⟩ = some (.int .i64 1) ∧ W.cell? ⟨Xb, 3, none⟩ = some (.int .i64 0))) (by kernel_rfl) (by exact ⟨HasC.cc (c := c) (block_below (below_drew1 _) hc7), HasC.cc (c := ⟨at_, ar_, 1, aq_⟩) (block_below (below_drew1 _) ha7), HasC.cc (c := ⟨0, 0, 1, 0⟩) (block_below (below_drew1 _) hb7)⟩) (fun hHeld_ => ?_)
  refine wpAnyH_take' (i := 0) (v := ?v0_t8) 31 rfl rfl (by kernel_rfl) (by kernel_rfl) (by kernel_rfl) (fun _ _ _ h => h) (Or.inl ⟨by kernel_rfl, ?hy0_t8⟩) (by assumption) ?rest0_t8
  case hy0_t8 => (intro W_ hS_; (try dsimp only at hS_); go_simp; (try (with_reducible rfl)))
  try simp only [Act.put, List.setIfInBounds_toArray, List.set_cons_zero, List.set_cons_succ]
  refine wpAnyH_take' (i := 1) (v := ?v1_t8) 32 rfl rfl (by kernel_rfl) (by kernel_rfl) (by kernel_rfl) (fun _ _ _ h => h) (Or.inl ⟨by kernel_rfl, ?hy1_t8⟩) (by assumption) ?rest1_t8
  case hy1_t8 => (intro W_ hS_; (try dsimp only at hS_); go_simp; (try (with_reducible rfl)))
  try simp only [Act.put, List.setIfInBounds_toArray, List.set_cons_zero, List.set_cons_succ]
  refine wpAnyH_take' (i := 2) (v := ?v2_t8) 33 rfl rfl (by kernel_rfl) (by kernel_rfl) (by kernel_rfl) (fun _ _ _ h => h) (Or.inl ⟨by kernel_rfl, ?hy2_t8⟩) (by assumption) ?rest2_t8
  case hy2_t8 => (intro W_ hS_; (try dsimp only at hS_); go_simp; (try (with_reducible rfl)))
  try simp only [Act.put, List.setIfInBounds_toArray, List.set_cons_zero, List.set_cons_succ]
  refine wpAnyH_take' (i := 3) (v := ?v3_t8) 34 rfl rfl (by kernel_rfl) (by kernel_rfl) (by kernel_rfl) (fun _ _ _ h => h) (Or.inl ⟨by kernel_rfl, ?hy3_t8⟩) (by assumption) ?rest3_t8
  case hy3_t8 => (intro W_ hS_; (try dsimp only at hS_); go_simp; (try (with_reducible rfl)))
  try simp only [Act.put, List.setIfInBounds_toArray, List.set_cons_zero, List.set_cons_succ]
  refine wpAnyH_take' (i := 4) (v := ?v4_t8) 35 rfl rfl (by kernel_rfl) (by kernel_rfl) (by kernel_rfl) (fun _ _ _ h => h) (Or.inl ⟨by kernel_rfl, ?hy4_t8⟩) (by assumption) ?rest4_t8
  case hy4_t8 => (intro W_ hS_; (try dsimp only at hS_); go_simp; (try (with_reducible rfl)))
  try simp only [Act.put, List.setIfInBounds_toArray, List.set_cons_zero, List.set_cons_succ]
  refine wpAnyH_take' (i := 5) (v := ?v5_t8) 36 rfl rfl (by kernel_rfl) (by kernel_rfl) (by kernel_rfl) (fun _ _ _ h => h) (Or.inl ⟨by kernel_rfl, ?hy5_t8⟩) (by assumption) ?rest5_t8
  case hy5_t8 => (intro W_ hS_; (try dsimp only at hS_); go_simp; (try (with_reducible rfl)))
  try simp only [Act.put, List.setIfInBounds_toArray, List.set_cons_zero, List.set_cons_succ]
  refine wpAnyH_take' (i := 6) (v := ?v6_t8) 37 rfl rfl (by kernel_rfl) (by kernel_rfl) (by kernel_rfl) (fun _ _ _ h => h) (Or.inl ⟨by kernel_rfl, ?hy6_t8⟩) (by assumption) ?rest6_t8
  case hy6_t8 => (intro W_ hS_; (try dsimp only at hS_); go_simp; (try (with_reducible rfl)))
  try simp only [Act.put, List.setIfInBounds_toArray, List.set_cons_zero, List.set_cons_succ]
  refine wpAnyH_take' (i := 7) (v := ?v7_t8) 38 rfl rfl (by kernel_rfl) (by kernel_rfl) (by kernel_rfl) (fun _ _ _ h => h) (Or.inl ⟨by kernel_rfl, ?hy7_t8⟩) (by assumption) ?rest7_t8
  case hy7_t8 => (intro W_ hS_; (try dsimp only at hS_); go_simp; (try (with_reducible rfl)))
  try simp only [Act.put, List.setIfInBounds_toArray, List.set_cons_zero, List.set_cons_succ]
  refine wpAnyH_ready (rs := [8]) (by kernel_rfl) (by simp) ?_
  refine AllReadyH.cons rfl (fun K_ hK_ => ?_) AllReadyH.nil
  go_simp
  refine (new_any _).mono ?_; rintro e wr8 ⟨rfl, hBr8⟩
  go_wp2_with fail
  refine hK_.out _ _ (by exact ⟨HasC.cc (c := c) (block_below hBr8 (block_below (below_drew1 _) hc7)), HasC.cc (c := ⟨at_, ar_, 1, aq_⟩) (block_below hBr8 (block_below (below_drew1 _) ha7)), HasC.cc (c := ⟨0, 0, 1, 0⟩) (block_below hBr8 (block_below (below_drew1 _) hb7))⟩) (fun hHeld_8 => ?_)
  clear hK_
  try simp only [Act.put, List.setIfInBounds_toArray, List.set_cons_zero, List.set_cons_succ]
  refine wpAnyH_take' (i := 9) (v := ?v9_t8) 40 rfl rfl (by kernel_rfl) (by kernel_rfl) (by kernel_rfl) (fun _ _ _ h => h) (Or.inl ⟨by kernel_rfl, ?hy9_t8⟩) (by assumption) ?rest9_t8
  case hy9_t8 => (intro W_ hS_; (try dsimp only at hS_); go_simp; (try (with_reducible rfl)))
  try simp only [Act.put, List.setIfInBounds_toArray, List.set_cons_zero, List.set_cons_succ]
  refine wpAnyH_take' (i := 10) (v := ?v10_t8) 41 rfl rfl (by kernel_rfl) (by kernel_rfl) (by kernel_rfl) (fun _ _ _ h => h) (Or.inl ⟨by kernel_rfl, ?hy10_t8⟩) (by assumption) ?rest10_t8
  case hy10_t8 => (intro W_ hS_; (try dsimp only at hS_); go_simp; (try (with_reducible rfl)))
  try simp only [Act.put, List.setIfInBounds_toArray, List.set_cons_zero, List.set_cons_succ]
  refine wpAnyH_take' (i := 11) (v := ?v11_t8) 42 rfl rfl (by kernel_rfl) (by kernel_rfl) (by kernel_rfl) (fun _ _ _ h => h) (Or.inl ⟨by kernel_rfl, ?hy11_t8⟩) (by assumption) ?rest11_t8
  case hy11_t8 => (intro W_ hS_; (try dsimp only at hS_); go_simp; (try (with_reducible rfl)))
  try simp only [Act.put, List.setIfInBounds_toArray, List.set_cons_zero, List.set_cons_succ]
  refine wpAnyH_take' (i := 12) (v := ?v12_t8) 43 rfl rfl (by kernel_rfl) (by kernel_rfl) (by kernel_rfl) (fun _ _ _ h => h) (Or.inl ⟨by kernel_rfl, ?hy12_t8⟩) (by assumption) ?rest12_t8
  case hy12_t8 => (intro W_ hS_; (try dsimp only at hS_); go_simp; (try (with_reducible rfl)))
  try simp only [Act.put, List.setIfInBounds_toArray, List.set_cons_zero, List.set_cons_succ]
  refine wpAnyH_take' (i := 13) (v := ?v13_t8) 44 rfl rfl (by kernel_rfl) (by kernel_rfl) (by kernel_rfl) (fun _ _ _ h => h) (Or.inl ⟨by kernel_rfl, ?hy13_t8⟩) (by assumption) ?rest13_t8
  case hy13_t8 => (intro W_ hS_; (try dsimp only at hS_); go_simp; (try (with_reducible rfl)))
  try simp only [Act.put, List.setIfInBounds_toArray, List.set_cons_zero, List.set_cons_succ]
  refine wpAnyH_take' (i := 14) (v := ?v14_t8) 45 rfl rfl (by kernel_rfl) (by kernel_rfl) (by kernel_rfl) (fun _ _ _ h => h) (Or.inl ⟨by kernel_rfl, ?hy14_t8⟩) (by assumption) ?rest14_t8
  case hy14_t8 => (intro W_ hS_; (try dsimp only at hS_); go_simp; (try (with_reducible rfl)))
  try simp only [Act.put, List.setIfInBounds_toArray, List.set_cons_zero, List.set_cons_succ]
  refine wpAnyH_take' (i := 15) (v := ?v15_t8) 46 rfl rfl (by kernel_rfl) (by kernel_rfl) (by kernel_rfl) (fun _ _ _ h => h) (Or.inl ⟨by kernel_rfl, ?hy15_t8⟩) (by assumption) ?rest15_t8
  case hy15_t8 => (intro W_ hS_; (try dsimp only at hS_); go_simp; (try (with_reducible rfl)))
  try simp only [Act.put, List.setIfInBounds_toArray, List.set_cons_zero, List.set_cons_succ]
  refine wpAnyH_take' (i := 17) (v := ?v17_t8) 48 rfl rfl (by kernel_rfl) (by kernel_rfl) (by kernel_rfl) (fun _ _ _ h => h) (Or.inl ⟨by kernel_rfl, ?hy17_t8⟩) (by assumption) ?rest17_t8
  case hy17_t8 => (intro W_ hS_; (try dsimp only at hS_); go_simp; (try (with_reducible rfl)))
  try simp only [Act.put, List.setIfInBounds_toArray, List.set_cons_zero, List.set_cons_succ]
  refine wpAnyH_take' (i := 18) (v := ?v18_t8) 49 rfl rfl (by kernel_rfl) (by kernel_rfl) (by kernel_rfl) (fun _ _ _ h => h) (Or.inl ⟨by kernel_rfl, ?hy18_t8⟩) (by assumption) ?rest18_t8
  case hy18_t8 => (intro W_ hS_; (try dsimp only at hS_); go_simp; (try (with_reducible rfl)))
  try simp only [Act.put, List.setIfInBounds_toArray, List.set_cons_zero, List.set_cons_succ]
  refine wpAnyH_ready (rs := [16]) (by kernel_rfl) (by simp) ?_
  refine AllReadyH.cons rfl (fun K_ hK_ => ?_) AllReadyH.nil
  go_simp
  refine (step1_any c d 2 Hd.out Hok.out _).mono ?_; rintro e wr16 ⟨rfl, hBr16⟩
  go_wp2_with fail
  refine hK_.out _ _ (by exact ⟨HasC.cc (c := c) (block_below hBr16 (block_below hBr8 (block_below (below_drew1 _) hc7))), HasC.cc (c := ⟨at_, ar_, 1, aq_⟩) (block_below hBr16 (block_below hBr8 (block_below (below_drew1 _) ha7))), HasC.cc (c := ⟨0, 0, 1, 0⟩) (block_below hBr16 (block_below hBr8 (block_below (below_drew1 _) hb7)))⟩) (fun hHeld_16 => ?_)
  clear hK_
  try simp only [Act.put, List.setIfInBounds_toArray, List.set_cons_zero, List.set_cons_succ]
  refine wpAnyH_ready (rs := [19]) (by kernel_rfl) (by simp) ?_
  refine AllReadyH.cons rfl (fun K_ hK_ => ?_) AllReadyH.nil
  go_simp
  refine (times_any 1 M (by omega) _).mono ?_; rintro e wr19 ⟨Ar19, cr19, rfl, hRr19, hBr19⟩
  go_wp2_with fail
  refine hK_.out _ _ (by exact ⟨HasC.cc (c := c) (block_below hBr19 (block_below hBr16 (block_below hBr8 (block_below (below_drew1 _) hc7)))), HasC.cc (c := ⟨at_, ar_, 1, aq_⟩) (block_below hBr19 (block_below hBr16 (block_below hBr8 (block_below (below_drew1 _) ha7)))), HasC.cc (c := ⟨0, 0, 1, 0⟩) (block_below hBr19 (block_below hBr16 (block_below hBr8 (block_below (below_drew1 _) hb7))))⟩) (fun hHeld_19 => ?_)
  clear hK_
  try simp only [Act.put, List.setIfInBounds_toArray, List.set_cons_zero, List.set_cons_succ]
  refine wpAnyH_ready (rs := [20]) (by kernel_rfl) (by simp) ?_
  refine AllReadyH.cons rfl (fun K_ hK_ => ?_) AllReadyH.nil
  go_simp
  refine (steps_any d ⟨et_, er_, 2, eq_⟩ _ He2.out Hdok.out M (by simp) (by omega) Ar19 cr19 _ hRr19).mono ?_; rintro e wr20 ⟨rfl, hBr20⟩
  go_wp2_with fail
  refine hK_.out _ _ (by exact ⟨HasC.cc (c := c) (block_below hBr20 (block_below hBr19 (block_below hBr16 (block_below hBr8 (block_below (below_drew1 _) hc7))))), HasC.cc (c := ⟨at_, ar_, 1, aq_⟩) (block_below hBr20 (block_below hBr19 (block_below hBr16 (block_below hBr8 (block_below (below_drew1 _) ha7))))), HasC.cc (c := ⟨0, 0, 1, 0⟩) (block_below hBr20 (block_below hBr19 (block_below hBr16 (block_below hBr8 (block_below (below_drew1 _) hb7)))))⟩) (fun hHeld_20 => ?_)
  clear hK_
  try simp only [Act.put, List.setIfInBounds_toArray, List.set_cons_zero, List.set_cons_succ]
  refine wpAnyH_take' (i := 21) (v := ?v21_t8) 52 rfl rfl (by kernel_rfl) (by kernel_rfl) (by kernel_rfl) (fun _ _ _ h => h) (Or.inl ⟨by kernel_rfl, ?hy21_t8⟩) (by assumption) ?rest21_t8
  case hy21_t8 => (intro W_ hS_; (try dsimp only at hS_); go_simp; (try (with_reducible rfl)))
  try simp only [Act.put, List.setIfInBounds_toArray, List.set_cons_zero, List.set_cons_succ]
  refine wpAnyH_take' (i := 22) (v := ?v22_t8) 53 rfl rfl (by kernel_rfl) (by kernel_rfl) (by kernel_rfl) (fun _ _ _ h => h) (Or.inl ⟨by kernel_rfl, ?hy22_t8⟩) (by assumption) ?rest22_t8
  case hy22_t8 => (intro W_ hS_; (try dsimp only at hS_); go_simp; (try (with_reducible rfl)))
  try simp only [Act.put, List.setIfInBounds_toArray, List.set_cons_zero, List.set_cons_succ]
  refine wpAnyH_take' (i := 23) (v := ?v23_t8) 54 rfl rfl (by kernel_rfl) (by kernel_rfl) (by kernel_rfl) (fun _ _ _ h => h) (Or.inl ⟨by kernel_rfl, ?hy23_t8⟩) (by assumption) ?rest23_t8
  case hy23_t8 => (intro W_ hS_; (try dsimp only at hS_); go_simp; (try (with_reducible rfl)))
  try simp only [Act.put, List.setIfInBounds_toArray, List.set_cons_zero, List.set_cons_succ]
  refine wpAnyH_take' (i := 24) (v := ?v24_t8) 55 rfl rfl (by kernel_rfl) (by kernel_rfl) (by kernel_rfl) (fun _ _ _ h => h) (Or.inl ⟨by kernel_rfl, ?hy24_t8⟩) (by assumption) ?rest24_t8
  case hy24_t8 => (intro W_ hS_; (try dsimp only at hS_); go_simp; (try (with_reducible rfl)))
  try simp only [Act.put, List.setIfInBounds_toArray, List.set_cons_zero, List.set_cons_succ]
  refine wpAnyH_take' (i := 25) (v := ?v25_t8) 2 rfl rfl (by kernel_rfl) (by kernel_rfl) (by kernel_rfl) (fun _ _ _ h => h) (Or.inl ⟨by kernel_rfl, ?hy25_t8⟩) (by assumption) ?rest25_t8
  case hy25_t8 => (intro W_ hS_; (try dsimp only at hS_); go_simp; (try (with_reducible rfl)))
  try simp only [Act.put, List.setIfInBounds_toArray, List.set_cons_zero, List.set_cons_succ]
  refine wpAnyH_done (by kernel_rfl) ?_ _
  go_wp2_with fail
  go_ret
  exact ⟨rfl, below_then hT7 (below_then (below_then (below_then (below_then (below_drew1 _) hBr8) hBr16) hBr19) hBr20)⟩

end Go.Proofs.Ytbkldbckcnnafaa
