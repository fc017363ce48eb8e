/-
  CountOut.
-/
import Derived.Test.YtbkldbckcnnafaaCntMath
import Derived.Test.YtbkldbckcnnafaaHead8
namespace Go.Proofs.Ytbkldbckcnnafaa
open Go.RowKit
set_option linter.unusedVariables false
set_option linter.unusedSimpArgs false

set_option maxRecDepth 100000 in
set_option maxHeartbeats 1000000 in
theorem countOut_any (c : CV) (w : World) :
    Calls Try.prog 9 #[c.v] w fun e w' => e = .returned (.bool true) ∧ Below w.heap.size w w' := by
  have q1 := eqIn_c
  have q2 := eq_c
  have s1 : sameC ⟨256, 0, 3, 0⟩ ⟨256, 0, 3, 0⟩ = true := by decide
  go_enter Try.func9, Try.ntmps9
  go_wp2_with fail
  obtain ⟨w0, hw0⟩ : ∃ w0, w.alloc (.cells #[.int .i64 c.t, .int .i64 c.r, .int .i64 c.s, .int .i64 c.q] 23) = w0 := ⟨_, rfl⟩
  have hT0 : Below w.heap.size w w0 := by rw [← hw0]; exact below_alloc1 _ _
  have hc0 : HasC w0 w.heap.size c := by rw [← hw0]; exact World.alloc_heap_new _ _
  rw [hw0]
  clear hw0
  refine (head_any w0).mono ?_
  rintro e w1 ⟨rfl, hB1⟩
  have hT1 := below_then hT0 hB1
  have hc1 := block_below hB1 hc0
  clear hT0 hc0  hB1
  obtain ⟨cc0, cc1, cc2, cc3⟩ := HasC.cc (c := c) hc1
  go_wp2_with fail
  clear cc0 cc1 cc2 cc3
  obtain ⟨q, hq⟩ : ∃ q, rightV c = q := ⟨_, rfl⟩
  have Hq := Lib.hid hq
  clear hq
  cases q
  · skip
    refine (right_q c false Hq.out w1).mono ?_
    rintro e w2 ⟨rfl, hB2⟩
    have hT2 := below_then hT1 hB2
    have hc2 := block_below hB2 hc1
    clear hT1 hc1  hB2
    obtain ⟨cc0, cc1, cc2, cc3⟩ := HasC.cc (c := c) hc2
    go_wp2_with fail
    go_ret
    exact ⟨rfl, hT2⟩
  refine (right_q c true Hq.out w1).mono ?_
  rintro e w2 ⟨rfl, hB2⟩
  have hT2 := below_then hT1 hB2
  have hc2 := block_below hB2 hc1
  clear hT1 hc1  hB2
  have Hok := Lib.hid (show OkC c from of_decide_eq_true (show decide (OkC c) = true from Hq.out))
  by_cases hs : c.s = 3
  · skip
    have hs2 : (c.s == 3) = true := by simpa using hs
    have Hs := Lib.hid hs
    clear hs
    obtain ⟨cc0, cc1, cc2, cc3⟩ := HasC.cc (c := c) hc2
    go_wp2_with fail
    go_ret
    exact ⟨rfl, hT2⟩
  have hs2 : (c.s == 3) = false := by simpa using hs
  obtain ⟨hmk, hbx⟩ := ok_mk Hok.out hs
  obtain ⟨N, hN⟩ : ∃ N : Nat, (256 - c.t + 7) / 8 = ((N + 1 : Nat) : Int) := ⟨((256 - c.t + 7) / 8 - 1).toNat, by omega⟩
  have hN2 : N + 1 ≤ 33 := by omega
  obtain ⟨P, hP⟩ : ∃ P, N + 1 = P := ⟨_, rfl⟩
  have HP := Lib.hid hP
  have hw1 : wrap64 (256 - c.t) = 256 - c.t := by unfold wrap64; omega
  have hw2 : wrap64 (256 - c.t + 7) = 256 - c.t + 7 := by unfold wrap64; omega
  have hw3 : (256 - c.t + 7).tdiv 8 = (P : Int) := by rw [Int.tdiv_eq_ediv_of_nonneg (by omega), ← hP]; exact hN
  have hw5 : (256 - c.t + 7) / 8 = (P : Int) := by rw [← hP]; exact hN
  have hw4 : wrap64 (P : Int) = (P : Int) := by unfold wrap64; omega
  have HA := Lib.hid (show stepsV c (List.replicate P 3) = ⟨256, 0, 3, 0⟩ from by rw [hmk, ← hP]; exact out_a hbx hN)
  have HB := Lib.hid (show stepsV c (List.replicate N 3) = mkC (c.t + 8 * N) c.r from by rw [hmk]; exact out_b hbx hN)
  have HD0 := Lib.hid (show 247 < c.t → stepV (stepV c 3) 1 = ⟨256, 0, 3, 0⟩ from fun h => by rw [hmk]; exact out_d0 h)
  have HD1 := Lib.hid (show c.t ≤ 247 → stepV (stepV c 3) 1 = mkC (c.t + 7) c.r from fun h => by rw [hmk]; exact out_d1 ⟨hbx.1, h⟩)
  have hT247 : N = 0 ↔ 247 < c.t := by omega
  have HX := Lib.hid (And.intro hT247 hbx)
  have h2 : wrap64 ((P : Int) - 1) = (N : Int) := by unfold wrap64; omega
  have h6 : IntKind.i64.wrap ((P : Int) - 1) = (N : Int) := by rw [IntKind.wrap_i64]; omega
  have hP2 : P ≤ 33 := by omega
  clear hmk hbx hs hN hT247 hP
  obtain ⟨cc0, cc1, cc2, cc3⟩ := HasC.cc (c := c) hc2
  go_wp2_with fail
  clear cc0 cc1 cc2 cc3
  clear hs2 hw1 hw2 hw3 hw4 hw5
  have hltc : w.heap.size < w2.heap.size := (Array.getElem?_eq_some_iff.1 hc2).1
  go_cut [5] from 23 to 26 (fun p wc => ∃ X : Nat, p = .pointer (some ⟨X, 0, none⟩) ∧ w2.heap.size ≤ X ∧ HasC wc X ⟨256, 0, 3, 0⟩ ∧ Below w2.heap.size w2 wc)
  case first =>
    refine wp_region_held_drew (S := fun W => (W.cell? ⟨w.heap.size, 0, none⟩ = some (.int .i64 c.t) ∧ W.cell? ⟨w.heap.size, 1, none⟩ = some (.int .i64 c.r) ∧ W.cell? ⟨w.heap.size, 2, none⟩ = some (.int .i64 c.s) ∧ W.cell? ⟨w.heap.size, 3, none⟩ = some (.int .i64 c.q))) (by kernel_rfl) (by exact HasC.cc (c := c) (block_below (below_drew1 _) hc2)) (fun hHeld_ => ?_)
    refine wpAnyH_take' (i := 0) (v := ?vm9_0_0_) 23 rfl rfl (by kernel_rfl) (by kernel_rfl) (by kernel_rfl) (fun _ _ _ h => h) (Or.inl ⟨by kernel_rfl, ?hm9_0_0_⟩) (by assumption) ?rm9_0_0_
    case hm9_0_0_ => (intro W_ hS_; (try dsimp only at hS_); go_simp; (try (with_reducible rfl)))
    try simp only [Act.put, List.setIfInBounds_toArray, List.set_cons_zero, List.set_cons_succ]
    refine wpAnyH_take' (i := 1) (v := ?vm9_1_0_) 24 rfl rfl (by kernel_rfl) (by kernel_rfl) (by kernel_rfl) (fun _ _ _ h => h) (Or.inl ⟨by kernel_rfl, ?hm9_1_0_⟩) (by assumption) ?rm9_1_0_
    case hm9_1_0_ => (intro W_ hS_; (try dsimp only at hS_); go_simp; (try (with_reducible rfl)))
    try simp only [Act.put, List.setIfInBounds_toArray, List.set_cons_zero, List.set_cons_succ]
    refine wpAnyH_ready (rs := [2, 4]) (by kernel_rfl) (by simp) ?_
    refine (AllReadyH.cons rfl (fun K_ hK_ => ?_) (AllReadyH.cons rfl (fun K_ hK_ => ?_) AllReadyH.nil))
    · go_simp
      refine (times_any 3 P (by omega) _).mono ?_
      rintro e wr2 ⟨Ar2, cr2, rfl, hRr2, hBr2⟩
      go_wp2_with fail
      refine hK_.out _ _ (by exact HasC.cc (c := c) (block_below hBr2 (block_below (below_drew1 _) hc2))) (fun hHeld_2_0 => ?_)
      clear hK_
      try simp only [Act.put, List.setIfInBounds_toArray, List.set_cons_zero, List.set_cons_succ]
      refine wpAnyH_ready (rs := [3, 4]) (by kernel_rfl) (by simp) ?_
      refine (AllReadyH.cons rfl (fun K_ hK_ => ?_) (AllReadyH.cons rfl (fun K_ hK_ => ?_) AllReadyH.nil))
      · go_simp
        refine (steps_any c ⟨256, 0, 3, 0⟩ _ HA.out Hok.out P (by simp) (by omega) Ar2 cr2 _ hRr2).mono ?_
        rintro e wr3 ⟨rfl, hBr3⟩
        go_wp2_with fail
        refine hK_.out _ _ (by exact HasC.cc (c := c) (block_below hBr3 (block_below hBr2 (block_below (below_drew1 _) hc2)))) (fun hHeld_3_1 => ?_)
        clear hK_
        try simp only [Act.put, List.setIfInBounds_toArray, List.set_cons_zero, List.set_cons_succ]
        refine wpAnyH_ready (rs := [4]) (by kernel_rfl) (by simp) ?_
        refine (AllReadyH.cons rfl (fun K_ hK_ => ?_) AllReadyH.nil)
        go_simp
        have hblk4 : (wr3.alloc (.cells #[.int .i64 0, .int .i64 0, .int .i64 0, .int .i64 0] 23)).heap[wr3.heap.size]? = some (.cells #[.int .i64 0, .int .i64 0, .int .i64 0, .int .i64 0] 23) := World.alloc_heap_new _ _
        go_wp2_with fail
        refine hK_.out _ _ (by exact HasC.cc (c := c) (block_below (below_alloc1 _ _) (block_below hBr3 (block_below hBr2 (block_below (below_drew1 _) hc2))))) (fun hHeld_4_2 => ?_)
        clear hK_
        try simp only [Act.put, List.setIfInBounds_toArray, List.set_cons_zero, List.set_cons_succ]
        refine wpAnyH_ready (rs := [5]) (by kernel_rfl) (by simp) ?_
        refine (AllReadyH.cons rfl (fun K_ hK_ => ?_) AllReadyH.nil)
        go_simp
        go_wp2_with fail
        refine hK_.out _ _ (by exact HasC.cc (c := c) (block_below (below_alloc1 _ _) (block_below hBr3 (block_below hBr2 (block_below (below_drew1 _) hc2))))) (fun hHeld_5_3 => ?_)
        clear hK_
        try simp only [Act.put, List.setIfInBounds_toArray, List.set_cons_zero, List.set_cons_succ]
        refine wpAnyH_done (by kernel_rfl) ?_ _
        go_wp2_with fail
        go_meet
        exact ⟨wr3.heap.size, rfl, (below_then (below_then (below_drew1 _) hBr2) hBr3).size, World.alloc_heap_new _ _, (below_then (below_then (below_then (below_drew1 _) hBr2) hBr3) (below_alloc1 _ _))⟩
      · go_simp
        have hblk4 : (wr2.alloc (.cells #[.int .i64 0, .int .i64 0, .int .i64 0, .int .i64 0] 23)).heap[wr2.heap.size]? = some (.cells #[.int .i64 0, .int .i64 0, .int .i64 0, .int .i64 0] 23) := World.alloc_heap_new _ _
        go_wp2_with fail
        refine hK_.out _ _ (by exact HasC.cc (c := c) (block_below (below_alloc1 _ _) (block_below hBr2 (block_below (below_drew1 _) hc2)))) (fun hHeld_4_1 => ?_)
        clear hK_
        try simp only [Act.put, List.setIfInBounds_toArray, List.set_cons_zero, List.set_cons_succ]
        refine wpAnyH_ready (rs := [3]) (by kernel_rfl) (by simp) ?_
        refine (AllReadyH.cons rfl (fun K_ hK_ => ?_) AllReadyH.nil)
        go_simp
        refine (steps_any c ⟨256, 0, 3, 0⟩ _ HA.out Hok.out P (by simp) (by omega) Ar2 cr2 _ (Row.to hRr2 (below_alloc1 _ _))).mono ?_
        rintro e wr3 ⟨rfl, hBr3⟩
        have hblk3 := block_below hBr3 hblk4
        go_wp2_with fail
        refine hK_.out _ _ (by exact HasC.cc (c := c) (block_below hBr3 (block_below (below_alloc1 _ _) (block_below hBr2 (block_below (below_drew1 _) hc2))))) (fun hHeld_3_2 => ?_)
        clear hK_
        try simp only [Act.put, List.setIfInBounds_toArray, List.set_cons_zero, List.set_cons_succ]
        refine wpAnyH_ready (rs := [5]) (by kernel_rfl) (by simp) ?_
        refine (AllReadyH.cons rfl (fun K_ hK_ => ?_) AllReadyH.nil)
        obtain ⟨⟨z0, z1, z2, z3⟩, y0, y1, y2, y3⟩ := cells4 hblk3
        go_simp
        go_wp2_with fail
        clear z0 z1 z2 z3 y0 y1 y2 y3
        refine hK_.out _ _ (by have hle_ := (below_then (below_drew1 _) hBr2).size; exact HasC.cc (c := c) (other_grownF (set4_grown _ _ _ _ _ _) (block_below hBr3 (block_below (below_alloc1 _ _) (block_below hBr2 (block_below (below_drew1 _) hc2)))) (by omega))) (fun hHeld_5_3 => ?_)
        clear hK_
        try simp only [Act.put, List.setIfInBounds_toArray, List.set_cons_zero, List.set_cons_succ]
        refine wpAnyH_done (by kernel_rfl) ?_ _
        go_wp2_with fail
        go_meet
        exact ⟨wr2.heap.size, rfl, (below_then (below_drew1 _) hBr2).size, set4_obj hblk3 _ _ _ _, below_set4 (below_then (below_then (below_then (below_drew1 _) hBr2) (below_alloc1 _ _)) hBr3) ((below_then (below_drew1 _) hBr2).size) _ _ _ _⟩
    · go_simp
      have hblk4 : (w2.alloc (.cells #[.int .i64 0, .int .i64 0, .int .i64 0, .int .i64 0] 23)).drew.heap[w2.heap.size]? = some (.cells #[.int .i64 0, .int .i64 0, .int .i64 0, .int .i64 0] 23) := World.alloc_heap_new w2 _
      go_wp2_with fail
      refine hK_.out _ _ (by exact HasC.cc (c := c) (block_below (below_drew1 _) (block_below (below_alloc1 _ _) hc2))) (fun hHeld_4_0 => ?_)
      clear hK_
      try simp only [Act.put, List.setIfInBounds_toArray, List.set_cons_zero, List.set_cons_succ]
      refine wpAnyH_ready (rs := [2]) (by kernel_rfl) (by simp) ?_
      refine (AllReadyH.cons rfl (fun K_ hK_ => ?_) AllReadyH.nil)
      go_simp
      refine (times_any 3 P (by omega) _).mono ?_
      rintro e wr2 ⟨Ar2, cr2, rfl, hRr2, hBr2⟩
      have hblk2 := block_below hBr2 hblk4
      go_wp2_with fail
      refine hK_.out _ _ (by exact HasC.cc (c := c) (block_below hBr2 (block_below (below_drew1 _) (block_below (below_alloc1 _ _) hc2)))) (fun hHeld_2_1 => ?_)
      clear hK_
      try simp only [Act.put, List.setIfInBounds_toArray, List.set_cons_zero, List.set_cons_succ]
      refine wpAnyH_ready (rs := [3]) (by kernel_rfl) (by simp) ?_
      refine (AllReadyH.cons rfl (fun K_ hK_ => ?_) AllReadyH.nil)
      go_simp
      refine (steps_any c ⟨256, 0, 3, 0⟩ _ HA.out Hok.out P (by simp) (by omega) Ar2 cr2 _ hRr2).mono ?_
      rintro e wr3 ⟨rfl, hBr3⟩
      have hblk3 := block_below hBr3 hblk2
      go_wp2_with fail
      refine hK_.out _ _ (by exact HasC.cc (c := c) (block_below hBr3 (block_below hBr2 (block_below (below_drew1 _) (block_below (below_alloc1 _ _) hc2))))) (fun hHeld_3_2 => ?_)
      clear hK_
      try simp only [Act.put, List.setIfInBounds_toArray, List.set_cons_zero, List.set_cons_succ]
      refine wpAnyH_ready (rs := [5]) (by kernel_rfl) (by simp) ?_
      refine (AllReadyH.cons rfl (fun K_ hK_ => ?_) AllReadyH.nil)
      obtain ⟨⟨z0, z1, z2, z3⟩, y0, y1, y2, y3⟩ := cells4 hblk3
      go_simp
      go_wp2_with fail
      clear z0 z1 z2 z3 y0 y1 y2 y3
      refine hK_.out _ _ (by exact HasC.cc (c := c) (other_grownF (set4_grown _ _ _ _ _ _) (block_below hBr3 (block_below hBr2 (block_below (below_drew1 _) (block_below (below_alloc1 _ _) hc2)))) (by omega))) (fun hHeld_5_3 => ?_)
      clear hK_
      try simp only [Act.put, List.setIfInBounds_toArray, List.set_cons_zero, List.set_cons_succ]
      refine wpAnyH_done (by kernel_rfl) ?_ _
      go_wp2_with fail
      go_meet
      exact ⟨w2.heap.size, rfl, Nat.le_refl _, set4_obj hblk3 _ _ _ _, below_set4 (below_then (below_then (below_then (below_alloc1 _ _) (below_drew1 _)) hBr2) hBr3) (Nat.le_refl _) _ _ _ _⟩
  case rest =>
  obtain ⟨Xa, rfl, hXa, ha3, hB3⟩ := hcut
  obtain ⟨w3, e_⟩ : ∃ w_, w_ = wc := ⟨_, rfl⟩
  subst e_
  clear hltc
  have hT3 := below_then hT2 hB3
  have hc3 := block_below hB3 hc2
  clear hT2 hc2  hB3
  obtain ⟨x, hx⟩ : ∃ q, c.t + 8 * (N : Int) = q := ⟨_, rfl⟩
  have Hx := Lib.hid hx
  clear hx
  obtain ⟨y, hy⟩ : ∃ q, (mkC (c.t + 8 * N) c.r).s = q := ⟨_, rfl⟩
  have Hy := Lib.hid hy
  clear hy
  have HB2 := Lib.hid (show stepsV c (List.replicate N 3) = ⟨x, c.r, y, 0⟩ from by rw [HB.out, ← Hx.out, ← Hy.out]; rfl)
  have hy3 : (y == 3) = false := by rw [← Hy.out]; simpa using mk_s3 _ _
  obtain ⟨cc0, cc1, cc2, cc3⟩ := HasC.cc (c := c) hc3
  obtain ⟨ac0, ac1, ac2, ac3⟩ := HasC.cc (c := ⟨256, 0, 3, 0⟩) ha3
  dsimp only at ac0 ac1 ac2 ac3
  go_wp2_with fail
  clear cc0 cc1 cc2 cc3 ac0 ac1 ac2 ac3
  have hltc : w.heap.size < w3.heap.size := (Array.getElem?_eq_some_iff.1 hc3).1
  have hlta : Xa < w3.heap.size := (Array.getElem?_eq_some_iff.1 ha3).1
  go_cut [6] from 27 to 31 (fun p wc => ∃ X : Nat, p = .pointer (some ⟨X, 0, none⟩) ∧ w3.heap.size ≤ X ∧ HasC wc X ⟨x, c.r, y, 0⟩ ∧ Below w3.heap.size w3 wc)
  case first =>
    refine wp_region_held_drew (S := fun W => (W.cell? ⟨w.heap.size, 0, none⟩ = some (.int .i64 c.t) ∧ W.cell? ⟨w.heap.size, 1, none⟩ = some (.int .i64 c.r) ∧ W.cell? ⟨w.heap.size, 2, none⟩ = some (.int .i64 c.s) ∧ W.cell? ⟨w.heap.size, 3, none⟩ = some (.int .i64 c.q)) ∧ (W.cell? ⟨Xa, 0, none⟩ = some (.int .i64 256) ∧ W.cell? ⟨Xa, 1, none⟩ = some (.int .i64 0) ∧ W.cell? ⟨Xa, 2, none⟩ = some (.int .i64 3) ∧ W.cell? ⟨Xa, 3, none⟩ = some (.int .i64 0))) (by kernel_rfl) (by exact ⟨HasC.cc (c := c) (block_below (below_drew1 _) hc3), HasC.cc (c := ⟨256, 0, 3, 0⟩) (block_below (below_drew1 _) ha3)⟩) (fun hHeld_ => ?_)
    refine wpAnyH_take' (i := 0) (v := ?vm10_0_0_) 27 rfl rfl (by kernel_rfl) (by kernel_rfl) (by kernel_rfl) (fun _ _ _ h => h) (Or.inl ⟨by kernel_rfl, ?hm10_0_0_⟩) (by assumption) ?rm10_0_0_
    case hm10_0_0_ => (intro W_ hS_; (try dsimp only at hS_); go_simp; (try (with_reducible rfl)))
    try simp only [Act.put, List.setIfInBounds_toArray, List.set_cons_zero, List.set_cons_succ]
    refine wpAnyH_take' (i := 1) (v := ?vm10_1_0_) 28 rfl rfl (by kernel_rfl) (by kernel_rfl) (by kernel_rfl) (fun _ _ _ h => h) (Or.inl ⟨by kernel_rfl, ?hm10_1_0_⟩) (by assumption) ?rm10_1_0_
    case hm10_1_0_ => (intro W_ hS_; (try dsimp only at hS_); go_simp; (try (with_reducible rfl)))
    try simp only [Act.put, List.setIfInBounds_toArray, List.set_cons_zero, List.set_cons_succ]
    refine wpAnyH_take' (i := 2) (v := ?vm10_2_0_) 29 rfl rfl (by kernel_rfl) (by kernel_rfl) (by kernel_rfl) (fun _ _ _ h => h) (Or.inl ⟨by kernel_rfl, ?hm10_2_0_⟩) (by assumption) ?rm10_2_0_
    case hm10_2_0_ => (intro W_ hS_; (try dsimp only at hS_); go_simp; (try (with_reducible rfl)))
    try simp only [Act.put, List.setIfInBounds_toArray, List.set_cons_zero, List.set_cons_succ]
    refine wpAnyH_ready (rs := [3, 5]) (by kernel_rfl) (by simp) ?_
    refine (AllReadyH.cons rfl (fun K_ hK_ => ?_) (AllReadyH.cons rfl (fun K_ hK_ => ?_) AllReadyH.nil))
    · go_simp
      refine (times_any 3 N (by omega) _).mono ?_
      rintro e wr3 ⟨Ar3, cr3, rfl, hRr3, hBr3⟩
      go_wp2_with fail
      refine hK_.out _ _ (by exact ⟨HasC.cc (c := c) (block_below hBr3 (block_below (below_drew1 _) hc3)), HasC.cc (c := ⟨256, 0, 3, 0⟩) (block_below hBr3 (block_below (below_drew1 _) ha3))⟩) (fun hHeld_3_0 => ?_)
      clear hK_
      try simp only [Act.put, List.setIfInBounds_toArray, List.set_cons_zero, List.set_cons_succ]
      refine wpAnyH_ready (rs := [4, 5]) (by kernel_rfl) (by simp) ?_
      refine (AllReadyH.cons rfl (fun K_ hK_ => ?_) (AllReadyH.cons rfl (fun K_ hK_ => ?_) AllReadyH.nil))
      · go_simp
        refine (steps_any c ⟨x, c.r, y, 0⟩ _ HB2.out Hok.out N (by simp) (by omega) Ar3 cr3 _ hRr3).mono ?_
        rintro e wr4 ⟨rfl, hBr4⟩
        go_wp2_with fail
        refine hK_.out _ _ (by exact ⟨HasC.cc (c := c) (block_below hBr4 (block_below hBr3 (block_below (below_drew1 _) hc3))), HasC.cc (c := ⟨256, 0, 3, 0⟩) (block_below hBr4 (block_below hBr3 (block_below (below_drew1 _) ha3)))⟩) (fun hHeld_4_1 => ?_)
        clear hK_
        try simp only [Act.put, List.setIfInBounds_toArray, List.set_cons_zero, List.set_cons_succ]
        refine wpAnyH_ready (rs := [5]) (by kernel_rfl) (by simp) ?_
        refine (AllReadyH.cons rfl (fun K_ hK_ => ?_) AllReadyH.nil)
        go_simp
        have hblk5 : (wr4.alloc (.cells #[.int .i64 0, .int .i64 0, .int .i64 0, .int .i64 0] 23)).heap[wr4.heap.size]? = some (.cells #[.int .i64 0, .int .i64 0, .int .i64 0, .int .i64 0] 23) := World.alloc_heap_new _ _
        go_wp2_with fail
        refine hK_.out _ _ (by exact ⟨HasC.cc (c := c) (block_below (below_alloc1 _ _) (block_below hBr4 (block_below hBr3 (block_below (below_drew1 _) hc3)))), HasC.cc (c := ⟨256, 0, 3, 0⟩) (block_below (below_alloc1 _ _) (block_below hBr4 (block_below hBr3 (block_below (below_drew1 _) ha3))))⟩) (fun hHeld_5_2 => ?_)
        clear hK_
        try simp only [Act.put, List.setIfInBounds_toArray, List.set_cons_zero, List.set_cons_succ]
        refine wpAnyH_ready (rs := [6]) (by kernel_rfl) (by simp) ?_
        refine (AllReadyH.cons rfl (fun K_ hK_ => ?_) AllReadyH.nil)
        go_simp
        go_wp2_with fail
        refine hK_.out _ _ (by exact ⟨HasC.cc (c := c) (block_below (below_alloc1 _ _) (block_below hBr4 (block_below hBr3 (block_below (below_drew1 _) hc3)))), HasC.cc (c := ⟨256, 0, 3, 0⟩) (block_below (below_alloc1 _ _) (block_below hBr4 (block_below hBr3 (block_below (below_drew1 _) ha3))))⟩) (fun hHeld_6_3 => ?_)
        clear hK_
        try simp only [Act.put, List.setIfInBounds_toArray, List.set_cons_zero, List.set_cons_succ]
        refine wpAnyH_done (by kernel_rfl) ?_ _
        go_wp2_with fail
        go_meet
        exact ⟨wr4.heap.size, rfl, (below_then (below_then (below_drew1 _) hBr3) hBr4).size, World.alloc_heap_new _ _, (below_then (below_then (below_then (below_drew1 _) hBr3) hBr4) (below_alloc1 _ _))⟩
      · go_simp
        have hblk5 : (wr3.alloc (.cells #[.int .i64 0, .int .i64 0, .int .i64 0, .int .i64 0] 23)).heap[wr3.heap.size]? = some (.cells #[.int .i64 0, .int .i64 0, .int .i64 0, .int .i64 0] 23) := World.alloc_heap_new _ _
        go_wp2_with fail
        refine hK_.out _ _ (by exact ⟨HasC.cc (c := c) (block_below (below_alloc1 _ _) (block_below hBr3 (block_below (below_drew1 _) hc3))), HasC.cc (c := ⟨256, 0, 3, 0⟩) (block_below (below_alloc1 _ _) (block_below hBr3 (block_below (below_drew1 _) ha3)))⟩) (fun hHeld_5_1 => ?_)
        clear hK_
        try simp only [Act.put, List.setIfInBounds_toArray, List.set_cons_zero, List.set_cons_succ]
        refine wpAnyH_ready (rs := [4]) (by kernel_rfl) (by simp) ?_
        refine (AllReadyH.cons rfl (fun K_ hK_ => ?_) AllReadyH.nil)
        go_simp
        refine (steps_any c ⟨x, c.r, y, 0⟩ _ HB2.out Hok.out N (by simp) (by omega) Ar3 cr3 _ (Row.to hRr3 (below_alloc1 _ _))).mono ?_
        rintro e wr4 ⟨rfl, hBr4⟩
        have hblk4 := block_below hBr4 hblk5
        go_wp2_with fail
        refine hK_.out _ _ (by exact ⟨HasC.cc (c := c) (block_below hBr4 (block_below (below_alloc1 _ _) (block_below hBr3 (block_below (below_drew1 _) hc3)))), HasC.cc (c := ⟨256, 0, 3, 0⟩) (block_below hBr4 (block_below (below_alloc1 _ _) (block_below hBr3 (block_below (below_drew1 _) ha3))))⟩) (fun hHeld_4_2 => ?_)
        clear hK_
        try simp only [Act.put, List.setIfInBounds_toArray, List.set_cons_zero, List.set_cons_succ]
        refine wpAnyH_ready (rs := [6]) (by kernel_rfl) (by simp) ?_
        refine (AllReadyH.cons rfl (fun K_ hK_ => ?_) AllReadyH.nil)
        obtain ⟨⟨z0, z1, z2, z3⟩, y0, y1, y2, y3⟩ := cells4 hblk4
        go_simp
        go_wp2_with fail
        clear z0 z1 z2 z3 y0 y1 y2 y3
        refine hK_.out _ _ (by have hle_ := (below_then (below_drew1 _) hBr3).size; exact ⟨HasC.cc (c := c) (other_grownF (set4_grown _ _ _ _ _ _) (block_below hBr4 (block_below (below_alloc1 _ _) (block_below hBr3 (block_below (below_drew1 _) hc3)))) (by omega)), HasC.cc (c := ⟨256, 0, 3, 0⟩) (other_grownF (set4_grown _ _ _ _ _ _) (block_below hBr4 (block_below (below_alloc1 _ _) (block_below hBr3 (block_below (below_drew1 _) ha3)))) (by omega))⟩) (fun hHeld_6_3 => ?_)
        clear hK_
        try simp only [Act.put, List.setIfInBounds_toArray, List.set_cons_zero, List.set_cons_succ]
        refine wpAnyH_done (by kernel_rfl) ?_ _
        go_wp2_with fail
        go_meet
        exact ⟨wr3.heap.size, rfl, (below_then (below_drew1 _) hBr3).size, set4_obj hblk4 _ _ _ _, below_set4 (below_then (below_then (below_then (below_drew1 _) hBr3) (below_alloc1 _ _)) hBr4) ((below_then (below_drew1 _) hBr3).size) _ _ _ _⟩
    · go_simp
      have hblk5 : (w3.alloc (.cells #[.int .i64 0, .int .i64 0, .int .i64 0, .int .i64 0] 23)).drew.heap[w3.heap.size]? = some (.cells #[.int .i64 0, .int .i64 0, .int .i64 0, .int .i64 0] 23) := World.alloc_heap_new w3 _
      go_wp2_with fail
      refine hK_.out _ _ (by exact ⟨HasC.cc (c := c) (block_below (below_drew1 _) (block_below (below_alloc1 _ _) hc3)), HasC.cc (c := ⟨256, 0, 3, 0⟩) (block_below (below_drew1 _) (block_below (below_alloc1 _ _) ha3))⟩) (fun hHeld_5_0 => ?_)
      clear hK_
      try simp only [Act.put, List.setIfInBounds_toArray, List.set_cons_zero, List.set_cons_succ]
      refine wpAnyH_ready (rs := [3]) (by kernel_rfl) (by simp) ?_
      refine (AllReadyH.cons rfl (fun K_ hK_ => ?_) AllReadyH.nil)
      go_simp
      refine (times_any 3 N (by omega) _).mono ?_
      rintro e wr3 ⟨Ar3, cr3, rfl, hRr3, hBr3⟩
      have hblk3 := block_below hBr3 hblk5
      go_wp2_with fail
      refine hK_.out _ _ (by exact ⟨HasC.cc (c := c) (block_below hBr3 (block_below (below_drew1 _) (block_below (below_alloc1 _ _) hc3))), HasC.cc (c := ⟨256, 0, 3, 0⟩) (block_below hBr3 (block_below (below_drew1 _) (block_below (below_alloc1 _ _) ha3)))⟩) (fun hHeld_3_1 => ?_)
      clear hK_
      try simp only [Act.put, List.setIfInBounds_toArray, List.set_cons_zero, List.set_cons_succ]
      refine wpAnyH_ready (rs := [4]) (by kernel_rfl) (by simp) ?_
      refine (AllReadyH.cons rfl (fun K_ hK_ => ?_) AllReadyH.nil)
      go_simp
      refine (steps_any c ⟨x, c.r, y, 0⟩ _ HB2.out Hok.out N (by simp) (by omega) Ar3 cr3 _ hRr3).mono ?_
      rintro e wr4 ⟨rfl, hBr4⟩
      have hblk4 := block_below hBr4 hblk3
      go_wp2_with fail
      refine hK_.out _ _ (by exact ⟨HasC.cc (c := c) (block_below hBr4 (block_below hBr3 (block_below (below_drew1 _) (block_below (below_alloc1 _ _) hc3)))), HasC.cc (c := ⟨256, 0, 3, 0⟩) (block_below hBr4 (block_below hBr3 (block_below (below_drew1 _) (block_below (below_alloc1 _ _) ha3))))⟩) (fun hHeld_4_2 => ?_)
      clear hK_
      try simp only [Act.put, List.setIfInBounds_toArray, List.set_cons_zero, List.set_cons_succ]
      refine wpAnyH_ready (rs := [6]) (by kernel_rfl) (by simp) ?_
      refine (AllReadyH.cons rfl (fun K_ hK_ => ?_) AllReadyH.nil)
      obtain ⟨⟨z0, z1, z2, z3⟩, y0, y1, y2, y3⟩ := cells4 hblk4
      go_simp
      go_wp2_with fail
      clear z0 z1 z2 z3 y0 y1 y2 y3
      refine hK_.out _ _ (by exact ⟨HasC.cc (c := c) (other_grownF (set4_grown _ _ _ _ _ _) (block_below hBr4 (block_below hBr3 (block_below (below_drew1 _) (block_below (below_alloc1 _ _) hc3)))) (by omega)), HasC.cc (c := ⟨256, 0, 3, 0⟩) (other_grownF (set4_grown _ _ _ _ _ _) (block_below hBr4 (block_below hBr3 (block_below (below_drew1 _) (block_below (below_alloc1 _ _) ha3)))) (by omega))⟩) (fun hHeld_6_3 => ?_)
      clear hK_
      try simp only [Act.put, List.setIfInBounds_toArray, List.set_cons_zero, List.set_cons_succ]
      refine wpAnyH_done (by kernel_rfl) ?_ _
      go_wp2_with fail
      go_meet
      exact ⟨w3.heap.size, rfl, Nat.le_refl _, set4_obj hblk4 _ _ _ _, below_set4 (below_then (below_then (below_then (below_alloc1 _ _) (below_drew1 _)) hBr3) hBr4) (Nat.le_refl _) _ _ _ _⟩
  case rest =>
  obtain ⟨Xb, rfl, hXb, hb4, hB4⟩ := hcut
  obtain ⟨w4, e_⟩ : ∃ w_, w_ = wc := ⟨_, rfl⟩
  subst e_
  clear hltc hlta
  have hT4 := below_then hT3 hB4
  have hc4 := block_below hB4 hc3
  have ha4 := block_below hB4 ha3
  clear hT3 hc3 ha3  hB4
  obtain ⟨d1, hd1⟩ : ∃ q : CV, stepV c 3 = q := ⟨_, rfl⟩
  have Hd1 := Lib.hid hd1
  clear hd1
  have Hdok := Lib.hid (show OkC d1 from by rw [← Hd1.out]; exact ok_step _ _ Hok.out)
  obtain ⟨cc0, cc1, cc2, cc3⟩ := HasC.cc (c := c) hc4
  obtain ⟨ac0, ac1, ac2, ac3⟩ := HasC.cc (c := ⟨256, 0, 3, 0⟩) ha4
  dsimp only at ac0 ac1 ac2 ac3
  obtain ⟨bc0, bc1, bc2, bc3⟩ := HasC.cc (c := ⟨x, c.r, y, 0⟩) hb4
  dsimp only at bc0 bc1 bc2 bc3
  go_wp2_with fail
  clear cc0 cc1 cc2 cc3 ac0 ac1 ac2 ac3 bc0 bc1 bc2 bc3
  refine (step1_any c d1 3 Hd1.out Hok.out w4).mono ?_
  rintro e w5 ⟨rfl, hB5⟩
  have hT5 := below_then hT4 hB5
  have hc5 := block_below hB5 hc4
  have ha5 := block_below hB5 ha4
  have hb5 := block_below hB5 hb4
  clear hT4 hc4 ha4 hb4  hB5
  have w8 : wrap64 (8 * (N : Int)) = 8 * (N : Int) := by unfold wrap64; omega
  have w9 : wrap64 (c.t + 8 * (N : Int)) = x := by rw [← Hx.out]; unfold wrap64; have := HX.out; omega
  have w7 : wrap64 (c.t + 7) = c.t + 7 := by unfold wrap64; have := HX.out; omega
  have hy4 : (y != 3) = true := by simpa [bne] using hy3
  by_cases h0 : N = 0
  · skip
    have h247 : 247 < c.t := HX.out.1.1 h0
    have HD := Lib.hid (show stepV d1 1 = ⟨256, 0, 3, 0⟩ from by rw [← Hd1.out]; exact HD0.out h247)
    have e1 : ((P : Int) == 1) = true := by have := HP.out; simp; omega
    have e3 : (P == 1) = true := by have := HP.out; simp; omega
    have e2 : (P : Int) = 1 := by have := HP.out; omega
    have H0 := Lib.hid h0
    clear h247 h0 e2
    obtain ⟨cc0, cc1, cc2, cc3⟩ := HasC.cc (c := c) hc5
    obtain ⟨ac0, ac1, ac2, ac3⟩ := HasC.cc (c := ⟨256, 0, 3, 0⟩) ha5
    dsimp only at ac0 ac1 ac2 ac3
    obtain ⟨bc0, bc1, bc2, bc3⟩ := HasC.cc (c := ⟨x, c.r, y, 0⟩) hb5
    dsimp only at bc0 bc1 bc2 bc3
    go_wp2_with fail
    clear cc0 cc1 cc2 cc3 ac0 ac1 ac2 ac3 bc0 bc1 bc2 bc3
    refine (step1_any d1 ⟨256, 0, 3, 0⟩ 1 HD.out Hdok.out w5).mono ?_
    rintro e w6 ⟨rfl, hB6⟩
    have hT6 := below_then hT5 hB6
    have hc6 := block_below hB6 hc5
    have ha6 := block_below hB6 ha5
    have hb6 := block_below hB6 hb5
    clear hT5 hc5 ha5 hb5  hB6
    obtain ⟨cc0, cc1, cc2, cc3⟩ := HasC.cc (c := c) hc6
    obtain ⟨ac0, ac1, ac2, ac3⟩ := HasC.cc (c := ⟨256, 0, 3, 0⟩) ha6
    dsimp only at ac0 ac1 ac2 ac3
    obtain ⟨bc0, bc1, bc2, bc3⟩ := HasC.cc (c := ⟨x, c.r, y, 0⟩) hb6
    dsimp only at bc0 bc1 bc2 bc3
    have hlc := (Array.getElem?_eq_some_iff.1 hc6).1
    have hla := (Array.getElem?_eq_some_iff.1 ha6).1
    have hlb := (Array.getElem?_eq_some_iff.1 hb6).1
    go_wp2_with fail
    go_ret
    exact ⟨rfl, below_then hT6 (below_alloc1 _ _)⟩
  have h247 : c.t ≤ 247 := by have := HX.out.1; omega
  have e1 : ((P : Int) == 1) = false := by have := HP.out; simp; omega
  have e2 : ¬ ((P : Int) = 1) := by have := HP.out; omega
  have e3 : (P == 1) = false := by have := HP.out; simp; omega
  have e4 : ¬ P = 1 := by have := HP.out; omega
  obtain ⟨z, hz⟩ : ∃ q, (mkC (c.t + 7) c.r).s = q := ⟨_, rfl⟩
  have Hz := Lib.hid hz
  clear hz
  have HD := Lib.hid (show stepV d1 1 = ⟨c.t + 7, c.r, z, 0⟩ from by rw [← Hd1.out, HD1.out h247, ← Hz.out]; rfl)
  clear h247 h0
  obtain ⟨cc0, cc1, cc2, cc3⟩ := HasC.cc (c := c) hc5
  obtain ⟨ac0, ac1, ac2, ac3⟩ := HasC.cc (c := ⟨256, 0, 3, 0⟩) ha5
  dsimp only at ac0 ac1 ac2 ac3
  obtain ⟨bc0, bc1, bc2, bc3⟩ := HasC.cc (c := ⟨x, c.r, y, 0⟩) hb5
  dsimp only at bc0 bc1 bc2 bc3
  go_wp2_with fail
  clear cc0 cc1 cc2 cc3 ac0 ac1 ac2 ac3 bc0 bc1 bc2 bc3
  refine (step1_any d1 ⟨(c.t + 7), c.r, z, 0⟩ 1 HD.out Hdok.out w5).mono ?_
  rintro e w6 ⟨rfl, hB6⟩
  have hT6 := below_then hT5 hB6
  have hc6 := block_below hB6 hc5
  have ha6 := block_below hB6 ha5
  have hb6 := block_below hB6 hb5
  clear hT5 hc5 ha5 hb5  hB6
  obtain ⟨cc0, cc1, cc2, cc3⟩ := HasC.cc (c := c) hc6
  obtain ⟨ac0, ac1, ac2, ac3⟩ := HasC.cc (c := ⟨256, 0, 3, 0⟩) ha6
  dsimp only at ac0 ac1 ac2 ac3
  obtain ⟨bc0, bc1, bc2, bc3⟩ := HasC.cc (c := ⟨x, c.r, y, 0⟩) hb6
  dsimp only at bc0 bc1 bc2 bc3
  have hlc := (Array.getElem?_eq_some_iff.1 hc6).1
  have hla := (Array.getElem?_eq_some_iff.1 ha6).1
  have hlb := (Array.getElem?_eq_some_iff.1 hb6).1
  go_wp2_with fail
  go_ret
  exact ⟨rfl, below_then hT6 (below_alloc1 _ _)⟩

end Go.Proofs.Ytbkldbckcnnafaa
