/-
  CountOff.
-/
import Derived.Test.YtbkldbckcnnafaaCntMath
import Derived.Test.YtbkldbckcnnafaaHead8
import Derived.Test.YtbkldbckcnnafaaCell8
namespace Go.Proofs.Ytbkldbckcnnafaa
open Go.RowKit
set_option linter.unusedVariables false
set_option linter.unusedSimpArgs false

set_option maxRecDepth 100000 in
set_option maxHeartbeats 1000000 in
theorem countOff_any (c : CV) (l : List Int) (n : Nat) (hn : l.length = n) (A : Option Addr) (cp : Nat) (w : World) (hl : Row .i64 w w.heap.size A l) :
    Calls Try.prog 5 #[c.v, .slice A n cp] w fun e w' => e = .returned (.bool true) ∧ Below w.heap.size w w' := by
  have Hn := Lib.hid hn
  clear hn
  have q1 := eqIn_c
  have q2 := eq_c
  have q3 := neq_c
  have q4 := sameC_refl
  go_enter Try.func5, Try.ntmps5
  go_wp2_with fail
  obtain ⟨w0, hw0⟩ : ∃ w0, w.alloc (.cells #[.int .i64 c.t, .int .i64 c.r, .int .i64 c.s, .int .i64 c.q] 23) = w0 := ⟨_, rfl⟩
  have hT0 : Below w.heap.size w w0 := by rw [← hw0]; exact below_alloc1 _ _
  have hc0 : HasC w0 w.heap.size c := by rw [← hw0]; exact World.alloc_heap_new _ _
  rw [hw0]
  clear hw0
  refine (head_any w0).mono ?_
  rintro e w1 ⟨rfl, hB1⟩
  have hT1 := below_then hT0 hB1
  have hc1 := block_below hB1 hc0
  clear hT0 hc0   hB1
  by_cases hbig : 2000 < n
  · skip
    have hb2 : (2000 : Int) < (n : Int) := by omega
    obtain ⟨cc0, cc1, cc2, cc3⟩ := HasC.cc (c := c) hc1
    go_wp2_with fail
    go_ret
    exact ⟨rfl, hT1⟩
  have hb2 : ¬ (2000 : Int) < (n : Int) := by omega
  obtain ⟨cc0, cc1, cc2, cc3⟩ := HasC.cc (c := c) hc1
  go_wp2_with fail
  clear cc0 cc1 cc2 cc3
  obtain ⟨q, hq⟩ : ∃ q, rightV c = q := ⟨_, rfl⟩
  have Hq := Lib.hid hq
  clear hq
  cases q
  · skip
    refine (right_q c false Hq.out w1).mono ?_
    rintro e w2 ⟨rfl, hB2⟩
    have hT2 := below_then hT1 hB2
    have hc2 := block_below hB2 hc1
    clear hT1 hc1   hB2
    obtain ⟨cc0, cc1, cc2, cc3⟩ := HasC.cc (c := c) hc2
    go_wp2_with fail
    go_ret
    exact ⟨rfl, hT2⟩
  refine (right_q c true Hq.out w1).mono ?_
  rintro e w2 ⟨rfl, hB2⟩
  have hT2 := below_then hT1 hB2
  have hc2 := block_below hB2 hc1
  clear hT1 hc1   hB2
  have Hok := Lib.hid (show OkC c from of_decide_eq_true (show decide (OkC c) = true from Hq.out))
  by_cases hs : c.s = 3
  · skip
    obtain ⟨hoff, hq0, hq1⟩ := ok_off_eq Hok.out hs
    obtain ⟨q0, hq⟩ : ∃ q0, c.q = q0 := ⟨_, rfl⟩
    rw [hq] at hoff hq0 hq1
    subst hoff
    clear hq hs Hok Hq
    unfold offC at hc2 ⊢
    dsimp only at hc2 ⊢
    obtain ⟨cc0, cc1, cc2, cc3⟩ := HasC.cc (c := ⟨256, 0, 3, q0⟩) hc2
    dsimp only at cc0 cc1 cc2 cc3
    go_wp2_with fail
    clear cc0 cc1 cc2 cc3
    go_loopw [6, 7] (fun cm i wr => ∃ (k : Nat) (q : Int), k ≤ n ∧ i = .int .i64 k ∧ cm = .int .i64 q ∧ 0 ≤ q ∧ q ≤ 127 ∧ HasC wr w.heap.size ⟨256, 0, 3, q⟩ ∧ Below w.heap.size w wr) (fun _ i _ => n - (intOf i).toNat)
    case atStart => exact ⟨0, q0, Nat.zero_le _, rfl, rfl, hq0, hq1, hc2, hT2⟩
    case round =>
      clear hc2 hT2 hq0 hq1
      obtain ⟨k, q, hk, rfl, rfl, hq0, hq1, hc50, hT50⟩ := hrel
      by_cases hlt : k < n
      · skip
        obtain ⟨ad, x, rfl, hx, hx50⟩ := (hl.below hT50).get_ (k := k) (by rw [Hn.out]; exact hlt)
        clear hx
        have i1 : (0 : Int) ≤ (k : Int) := by omega
        have i2 : (k : Int) < (n : Int) := by omega
        by_cases h6 : x = 6
        · skip
          subst h6
          by_cases h7 : q = 127
          · skip
            subst h7
            have Hd := Lib.hid (show stepV ⟨256, 0, 3, 127⟩ 6 = ⟨0, 0, 1, 0⟩ from fact3)
            obtain ⟨cc0, cc1, cc2, cc3⟩ := HasC.cc (c := ⟨256, 0, 3, 127⟩) hc50
            dsimp only at cc0 cc1 cc2 cc3
            go_wp2_with fail
            clear cc0 cc1 cc2 cc3
            have hltc : w.heap.size < wr.heap.size := (Array.getElem?_eq_some_iff.1 hc50).1
            have hltx : (ad.add k).block < wr.heap.size := World.block_lt_of_cell? _ _ hx50
            go_cut [8] from 32 to 37 (fun p wc => ∃ X : Nat, p = .pointer (some ⟨X, 0, none⟩) ∧ wr.heap.size ≤ X ∧ HasC wc X ⟨0, 0, 1, 0⟩ ∧ Below wr.heap.size wr wc)
            case first =>
              refine wp_region_held_drew (S := fun W => (W.cell? ⟨w.heap.size, 0, none⟩ = some (.int .i64 256) ∧ W.cell? ⟨w.heap.size, 1, none⟩ = some (.int .i64 0) ∧ W.cell? ⟨w.heap.size, 2, none⟩ = some (.int .i64 3) ∧ W.cell? ⟨w.heap.size, 3, none⟩ = some (.int .i64 127)) ∧ W.cell? (ad.add k) = some (.int .i64 6)) (by kernel_rfl) (by exact ⟨HasC.cc (c := ⟨256, 0, 3, 127⟩) (block_below (below_drew1 _) hc50), (cell_below (below_drew1 _) hx50)⟩) (fun hHeld_ => ?_)
              refine wpAnyH_take' (i := 0) (v := ?vm1_0_0_) 32 rfl rfl (by kernel_rfl) (by kernel_rfl) (by kernel_rfl) (fun _ _ _ h => h) (Or.inl ⟨by kernel_rfl, ?hm1_0_0_⟩) (by assumption) ?rm1_0_0_
              case hm1_0_0_ => (intro W_ hS_; (try dsimp only at hS_); go_simp; (try (with_reducible rfl)))
              try simp only [Act.put, List.setIfInBounds_toArray, List.set_cons_zero, List.set_cons_succ]
              refine wpAnyH_take' (i := 1) (v := ?vm1_1_0_) 33 rfl rfl (by kernel_rfl) (by kernel_rfl) (by kernel_rfl) (fun _ _ _ h => h) (Or.inl ⟨by kernel_rfl, ?hm1_1_0_⟩) (by assumption) ?rm1_1_0_
              case hm1_1_0_ => (intro W_ hS_; (try dsimp only at hS_); go_simp; (try (with_reducible rfl)))
              try simp only [Act.put, List.setIfInBounds_toArray, List.set_cons_zero, List.set_cons_succ]
              refine wpAnyH_take' (i := 2) (v := ?vm1_2_0_) 34 rfl rfl (by kernel_rfl) (by kernel_rfl) (by kernel_rfl) (fun _ _ _ h => h) (Or.inl ⟨by kernel_rfl, ?hm1_2_0_⟩) (by assumption) ?rm1_2_0_
              case hm1_2_0_ => (intro W_ hS_; (try dsimp only at hS_); go_simp; (try (with_reducible rfl)))
              try simp only [Act.put, List.setIfInBounds_toArray, List.set_cons_zero, List.set_cons_succ]
              refine wpAnyH_take' (i := 3) (v := ?vm1_3_0_) 35 rfl rfl (by kernel_rfl) (by kernel_rfl) (by kernel_rfl) (fun _ _ _ h => h) (Or.inl ⟨by kernel_rfl, ?hm1_3_0_⟩) (by assumption) ?rm1_3_0_
              case hm1_3_0_ => (intro W_ hS_; (try dsimp only at hS_); go_simp; (try (with_reducible rfl)))
              try simp only [Act.put, List.setIfInBounds_toArray, List.set_cons_zero, List.set_cons_succ]
              refine wpAnyH_take' (i := 4) (v := ?vm1_4_0_) 36 rfl rfl (by kernel_rfl) (by kernel_rfl) (by kernel_rfl) (fun _ _ _ h => h) (Or.inl ⟨by kernel_rfl, ?hm1_4_0_⟩) (by assumption) ?rm1_4_0_
              case hm1_4_0_ => (intro W_ hS_; (try dsimp only at hS_); go_simp; (try (with_reducible rfl)))
              try simp only [Act.put, List.setIfInBounds_toArray, List.set_cons_zero, List.set_cons_succ]
              refine wpAnyH_ready (rs := [5, 6]) (by kernel_rfl) (by simp) ?_
              refine (AllReadyH.cons rfl (fun K_ hK_ => ?_) (AllReadyH.cons rfl (fun K_ hK_ => ?_) AllReadyH.nil))
              · go_simp
                refine (step1_any ⟨256, 0, 3, 127⟩ ⟨0, 0, 1, 0⟩ 6 Hd.out ok_off127 _).mono ?_
                rintro e wr5 ⟨rfl, hBr5⟩
                go_wp2_with fail
                refine hK_.out _ _ (by exact ⟨HasC.cc (c := ⟨256, 0, 3, 127⟩) (block_below hBr5 (block_below (below_drew1 _) hc50)), (cell_below hBr5 (cell_below (below_drew1 _) hx50))⟩) (fun hHeld_5_0 => ?_)
                clear hK_
                try simp only [Act.put, List.setIfInBounds_toArray, List.set_cons_zero, List.set_cons_succ]
                refine wpAnyH_ready (rs := [6]) (by kernel_rfl) (by simp) ?_
                refine (AllReadyH.cons rfl (fun K_ hK_ => ?_) AllReadyH.nil)
                go_simp
                have hblk6 : (wr5.alloc (.cells #[.int .i64 0, .int .i64 0, .int .i64 0, .int .i64 0] 23)).heap[wr5.heap.size]? = some (.cells #[.int .i64 0, .int .i64 0, .int .i64 0, .int .i64 0] 23) := World.alloc_heap_new _ _
                go_wp2_with fail
                refine hK_.out _ _ (by exact ⟨HasC.cc (c := ⟨256, 0, 3, 127⟩) (block_below (below_alloc1 _ _) (block_below hBr5 (block_below (below_drew1 _) hc50))), (cell_below (below_alloc1 _ _) (cell_below hBr5 (cell_below (below_drew1 _) hx50)))⟩) (fun hHeld_6_1 => ?_)
                clear hK_
                try simp only [Act.put, List.setIfInBounds_toArray, List.set_cons_zero, List.set_cons_succ]
                refine wpAnyH_ready (rs := [7]) (by kernel_rfl) (by simp) ?_
                refine (AllReadyH.cons rfl (fun K_ hK_ => ?_) AllReadyH.nil)
                go_simp
                go_wp2_with fail
                refine hK_.out _ _ (by exact ⟨HasC.cc (c := ⟨256, 0, 3, 127⟩) (block_below (below_alloc1 _ _) (block_below hBr5 (block_below (below_drew1 _) hc50))), (cell_below (below_alloc1 _ _) (cell_below hBr5 (cell_below (below_drew1 _) hx50)))⟩) (fun hHeld_7_2 => ?_)
                clear hK_
                try simp only [Act.put, List.setIfInBounds_toArray, List.set_cons_zero, List.set_cons_succ]
                refine wpAnyH_done (by kernel_rfl) ?_ _
                go_wp2_with fail
                go_meet
                exact ⟨wr5.heap.size, rfl, (below_then (below_drew1 _) hBr5).size, World.alloc_heap_new _ _, (below_then (below_then (below_drew1 _) hBr5) (below_alloc1 _ _))⟩
              · go_simp
                have hblk6 : (wr.alloc (.cells #[.int .i64 0, .int .i64 0, .int .i64 0, .int .i64 0] 23)).drew.heap[wr.heap.size]? = some (.cells #[.int .i64 0, .int .i64 0, .int .i64 0, .int .i64 0] 23) := World.alloc_heap_new wr _
                go_wp2_with fail
                refine hK_.out _ _ (by exact ⟨HasC.cc (c := ⟨256, 0, 3, 127⟩) (block_below (below_drew1 _) (block_below (below_alloc1 _ _) hc50)), (cell_below (below_drew1 _) (cell_below (below_alloc1 _ _) hx50))⟩) (fun hHeld_6_0 => ?_)
                clear hK_
                try simp only [Act.put, List.setIfInBounds_toArray, List.set_cons_zero, List.set_cons_succ]
                refine wpAnyH_ready (rs := [5]) (by kernel_rfl) (by simp) ?_
                refine (AllReadyH.cons rfl (fun K_ hK_ => ?_) AllReadyH.nil)
                go_simp
                refine (step1_any ⟨256, 0, 3, 127⟩ ⟨0, 0, 1, 0⟩ 6 Hd.out ok_off127 _).mono ?_
                rintro e wr5 ⟨rfl, hBr5⟩
                have hblk5 := block_below hBr5 hblk6
                go_wp2_with fail
                refine hK_.out _ _ (by exact ⟨HasC.cc (c := ⟨256, 0, 3, 127⟩) (block_below hBr5 (block_below (below_drew1 _) (block_below (below_alloc1 _ _) hc50))), (cell_below hBr5 (cell_below (below_drew1 _) (cell_below (below_alloc1 _ _) hx50)))⟩) (fun hHeld_5_1 => ?_)
                clear hK_
                try simp only [Act.put, List.setIfInBounds_toArray, List.set_cons_zero, List.set_cons_succ]
                refine wpAnyH_ready (rs := [7]) (by kernel_rfl) (by simp) ?_
                refine (AllReadyH.cons rfl (fun K_ hK_ => ?_) AllReadyH.nil)
                obtain ⟨⟨z0, z1, z2, z3⟩, y0, y1, y2, y3⟩ := cells4 hblk5
                go_simp
                go_wp2_with fail
                clear z0 z1 z2 z3 y0 y1 y2 y3
                refine hK_.out _ _ (by exact ⟨HasC.cc (c := ⟨256, 0, 3, 127⟩) (other_grownF (set4_grown _ _ _ _ _ _) (block_below hBr5 (block_below (below_drew1 _) (block_below (below_alloc1 _ _) hc50))) (by omega)), (cell_set4 (cell_below hBr5 (cell_below (below_drew1 _) (cell_below (below_alloc1 _ _) hx50))) (by omega) _ _ _ _)⟩) (fun hHeld_7_2 => ?_)
                clear hK_
                try simp only [Act.put, List.setIfInBounds_toArray, List.set_cons_zero, List.set_cons_succ]
                refine wpAnyH_done (by kernel_rfl) ?_ _
                go_wp2_with fail
                go_meet
                exact ⟨wr.heap.size, rfl, Nat.le_refl _, set4_obj hblk5 _ _ _ _, below_set4 (below_then (below_then (below_alloc1 _ _) (below_drew1 _)) hBr5) (Nat.le_refl _) _ _ _ _⟩
            case rest =>
            obtain ⟨Xd, rfl, hXd, hd51, hB51⟩ := hcut
            obtain ⟨w51, e_⟩ : ∃ w_, w_ = wc := ⟨_, rfl⟩
            subst e_
            clear hltc hltx
            have hT51 := below_then hT50 hB51
            have hc51 := block_below hB51 hc50
            have hx51 := cell_below hB51 hx50
            clear hT50 hc50 hx50  hB51
            have w1 : wrap64 (127 + 1) = 128 := by unfold wrap64; omega
            obtain ⟨cc0, cc1, cc2, cc3⟩ := HasC.cc (c := ⟨256, 0, 3, 127⟩) hc51
            dsimp only at cc0 cc1 cc2 cc3
            obtain ⟨dc0, dc1, dc2, dc3⟩ := HasC.cc (c := ⟨0, 0, 1, 0⟩) hd51
            dsimp only at dc0 dc1 dc2 dc3
            go_wp2_with fail
            clear cc0 cc1 cc2 cc3 dc0 dc1 dc2 dc3
            refine wp_region_held_drew (S := fun W => (W.cell? ⟨w.heap.size, 0, none⟩ = some (.int .i64 256) ∧ W.cell? ⟨w.heap.size, 1, none⟩ = some (.int .i64 0) ∧ W.cell? ⟨w.heap.size, 2, none⟩ = some (.int .i64 3) ∧ W.cell? ⟨w.heap.size, 3, none⟩ = some (.int .i64 127)) ∧ (W.cell? ⟨Xd, 0, none⟩ = some (.int .i64 0) ∧ W.cell? ⟨Xd, 1, none⟩ = some (.int .i64 0) ∧ W.cell? ⟨Xd, 2, none⟩ = some (.int .i64 1) ∧ W.cell? ⟨Xd, 3, none⟩ = some (.int .i64 0)) ∧ W.cell? (ad.add k) = some (.int .i64 6)) (by kernel_rfl) (by exact ⟨HasC.cc (c := ⟨256, 0, 3, 127⟩) (block_below (below_drew1 _) hc51), HasC.cc (c := ⟨0, 0, 1, 0⟩) (block_below (below_drew1 _) hd51), (cell_below (below_drew1 _) hx51)⟩) (fun hHeld_ => ?_)
            refine wpAnyH_take' (i := 0) (v := ?v0_t2) 47 rfl rfl (by kernel_rfl) (by kernel_rfl) (by kernel_rfl) (fun _ _ _ h => h) (Or.inl ⟨by kernel_rfl, ?hy0_t2⟩) (by assumption) ?rest0_t2
            case hy0_t2 => (intro W_ hS_; (try dsimp only at hS_); go_simp; (try (with_reducible rfl)))
            try simp only [Act.put, List.setIfInBounds_toArray, List.set_cons_zero, List.set_cons_succ]
            refine wpAnyH_take' (i := 1) (v := ?v1_t2) 48 rfl rfl (by kernel_rfl) (by kernel_rfl) (by kernel_rfl) (fun _ _ _ h => h) (Or.inl ⟨by kernel_rfl, ?hy1_t2⟩) (by assumption) ?rest1_t2
            case hy1_t2 => (intro W_ hS_; (try dsimp only at hS_); go_simp; (try (with_reducible rfl)))
            try simp only [Act.put, List.setIfInBounds_toArray, List.set_cons_zero, List.set_cons_succ]
            refine wpAnyH_take' (i := 2) (v := ?v2_t2) 49 rfl rfl (by kernel_rfl) (by kernel_rfl) (by kernel_rfl) (fun _ _ _ h => h) (Or.inl ⟨by kernel_rfl, ?hy2_t2⟩) (by assumption) ?rest2_t2
            case hy2_t2 => (intro W_ hS_; (try dsimp only at hS_); go_simp; (try (with_reducible rfl)))
            try simp only [Act.put, List.setIfInBounds_toArray, List.set_cons_zero, List.set_cons_succ]
            refine wpAnyH_ready (rs := [3]) (by kernel_rfl) (by simp) ?_
            refine AllReadyH.cons rfl (fun K_ hK_ => ?_) AllReadyH.nil
            go_simp
            refine (new_any _).mono ?_; rintro e wr3 ⟨rfl, hBr3⟩
            go_wp2_with fail
            refine hK_.out _ _ (by exact ⟨HasC.cc (c := ⟨256, 0, 3, 127⟩) (block_below hBr3 (block_below (below_drew1 _) hc51)), HasC.cc (c := ⟨0, 0, 1, 0⟩) (block_below hBr3 (block_below (below_drew1 _) hd51)), (cell_below hBr3 (cell_below (below_drew1 _) hx51))⟩) (fun hHeld_3 => ?_)
            clear hK_
            try simp only [Act.put, List.setIfInBounds_toArray, List.set_cons_zero, List.set_cons_succ]
            refine wpAnyH_take' (i := 4) (v := ?v4_t2) 51 rfl rfl (by kernel_rfl) (by kernel_rfl) (by kernel_rfl) (fun _ _ _ h => h) (Or.inl ⟨by kernel_rfl, ?hy4_t2⟩) (by assumption) ?rest4_t2
            case hy4_t2 => (intro W_ hS_; (try dsimp only at hS_); go_simp; (try (with_reducible rfl)))
            try simp only [Act.put, List.setIfInBounds_toArray, List.set_cons_zero, List.set_cons_succ]
            refine wpAnyH_take' (i := 5) (v := ?v5_t2) 52 rfl rfl (by kernel_rfl) (by kernel_rfl) (by kernel_rfl) (fun _ _ _ h => h) (Or.inl ⟨by kernel_rfl, ?hy5_t2⟩) (by assumption) ?rest5_t2
            case hy5_t2 => (intro W_ hS_; (try dsimp only at hS_); go_simp; (try (with_reducible rfl)))
            try simp only [Act.put, List.setIfInBounds_toArray, List.set_cons_zero, List.set_cons_succ]
            refine wpAnyH_take' (i := 6) (v := ?v6_t2) 4 rfl rfl (by kernel_rfl) (by kernel_rfl) (by kernel_rfl) (fun _ _ _ h => h) (Or.inl ⟨by kernel_rfl, ?hy6_t2⟩) (by assumption) ?rest6_t2
            case hy6_t2 => (intro W_ hS_; (try dsimp only at hS_); go_simp; (try (with_reducible rfl)))
            try simp only [Act.put, List.setIfInBounds_toArray, List.set_cons_zero, List.set_cons_succ]
            refine wpAnyH_done (by kernel_rfl) ?_ _
            go_wp2_with fail
            go_ret
            exact ⟨rfl, below_then hT51 (below_then (below_drew1 _) hBr3)⟩
          have Hd := Lib.hid (show stepV ⟨256, 0, 3, q⟩ 6 = ⟨256, 0, 3, (q + 1)⟩ from step_off_calm h7)
          have w1 : wrap64 (q + 1) = q + 1 := by unfold wrap64; omega
          have w2 : (q + 1 == 128) = false := by simp; omega
          have w3 : ¬ (q + 1 = 128) := by omega
          have H7 := Lib.hid h7
          clear h7
          obtain ⟨cc0, cc1, cc2, cc3⟩ := HasC.cc (c := ⟨256, 0, 3, q⟩) hc50
          dsimp only at cc0 cc1 cc2 cc3
          go_wp2_with fail
          clear cc0 cc1 cc2 cc3
          have hltc : w.heap.size < wr.heap.size := (Array.getElem?_eq_some_iff.1 hc50).1
          have hltx : (ad.add k).block < wr.heap.size := World.block_lt_of_cell? _ _ hx50
          go_cut [8] from 32 to 37 (fun p wc => ∃ X : Nat, p = .pointer (some ⟨X, 0, none⟩) ∧ wr.heap.size ≤ X ∧ HasC wc X ⟨256, 0, 3, (q + 1)⟩ ∧ Below wr.heap.size wr wc)
          case first =>
            refine wp_region_held_drew (S := fun W => (W.cell? ⟨w.heap.size, 0, none⟩ = some (.int .i64 256) ∧ W.cell? ⟨w.heap.size, 1, none⟩ = some (.int .i64 0) ∧ W.cell? ⟨w.heap.size, 2, none⟩ = some (.int .i64 3) ∧ W.cell? ⟨w.heap.size, 3, none⟩ = some (.int .i64 q)) ∧ W.cell? (ad.add k) = some (.int .i64 6)) (by kernel_rfl) (by exact ⟨HasC.cc (c := ⟨256, 0, 3, q⟩) (block_below (below_drew1 _) hc50), (cell_below (below_drew1 _) hx50)⟩) (fun hHeld_ => ?_)
            refine wpAnyH_take' (i := 0) (v := ?vm3_0_0_) 32 rfl rfl (by kernel_rfl) (by kernel_rfl) (by kernel_rfl) (fun _ _ _ h => h) (Or.inl ⟨by kernel_rfl, ?hm3_0_0_⟩) (by assumption) ?rm3_0_0_
            case hm3_0_0_ => (intro W_ hS_; (try dsimp only at hS_); go_simp; (try (with_reducible rfl)))
            try simp only [Act.put, List.setIfInBounds_toArray, List.set_cons_zero, List.set_cons_succ]
            refine wpAnyH_take' (i := 1) (v := ?vm3_1_0_) 33 rfl rfl (by kernel_rfl) (by kernel_rfl) (by kernel_rfl) (fun _ _ _ h => h) (Or.inl ⟨by kernel_rfl, ?hm3_1_0_⟩) (by assumption) ?rm3_1_0_
            case hm3_1_0_ => (intro W_ hS_; (try dsimp only at hS_); go_simp; (try (with_reducible rfl)))
            try simp only [Act.put, List.setIfInBounds_toArray, List.set_cons_zero, List.set_cons_succ]
            refine wpAnyH_take' (i := 2) (v := ?vm3_2_0_) 34 rfl rfl (by kernel_rfl) (by kernel_rfl) (by kernel_rfl) (fun _ _ _ h => h) (Or.inl ⟨by kernel_rfl, ?hm3_2_0_⟩) (by assumption) ?rm3_2_0_
            case hm3_2_0_ => (intro W_ hS_; (try dsimp only at hS_); go_simp; (try (with_reducible rfl)))
            try simp only [Act.put, List.setIfInBounds_toArray, List.set_cons_zero, List.set_cons_succ]
            refine wpAnyH_take' (i := 3) (v := ?vm3_3_0_) 35 rfl rfl (by kernel_rfl) (by kernel_rfl) (by kernel_rfl) (fun _ _ _ h => h) (Or.inl ⟨by kernel_rfl, ?hm3_3_0_⟩) (by assumption) ?rm3_3_0_
            case hm3_3_0_ => (intro W_ hS_; (try dsimp only at hS_); go_simp; (try (with_reducible rfl)))
            try simp only [Act.put, List.setIfInBounds_toArray, List.set_cons_zero, List.set_cons_succ]
            refine wpAnyH_take' (i := 4) (v := ?vm3_4_0_) 36 rfl rfl (by kernel_rfl) (by kernel_rfl) (by kernel_rfl) (fun _ _ _ h => h) (Or.inl ⟨by kernel_rfl, ?hm3_4_0_⟩) (by assumption) ?rm3_4_0_
            case hm3_4_0_ => (intro W_ hS_; (try dsimp only at hS_); go_simp; (try (with_reducible rfl)))
            try simp only [Act.put, List.setIfInBounds_toArray, List.set_cons_zero, List.set_cons_succ]
            refine wpAnyH_ready (rs := [5, 6]) (by kernel_rfl) (by simp) ?_
            refine (AllReadyH.cons rfl (fun K_ hK_ => ?_) (AllReadyH.cons rfl (fun K_ hK_ => ?_) AllReadyH.nil))
            · go_simp
              refine (step1_any ⟨256, 0, 3, q⟩ ⟨256, 0, 3, (q + 1)⟩ 6 Hd.out (off_ok ⟨hq0, hq1⟩) _).mono ?_
              rintro e wr5 ⟨rfl, hBr5⟩
              go_wp2_with fail
              refine hK_.out _ _ (by exact ⟨HasC.cc (c := ⟨256, 0, 3, q⟩) (block_below hBr5 (block_below (below_drew1 _) hc50)), (cell_below hBr5 (cell_below (below_drew1 _) hx50))⟩) (fun hHeld_5_0 => ?_)
              clear hK_
              try simp only [Act.put, List.setIfInBounds_toArray, List.set_cons_zero, List.set_cons_succ]
              refine wpAnyH_ready (rs := [6]) (by kernel_rfl) (by simp) ?_
              refine (AllReadyH.cons rfl (fun K_ hK_ => ?_) AllReadyH.nil)
              go_simp
              have hblk6 : (wr5.alloc (.cells #[.int .i64 0, .int .i64 0, .int .i64 0, .int .i64 0] 23)).heap[wr5.heap.size]? = some (.cells #[.int .i64 0, .int .i64 0, .int .i64 0, .int .i64 0] 23) := World.alloc_heap_new _ _
              go_wp2_with fail
              refine hK_.out _ _ (by exact ⟨HasC.cc (c := ⟨256, 0, 3, q⟩) (block_below (below_alloc1 _ _) (block_below hBr5 (block_below (below_drew1 _) hc50))), (cell_below (below_alloc1 _ _) (cell_below hBr5 (cell_below (below_drew1 _) hx50)))⟩) (fun hHeld_6_1 => ?_)
              clear hK_
              try simp only [Act.put, List.setIfInBounds_toArray, List.set_cons_zero, List.set_cons_succ]
              refine wpAnyH_ready (rs := [7]) (by kernel_rfl) (by simp) ?_
              refine (AllReadyH.cons rfl (fun K_ hK_ => ?_) AllReadyH.nil)
              go_simp
              go_wp2_with fail
              refine hK_.out _ _ (by exact ⟨HasC.cc (c := ⟨256, 0, 3, q⟩) (block_below (below_alloc1 _ _) (block_below hBr5 (block_below (below_drew1 _) hc50))), (cell_below (below_alloc1 _ _) (cell_below hBr5 (cell_below (below_drew1 _) hx50)))⟩) (fun hHeld_7_2 => ?_)
              clear hK_
              try simp only [Act.put, List.setIfInBounds_toArray, List.set_cons_zero, List.set_cons_succ]
              refine wpAnyH_done (by kernel_rfl) ?_ _
              go_wp2_with fail
              go_meet
              exact ⟨wr5.heap.size, rfl, (below_then (below_drew1 _) hBr5).size, World.alloc_heap_new _ _, (below_then (below_then (below_drew1 _) hBr5) (below_alloc1 _ _))⟩
            · go_simp
              have hblk6 : (wr.alloc (.cells #[.int .i64 0, .int .i64 0, .int .i64 0, .int .i64 0] 23)).drew.heap[wr.heap.size]? = some (.cells #[.int .i64 0, .int .i64 0, .int .i64 0, .int .i64 0] 23) := World.alloc_heap_new wr _
              go_wp2_with fail
              refine hK_.out _ _ (by exact ⟨HasC.cc (c := ⟨256, 0, 3, q⟩) (block_below (below_drew1 _) (block_below (below_alloc1 _ _) hc50)), (cell_below (below_drew1 _) (cell_below (below_alloc1 _ _) hx50))⟩) (fun hHeld_6_0 => ?_)
              clear hK_
              try simp only [Act.put, List.setIfInBounds_toArray, List.set_cons_zero, List.set_cons_succ]
              refine wpAnyH_ready (rs := [5]) (by kernel_rfl) (by simp) ?_
              refine (AllReadyH.cons rfl (fun K_ hK_ => ?_) AllReadyH.nil)
              go_simp
              refine (step1_any ⟨256, 0, 3, q⟩ ⟨256, 0, 3, (q + 1)⟩ 6 Hd.out (off_ok ⟨hq0, hq1⟩) _).mono ?_
              rintro e wr5 ⟨rfl, hBr5⟩
              have hblk5 := block_below hBr5 hblk6
              go_wp2_with fail
              refine hK_.out _ _ (by exact ⟨HasC.cc (c := ⟨256, 0, 3, q⟩) (block_below hBr5 (block_below (below_drew1 _) (block_below (below_alloc1 _ _) hc50))), (cell_below hBr5 (cell_below (below_drew1 _) (cell_below (below_alloc1 _ _) hx50)))⟩) (fun hHeld_5_1 => ?_)
              clear hK_
              try simp only [Act.put, List.setIfInBounds_toArray, List.set_cons_zero, List.set_cons_succ]
              refine wpAnyH_ready (rs := [7]) (by kernel_rfl) (by simp) ?_
              refine (AllReadyH.cons rfl (fun K_ hK_ => ?_) AllReadyH.nil)
              obtain ⟨⟨z0, z1, z2, z3⟩, y0, y1, y2, y3⟩ := cells4 hblk5
              go_simp
              go_wp2_with fail
              clear z0 z1 z2 z3 y0 y1 y2 y3
              refine hK_.out _ _ (by exact ⟨HasC.cc (c := ⟨256, 0, 3, q⟩) (other_grownF (set4_grown _ _ _ _ _ _) (block_below hBr5 (block_below (below_drew1 _) (block_below (below_alloc1 _ _) hc50))) (by omega)), (cell_set4 (cell_below hBr5 (cell_below (below_drew1 _) (cell_below (below_alloc1 _ _) hx50))) (by omega) _ _ _ _)⟩) (fun hHeld_7_2 => ?_)
              clear hK_
              try simp only [Act.put, List.setIfInBounds_toArray, List.set_cons_zero, List.set_cons_succ]
              refine wpAnyH_done (by kernel_rfl) ?_ _
              go_wp2_with fail
              go_meet
              exact ⟨wr.heap.size, rfl, Nat.le_refl _, set4_obj hblk5 _ _ _ _, below_set4 (below_then (below_then (below_alloc1 _ _) (below_drew1 _)) hBr5) (Nat.le_refl _) _ _ _ _⟩
          case rest =>
          obtain ⟨Xd, rfl, hXd, hd51, hB51⟩ := hcut
          obtain ⟨w51, e_⟩ : ∃ w_, w_ = wc := ⟨_, rfl⟩
          subst e_
          clear hltc hltx
          have hT51 := below_then hT50 hB51
          have hc51 := block_below hB51 hc50
          have hx51 := cell_below hB51 hx50
          clear hT50 hc50 hx50  hB51
          have hq2 : q + 1 ≤ 127 := by have := H7.out; omega
          obtain ⟨cc0, cc1, cc2, cc3⟩ := HasC.cc (c := ⟨256, 0, 3, q⟩) hc51
          dsimp only at cc0 cc1 cc2 cc3
          obtain ⟨dc0, dc1, dc2, dc3⟩ := HasC.cc (c := ⟨256, 0, 3, (q + 1)⟩) hd51
          dsimp only at dc0 dc1 dc2 dc3
          obtain ⟨f0, f1, f2, f3⟩ := (cells4 hc51).2
          go_wp2_with fail
          go_round
          case measure => simp [intOf]; omega
          exact ⟨k + 1, q + 1, by omega, by go_num, rfl, by omega, by omega, set4_obj hc51 _ _ _ _, below_set4 hT51 (Nat.le_refl _) _ _ _ _⟩
        have Hd := Lib.hid (show stepV ⟨256, 0, 3, q⟩ x = ⟨256, 0, 3, q⟩ from step_off_other h6)
        have w1 : (x == 6) = false := by simpa using h6
        have w2 : (q == 128) = false := by simp; omega
        have w3 : ¬ (q = 128) := by omega
        obtain ⟨cc0, cc1, cc2, cc3⟩ := HasC.cc (c := ⟨256, 0, 3, q⟩) hc50
        dsimp only at cc0 cc1 cc2 cc3
        go_wp2_with fail
        clear cc0 cc1 cc2 cc3
        have hltc : w.heap.size < wr.heap.size := (Array.getElem?_eq_some_iff.1 hc50).1
        have hltx : (ad.add k).block < wr.heap.size := World.block_lt_of_cell? _ _ hx50
        go_cut [8] from 32 to 37 (fun p wc => ∃ X : Nat, p = .pointer (some ⟨X, 0, none⟩) ∧ wr.heap.size ≤ X ∧ HasC wc X ⟨256, 0, 3, q⟩ ∧ Below wr.heap.size wr wc)
        case first =>
          refine wp_region_held_drew (S := fun W => (W.cell? ⟨w.heap.size, 0, none⟩ = some (.int .i64 256) ∧ W.cell? ⟨w.heap.size, 1, none⟩ = some (.int .i64 0) ∧ W.cell? ⟨w.heap.size, 2, none⟩ = some (.int .i64 3) ∧ W.cell? ⟨w.heap.size, 3, none⟩ = some (.int .i64 q)) ∧ W.cell? (ad.add k) = some (.int .i64 x)) (by kernel_rfl) (by exact ⟨HasC.cc (c := ⟨256, 0, 3, q⟩) (block_below (below_drew1 _) hc50), (cell_below (below_drew1 _) hx50)⟩) (fun hHeld_ => ?_)
          refine wpAnyH_take' (i := 0) (v := ?vm4_0_0_) 32 rfl rfl (by kernel_rfl) (by kernel_rfl) (by kernel_rfl) (fun _ _ _ h => h) (Or.inl ⟨by kernel_rfl, ?hm4_0_0_⟩) (by assumption) ?rm4_0_0_
          case hm4_0_0_ => (intro W_ hS_; (try dsimp only at hS_); go_simp; (try (with_reducible rfl)))
          try simp only [Act.put, List.setIfInBounds_toArray, List.set_cons_zero, List.set_cons_succ]
          refine wpAnyH_take' (i := 1) (v := ?vm4_1_0_) 33 rfl rfl (by kernel_rfl) (by kernel_rfl) (by kernel_rfl) (fun _ _ _ h => h) (Or.inl ⟨by kernel_rfl, ?hm4_1_0_⟩) (by assumption) ?rm4_1_0_
          case hm4_1_0_ => (intro W_ hS_; (try dsimp only at hS_); go_simp; (try (with_reducible rfl)))
          try simp only [Act.put, List.setIfInBounds_toArray, List.set_cons_zero, List.set_cons_succ]
          refine wpAnyH_take' (i := 2) (v := ?vm4_2_0_) 34 rfl rfl (by kernel_rfl) (by kernel_rfl) (by kernel_rfl) (fun _ _ _ h => h) (Or.inl ⟨by kernel_rfl, ?hm4_2_0_⟩) (by assumption) ?rm4_2_0_
          case hm4_2_0_ => (intro W_ hS_; (try dsimp only at hS_); go_simp; (try (with_reducible rfl)))
          try simp only [Act.put, List.setIfInBounds_toArray, List.set_cons_zero, List.set_cons_succ]
          refine wpAnyH_take' (i := 3) (v := ?vm4_3_0_) 35 rfl rfl (by kernel_rfl) (by kernel_rfl) (by kernel_rfl) (fun _ _ _ h => h) (Or.inl ⟨by kernel_rfl, ?hm4_3_0_⟩) (by assumption) ?rm4_3_0_
          case hm4_3_0_ => (intro W_ hS_; (try dsimp only at hS_); go_simp; (try (with_reducible rfl)))
          try simp only [Act.put, List.setIfInBounds_toArray, List.set_cons_zero, List.set_cons_succ]
          refine wpAnyH_take' (i := 4) (v := ?vm4_4_0_) 36 rfl rfl (by kernel_rfl) (by kernel_rfl) (by kernel_rfl) (fun _ _ _ h => h) (Or.inl ⟨by kernel_rfl, ?hm4_4_0_⟩) (by assumption) ?rm4_4_0_
          case hm4_4_0_ => (intro W_ hS_; (try dsimp only at hS_); go_simp; (try (with_reducible rfl)))
          try simp only [Act.put, List.setIfInBounds_toArray, List.set_cons_zero, List.set_cons_succ]
          refine wpAnyH_ready (rs := [5, 6]) (by kernel_rfl) (by simp) ?_
          refine (AllReadyH.cons rfl (fun K_ hK_ => ?_) (AllReadyH.cons rfl (fun K_ hK_ => ?_) AllReadyH.nil))
          · go_simp
            refine (step1_any ⟨256, 0, 3, q⟩ ⟨256, 0, 3, q⟩ x Hd.out (off_ok ⟨hq0, hq1⟩) _).mono ?_
            rintro e wr5 ⟨rfl, hBr5⟩
            go_wp2_with fail
            refine hK_.out _ _ (by exact ⟨HasC.cc (c := ⟨256, 0, 3, q⟩) (block_below hBr5 (block_below (below_drew1 _) hc50)), (cell_below hBr5 (cell_below (below_drew1 _) hx50))⟩) (fun hHeld_5_0 => ?_)
            clear hK_
            try simp only [Act.put, List.setIfInBounds_toArray, List.set_cons_zero, List.set_cons_succ]
            refine wpAnyH_ready (rs := [6]) (by kernel_rfl) (by simp) ?_
            refine (AllReadyH.cons rfl (fun K_ hK_ => ?_) AllReadyH.nil)
            go_simp
            have hblk6 : (wr5.alloc (.cells #[.int .i64 0, .int .i64 0, .int .i64 0, .int .i64 0] 23)).heap[wr5.heap.size]? = some (.cells #[.int .i64 0, .int .i64 0, .int .i64 0, .int .i64 0] 23) := World.alloc_heap_new _ _
            go_wp2_with fail
            refine hK_.out _ _ (by exact ⟨HasC.cc (c := ⟨256, 0, 3, q⟩) (block_below (below_alloc1 _ _) (block_below hBr5 (block_below (below_drew1 _) hc50))), (cell_below (below_alloc1 _ _) (cell_below hBr5 (cell_below (below_drew1 _) hx50)))⟩) (fun hHeld_6_1 => ?_)
            clear hK_
            try simp only [Act.put, List.setIfInBounds_toArray, List.set_cons_zero, List.set_cons_succ]
            refine wpAnyH_ready (rs := [7]) (by kernel_rfl) (by simp) ?_
            refine (AllReadyH.cons rfl (fun K_ hK_ => ?_) AllReadyH.nil)
            go_simp
            go_wp2_with fail
            refine hK_.out _ _ (by exact ⟨HasC.cc (c := ⟨256, 0, 3, q⟩) (block_below (below_alloc1 _ _) (block_below hBr5 (block_below (below_drew1 _) hc50))), (cell_below (below_alloc1 _ _) (cell_below hBr5 (cell_below (below_drew1 _) hx50)))⟩) (fun hHeld_7_2 => ?_)
            clear hK_
            try simp only [Act.put, List.setIfInBounds_toArray, List.set_cons_zero, List.set_cons_succ]
            refine wpAnyH_done (by kernel_rfl) ?_ _
            go_wp2_with fail
            go_meet
            exact ⟨wr5.heap.size, rfl, (below_then (below_drew1 _) hBr5).size, World.alloc_heap_new _ _, (below_then (below_then (below_drew1 _) hBr5) (below_alloc1 _ _))⟩
          · go_simp
            have hblk6 : (wr.alloc (.cells #[.int .i64 0, .int .i64 0, .int .i64 0, .int .i64 0] 23)).drew.heap[wr.heap.size]? = some (.cells #[.int .i64 0, .int .i64 0, .int .i64 0, .int .i64 0] 23) := World.alloc_heap_new wr _
            go_wp2_with fail
            refine hK_.out _ _ (by exact ⟨HasC.cc (c := ⟨256, 0, 3, q⟩) (block_below (below_drew1 _) (block_below (below_alloc1 _ _) hc50)), (cell_below (below_drew1 _) (cell_below (below_alloc1 _ _) hx50))⟩) (fun hHeld_6_0 => ?_)
            clear hK_
            try simp only [Act.put, List.setIfInBounds_toArray, List.set_cons_zero, List.set_cons_succ]
            refine wpAnyH_ready (rs := [5]) (by kernel_rfl) (by simp) ?_
            refine (AllReadyH.cons rfl (fun K_ hK_ => ?_) AllReadyH.nil)
            go_simp
            refine (step1_any ⟨256, 0, 3, q⟩ ⟨256, 0, 3, q⟩ x Hd.out (off_ok ⟨hq0, hq1⟩) _).mono ?_
            rintro e wr5 ⟨rfl, hBr5⟩
            have hblk5 := block_below hBr5 hblk6
            go_wp2_with fail
            refine hK_.out _ _ (by exact ⟨HasC.cc (c := ⟨256, 0, 3, q⟩) (block_below hBr5 (block_below (below_drew1 _) (block_below (below_alloc1 _ _) hc50))), (cell_below hBr5 (cell_below (below_drew1 _) (cell_below (below_alloc1 _ _) hx50)))⟩) (fun hHeld_5_1 => ?_)
            clear hK_
            try simp only [Act.put, List.setIfInBounds_toArray, List.set_cons_zero, List.set_cons_succ]
            refine wpAnyH_ready (rs := [7]) (by kernel_rfl) (by simp) ?_
            refine (AllReadyH.cons rfl (fun K_ hK_ => ?_) AllReadyH.nil)
            obtain ⟨⟨z0, z1, z2, z3⟩, y0, y1, y2, y3⟩ := cells4 hblk5
            go_simp
            go_wp2_with fail
            clear z0 z1 z2 z3 y0 y1 y2 y3
            refine hK_.out _ _ (by exact ⟨HasC.cc (c := ⟨256, 0, 3, q⟩) (other_grownF (set4_grown _ _ _ _ _ _) (block_below hBr5 (block_below (below_drew1 _) (block_below (below_alloc1 _ _) hc50))) (by omega)), (cell_set4 (cell_below hBr5 (cell_below (below_drew1 _) (cell_below (below_alloc1 _ _) hx50))) (by omega) _ _ _ _)⟩) (fun hHeld_7_2 => ?_)
            clear hK_
            try simp only [Act.put, List.setIfInBounds_toArray, List.set_cons_zero, List.set_cons_succ]
            refine wpAnyH_done (by kernel_rfl) ?_ _
            go_wp2_with fail
            go_meet
            exact ⟨wr.heap.size, rfl, Nat.le_refl _, set4_obj hblk5 _ _ _ _, below_set4 (below_then (below_then (below_alloc1 _ _) (below_drew1 _)) hBr5) (Nat.le_refl _) _ _ _ _⟩
        case rest =>
        obtain ⟨Xd, rfl, hXd, hd51, hB51⟩ := hcut
        obtain ⟨w51, e_⟩ : ∃ w_, w_ = wc := ⟨_, rfl⟩
        subst e_
        clear hltc hltx
        have hT51 := below_then hT50 hB51
        have hc51 := block_below hB51 hc50
        have hx51 := cell_below hB51 hx50
        clear hT50 hc50 hx50  hB51
        obtain ⟨cc0, cc1, cc2, cc3⟩ := HasC.cc (c := ⟨256, 0, 3, q⟩) hc51
        dsimp only at cc0 cc1 cc2 cc3
        obtain ⟨dc0, dc1, dc2, dc3⟩ := HasC.cc (c := ⟨256, 0, 3, q⟩) hd51
        dsimp only at dc0 dc1 dc2 dc3
        obtain ⟨f0, f1, f2, f3⟩ := (cells4 hc51).2
        go_wp2_with fail
        go_round
        case measure => simp [intOf]; omega
        exact ⟨k + 1, q, by omega, by go_num, rfl, by omega, by omega, set4_obj hc51 _ _ _ _, below_set4 hT51 (Nat.le_refl _) _ _ _ _⟩
      obtain rfl : k = n := by omega
      obtain ⟨cc0, cc1, cc2, cc3⟩ := HasC.cc (c := ⟨256, 0, 3, q⟩) hc50
      dsimp only at cc0 cc1 cc2 cc3
      go_wp2_with fail
      go_ret
      exact ⟨rfl, hT50⟩
  have hs2 : (c.s != 3) = true := by simpa [bne] using hs
  have hs3 : (c.s == 3) = false := by simpa using hs
  obtain ⟨cc0, cc1, cc2, cc3⟩ := HasC.cc (c := c) hc2
  go_wp2_with fail
  go_ret
  exact ⟨rfl, hT2⟩

end Go.Proofs.Ytbkldbckcnnafaa
