/-
  WBusAlone.
-/
import Derived.Test.YtcifjccojmfpaaaGreatJ0
import Derived.Test.YtcifjccojmfpaaaGreatJ1
import Derived.Test.YtcifjccojmfpaaaGreatJ2
import Derived.Test.YtcifjccojmfpaaaGreatJ3
import Derived.Test.YtcifjccojmfpaaaGreatJ4
import Derived.Test.YtcifjccojmfpaaaGreatJ5
import Derived.Test.YtcifjccojmfpaaaGreatJ8
import Derived.Test.YtcifjccojmfpaaaGreatJ9
import Derived.Test.YtcifjccojmfpaaaGreatJ10
set_option maxRecDepth 100000
set_option maxHeartbeats 4000000
namespace Go.Proofs.YtcifjccojmfpaaaGreat
open Go.RowKit
set_option linter.unusedVariables false
set_option linter.unusedSimpArgs false
theorem rep_le (k : Nat) : ∀ H ∈ List.replicate k ([] : List Int), H.length ≤ 1000 := fun H h => by rw [List.eq_of_mem_replicate h]; exact Nat.zero_le _
theorem busAlone_any (hHd : Head10) (f0 : FV) (F0 : FC) (N : Nat) (h256 : N < 256) (w : World) (h : FIs w (fun _ => True) f0 F0) :
    Calls Tryz.prog 8 #[f0.v, .int .u8 N] w fun e w' => e = .returned (.bool true) ∧ Below w.heap.size w w' := by
  obtain ⟨k, hk⟩ : ∃ k : Nat, (N : Int) % 60 = (k : Int) := ⟨N % 60, by omega⟩
  have hk60 : k < 60 := by omega
  have hk2 : Int.tmod (N : Int) 60 = (k : Int) := by rw [Int.tmod_eq_emod_of_nonneg (by omega)]; exact hk
  have hw2 := w64_u8 N h256
  have Hk60 := Lib.hid hk60
  have h0 : FIs w (Out [w.heap.size]) f0 F0 := h.mono out_low10
  clear h
  obtain ⟨w0, hw0⟩ : ∃ w0, (w.alloc (.cells #[.bool f0.x, .int .i64 f0.i, .bool f0.r, .int .i64 f0.n, .slice f0.a f0.m f0.c] 34)) = w0 := ⟨_, rfl⟩
  have hT0 : Below w.heap.size w w0 := by rw [← hw0]; exact below_alloc1 _ _
  have hf0 : w0.heap[w.heap.size]? = some (.cells #[.bool f0.x, .int .i64 f0.i, .bool f0.r, .int .i64 f0.n, .slice f0.a f0.m f0.c] 34) := by rw [← hw0]; exact World.alloc_heap_new _ _
  have hs0 : w0.heap.size = w.heap.size + 1 := by rw [← hw0]; simp
  have Hs0 := Lib.hid hs0
  clear hs0
  have hlf := (Array.getElem?_eq_some_iff.1 hf0).1
  obtain ⟨fc0, fc1, fc2, fc3, fc4⟩ := cells5' hf0
  go_enter Tryz.func8, Tryz.ntmps8
  go_wp2_with fail
  clear hlf fc0 fc1 fc2 fc3 fc4
  clear hw0
  have hZ0 := Below.refl w0.heap.size w0
  clear hZ0
  clear Hs0
  refine (hHd.run w0).mono ?_
  rintro e w1 ⟨rfl, hB1⟩
  have hT1 := below_then hT0 hB1
  have hf1 := block_below hB1 hf0
  clear hT0 hf0  hB1
  have hlf := (Array.getElem?_eq_some_iff.1 hf1).1
  obtain ⟨fc0, fc1, fc2, fc3, fc4⟩ := cells5' hf1
  go_wp2_with fail
  clear hlf fc0 fc1 fc2 fc3 fc4
  obtain ⟨M, hM_⟩ : ∃ M, madeC F0 = M := ⟨_, rfl⟩
  have HMr := Lib.hid (show rightC M = true by rw [← hM_]; exact made_right F0)
  refine (made6_c (Q := Out [w.heap.size]) (h0.to hT1) (out_up (lt_cons (Array.getElem?_eq_some_iff.1 hf1).1 (fun _ h => by cases h))) M hM_).mono ?_
  rintro e w2 ⟨g, rfl, hg_, hB2⟩
  have hT2 := below_then hT1 hB2
  have hf2 := block_below hB2 hf1
  clear hT1 hf1  hB2
  have hg2 := hg_
  clear hg_
  clear hM_
  have hgef : w.heap.size ≤ w.heap.size := Nat.le_refl _
  have hlf := (Array.getElem?_eq_some_iff.1 hf2).1
  obtain ⟨⟨fc0, fc1, fc2, fc3, fc4⟩, ff0, ff1, ff2, ff3, ff4⟩ := cells5 hf2
  go_upto_region 3 with fail
  clear hlf fc0 fc1 fc2 fc3 fc4 ff0 ff1 ff2 ff3 ff4
  obtain ⟨w3, hw3⟩ : ∃ w_, set5 w2 w.heap.size (.bool g.x) (.int .i64 g.i) (.bool g.r) (.int .i64 g.n) (.slice g.a g.m g.c) = w_ := ⟨_, rfl⟩
  have hG3 : w2.grownBy w3 (some w.heap.size) := by rw [← hw3]; exact set5_grown _ _ _ _ _ _ _
  have hT3 := below_g hT2 hG3 hgef
  have hf3 : w3.heap[w.heap.size]? = some (.cells #[.bool g.x, .int .i64 g.i, .bool g.r, .int .i64 g.n, .slice g.a g.m g.c] 34) := by rw [← hw3]; exact set5_obj hf2 _ _ _ _ _
  have hg3 := FIs.grow hg2 hG3 (out_not (by simp))
  have Hsz3 := Lib.hid (show w3.heap.size = w2.heap.size by rw [← hw3]; simp [set5, World.setCell])
  unfold set5 at hw3
  rw [hw3]
  clear hw3 hG3 hT2 hf2 hg2
  clear hgef
  go_upto_region 4 with fail
  clear hk hk2 hw2
  have hmk := Tryz.makeH k (by omega)
  replace hg3 := hg3.mono (Q := fun _ => True) (fun _ _ _ => trivial)
  go_cut [7, 8] from 16 to 26 (fun a b wc => ∃ (A B : Option Addr) (c' d : Nat), a = .slice A 1 c' ∧ b = .slice B k d ∧ NSl wc (fun _ => True) A 1 c' (aloneN M k) ∧ TSl wc (fun _ => True) B k d (List.replicate k ⟨0, M, false, lenZ M + 23⟩) ∧ Below w3.heap.size w3 wc)
  case first =>
    refine wp_region_held_drew (S := fun W => (W.cell? ⟨w.heap.size, 0, none⟩ = some (.bool g.x) ∧ W.cell? ⟨w.heap.size, 1, none⟩ = some (.int .i64 g.i) ∧ W.cell? ⟨w.heap.size, 2, none⟩ = some (.bool g.r) ∧ W.cell? ⟨w.heap.size, 3, none⟩ = some (.int .i64 g.n) ∧ W.cell? ⟨w.heap.size, 4, none⟩ = some (.slice g.a g.m g.c))) (by kernel_rfl) (by exact cells5' (block_below (below_drew1 _) hf3)) (fun hHeld_ => ?_)
    refine wpAnyH_take' (i := 0) (v := ?vt1_0_0_) 17 rfl rfl (by kernel_rfl) (by kernel_rfl) (by kernel_rfl) (fun _ _ _ h => h) (Or.inl ⟨by kernel_rfl, ?hyt1_0_0_⟩) (by assumption) ?rt1_0_0_
    case hyt1_0_0_ => (intro W_ hS_; (try dsimp only at hS_); go_simp; (try (with_reducible rfl)))
    try simp only [Act.put, siA, scZ, scS]
    refine wpAnyH_take' (i := 5) (v := ?vt1_5_0_) 22 rfl rfl (by kernel_rfl) (by kernel_rfl) (by kernel_rfl) (fun _ _ _ h => h) (Or.inl ⟨by kernel_rfl, ?hyt1_5_0_⟩) (by assumption) ?rt1_5_0_
    case hyt1_5_0_ => (intro W_ hS_; (try dsimp only at hS_); go_simp; (try (with_reducible rfl)))
    try simp only [Act.put, siA, scZ, scS]
    refine wpAnyH_ready (rs := [1, 2, 6]) (by kernel_rfl) (by simp) ?_
    refine (AllReadyH.cons rfl (fun K_ hK_ => ?_) (AllReadyH.cons rfl (fun K_ hK_ => ?_) (AllReadyH.cons rfl (fun K_ hK_ => ?_) AllReadyH.nil)))
    · go_simp
      go_wp2_with fail
      obtain ⟨wr1, hw1_⟩ : ∃ w_, (w3.alloc (.cells #[.bool g.x, .int .i64 g.i, .bool g.r, .int .i64 g.n, .slice g.a g.m g.c] 34)).drew = w_ := ⟨_, rfl⟩
      have hBr1 : Below w3.heap.size w3 wr1 := by rw [← hw1_]; exact below_then (below_alloc1 _ _) (below_drew1 _)
      have hq_ : FSl wr1 (fun _ => True) (some ⟨w3.heap.size, 0, none⟩) 1 1 [M] := by rw [← hw1_]; exact (fsl_lit10 hg3 trivial).to (below_drew1 _)
      rw [hw1_]
      clear hw1_
      refine hK_.out _ _ (by exact cells5' (block_below hBr1 hf3)) (fun hHeld_1_0 => ?_)
      clear hK_
      try simp only [Act.put, siA, scZ, scS]
      refine wpAnyH_ready (rs := [2, 6]) (by kernel_rfl) (by simp) ?_
      refine (AllReadyH.cons rfl (fun K_ hK_ => ?_) (AllReadyH.cons rfl (fun K_ hK_ => ?_) AllReadyH.nil))
      · go_simp
        refine (refNew_lit2 _).mono ?_
        rintro e wr2 ⟨rfl, hBr2⟩
        go_wp2_with fail
        refine hK_.out _ _ (by exact cells5' (block_below hBr2 (block_below hBr1 hf3))) (fun hHeld_2_1 => ?_)
        clear hK_
        try simp only [Act.put, siA, scZ, scS]
        refine wpAnyH_take' (i := 3) (v := ?vt1_3_2_1_2) 20 rfl rfl (by kernel_rfl) (by kernel_rfl) (by kernel_rfl) (fun _ _ _ h => h) (Or.inl ⟨by kernel_rfl, ?hyt1_3_2_1_2⟩) (by assumption) ?rt1_3_2_1_2
        case hyt1_3_2_1_2 => (intro W_ hS_; (try dsimp only at hS_); go_simp; (try (with_reducible rfl)))
        try simp only [Act.put, siA, scZ, scS]
        refine wpAnyH_ready (rs := [4, 6]) (by kernel_rfl) (by simp) ?_
        refine (AllReadyH.cons rfl (fun K_ hK_ => ?_) (AllReadyH.cons rfl (fun K_ hK_ => ?_) AllReadyH.nil))
        · go_simp
          go_wp2_with fail
          obtain ⟨wr4, hw4_⟩ : ∃ w_, (wr2.alloc (.cells #[.slice (some ⟨w3.heap.size, 0, none⟩) 1 1, .slice none 0 0, .int .i64 0, .int .i64 0, .int .i64 1, .int .i64 0, .slice none 0 0] 49)) = w_ := ⟨_, rfl⟩
          have hBr4 : Below wr2.heap.size wr2 wr4 := by rw [← hw4_]; exact below_alloc1 _ _
          have hm_ : NSl wr4 (fun _ => True) (some ⟨wr2.heap.size, 0, none⟩) 1 1 [⟨[M], [], newV, []⟩] := by rw [← hw4_]; exact (nsl_lit10 (m := (⟨some ⟨w3.heap.size, 0, none⟩, 1, 1, none, 0, 0, newV, none, 0, 0⟩ : NV)) (nis_lit10 (FSl.to hq_ hBr2)) trivial)
          rw [hw4_]
          clear hw4_
          refine hK_.out _ _ (by exact cells5' (block_below hBr4 (block_below hBr2 (block_below hBr1 hf3)))) (fun hHeld_4_2 => ?_)
          clear hK_
          try simp only [Act.put, siA, scZ, scS]
          refine wpAnyH_ready (rs := [6]) (by kernel_rfl) (by simp) ?_
          refine (AllReadyH.cons rfl (fun K_ hK_ => ?_) AllReadyH.nil)
          go_simp
          go_wp2_with fail
          obtain ⟨wr6, hw6_⟩ : ∃ w_, (wr4.alloc (.cells (gcells HV.cs (List.replicate k zeroHV)).toArray 41)) = w_ := ⟨_, rfl⟩
          have hBr6 : Below wr4.heap.size wr4 wr6 := by rw [← hw6_]; exact below_alloc1 _ _
          have hh_ : HSl wr6 (fun _ => True) (some ⟨wr4.heap.size, 0, none⟩) k k (List.replicate k []) := by rw [← hw6_]; exact (hsl_make k)
          rw [hw6_]
          clear hw6_
          refine hK_.out _ _ (by exact cells5' (block_below hBr6 (block_below hBr4 (block_below hBr2 (block_below hBr1 hf3))))) (fun hHeld_6_3 => ?_)
          clear hK_
          try simp only [Act.put, siA, scZ, scS]
          refine wpAnyH_ready (rs := [7]) (by kernel_rfl) (by simp) ?_
          refine (AllReadyH.cons rfl (fun K_ hK_ => ?_) AllReadyH.nil)
          go_simp
          refine (slots_c (P := (fun _ => True)) (NSl.to hm_ hBr6) (alone_okN HMr.out) (by decide) (by decide) hh_ (by have := Hk60.out; omega) (rep_le k) (fun _ _ => trivial)).mono ?_
          rintro e wr7 ⟨A2, B2, c2, d2, rfl, ha_, hb_, hBr7⟩
          go_wp2_with fail
          refine hK_.out _ _ (by exact cells5' (block_below hBr7 (block_below hBr6 (block_below hBr4 (block_below hBr2 (block_below hBr1 hf3)))))) (fun hHeld_7_4 => ?_)
          clear hK_
          try simp only [Act.put, siA, scZ, scS]
          refine wpAnyH_take' (i := 8) (v := ?vt1_8_5_1_2_4_6_7) 16 rfl rfl (by kernel_rfl) (by kernel_rfl) (by kernel_rfl) (fun _ _ _ h => h) (Or.inl ⟨by kernel_rfl, ?hyt1_8_5_1_2_4_6_7⟩) (by assumption) ?rt1_8_5_1_2_4_6_7
          case hyt1_8_5_1_2_4_6_7 => (intro W_ hS_; (try dsimp only at hS_); go_simp; (try (with_reducible rfl)))
          try simp only [Act.put, siA, scZ, scS]
          refine wpAnyH_take' (i := 9) (v := ?vt1_9_5_1_2_4_6_7) 25 rfl rfl (by kernel_rfl) (by kernel_rfl) (by kernel_rfl) (fun _ _ _ h => h) (Or.inl ⟨by kernel_rfl, ?hyt1_9_5_1_2_4_6_7⟩) (by assumption) ?rt1_9_5_1_2_4_6_7
          case hyt1_9_5_1_2_4_6_7 => (intro W_ hS_; (try dsimp only at hS_); go_simp; (try (with_reducible rfl)))
          try simp only [Act.put, siA, scZ, scS]
          refine wpAnyH_take' (i := 10) (v := ?vt1_10_5_1_2_4_6_7) 26 rfl rfl (by kernel_rfl) (by kernel_rfl) (by kernel_rfl) (fun _ _ _ h => h) (Or.inl ⟨by kernel_rfl, ?hyt1_10_5_1_2_4_6_7⟩) (by assumption) ?rt1_10_5_1_2_4_6_7
          case hyt1_10_5_1_2_4_6_7 => (intro W_ hS_; (try dsimp only at hS_); go_simp; (try (with_reducible rfl)))
          try simp only [Act.put, siA, scZ, scS]
          refine wpAnyH_take' (i := 11) (v := ?vt1_11_5_1_2_4_6_7) 7 rfl rfl (by kernel_rfl) (by kernel_rfl) (by kernel_rfl) (fun _ _ _ h => h) (Or.inl ⟨by kernel_rfl, ?hyt1_11_5_1_2_4_6_7⟩) (by assumption) ?rt1_11_5_1_2_4_6_7
          case hyt1_11_5_1_2_4_6_7 => (intro W_ hS_; (try dsimp only at hS_); go_simp; (try (with_reducible rfl)))
          try simp only [Act.put, siA, scZ, scS]
          refine wpAnyH_take' (i := 12) (v := ?vt1_12_5_1_2_4_6_7) 8 rfl rfl (by kernel_rfl) (by kernel_rfl) (by kernel_rfl) (fun _ _ _ h => h) (Or.inl ⟨by kernel_rfl, ?hyt1_12_5_1_2_4_6_7⟩) (by assumption) ?rt1_12_5_1_2_4_6_7
          case hyt1_12_5_1_2_4_6_7 => (intro W_ hS_; (try dsimp only at hS_); go_simp; (try (with_reducible rfl)))
          try simp only [Act.put, siA, scZ, scS]
          refine wpAnyH_done (by kernel_rfl) ?_ _
          go_wp2_with fail
          go_meet
          exact ⟨A2, B2, c2, d2, rfl, rfl, alone_slotsN M k ▸ ha_, alone_toldsN M k ▸ hb_, (below_then (below_then (below_then (below_then hBr1 hBr2) hBr4) hBr6) hBr7)⟩
        · go_simp
          go_wp2_with fail
          obtain ⟨wr6, hw6_⟩ : ∃ w_, (wr2.alloc (.cells (gcells HV.cs (List.replicate k zeroHV)).toArray 41)) = w_ := ⟨_, rfl⟩
          have hBr6 : Below wr2.heap.size wr2 wr6 := by rw [← hw6_]; exact below_alloc1 _ _
          have hh_ : HSl wr6 (fun _ => True) (some ⟨wr2.heap.size, 0, none⟩) k k (List.replicate k []) := by rw [← hw6_]; exact (hsl_make k)
          rw [hw6_]
          clear hw6_
          refine hK_.out _ _ (by exact cells5' (block_below hBr6 (block_below hBr2 (block_below hBr1 hf3)))) (fun hHeld_6_2 => ?_)
          clear hK_
          try simp only [Act.put, siA, scZ, scS]
          refine wpAnyH_ready (rs := [4]) (by kernel_rfl) (by simp) ?_
          refine (AllReadyH.cons rfl (fun K_ hK_ => ?_) AllReadyH.nil)
          go_simp
          go_wp2_with fail
          obtain ⟨wr4, hw4_⟩ : ∃ w_, (wr6.alloc (.cells #[.slice (some ⟨w3.heap.size, 0, none⟩) 1 1, .slice none 0 0, .int .i64 0, .int .i64 0, .int .i64 1, .int .i64 0, .slice none 0 0] 49)) = w_ := ⟨_, rfl⟩
          have hBr4 : Below wr6.heap.size wr6 wr4 := by rw [← hw4_]; exact below_alloc1 _ _
          have hm_ : NSl wr4 (fun _ => True) (some ⟨wr6.heap.size, 0, none⟩) 1 1 [⟨[M], [], newV, []⟩] := by rw [← hw4_]; exact (nsl_lit10 (m := (⟨some ⟨w3.heap.size, 0, none⟩, 1, 1, none, 0, 0, newV, none, 0, 0⟩ : NV)) (nis_lit10 (FSl.to (FSl.to hq_ hBr2) hBr6)) trivial)
          rw [hw4_]
          clear hw4_
          refine hK_.out _ _ (by exact cells5' (block_below hBr4 (block_below hBr6 (block_below hBr2 (block_below hBr1 hf3))))) (fun hHeld_4_3 => ?_)
          clear hK_
          try simp only [Act.put, siA, scZ, scS]
          refine wpAnyH_ready (rs := [7]) (by kernel_rfl) (by simp) ?_
          refine (AllReadyH.cons rfl (fun K_ hK_ => ?_) AllReadyH.nil)
          go_simp
          refine (slots_c (P := (fun _ => True)) hm_ (alone_okN HMr.out) (by decide) (by decide) (HSl.to hh_ hBr4) (by have := Hk60.out; omega) (rep_le k) (fun _ _ => trivial)).mono ?_
          rintro e wr7 ⟨A2, B2, c2, d2, rfl, ha_, hb_, hBr7⟩
          go_wp2_with fail
          refine hK_.out _ _ (by exact cells5' (block_below hBr7 (block_below hBr4 (block_below hBr6 (block_below hBr2 (block_below hBr1 hf3)))))) (fun hHeld_7_4 => ?_)
          clear hK_
          try simp only [Act.put, siA, scZ, scS]
          refine wpAnyH_take' (i := 8) (v := ?vt1_8_5_1_2_6_4_7) 16 rfl rfl (by kernel_rfl) (by kernel_rfl) (by kernel_rfl) (fun _ _ _ h => h) (Or.inl ⟨by kernel_rfl, ?hyt1_8_5_1_2_6_4_7⟩) (by assumption) ?rt1_8_5_1_2_6_4_7
          case hyt1_8_5_1_2_6_4_7 => (intro W_ hS_; (try dsimp only at hS_); go_simp; (try (with_reducible rfl)))
          try simp only [Act.put, siA, scZ, scS]
          refine wpAnyH_take' (i := 9) (v := ?vt1_9_5_1_2_6_4_7) 25 rfl rfl (by kernel_rfl) (by kernel_rfl) (by kernel_rfl) (fun _ _ _ h => h) (Or.inl ⟨by kernel_rfl, ?hyt1_9_5_1_2_6_4_7⟩) (by assumption) ?rt1_9_5_1_2_6_4_7
          case hyt1_9_5_1_2_6_4_7 => (intro W_ hS_; (try dsimp only at hS_); go_simp; (try (with_reducible rfl)))
          try simp only [Act.put, siA, scZ, scS]
          refine wpAnyH_take' (i := 10) (v := ?vt1_10_5_1_2_6_4_7) 26 rfl rfl (by kernel_rfl) (by kernel_rfl) (by kernel_rfl) (fun _ _ _ h => h) (Or.inl ⟨by kernel_rfl, ?hyt1_10_5_1_2_6_4_7⟩) (by assumption) ?rt1_10_5_1_2_6_4_7
          case hyt1_10_5_1_2_6_4_7 => (intro W_ hS_; (try dsimp only at hS_); go_simp; (try (with_reducible rfl)))
          try simp only [Act.put, siA, scZ, scS]
          refine wpAnyH_take' (i := 11) (v := ?vt1_11_5_1_2_6_4_7) 7 rfl rfl (by kernel_rfl) (by kernel_rfl) (by kernel_rfl) (fun _ _ _ h => h) (Or.inl ⟨by kernel_rfl, ?hyt1_11_5_1_2_6_4_7⟩) (by assumption) ?rt1_11_5_1_2_6_4_7
          case hyt1_11_5_1_2_6_4_7 => (intro W_ hS_; (try dsimp only at hS_); go_simp; (try (with_reducible rfl)))
          try simp only [Act.put, siA, scZ, scS]
          refine wpAnyH_take' (i := 12) (v := ?vt1_12_5_1_2_6_4_7) 8 rfl rfl (by kernel_rfl) (by kernel_rfl) (by kernel_rfl) (fun _ _ _ h => h) (Or.inl ⟨by kernel_rfl, ?hyt1_12_5_1_2_6_4_7⟩) (by assumption) ?rt1_12_5_1_2_6_4_7
          case hyt1_12_5_1_2_6_4_7 => (intro W_ hS_; (try dsimp only at hS_); go_simp; (try (with_reducible rfl)))
          try simp only [Act.put, siA, scZ, scS]
          refine wpAnyH_done (by kernel_rfl) ?_ _
          go_wp2_with fail
          go_meet
          exact ⟨A2, B2, c2, d2, rfl, rfl, alone_slotsN M k ▸ ha_, alone_toldsN M k ▸ hb_, (below_then (below_then (below_then (below_then hBr1 hBr2) hBr6) hBr4) hBr7)⟩
      · go_simp
        go_wp2_with fail
        obtain ⟨wr6, hw6_⟩ : ∃ w_, (wr1.alloc (.cells (gcells HV.cs (List.replicate k zeroHV)).toArray 41)) = w_ := ⟨_, rfl⟩
        have hBr6 : Below wr1.heap.size wr1 wr6 := by rw [← hw6_]; exact below_alloc1 _ _
        have hh_ : HSl wr6 (fun _ => True) (some ⟨wr1.heap.size, 0, none⟩) k k (List.replicate k []) := by rw [← hw6_]; exact (hsl_make k)
        rw [hw6_]
        clear hw6_
        refine hK_.out _ _ (by exact cells5' (block_below hBr6 (block_below hBr1 hf3))) (fun hHeld_6_1 => ?_)
        clear hK_
        try simp only [Act.put, siA, scZ, scS]
        refine wpAnyH_ready (rs := [2]) (by kernel_rfl) (by simp) ?_
        refine (AllReadyH.cons rfl (fun K_ hK_ => ?_) AllReadyH.nil)
        go_simp
        refine (refNew_lit2 _).mono ?_
        rintro e wr2 ⟨rfl, hBr2⟩
        go_wp2_with fail
        refine hK_.out _ _ (by exact cells5' (block_below hBr2 (block_below hBr6 (block_below hBr1 hf3)))) (fun hHeld_2_2 => ?_)
        clear hK_
        try simp only [Act.put, siA, scZ, scS]
        refine wpAnyH_take' (i := 3) (v := ?vt1_3_3_1_6_2) 20 rfl rfl (by kernel_rfl) (by kernel_rfl) (by kernel_rfl) (fun _ _ _ h => h) (Or.inl ⟨by kernel_rfl, ?hyt1_3_3_1_6_2⟩) (by assumption) ?rt1_3_3_1_6_2
        case hyt1_3_3_1_6_2 => (intro W_ hS_; (try dsimp only at hS_); go_simp; (try (with_reducible rfl)))
        try simp only [Act.put, siA, scZ, scS]
        refine wpAnyH_ready (rs := [4]) (by kernel_rfl) (by simp) ?_
        refine (AllReadyH.cons rfl (fun K_ hK_ => ?_) AllReadyH.nil)
        go_simp
        go_wp2_with fail
        obtain ⟨wr4, hw4_⟩ : ∃ w_, (wr2.alloc (.cells #[.slice (some ⟨w3.heap.size, 0, none⟩) 1 1, .slice none 0 0, .int .i64 0, .int .i64 0, .int .i64 1, .int .i64 0, .slice none 0 0] 49)) = w_ := ⟨_, rfl⟩
        have hBr4 : Below wr2.heap.size wr2 wr4 := by rw [← hw4_]; exact below_alloc1 _ _
        have hm_ : NSl wr4 (fun _ => True) (some ⟨wr2.heap.size, 0, none⟩) 1 1 [⟨[M], [], newV, []⟩] := by rw [← hw4_]; exact (nsl_lit10 (m := (⟨some ⟨w3.heap.size, 0, none⟩, 1, 1, none, 0, 0, newV, none, 0, 0⟩ : NV)) (nis_lit10 (FSl.to (FSl.to hq_ hBr6) hBr2)) trivial)
        rw [hw4_]
        clear hw4_
        refine hK_.out _ _ (by exact cells5' (block_below hBr4 (block_below hBr2 (block_below hBr6 (block_below hBr1 hf3))))) (fun hHeld_4_3 => ?_)
        clear hK_
        try simp only [Act.put, siA, scZ, scS]
        refine wpAnyH_ready (rs := [7]) (by kernel_rfl) (by simp) ?_
        refine (AllReadyH.cons rfl (fun K_ hK_ => ?_) AllReadyH.nil)
        go_simp
        refine (slots_c (P := (fun _ => True)) hm_ (alone_okN HMr.out) (by decide) (by decide) (HSl.to (HSl.to hh_ hBr2) hBr4) (by have := Hk60.out; omega) (rep_le k) (fun _ _ => trivial)).mono ?_
        rintro e wr7 ⟨A2, B2, c2, d2, rfl, ha_, hb_, hBr7⟩
        go_wp2_with fail
        refine hK_.out _ _ (by exact cells5' (block_below hBr7 (block_below hBr4 (block_below hBr2 (block_below hBr6 (block_below hBr1 hf3)))))) (fun hHeld_7_4 => ?_)
        clear hK_
        try simp only [Act.put, siA, scZ, scS]
        refine wpAnyH_take' (i := 8) (v := ?vt1_8_5_1_6_2_4_7) 16 rfl rfl (by kernel_rfl) (by kernel_rfl) (by kernel_rfl) (fun _ _ _ h => h) (Or.inl ⟨by kernel_rfl, ?hyt1_8_5_1_6_2_4_7⟩) (by assumption) ?rt1_8_5_1_6_2_4_7
        case hyt1_8_5_1_6_2_4_7 => (intro W_ hS_; (try dsimp only at hS_); go_simp; (try (with_reducible rfl)))
        try simp only [Act.put, siA, scZ, scS]
        refine wpAnyH_take' (i := 9) (v := ?vt1_9_5_1_6_2_4_7) 25 rfl rfl (by kernel_rfl) (by kernel_rfl) (by kernel_rfl) (fun _ _ _ h => h) (Or.inl ⟨by kernel_rfl, ?hyt1_9_5_1_6_2_4_7⟩) (by assumption) ?rt1_9_5_1_6_2_4_7
        case hyt1_9_5_1_6_2_4_7 => (intro W_ hS_; (try dsimp only at hS_); go_simp; (try (with_reducible rfl)))
        try simp only [Act.put, siA, scZ, scS]
        refine wpAnyH_take' (i := 10) (v := ?vt1_10_5_1_6_2_4_7) 26 rfl rfl (by kernel_rfl) (by kernel_rfl) (by kernel_rfl) (fun _ _ _ h => h) (Or.inl ⟨by kernel_rfl, ?hyt1_10_5_1_6_2_4_7⟩) (by assumption) ?rt1_10_5_1_6_2_4_7
        case hyt1_10_5_1_6_2_4_7 => (intro W_ hS_; (try dsimp only at hS_); go_simp; (try (with_reducible rfl)))
        try simp only [Act.put, siA, scZ, scS]
        refine wpAnyH_take' (i := 11) (v := ?vt1_11_5_1_6_2_4_7) 7 rfl rfl (by kernel_rfl) (by kernel_rfl) (by kernel_rfl) (fun _ _ _ h => h) (Or.inl ⟨by kernel_rfl, ?hyt1_11_5_1_6_2_4_7⟩) (by assumption) ?rt1_11_5_1_6_2_4_7
        case hyt1_11_5_1_6_2_4_7 => (intro W_ hS_; (try dsimp only at hS_); go_simp; (try (with_reducible rfl)))
        try simp only [Act.put, siA, scZ, scS]
        refine wpAnyH_take' (i := 12) (v := ?vt1_12_5_1_6_2_4_7) 8 rfl rfl (by kernel_rfl) (by kernel_rfl) (by kernel_rfl) (fun _ _ _ h => h) (Or.inl ⟨by kernel_rfl, ?hyt1_12_5_1_6_2_4_7⟩) (by assumption) ?rt1_12_5_1_6_2_4_7
        case hyt1_12_5_1_6_2_4_7 => (intro W_ hS_; (try dsimp only at hS_); go_simp; (try (with_reducible rfl)))
        try simp only [Act.put, siA, scZ, scS]
        refine wpAnyH_done (by kernel_rfl) ?_ _
        go_wp2_with fail
        go_meet
        exact ⟨A2, B2, c2, d2, rfl, rfl, alone_slotsN M k ▸ ha_, alone_toldsN M k ▸ hb_, (below_then (below_then (below_then (below_then hBr1 hBr6) hBr2) hBr4) hBr7)⟩
    · go_simp
      refine (refNew_lit2 _).mono ?_
      rintro e wr2 ⟨rfl, hBr2⟩
      go_wp2_with fail
      refine hK_.out _ _ (by exact cells5' (block_below hBr2 (block_below (below_drew1 _) hf3))) (fun hHeld_2_0 => ?_)
      clear hK_
      try simp only [Act.put, siA, scZ, scS]
      refine wpAnyH_ready (rs := [1, 6]) (by kernel_rfl) (by simp) ?_
      refine (AllReadyH.cons rfl (fun K_ hK_ => ?_) (AllReadyH.cons rfl (fun K_ hK_ => ?_) AllReadyH.nil))
      · go_simp
        go_wp2_with fail
        obtain ⟨wr1, hw1_⟩ : ∃ w_, (wr2.alloc (.cells #[.bool g.x, .int .i64 g.i, .bool g.r, .int .i64 g.n, .slice g.a g.m g.c] 34)) = w_ := ⟨_, rfl⟩
        have hBr1 : Below wr2.heap.size wr2 wr1 := by rw [← hw1_]; exact below_alloc1 _ _
        have hq_ : FSl wr1 (fun _ => True) (some ⟨wr2.heap.size, 0, none⟩) 1 1 [M] := by rw [← hw1_]; exact (fsl_lit10 (FIs.to (FIs.to hg3 (below_drew1 _)) hBr2) trivial)
        rw [hw1_]
        clear hw1_
        refine hK_.out _ _ (by exact cells5' (block_below hBr1 (block_below hBr2 (block_below (below_drew1 _) hf3)))) (fun hHeld_1_1 => ?_)
        clear hK_
        try simp only [Act.put, siA, scZ, scS]
        refine wpAnyH_take' (i := 3) (v := ?vt1_3_2_2_1) 20 rfl rfl (by kernel_rfl) (by kernel_rfl) (by kernel_rfl) (fun _ _ _ h => h) (Or.inl ⟨by kernel_rfl, ?hyt1_3_2_2_1⟩) (by assumption) ?rt1_3_2_2_1
        case hyt1_3_2_2_1 => (intro W_ hS_; (try dsimp only at hS_); go_simp; (try (with_reducible rfl)))
        try simp only [Act.put, siA, scZ, scS]
        refine wpAnyH_ready (rs := [4, 6]) (by kernel_rfl) (by simp) ?_
        refine (AllReadyH.cons rfl (fun K_ hK_ => ?_) (AllReadyH.cons rfl (fun K_ hK_ => ?_) AllReadyH.nil))
        · go_simp
          go_wp2_with fail
          obtain ⟨wr4, hw4_⟩ : ∃ w_, (wr1.alloc (.cells #[.slice (some ⟨wr2.heap.size, 0, none⟩) 1 1, .slice none 0 0, .int .i64 0, .int .i64 0, .int .i64 1, .int .i64 0, .slice none 0 0] 49)) = w_ := ⟨_, rfl⟩
          have hBr4 : Below wr1.heap.size wr1 wr4 := by rw [← hw4_]; exact below_alloc1 _ _
          have hm_ : NSl wr4 (fun _ => True) (some ⟨wr1.heap.size, 0, none⟩) 1 1 [⟨[M], [], newV, []⟩] := by rw [← hw4_]; exact (nsl_lit10 (m := (⟨some ⟨wr2.heap.size, 0, none⟩, 1, 1, none, 0, 0, newV, none, 0, 0⟩ : NV)) (nis_lit10 hq_) trivial)
          rw [hw4_]
          clear hw4_
          refine hK_.out _ _ (by exact cells5' (block_below hBr4 (block_below hBr1 (block_below hBr2 (block_below (below_drew1 _) hf3))))) (fun hHeld_4_2 => ?_)
          clear hK_
          try simp only [Act.put, siA, scZ, scS]
          refine wpAnyH_ready (rs := [6]) (by kernel_rfl) (by simp) ?_
          refine (AllReadyH.cons rfl (fun K_ hK_ => ?_) AllReadyH.nil)
          go_simp
          go_wp2_with fail
          obtain ⟨wr6, hw6_⟩ : ∃ w_, (wr4.alloc (.cells (gcells HV.cs (List.replicate k zeroHV)).toArray 41)) = w_ := ⟨_, rfl⟩
          have hBr6 : Below wr4.heap.size wr4 wr6 := by rw [← hw6_]; exact below_alloc1 _ _
          have hh_ : HSl wr6 (fun _ => True) (some ⟨wr4.heap.size, 0, none⟩) k k (List.replicate k []) := by rw [← hw6_]; exact (hsl_make k)
          rw [hw6_]
          clear hw6_
          refine hK_.out _ _ (by exact cells5' (block_below hBr6 (block_below hBr4 (block_below hBr1 (block_below hBr2 (block_below (below_drew1 _) hf3)))))) (fun hHeld_6_3 => ?_)
          clear hK_
          try simp only [Act.put, siA, scZ, scS]
          refine wpAnyH_ready (rs := [7]) (by kernel_rfl) (by simp) ?_
          refine (AllReadyH.cons rfl (fun K_ hK_ => ?_) AllReadyH.nil)
          go_simp
          refine (slots_c (P := (fun _ => True)) (NSl.to hm_ hBr6) (alone_okN HMr.out) (by decide) (by decide) hh_ (by have := Hk60.out; omega) (rep_le k) (fun _ _ => trivial)).mono ?_
          rintro e wr7 ⟨A2, B2, c2, d2, rfl, ha_, hb_, hBr7⟩
          go_wp2_with fail
          refine hK_.out _ _ (by exact cells5' (block_below hBr7 (block_below hBr6 (block_below hBr4 (block_below hBr1 (block_below hBr2 (block_below (below_drew1 _) hf3))))))) (fun hHeld_7_4 => ?_)
          clear hK_
          try simp only [Act.put, siA, scZ, scS]
          refine wpAnyH_take' (i := 8) (v := ?vt1_8_5_2_1_4_6_7) 16 rfl rfl (by kernel_rfl) (by kernel_rfl) (by kernel_rfl) (fun _ _ _ h => h) (Or.inl ⟨by kernel_rfl, ?hyt1_8_5_2_1_4_6_7⟩) (by assumption) ?rt1_8_5_2_1_4_6_7
          case hyt1_8_5_2_1_4_6_7 => (intro W_ hS_; (try dsimp only at hS_); go_simp; (try (with_reducible rfl)))
          try simp only [Act.put, siA, scZ, scS]
          refine wpAnyH_take' (i := 9) (v := ?vt1_9_5_2_1_4_6_7) 25 rfl rfl (by kernel_rfl) (by kernel_rfl) (by kernel_rfl) (fun _ _ _ h => h) (Or.inl ⟨by kernel_rfl, ?hyt1_9_5_2_1_4_6_7⟩) (by assumption) ?rt1_9_5_2_1_4_6_7
          case hyt1_9_5_2_1_4_6_7 => (intro W_ hS_; (try dsimp only at hS_); go_simp; (try (with_reducible rfl)))
          try simp only [Act.put, siA, scZ, scS]
          refine wpAnyH_take' (i := 10) (v := ?vt1_10_5_2_1_4_6_7) 26 rfl rfl (by kernel_rfl) (by kernel_rfl) (by kernel_rfl) (fun _ _ _ h => h) (Or.inl ⟨by kernel_rfl, ?hyt1_10_5_2_1_4_6_7⟩) (by assumption) ?rt1_10_5_2_1_4_6_7
          case hyt1_10_5_2_1_4_6_7 => (intro W_ hS_; (try dsimp only at hS_); go_simp; (try (with_reducible rfl)))
          try simp only [Act.put, siA, scZ, scS]
          refine wpAnyH_take' (i := 11) (v := ?vt1_11_5_2_1_4_6_7) 7 rfl rfl (by kernel_rfl) (by kernel_rfl) (by kernel_rfl) (fun _ _ _ h => h) (Or.inl ⟨by kernel_rfl, ?hyt1_11_5_2_1_4_6_7⟩) (by assumption) ?rt1_11_5_2_1_4_6_7
          case hyt1_11_5_2_1_4_6_7 => (intro W_ hS_; (try dsimp only at hS_); go_simp; (try (with_reducible rfl)))
          try simp only [Act.put, siA, scZ, scS]
          refine wpAnyH_take' (i := 12) (v := ?vt1_12_5_2_1_4_6_7) 8 rfl rfl (by kernel_rfl) (by kernel_rfl) (by kernel_rfl) (fun _ _ _ h => h) (Or.inl ⟨by kernel_rfl, ?hyt1_12_5_2_1_4_6_7⟩) (by assumption) ?rt1_12_5_2_1_4_6_7
          case hyt1_12_5_2_1_4_6_7 => (intro W_ hS_; (try dsimp only at hS_); go_simp; (try (with_reducible rfl)))
          try simp only [Act.put, siA, scZ, scS]
          refine wpAnyH_done (by kernel_rfl) ?_ _
          go_wp2_with fail
          go_meet
          exact ⟨A2, B2, c2, d2, rfl, rfl, alone_slotsN M k ▸ ha_, alone_toldsN M k ▸ hb_, (below_then (below_then (below_then (below_then (below_then (below_drew1 _) hBr2) hBr1) hBr4) hBr6) hBr7)⟩
        · go_simp
          go_wp2_with fail
          obtain ⟨wr6, hw6_⟩ : ∃ w_, (wr1.alloc (.cells (gcells HV.cs (List.replicate k zeroHV)).toArray 41)) = w_ := ⟨_, rfl⟩
          have hBr6 : Below wr1.heap.size wr1 wr6 := by rw [← hw6_]; exact below_alloc1 _ _
          have hh_ : HSl wr6 (fun _ => True) (some ⟨wr1.heap.size, 0, none⟩) k k (List.replicate k []) := by rw [← hw6_]; exact (hsl_make k)
          rw [hw6_]
          clear hw6_
          refine hK_.out _ _ (by exact cells5' (block_below hBr6 (block_below hBr1 (block_below hBr2 (block_below (below_drew1 _) hf3))))) (fun hHeld_6_2 => ?_)
          clear hK_
          try simp only [Act.put, siA, scZ, scS]
          refine wpAnyH_ready (rs := [4]) (by kernel_rfl) (by simp) ?_
          refine (AllReadyH.cons rfl (fun K_ hK_ => ?_) AllReadyH.nil)
          go_simp
          go_wp2_with fail
          obtain ⟨wr4, hw4_⟩ : ∃ w_, (wr6.alloc (.cells #[.slice (some ⟨wr2.heap.size, 0, none⟩) 1 1, .slice none 0 0, .int .i64 0, .int .i64 0, .int .i64 1, .int .i64 0, .slice none 0 0] 49)) = w_ := ⟨_, rfl⟩
          have hBr4 : Below wr6.heap.size wr6 wr4 := by rw [← hw4_]; exact below_alloc1 _ _
          have hm_ : NSl wr4 (fun _ => True) (some ⟨wr6.heap.size, 0, none⟩) 1 1 [⟨[M], [], newV, []⟩] := by rw [← hw4_]; exact (nsl_lit10 (m := (⟨some ⟨wr2.heap.size, 0, none⟩, 1, 1, none, 0, 0, newV, none, 0, 0⟩ : NV)) (nis_lit10 (FSl.to hq_ hBr6)) trivial)
          rw [hw4_]
          clear hw4_
          refine hK_.out _ _ (by exact cells5' (block_below hBr4 (block_below hBr6 (block_below hBr1 (block_below hBr2 (block_below (below_drew1 _) hf3)))))) (fun hHeld_4_3 => ?_)
          clear hK_
          try simp only [Act.put, siA, scZ, scS]
          refine wpAnyH_ready (rs := [7]) (by kernel_rfl) (by simp) ?_
          refine (AllReadyH.cons rfl (fun K_ hK_ => ?_) AllReadyH.nil)
          go_simp
          refine (slots_c (P := (fun _ => True)) hm_ (alone_okN HMr.out) (by decide) (by decide) (HSl.to hh_ hBr4) (by have := Hk60.out; omega) (rep_le k) (fun _ _ => trivial)).mono ?_
          rintro e wr7 ⟨A2, B2, c2, d2, rfl, ha_, hb_, hBr7⟩
          go_wp2_with fail
          refine hK_.out _ _ (by exact cells5' (block_below hBr7 (block_below hBr4 (block_below hBr6 (block_below hBr1 (block_below hBr2 (block_below (below_drew1 _) hf3))))))) (fun hHeld_7_4 => ?_)
          clear hK_
          try simp only [Act.put, siA, scZ, scS]
          refine wpAnyH_take' (i := 8) (v := ?vt1_8_5_2_1_6_4_7) 16 rfl rfl (by kernel_rfl) (by kernel_rfl) (by kernel_rfl) (fun _ _ _ h => h) (Or.inl ⟨by kernel_rfl, ?hyt1_8_5_2_1_6_4_7⟩) (by assumption) ?rt1_8_5_2_1_6_4_7
          case hyt1_8_5_2_1_6_4_7 => (intro W_ hS_; (try dsimp only at hS_); go_simp; (try (with_reducible rfl)))
          try simp only [Act.put, siA, scZ, scS]
          refine wpAnyH_take' (i := 9) (v := ?vt1_9_5_2_1_6_4_7) 25 rfl rfl (by kernel_rfl) (by kernel_rfl) (by kernel_rfl) (fun _ _ _ h => h) (Or.inl ⟨by kernel_rfl, ?hyt1_9_5_2_1_6_4_7⟩) (by assumption) ?rt1_9_5_2_1_6_4_7
          case hyt1_9_5_2_1_6_4_7 => (intro W_ hS_; (try dsimp only at hS_); go_simp; (try (with_reducible rfl)))
          try simp only [Act.put, siA, scZ, scS]
          refine wpAnyH_take' (i := 10) (v := ?vt1_10_5_2_1_6_4_7) 26 rfl rfl (by kernel_rfl) (by kernel_rfl) (by kernel_rfl) (fun _ _ _ h => h) (Or.inl ⟨by kernel_rfl, ?hyt1_10_5_2_1_6_4_7⟩) (by assumption) ?rt1_10_5_2_1_6_4_7
          case hyt1_10_5_2_1_6_4_7 => (intro W_ hS_; (try dsimp only at hS_); go_simp; (try (with_reducible rfl)))
          try simp only [Act.put, siA, scZ, scS]
          refine wpAnyH_take' (i := 11) (v := ?vt1_11_5_2_1_6_4_7) 7 rfl rfl (by kernel_rfl) (by kernel_rfl) (by kernel_rfl) (fun _ _ _ h => h) (Or.inl ⟨by kernel_rfl, ?hyt1_11_5_2_1_6_4_7⟩) (by assumption) ?rt1_11_5_2_1_6_4_7
          case hyt1_11_5_2_1_6_4_7 => (intro W_ hS_; (try dsimp only at hS_); go_simp; (try (with_reducible rfl)))
          try simp only [Act.put, siA, scZ, scS]
          refine wpAnyH_take' (i := 12) (v := ?vt1_12_5_2_1_6_4_7) 8 rfl rfl (by kernel_rfl) (by kernel_rfl) (by kernel_rfl) (fun _ _ _ h => h) (Or.inl ⟨by kernel_rfl, ?hyt1_12_5_2_1_6_4_7⟩) (by assumption) ?rt1_12_5_2_1_6_4_7
          case hyt1_12_5_2_1_6_4_7 => (intro W_ hS_; (try dsimp only at hS_); go_simp; (try (with_reducible rfl)))
          try simp only [Act.put, siA, scZ, scS]
          refine wpAnyH_done (by kernel_rfl) ?_ _
          go_wp2_with fail
          go_meet
          exact ⟨A2, B2, c2, d2, rfl, rfl, alone_slotsN M k ▸ ha_, alone_toldsN M k ▸ hb_, (below_then (below_then (below_then (below_then (below_then (below_drew1 _) hBr2) hBr1) hBr6) hBr4) hBr7)⟩
      · go_simp
        go_wp2_with fail
        obtain ⟨wr6, hw6_⟩ : ∃ w_, (wr2.alloc (.cells (gcells HV.cs (List.replicate k zeroHV)).toArray 41)) = w_ := ⟨_, rfl⟩
        have hBr6 : Below wr2.heap.size wr2 wr6 := by rw [← hw6_]; exact below_alloc1 _ _
        have hh_ : HSl wr6 (fun _ => True) (some ⟨wr2.heap.size, 0, none⟩) k k (List.replicate k []) := by rw [← hw6_]; exact (hsl_make k)
        rw [hw6_]
        clear hw6_
        refine hK_.out _ _ (by exact cells5' (block_below hBr6 (block_below hBr2 (block_below (below_drew1 _) hf3)))) (fun hHeld_6_1 => ?_)
        clear hK_
        try simp only [Act.put, siA, scZ, scS]
        refine wpAnyH_ready (rs := [1]) (by kernel_rfl) (by simp) ?_
        refine (AllReadyH.cons rfl (fun K_ hK_ => ?_) AllReadyH.nil)
        go_simp
        go_wp2_with fail
        obtain ⟨wr1, hw1_⟩ : ∃ w_, (wr6.alloc (.cells #[.bool g.x, .int .i64 g.i, .bool g.r, .int .i64 g.n, .slice g.a g.m g.c] 34)) = w_ := ⟨_, rfl⟩
        have hBr1 : Below wr6.heap.size wr6 wr1 := by rw [← hw1_]; exact below_alloc1 _ _
        have hq_ : FSl wr1 (fun _ => True) (some ⟨wr6.heap.size, 0, none⟩) 1 1 [M] := by rw [← hw1_]; exact (fsl_lit10 (FIs.to (FIs.to (FIs.to hg3 (below_drew1 _)) hBr2) hBr6) trivial)
        rw [hw1_]
        clear hw1_
        refine hK_.out _ _ (by exact cells5' (block_below hBr1 (block_below hBr6 (block_below hBr2 (block_below (below_drew1 _) hf3))))) (fun hHeld_1_2 => ?_)
        clear hK_
        try simp only [Act.put, siA, scZ, scS]
        refine wpAnyH_take' (i := 3) (v := ?vt1_3_3_2_6_1) 20 rfl rfl (by kernel_rfl) (by kernel_rfl) (by kernel_rfl) (fun _ _ _ h => h) (Or.inl ⟨by kernel_rfl, ?hyt1_3_3_2_6_1⟩) (by assumption) ?rt1_3_3_2_6_1
        case hyt1_3_3_2_6_1 => (intro W_ hS_; (try dsimp only at hS_); go_simp; (try (with_reducible rfl)))
        try simp only [Act.put, siA, scZ, scS]
        refine wpAnyH_ready (rs := [4]) (by kernel_rfl) (by simp) ?_
        refine (AllReadyH.cons rfl (fun K_ hK_ => ?_) AllReadyH.nil)
        go_simp
        go_wp2_with fail
        obtain ⟨wr4, hw4_⟩ : ∃ w_, (wr1.alloc (.cells #[.slice (some ⟨wr6.heap.size, 0, none⟩) 1 1, .slice none 0 0, .int .i64 0, .int .i64 0, .int .i64 1, .int .i64 0, .slice none 0 0] 49)) = w_ := ⟨_, rfl⟩
        have hBr4 : Below wr1.heap.size wr1 wr4 := by rw [← hw4_]; exact below_alloc1 _ _
        have hm_ : NSl wr4 (fun _ => True) (some ⟨wr1.heap.size, 0, none⟩) 1 1 [⟨[M], [], newV, []⟩] := by rw [← hw4_]; exact (nsl_lit10 (m := (⟨some ⟨wr6.heap.size, 0, none⟩, 1, 1, none, 0, 0, newV, none, 0, 0⟩ : NV)) (nis_lit10 hq_) trivial)
        rw [hw4_]
        clear hw4_
        refine hK_.out _ _ (by exact cells5' (block_below hBr4 (block_below hBr1 (block_below hBr6 (block_below hBr2 (block_below (below_drew1 _) hf3)))))) (fun hHeld_4_3 => ?_)
        clear hK_
        try simp only [Act.put, siA, scZ, scS]
        refine wpAnyH_ready (rs := [7]) (by kernel_rfl) (by simp) ?_
        refine (AllReadyH.cons rfl (fun K_ hK_ => ?_) AllReadyH.nil)
        go_simp
        refine (slots_c (P := (fun _ => True)) hm_ (alone_okN HMr.out) (by decide) (by decide) (HSl.to (HSl.to hh_ hBr1) hBr4) (by have := Hk60.out; omega) (rep_le k) (fun _ _ => trivial)).mono ?_
        rintro e wr7 ⟨A2, B2, c2, d2, rfl, ha_, hb_, hBr7⟩
        go_wp2_with fail
        refine hK_.out _ _ (by exact cells5' (block_below hBr7 (block_below hBr4 (block_below hBr1 (block_below hBr6 (block_below hBr2 (block_below (below_drew1 _) hf3))))))) (fun hHeld_7_4 => ?_)
        clear hK_
        try simp only [Act.put, siA, scZ, scS]
        refine wpAnyH_take' (i := 8) (v := ?vt1_8_5_2_6_1_4_7) 16 rfl rfl (by kernel_rfl) (by kernel_rfl) (by kernel_rfl) (fun _ _ _ h => h) (Or.inl ⟨by kernel_rfl, ?hyt1_8_5_2_6_1_4_7⟩) (by assumption) ?rt1_8_5_2_6_1_4_7
        case hyt1_8_5_2_6_1_4_7 => (intro W_ hS_; (try dsimp only at hS_); go_simp; (try (with_reducible rfl)))
        try simp only [Act.put, siA, scZ, scS]
        refine wpAnyH_take' (i := 9) (v := ?vt1_9_5_2_6_1_4_7) 25 rfl rfl (by kernel_rfl) (by kernel_rfl) (by kernel_rfl) (fun _ _ _ h => h) (Or.inl ⟨by kernel_rfl, ?hyt1_9_5_2_6_1_4_7⟩) (by assumption) ?rt1_9_5_2_6_1_4_7
        case hyt1_9_5_2_6_1_4_7 => (intro W_ hS_; (try dsimp only at hS_); go_simp; (try (with_reducible rfl)))
        try simp only [Act.put, siA, scZ, scS]
        refine wpAnyH_take' (i := 10) (v := ?vt1_10_5_2_6_1_4_7) 26 rfl rfl (by kernel_rfl) (by kernel_rfl) (by kernel_rfl) (fun _ _ _ h => h) (Or.inl ⟨by kernel_rfl, ?hyt1_10_5_2_6_1_4_7⟩) (by assumption) ?rt1_10_5_2_6_1_4_7
        case hyt1_10_5_2_6_1_4_7 => (intro W_ hS_; (try dsimp only at hS_); go_simp; (try (with_reducible rfl)))
        try simp only [Act.put, siA, scZ, scS]
        refine wpAnyH_take' (i := 11) (v := ?vt1_11_5_2_6_1_4_7) 7 rfl rfl (by kernel_rfl) (by kernel_rfl) (by kernel_rfl) (fun _ _ _ h => h) (Or.inl ⟨by kernel_rfl, ?hyt1_11_5_2_6_1_4_7⟩) (by assumption) ?rt1_11_5_2_6_1_4_7
        case hyt1_11_5_2_6_1_4_7 => (intro W_ hS_; (try dsimp only at hS_); go_simp; (try (with_reducible rfl)))
        try simp only [Act.put, siA, scZ, scS]
        refine wpAnyH_take' (i := 12) (v := ?vt1_12_5_2_6_1_4_7) 8 rfl rfl (by kernel_rfl) (by kernel_rfl) (by kernel_rfl) (fun _ _ _ h => h) (Or.inl ⟨by kernel_rfl, ?hyt1_12_5_2_6_1_4_7⟩) (by assumption) ?rt1_12_5_2_6_1_4_7
        case hyt1_12_5_2_6_1_4_7 => (intro W_ hS_; (try dsimp only at hS_); go_simp; (try (with_reducible rfl)))
        try simp only [Act.put, siA, scZ, scS]
        refine wpAnyH_done (by kernel_rfl) ?_ _
        go_wp2_with fail
        go_meet
        exact ⟨A2, B2, c2, d2, rfl, rfl, alone_slotsN M k ▸ ha_, alone_toldsN M k ▸ hb_, (below_then (below_then (below_then (below_then (below_then (below_drew1 _) hBr2) hBr6) hBr1) hBr4) hBr7)⟩
    · go_simp
      go_wp2_with fail
      obtain ⟨wr6, hw6_⟩ : ∃ w_, (w3.alloc (.cells (gcells HV.cs (List.replicate k zeroHV)).toArray 41)).drew = w_ := ⟨_, rfl⟩
      have hBr6 : Below w3.heap.size w3 wr6 := by rw [← hw6_]; exact below_then (below_alloc1 _ _) (below_drew1 _)
      have hh_ : HSl wr6 (fun _ => True) (some ⟨w3.heap.size, 0, none⟩) k k (List.replicate k []) := by rw [← hw6_]; exact (hsl_make k).to (below_drew1 _)
      rw [hw6_]
      clear hw6_
      refine hK_.out _ _ (by exact cells5' (block_below hBr6 hf3)) (fun hHeld_6_0 => ?_)
      clear hK_
      try simp only [Act.put, siA, scZ, scS]
      refine wpAnyH_ready (rs := [1, 2]) (by kernel_rfl) (by simp) ?_
      refine (AllReadyH.cons rfl (fun K_ hK_ => ?_) (AllReadyH.cons rfl (fun K_ hK_ => ?_) AllReadyH.nil))
      · go_simp
        go_wp2_with fail
        obtain ⟨wr1, hw1_⟩ : ∃ w_, (wr6.alloc (.cells #[.bool g.x, .int .i64 g.i, .bool g.r, .int .i64 g.n, .slice g.a g.m g.c] 34)) = w_ := ⟨_, rfl⟩
        have hBr1 : Below wr6.heap.size wr6 wr1 := by rw [← hw1_]; exact below_alloc1 _ _
        have hq_ : FSl wr1 (fun _ => True) (some ⟨wr6.heap.size, 0, none⟩) 1 1 [M] := by rw [← hw1_]; exact (fsl_lit10 (FIs.to hg3 hBr6) trivial)
        rw [hw1_]
        clear hw1_
        refine hK_.out _ _ (by exact cells5' (block_below hBr1 (block_below hBr6 hf3))) (fun hHeld_1_1 => ?_)
        clear hK_
        try simp only [Act.put, siA, scZ, scS]
        refine wpAnyH_ready (rs := [2]) (by kernel_rfl) (by simp) ?_
        refine (AllReadyH.cons rfl (fun K_ hK_ => ?_) AllReadyH.nil)
        go_simp
        refine (refNew_lit2 _).mono ?_
        rintro e wr2 ⟨rfl, hBr2⟩
        go_wp2_with fail
        refine hK_.out _ _ (by exact cells5' (block_below hBr2 (block_below hBr1 (block_below hBr6 hf3)))) (fun hHeld_2_2 => ?_)
        clear hK_
        try simp only [Act.put, siA, scZ, scS]
        refine wpAnyH_take' (i := 3) (v := ?vt1_3_3_6_1_2) 20 rfl rfl (by kernel_rfl) (by kernel_rfl) (by kernel_rfl) (fun _ _ _ h => h) (Or.inl ⟨by kernel_rfl, ?hyt1_3_3_6_1_2⟩) (by assumption) ?rt1_3_3_6_1_2
        case hyt1_3_3_6_1_2 => (intro W_ hS_; (try dsimp only at hS_); go_simp; (try (with_reducible rfl)))
        try simp only [Act.put, siA, scZ, scS]
        refine wpAnyH_ready (rs := [4]) (by kernel_rfl) (by simp) ?_
        refine (AllReadyH.cons rfl (fun K_ hK_ => ?_) AllReadyH.nil)
        go_simp
        go_wp2_with fail
        obtain ⟨wr4, hw4_⟩ : ∃ w_, (wr2.alloc (.cells #[.slice (some ⟨wr6.heap.size, 0, none⟩) 1 1, .slice none 0 0, .int .i64 0, .int .i64 0, .int .i64 1, .int .i64 0, .slice none 0 0] 49)) = w_ := ⟨_, rfl⟩
        have hBr4 : Below wr2.heap.size wr2 wr4 := by rw [← hw4_]; exact below_alloc1 _ _
        have hm_ : NSl wr4 (fun _ => True) (some ⟨wr2.heap.size, 0, none⟩) 1 1 [⟨[M], [], newV, []⟩] := by rw [← hw4_]; exact (nsl_lit10 (m := (⟨some ⟨wr6.heap.size, 0, none⟩, 1, 1, none, 0, 0, newV, none, 0, 0⟩ : NV)) (nis_lit10 (FSl.to hq_ hBr2)) trivial)
        rw [hw4_]
        clear hw4_
        refine hK_.out _ _ (by exact cells5' (block_below hBr4 (block_below hBr2 (block_below hBr1 (block_below hBr6 hf3))))) (fun hHeld_4_3 => ?_)
        clear hK_
        try simp only [Act.put, siA, scZ, scS]
        refine wpAnyH_ready (rs := [7]) (by kernel_rfl) (by simp) ?_
        refine (AllReadyH.cons rfl (fun K_ hK_ => ?_) AllReadyH.nil)
        go_simp
        refine (slots_c (P := (fun _ => True)) hm_ (alone_okN HMr.out) (by decide) (by decide) (HSl.to (HSl.to (HSl.to hh_ hBr1) hBr2) hBr4) (by have := Hk60.out; omega) (rep_le k) (fun _ _ => trivial)).mono ?_
        rintro e wr7 ⟨A2, B2, c2, d2, rfl, ha_, hb_, hBr7⟩
        go_wp2_with fail
        refine hK_.out _ _ (by exact cells5' (block_below hBr7 (block_below hBr4 (block_below hBr2 (block_below hBr1 (block_below hBr6 hf3)))))) (fun hHeld_7_4 => ?_)
        clear hK_
        try simp only [Act.put, siA, scZ, scS]
        refine wpAnyH_take' (i := 8) (v := ?vt1_8_5_6_1_2_4_7) 16 rfl rfl (by kernel_rfl) (by kernel_rfl) (by kernel_rfl) (fun _ _ _ h => h) (Or.inl ⟨by kernel_rfl, ?hyt1_8_5_6_1_2_4_7⟩) (by assumption) ?rt1_8_5_6_1_2_4_7
        case hyt1_8_5_6_1_2_4_7 => (intro W_ hS_; (try dsimp only at hS_); go_simp; (try (with_reducible rfl)))
        try simp only [Act.put, siA, scZ, scS]
        refine wpAnyH_take' (i := 9) (v := ?vt1_9_5_6_1_2_4_7) 25 rfl rfl (by kernel_rfl) (by kernel_rfl) (by kernel_rfl) (fun _ _ _ h => h) (Or.inl ⟨by kernel_rfl, ?hyt1_9_5_6_1_2_4_7⟩) (by assumption) ?rt1_9_5_6_1_2_4_7
        case hyt1_9_5_6_1_2_4_7 => (intro W_ hS_; (try dsimp only at hS_); go_simp; (try (with_reducible rfl)))
        try simp only [Act.put, siA, scZ, scS]
        refine wpAnyH_take' (i := 10) (v := ?vt1_10_5_6_1_2_4_7) 26 rfl rfl (by kernel_rfl) (by kernel_rfl) (by kernel_rfl) (fun _ _ _ h => h) (Or.inl ⟨by kernel_rfl, ?hyt1_10_5_6_1_2_4_7⟩) (by assumption) ?rt1_10_5_6_1_2_4_7
        case hyt1_10_5_6_1_2_4_7 => (intro W_ hS_; (try dsimp only at hS_); go_simp; (try (with_reducible rfl)))
        try simp only [Act.put, siA, scZ, scS]
        refine wpAnyH_take' (i := 11) (v := ?vt1_11_5_6_1_2_4_7) 7 rfl rfl (by kernel_rfl) (by kernel_rfl) (by kernel_rfl) (fun _ _ _ h => h) (Or.inl ⟨by kernel_rfl, ?hyt1_11_5_6_1_2_4_7⟩) (by assumption) ?rt1_11_5_6_1_2_4_7
        case hyt1_11_5_6_1_2_4_7 => (intro W_ hS_; (try dsimp only at hS_); go_simp; (try (with_reducible rfl)))
        try simp only [Act.put, siA, scZ, scS]
        refine wpAnyH_take' (i := 12) (v := ?vt1_12_5_6_1_2_4_7) 8 rfl rfl (by kernel_rfl) (by kernel_rfl) (by kernel_rfl) (fun _ _ _ h => h) (Or.inl ⟨by kernel_rfl, ?hyt1_12_5_6_1_2_4_7⟩) (by assumption) ?rt1_12_5_6_1_2_4_7
        case hyt1_12_5_6_1_2_4_7 => (intro W_ hS_; (try dsimp only at hS_); go_simp; (try (with_reducible rfl)))
        try simp only [Act.put, siA, scZ, scS]
        refine wpAnyH_done (by kernel_rfl) ?_ _
        go_wp2_with fail
        go_meet
        exact ⟨A2, B2, c2, d2, rfl, rfl, alone_slotsN M k ▸ ha_, alone_toldsN M k ▸ hb_, (below_then (below_then (below_then (below_then hBr6 hBr1) hBr2) hBr4) hBr7)⟩
      · go_simp
        refine (refNew_lit2 _).mono ?_
        rintro e wr2 ⟨rfl, hBr2⟩
        go_wp2_with fail
        refine hK_.out _ _ (by exact cells5' (block_below hBr2 (block_below hBr6 hf3))) (fun hHeld_2_1 => ?_)
        clear hK_
        try simp only [Act.put, siA, scZ, scS]
        refine wpAnyH_ready (rs := [1]) (by kernel_rfl) (by simp) ?_
        refine (AllReadyH.cons rfl (fun K_ hK_ => ?_) AllReadyH.nil)
        go_simp
        go_wp2_with fail
        obtain ⟨wr1, hw1_⟩ : ∃ w_, (wr2.alloc (.cells #[.bool g.x, .int .i64 g.i, .bool g.r, .int .i64 g.n, .slice g.a g.m g.c] 34)) = w_ := ⟨_, rfl⟩
        have hBr1 : Below wr2.heap.size wr2 wr1 := by rw [← hw1_]; exact below_alloc1 _ _
        have hq_ : FSl wr1 (fun _ => True) (some ⟨wr2.heap.size, 0, none⟩) 1 1 [M] := by rw [← hw1_]; exact (fsl_lit10 (FIs.to (FIs.to hg3 hBr6) hBr2) trivial)
        rw [hw1_]
        clear hw1_
        refine hK_.out _ _ (by exact cells5' (block_below hBr1 (block_below hBr2 (block_below hBr6 hf3)))) (fun hHeld_1_2 => ?_)
        clear hK_
        try simp only [Act.put, siA, scZ, scS]
        refine wpAnyH_take' (i := 3) (v := ?vt1_3_3_6_2_1) 20 rfl rfl (by kernel_rfl) (by kernel_rfl) (by kernel_rfl) (fun _ _ _ h => h) (Or.inl ⟨by kernel_rfl, ?hyt1_3_3_6_2_1⟩) (by assumption) ?rt1_3_3_6_2_1
        case hyt1_3_3_6_2_1 => (intro W_ hS_; (try dsimp only at hS_); go_simp; (try (with_reducible rfl)))
        try simp only [Act.put, siA, scZ, scS]
        refine wpAnyH_ready (rs := [4]) (by kernel_rfl) (by simp) ?_
        refine (AllReadyH.cons rfl (fun K_ hK_ => ?_) AllReadyH.nil)
        go_simp
        go_wp2_with fail
        obtain ⟨wr4, hw4_⟩ : ∃ w_, (wr1.alloc (.cells #[.slice (some ⟨wr2.heap.size, 0, none⟩) 1 1, .slice none 0 0, .int .i64 0, .int .i64 0, .int .i64 1, .int .i64 0, .slice none 0 0] 49)) = w_ := ⟨_, rfl⟩
        have hBr4 : Below wr1.heap.size wr1 wr4 := by rw [← hw4_]; exact below_alloc1 _ _
        have hm_ : NSl wr4 (fun _ => True) (some ⟨wr1.heap.size, 0, none⟩) 1 1 [⟨[M], [], newV, []⟩] := by rw [← hw4_]; exact (nsl_lit10 (m := (⟨some ⟨wr2.heap.size, 0, none⟩, 1, 1, none, 0, 0, newV, none, 0, 0⟩ : NV)) (nis_lit10 hq_) trivial)
        rw [hw4_]
        clear hw4_
        refine hK_.out _ _ (by exact cells5' (block_below hBr4 (block_below hBr1 (block_below hBr2 (block_below hBr6 hf3))))) (fun hHeld_4_3 => ?_)
        clear hK_
        try simp only [Act.put, siA, scZ, scS]
        refine wpAnyH_ready (rs := [7]) (by kernel_rfl) (by simp) ?_
        refine (AllReadyH.cons rfl (fun K_ hK_ => ?_) AllReadyH.nil)
        go_simp
        refine (slots_c (P := (fun _ => True)) hm_ (alone_okN HMr.out) (by decide) (by decide) (HSl.to (HSl.to (HSl.to hh_ hBr2) hBr1) hBr4) (by have := Hk60.out; omega) (rep_le k) (fun _ _ => trivial)).mono ?_
        rintro e wr7 ⟨A2, B2, c2, d2, rfl, ha_, hb_, hBr7⟩
        go_wp2_with fail
        refine hK_.out _ _ (by exact cells5' (block_below hBr7 (block_below hBr4 (block_below hBr1 (block_below hBr2 (block_below hBr6 hf3)))))) (fun hHeld_7_4 => ?_)
        clear hK_
        try simp only [Act.put, siA, scZ, scS]
        refine wpAnyH_take' (i := 8) (v := ?vt1_8_5_6_2_1_4_7) 16 rfl rfl (by kernel_rfl) (by kernel_rfl) (by kernel_rfl) (fun _ _ _ h => h) (Or.inl ⟨by kernel_rfl, ?hyt1_8_5_6_2_1_4_7⟩) (by assumption) ?rt1_8_5_6_2_1_4_7
        case hyt1_8_5_6_2_1_4_7 => (intro W_ hS_; (try dsimp only at hS_); go_simp; (try (with_reducible rfl)))
        try simp only [Act.put, siA, scZ, scS]
        refine wpAnyH_take' (i := 9) (v := ?vt1_9_5_6_2_1_4_7) 25 rfl rfl (by kernel_rfl) (by kernel_rfl) (by kernel_rfl) (fun _ _ _ h => h) (Or.inl ⟨by kernel_rfl, ?hyt1_9_5_6_2_1_4_7⟩) (by assumption) ?rt1_9_5_6_2_1_4_7
        case hyt1_9_5_6_2_1_4_7 => (intro W_ hS_; (try dsimp only at hS_); go_simp; (try (with_reducible rfl)))
        try simp only [Act.put, siA, scZ, scS]
        refine wpAnyH_take' (i := 10) (v := ?vt1_10_5_6_2_1_4_7) 26 rfl rfl (by kernel_rfl) (by kernel_rfl) (by kernel_rfl) (fun _ _ _ h => h) (Or.inl ⟨by kernel_rfl, ?hyt1_10_5_6_2_1_4_7⟩) (by assumption) ?rt1_10_5_6_2_1_4_7
        case hyt1_10_5_6_2_1_4_7 => (intro W_ hS_; (try dsimp only at hS_); go_simp; (try (with_reducible rfl)))
        try simp only [Act.put, siA, scZ, scS]
        refine wpAnyH_take' (i := 11) (v := ?vt1_11_5_6_2_1_4_7) 7 rfl rfl (by kernel_rfl) (by kernel_rfl) (by kernel_rfl) (fun _ _ _ h => h) (Or.inl ⟨by kernel_rfl, ?hyt1_11_5_6_2_1_4_7⟩) (by assumption) ?rt1_11_5_6_2_1_4_7
        case hyt1_11_5_6_2_1_4_7 => (intro W_ hS_; (try dsimp only at hS_); go_simp; (try (with_reducible rfl)))
        try simp only [Act.put, siA, scZ, scS]
        refine wpAnyH_take' (i := 12) (v := ?vt1_12_5_6_2_1_4_7) 8 rfl rfl (by kernel_rfl) (by kernel_rfl) (by kernel_rfl) (fun _ _ _ h => h) (Or.inl ⟨by kernel_rfl, ?hyt1_12_5_6_2_1_4_7⟩) (by assumption) ?rt1_12_5_6_2_1_4_7
        case hyt1_12_5_6_2_1_4_7 => (intro W_ hS_; (try dsimp only at hS_); go_simp; (try (with_reducible rfl)))
        try simp only [Act.put, siA, scZ, scS]
        refine wpAnyH_done (by kernel_rfl) ?_ _
        go_wp2_with fail
        go_meet
        exact ⟨A2, B2, c2, d2, rfl, rfl, alone_slotsN M k ▸ ha_, alone_toldsN M k ▸ hb_, (below_then (below_then (below_then (below_then hBr6 hBr2) hBr1) hBr4) hBr7)⟩
  case rest =>
  obtain ⟨A, B, c', d, rfl, rfl, hm_, ht_, hB4⟩ := hcut
  obtain ⟨w4, e_⟩ : ∃ w_, w_ = wc := ⟨_, rfl⟩
  subst e_
  have hT4 := below_then hT3 hB4
  have hf4 := block_below hB4 hf3
  have hg4 := FIs.to hg3 hB4
  clear hT3 hf3 hg3 hB4
  have hm4 := hm_
  clear hm_
  have ht4 := ht_
  clear ht_
  clear hg4
  obtain ⟨ad, x, ea_, hx_, hX_⟩ := NSl.at_ hm4 (k := 0) (by decide)
  subst ea_
  rw [Nat.zero_mul, add_zero] at hx_
  obtain ⟨qa, qm, qc, la, lm, lc, ⟨kt, kr, ks, kq⟩, ga, gm, gc⟩ := x
  obtain ⟨u, hu⟩ : ∃ u : Nat, min (k : Int) 16 = (u : Int) := ⟨min k 16, by omega⟩
  have hu16 : u ≤ 16 := by omega
  have hw8 := w64_8 u hu16
  have hi8 := wi_8 u hu16
  have hkk : (⟨kt, kr, ks, kq⟩ : CV) = ⟨8 * (u : Int), 0, if 16 ≤ k then 2 else 1, 0⟩ := by rw [← alone_k u hu]; exact hX_.k
  obtain rfl : kt = 8 * (u : Int) := congrArg CV.t hkk
  obtain rfl : kr = 0 := congrArg CV.r hkk
  have hks := congrArg CV.s hkk
  dsimp only at hks
  obtain rfl : qm = 1 := hX_.q.len.symm
  have Hks := Lib.hid hks
  clear hkk hX_ hks
  obtain ⟨t0, t1, t2, t3, t4, t5, t6⟩ := hx_
  dsimp only at t0 t1 t2 t3 t4 t5 t6
  go_wp2_with fail
  clear hw8 hi8
  have HC := Lib.hid (And.intro t0 (And.intro t1 (And.intro t2 (And.intro t3 (And.intro t4 (And.intro t5 t6))))))
  clear t0 t1 t2 t3 t4 t5 t6
  have hn_ : NAt w4 ad ⟨qa, 1, qc, la, lm, lc, ⟨8 * (u : Int), 0, ks, kq⟩, ga, gm, gc⟩ := HC.out
  clear HC
  go_loopw [9] (fun i wr => ∃ (j : Nat), j ≤ k ∧ i = .int .i64 j ∧ NAt wr ad ⟨qa, 1, qc, la, lm, lc, ⟨8 * (u : Int), 0, ks, kq⟩, ga, gm, gc⟩ ∧ TSl wr (fun _ => True) B k d (List.replicate k ⟨0, M, false, lenZ M + 23⟩) ∧ Below w.heap.size w wr) (fun i _ => k - (intOf i).toNat)
  case atStart => exact ⟨0, Nat.zero_le _, rfl, hn_, ht4, hT4⟩
  case round =>
    clear hn_ hm4 ht4 hT4
    obtain ⟨j, hj, rfl, hn50, ht50, hT50⟩ := hrel
    by_cases hlt : j < k
    rotate_left
    · skip
      obtain rfl : j = k := by omega
      have j1 : ¬ (j : Int) < (j : Int) := by omega
      obtain ⟨t0, t1, t2, t3, t4, t5, t6⟩ := hn50
      dsimp only at t0 t1 t2 t3 t4 t5 t6
      have hks := Hks.out
      by_cases h16 : 16 ≤ j
      · skip
        rw [if_pos h16] at hks
        subst hks
        have j2 : (16 : Int) ≤ (j : Int) := by omega
        have j3 : decide ((16 : Int) ≤ (j : Int)) = true := by exact decide_eq_true j2
        go_wp2_with fail
        go_ret
        exact ⟨rfl, hT50⟩
      · skip
        rw [if_neg h16] at hks
        subst hks
        have j2 : ¬ (16 : Int) ≤ (j : Int) := by omega
        have j3 : decide ((16 : Int) ≤ (j : Int)) = false := by exact decide_eq_false j2
        go_wp2_with fail
        go_ret
        exact ⟨rfl, hT50⟩
    have j1 : (j : Int) < (k : Int) := by omega
    obtain ⟨ad2, y, ea_, hy_, hY_⟩ := TSl.at_ ht50 hlt
    subst ea_
    rw [getD_rep2 hlt] at hY_
    obtain ⟨yw, yf, yok, yb⟩ := y
    obtain rfl : yw = 0 := hY_.win
    obtain rfl : yok = false := hY_.ok
    clear hY_
    obtain ⟨t0, t1, t2, t3, t4, t5, t6, t7⟩ := hy_
    dsimp only at t0 t1 t2 t3 t4 t5 t6 t7
    go_wp2_with fail
    clear t0 t1 t2 t3 t4 t5 t6 t7
    go_round
    case measure => simp [intOf]; omega
    exact ⟨j + 1, by omega, by go_num, hn50, ht50, hT50⟩
end Go.Proofs.YtcifjccojmfpaaaGreat

