/-
  ArbKinds.
-/
import Derived.Test.YtfmlnfblfhmapaaOrd6
import Derived.Test.YtfmlnfblfhmapaaHead6
import Derived.Test.YtfmlnfblfhmapaaAny
import Derived.Deep.CutRange
namespace Go.Proofs.Ytfmlnfblfhmapaa
open Go.RowKit
set_option linter.unusedVariables false
set_option linter.unusedSimpArgs false

theorem first_drew {w : World} {A : Option Addr} {fs : List FV} (h : FRow w w.heap.size A fs) : FRow w.drew w.drew.heap.size A fs := h.to (below_drew1 _)
theorem set5_other {w : World} {F G : Nat} {o : Obj} (h : w.heap[G]? = some o) (hne : G ≠ F) (a b c d e : Value) : (set5 w F a b c d e).heap[G]? = some o :=
  ((set5_grown w F a b c d e).block G (Array.getElem?_eq_some_iff.1 h).1 (by simpa using hne)).trans h
theorem set5_below {w0 w : World} {F : Nat} (b : Below w0.heap.size w0 w) (hF : w0.heap.size ≤ F) (a1 b1 c1 d1 e1 : Value) : Below w0.heap.size w0 (set5 w F a1 b1 c1 d1 e1) :=
  below_of_grown' b (set5_grown w F a1 b1 c1 d1 e1) hF

set_option maxRecDepth 100000 in
set_option maxHeartbeats 8000000 in
theorem arbKinds_any (a b : FV) (w : World) (ha : FData w a) (hb : FData w b) :
    Calls Try.prog 7 #[a.v, b.v] w fun e w' => e = .returned (.bool true) ∧ Below w.heap.size w w' := by
  go_enter Try.func7, Try.ntmps7
  go_wp2_with fail
  obtain ⟨w0, hw0⟩ : ∃ w0, (w.alloc (.cells #[.bool a.x, .int .i64 a.i, .bool a.r, .int .i64 a.n, .slice a.a a.m a.c] 35)).alloc (.cells #[.bool b.x, .int .i64 b.i, .bool b.r, .int .i64 b.n, .slice b.a b.m b.c] 35) = w0 := ⟨_, rfl⟩
  have hT0 : Below w.heap.size w w0 := by rw [← hw0]; exact below_then (below_alloc1 _ _) (below_alloc1 _ _)
  have hA0 : w0.heap[w.heap.size]? = some (.cells #[.bool a.x, .int .i64 a.i, .bool a.r, .int .i64 a.n, .slice a.a a.m a.c] 35) := by rw [← hw0]; exact block_below (below_alloc1 _ _) (World.alloc_heap_new _ _)
  have hB0 : w0.heap[w.heap.size + 1]? = some (.cells #[.bool b.x, .int .i64 b.i, .bool b.r, .int .i64 b.n, .slice b.a b.m b.c] 35) := by rw [← hw0]; have := World.alloc_heap_new (w.alloc (.cells #[.bool a.x, .int .i64 a.i, .bool a.r, .int .i64 a.n, .slice a.a a.m a.c] 35)) (.cells #[.bool b.x, .int .i64 b.i, .bool b.r, .int .i64 b.n, .slice b.a b.m b.c] 35); simpa using this
  rw [hw0]
  clear hw0
  refine (head6_any w0).mono ?_
  rintro e w1 ⟨rfl, hB1⟩
  have hT1 := below_then hT0 hB1
  have hA1 := block_below hB1 hA0
  have hBB1 := block_below hB1 hB0
  obtain ⟨am, ac, adl, ad1, ad2⟩ := ha.to hT1
  obtain ⟨a0, a1, a2, a3, a4⟩ := cells5' hA1
  clear hT0 hA0 hB0 hB1 ha
  go_wp2_with fail
  clear a0 a1 a2 a3 a4
  refine (made_any a w1 adl ad1 ad2 am ac).mono ?_
  rintro e w2 ⟨f, rfl, hmf, hB2⟩
  have hT2 := below_then hT1 hB2
  have hA2 := block_below hB2 hA1
  have hBB2 := block_below hB2 hBB1
  obtain ⟨⟨a0, a1, a2, a3, a4⟩, z0, z1, z2, z3, z4⟩ := cells5 hA2
  obtain ⟨b0, b1, b2, b3, b4⟩ := cells5' hBB2
  have HF := Lib.hid (And.intro hmf.ok (And.intro hmf.x hmf.r))
  clear hT1 hA1 hBB1 hB2 ad1 ad2 hmf
  go_wp2_with fail
  clear a0 a1 a2 a3 a4 z0 z1 z2 z3 z4 b0 b1 b2 b3 b4
  obtain ⟨w3, hw3⟩ : ∃ w3, (((((w2.setCell ⟨w.heap.size, 0, none⟩ (.bool f.x)).setCell ⟨w.heap.size, 1, none⟩ (.int .i64 f.i)).setCell ⟨w.heap.size, 2, none⟩ (.bool f.r)).setCell ⟨w.heap.size, 3, none⟩ (.int .i64 f.n)).setCell ⟨w.heap.size, 4, none⟩ (.slice f.a f.m f.c)) = w3 := ⟨_, rfl⟩
  have hA3 : w3.heap[w.heap.size]? = some (.cells #[.bool f.x, .int .i64 f.i, .bool f.r, .int .i64 f.n, .slice f.a f.m f.c] 35) := by rw [← hw3]; exact set5_obj hA2 _ _ _ _ _
  have hBB3 : w3.heap[w.heap.size + 1]? = some (.cells #[.bool b.x, .int .i64 b.i, .bool b.r, .int .i64 b.n, .slice b.a b.m b.c] 35) := by rw [← hw3]; exact set5_other hBB2 (by omega) _ _ _ _ _
  have hT3 : Below w.heap.size w w3 := by rw [← hw3]; exact set5_below hT2 (Nat.le_refl _) _ _ _ _ _
  rw [hw3]
  clear hw3 hA2 hBB2 hT2
  obtain ⟨bm, bc, bdl, bd1, bd2⟩ := hb.to hT3
  refine (made_any b w3 bdl bd1 bd2 bm bc).mono ?_
  rintro e w4 ⟨g, rfl, hmg, hB4⟩
  have hT4 := below_then hT3 hB4
  have hA4 := block_below hB4 hA3
  have hBB4 := block_below hB4 hBB3
  obtain ⟨⟨b0, b1, b2, b3, b4⟩, z0, z1, z2, z3, z4⟩ := cells5 hBB4
  obtain ⟨gdl, gd1, gd2⟩ := hmg.data
  have gd3 : Row .u8 _ _ g.a gdl := row_set5 gd2 hBB4 (.bool g.x) (.int .i64 g.i) (.bool g.r) (.int .i64 g.n) (.slice g.a g.m g.c)
  have hgs := hmg.small
  have hgc := hmg.cap
  have HG := Lib.hid hmg.ok
  clear hT3 hA3 hBB3 hB4 bd1 bd2 hb hmg gd2
  go_wp2_with fail
  clear b0 b1 b2 b3 b4 z0 z1 z2 z3 z4
  unfold set5 at gd3
  obtain ⟨w5, hw5⟩ : ∃ w5, (((((w4.setCell ⟨(w.heap.size + 1), 0, none⟩ (.bool g.x)).setCell ⟨(w.heap.size + 1), 1, none⟩ (.int .i64 g.i)).setCell ⟨(w.heap.size + 1), 2, none⟩ (.bool g.r)).setCell ⟨(w.heap.size + 1), 3, none⟩ (.int .i64 g.n)).setCell ⟨(w.heap.size + 1), 4, none⟩ (.slice g.a g.m g.c)) = w5 := ⟨_, rfl⟩
  have hA5 : w5.heap[w.heap.size]? = some (.cells #[.bool f.x, .int .i64 f.i, .bool f.r, .int .i64 f.n, .slice f.a f.m f.c] 35) := by rw [← hw5]; exact set5_other hA4 (by omega) _ _ _ _ _
  have hBB5 : w5.heap[w.heap.size + 1]? = some (.cells #[.bool g.x, .int .i64 g.i, .bool g.r, .int .i64 g.n, .slice g.a g.m g.c] 35) := by rw [← hw5]; exact set5_obj hBB4 _ _ _ _ _
  have hT5 : Below w.heap.size w w5 := by rw [← hw5]; exact set5_below hT4 (by omega) _ _ _ _ _
  rw [hw5] at gd3 ⊢
  clear hw5 hA4 hBB4 hT4
  refine (made_any g w5 gdl gd1 gd3 (by unfold maxLen; omega) hgc).mono ?_
  rintro e w6 ⟨k, rfl, hmk, hB6⟩
  have hT6 := below_then hT5 hB6
  have hA6 := block_below hB6 hA5
  have hBB6 := block_below hB6 hBB5
  have hlA := (Array.getElem?_eq_some_iff.1 hA6).1
  have hlB := (Array.getElem?_eq_some_iff.1 hBB6).1
  have hki := hmk.i
  rw [idm_keep_ HG.out] at hki
  clear hT5 hA5 hBB5 hB6 gd1 gd3 hmk
  obtain ⟨a0, a1, a2, a3, a4⟩ := cells5' hA6
  obtain ⟨b0, b1, b2, b3, b4⟩ := cells5' hBB6
  go_upto_if 22 with fail
  obtain ⟨x, fi, fr, fn, fa, fm, fc⟩ := f
  obtain ⟨⟨I, hI, hIok⟩, -⟩ := HF.out
  dsimp only at hI hIok hA6 a0 a1 a2 a3 a4 ⊢
  subst hI
  obtain ⟨U, hU, hUok⟩ := HG.out
  rw [hU] at b1 hBB6 ⊢
  have hUlt : U < 536870912 := by unfold idOk at hUok; split at hUok <;> omega
  clear HF hki
  go_cut [] from 23 to 26 (fun wc => ∃ J : Nat, idOk x J ∧ wc = w6.alloc (.cells #[.bool x, .int .i64 J, .bool k.r, .int .i64 k.n, .slice k.a k.m k.c] 35))
  case first =>
    cases x
    · obtain ⟨J, hJ, hJle⟩ := and_mask (U : Int) 2047 (by omega)
      have hJ' : bits .and .i64 (U : Int) 2047 = (J : Int) := hJ
      go_wp2_with fail
      go_meet
      exact ⟨J, by simp [idOk]; omega, rfl⟩
    · go_wp2_with fail
      go_meet
      exact ⟨U, by simpa [idOk] using hUlt, rfl⟩
  case rest =>
  obtain ⟨J, hJok, hwc⟩ := hcut
  obtain ⟨w7, hw7⟩ : ∃ w7, w6.alloc (.cells #[.bool x, .int .i64 J, .bool k.r, .int .i64 k.n, .slice k.a k.m k.c] 35) = w7 := ⟨_, rfl⟩
  have hT7 : Below w.heap.size w w7 := by rw [← hw7]; exact below_then hT6 (below_alloc1 _ _)
  have hA7 : w7.heap[w.heap.size]? = some (.cells #[.bool x, .int .i64 I, .bool fr, .int .i64 fn, .slice fa fm fc] 35) := by rw [← hw7]; exact block_below (below_alloc1 _ _) hA6
  have hB7 : w7.heap[w.heap.size + 1]? = some (.cells #[.bool g.x, .int .i64 U, .bool g.r, .int .i64 g.n, .slice g.a g.m g.c] 35) := by rw [← hw7]; exact block_below (below_alloc1 _ _) hBB6
  have hC7 : w7.heap[w6.heap.size]? = some (.cells #[.bool x, .int .i64 J, .bool k.r, .int .i64 k.n, .slice k.a k.m k.c] 35) := by rw [← hw7]; exact World.alloc_heap_new _ _
  rw [hwc, hw7]
  clear hwc hw7 a0 a1 a2 a3 a4 b0 b1 b2 b3 b4 hA6 hBB6 hT6 hlA hlB wc
  have HOK := Lib.hid (show ∀ h ∈ [(⟨x, I, fr, fn, fa, fm, fc⟩ : FV), ⟨x, J, k.r, k.n, k.a, k.m, k.c⟩], FOk h by
    intro h hh
    simp only [List.mem_cons, List.not_mem_nil, or_false] at hh
    rcases hh with rfl | rfl
    · exact ⟨I, rfl, hIok⟩
    · exact ⟨J, rfl, hJok⟩)
  go_wp2_with fail
  go_cut [44] from 27 to 43 (fun s wc => s = .bool false ∧ Below w7.heap.size w7 wc)
  case first =>
    by_cases hIJ : I = J
    · have hne : ((I : Int) != (J : Int)) = false := by simp [hIJ]
      clear hIJ
      refine wp_region_held_drew (S := fun W => W.cell? ⟨w.heap.size, 1, none⟩ = some (.int .i64 I) ∧ W.cell? ⟨w6.heap.size, 1, none⟩ = some (.int .i64 J)) (by kernel_rfl) (by exact ⟨(cells5' (by repeat (first | assumption | exact Below.refl _ _ | ((with_reducible refine lit2 _ _ _ _ _ ?_); (first | (with_reducible rfl) | (simp; done))) | ((with_reducible refine lit1 _ _ _ _ ?_); (first | (with_reducible rfl) | (simp; done))) | refine row_step (by first | assumption | exact below_alloc1 _ _ | exact below_drew1 _ | exact below_drewN0 _ _) ?_ | refine block_below (by first | assumption | exact below_alloc1 _ _ | exact below_drew1 _ | exact below_drewN0 _ _) ?_ | refine below_then ?_ (by first | assumption | exact below_alloc1 _ _ | exact below_drew1 _ | exact below_drewN0 _ _)))).2.1, (cells5' (by repeat (first | assumption | exact Below.refl _ _ | ((with_reducible refine lit2 _ _ _ _ _ ?_); (first | (with_reducible rfl) | (simp; done))) | ((with_reducible refine lit1 _ _ _ _ ?_); (first | (with_reducible rfl) | (simp; done))) | refine row_step (by first | assumption | exact below_alloc1 _ _ | exact below_drew1 _ | exact below_drewN0 _ _) ?_ | refine block_below (by first | assumption | exact below_alloc1 _ _ | exact below_drew1 _ | exact below_drewN0 _ _) ?_ | refine below_then ?_ (by first | assumption | exact below_alloc1 _ _ | exact below_drew1 _ | exact below_drewN0 _ _)))).2.1⟩) (fun hHeld_ => ?_)
      refine wpAnyH_take' (i := 0) (v := ?v0_) 27 rfl rfl (by kernel_rfl) (by kernel_rfl) (by kernel_rfl) (fun _ _ _ h => h) (Or.inl ⟨by kernel_rfl, ?hy0_⟩) (by assumption) ?rest0_
      case hy0_ => (intro W_ hS_; (try dsimp only at hS_); go_simp; (try (with_reducible rfl)))
      try simp only [Act.put, List.setIfInBounds_toArray, List.set_cons_zero, List.set_cons_succ]
      refine wpAnyH_take' (i := 1) (v := ?v1_) 28 rfl rfl (by kernel_rfl) (by kernel_rfl) (by kernel_rfl) (fun _ _ _ h => h) (Or.inl ⟨by kernel_rfl, ?hy1_⟩) (by assumption) ?rest1_
      case hy1_ => (intro W_ hS_; (try dsimp only at hS_); go_simp; (try (with_reducible rfl)))
      try simp only [Act.put, List.setIfInBounds_toArray, List.set_cons_zero, List.set_cons_succ]
      refine wpAnyH_take' (i := 2) (v := ?v2_) 29 rfl rfl (by kernel_rfl) (by kernel_rfl) (by kernel_rfl) (fun _ _ _ h => h) (Or.inl ⟨by kernel_rfl, ?hy2_⟩) (by assumption) ?rest2_
      case hy2_ => (intro W_ hS_; (try dsimp only at hS_); go_simp; (try (with_reducible rfl)))
      try simp only [Act.put, List.setIfInBounds_toArray, List.set_cons_zero, List.set_cons_succ]
      refine wpAnyH_take' (i := 3) (v := ?v3_) 30 rfl rfl (by kernel_rfl) (by kernel_rfl) (by kernel_rfl) (fun _ _ _ h => h) (Or.inl ⟨by kernel_rfl, ?hy3_⟩) (by assumption) ?rest3_
      case hy3_ => (intro W_ hS_; (try dsimp only at hS_); go_simp; (try (with_reducible rfl)))
      try simp only [Act.put, List.setIfInBounds_toArray, List.set_cons_zero, List.set_cons_succ]
      refine wpAnyH_take' (i := 4) (v := ?v4_) 31 rfl rfl (by kernel_rfl) (by kernel_rfl) (by kernel_rfl) (fun _ _ _ h => h) (Or.inl ⟨by kernel_rfl, ?hy4_⟩) (by assumption) ?rest4_
      case hy4_ => (intro W_ hS_; (try dsimp only at hS_); go_simp; (try (with_reducible rfl)))
      try simp only [Act.put, List.setIfInBounds_toArray, List.set_cons_zero, List.set_cons_succ]
      refine wpAnyH_take' (i := 5) (v := ?v5_) 32 rfl rfl (by kernel_rfl) (by kernel_rfl) (by kernel_rfl) (fun _ _ _ h => h) (Or.inl ⟨by kernel_rfl, ?hy5_⟩) (by assumption) ?rest5_
      case hy5_ => (intro W_ hS_; (try dsimp only at hS_); go_simp; (try (with_reducible rfl)))
      try simp only [Act.put, List.setIfInBounds_toArray, List.set_cons_zero, List.set_cons_succ]
      refine wpAnyH_take' (i := 6) (v := undef) 33 rfl rfl (by kernel_rfl) (by kernel_rfl) (by kernel_rfl) (fun _ _ _ h => h) (Or.inr ⟨by kernel_rfl, rfl⟩) (by assumption) ?_
      try simp only [Act.put, List.setIfInBounds_toArray, List.set_cons_zero, List.set_cons_succ]
      refine wpAnyH_take' (i := 7) (v := undef) 34 rfl rfl (by kernel_rfl) (by kernel_rfl) (by kernel_rfl) (fun _ _ _ h => h) (Or.inr ⟨by kernel_rfl, rfl⟩) (by assumption) ?_
      try simp only [Act.put, List.setIfInBounds_toArray, List.set_cons_zero, List.set_cons_succ]
      refine wpAnyH_take' (i := 11) (v := undef) 38 rfl rfl (by kernel_rfl) (by kernel_rfl) (by kernel_rfl) (fun _ _ _ h => h) (Or.inr ⟨by kernel_rfl, rfl⟩) (by assumption) ?_
      try simp only [Act.put, List.setIfInBounds_toArray, List.set_cons_zero, List.set_cons_succ]
      refine wpAnyH_take' (i := 12) (v := undef) 39 rfl rfl (by kernel_rfl) (by kernel_rfl) (by kernel_rfl) (fun _ _ _ h => h) (Or.inr ⟨by kernel_rfl, rfl⟩) (by assumption) ?_
      try simp only [Act.put, List.setIfInBounds_toArray, List.set_cons_zero, List.set_cons_succ]
      refine wpAnyH_take' (i := 13) (v := undef) 40 rfl rfl (by kernel_rfl) (by kernel_rfl) (by kernel_rfl) (fun _ _ _ h => h) (Or.inr ⟨by kernel_rfl, rfl⟩) (by assumption) ?_
      try simp only [Act.put, List.setIfInBounds_toArray, List.set_cons_zero, List.set_cons_succ]
      refine wpAnyH_take' (i := 14) (v := undef) 41 rfl rfl (by kernel_rfl) (by kernel_rfl) (by kernel_rfl) (fun _ _ _ h => h) (Or.inr ⟨by kernel_rfl, rfl⟩) (by assumption) ?_
      try simp only [Act.put, List.setIfInBounds_toArray, List.set_cons_zero, List.set_cons_succ]
      refine wpAnyH_take' (i := 15) (v := undef) 42 rfl rfl (by kernel_rfl) (by kernel_rfl) (by kernel_rfl) (fun _ _ _ h => h) (Or.inr ⟨by kernel_rfl, rfl⟩) (by assumption) ?_
      try simp only [Act.put, List.setIfInBounds_toArray, List.set_cons_zero, List.set_cons_succ]
      refine wpAnyH_skip (i := 8) 35 rfl rfl (by kernel_rfl) (by kernel_rfl) (by assumption) ?_
      try simp only [Act.put, List.setIfInBounds_toArray, List.set_cons_zero, List.set_cons_succ]
      refine wpAnyH_skip (i := 9) 36 rfl rfl (by kernel_rfl) (by kernel_rfl) (by assumption) ?_
      try simp only [Act.put, List.setIfInBounds_toArray, List.set_cons_zero, List.set_cons_succ]
      refine wpAnyH_take' (i := 10) (v := undef) 37 rfl rfl (by kernel_rfl) (by kernel_rfl) (by kernel_rfl) (fun _ _ _ h => h) (Or.inr ⟨by kernel_rfl, rfl⟩) (by assumption) ?_
      try simp only [Act.put, List.setIfInBounds_toArray, List.set_cons_zero, List.set_cons_succ]
      refine wpAnyH_take' (i := 16) (v := undef) 43 rfl rfl (by kernel_rfl) (by kernel_rfl) (by kernel_rfl) (fun _ _ _ h => h) (Or.inr ⟨by kernel_rfl, rfl⟩) (by assumption) ?_
      try simp only [Act.put, List.setIfInBounds_toArray, List.set_cons_zero, List.set_cons_succ]
      refine wpAnyH_take' (i := 17) (v := ?v17_) 44 rfl rfl (by kernel_rfl) (by kernel_rfl) (by kernel_rfl) (fun _ _ _ h => h) (Or.inl ⟨by kernel_rfl, ?hy17_⟩) (by assumption) ?rest17_
      case hy17_ => (intro W_ hS_; (try dsimp only at hS_); go_simp; (try (with_reducible rfl)))
      try simp only [Act.put, List.setIfInBounds_toArray, List.set_cons_zero, List.set_cons_succ]
      refine wpAnyH_done (by kernel_rfl) ?_ _
      have hBw : Below w7.heap.size w7 w7.drew := below_drew1 _
      go_wp2_with fail
      go_meet
      exact ⟨rfl, hBw⟩
    · have hne : ((I : Int) != (J : Int)) = true := by simp; omega
      rcases Nat.lt_or_gt_of_ne hIJ with hlt | hlt
      · have hd : decide ((I : Int) < (J : Int)) = true := by simp; omega
        have hd2 : decide (I < J) = true := by simp; omega
        have HW := Lib.hid (And.intro (win_two (f := ⟨x, I, fr, fn, fa, fm, fc⟩) (g := ⟨x, J, k.r, k.n, k.a, k.m, k.c⟩) (rank_lt hIok hJok hlt)).1 (win_two (f := ⟨x, I, fr, fn, fa, fm, fc⟩) (g := ⟨x, J, k.r, k.n, k.a, k.m, k.c⟩) (rank_lt hIok hJok hlt)).2.1)
        clear hIJ hlt
        go_region_held3 (fun W => W.cell? ⟨w.heap.size, 0, none⟩ = some (.bool x) ∧ W.cell? ⟨w.heap.size, 1, none⟩ = some (.int .i64 I) ∧ W.cell? ⟨w.heap.size, 2, none⟩ = some (.bool fr) ∧ W.cell? ⟨w.heap.size, 3, none⟩ = some (.int .i64 fn) ∧ W.cell? ⟨w.heap.size, 4, none⟩ = some (.slice fa fm fc) ∧ W.cell? ⟨w6.heap.size, 0, none⟩ = some (.bool x) ∧ W.cell? ⟨w6.heap.size, 1, none⟩ = some (.int .i64 J) ∧ W.cell? ⟨w6.heap.size, 2, none⟩ = some (.bool k.r) ∧ W.cell? ⟨w6.heap.size, 3, none⟩ = some (.int .i64 k.n) ∧ W.cell? ⟨w6.heap.size, 4, none⟩ = some (.slice k.a k.m k.c))
          (exact cells10 (by repeat (first | assumption | exact Below.refl _ _ | ((with_reducible refine lit2 _ _ _ _ _ ?_); (first | (with_reducible rfl) | (simp; done))) | ((with_reducible refine lit1 _ _ _ _ ?_); (first | (with_reducible rfl) | (simp; done))) | refine row_step (by first | assumption | exact below_alloc1 _ _ | exact below_drew1 _ | exact below_drewN0 _ _) ?_ | refine block_below (by first | assumption | exact below_alloc1 _ _ | exact below_drew1 _ | exact below_drewN0 _ _) ?_ | refine below_then ?_ (by first | assumption | exact below_alloc1 _ _ | exact below_drew1 _ | exact below_drewN0 _ _))) (by repeat (first | assumption | exact Below.refl _ _ | ((with_reducible refine lit2 _ _ _ _ _ ?_); (first | (with_reducible rfl) | (simp; done))) | ((with_reducible refine lit1 _ _ _ _ ?_); (first | (with_reducible rfl) | (simp; done))) | refine row_step (by first | assumption | exact below_alloc1 _ _ | exact below_drew1 _ | exact below_drewN0 _ _) ?_ | refine block_below (by first | assumption | exact below_alloc1 _ _ | exact below_drew1 _ | exact below_drewN0 _ _) ?_ | refine below_then ?_ (by first | assumption | exact below_alloc1 _ _ | exact below_drew1 _ | exact below_drewN0 _ _))))
          (first
            | (go_at_call 14; refine (win_any [⟨x, I, fr, fn, fa, fm, fc⟩, ⟨x, J, k.r, k.n, k.a, k.m, k.c⟩] 2 rfl _ 2 _ (first_drew (FRow.lit w7 [⟨x, I, fr, fn, fa, fm, fc⟩, ⟨x, J, k.r, k.n, k.a, k.m, k.c⟩] rfl rfl)) HOK.out (by omega) (rankF ⟨x, I, fr, fn, fa, fm, fc⟩) HW.out.1 _ rfl (rankF_le _) 0 HW.out.2).mono ?_; rintro e w9 ⟨rfl, hB9⟩)
            | fail)
        all_goals
          have hBw : Below w7.heap.size w7 w9 := by repeat (first | assumption | exact Below.refl _ _ | ((with_reducible refine lit2 _ _ _ _ _ ?_); (first | (with_reducible rfl) | (simp; done))) | ((with_reducible refine lit1 _ _ _ _ ?_); (first | (with_reducible rfl) | (simp; done))) | refine row_step (by first | assumption | exact below_alloc1 _ _ | exact below_drew1 _ | exact below_drewN0 _ _) ?_ | refine block_below (by first | assumption | exact below_alloc1 _ _ | exact below_drew1 _ | exact below_drewN0 _ _) ?_ | refine below_then ?_ (by first | assumption | exact below_alloc1 _ _ | exact below_drew1 _ | exact below_drewN0 _ _))
          go_wp2_with fail
          go_meet
          exact ⟨rfl, hBw⟩
      · have hd : decide ((I : Int) < (J : Int)) = false := by simp; omega
        have hd2 : decide (I < J) = false := by simp; omega
        have HW := Lib.hid (win_two (f := ⟨x, J, k.r, k.n, k.a, k.m, k.c⟩) (g := ⟨x, I, fr, fn, fa, fm, fc⟩) (rank_lt hJok hIok hlt)).2.2
        clear hIJ hlt
        go_region_held3 (fun W => W.cell? ⟨w.heap.size, 0, none⟩ = some (.bool x) ∧ W.cell? ⟨w.heap.size, 1, none⟩ = some (.int .i64 I) ∧ W.cell? ⟨w.heap.size, 2, none⟩ = some (.bool fr) ∧ W.cell? ⟨w.heap.size, 3, none⟩ = some (.int .i64 fn) ∧ W.cell? ⟨w.heap.size, 4, none⟩ = some (.slice fa fm fc) ∧ W.cell? ⟨w6.heap.size, 0, none⟩ = some (.bool x) ∧ W.cell? ⟨w6.heap.size, 1, none⟩ = some (.int .i64 J) ∧ W.cell? ⟨w6.heap.size, 2, none⟩ = some (.bool k.r) ∧ W.cell? ⟨w6.heap.size, 3, none⟩ = some (.int .i64 k.n) ∧ W.cell? ⟨w6.heap.size, 4, none⟩ = some (.slice k.a k.m k.c))
          (exact cells10 (by repeat (first | assumption | exact Below.refl _ _ | ((with_reducible refine lit2 _ _ _ _ _ ?_); (first | (with_reducible rfl) | (simp; done))) | ((with_reducible refine lit1 _ _ _ _ ?_); (first | (with_reducible rfl) | (simp; done))) | refine row_step (by first | assumption | exact below_alloc1 _ _ | exact below_drew1 _ | exact below_drewN0 _ _) ?_ | refine block_below (by first | assumption | exact below_alloc1 _ _ | exact below_drew1 _ | exact below_drewN0 _ _) ?_ | refine below_then ?_ (by first | assumption | exact below_alloc1 _ _ | exact below_drew1 _ | exact below_drewN0 _ _))) (by repeat (first | assumption | exact Below.refl _ _ | ((with_reducible refine lit2 _ _ _ _ _ ?_); (first | (with_reducible rfl) | (simp; done))) | ((with_reducible refine lit1 _ _ _ _ ?_); (first | (with_reducible rfl) | (simp; done))) | refine row_step (by first | assumption | exact below_alloc1 _ _ | exact below_drew1 _ | exact below_drewN0 _ _) ?_ | refine block_below (by first | assumption | exact below_alloc1 _ _ | exact below_drew1 _ | exact below_drewN0 _ _) ?_ | refine below_then ?_ (by first | assumption | exact below_alloc1 _ _ | exact below_drew1 _ | exact below_drewN0 _ _))))
          (first
            | (go_at_call 14; refine (win_any [⟨x, I, fr, fn, fa, fm, fc⟩, ⟨x, J, k.r, k.n, k.a, k.m, k.c⟩] 2 rfl _ 2 _ (first_drew (FRow.lit w7 [⟨x, I, fr, fn, fa, fm, fc⟩, ⟨x, J, k.r, k.n, k.a, k.m, k.c⟩] rfl rfl)) HOK.out (by omega) (rankF ⟨x, J, k.r, k.n, k.a, k.m, k.c⟩) HW.out.1 _ rfl (rankF_le _) 1 HW.out.2).mono ?_; rintro e w9 ⟨rfl, hB9⟩)
            | fail)
        all_goals
          have hBw : Below w7.heap.size w7 w9 := by repeat (first | assumption | exact Below.refl _ _ | ((with_reducible refine lit2 _ _ _ _ _ ?_); (first | (with_reducible rfl) | (simp; done))) | ((with_reducible refine lit1 _ _ _ _ ?_); (first | (with_reducible rfl) | (simp; done))) | refine row_step (by first | assumption | exact below_alloc1 _ _ | exact below_drew1 _ | exact below_drewN0 _ _) ?_ | refine block_below (by first | assumption | exact below_alloc1 _ _ | exact below_drew1 _ | exact below_drewN0 _ _) ?_ | refine below_then ?_ (by first | assumption | exact below_alloc1 _ _ | exact below_drew1 _ | exact below_drewN0 _ _))
          go_wp2_with fail
          go_meet
          exact ⟨rfl, hBw⟩
  case rest =>
  obtain ⟨rfl, hBc⟩ := hcut
  have hT8 := below_then hT7 hBc
  have hA8 := block_below hBc hA7
  have hB8 := block_below hBc hB7
  obtain ⟨a0, a1, a2, a3, a4⟩ := cells5' hA8
  obtain ⟨b0, b1, b2, b3, b4⟩ := cells5' hB8
  have hlA := (Array.getElem?_eq_some_iff.1 hA8).1
  have hlB := (Array.getElem?_eq_some_iff.1 hB8).1
  obtain ⟨D, hD, hDle⟩ := and_mask (I : Int) 2047 (by omega)
  have hD' : bits .and .i64 (I : Int) 2047 = (D : Int) := hD
  obtain ⟨E, hE, hEle⟩ := and_mask (U : Int) 262143 (by omega)
  have hE' : bits .and .i64 (U : Int) 262143 = (E : Int) := hE
  clear hD hE hA7 hB7 hC7 hT7 hBc HOK
  obtain ⟨X, hX⟩ : ∃ X, D * 262144 + E = X := ⟨_, rfl⟩
  have hXe : (D : Int) * 262144 + (E : Int) = (X : Int) := by omega
  have hDd : lessR (rankF (⟨false, (D : Int), false, 0, none, 0, 0⟩ : FV)) (rankF (⟨false, (D : Int), true, 0, none, 0, 0⟩ : FV)) := rank_data (i := D) (by omega)
  have hDx : lessR (rankF (⟨false, (D : Int), false, 0, none, 0, 0⟩ : FV)) (rankF (⟨true, (X : Int), g.r, 0, none, 0, 0⟩ : FV)) := by have := rank_ext (i := D) (j := E) (r := false) (s := g.r) (by omega) (by omega); rw [hX] at this; exact this
  have hRx : lessR (rankF (⟨false, (D : Int), true, 0, none, 0, 0⟩ : FV)) (rankF (⟨true, (X : Int), g.r, 0, none, 0, 0⟩ : FV)) := by have := rank_ext (i := D) (j := E) (r := true) (s := g.r) (by omega) (by omega); rw [hX] at this; exact this
  have okD : FOk (⟨false, (D : Int), false, 0, none, 0, 0⟩ : FV) := ⟨D, rfl, by simp [idOk]; omega⟩
  have okR : FOk (⟨false, (D : Int), true, 0, none, 0, 0⟩ : FV) := ⟨D, rfl, by simp [idOk]; omega⟩
  have okX : FOk (⟨true, (X : Int), g.r, 0, none, 0, 0⟩ : FV) := ⟨X, rfl, by simp [idOk]; omega⟩
  have HO := Lib.hid (And.intro okD (And.intro okR (And.intro okX (And.intro (win_three hDd hDx) (And.intro (win_two hRx).2.2 (win_two hDd).2.2)))))
  clear hX hDd hDx hRx okD okR okX
  go_wp2_with fail
  obtain ⟨w8, hw8⟩ : ∃ w8, ((wc.alloc (.cells #[.bool false, .int .i64 D, .bool false, .int .i64 0, .slice none 0 0] 35)).alloc (.cells #[.bool false, .int .i64 D, .bool true, .int .i64 0, .slice none 0 0] 35)).alloc (.cells #[.bool true, .int .i64 X, .bool g.r, .int .i64 0, .slice none 0 0] 35) = w8 := ⟨_, rfl⟩
  have hz8 : w8.heap.size = wc.heap.size + 1 + 1 + 1 := by rw [← hw8]; simp
  have hBc8 : Below wc.heap.size wc w8 := by rw [← hw8]; exact below3 _ _ _ _
  have hD8 : w8.heap[wc.heap.size]? = some (.cells #[.bool false, .int .i64 D, .bool false, .int .i64 0, .slice none 0 0] 35) := by rw [← hw8]; exact block_below (below_alloc1 _ _) (block_below (below_alloc1 _ _) (World.alloc_heap_new _ _))
  have hR8 : w8.heap[wc.heap.size + 1]? = some (.cells #[.bool false, .int .i64 D, .bool true, .int .i64 0, .slice none 0 0] 35) := by rw [← hw8]; exact blk2 _ _ _ _
  have hX8 : w8.heap[wc.heap.size + 1 + 1]? = some (.cells #[.bool true, .int .i64 X, .bool g.r, .int .i64 0, .slice none 0 0] 35) := by
    rw [← hw8]
    have := World.alloc_heap_new ((wc.alloc (.cells #[.bool false, .int .i64 D, .bool false, .int .i64 0, .slice none 0 0] 35)).alloc (.cells #[.bool false, .int .i64 D, .bool true, .int .i64 0, .slice none 0 0] 35)) (.cells #[.bool true, .int .i64 X, .bool g.r, .int .i64 0, .slice none 0 0] 35)
    simpa using this
  rw [hw8]
  have hT9 := hT8.trans (hBc8.mono hT8.size)
  clear hw8 a0 a1 a2 a3 a4 b0 b1 b2 b3 b4 hA8 hB8 hlA hlB hT8
  refine (win_any [(⟨true, (X : Int), g.r, 0, none, 0, 0⟩ : FV), (⟨false, (D : Int), true, 0, none, 0, 0⟩ : FV), (⟨false, (D : Int), false, 0, none, 0, 0⟩ : FV)] 3 rfl _ 3 _ (FRow.lit w8 [(⟨true, (X : Int), g.r, 0, none, 0, 0⟩ : FV), (⟨false, (D : Int), true, 0, none, 0, 0⟩ : FV), (⟨false, (D : Int), false, 0, none, 0, 0⟩ : FV)] rfl (by omega)) (by intro h hh; simp only [List.mem_cons, List.not_mem_nil, or_false] at hh; rcases hh with rfl | rfl | rfl; exact HO.out.2.2.1; exact HO.out.2.1; exact HO.out.1) (by omega) (rankF (⟨false, (D : Int), false, 0, none, 0, 0⟩ : FV)) HO.out.2.2.2.1.1 _ rfl (rankF_le _) 2 HO.out.2.2.2.1.2).mono ?_
  rintro e w9 ⟨rfl, hB9⟩
  have hB9' := below_then (below_alloc1 _ _) hB9
  have hD9 := block_below hB9' hD8
  have hR9 := block_below hB9' hR8
  have hX9 := block_below hB9' hX8
  have hT10 := below_then hT9 hB9'
  obtain ⟨a0, a1, a2, a3, a4⟩ := cells5' hX9
  obtain ⟨b0, b1, b2, b3, b4⟩ := cells5' hR9
  clear hD8 hR8 hX8 hB9 hB9' hT9 hz8
  go_wp2_with fail
  clear a0 a1 a2 a3 a4 b0 b1 b2 b3 b4
  refine (win_any [(⟨true, (X : Int), g.r, 0, none, 0, 0⟩ : FV), (⟨false, (D : Int), true, 0, none, 0, 0⟩ : FV)] 2 rfl _ 2 _ (FRow.lit w9 [(⟨true, (X : Int), g.r, 0, none, 0, 0⟩ : FV), (⟨false, (D : Int), true, 0, none, 0, 0⟩ : FV)] rfl rfl) (by intro h hh; simp only [List.mem_cons, List.not_mem_nil, or_false] at hh; rcases hh with rfl | rfl; exact HO.out.2.2.1; exact HO.out.2.1) (by omega) (rankF (⟨false, (D : Int), true, 0, none, 0, 0⟩ : FV)) HO.out.2.2.2.2.1.1 _ rfl (rankF_le _) 1 HO.out.2.2.2.2.1.2).mono ?_
  rintro e w10 ⟨rfl, hB10⟩
  have hB10' := below_then (below_alloc1 _ _) hB10
  have hD10 := block_below hB10' hD9
  have hR10 := block_below hB10' hR9
  have hT11 := below_then hT10 hB10'
  obtain ⟨a0, a1, a2, a3, a4⟩ := cells5' hR10
  obtain ⟨b0, b1, b2, b3, b4⟩ := cells5' hD10
  clear hD9 hR9 hX9 hB10 hB10' hT10
  go_wp2_with fail
  clear a0 a1 a2 a3 a4 b0 b1 b2 b3 b4
  refine (win_any [(⟨false, (D : Int), true, 0, none, 0, 0⟩ : FV), (⟨false, (D : Int), false, 0, none, 0, 0⟩ : FV)] 2 rfl _ 2 _ (FRow.lit w10 [(⟨false, (D : Int), true, 0, none, 0, 0⟩ : FV), (⟨false, (D : Int), false, 0, none, 0, 0⟩ : FV)] rfl rfl) (by intro h hh; simp only [List.mem_cons, List.not_mem_nil, or_false] at hh; rcases hh with rfl | rfl; exact HO.out.2.1; exact HO.out.1) (by omega) (rankF (⟨false, (D : Int), false, 0, none, 0, 0⟩ : FV)) HO.out.2.2.2.2.2.1 _ rfl (rankF_le _) 1 HO.out.2.2.2.2.2.2).mono ?_
  rintro e w11 ⟨rfl, hB11⟩
  have hT12 := below_then hT11 (below_then (below_alloc1 _ _) hB11)
  go_wp2_with fail
  go_ret
  exact ⟨rfl, hT12⟩

end Go.Proofs.Ytfmlnfblfhmapaa
