/-
  FilterTells.
-/
import Derived.Test.YtmffflckcpgjiaaFilLaw
import Derived.Test.YtmffflckcpgjiaaHead7
import Derived.Test.YtmffflckcpgjiaaAny7
namespace Go.Proofs.Ytmffflckcpgjiaa
open Go.RowKit
set_option linter.unusedVariables false
set_option linter.unusedSimpArgs false

set_option maxRecDepth 100000 in
set_option maxHeartbeats 2000000 in
theorem filterTells_any (a b : FL) (x : FV) (fs : List FL) (n : Nat) (hn : fs.length = n) (A : Option Addr) (c : Nat) (w : World) (hl : LRow w w.heap.size A fs) (hwa : -9223372036854775808 ≤ a.m ∧ a.m < 9223372036854775808) (hm : n ≤ maxLen) (hxm : x.m ≤ maxLen) :
    Calls Try.prog 3 #[a.v, b.v, .slice A n c, x.v] w fun e w' => e = .returned (.bool true) ∧ Below w.heap.size w w' := by
  unfold maxLen at hm hxm
  have Hn := Lib.hid hn
  have HR := Lib.hid (right_eq hwa)
  clear hn hwa
  go_enter Try.func3, Try.ntmps3
  go_wp2_with fail
  obtain ⟨w0, hw0⟩ : ∃ w0, (((w.alloc (.cells #[.bool a.x, .int .i64 a.k, .int .i64 a.m] 23)).alloc (.cells #[.bool b.x, .int .i64 b.k, .int .i64 b.m] 23)).alloc (.cells #[.bool x.x, .int .i64 x.i, .bool x.r, .int .i64 x.n, .slice x.a x.m x.c] 27)) = w0 := ⟨_, rfl⟩
  have hT0 : Below w.heap.size w w0 := by rw [← hw0]; exact below_then (below_two _ _ _) (below_alloc1 _ _)
  have ha0 : HasL w0 w.heap.size ⟨a.x, a.k, a.m⟩ := by rw [← hw0]; exact block_below (below_alloc1 _ _) (blk1 _ _ _)
  have hb0 : HasL w0 (w.heap.size + 1) ⟨b.x, b.k, b.m⟩ := by rw [← hw0]; exact block_below (below_alloc1 _ _) (blk2 _ _ _)
  have hx0 : HasF w0 (w.heap.size + 2) ⟨x.x, x.i, x.r, x.n, x.a, x.m, x.c⟩ := by rw [← hw0]; exact blk3 _ _ _ _
  have hl0 := LRow.to hl hT0
  rw [hw0]
  clear hw0
  clear hl
  refine (head7_any w0).mono ?_
  rintro e w1 ⟨rfl, hB1⟩
  have hT1 := below_then hT0 hB1
  have ha1 := block_below hB1 ha0
  have hb1 := block_below hB1 hb0
  have hx1 := block_below hB1 hx0
  have hl1 := LRow.to hl0 hB1
  clear hT0 ha0 hb0 hx0 hl0 hB1
  rcases dec (100 < n) with ⟨d1, h1⟩ | ⟨d1, h1⟩
  · skip
    have d1' : decide ((100 : Int) < (n : Int)) = true := by simp; omega
    obtain ⟨ac0, ac1, ac2⟩ := cells3' ha1
    obtain ⟨bc0, bc1, bc2⟩ := cells3' hb1
    obtain ⟨xc0, xc1, xc2, xc3, xc4⟩ := cells5' hx1
    go_wp2_with fail
    go_ret
    exact ⟨rfl, hT1⟩
  have d1' : decide ((100 : Int) < (n : Int)) = false := by simp; omega
  rcases dec (100 < x.m) with ⟨d2, h2⟩ | ⟨d2, h2⟩
  · skip
    have d2' : decide ((100 : Int) < (x.m : Int)) = true := by simp; omega
    obtain ⟨ac0, ac1, ac2⟩ := cells3' ha1
    obtain ⟨bc0, bc1, bc2⟩ := cells3' hb1
    obtain ⟨xc0, xc1, xc2, xc3, xc4⟩ := cells5' hx1
    go_wp2_with fail
    go_ret
    exact ⟨rfl, hT1⟩
  have d2' : decide ((100 : Int) < (x.m : Int)) = false := by simp; omega
  have hn100 : n ≤ 100 := by omega
  clear h1 h2
  obtain ⟨qa, hqa⟩ : ∃ q, refRightP a = q := ⟨_, rfl⟩
  have Hqa := Lib.hid hqa
  clear hqa
  obtain ⟨ac0, ac1, ac2⟩ := cells3' ha1
  obtain ⟨bc0, bc1, bc2⟩ := cells3' hb1
  obtain ⟨xc0, xc1, xc2, xc3, xc4⟩ := cells5' hx1
  go_wp2_with fail
  clear ac0 ac1 ac2 bc0 bc1 bc2 xc0 xc1 xc2 xc3 xc4
  refine wp_region_held_drew (S := fun W => (W.cell? ⟨w.heap.size, 0, none⟩ = some (.bool a.x) ∧ W.cell? ⟨w.heap.size, 1, none⟩ = some (.int .i64 a.k) ∧ W.cell? ⟨w.heap.size, 2, none⟩ = some (.int .i64 a.m))) (by kernel_rfl) (by exact HasL.cl (f := ⟨a.x, a.k, a.m⟩) (block_below (below_drew1 _) ha1)) (fun hHeld_ => ?_)
  refine wpAnyH_take' (i := 0) (v := ?v0_t1) 21 rfl rfl (by kernel_rfl) (by kernel_rfl) (by kernel_rfl) (fun _ _ _ h => h) (Or.inl ⟨by kernel_rfl, ?hy0_t1⟩) (by assumption) ?rest0_t1
  case hy0_t1 => (intro W_ hS_; (try dsimp only at hS_); go_simp; (try (with_reducible rfl)))
  try simp only [Act.put, List.setIfInBounds_toArray, List.set_cons_zero, List.set_cons_succ]
  refine wpAnyH_take' (i := 2) (v := ?v2_t1) 23 rfl rfl (by kernel_rfl) (by kernel_rfl) (by kernel_rfl) (fun _ _ _ h => h) (Or.inl ⟨by kernel_rfl, ?hy2_t1⟩) (by assumption) ?rest2_t1
  case hy2_t1 => (intro W_ hS_; (try dsimp only at hS_); go_simp; (try (with_reducible rfl)))
  try simp only [Act.put, List.setIfInBounds_toArray, List.set_cons_zero, List.set_cons_succ]
  refine wpAnyH_ready (rs := [1]) (by kernel_rfl) (by simp) ?_
  refine AllReadyH.cons rfl (fun K_ hK_ => ?_) AllReadyH.nil
  go_simp
  refine (right_q a _ qa (HR.out.trans Hqa.out)).mono ?_; rintro e wr1 ⟨rfl, hBr1⟩
  go_wp2_with fail
  refine hK_.out _ _ (by exact HasL.cl (f := ⟨a.x, a.k, a.m⟩) (block_below hBr1 (block_below (below_drew1 _) ha1))) (fun hHeld_1 => ?_)
  clear hK_
  try simp only [Act.put, List.setIfInBounds_toArray, List.set_cons_zero, List.set_cons_succ]
  refine wpAnyH_ready (rs := [3]) (by kernel_rfl) (by simp) ?_
  refine AllReadyH.cons rfl (fun K_ hK_ => ?_) AllReadyH.nil
  go_simp
  refine (refRight_q a _ qa Hqa.out).mono ?_; rintro e wr3 ⟨rfl, hBr3⟩
  go_wp2_with fail
  refine hK_.out _ _ (by exact HasL.cl (f := ⟨a.x, a.k, a.m⟩) (block_below hBr3 (block_below hBr1 (block_below (below_drew1 _) ha1)))) (fun hHeld_3 => ?_)
  clear hK_
  try simp only [Act.put, List.setIfInBounds_toArray, List.set_cons_zero, List.set_cons_succ]
  refine wpAnyH_take' (i := 4) (v := ?v4_t1) 25 rfl rfl (by kernel_rfl) (by kernel_rfl) (by kernel_rfl) (fun _ _ _ h => h) (Or.inl ⟨by kernel_rfl, ?hy4_t1⟩) (by assumption) ?rest4_t1
  case hy4_t1 => (intro W_ hS_; (try dsimp only at hS_); go_simp; (try (with_reducible rfl)))
  try simp only [Act.put, List.setIfInBounds_toArray, List.set_cons_zero, List.set_cons_succ]
  refine wpAnyH_done (by kernel_rfl) ?_ _
  obtain ⟨w2, hw2⟩ : ∃ w2, wr3 = w2 := ⟨_, rfl⟩
  have hB2 : Below w1.heap.size w1 w2 := by rw [← hw2]; exact (below_then (below_then (below_drew1 _) hBr1) hBr3)
  rw [hw2]
  clear hw2
  have hT2 := below_then hT1 hB2
  have ha2 := block_below hB2 ha1
  have hb2 := block_below hB2 hb1
  have hx2 := block_below hB2 hx1
  have hl2 := LRow.to hl1 hB2
  clear hT1 ha1 hb1 hx1 hl1 hB2
  clear d1 d1' d2 d2'
  obtain ⟨ac0, ac1, ac2⟩ := cells3' ha2
  obtain ⟨bc0, bc1, bc2⟩ := cells3' hb2
  obtain ⟨xc0, xc1, xc2, xc3, xc4⟩ := cells5' hx2
  go_wp2_with fail
  clear ac0 ac1 ac2 bc0 bc1 bc2 xc0 xc1 xc2 xc3 xc4
  cases qa
  · skip
    refine (refRight_q a w2 false Hqa.out).mono ?_
    rintro e w3 ⟨rfl, hB3⟩
    have hT3 := below_then hT2 hB3
    have ha3 := block_below hB3 ha2
    have hb3 := block_below hB3 hb2
    have hx3 := block_below hB3 hx2
    have hl3 := LRow.to hl2 hB3
    clear hT2 ha2 hb2 hx2 hl2 hB3
    obtain ⟨ac0, ac1, ac2⟩ := cells3' ha3
    obtain ⟨bc0, bc1, bc2⟩ := cells3' hb3
    obtain ⟨xc0, xc1, xc2, xc3, xc4⟩ := cells5' hx3
    go_wp2_with fail
    go_ret
    exact ⟨rfl, hT3⟩
  refine (refRight_q a w2 true Hqa.out).mono ?_
  rintro e w3 ⟨rfl, hB3⟩
  have hT3 := below_then hT2 hB3
  have ha3 := block_below hB3 ha2
  have hb3 := block_below hB3 hb2
  have hx3 := block_below hB3 hx2
  have hl3 := LRow.to hl2 hB3
  clear hT2 ha2 hb2 hx2 hl2 hB3
  obtain ⟨ac0, ac1, ac2⟩ := cells3' ha3
  obtain ⟨bc0, bc1, bc2⟩ := cells3' hb3
  obtain ⟨xc0, xc1, xc2, xc3, xc4⟩ := cells5' hx3
  go_wp2_with fail
  clear ac0 ac1 ac2 bc0 bc1 bc2 xc0 xc1 xc2 xc3 xc4
  obtain ⟨qb, hqb⟩ : ∃ q, refRightP b = q := ⟨_, rfl⟩
  have Hqb := Lib.hid hqb
  clear hqb
  cases qb
  · skip
    refine (refRight_q b w3 false Hqb.out).mono ?_
    rintro e w4 ⟨rfl, hB4⟩
    have hT4 := below_then hT3 hB4
    have ha4 := block_below hB4 ha3
    have hb4 := block_below hB4 hb3
    have hx4 := block_below hB4 hx3
    have hl4 := LRow.to hl3 hB4
    clear hT3 ha3 hb3 hx3 hl3 hB4
    obtain ⟨ac0, ac1, ac2⟩ := cells3' ha4
    obtain ⟨bc0, bc1, bc2⟩ := cells3' hb4
    obtain ⟨xc0, xc1, xc2, xc3, xc4⟩ := cells5' hx4
    go_wp2_with fail
    go_ret
    exact ⟨rfl, hT4⟩
  refine (refRight_q b w3 true Hqb.out).mono ?_
  rintro e w4 ⟨rfl, hB4⟩
  have hT4 := below_then hT3 hB4
  have ha4 := block_below hB4 ha3
  have hb4 := block_below hB4 hb3
  have hx4 := block_below hB4 hx3
  have hl4 := LRow.to hl3 hB4
  clear hT3 ha3 hb3 hx3 hl3 hB4
  obtain ⟨ac0, ac1, ac2⟩ := cells3' ha4
  obtain ⟨bc0, bc1, bc2⟩ := cells3' hb4
  obtain ⟨xc0, xc1, xc2, xc3, xc4⟩ := cells5' hx4
  go_wp2_with fail
  clear ac0 ac1 ac2 bc0 bc1 bc2 xc0 xc1 xc2 xc3 xc4
  obtain ⟨ql, hql⟩ : ∃ q, goodV fs = q := ⟨_, rfl⟩
  have Hql := Lib.hid hql
  clear hql
  cases ql
  · skip
    refine (good_q fs w4 false n Hn.out A c hl4 hn100 Hql.out).mono ?_
    rintro e w5 ⟨rfl, hB5⟩
    have hT5 := below_then hT4 hB5
    have ha5 := block_below hB5 ha4
    have hb5 := block_below hB5 hb4
    have hx5 := block_below hB5 hx4
    have hl5 := LRow.to hl4 hB5
    clear hT4 ha4 hb4 hx4 hl4 hB5
    obtain ⟨ac0, ac1, ac2⟩ := cells3' ha5
    obtain ⟨bc0, bc1, bc2⟩ := cells3' hb5
    obtain ⟨xc0, xc1, xc2, xc3, xc4⟩ := cells5' hx5
    go_wp2_with fail
    go_ret
    exact ⟨rfl, hT5⟩
  refine (good_q fs w4 true n Hn.out A c hl4 hn100 Hql.out).mono ?_
  rintro e w5 ⟨rfl, hB5⟩
  have hT5 := below_then hT4 hB5
  have ha5 := block_below hB5 ha4
  have hb5 := block_below hB5 hb4
  have hx5 := block_below hB5 hx4
  have hl5 := LRow.to hl4 hB5
  clear hT4 ha4 hb4 hx4 hl4 hB5
  obtain ⟨ac0, ac1, ac2⟩ := cells3' ha5
  obtain ⟨bc0, bc1, bc2⟩ := cells3' hb5
  obtain ⟨xc0, xc1, xc2, xc3, xc4⟩ := cells5' hx5
  go_wp2_with fail
  clear ac0 ac1 ac2 bc0 bc1 bc2 xc0 xc1 xc2 xc3 xc4
  obtain ⟨qx, hqx⟩ : ∃ q, frRightP x = q := ⟨_, rfl⟩
  have Hqx := Lib.hid hqx
  clear hqx
  cases qx
  · skip
    refine (frRight_q x w5 false Hqx.out).mono ?_
    rintro e w6 ⟨rfl, hB6⟩
    have hT6 := below_then hT5 hB6
    have ha6 := block_below hB6 ha5
    have hb6 := block_below hB6 hb5
    have hx6 := block_below hB6 hx5
    have hl6 := LRow.to hl5 hB6
    clear hT5 ha5 hb5 hx5 hl5 hB6
    obtain ⟨ac0, ac1, ac2⟩ := cells3' ha6
    obtain ⟨bc0, bc1, bc2⟩ := cells3' hb6
    obtain ⟨xc0, xc1, xc2, xc3, xc4⟩ := cells5' hx6
    go_wp2_with fail
    go_ret
    exact ⟨rfl, hT6⟩
  refine (frRight_q x w5 true Hqx.out).mono ?_
  rintro e w6 ⟨rfl, hB6⟩
  have hT6 := below_then hT5 hB6
  have ha6 := block_below hB6 ha5
  have hb6 := block_below hB6 hb5
  have hx6 := block_below hB6 hx5
  have hl6 := LRow.to hl5 hB6
  clear hT5 ha5 hb5 hx5 hl5 hB6
  obtain ⟨K, M, ha⟩ := okL_of Hqa.out
  obtain ⟨K2, M2, hb⟩ := okL_of Hqb.out
  have HM := Lib.hid (refMeets_eq ha hb)
  clear ha hb
  obtain ⟨p1, hp1⟩ : ∃ q, takesV a x.x x.i = q := ⟨_, rfl⟩
  have Hp1 := Lib.hid hp1
  clear hp1
  obtain ⟨p2, hp2⟩ : ∃ q, anyV fs x.x x.i = q := ⟨_, rfl⟩
  have Hp2 := Lib.hid hp2
  clear hp2
  obtain ⟨p3, hp3⟩ : ∃ q, coversV a b = q := ⟨_, rfl⟩
  have Hp3 := Lib.hid hp3
  clear hp3
  obtain ⟨p4, hp4⟩ : ∃ q, meetsV a b = q := ⟨_, rfl⟩
  have Hp4 := Lib.hid hp4
  clear hp4
  obtain ⟨ac0, ac1, ac2⟩ := cells3' ha6
  obtain ⟨bc0, bc1, bc2⟩ := cells3' hb6
  obtain ⟨xc0, xc1, xc2, xc3, xc4⟩ := cells5' hx6
  go_wp2_with fail
  clear ac0 ac1 ac2 bc0 bc1 bc2 xc0 xc1 xc2 xc3 xc4
  refine wp_region_held_drew (S := fun W => (W.cell? ⟨w.heap.size, 0, none⟩ = some (.bool a.x) ∧ W.cell? ⟨w.heap.size, 1, none⟩ = some (.int .i64 a.k) ∧ W.cell? ⟨w.heap.size, 2, none⟩ = some (.int .i64 a.m)) ∧ (W.cell? ⟨(w.heap.size + 1), 0, none⟩ = some (.bool b.x) ∧ W.cell? ⟨(w.heap.size + 1), 1, none⟩ = some (.int .i64 b.k) ∧ W.cell? ⟨(w.heap.size + 1), 2, none⟩ = some (.int .i64 b.m)) ∧ (W.cell? ⟨(w.heap.size + 2), 0, none⟩ = some (.bool x.x) ∧ W.cell? ⟨(w.heap.size + 2), 1, none⟩ = some (.int .i64 x.i) ∧ W.cell? ⟨(w.heap.size + 2), 2, none⟩ = some (.bool x.r) ∧ W.cell? ⟨(w.heap.size + 2), 3, none⟩ = some (.int .i64 x.n) ∧ W.cell? ⟨(w.heap.size + 2), 4, none⟩ = some (.slice x.a x.m x.c))) (by kernel_rfl) (by exact ⟨HasL.cl (f := ⟨a.x, a.k, a.m⟩) (block_below (below_drew1 _) ha6), HasL.cl (f := ⟨b.x, b.k, b.m⟩) (block_below (below_drew1 _) hb6), HasF.cf (f := ⟨x.x, x.i, x.r, x.n, x.a, x.m, x.c⟩) (block_below (below_drew1 _) hx6)⟩) (fun hHeld_ => ?_)
  refine wpAnyH_take' (i := 0) (v := ?v0_t2) 45 rfl rfl (by kernel_rfl) (by kernel_rfl) (by kernel_rfl) (fun _ _ _ h => h) (Or.inl ⟨by kernel_rfl, ?hy0_t2⟩) (by assumption) ?rest0_t2
  case hy0_t2 => (intro W_ hS_; (try dsimp only at hS_); go_simp; (try (with_reducible rfl)))
  try simp only [Act.put, List.setIfInBounds_toArray, List.set_cons_zero, List.set_cons_succ]
  refine wpAnyH_take' (i := 1) (v := ?v1_t2) 46 rfl rfl (by kernel_rfl) (by kernel_rfl) (by kernel_rfl) (fun _ _ _ h => h) (Or.inl ⟨by kernel_rfl, ?hy1_t2⟩) (by assumption) ?rest1_t2
  case hy1_t2 => (intro W_ hS_; (try dsimp only at hS_); go_simp; (try (with_reducible rfl)))
  try simp only [Act.put, List.setIfInBounds_toArray, List.set_cons_zero, List.set_cons_succ]
  refine wpAnyH_take' (i := 2) (v := ?v2_t2) 47 rfl rfl (by kernel_rfl) (by kernel_rfl) (by kernel_rfl) (fun _ _ _ h => h) (Or.inl ⟨by kernel_rfl, ?hy2_t2⟩) (by assumption) ?rest2_t2
  case hy2_t2 => (intro W_ hS_; (try dsimp only at hS_); go_simp; (try (with_reducible rfl)))
  try simp only [Act.put, List.setIfInBounds_toArray, List.set_cons_zero, List.set_cons_succ]
  refine wpAnyH_take' (i := 3) (v := ?v3_t2) 48 rfl rfl (by kernel_rfl) (by kernel_rfl) (by kernel_rfl) (fun _ _ _ h => h) (Or.inl ⟨by kernel_rfl, ?hy3_t2⟩) (by assumption) ?rest3_t2
  case hy3_t2 => (intro W_ hS_; (try dsimp only at hS_); go_simp; (try (with_reducible rfl)))
  try simp only [Act.put, List.setIfInBounds_toArray, List.set_cons_zero, List.set_cons_succ]
  refine wpAnyH_take' (i := 5) (v := ?v5_t2) 50 rfl rfl (by kernel_rfl) (by kernel_rfl) (by kernel_rfl) (fun _ _ _ h => h) (Or.inl ⟨by kernel_rfl, ?hy5_t2⟩) (by assumption) ?rest5_t2
  case hy5_t2 => (intro W_ hS_; (try dsimp only at hS_); go_simp; (try (with_reducible rfl)))
  try simp only [Act.put, List.setIfInBounds_toArray, List.set_cons_zero, List.set_cons_succ]
  refine wpAnyH_take' (i := 6) (v := ?v6_t2) 51 rfl rfl (by kernel_rfl) (by kernel_rfl) (by kernel_rfl) (fun _ _ _ h => h) (Or.inl ⟨by kernel_rfl, ?hy6_t2⟩) (by assumption) ?rest6_t2
  case hy6_t2 => (intro W_ hS_; (try dsimp only at hS_); go_simp; (try (with_reducible rfl)))
  try simp only [Act.put, List.setIfInBounds_toArray, List.set_cons_zero, List.set_cons_succ]
  refine wpAnyH_ready (rs := [4]) (by kernel_rfl) (by simp) ?_
  refine AllReadyH.cons rfl (fun K_ hK_ => ?_) AllReadyH.nil
  go_simp
  refine (takes_q a x _ p1 Hp1.out).mono ?_; rintro e wr4 ⟨rfl, hBr4⟩
  go_wp2_with fail
  refine hK_.out _ _ (by exact ⟨HasL.cl (f := ⟨a.x, a.k, a.m⟩) (block_below hBr4 (block_below (below_drew1 _) ha6)), HasL.cl (f := ⟨b.x, b.k, b.m⟩) (block_below hBr4 (block_below (below_drew1 _) hb6)), HasF.cf (f := ⟨x.x, x.i, x.r, x.n, x.a, x.m, x.c⟩) (block_below hBr4 (block_below (below_drew1 _) hx6))⟩) (fun hHeld_4 => ?_)
  clear hK_
  try simp only [Act.put, List.setIfInBounds_toArray, List.set_cons_zero, List.set_cons_succ]
  refine wpAnyH_ready (rs := [7]) (by kernel_rfl) (by simp) ?_
  refine AllReadyH.cons rfl (fun K_ hK_ => ?_) AllReadyH.nil
  go_simp
  refine (refTakes_q a x _ p1 Hp1.out).mono ?_; rintro e wr7 ⟨rfl, hBr7⟩
  go_wp2_with fail
  refine hK_.out _ _ (by exact ⟨HasL.cl (f := ⟨a.x, a.k, a.m⟩) (block_below hBr7 (block_below hBr4 (block_below (below_drew1 _) ha6))), HasL.cl (f := ⟨b.x, b.k, b.m⟩) (block_below hBr7 (block_below hBr4 (block_below (below_drew1 _) hb6))), HasF.cf (f := ⟨x.x, x.i, x.r, x.n, x.a, x.m, x.c⟩) (block_below hBr7 (block_below hBr4 (block_below (below_drew1 _) hx6)))⟩) (fun hHeld_7 => ?_)
  clear hK_
  try simp only [Act.put, List.setIfInBounds_toArray, List.set_cons_zero, List.set_cons_succ]
  refine wpAnyH_take' (i := 8) (v := ?v8_t2) 53 rfl rfl (by kernel_rfl) (by kernel_rfl) (by kernel_rfl) (fun _ _ _ h => h) (Or.inl ⟨by kernel_rfl, ?hy8_t2⟩) (by assumption) ?rest8_t2
  case hy8_t2 => (intro W_ hS_; (try dsimp only at hS_); go_simp; (try (with_reducible rfl)))
  try simp only [Act.put, List.setIfInBounds_toArray, List.set_cons_zero, List.set_cons_succ]
  refine wpAnyH_take' (i := 9) (v := ?v9_t2) 54 rfl rfl (by kernel_rfl) (by kernel_rfl) (by kernel_rfl) (fun _ _ _ h => h) (Or.inl ⟨by kernel_rfl, ?hy9_t2⟩) (by assumption) ?rest9_t2
  case hy9_t2 => (intro W_ hS_; (try dsimp only at hS_); go_simp; (try (with_reducible rfl)))
  try simp only [Act.put, List.setIfInBounds_toArray, List.set_cons_zero, List.set_cons_succ]
  refine wpAnyH_take' (i := 10) (v := ?v10_t2) 55 rfl rfl (by kernel_rfl) (by kernel_rfl) (by kernel_rfl) (fun _ _ _ h => h) (Or.inl ⟨by kernel_rfl, ?hy10_t2⟩) (by assumption) ?rest10_t2
  case hy10_t2 => (intro W_ hS_; (try dsimp only at hS_); go_simp; (try (with_reducible rfl)))
  try simp only [Act.put, List.setIfInBounds_toArray, List.set_cons_zero, List.set_cons_succ]
  refine wpAnyH_take' (i := 11) (v := ?v11_t2) 56 rfl rfl (by kernel_rfl) (by kernel_rfl) (by kernel_rfl) (fun _ _ _ h => h) (Or.inl ⟨by kernel_rfl, ?hy11_t2⟩) (by assumption) ?rest11_t2
  case hy11_t2 => (intro W_ hS_; (try dsimp only at hS_); go_simp; (try (with_reducible rfl)))
  try simp only [Act.put, List.setIfInBounds_toArray, List.set_cons_zero, List.set_cons_succ]
  refine wpAnyH_take' (i := 12) (v := ?v12_t2) 57 rfl rfl (by kernel_rfl) (by kernel_rfl) (by kernel_rfl) (fun _ _ _ h => h) (Or.inl ⟨by kernel_rfl, ?hy12_t2⟩) (by assumption) ?rest12_t2
  case hy12_t2 => (intro W_ hS_; (try dsimp only at hS_); go_simp; (try (with_reducible rfl)))
  try simp only [Act.put, List.setIfInBounds_toArray, List.set_cons_zero, List.set_cons_succ]
  refine wpAnyH_take' (i := 14) (v := ?v14_t2) 59 rfl rfl (by kernel_rfl) (by kernel_rfl) (by kernel_rfl) (fun _ _ _ h => h) (Or.inl ⟨by kernel_rfl, ?hy14_t2⟩) (by assumption) ?rest14_t2
  case hy14_t2 => (intro W_ hS_; (try dsimp only at hS_); go_simp; (try (with_reducible rfl)))
  try simp only [Act.put, List.setIfInBounds_toArray, List.set_cons_zero, List.set_cons_succ]
  refine wpAnyH_take' (i := 15) (v := ?v15_t2) 60 rfl rfl (by kernel_rfl) (by kernel_rfl) (by kernel_rfl) (fun _ _ _ h => h) (Or.inl ⟨by kernel_rfl, ?hy15_t2⟩) (by assumption) ?rest15_t2
  case hy15_t2 => (intro W_ hS_; (try dsimp only at hS_); go_simp; (try (with_reducible rfl)))
  try simp only [Act.put, List.setIfInBounds_toArray, List.set_cons_zero, List.set_cons_succ]
  refine wpAnyH_ready (rs := [13]) (by kernel_rfl) (by simp) ?_
  refine AllReadyH.cons rfl (fun K_ hK_ => ?_) AllReadyH.nil
  go_simp
  refine (any_q x fs _ p2 n Hn.out A c (LRow.to (LRow.to (LRow.to hl6 (below_drew1 _)) hBr4) hBr7) (by omega) Hp2.out).mono ?_; rintro e wr13 ⟨rfl, hBr13⟩
  go_wp2_with fail
  refine hK_.out _ _ (by exact ⟨HasL.cl (f := ⟨a.x, a.k, a.m⟩) (block_below hBr13 (block_below hBr7 (block_below hBr4 (block_below (below_drew1 _) ha6)))), HasL.cl (f := ⟨b.x, b.k, b.m⟩) (block_below hBr13 (block_below hBr7 (block_below hBr4 (block_below (below_drew1 _) hb6)))), HasF.cf (f := ⟨x.x, x.i, x.r, x.n, x.a, x.m, x.c⟩) (block_below hBr13 (block_below hBr7 (block_below hBr4 (block_below (below_drew1 _) hx6))))⟩) (fun hHeld_13 => ?_)
  clear hK_
  try simp only [Act.put, List.setIfInBounds_toArray, List.set_cons_zero, List.set_cons_succ]
  refine wpAnyH_ready (rs := [16]) (by kernel_rfl) (by simp) ?_
  refine AllReadyH.cons rfl (fun K_ hK_ => ?_) AllReadyH.nil
  go_simp
  refine (refAny_q fs x n Hn.out A c _ (LRow.to (LRow.to (LRow.to (LRow.to hl6 (below_drew1 _)) hBr4) hBr7) hBr13) (by omega) p2 Hp2.out).mono ?_; rintro e wr16 ⟨rfl, hBr16⟩
  go_wp2_with fail
  refine hK_.out _ _ (by exact ⟨HasL.cl (f := ⟨a.x, a.k, a.m⟩) (block_below hBr16 (block_below hBr13 (block_below hBr7 (block_below hBr4 (block_below (below_drew1 _) ha6))))), HasL.cl (f := ⟨b.x, b.k, b.m⟩) (block_below hBr16 (block_below hBr13 (block_below hBr7 (block_below hBr4 (block_below (below_drew1 _) hb6))))), HasF.cf (f := ⟨x.x, x.i, x.r, x.n, x.a, x.m, x.c⟩) (block_below hBr16 (block_below hBr13 (block_below hBr7 (block_below hBr4 (block_below (below_drew1 _) hx6)))))⟩) (fun hHeld_16 => ?_)
  clear hK_
  try simp only [Act.put, List.setIfInBounds_toArray, List.set_cons_zero, List.set_cons_succ]
  refine wpAnyH_take' (i := 17) (v := ?v17_t2) 62 rfl rfl (by kernel_rfl) (by kernel_rfl) (by kernel_rfl) (fun _ _ _ h => h) (Or.inl ⟨by kernel_rfl, ?hy17_t2⟩) (by assumption) ?rest17_t2
  case hy17_t2 => (intro W_ hS_; (try dsimp only at hS_); go_simp; (try (with_reducible rfl)))
  try simp only [Act.put, List.setIfInBounds_toArray, List.set_cons_zero, List.set_cons_succ]
  refine wpAnyH_take' (i := 18) (v := ?v18_t2) 63 rfl rfl (by kernel_rfl) (by kernel_rfl) (by kernel_rfl) (fun _ _ _ h => h) (Or.inl ⟨by kernel_rfl, ?hy18_t2⟩) (by assumption) ?rest18_t2
  case hy18_t2 => (intro W_ hS_; (try dsimp only at hS_); go_simp; (try (with_reducible rfl)))
  try simp only [Act.put, List.setIfInBounds_toArray, List.set_cons_zero, List.set_cons_succ]
  refine wpAnyH_take' (i := 19) (v := ?v19_t2) 64 rfl rfl (by kernel_rfl) (by kernel_rfl) (by kernel_rfl) (fun _ _ _ h => h) (Or.inl ⟨by kernel_rfl, ?hy19_t2⟩) (by assumption) ?rest19_t2
  case hy19_t2 => (intro W_ hS_; (try dsimp only at hS_); go_simp; (try (with_reducible rfl)))
  try simp only [Act.put, List.setIfInBounds_toArray, List.set_cons_zero, List.set_cons_succ]
  refine wpAnyH_take' (i := 20) (v := ?v20_t2) 65 rfl rfl (by kernel_rfl) (by kernel_rfl) (by kernel_rfl) (fun _ _ _ h => h) (Or.inl ⟨by kernel_rfl, ?hy20_t2⟩) (by assumption) ?rest20_t2
  case hy20_t2 => (intro W_ hS_; (try dsimp only at hS_); go_simp; (try (with_reducible rfl)))
  try simp only [Act.put, List.setIfInBounds_toArray, List.set_cons_zero, List.set_cons_succ]
  refine wpAnyH_take' (i := 21) (v := ?v21_t2) 66 rfl rfl (by kernel_rfl) (by kernel_rfl) (by kernel_rfl) (fun _ _ _ h => h) (Or.inl ⟨by kernel_rfl, ?hy21_t2⟩) (by assumption) ?rest21_t2
  case hy21_t2 => (intro W_ hS_; (try dsimp only at hS_); go_simp; (try (with_reducible rfl)))
  try simp only [Act.put, List.setIfInBounds_toArray, List.set_cons_zero, List.set_cons_succ]
  refine wpAnyH_take' (i := 23) (v := ?v23_t2) 68 rfl rfl (by kernel_rfl) (by kernel_rfl) (by kernel_rfl) (fun _ _ _ h => h) (Or.inl ⟨by kernel_rfl, ?hy23_t2⟩) (by assumption) ?rest23_t2
  case hy23_t2 => (intro W_ hS_; (try dsimp only at hS_); go_simp; (try (with_reducible rfl)))
  try simp only [Act.put, List.setIfInBounds_toArray, List.set_cons_zero, List.set_cons_succ]
  refine wpAnyH_take' (i := 24) (v := ?v24_t2) 69 rfl rfl (by kernel_rfl) (by kernel_rfl) (by kernel_rfl) (fun _ _ _ h => h) (Or.inl ⟨by kernel_rfl, ?hy24_t2⟩) (by assumption) ?rest24_t2
  case hy24_t2 => (intro W_ hS_; (try dsimp only at hS_); go_simp; (try (with_reducible rfl)))
  try simp only [Act.put, List.setIfInBounds_toArray, List.set_cons_zero, List.set_cons_succ]
  refine wpAnyH_ready (rs := [22]) (by kernel_rfl) (by simp) ?_
  refine AllReadyH.cons rfl (fun K_ hK_ => ?_) AllReadyH.nil
  go_simp
  refine (covers_q a b _ p3 Hp3.out).mono ?_; rintro e wr22 ⟨rfl, hBr22⟩
  go_wp2_with fail
  refine hK_.out _ _ (by exact ⟨HasL.cl (f := ⟨a.x, a.k, a.m⟩) (block_below hBr22 (block_below hBr16 (block_below hBr13 (block_below hBr7 (block_below hBr4 (block_below (below_drew1 _) ha6)))))), HasL.cl (f := ⟨b.x, b.k, b.m⟩) (block_below hBr22 (block_below hBr16 (block_below hBr13 (block_below hBr7 (block_below hBr4 (block_below (below_drew1 _) hb6)))))), HasF.cf (f := ⟨x.x, x.i, x.r, x.n, x.a, x.m, x.c⟩) (block_below hBr22 (block_below hBr16 (block_below hBr13 (block_below hBr7 (block_below hBr4 (block_below (below_drew1 _) hx6))))))⟩) (fun hHeld_22 => ?_)
  clear hK_
  try simp only [Act.put, List.setIfInBounds_toArray, List.set_cons_zero, List.set_cons_succ]
  refine wpAnyH_ready (rs := [25]) (by kernel_rfl) (by simp) ?_
  refine AllReadyH.cons rfl (fun K_ hK_ => ?_) AllReadyH.nil
  go_simp
  refine (refCovers_q a b _ p3 ((refCovers_eq a b).trans Hp3.out)).mono ?_; rintro e wr25 ⟨rfl, hBr25⟩
  go_wp2_with fail
  refine hK_.out _ _ (by exact ⟨HasL.cl (f := ⟨a.x, a.k, a.m⟩) (block_below hBr25 (block_below hBr22 (block_below hBr16 (block_below hBr13 (block_below hBr7 (block_below hBr4 (block_below (below_drew1 _) ha6))))))), HasL.cl (f := ⟨b.x, b.k, b.m⟩) (block_below hBr25 (block_below hBr22 (block_below hBr16 (block_below hBr13 (block_below hBr7 (block_below hBr4 (block_below (below_drew1 _) hb6))))))), HasF.cf (f := ⟨x.x, x.i, x.r, x.n, x.a, x.m, x.c⟩) (block_below hBr25 (block_below hBr22 (block_below hBr16 (block_below hBr13 (block_below hBr7 (block_below hBr4 (block_below (below_drew1 _) hx6)))))))⟩) (fun hHeld_25 => ?_)
  clear hK_
  try simp only [Act.put, List.setIfInBounds_toArray, List.set_cons_zero, List.set_cons_succ]
  refine wpAnyH_take' (i := 26) (v := ?v26_t2) 71 rfl rfl (by kernel_rfl) (by kernel_rfl) (by kernel_rfl) (fun _ _ _ h => h) (Or.inl ⟨by kernel_rfl, ?hy26_t2⟩) (by assumption) ?rest26_t2
  case hy26_t2 => (intro W_ hS_; (try dsimp only at hS_); go_simp; (try (with_reducible rfl)))
  try simp only [Act.put, List.setIfInBounds_toArray, List.set_cons_zero, List.set_cons_succ]
  refine wpAnyH_take' (i := 27) (v := ?v27_t2) 72 rfl rfl (by kernel_rfl) (by kernel_rfl) (by kernel_rfl) (fun _ _ _ h => h) (Or.inl ⟨by kernel_rfl, ?hy27_t2⟩) (by assumption) ?rest27_t2
  case hy27_t2 => (intro W_ hS_; (try dsimp only at hS_); go_simp; (try (with_reducible rfl)))
  try simp only [Act.put, List.setIfInBounds_toArray, List.set_cons_zero, List.set_cons_succ]
  refine wpAnyH_take' (i := 28) (v := ?v28_t2) 73 rfl rfl (by kernel_rfl) (by kernel_rfl) (by kernel_rfl) (fun _ _ _ h => h) (Or.inl ⟨by kernel_rfl, ?hy28_t2⟩) (by assumption) ?rest28_t2
  case hy28_t2 => (intro W_ hS_; (try dsimp only at hS_); go_simp; (try (with_reducible rfl)))
  try simp only [Act.put, List.setIfInBounds_toArray, List.set_cons_zero, List.set_cons_succ]
  refine wpAnyH_take' (i := 29) (v := ?v29_t2) 74 rfl rfl (by kernel_rfl) (by kernel_rfl) (by kernel_rfl) (fun _ _ _ h => h) (Or.inl ⟨by kernel_rfl, ?hy29_t2⟩) (by assumption) ?rest29_t2
  case hy29_t2 => (intro W_ hS_; (try dsimp only at hS_); go_simp; (try (with_reducible rfl)))
  try simp only [Act.put, List.setIfInBounds_toArray, List.set_cons_zero, List.set_cons_succ]
  refine wpAnyH_take' (i := 30) (v := ?v30_t2) 75 rfl rfl (by kernel_rfl) (by kernel_rfl) (by kernel_rfl) (fun _ _ _ h => h) (Or.inl ⟨by kernel_rfl, ?hy30_t2⟩) (by assumption) ?rest30_t2
  case hy30_t2 => (intro W_ hS_; (try dsimp only at hS_); go_simp; (try (with_reducible rfl)))
  try simp only [Act.put, List.setIfInBounds_toArray, List.set_cons_zero, List.set_cons_succ]
  refine wpAnyH_take' (i := 32) (v := ?v32_t2) 77 rfl rfl (by kernel_rfl) (by kernel_rfl) (by kernel_rfl) (fun _ _ _ h => h) (Or.inl ⟨by kernel_rfl, ?hy32_t2⟩) (by assumption) ?rest32_t2
  case hy32_t2 => (intro W_ hS_; (try dsimp only at hS_); go_simp; (try (with_reducible rfl)))
  try simp only [Act.put, List.setIfInBounds_toArray, List.set_cons_zero, List.set_cons_succ]
  refine wpAnyH_take' (i := 33) (v := ?v33_t2) 78 rfl rfl (by kernel_rfl) (by kernel_rfl) (by kernel_rfl) (fun _ _ _ h => h) (Or.inl ⟨by kernel_rfl, ?hy33_t2⟩) (by assumption) ?rest33_t2
  case hy33_t2 => (intro W_ hS_; (try dsimp only at hS_); go_simp; (try (with_reducible rfl)))
  try simp only [Act.put, List.setIfInBounds_toArray, List.set_cons_zero, List.set_cons_succ]
  refine wpAnyH_ready (rs := [31]) (by kernel_rfl) (by simp) ?_
  refine AllReadyH.cons rfl (fun K_ hK_ => ?_) AllReadyH.nil
  go_simp
  refine (meets_q a b _ p4 Hp4.out).mono ?_; rintro e wr31 ⟨rfl, hBr31⟩
  go_wp2_with fail
  refine hK_.out _ _ (by exact ⟨HasL.cl (f := ⟨a.x, a.k, a.m⟩) (block_below hBr31 (block_below hBr25 (block_below hBr22 (block_below hBr16 (block_below hBr13 (block_below hBr7 (block_below hBr4 (block_below (below_drew1 _) ha6)))))))), HasL.cl (f := ⟨b.x, b.k, b.m⟩) (block_below hBr31 (block_below hBr25 (block_below hBr22 (block_below hBr16 (block_below hBr13 (block_below hBr7 (block_below hBr4 (block_below (below_drew1 _) hb6)))))))), HasF.cf (f := ⟨x.x, x.i, x.r, x.n, x.a, x.m, x.c⟩) (block_below hBr31 (block_below hBr25 (block_below hBr22 (block_below hBr16 (block_below hBr13 (block_below hBr7 (block_below hBr4 (block_below (below_drew1 _) hx6))))))))⟩) (fun hHeld_31 => ?_)
  clear hK_
  try simp only [Act.put, List.setIfInBounds_toArray, List.set_cons_zero, List.set_cons_succ]
  refine wpAnyH_ready (rs := [34]) (by kernel_rfl) (by simp) ?_
  refine AllReadyH.cons rfl (fun K_ hK_ => ?_) AllReadyH.nil
  go_simp
  refine (refMeets_q a b _ p4 (HM.out.trans Hp4.out)).mono ?_; rintro e wr34 ⟨rfl, hBr34⟩
  go_wp2_with fail
  refine hK_.out _ _ (by exact ⟨HasL.cl (f := ⟨a.x, a.k, a.m⟩) (block_below hBr34 (block_below hBr31 (block_below hBr25 (block_below hBr22 (block_below hBr16 (block_below hBr13 (block_below hBr7 (block_below hBr4 (block_below (below_drew1 _) ha6))))))))), HasL.cl (f := ⟨b.x, b.k, b.m⟩) (block_below hBr34 (block_below hBr31 (block_below hBr25 (block_below hBr22 (block_below hBr16 (block_below hBr13 (block_below hBr7 (block_below hBr4 (block_below (below_drew1 _) hb6))))))))), HasF.cf (f := ⟨x.x, x.i, x.r, x.n, x.a, x.m, x.c⟩) (block_below hBr34 (block_below hBr31 (block_below hBr25 (block_below hBr22 (block_below hBr16 (block_below hBr13 (block_below hBr7 (block_below hBr4 (block_below (below_drew1 _) hx6)))))))))⟩) (fun hHeld_34 => ?_)
  clear hK_
  try simp only [Act.put, List.setIfInBounds_toArray, List.set_cons_zero, List.set_cons_succ]
  refine wpAnyH_take' (i := 35) (v := ?v35_t2) 80 rfl rfl (by kernel_rfl) (by kernel_rfl) (by kernel_rfl) (fun _ _ _ h => h) (Or.inl ⟨by kernel_rfl, ?hy35_t2⟩) (by assumption) ?rest35_t2
  case hy35_t2 => (intro W_ hS_; (try dsimp only at hS_); go_simp; (try (with_reducible rfl)))
  try simp only [Act.put, List.setIfInBounds_toArray, List.set_cons_zero, List.set_cons_succ]
  refine wpAnyH_take' (i := 36) (v := ?v36_t2) 81 rfl rfl (by kernel_rfl) (by kernel_rfl) (by kernel_rfl) (fun _ _ _ h => h) (Or.inl ⟨by kernel_rfl, ?hy36_t2⟩) (by assumption) ?rest36_t2
  case hy36_t2 => (intro W_ hS_; (try dsimp only at hS_); go_simp; (try (with_reducible rfl)))
  try simp only [Act.put, List.setIfInBounds_toArray, List.set_cons_zero, List.set_cons_succ]
  refine wpAnyH_take' (i := 37) (v := ?v37_t2) 8 rfl rfl (by kernel_rfl) (by kernel_rfl) (by kernel_rfl) (fun _ _ _ h => h) (Or.inl ⟨by kernel_rfl, ?hy37_t2⟩) (by assumption) ?rest37_t2
  case hy37_t2 => (intro W_ hS_; (try dsimp only at hS_); go_simp; (try (with_reducible rfl)))
  try simp only [Act.put, List.setIfInBounds_toArray, List.set_cons_zero, List.set_cons_succ]
  refine wpAnyH_done (by kernel_rfl) ?_ _
  go_wp2_with fail
  go_ret
  exact ⟨rfl, below_then hT6 (below_then (below_then (below_then (below_then (below_then (below_then (below_then (below_then (below_drew1 _) hBr4) hBr7) hBr13) hBr16) hBr22) hBr25) hBr31) hBr34)⟩

end Go.Proofs.Ytmffflckcpgjiaa
