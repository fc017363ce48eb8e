/-
  The live question of layer 5. (Written by wip/tools/mk_head5.py.)
-/
import Derived.Test.YtmapkjjglhpamaaWRef2
namespace Go.Proofs.Ytmapkjjglhpamaa
open Go.RowKit

theorem wireRead_new (l : List Int) (n : Nat) (hn : l.length = n) (A : Option Addr) (c : Nat) (w : World) (h : Row .i64 w w.heap.size A l) (hr : rightB l = true) (hm : n ≤ 5000) (x : Bool) (i : Int) (r : Bool) (k : Int) (dl : List Int) (a p : Int) (hres : wireRd l = (⟨x, i, r, k, dl⟩, a, p)) :
    Calls Try.prog 22 #[.slice A n c] w fun e w' => ∃ D m c', e = .returned (.tuple #[.agg #[.bool x, .int .i64 i, .bool r, .int .i64 k, .slice D m c'], .int .i64 a, .int .i64 p]) ∧ dl.length = m ∧ m ≤ c' ∧ Row .u8 w' w'.heap.size D dl ∧ (dl = [] ∨ ∃ ad, D = some ad ∧ w.heap.size ≤ ad.block) ∧ Below w.heap.size w w' := by
  subst hn
  have := wireRead_any l A c w h hr hm
  rw [hres] at this
  exact this
theorem wireRead_at (l : List Int) (n : Nat) (hn : l.length = n) (A : Option Addr) (c : Nat) (w : World) (h : Row .i64 w w.heap.size A l) (hr : rightB l = true) (hm : n ≤ 5000) (x : Bool) (i : Int) (r : Bool) (k : Int) (dl : List Int) (a p : Int) (hres : wireRd l = (⟨x, i, r, k, dl⟩, a, p)) :
    Calls Try.prog 22 #[.slice A n c] w fun e w' => ∃ D m c', e = .returned (.tuple #[.agg #[.bool x, .int .i64 i, .bool r, .int .i64 k, .slice D m c'], .int .i64 a, .int .i64 p]) ∧ dl.length = m ∧ m ≤ c' ∧ Row .u8 w' w'.heap.size D dl ∧ Below w.heap.size w w' :=
  (wireRead_new l n hn A c w h hr hm x i r k dl a p hres).mono fun _ _ ⟨D, m, c', h1, h2, h3, h4, _, h6⟩ => ⟨D, m, c', h1, h2, h3, h4, h6⟩

def T1 : List Int := headV false 1 false 1 [128]
theorem v57 : (sentV T1).length = 57 := by kernel_rfl
theorem v57h : (heardV T1).length = 57 := by kernel_rfl
theorem t1right : rightB (sentV T1) = true := by kernel_rfl
theorem t1rightH : rightB (heardV T1) = true := by kernel_rfl
theorem rd1 : wireRd (sentV T1) = (⟨false, 1, false, 1, [128]⟩, 5, 48) := by kernel_rfl
theorem rd2 : wireRd (heardV T1) = (⟨false, 1, false, 1, [128]⟩, 0, -1) := by kernel_rfl
theorem rd3 : wireRd ((sentV T1).take 9) = (⟨false, 0, false, 0, []⟩, 1, 9) := by kernel_rfl
theorem rd4 : wireRd [0, 0, 0, 0, 0, 0, 1] = (⟨false, 0, false, 0, []⟩, 2, 5) := by kernel_rfl

set_option maxRecDepth 100000 in
set_option maxHeartbeats 2000000 in
theorem head5_core (T1 : List Int) (hT : Hid (headV false 1 false 1 [128] = T1)) (H_v57 : Hid ((sentV T1).length = 57)) (H_v57h : Hid ((heardV T1).length = 57)) (H_t1right : Hid (rightB (sentV T1) = true)) (H_t1rightH : Hid (rightB (heardV T1) = true))
    (H_rd1 : Hid (wireRd (sentV T1) = (⟨false, 1, false, 1, [128]⟩, 5, 48))) (H_rd2 : Hid (wireRd (heardV T1) = (⟨false, 1, false, 1, [128]⟩, 0, -1))) (H_rd3 : Hid (wireRd ((sentV T1).take 9) = (⟨false, 0, false, 0, []⟩, 1, 9))) (H_rd4 : Hid (wireRd [0, 0, 0, 0, 0, 0, 1] = (⟨false, 0, false, 0, []⟩, 2, 5)))
    (w : World) : Calls Try.prog 11 #[] w fun e w' => e = .returned (.bool true) ∧ Below w.heap.size w w' := by
  go_enter Try.func11, Try.ntmps11
  go_wp2_with fail
  refine (one_at w).mono ?_
  rintro e w1 ⟨A1, rfl, ra_0, hB1⟩
  go_wp2_with fail
  obtain ⟨w2, hw_w2⟩ : ∃ w2, w1.alloc (.cells #[.bool false, .int .i64 1, .bool false, .int .i64 1, .slice A1 1 1] 24) = w2 := ⟨_, rfl⟩
  rw [hw_w2]
  have hB_w2 := below_lits hw_w2
  have F_0 : w2.heap[w1.heap.size]? = some (.cells #[.bool false, .int .i64 1, .bool false, .int .i64 1, .slice A1 1 1] 24) := by rw [← hw_w2]; exact World.alloc_heap_new _ _
  have hz_w2 : w2.heap.size = w1.heap.size + 1 := by rw [← hw_w2]; simp
  clear hw_w2
  have ra_1 := ra_0.to hB_w2
  have tot_1 := below_then hB1 hB_w2
  clear ra_0 hB1 hB_w2
  have F_2 := F_0
  refine (wireBits_at false 1 false 1 [128] 1 rfl A1 1 (by show 1 < 2048; omega) (by omega) w2 ra_1 byte_128 (by omega) T1 hT.out 57 H_v57.out).mono ?_
  rintro e w3 ⟨A3, c3, rfl, rl_0, hc3, hB3⟩
  have ra_3 := ra_1.to hB3
  have F_3 := obj_below F_2 hB3
  have tot_3 := below_then tot_1 hB3
  clear ra_1 F_2 tot_1 hB3
  obtain ⟨⟨Fc0, Fc1, Fc2, Fc3, Fc4⟩, -⟩ := cells5 F_3
  go_wp2_with fail
  clear Fc0 Fc1 Fc2 Fc3 Fc4
  refine (refBits5_at false 1 false 1 [128] 1 rfl A1 1 (by show 1 < 2048; omega) (by omega) w3 ra_3 byte_128 (by omega) T1 hT.out 57 H_v57.out).mono ?_
  rintro e w4 ⟨A4, c4, rfl, hown4, hB4⟩
  have ra_4 := ra_3.to hB4
  have F_4 := obj_below F_3 hB4
  have rl_4 := rl_0.to hB4
  have tot_4 := below_then tot_3 hB4
  clear ra_3 F_3 rl_0 tot_3 hB4
  have rm_0 := Row.own hown4
  clear hown4
  go_wp2_with fail
  refine (same_q (sentV T1) (sentV T1) 57 57 H_v57.out H_v57.out A3 A4 c3 c4 w4 rl_4 rm_0 (by decide) true (by simp [sameB])).mono ?_
  rintro e w5 ⟨rfl, hB5⟩
  have ra_5 := ra_4.to hB5
  have F_5 := obj_below F_4 hB5
  have rl_5 := rl_4.to hB5
  have rm_5 := rm_0.to hB5
  have tot_5 := below_then tot_4 hB5
  clear ra_4 F_4 rl_4 rm_0 tot_4 hB5
  clear rm_5
  go_wp2_with fail
  refine (wireRead_at (sentV T1) 57 H_v57.out A3 c3 w5 rl_5 H_t1right.out (by omega) false 1 false 1 [128] 5 48 H_rd1.out).mono ?_
  rintro e w6 ⟨D6, m6, c6, rfl, hm6, hc6, rd_0, hB6⟩
  obtain rfl : 1 = m6 := hm6
  have ra_6 := ra_5.to hB6
  have F_6 := obj_below F_5 hB6
  have rl_6 := rl_5.to hB6
  have tot_6 := below_then tot_5 hB6
  clear ra_5 F_5 rl_5 tot_5 hB6
  obtain ⟨⟨Fc0, Fc1, Fc2, Fc3, Fc4⟩, -⟩ := cells5 (obj_alloc F_6 (.cells #[.bool false, .int .i64 1, .bool false, .int .i64 1, .slice D6 1 c6] 24))
  go_wp2_with fail
  clear Fc0 Fc1 Fc2 Fc3 Fc4
  obtain ⟨w7, hw_w7⟩ : ∃ w7, w6.alloc (.cells #[.bool false, .int .i64 1, .bool false, .int .i64 1, .slice D6 1 c6] 24) = w7 := ⟨_, rfl⟩
  rw [hw_w7]
  have hB_w7 := below_lits hw_w7
  have G_0 : w7.heap[w6.heap.size]? = some (.cells #[.bool false, .int .i64 1, .bool false, .int .i64 1, .slice D6 1 c6] 24) := by rw [← hw_w7]; exact World.alloc_heap_new _ _
  have hz_w7 : w7.heap.size = w6.heap.size + 1 := by rw [← hw_w7]; simp
  clear hw_w7
  have ra_7 := ra_6.to hB_w7
  have F_7 := obj_below F_6 hB_w7
  have rl_7 := rl_6.to hB_w7
  have rd_7 := rd_0.to hB_w7
  have tot_7 := below_then tot_6 hB_w7
  clear ra_6 F_6 rl_6 rd_0 tot_6 hB_w7
  have G_8 := G_0
  refine (refHeard_at false 1 false 1 [128] 1 rfl A1 1 (by show 1 < 2048; omega) (by omega) w7 ra_7 byte_128 (by omega) T1 hT.out 57 H_v57.out (by omega)).mono ?_
  rintro e w8 ⟨A8, c8, rfl, rh_0, hc8, hB8⟩
  have ra_9 := ra_7.to hB8
  have F_9 := obj_below F_7 hB8
  have rl_9 := rl_7.to hB8
  have rd_9 := rd_7.to hB8
  have G_9 := obj_below G_8 hB8
  have tot_9 := below_then tot_7 hB8
  clear ra_7 F_7 rl_7 rd_7 G_8 tot_7 hB8
  go_wp2_with fail
  refine (wireRead_at (heardV T1) 57 H_v57h.out A8 c8 w8 rh_0 H_t1rightH.out (by omega) false 1 false 1 [128] 0 (-1) H_rd2.out).mono ?_
  rintro e w9 ⟨D9, m9, c9, rfl, hm9, hc9, re_0, hB9⟩
  obtain rfl : 1 = m9 := hm9
  have ra_10 := ra_9.to hB9
  have F_10 := obj_below F_9 hB9
  have rl_10 := rl_9.to hB9
  have rd_10 := rd_9.to hB9
  have G_10 := obj_below G_9 hB9
  have rh_10 := rh_0.to hB9
  have tot_10 := below_then tot_9 hB9
  clear ra_9 F_9 rl_9 rd_9 G_9 rh_0 tot_9 hB9
  clear rh_10
  have hc39 : 9 ≤ c3 := by omega
  have hc39' : (9 : Int) ≤ (c3 : Int) := by omega
  go_wp2_with fail
  obtain ⟨w10, hw_w10⟩ : ∃ w10, w9.alloc (.cells #[.bool false, .int .i64 1, .bool false, .int .i64 1, .slice D9 1 c9] 24) = w10 := ⟨_, rfl⟩
  rw [hw_w10]
  have hB_w10 := below_lits hw_w10
  have X_0 : w10.heap[w9.heap.size]? = some (.cells #[.bool false, .int .i64 1, .bool false, .int .i64 1, .slice D9 1 c9] 24) := by rw [← hw_w10]; exact World.alloc_heap_new _ _
  have hz_w10 : w10.heap.size = w9.heap.size + 1 := by rw [← hw_w10]; simp
  clear hw_w10
  have ra_11 := ra_10.to hB_w10
  have F_11 := obj_below F_10 hB_w10
  have rl_11 := rl_10.to hB_w10
  have rd_11 := rd_10.to hB_w10
  have G_11 := obj_below G_10 hB_w10
  have re_11 := re_0.to hB_w10
  have tot_11 := below_then tot_10 hB_w10
  clear ra_10 F_10 rl_10 rd_10 G_10 re_0 tot_10 hB_w10
  have X_12 := X_0
  have rs := rl_11.sub_ 0 9 (by omega) (by rw [H_v57.out]; omega) (A' := A3) (fun _ => by cases A3 <;> simp [Addr.add])
  refine (wireRead_at ((sentV T1).take 9) 9 (by rw [List.length_take, H_v57.out]; rfl) A3 c3 w10 (by simpa using rs) (rightB_take H_t1right.out 9) (by omega) false 0 false 0 [] 1 9 H_rd3.out).mono ?_
  rintro e w11 ⟨D11, m11, c11, rfl, hm11, hc11, -, hB11⟩
  clear rs
  have ra_13 := ra_11.to hB11
  have F_13 := obj_below F_11 hB11
  have rl_13 := rl_11.to hB11
  have rd_13 := rd_11.to hB11
  have G_13 := obj_below G_11 hB11
  have re_13 := re_11.to hB11
  have X_13 := obj_below X_12 hB11
  have tot_13 := below_then tot_11 hB11
  clear ra_11 F_11 rl_11 rd_11 G_11 re_11 X_12 tot_11 hB11
  go_wp2_with fail
  obtain ⟨w12, hw_w12⟩ : ∃ w12, w11.alloc (.cells #[.bool false, .int .i64 0, .bool false, .int .i64 0, .slice D11 m11 c11] 24) = w12 := ⟨_, rfl⟩
  rw [hw_w12]
  have hB_w12 := below_lits hw_w12
  have Y_0 : w12.heap[w11.heap.size]? = some (.cells #[.bool false, .int .i64 0, .bool false, .int .i64 0, .slice D11 m11 c11] 24) := by rw [← hw_w12]; exact World.alloc_heap_new _ _
  have hz_w12 : w12.heap.size = w11.heap.size + 1 := by rw [← hw_w12]; simp
  clear hw_w12
  have ra_14 := ra_13.to hB_w12
  have F_14 := obj_below F_13 hB_w12
  have rl_14 := rl_13.to hB_w12
  have rd_14 := rd_13.to hB_w12
  have G_14 := obj_below G_13 hB_w12
  have re_14 := re_13.to hB_w12
  have X_14 := obj_below X_13 hB_w12
  have tot_14 := below_then tot_13 hB_w12
  clear ra_13 F_13 rl_13 rd_13 G_13 re_13 X_13 tot_13 hB_w12
  have Y_15 := Y_0
  obtain ⟨w13, hw_w13⟩ : ∃ w13, w12.alloc (.cells #[.int .i64 0, .int .i64 0, .int .i64 0, .int .i64 0, .int .i64 0, .int .i64 0, .int .i64 1] 3) = w13 := ⟨_, rfl⟩
  have r7 : Row .i64 w13 w13.heap.size (some ⟨w11.heap.size + 1, 0, none⟩) [0, 0, 0, 0, 0, 0, 1] := by have := Row.lit w12 .i64 [0, 0, 0, 0, 0, 0, 1] 3 (cs := #[.int .i64 0, .int .i64 0, .int .i64 0, .int .i64 0, .int .i64 0, .int .i64 0, .int .i64 1]) rfl; rw [← hz_w12, ← hw_w13]; simpa using this
  rw [hw_w13]
  have hB_w13 := below_lits hw_w13
  clear hw_w13
  have ra_16 := ra_14.to hB_w13
  have F_16 := obj_below F_14 hB_w13
  have rl_16 := rl_14.to hB_w13
  have rd_16 := rd_14.to hB_w13
  have G_16 := obj_below G_14 hB_w13
  have re_16 := re_14.to hB_w13
  have X_16 := obj_below X_14 hB_w13
  have Y_16 := obj_below Y_15 hB_w13
  have tot_16 := below_then tot_14 hB_w13
  clear ra_14 F_14 rl_14 rd_14 G_14 re_14 X_14 Y_15 tot_14 hB_w13
  refine (wireRead_at [0, 0, 0, 0, 0, 0, 1] 7 rfl (some ⟨w11.heap.size + 1, 0, none⟩) 7 w13 r7 rfl (by omega) false 0 false 0 [] 2 5 H_rd4.out).mono ?_
  rintro e w14 ⟨D14, m14, c14, rfl, hm14, hc14, -, hB14⟩
  clear r7
  have ra_17 := ra_16.to hB14
  have F_17 := obj_below F_16 hB14
  have rl_17 := rl_16.to hB14
  have rd_17 := rd_16.to hB14
  have G_17 := obj_below G_16 hB14
  have re_17 := re_16.to hB14
  have X_17 := obj_below X_16 hB14
  have Y_17 := obj_below Y_16 hB14
  have tot_17 := below_then tot_16 hB14
  clear ra_16 F_16 rl_16 rd_16 G_16 re_16 X_16 Y_16 tot_16 hB14
  obtain ⟨⟨Fc0, Fc1, Fc2, Fc3, Fc4⟩, -⟩ := cells5 (obj_alloc F_17 (.cells #[.bool false, .int .i64 0, .bool false, .int .i64 0, .slice D14 m14 c14] 24))
  obtain ⟨⟨Gc0, Gc1, Gc2, Gc3, Gc4⟩, -⟩ := cells5 (obj_alloc G_17 (.cells #[.bool false, .int .i64 0, .bool false, .int .i64 0, .slice D14 m14 c14] 24))
  go_wp2_with fail
  clear Fc0 Fc1 Fc2 Fc3 Fc4
  clear Gc0 Gc1 Gc2 Gc3 Gc4
  obtain ⟨w15, hw_w15⟩ : ∃ w15, w14.alloc (.cells #[.bool false, .int .i64 0, .bool false, .int .i64 0, .slice D14 m14 c14] 24) = w15 := ⟨_, rfl⟩
  rw [hw_w15]
  have hB_w15 := below_lits hw_w15
  have Z_0 : w15.heap[w14.heap.size]? = some (.cells #[.bool false, .int .i64 0, .bool false, .int .i64 0, .slice D14 m14 c14] 24) := by rw [← hw_w15]; exact World.alloc_heap_new _ _
  have hz_w15 : w15.heap.size = w14.heap.size + 1 := by rw [← hw_w15]; simp
  clear hw_w15
  have ra_18 := ra_17.to hB_w15
  have F_18 := obj_below F_17 hB_w15
  have rl_18 := rl_17.to hB_w15
  have rd_18 := rd_17.to hB_w15
  have G_18 := obj_below G_17 hB_w15
  have re_18 := re_17.to hB_w15
  have X_18 := obj_below X_17 hB_w15
  have Y_18 := obj_below Y_17 hB_w15
  have tot_18 := below_then tot_17 hB_w15
  clear ra_17 F_17 rl_17 rd_17 G_17 re_17 X_17 Y_17 tot_17 hB_w15
  have Z_19 := Z_0
  refine (refFrSame_at false 1 false 1 [128] 1 rfl D6 c6 false 1 false 1 [128] 1 rfl A1 1 w15 rd_18 ra_18 byte_128 byte_128 true (by decide)).mono ?_
  rintro e w16 ⟨rfl, hB16⟩
  have ra_20 := ra_18.to hB16
  have F_20 := obj_below F_18 hB16
  have rl_20 := rl_18.to hB16
  have rd_20 := rd_18.to hB16
  have G_20 := obj_below G_18 hB16
  have re_20 := re_18.to hB16
  have X_20 := obj_below X_18 hB16
  have Y_20 := obj_below Y_18 hB16
  have Z_20 := obj_below Z_19 hB16
  have tot_20 := below_then tot_18 hB16
  clear ra_18 F_18 rl_18 rd_18 G_18 re_18 X_18 Y_18 Z_19 tot_18 hB16
  obtain ⟨⟨Fc0, Fc1, Fc2, Fc3, Fc4⟩, -⟩ := cells5 F_20
  obtain ⟨⟨Xc0, Xc1, Xc2, Xc3, Xc4⟩, -⟩ := cells5 X_20
  go_wp2_with fail
  clear Fc0 Fc1 Fc2 Fc3 Fc4
  clear Xc0 Xc1 Xc2 Xc3 Xc4
  refine (refFrSame_at false 1 false 1 [128] 1 rfl D9 c9 false 1 false 1 [128] 1 rfl A1 1 w16 re_20 ra_20 byte_128 byte_128 true (by decide)).mono ?_
  rintro e w17 ⟨rfl, hB17⟩
  have ra_21 := ra_20.to hB17
  have F_21 := obj_below F_20 hB17
  have rl_21 := rl_20.to hB17
  have rd_21 := rd_20.to hB17
  have G_21 := obj_below G_20 hB17
  have re_21 := re_20.to hB17
  have X_21 := obj_below X_20 hB17
  have Y_21 := obj_below Y_20 hB17
  have Z_21 := obj_below Z_20 hB17
  have tot_21 := below_then tot_20 hB17
  clear ra_20 F_20 rl_20 rd_20 G_20 re_20 X_20 Y_20 Z_20 tot_20 hB17
  obtain ⟨⟨Fc0, Fc1, Fc2, Fc3, Fc4⟩, -⟩ := cells5 F_21
  go_wp2_with fail
  clear Fc0 Fc1 Fc2 Fc3 Fc4
  refine (wireLength_at false 1 false 1 [128] 1 rfl A1 1 (by show 1 < 2048; omega) (by omega) w17 ra_21 byte_128 (by omega) T1 hT.out 57 H_v57.out).mono ?_
  rintro e w18 ⟨rfl, hB18⟩
  have ra_22 := ra_21.to hB18
  have F_22 := obj_below F_21 hB18
  have rl_22 := rl_21.to hB18
  have rd_22 := rd_21.to hB18
  have G_22 := obj_below G_21 hB18
  have re_22 := re_21.to hB18
  have X_22 := obj_below X_21 hB18
  have Y_22 := obj_below Y_21 hB18
  have Z_22 := obj_below Z_21 hB18
  have tot_22 := below_then tot_21 hB18
  clear ra_21 F_21 rl_21 rd_21 G_21 re_21 X_21 Y_21 Z_21 tot_21 hB18
  go_wp2_with fail
  refine (wireMost_at false 0 (by omega) w18 52 (by decide)).mono ?_
  rintro e w19 ⟨rfl, rfl⟩
  go_wp2_with fail
  refine (wireMost_at true 8 (by omega) w18 157 (by decide)).mono ?_
  rintro e w19 ⟨rfl, rfl⟩
  go_wp2_with fail
  go_ret
  exact ⟨rfl, tot_22⟩

theorem head5_any (w : World) : Calls Try.prog 11 #[] w fun e w' => e = .returned (.bool true) ∧ Below w.heap.size w w' :=
  head5_core T1 (Lib.hid rfl) (Lib.hid v57) (Lib.hid v57h) (Lib.hid t1right) (Lib.hid t1rightH) (Lib.hid rd1) (Lib.hid rd2) (Lib.hid rd3) (Lib.hid rd4) w

end Go.Proofs.Ytmapkjjglhpamaa
