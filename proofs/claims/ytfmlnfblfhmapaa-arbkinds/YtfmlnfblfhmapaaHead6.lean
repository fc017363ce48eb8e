/-
  The live question of layer 6. (Written by wip/tools/mk_head6.py.)
-/
import Derived.Test.YtfmlnfblfhmapaaArbL
namespace Go.Proofs.Ytfmlnfblfhmapaa
open Go.RowKit
set_option linter.unusedVariables false
set_option linter.unusedSimpArgs false

abbrev FL : List FV := [⟨false, 5, false, 0, none, 0, 0⟩, ⟨false, 3, false, 0, none, 0, 0⟩, ⟨false, 9, false, 0, none, 0, 0⟩]
theorem okL : ∀ f ∈ FL, FOk f := by
  intro f hf
  simp only [List.mem_cons, List.not_mem_nil, or_false] at hf
  rcases hf with rfl | rfl | rfl
  · exact ⟨5, rfl, by simp [idOk]⟩
  · exact ⟨3, rfl, by simp [idOk]⟩
  · exact ⟨9, rfl, by simp [idOk]⟩
theorem leastL : LeastE (rankV false 3 false) (ranks FL) := by
  refine least_of FL okL ⟨false, 3, false, 0, none, 0, 0⟩ (by simp) fun f hf => ?_
  simp only [List.mem_cons, List.not_mem_nil, or_false] at hf
  rcases hf with rfl | rfl | rfl <;> kernel_rfl
theorem winL : winOf (rankV false 3 false) (ranks FL) = 1 := by kernel_rfl
theorem lostL : (ranks FL).map (lostOf (rankV false 3 false)) = [8, -1, 7] := by kernel_rfl
abbrev FM : List FV := [⟨false, 3, false, 0, none, 0, 0⟩, ⟨true, 3, false, 0, none, 0, 0⟩]
theorem okM : ∀ f ∈ FM, FOk f := by
  intro f hf
  simp only [List.mem_cons, List.not_mem_nil, or_false] at hf
  rcases hf with rfl | rfl
  · exact ⟨3, rfl, by simp [idOk]⟩
  · exact ⟨3, rfl, by simp [idOk]⟩
theorem leastM : LeastE (rankV true 3 false) (ranks FM) := by
  refine least_of FM okM ⟨true, 3, false, 0, none, 0, 0⟩ (by simp) fun f hf => ?_
  simp only [List.mem_cons, List.not_mem_nil, or_false] at hf
  rcases hf with rfl | rfl <;> kernel_rfl
theorem winM : winOf (rankV true 3 false) (ranks FM) = 1 := by kernel_rfl
theorem lostM : (ranks FM).map (lostOf (rankV true 3 false)) = [9, -1] := by kernel_rfl
abbrev FN : List FV := [⟨false, 0, true, 0, none, 0, 0⟩, ⟨true, 3, false, 0, none, 0, 0⟩]
theorem okN : ∀ f ∈ FN, FOk f := by
  intro f hf
  simp only [List.mem_cons, List.not_mem_nil, or_false] at hf
  rcases hf with rfl | rfl
  · exact ⟨0, rfl, by simp [idOk]⟩
  · exact ⟨3, rfl, by simp [idOk]⟩
theorem leastN : LeastE (rankV false 0 true) (ranks FN) := by
  refine least_of FN okN ⟨false, 0, true, 0, none, 0, 0⟩ (by simp) fun f hf => ?_
  simp only [List.mem_cons, List.not_mem_nil, or_false] at hf
  rcases hf with rfl | rfl <;> kernel_rfl
theorem winN : winOf (rankV false 0 true) (ranks FN) = 0 := by kernel_rfl
theorem lostN : (ranks FN).map (lostOf (rankV false 0 true)) = [-1, 12] := by kernel_rfl
theorem leastZ : LeastE [] (ranks []) := ⟨by simp [ranks], by simp, by simp [ranks], rfl, fun _ => rfl, by simp [ranks]⟩

set_option maxRecDepth 100000 in
set_option maxHeartbeats 4000000 in
theorem head6_core (WL : List Int) (HL : Hid ((∀ f ∈ FL, FOk f) ∧ LeastE WL (ranks FL) ∧ WL.length = 13 ∧ winOf WL (ranks FL) = 1 ∧ (ranks FL).map (lostOf WL) = [8, -1, 7])) (WM : List Int) (HM : Hid ((∀ f ∈ FM, FOk f) ∧ LeastE WM (ranks FM) ∧ WM.length = 32 ∧ winOf WM (ranks FM) = 1 ∧ (ranks FM).map (lostOf WM) = [9, -1])) (WN : List Int) (HN : Hid ((∀ f ∈ FN, FOk f) ∧ LeastE WN (ranks FN) ∧ WN.length = 13 ∧ winOf WN (ranks FN) = 0 ∧ (ranks FN).map (lostOf WN) = [-1, 12])) (HWL : Hid (sameB WL [0, 0, 0, 0, 0, 0, 0, 0, 0, 1, 1, 0, 0] = true)) (HZ : Hid (LeastE [] (ranks []))) (w : World) :
    Calls Try.prog 11 #[] w fun e w' => e = .returned (.bool true) ∧ Below w.heap.size w w' := by
  go_enter Try.func11, Try.ntmps11
  go_wp2_with fail
  obtain ⟨w1, hw_w1⟩ : ∃ w1, w.alloc (.cells #[.bool false, .int .i64 5, .bool false, .int .i64 0, .slice none 0 0, .bool false, .int .i64 3, .bool false, .int .i64 0, .slice none 0 0, .bool false, .int .i64 9, .bool false, .int .i64 0, .slice none 0 0] 35) = w1 := ⟨_, rfl⟩
  rw [hw_w1]
  have hB_w1 := below_lits hw_w1
  have rl_0 : FRow w1 w1.heap.size (some ⟨w.heap.size, 0, none⟩) FL := by rw [← hw_w1]; exact FRow.lit w FL rfl (by omega)
  have hz_w1 : w1.heap.size = w.heap.size + 1 := by rw [← hw_w1]; simp
  clear hw_w1
  have tot_1 := hB_w1
  clear hB_w1
  obtain ⟨w2, hw_w2⟩ : ∃ w2, w1.alloc (.cells #[.bool false, .int .i64 3, .bool false, .int .i64 0, .slice none 0 0, .bool true, .int .i64 3, .bool false, .int .i64 0, .slice none 0 0] 35) = w2 := ⟨_, rfl⟩
  rw [hw_w2]
  have hB_w2 := below_lits hw_w2
  have rm_0 : FRow w2 w2.heap.size (some ⟨w.heap.size + 1, 0, none⟩) FM := by rw [← hw_w2]; exact FRow.lit w1 FM rfl (by omega)
  have hz_w2 : w2.heap.size = w1.heap.size + 1 := by rw [← hw_w2]; simp
  clear hw_w2
  have rl_2 := rl_0.to hB_w2
  have tot_2 := below_then tot_1 hB_w2
  clear rl_0 tot_1 hB_w2
  obtain ⟨w3, hw_w3⟩ : ∃ w3, w2.alloc (.cells #[.bool false, .int .i64 0, .bool true, .int .i64 0, .slice none 0 0, .bool true, .int .i64 3, .bool false, .int .i64 0, .slice none 0 0] 35) = w3 := ⟨_, rfl⟩
  rw [hw_w3]
  have hB_w3 := below_lits hw_w3
  have rn_0 : FRow w3 w3.heap.size (some ⟨w.heap.size + 1 + 1, 0, none⟩) FN := by rw [← hw_w3]; exact FRow.lit w2 FN rfl (by omega)
  have hz_w3 : w3.heap.size = w2.heap.size + 1 := by rw [← hw_w3]; simp
  clear hw_w3
  have rl_3 := rl_2.to hB_w3
  have rm_3 := rm_0.to hB_w3
  have tot_3 := below_then tot_2 hB_w3
  clear rl_2 rm_0 tot_2 hB_w3
  obtain ⟨w4, hw_w4⟩ : ∃ w4, w3.alloc (.cells #[.int .i64 1, .int .i64 0, .int .i64 1] 3) = w4 := ⟨_, rfl⟩
  rw [hw_w4]
  have hB_w4 := below_lits hw_w4
  have ra_0 : Row .i64 w4 w4.heap.size (some ⟨w.heap.size + 1 + 1 + 1, 0, none⟩) [1, 0, 1] := by have := Row.lit w3 .i64 [1, 0, 1] 3 (cs := #[.int .i64 1, .int .i64 0, .int .i64 1]) rfl; rw [show w.heap.size + 1 + 1 + 1 = w3.heap.size by omega, ← hw_w4]; simpa using this
  clear hw_w4
  have rl_4 := rl_3.to hB_w4
  have rm_4 := rm_3.to hB_w4
  have rn_4 := rn_0.to hB_w4
  have tot_4 := below_then tot_3 hB_w4
  clear rl_3 rm_3 rn_0 tot_3 hB_w4
  refine (and_any [1, 0, 1] 3 rfl _ 3 _ w4 ra_0 (by decide) 0 (by decide)).mono ?_
  rintro e w' ⟨rfl, rfl⟩
  clear ra_0
  go_wp2_with fail
  obtain ⟨w5, hw_w5⟩ : ∃ w5, w4.alloc (.cells #[.int .i64 1] 3) = w5 := ⟨_, rfl⟩
  rw [hw_w5]
  have hB_w5 := below_lits hw_w5
  have ra_0 : Row .i64 w5 w5.heap.size (some ⟨w4.heap.size, 0, none⟩) [1] := by have := Row.lit w4 .i64 [1] 3 (cs := #[.int .i64 1]) rfl; rw [show w4.heap.size = w4.heap.size by omega, ← hw_w5]; simpa using this
  clear hw_w5
  have rl_5 := rl_4.to hB_w5
  have rm_5 := rm_4.to hB_w5
  have rn_5 := rn_4.to hB_w5
  have tot_5 := below_then tot_4 hB_w5
  clear rl_4 rm_4 rn_4 tot_4 hB_w5
  refine (and_any [1] 1 rfl _ 1 _ w5 ra_0 (by decide) 1 (by decide)).mono ?_
  rintro e w' ⟨rfl, rfl⟩
  clear ra_0
  go_wp2_with fail
  refine (and_any [] 0 rfl none 0 w5.heap.size w5 (.inl rfl) (by decide) 1 (by decide)).mono ?_
  rintro e w' ⟨rfl, rfl⟩
  go_wp2_with fail
  refine (win_any FL 3 rfl _ 3 w5 rl_5 HL.out.1 (by omega) WL HL.out.2.1 13 HL.out.2.2.1 (by omega) 1 HL.out.2.2.2.1).mono ?_
  rintro e w6 ⟨rfl, hB_w6⟩
  have rl_6 := rl_5.to hB_w6
  have rm_6 := rm_5.to hB_w6
  have rn_6 := rn_5.to hB_w6
  have tot_6 := below_then tot_5 hB_w6
  clear rl_5 rm_5 rn_5 tot_5 hB_w6
  go_wp2_with fail
  refine (lost_any FL 3 rfl _ 3 w6 rl_6 HL.out.1 (by omega) WL HL.out.2.1 13 HL.out.2.2.1 (by omega)).mono ?_
  rw [HL.out.2.2.2.2]
  rintro e w7 ⟨A_w7, rfl, rx_0, hB_w7⟩
  have rl_7 := rl_6.to hB_w7
  have rm_7 := rm_6.to hB_w7
  have rn_7 := rn_6.to hB_w7
  have tot_7 := below_then tot_6 hB_w7
  clear rl_6 rm_6 rn_6 tot_6 hB_w7
  go_wp2_with fail
  obtain ⟨w8, hw_w8⟩ : ∃ w8, w7.alloc (.cells #[.int .i64 8, .int .i64 (-1), .int .i64 7] 3) = w8 := ⟨_, rfl⟩
  rw [hw_w8]
  have hB_w8 := below_lits hw_w8
  have ra_0 : Row .i64 w8 w8.heap.size (some ⟨w7.heap.size, 0, none⟩) [8, -1, 7] := by have := Row.lit w7 .i64 [8, -1, 7] 3 (cs := #[.int .i64 8, .int .i64 (-1), .int .i64 7]) rfl; rw [show w7.heap.size = w7.heap.size by omega, ← hw_w8]; simpa using this
  clear hw_w8
  have rl_8 := rl_7.to hB_w8
  have rm_8 := rm_7.to hB_w8
  have rn_8 := rn_7.to hB_w8
  have rx_8 := rx_0.to hB_w8
  have tot_8 := below_then tot_7 hB_w8
  clear rl_7 rm_7 rn_7 rx_0 tot_7 hB_w8
  refine (ints_q [8, -1, 7] [8, -1, 7] 3 3 rfl rfl A_w7 _ 3 3 w8 rx_8 ra_0 (by decide) (by decide) true (by decide)).mono ?_
  rintro e w9 ⟨rfl, hB_w9⟩
  have rl_9 := rl_8.to hB_w9
  have rm_9 := rm_8.to hB_w9
  have rn_9 := rn_8.to hB_w9
  have rx_9 := rx_8.to hB_w9
  have ra_9 := ra_0.to hB_w9
  have tot_9 := below_then tot_8 hB_w9
  clear rl_8 rm_8 rn_8 rx_8 ra_0 tot_8 hB_w9
  clear rx_9
  clear ra_9
  go_wp2_with fail
  refine (line_any FL 3 rfl _ 3 w9 rl_9 HL.out.1 (by omega) WL HL.out.2.1 13 HL.out.2.2.1 (by omega)).mono ?_
  rintro e w10 ⟨A_w10, c_w10, rfl, -, rx_0, hB_w10⟩
  have rl_10 := rl_9.to hB_w10
  have rm_10 := rm_9.to hB_w10
  have rn_10 := rn_9.to hB_w10
  have tot_10 := below_then tot_9 hB_w10
  clear rl_9 rm_9 rn_9 tot_9 hB_w10
  go_wp2_with fail
  obtain ⟨w11, hw_w11⟩ : ∃ w11, w10.alloc (.cells #[.int .i64 0, .int .i64 0, .int .i64 0, .int .i64 0, .int .i64 0, .int .i64 0, .int .i64 0, .int .i64 0, .int .i64 0, .int .i64 1, .int .i64 1, .int .i64 0, .int .i64 0] 3) = w11 := ⟨_, rfl⟩
  rw [hw_w11]
  have hB_w11 := below_lits hw_w11
  have ra_0 : Row .i64 w11 w11.heap.size (some ⟨w10.heap.size, 0, none⟩) [0, 0, 0, 0, 0, 0, 0, 0, 0, 1, 1, 0, 0] := by have := Row.lit w10 .i64 [0, 0, 0, 0, 0, 0, 0, 0, 0, 1, 1, 0, 0] 3 (cs := #[.int .i64 0, .int .i64 0, .int .i64 0, .int .i64 0, .int .i64 0, .int .i64 0, .int .i64 0, .int .i64 0, .int .i64 0, .int .i64 1, .int .i64 1, .int .i64 0, .int .i64 0]) rfl; rw [show w10.heap.size = w10.heap.size by omega, ← hw_w11]; simpa using this
  clear hw_w11
  have rl_11 := rl_10.to hB_w11
  have rm_11 := rm_10.to hB_w11
  have rn_11 := rn_10.to hB_w11
  have rx_11 := rx_0.to hB_w11
  have tot_11 := below_then tot_10 hB_w11
  clear rl_10 rm_10 rn_10 rx_0 tot_10 hB_w11
  refine (ints_q WL [0, 0, 0, 0, 0, 0, 0, 0, 0, 1, 1, 0, 0] 13 13 HL.out.2.2.1 rfl A_w10 _ c_w10 13 w11 rx_11 ra_0 (by decide) (by decide) true HWL.out).mono ?_
  rintro e w12 ⟨rfl, hB_w12⟩
  have rl_12 := rl_11.to hB_w12
  have rm_12 := rm_11.to hB_w12
  have rn_12 := rn_11.to hB_w12
  have rx_12 := rx_11.to hB_w12
  have ra_12 := ra_0.to hB_w12
  have tot_12 := below_then tot_11 hB_w12
  clear rl_11 rm_11 rn_11 rx_11 ra_0 tot_11 hB_w12
  clear rx_12
  clear ra_12
  clear rl_12
  go_wp2_with fail
  refine (win_any FM 2 rfl _ 2 w12 rm_12 HM.out.1 (by omega) WM HM.out.2.1 32 HM.out.2.2.1 (by omega) 1 HM.out.2.2.2.1).mono ?_
  rintro e w13 ⟨rfl, hB_w13⟩
  have rm_13 := rm_12.to hB_w13
  have rn_13 := rn_12.to hB_w13
  have tot_13 := below_then tot_12 hB_w13
  clear rm_12 rn_12 tot_12 hB_w13
  go_wp2_with fail
  refine (lost_any FM 2 rfl _ 2 w13 rm_13 HM.out.1 (by omega) WM HM.out.2.1 32 HM.out.2.2.1 (by omega)).mono ?_
  rw [HM.out.2.2.2.2]
  rintro e w14 ⟨A_w14, rfl, rx_0, hB_w14⟩
  have rm_14 := rm_13.to hB_w14
  have rn_14 := rn_13.to hB_w14
  have tot_14 := below_then tot_13 hB_w14
  clear rm_13 rn_13 tot_13 hB_w14
  go_wp2_with fail
  obtain ⟨w15, hw_w15⟩ : ∃ w15, w14.alloc (.cells #[.int .i64 9, .int .i64 (-1)] 3) = w15 := ⟨_, rfl⟩
  rw [hw_w15]
  have hB_w15 := below_lits hw_w15
  have ra_0 : Row .i64 w15 w15.heap.size (some ⟨w14.heap.size, 0, none⟩) [9, -1] := by have := Row.lit w14 .i64 [9, -1] 3 (cs := #[.int .i64 9, .int .i64 (-1)]) rfl; rw [show w14.heap.size = w14.heap.size by omega, ← hw_w15]; simpa using this
  clear hw_w15
  have rm_15 := rm_14.to hB_w15
  have rn_15 := rn_14.to hB_w15
  have rx_15 := rx_0.to hB_w15
  have tot_15 := below_then tot_14 hB_w15
  clear rm_14 rn_14 rx_0 tot_14 hB_w15
  refine (ints_q [9, -1] [9, -1] 2 2 rfl rfl A_w14 _ 2 2 w15 rx_15 ra_0 (by decide) (by decide) true (by decide)).mono ?_
  rintro e w16 ⟨rfl, hB_w16⟩
  have rm_16 := rm_15.to hB_w16
  have rn_16 := rn_15.to hB_w16
  have rx_16 := rx_15.to hB_w16
  have ra_16 := ra_0.to hB_w16
  have tot_16 := below_then tot_15 hB_w16
  clear rm_15 rn_15 rx_15 ra_0 tot_15 hB_w16
  clear rx_16
  clear ra_16
  clear rm_16
  go_wp2_with fail
  refine (win_any FN 2 rfl _ 2 w16 rn_16 HN.out.1 (by omega) WN HN.out.2.1 13 HN.out.2.2.1 (by omega) 0 HN.out.2.2.2.1).mono ?_
  rintro e w17 ⟨rfl, hB_w17⟩
  have rn_17 := rn_16.to hB_w17
  have tot_17 := below_then tot_16 hB_w17
  clear rn_16 tot_16 hB_w17
  go_wp2_with fail
  refine (lost_any FN 2 rfl _ 2 w17 rn_17 HN.out.1 (by omega) WN HN.out.2.1 13 HN.out.2.2.1 (by omega)).mono ?_
  rw [HN.out.2.2.2.2]
  rintro e w18 ⟨A_w18, rfl, rx_0, hB_w18⟩
  have rn_18 := rn_17.to hB_w18
  have tot_18 := below_then tot_17 hB_w18
  clear rn_17 tot_17 hB_w18
  go_wp2_with fail
  obtain ⟨w19, hw_w19⟩ : ∃ w19, w18.alloc (.cells #[.int .i64 (-1), .int .i64 12] 3) = w19 := ⟨_, rfl⟩
  rw [hw_w19]
  have hB_w19 := below_lits hw_w19
  have ra_0 : Row .i64 w19 w19.heap.size (some ⟨w18.heap.size, 0, none⟩) [-1, 12] := by have := Row.lit w18 .i64 [-1, 12] 3 (cs := #[.int .i64 (-1), .int .i64 12]) rfl; rw [show w18.heap.size = w18.heap.size by omega, ← hw_w19]; simpa using this
  clear hw_w19
  have rn_19 := rn_18.to hB_w19
  have rx_19 := rx_0.to hB_w19
  have tot_19 := below_then tot_18 hB_w19
  clear rn_18 rx_0 tot_18 hB_w19
  refine (ints_q [-1, 12] [-1, 12] 2 2 rfl rfl A_w18 _ 2 2 w19 rx_19 ra_0 (by decide) (by decide) true (by decide)).mono ?_
  rintro e w20 ⟨rfl, hB_w20⟩
  have rn_20 := rn_19.to hB_w20
  have rx_20 := rx_19.to hB_w20
  have ra_20 := ra_0.to hB_w20
  have tot_20 := below_then tot_19 hB_w20
  clear rn_19 rx_19 ra_0 tot_19 hB_w20
  clear rx_20
  clear ra_20
  clear rn_20
  go_wp2_with fail
  refine (win_any [] 0 rfl none 0 w20 (.inl rfl) (by simp) (by omega) [] HZ.out 0 rfl (by omega) (-1) rfl).mono ?_
  rintro e w21 ⟨rfl, hB_w21⟩
  have tot_21 := below_then tot_20 hB_w21
  clear tot_20 hB_w21
  go_wp2_with fail
  refine (lost_any [] 0 rfl none 0 w21 (.inl rfl) (by simp) (by omega) [] HZ.out 0 rfl (by omega)).mono ?_
  rintro e w22 ⟨A_w22, rfl, -, hB_w22⟩
  have tot_22 := below_then tot_21 hB_w22
  clear tot_21 hB_w22
  go_wp2_with fail
  refine (line_any [] 0 rfl none 0 w22 (.inl rfl) (by simp) (by omega) [] HZ.out 0 rfl (by omega)).mono ?_
  rintro e w23 ⟨A_w23, c_w23, rfl, -, -, hB_w23⟩
  have tot_23 := below_then tot_22 hB_w23
  clear tot_22 hB_w23
  go_wp2_with fail
  go_ret
  exact ⟨rfl, tot_23⟩

theorem head6_any (w : World) : Calls Try.prog 11 #[] w fun e w' => e = .returned (.bool true) ∧ Below w.heap.size w w' :=
  head6_core (rankV false 3 false) (Lib.hid ⟨okL, leastL, by kernel_rfl, winL, lostL⟩) (rankV true 3 false) (Lib.hid ⟨okM, leastM, by kernel_rfl, winM, lostM⟩) (rankV false 0 true) (Lib.hid ⟨okN, leastN, by kernel_rfl, winN, lostN⟩) (Lib.hid (by kernel_rfl)) (Lib.hid leastZ) w

end Go.Proofs.Ytfmlnfblfhmapaa
