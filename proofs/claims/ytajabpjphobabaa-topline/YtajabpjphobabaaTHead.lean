/-
  The live question of the Top statements of stage 6.
-/
import Derived.Test.YtajabpjphobabaaTAu
import Derived.Test.YtajabpjphobabaaTAny
namespace Go.Proofs.Ytajabpjphobabaa
open Go.RowKit
set_option linter.unusedVariables false
set_option linter.unusedSimpArgs false

theorem bits_q (l : List Int) (n : Nat) (hn : l.length = n) (A : Option Addr) (c : Nat) (w : World) (h : Row .i64 w w.heap.size A l) (hr : rightB l = true) (hm : n ≤ maxLen) (v : Int) (hv : (((crc15 l).toNat : Nat) : Int) = v) :
    Calls Try.prog 13 #[.slice A n c] w fun e w' => e = .returned (.int .i64 v) ∧ Below w.heap.size w w' := by
  subst hv; exact bits_any l n hn A c w h hr hm
theorem stuff_r (l : List Int) (n : Nat) (hn : l.length = n) (A : Option Addr) (c : Nat) (w : World) (h : Row .i64 w w.heap.size A l) (hr : rightB l = true) (hm : n ≤ 100000) (M : Nat) (hM : (stuffL l).length = M) :
    Calls Try.prog 14 #[.slice A n c] w fun e w' => ∃ A' cap, e = .returned (.slice A' M cap) ∧ Row .i64 w' w'.heap.size A' (stuffL l) ∧ Below w.heap.size w w' := by
  refine (stuff_at l n hn A c w h hr hm M hM).mono ?_
  rintro e w' ⟨cap, rfl, ho, hb⟩
  exact ⟨_, cap, rfl, Row.own ho, hb⟩
theorem byte_1 : byteB [1] := by intro x hx; simp at hx; omega
def T1 : List Int := headV false 1 false 1 [128]
theorem v57 : (sentV T1).length = 57 := by kernel_rfl
theorem v6 : (stuffL [0, 0, 0, 0, 0]).length = 6 := by kernel_rfl
theorem vcrc : (((crc15 [1]).toNat : Nat) : Int) = 17817 := by kernel_rfl
theorem twoWin (A : Option Addr) : (∀ f ∈ [(⟨false, 3, false, 0, none, 0, 0⟩ : FV), ⟨false, 1, false, 1, A, 1, 1⟩], FOk f) ∧ LeastE (rankF (⟨false, 1, false, 1, A, 1, 1⟩ : FV)) (ranks [(⟨false, 3, false, 0, none, 0, 0⟩ : FV), ⟨false, 1, false, 1, A, 1, 1⟩]) ∧ winOf (rankF (⟨false, 1, false, 1, A, 1, 1⟩ : FV)) (ranks [(⟨false, 3, false, 0, none, 0, 0⟩ : FV), ⟨false, 1, false, 1, A, 1, 1⟩]) = 1 := by
  have h : lessR (rankF (⟨false, 1, false, 1, A, 1, 1⟩ : FV)) (rankF (⟨false, 3, false, 0, none, 0, 0⟩ : FV)) := rank_lt (x := false) (i := 1) (j := 3) (r := false) (s := false) (by show 1 < 2048; omega) (by show 3 < 2048; omega) (by omega)
  refine ⟨?_, (win_two h).2.2.1, (win_two h).2.2.2⟩
  intro f hf
  simp only [List.mem_cons, List.not_mem_nil, or_false] at hf
  rcases hf with rfl | rfl
  · exact ⟨3, rfl, by show 3 < 2048; omega⟩
  · exact ⟨1, rfl, by show 1 < 2048; omega⟩

set_option maxRecDepth 100000 in
set_option maxHeartbeats 2000000 in
theorem head06_core (T1 : List Int) (HT : Hid (headV false 1 false 1 [128] = T1)) (H57 : Hid ((sentV T1).length = 57)) (w : World) :
    Calls Try.prog 6 #[] w fun e w' => e = .returned (.bool true) ∧ Below w.heap.size w w' := by
  have H6 := Lib.hid v6
  have Hc := Lib.hid vcrc
  go_enter Try.func6, Try.ntmps6
  go_wp2_with fail
  obtain ⟨w0, hw0⟩ : ∃ w0, (w.alloc (.cells #[.int .u8 128] 5)).alloc (.cells #[.bool false, .int .i64 1, .bool false, .int .i64 1, .slice (some ⟨w.heap.size, 0, none⟩) 1 1] 24) = w0 := ⟨_, rfl⟩
  have hT0 : Below w.heap.size w w0 := by rw [← hw0]; exact below_then (below_alloc1 _ _) (below_alloc1 _ _)
  have hf0 : w0.heap[w.heap.size + 1]? = some (.cells #[.bool false, .int .i64 1, .bool false, .int .i64 1, .slice (some ⟨w.heap.size, 0, none⟩) 1 1] 24) := by rw [← hw0]; have := World.alloc_heap_new (w.alloc (.cells #[.int .u8 128] 5)) (.cells #[.bool false, .int .i64 1, .bool false, .int .i64 1, .slice (some ⟨w.heap.size, 0, none⟩) 1 1] 24); simpa using this
  have hd0 : Row .u8 w0 w0.heap.size (some ⟨w.heap.size, 0, none⟩) [128] := by rw [← hw0]; have := Row.lit w .u8 [128] 5 (cs := #[.int .u8 128]) rfl; exact Row.to (by simpa using this) (below_alloc1 _ _)
  rw [hw0]
  clear hw0
  have HW := Lib.hid (twoWin (some ⟨w.heap.size, 0, none⟩))
  refine (wireBits_at false 1 false 1 [128] 1 rfl (some ⟨w.heap.size, 0, none⟩) 1 (by show 1 < 2048; omega) (by omega) w0 hd0 byte_128 (by omega) T1 HT.out 57 H57.out).mono ?_
  rintro e w1 ⟨A1, c1, rfl, hs_, hc1, hB1⟩
  have hT1 := below_then hT0 hB1
  have hf1 := block_below hB1 hf0
  have hd1 := Row.to hd0 hB1
  clear hT0 hf0 hd0 hB1
  have hs1 := hs_
  clear hs_
  obtain ⟨fc0, fc1, fc2, fc3, fc4⟩ := cells5' hf1
  go_wp2_with fail
  clear fc0 fc1 fc2 fc3 fc4
  clear hs1
  refine (head_at false 1 false 1 [128] 1 rfl (some ⟨w.heap.size, 0, none⟩) 1 (by show 1 < 2048; omega) (by omega) w1 hd1 byte_128 (by omega) 8 rfl 27 rfl).mono ?_
  rintro e w2 ⟨A2, c2, rfl, hh_, hc2, hB2⟩
  have hT2 := below_then hT1 hB2
  have hf2 := block_below hB2 hf1
  have hd2 := Row.to hd1 hB2
  clear hT1 hf1 hd1 hB2
  have hh2 := hh_
  clear hh_
  obtain ⟨fc0, fc1, fc2, fc3, fc4⟩ := cells5' hf2
  go_wp2_with fail
  clear fc0 fc1 fc2 fc3 fc4
  clear hh2
  obtain ⟨w3, hw3⟩ : ∃ w3, w2.alloc (.cells #[.bool false, .int .i64 3, .bool false, .int .i64 0, .slice none 0 0, .bool false, .int .i64 1, .bool false, .int .i64 1, .slice (some ⟨w.heap.size, 0, none⟩) 1 1] 24) = w3 := ⟨_, rfl⟩
  have hB3 : Below w2.heap.size w2 w3 := by rw [← hw3]; exact below_alloc1 _ _
  have hl3 : FRow w3 w3.heap.size (some ⟨w2.heap.size, 0, none⟩) [(⟨false, 3, false, 0, none, 0, 0⟩ : FV), ⟨false, 1, false, 1, (some ⟨w.heap.size, 0, none⟩), 1, 1⟩] := by rw [← hw3]; exact FRow.lit w2 [(⟨false, 3, false, 0, none, 0, 0⟩ : FV), ⟨false, 1, false, 1, (some ⟨w.heap.size, 0, none⟩), 1, 1⟩] rfl rfl
  rw [hw3]
  clear hw3
  have hT3 := below_then hT2 hB3
  have hf3 := block_below hB3 hf2
  have hd3 := Row.to hd2 hB3
  clear hT2 hf2 hd2 hB3
  refine (win_any [(⟨false, 3, false, 0, none, 0, 0⟩ : FV), ⟨false, 1, false, 1, (some ⟨w.heap.size, 0, none⟩), 1, 1⟩] 2 rfl _ 2 w3 hl3 HW.out.1 (by omega) _ HW.out.2.1 13 rfl (by omega) 1 HW.out.2.2).mono ?_
  rintro e w4 ⟨rfl, hB4⟩
  have hT4 := below_then hT3 hB4
  have hf4 := block_below hB4 hf3
  have hd4 := Row.to hd3 hB4
  have hl4 := FRow.to hl3 hB4
  clear hT3 hf3 hd3 hl3 hB4
  clear hl4
  obtain ⟨fc0, fc1, fc2, fc3, fc4⟩ := cells5' hf4
  go_wp2_with fail
  clear fc0 fc1 fc2 fc3 fc4
  obtain ⟨w5, hw5⟩ : ∃ w5, w4.alloc (.cells #[.int .i64 1, .int .i64 0] 3) = w5 := ⟨_, rfl⟩
  have hB5 : Below w4.heap.size w4 w5 := by rw [← hw5]; exact below_alloc1 _ _
  have ha5 : Row .i64 w5 w5.heap.size (some ⟨w4.heap.size, 0, none⟩) [1, 0] := by rw [← hw5]; have := Row.lit w4 .i64 [1, 0] 3 (cs := #[.int .i64 1, .int .i64 0]) rfl; simpa using this
  rw [hw5]
  clear hw5
  have hT5 := below_then hT4 hB5
  have hf5 := block_below hB5 hf4
  have hd5 := Row.to hd4 hB5
  clear hT4 hf4 hd4 hB5
  refine (and_any [1, 0] 2 rfl _ 2 _ w5 ha5 (by decide) 0 (by decide)).mono ?_
  rintro e w_ ⟨rfl, rfl⟩
  clear ha5
  obtain ⟨fc0, fc1, fc2, fc3, fc4⟩ := cells5' hf5
  go_wp2_with fail
  clear fc0 fc1 fc2 fc3 fc4
  obtain ⟨w6, hw6⟩ : ∃ w6, w5.alloc (.cells #[.int .i64 0, .int .i64 0, .int .i64 0, .int .i64 0, .int .i64 0] 3) = w6 := ⟨_, rfl⟩
  have hB6 : Below w5.heap.size w5 w6 := by rw [← hw6]; exact below_alloc1 _ _
  have ha6 : Row .i64 w6 w6.heap.size (some ⟨w5.heap.size, 0, none⟩) [0, 0, 0, 0, 0] := by rw [← hw6]; have := Row.lit w5 .i64 [0, 0, 0, 0, 0] 3 (cs := #[.int .i64 0, .int .i64 0, .int .i64 0, .int .i64 0, .int .i64 0]) rfl; simpa using this
  rw [hw6]
  clear hw6
  have hT6 := below_then hT5 hB6
  have hf6 := block_below hB6 hf5
  have hd6 := Row.to hd5 hB6
  clear hT5 hf5 hd5 hB6
  refine (stuff_r [0, 0, 0, 0, 0] 5 rfl _ 5 w6 ha6 (by decide) (by omega) 6 H6.out).mono ?_
  rintro e w7 ⟨A6, c6, rfl, hs_, hB7⟩
  have hT7 := below_then hT6 hB7
  have hf7 := block_below hB7 hf6
  have hd7 := Row.to hd6 hB7
  have ha7 := Row.to ha6 hB7
  clear hT6 hf6 hd6 ha6 hB7
  have hs7 := hs_
  clear hs_
  clear ha7
  clear hs7
  obtain ⟨fc0, fc1, fc2, fc3, fc4⟩ := cells5' hf7
  go_wp2_with fail
  clear fc0 fc1 fc2 fc3 fc4
  obtain ⟨w8, hw8⟩ : ∃ w8, w7.alloc (.cells #[.int .u8 1] 5) = w8 := ⟨_, rfl⟩
  have hB8 : Below w7.heap.size w7 w8 := by rw [← hw8]; exact below_alloc1 _ _
  have ha8 : Row .u8 w8 w8.heap.size (some ⟨w7.heap.size, 0, none⟩) [1] := by rw [← hw8]; have := Row.lit w7 .u8 [1] 5 (cs := #[.int .u8 1]) rfl; simpa using this
  rw [hw8]
  clear hw8
  have hT8 := below_then hT7 hB8
  have hf8 := block_below hB8 hf7
  have hd8 := Row.to hd7 hB8
  clear hT7 hf7 hd7 hB8
  refine (spread_at [1] 1 rfl _ 1 _ w8 ha8 (Nat.le_refl _) byte_1 (by omega) 8 rfl).mono ?_
  rintro e w9 ⟨A7, rfl, hs_, hB9⟩
  have hT9 := below_then hT8 hB9
  have hf9 := block_below hB9 hf8
  have hd9 := Row.to hd8 hB9
  have ha9 := Row.to ha8 hB9
  clear hT8 hf8 hd8 ha8 hB9
  have hs9 := hs_
  clear hs_
  clear ha9
  clear hs9
  obtain ⟨fc0, fc1, fc2, fc3, fc4⟩ := cells5' hf9
  go_wp2_with fail
  clear fc0 fc1 fc2 fc3 fc4
  obtain ⟨w10, hw10⟩ : ∃ w10, w9.alloc (.cells #[.int .i64 1] 3) = w10 := ⟨_, rfl⟩
  have hB10 : Below w9.heap.size w9 w10 := by rw [← hw10]; exact below_alloc1 _ _
  have ha10 : Row .i64 w10 w10.heap.size (some ⟨w9.heap.size, 0, none⟩) [1] := by rw [← hw10]; have := Row.lit w9 .i64 [1] 3 (cs := #[.int .i64 1]) rfl; simpa using this
  rw [hw10]
  clear hw10
  have hT10 := below_then hT9 hB10
  have hf10 := block_below hB10 hf9
  have hd10 := Row.to hd9 hB10
  clear hT9 hf9 hd9 hB10
  refine (bits_q [1] 1 rfl _ 1 w10 ha10 (by decide) (by decide) 17817 Hc.out).mono ?_
  rintro e w11 ⟨rfl, hB11⟩
  have hT11 := below_then hT10 hB11
  have hf11 := block_below hB11 hf10
  have hd11 := Row.to hd10 hB11
  have ha11 := Row.to ha10 hB11
  clear hT10 hf10 hd10 ha10 hB11
  obtain ⟨fc0, fc1, fc2, fc3, fc4⟩ := cells5' hf11
  go_wp2_with fail
  go_ret
  exact ⟨rfl, hT11⟩
theorem head06_any (w : World) :
    Calls Try.prog 6 #[] w fun e w' => e = .returned (.bool true) ∧ Below w.heap.size w w' := head06_core T1 (Lib.hid rfl) (Lib.hid v57) w

end Go.Proofs.Ytajabpjphobabaa
