/-
  frame.Head: the header.
-/
import Derived.Test.YtmapkjjglhpamaaRank
namespace Go.Proofs.Ytmapkjjglhpamaa
open Go.RowKit

theorem rankS_len (ID : Nat) (r : Bool) : (rankS ID r).length = 13 := by simp [rankS, bitRow_len]
theorem rankX_len (ID : Nat) (r : Bool) : (rankX ID r).length = 32 := by simp [rankX, bitRow_len]

set_option maxRecDepth 100000 in
set_option maxHeartbeats 2000000 in
theorem headS_at (ID : Nat) (r : Bool) (L : Nat) (dl : List Int) (m : Nat) (hdl : dl.length = m) (A : Option Addr) (c : Nat) (hID : ID < 2048) (hL : L ≤ 15) (w : World) (h : Row .u8 w w.heap.size A dl) (hb : byteB dl) (hm : m ≤ 1000) (M : Nat) (hM : 8 * m = M) (N : Nat) (hN : 19 + M = N) :
    Calls Try.prog 29 #[.agg #[.bool false, .int .i64 ID, .bool r, .int .i64 L, .slice A m c]] w fun e w' => ∃ A' c', e = .returned (.slice A' N c') ∧ Row .i64 w' w'.heap.size A' ([0] ++ (rankS ID r ++ ([0] ++ (bitRow L 4 4 ++ spreadL dl)))) ∧ N ≤ c' ∧ Below w.heap.size w w' := by
  obtain ⟨w0, hw0⟩ : ∃ w0, w.alloc (.cells #[.bool false, .int .i64 ID, .bool r, .int .i64 L, .slice A m c] 24) = w0 := ⟨_, rfl⟩
  have hB0 := below_lits hw0
  have hF0 : w0.heap[w.heap.size]? = some (.cells #[.bool false, .int .i64 ID, .bool r, .int .i64 L, .slice A m c] 24) := by rw [← hw0]; exact World.alloc_heap_new _ _
  have hD0 : Row .u8 w0 w0.heap.size A dl := h.to hB0
  have hs0 : w0.heap.size = w.heap.size + 1 := by rw [← hw0]; simp
  obtain ⟨w1, hw1⟩ : ∃ w1, w0.alloc (.cells #[.int .i64 0] 3) = w1 := ⟨_, rfl⟩
  have hB1 := below_lits hw1
  have hres : Row .i64 w1 w1.heap.size (some ⟨w.heap.size + 1, 0, none⟩) [0] := by rw [← hw1]; exact lit1 _ _ _ _ hs0.symm
  have hF1 := block_below hB1 hF0
  have hD1 := hD0.to hB1
  have HW := Lib.hid hw1
  have HW0 := Lib.hid hw0
  have HF1 := Lib.hid hF1
  have HD := Lib.hid hdl
  have HM := Lib.hid hM
  have HN := Lib.hid hN
  have HB := Lib.hid hb
  have hL2 : L < 2 ^ 4 := by omega
  clear hw0 hw1 hF0 hF1 hs0 hdl hM hN hb
  have hBB := below_then hB0 hB1
  clear hB0 hB1 hD0 h
  go_enter Try.func29, Try.ntmps29
  go_wp2_with fail
  rw [HW0.out, HW.out]
  have hF1 := HF1.out
  clear HF1 HW HW0
  go_region_held3 (fun W => W.cell? ⟨w.heap.size, 0, none⟩ = some (.bool false) ∧ W.cell? ⟨w.heap.size, 1, none⟩ = some (.int .i64 ID) ∧ W.cell? ⟨w.heap.size, 2, none⟩ = some (.bool r) ∧ W.cell? ⟨w.heap.size, 3, none⟩ = some (.int .i64 L) ∧ W.cell? ⟨w.heap.size, 4, none⟩ = some (.slice A m c))
    (exact cells5' (by repeat (first | assumption | exact Below.refl _ _ | ((with_reducible refine lit2 _ _ _ _ _ ?_); (first | (with_reducible rfl) | (simp; done))) | ((with_reducible refine lit1 _ _ _ _ ?_); (first | (with_reducible rfl) | (simp; done))) | refine row_step (by first | assumption | exact below_alloc1 _ _ | exact below_drew1 _ | exact below_drewN0 _ _) ?_ | refine block_below (by first | assumption | exact below_alloc1 _ _ | exact below_drew1 _ | exact below_drewN0 _ _) ?_ | refine below_then ?_ (by first | assumption | exact below_alloc1 _ _ | exact below_drew1 _ | exact below_drewN0 _ _))))
    (first
      | (go_at_call 30; refine (rankS_at ID r L A m c hID _).mono ?_; rintro e w2 ⟨A2, c2, rfl, hr2, hc2, hB2⟩)
      | (go_at_call 53; refine (frPut_ex _ L 4 rfl (by omega) hL2 _).mono ?_; rintro e w3 ⟨A3, rfl, hr3, hB3⟩)
      | (go_at_call 54; refine (spread_at dl m HD.out A c _ _ (show Row .u8 _ _ A dl by repeat (first | assumption | exact Below.refl _ _ | ((with_reducible refine lit2 _ _ _ _ _ ?_); (first | (with_reducible rfl) | (simp; done))) | ((with_reducible refine lit1 _ _ _ _ ?_); (first | (with_reducible rfl) | (simp; done))) | refine row_step (by first | assumption | exact below_alloc1 _ _ | exact below_drew1 _ | exact below_drewN0 _ _) ?_ | refine block_below (by first | assumption | exact below_alloc1 _ _ | exact below_drew1 _ | exact below_drewN0 _ _) ?_ | refine below_then ?_ (by first | assumption | exact below_alloc1 _ _ | exact below_drew1 _ | exact below_drewN0 _ _))) (Nat.le_refl _) HB.out (by omega) M HM.out).mono ?_; rintro e w4 ⟨A4, rfl, hr4, hB4⟩)
      | (go_at_call 39; refine (concat5 _ A2 _ A3 A4 1 13 1 4 M _ _ _ _ _ [0] (rankS ID r) [0] (bitRow L 4 4) (spreadL dl) rfl (rankS_len _ _) rfl (bitRow_len _ _ _) (by rw [spreadL_len, HD.out, HM.out]) _ _ (by repeat (first | assumption | exact Below.refl _ _ | ((with_reducible refine lit2 _ _ _ _ _ ?_); (first | (with_reducible rfl) | (simp; done))) | ((with_reducible refine lit1 _ _ _ _ ?_); (first | (with_reducible rfl) | (simp; done))) | refine row_step (by first | assumption | exact below_alloc1 _ _ | exact below_drew1 _ | exact below_drewN0 _ _) ?_ | refine block_below (by first | assumption | exact below_alloc1 _ _ | exact below_drew1 _ | exact below_drewN0 _ _) ?_ | refine below_then ?_ (by first | assumption | exact below_alloc1 _ _ | exact below_drew1 _ | exact below_drewN0 _ _))) (by repeat (first | assumption | exact Below.refl _ _ | ((with_reducible refine lit2 _ _ _ _ _ ?_); (first | (with_reducible rfl) | (simp; done))) | ((with_reducible refine lit1 _ _ _ _ ?_); (first | (with_reducible rfl) | (simp; done))) | refine row_step (by first | assumption | exact below_alloc1 _ _ | exact below_drew1 _ | exact below_drewN0 _ _) ?_ | refine block_below (by first | assumption | exact below_alloc1 _ _ | exact below_drew1 _ | exact below_drewN0 _ _) ?_ | refine below_then ?_ (by first | assumption | exact below_alloc1 _ _ | exact below_drew1 _ | exact below_drewN0 _ _))) (by repeat (first | assumption | exact Below.refl _ _ | ((with_reducible refine lit2 _ _ _ _ _ ?_); (first | (with_reducible rfl) | (simp; done))) | ((with_reducible refine lit1 _ _ _ _ ?_); (first | (with_reducible rfl) | (simp; done))) | refine row_step (by first | assumption | exact below_alloc1 _ _ | exact below_drew1 _ | exact below_drewN0 _ _) ?_ | refine block_below (by first | assumption | exact below_alloc1 _ _ | exact below_drew1 _ | exact below_drewN0 _ _) ?_ | refine below_then ?_ (by first | assumption | exact below_alloc1 _ _ | exact below_drew1 _ | exact below_drewN0 _ _))) (by repeat (first | assumption | exact Below.refl _ _ | ((with_reducible refine lit2 _ _ _ _ _ ?_); (first | (with_reducible rfl) | (simp; done))) | ((with_reducible refine lit1 _ _ _ _ ?_); (first | (with_reducible rfl) | (simp; done))) | refine row_step (by first | assumption | exact below_alloc1 _ _ | exact below_drew1 _ | exact below_drewN0 _ _) ?_ | refine block_below (by first | assumption | exact below_alloc1 _ _ | exact below_drew1 _ | exact below_drewN0 _ _) ?_ | refine below_then ?_ (by first | assumption | exact below_alloc1 _ _ | exact below_drew1 _ | exact below_drewN0 _ _))) (by repeat (first | assumption | exact Below.refl _ _ | ((with_reducible refine lit2 _ _ _ _ _ ?_); (first | (with_reducible rfl) | (simp; done))) | ((with_reducible refine lit1 _ _ _ _ ?_); (first | (with_reducible rfl) | (simp; done))) | refine row_step (by first | assumption | exact below_alloc1 _ _ | exact below_drew1 _ | exact below_drewN0 _ _) ?_ | refine block_below (by first | assumption | exact below_alloc1 _ _ | exact below_drew1 _ | exact below_drewN0 _ _) ?_ | refine below_then ?_ (by first | assumption | exact below_alloc1 _ _ | exact below_drew1 _ | exact below_drewN0 _ _))) N (by rw [← HN.out]; omega) (by have := HN.out; have := HM.out; omega) (by simp)).mono ?_; rintro e w5 ⟨A5, c5, rfl, hr5, hc5, hB5⟩))
  all_goals
    go_wp2_with fail
    go_ret
    exact ⟨A5, c5, rfl, hr5, hc5, hBB.trans (Below.mono (B := w1.heap.size) (by repeat (first | assumption | exact Below.refl _ _ | ((with_reducible refine lit2 _ _ _ _ _ ?_); (first | (with_reducible rfl) | (simp; done))) | ((with_reducible refine lit1 _ _ _ _ ?_); (first | (with_reducible rfl) | (simp; done))) | refine row_step (by first | assumption | exact below_alloc1 _ _ | exact below_drew1 _ | exact below_drewN0 _ _) ?_ | refine block_below (by first | assumption | exact below_alloc1 _ _ | exact below_drew1 _ | exact below_drewN0 _ _) ?_ | refine below_then ?_ (by first | assumption | exact below_alloc1 _ _ | exact below_drew1 _ | exact below_drewN0 _ _))) hBB.size)⟩

set_option maxRecDepth 100000 in
set_option maxHeartbeats 2000000 in
theorem headX_at (ID : Nat) (r : Bool) (L : Nat) (dl : List Int) (m : Nat) (hdl : dl.length = m) (A : Option Addr) (c : Nat) (hID : ID < 536870912) (hL : L ≤ 15) (w : World) (h : Row .u8 w w.heap.size A dl) (hb : byteB dl) (hm : m ≤ 1000) (M : Nat) (hM : 8 * m = M) (N : Nat) (hN : 39 + M = N) :
    Calls Try.prog 29 #[.agg #[.bool true, .int .i64 ID, .bool r, .int .i64 L, .slice A m c]] w fun e w' => ∃ A' c', e = .returned (.slice A' N c') ∧ Row .i64 w' w'.heap.size A' ([0] ++ (rankX ID r ++ ([0, 0] ++ (bitRow L 4 4 ++ spreadL dl)))) ∧ N ≤ c' ∧ Below w.heap.size w w' := by
  obtain ⟨w0, hw0⟩ : ∃ w0, w.alloc (.cells #[.bool true, .int .i64 ID, .bool r, .int .i64 L, .slice A m c] 24) = w0 := ⟨_, rfl⟩
  have hB0 := below_lits hw0
  have hF0 : w0.heap[w.heap.size]? = some (.cells #[.bool true, .int .i64 ID, .bool r, .int .i64 L, .slice A m c] 24) := by rw [← hw0]; exact World.alloc_heap_new _ _
  have hD0 : Row .u8 w0 w0.heap.size A dl := h.to hB0
  have hs0 : w0.heap.size = w.heap.size + 1 := by rw [← hw0]; simp
  obtain ⟨w1, hw1⟩ : ∃ w1, (w0.alloc (.cells #[.int .i64 0] 3)).alloc (.cells #[.int .i64 0, .int .i64 0] 3) = w1 := ⟨_, rfl⟩
  have hB1 : Below w0.heap.size w0 w1 := by rw [← hw1]; exact below_then (below_alloc1 _ _) (below_alloc1 _ _)
  have hres : Row .i64 w1 w1.heap.size (some ⟨w.heap.size + 1 + 1, 0, none⟩) [0, 0] := by rw [← hw1]; exact lit2 _ _ _ _ _ (by simp [hs0])
  have hF1 := block_below hB1 hF0
  have hD1 := hD0.to hB1
  have HW := Lib.hid hw1
  have HW0 := Lib.hid hw0
  have HF1 := Lib.hid hF1
  have HD := Lib.hid hdl
  have HM := Lib.hid hM
  have HN := Lib.hid hN
  have HB := Lib.hid hb
  have hL2 : L < 2 ^ 4 := by omega
  clear hw0 hw1 hF0 hF1 hs0 hdl hM hN hb
  have hBB := below_then hB0 hB1
  clear hB0 hB1 hD0 h
  go_enter Try.func29, Try.ntmps29
  go_wp2_with fail
  rw [HW0.out, HW.out]
  have hF1 := HF1.out
  clear HF1 HW HW0
  go_region_held3 (fun W => W.cell? ⟨w.heap.size, 0, none⟩ = some (.bool true) ∧ W.cell? ⟨w.heap.size, 1, none⟩ = some (.int .i64 ID) ∧ W.cell? ⟨w.heap.size, 2, none⟩ = some (.bool r) ∧ W.cell? ⟨w.heap.size, 3, none⟩ = some (.int .i64 L) ∧ W.cell? ⟨w.heap.size, 4, none⟩ = some (.slice A m c))
    (exact cells5' (by repeat (first | assumption | exact Below.refl _ _ | ((with_reducible refine lit2 _ _ _ _ _ ?_); (first | (with_reducible rfl) | (simp; done))) | ((with_reducible refine lit1 _ _ _ _ ?_); (first | (with_reducible rfl) | (simp; done))) | refine row_step (by first | assumption | exact below_alloc1 _ _ | exact below_drew1 _ | exact below_drewN0 _ _) ?_ | refine block_below (by first | assumption | exact below_alloc1 _ _ | exact below_drew1 _ | exact below_drewN0 _ _) ?_ | refine below_then ?_ (by first | assumption | exact below_alloc1 _ _ | exact below_drew1 _ | exact below_drewN0 _ _))))
    (first
      | (go_at_call 30; refine (rankX_at ID r L A m c hID _).mono ?_; rintro e w2 ⟨A2, c2, rfl, hr2, hc2, hB2⟩)
      | (go_at_call 53; refine (frPut_ex _ L 4 rfl (by omega) hL2 _).mono ?_; rintro e w3 ⟨A3, rfl, hr3, hB3⟩)
      | (go_at_call 54; refine (spread_at dl m HD.out A c _ _ (show Row .u8 _ _ A dl by repeat (first | assumption | exact Below.refl _ _ | ((with_reducible refine lit2 _ _ _ _ _ ?_); (first | (with_reducible rfl) | (simp; done))) | ((with_reducible refine lit1 _ _ _ _ ?_); (first | (with_reducible rfl) | (simp; done))) | refine row_step (by first | assumption | exact below_alloc1 _ _ | exact below_drew1 _ | exact below_drewN0 _ _) ?_ | refine block_below (by first | assumption | exact below_alloc1 _ _ | exact below_drew1 _ | exact below_drewN0 _ _) ?_ | refine below_then ?_ (by first | assumption | exact below_alloc1 _ _ | exact below_drew1 _ | exact below_drewN0 _ _))) (Nat.le_refl _) HB.out (by omega) M HM.out).mono ?_; rintro e w4 ⟨A4, rfl, hr4, hB4⟩)
      | (go_at_call 39; refine (concat5 _ A2 _ A3 A4 1 32 2 4 M _ _ _ _ _ [0] (rankX ID r) [0, 0] (bitRow L 4 4) (spreadL dl) rfl (rankX_len _ _) rfl (bitRow_len _ _ _) (by rw [spreadL_len, HD.out, HM.out]) _ _ (by repeat (first | assumption | exact Below.refl _ _ | ((with_reducible refine lit2 _ _ _ _ _ ?_); (first | (with_reducible rfl) | (simp; done))) | ((with_reducible refine lit1 _ _ _ _ ?_); (first | (with_reducible rfl) | (simp; done))) | refine row_step (by first | assumption | exact below_alloc1 _ _ | exact below_drew1 _ | exact below_drewN0 _ _) ?_ | refine block_below (by first | assumption | exact below_alloc1 _ _ | exact below_drew1 _ | exact below_drewN0 _ _) ?_ | refine below_then ?_ (by first | assumption | exact below_alloc1 _ _ | exact below_drew1 _ | exact below_drewN0 _ _))) (by repeat (first | assumption | exact Below.refl _ _ | ((with_reducible refine lit2 _ _ _ _ _ ?_); (first | (with_reducible rfl) | (simp; done))) | ((with_reducible refine lit1 _ _ _ _ ?_); (first | (with_reducible rfl) | (simp; done))) | refine row_step (by first | assumption | exact below_alloc1 _ _ | exact below_drew1 _ | exact below_drewN0 _ _) ?_ | refine block_below (by first | assumption | exact below_alloc1 _ _ | exact below_drew1 _ | exact below_drewN0 _ _) ?_ | refine below_then ?_ (by first | assumption | exact below_alloc1 _ _ | exact below_drew1 _ | exact below_drewN0 _ _))) (by repeat (first | assumption | exact Below.refl _ _ | ((with_reducible refine lit2 _ _ _ _ _ ?_); (first | (with_reducible rfl) | (simp; done))) | ((with_reducible refine lit1 _ _ _ _ ?_); (first | (with_reducible rfl) | (simp; done))) | refine row_step (by first | assumption | exact below_alloc1 _ _ | exact below_drew1 _ | exact below_drewN0 _ _) ?_ | refine block_below (by first | assumption | exact below_alloc1 _ _ | exact below_drew1 _ | exact below_drewN0 _ _) ?_ | refine below_then ?_ (by first | assumption | exact below_alloc1 _ _ | exact below_drew1 _ | exact below_drewN0 _ _))) (by repeat (first | assumption | exact Below.refl _ _ | ((with_reducible refine lit2 _ _ _ _ _ ?_); (first | (with_reducible rfl) | (simp; done))) | ((with_reducible refine lit1 _ _ _ _ ?_); (first | (with_reducible rfl) | (simp; done))) | refine row_step (by first | assumption | exact below_alloc1 _ _ | exact below_drew1 _ | exact below_drewN0 _ _) ?_ | refine block_below (by first | assumption | exact below_alloc1 _ _ | exact below_drew1 _ | exact below_drewN0 _ _) ?_ | refine below_then ?_ (by first | assumption | exact below_alloc1 _ _ | exact below_drew1 _ | exact below_drewN0 _ _))) (by repeat (first | assumption | exact Below.refl _ _ | ((with_reducible refine lit2 _ _ _ _ _ ?_); (first | (with_reducible rfl) | (simp; done))) | ((with_reducible refine lit1 _ _ _ _ ?_); (first | (with_reducible rfl) | (simp; done))) | refine row_step (by first | assumption | exact below_alloc1 _ _ | exact below_drew1 _ | exact below_drewN0 _ _) ?_ | refine block_below (by first | assumption | exact below_alloc1 _ _ | exact below_drew1 _ | exact below_drewN0 _ _) ?_ | refine below_then ?_ (by first | assumption | exact below_alloc1 _ _ | exact below_drew1 _ | exact below_drewN0 _ _))) N (by rw [← HN.out]; omega) (by have := HN.out; have := HM.out; omega) (by simp)).mono ?_; rintro e w5 ⟨A5, c5, rfl, hr5, hc5, hB5⟩))
  all_goals
    go_wp2_with fail
    go_ret
    exact ⟨A5, c5, rfl, hr5, hc5, hBB.trans (Below.mono (B := w1.heap.size) (by repeat (first | assumption | exact Below.refl _ _ | ((with_reducible refine lit2 _ _ _ _ _ ?_); (first | (with_reducible rfl) | (simp; done))) | ((with_reducible refine lit1 _ _ _ _ ?_); (first | (with_reducible rfl) | (simp; done))) | refine row_step (by first | assumption | exact below_alloc1 _ _ | exact below_drew1 _ | exact below_drewN0 _ _) ?_ | refine block_below (by first | assumption | exact below_alloc1 _ _ | exact below_drew1 _ | exact below_drewN0 _ _) ?_ | refine below_then ?_ (by first | assumption | exact below_alloc1 _ _ | exact below_drew1 _ | exact below_drewN0 _ _))) hBB.size)⟩

end Go.Proofs.Ytmapkjjglhpamaa
