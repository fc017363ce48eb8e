/-
  FrameLengths, walked: a right frame's head has 19 bits, or 39, and eight for each byte; with a byte more it has eight bits more behind, and the count's differ.
-/
import Derived.Test.YthjhccdpjgdblaaFrMore
import Derived.IntWalk
import Derived.RegionCalls
namespace Go.Proofs.Ythjhccdpjgdblaa
open Go.RowKit

/-- A fact that nothing looks into. -/
structure Veil (p : Prop) : Prop where
  out : p

theorem Try.byteInfo : (Try.prog.info? 5).map (fun i => (i.zero, i.size, i.bytes)) = some (some (.int .u8 0), 1, 1) := Try.infoByte
theorem rightV_more (x : Bool) (ID : Nat) (L m : Nat) (r : Bool) (hID : idOk x ID) (hm : m = if r then 0 else L) : rightV x ID r ((L : Int) + 1) (m + 1) = (!r && decide (L < 8)) := by
  unfold rightV idOk at *
  rw [Bool.eq_iff_iff]
  cases r
  · simp only [Bool.false_eq_true, if_false] at hm ⊢
    subst hm
    simp only [decide_eq_true_eq, Bool.not_false, Bool.true_and]
    cases x <;> simp at hID ⊢ <;> omega
  · simp only [if_true] at hm ⊢
    subst hm
    simp
theorem head_at_i (x : Bool) (ID : Nat) (r : Bool) (n : Int) (L : Nat) (hnL : n = L) (dl : List Int) (m : Nat) (hdl : dl.length = m) (A : Option Addr) (c : Nat) (hID : idOk x ID) (hL : L ≤ 8) (w : World) (h : Row .u8 w w.heap.size A dl) (hb : byteB dl) (hm : m ≤ 1000) (M : Nat) (hM : 8 * m = M) (N : Nat) (hN : hn x + M = N) :
    Calls Try.prog 17 #[.agg #[.bool x, .int .i64 ID, .bool r, .int .i64 n, .slice A m c]] w fun e w' => ∃ A' c', e = .returned (.slice A' N c') ∧ Row .i64 w' w'.heap.size A' (headV x ID r L dl) ∧ N ≤ c' ∧ Below w.heap.size w w' := by
  subst hnL
  exact head_at x ID r L dl m hdl A c hID hL w h hb hm M hM N hN

set_option maxRecDepth 100000 in
set_option maxHeartbeats 40000000 in
theorem frameLengths_walk (x : Bool) (i : Int) (r : Bool) (n : Int) (dl : List Int) (m : Nat) (hdl : dl.length = m) (A : Option Addr) (c : Nat) (T : Nat) (hT : T ≤ 255)
    (w : World) (h : Row .u8 w w.heap.size A dl) (hb : byteB dl) :
    Calls Try.prog 8 #[.agg #[.bool x, .int .i64 i, .bool r, .int .i64 n, .slice A m c], .int .u8 T] w fun e w' => e = .returned (.bool true) ∧ Below w.heap.size w w' := by
  obtain ⟨i0, hi, hz0, hz1, hz2⟩ := info_parts Try.byteInfo
  have HD := Lib.hid hdl
  have HB := Lib.hid hb
  clear hdl hb
  obtain ⟨w0, hw0⟩ : ∃ w0, w.alloc (.cells #[.bool x, .int .i64 i, .bool r, .int .i64 n, .slice A m c] 24) = w0 := ⟨_, rfl⟩
  have hB0 : Below w.heap.size w w0 := by rw [← hw0]; exact below_alloc1 _ _
  have hF0 : w0.heap[w.heap.size]? = some (.cells #[.bool x, .int .i64 i, .bool r, .int .i64 n, .slice A m c] 24) := by rw [← hw0]; exact World.alloc_heap_new _ _
  have HW0 := Lib.hid hw0
  clear hw0
  go_enter Try.func8, Try.ntmps8
  go_wp2_with fail
  rw [HW0.out]
  clear HW0
  refine (head_any _).mono ?_
  rintro e w1 ⟨rfl, hB1⟩
  have hF1 : w1.heap[w.heap.size]? = some (.cells #[.bool x, .int .i64 i, .bool r, .int .i64 n, .slice A m c] 24) := by repeat (first | assumption | exact Below.refl _ _ | ((with_reducible refine lit2 _ _ _ _ _ ?_); (first | (with_reducible rfl) | (simp; done))) | ((with_reducible refine lit1 _ _ _ _ ?_); (first | (with_reducible rfl) | (simp; done))) | refine row_step (by first | assumption | exact below_alloc1 _ _ | exact below_drew1 _ | exact below_drewN0 _ _) ?_ | refine block_below (by first | assumption | exact below_alloc1 _ _ | exact below_drew1 _ | exact below_drewN0 _ _) ?_ | refine below_then ?_ (by first | assumption | exact below_alloc1 _ _ | exact below_drew1 _ | exact below_drewN0 _ _))
  obtain ⟨c0, c1, c2, c3, c4⟩ := cells5' hF1
  go_wp2_with fail
  by_cases h1 : 100 < m
  · refine (great_q x i r n A m c _ true (by simp; omega)).mono ?_
    rintro e w2 ⟨rfl, hB2⟩
    go_wp2_with fail
    go_ret
    exact ⟨rfl, by repeat (first | assumption | exact Below.refl _ _ | ((with_reducible refine lit2 _ _ _ _ _ ?_); (first | (with_reducible rfl) | (simp; done))) | ((with_reducible refine lit1 _ _ _ _ ?_); (first | (with_reducible rfl) | (simp; done))) | refine row_step (by first | assumption | exact below_alloc1 _ _ | exact below_drew1 _ | exact below_drewN0 _ _) ?_ | refine block_below (by first | assumption | exact below_alloc1 _ _ | exact below_drew1 _ | exact below_drewN0 _ _) ?_ | refine below_then ?_ (by first | assumption | exact below_alloc1 _ _ | exact below_drew1 _ | exact below_drewN0 _ _))⟩
  refine (great_q x i r n A m c _ false (by simp; omega)).mono ?_
  rintro e w2 ⟨rfl, hB2⟩
  clear c0 c1 c2 c3 c4
  have hF2 : w2.heap[w.heap.size]? = some (.cells #[.bool x, .int .i64 i, .bool r, .int .i64 n, .slice A m c] 24) := by repeat (first | assumption | exact Below.refl _ _ | ((with_reducible refine lit2 _ _ _ _ _ ?_); (first | (with_reducible rfl) | (simp; done))) | ((with_reducible refine lit1 _ _ _ _ ?_); (first | (with_reducible rfl) | (simp; done))) | refine row_step (by first | assumption | exact below_alloc1 _ _ | exact below_drew1 _ | exact below_drewN0 _ _) ?_ | refine block_below (by first | assumption | exact below_alloc1 _ _ | exact below_drew1 _ | exact below_drewN0 _ _) ?_ | refine below_then ?_ (by first | assumption | exact below_alloc1 _ _ | exact below_drew1 _ | exact below_drewN0 _ _))
  obtain ⟨c0, c1, c2, c3, c4⟩ := cells5' hF2
  go_wp2_with fail
  by_cases h3 : rightV x i r n m = true
  rotate_left
  · refine (refFrRight_q x i r n A m c _ false (by simpa using h3)).mono ?_
    rintro e w3 ⟨rfl, hB3⟩
    clear h3
    go_wp2_with fail
    go_ret
    exact ⟨rfl, by repeat (first | assumption | exact Below.refl _ _ | ((with_reducible refine lit2 _ _ _ _ _ ?_); (first | (with_reducible rfl) | (simp; done))) | ((with_reducible refine lit1 _ _ _ _ ?_); (first | (with_reducible rfl) | (simp; done))) | refine row_step (by first | assumption | exact below_alloc1 _ _ | exact below_drew1 _ | exact below_drewN0 _ _) ?_ | refine block_below (by first | assumption | exact below_alloc1 _ _ | exact below_drew1 _ | exact below_drewN0 _ _) ?_ | refine below_then ?_ (by first | assumption | exact below_alloc1 _ _ | exact below_drew1 _ | exact below_drewN0 _ _))⟩
  obtain ⟨ID, L, rfl, rfl, hID, hL, hmr⟩ := right_ok h3
  have H3 := Lib.hid h3
  have HMr := Lib.hid hmr
  clear h3 hmr
  refine (refFrRight_q x ID r L A m c _ true H3.out).mono ?_
  rintro e w3 ⟨rfl, hB3⟩
  clear c0 c1 c2 c3 c4
  have hF3 : w3.heap[w.heap.size]? = some (.cells #[.bool x, .int .i64 ID, .bool r, .int .i64 L, .slice A m c] 24) := by repeat (first | assumption | exact Below.refl _ _ | ((with_reducible refine lit2 _ _ _ _ _ ?_); (first | (with_reducible rfl) | (simp; done))) | ((with_reducible refine lit1 _ _ _ _ ?_); (first | (with_reducible rfl) | (simp; done))) | refine row_step (by first | assumption | exact below_alloc1 _ _ | exact below_drew1 _ | exact below_drewN0 _ _) ?_ | refine block_below (by first | assumption | exact below_alloc1 _ _ | exact below_drew1 _ | exact below_drewN0 _ _) ?_ | refine below_then ?_ (by first | assumption | exact below_alloc1 _ _ | exact below_drew1 _ | exact below_drewN0 _ _))
  obtain ⟨c0, c1, c2, c3, c4⟩ := cells5' hF3
  obtain ⟨M, hM⟩ : ∃ M, 8 * m = M := ⟨_, rfl⟩
  obtain ⟨K, hK⟩ : ∃ K, hn x = K := ⟨_, rfl⟩
  obtain ⟨N, hN⟩ : ∃ N, K + M = N := ⟨_, rfl⟩
  have hK1 : 19 ≤ K ∧ K ≤ 39 := by rw [← hK]; cases x <;> decide
  have hNb : N ≤ 1000 := by omega
  have hN1 : K ≤ N := by omega
  have HM8 := Lib.hid hM
  have HK := Lib.hid hK
  have HN := Lib.hid (show hn x + M = N by rw [hK, hN])
  have HN2 := Lib.hid (show hn x + (M + 8) = N + 8 by rw [hK]; omega)
  have HM2 := Lib.hid (show 8 * (m + 1) = M + 8 by omega)
  have hrm : Veil (rightV x ID r ((L : Int) + 1) (m + 1) = (!r && decide (L < 8))) := ⟨rightV_more x ID L m r hID HMr.out⟩
  have hNM : (N : Int) = K + 8 * m := by omega
  have HNM := Lib.hid hNM
  clear hM hK hN hNM
  have hd2 : (dl ++ [(T : Int)]).length = m + 1 := by rw [List.length_append, HD.out]; rfl
  have HD2 := Lib.hid hd2
  have hb2 : byteB (dl ++ [(T : Int)]) := by
    intro y hy
    rcases List.mem_append.1 hy with h1 | h1
    · exact HB.out y h1
    · rw [List.mem_singleton.1 h1]; omega
  have HB2 := Lib.hid hb2
  clear hb2
  clear hd2
  cases x
  · obtain rfl : K = 19 := HK.out.symm
    have HID : Veil (idOk false ID) := ⟨hID⟩
    clear hID H3
    go_wp2_with fail
    refine (head_at false ID r L dl m HD.out A c HID.out hL _ (by repeat (first | assumption | exact Below.refl _ _ | ((with_reducible refine lit2 _ _ _ _ _ ?_); (first | (with_reducible rfl) | (simp; done))) | ((with_reducible refine lit1 _ _ _ _ ?_); (first | (with_reducible rfl) | (simp; done))) | refine row_step (by first | assumption | exact below_alloc1 _ _ | exact below_drew1 _ | exact below_drewN0 _ _) ?_ | refine block_below (by first | assumption | exact below_alloc1 _ _ | exact below_drew1 _ | exact below_drewN0 _ _) ?_ | refine below_then ?_ (by first | assumption | exact below_alloc1 _ _ | exact below_drew1 _ | exact below_drewN0 _ _))) HB.out (by omega) M HM8.out N HN.out).mono ?_
    rintro e w4 ⟨A4, c4, rfl, hr4, hc4, hB4⟩
    clear c0 c1 c2 c3
    have hF4 : w4.heap[w.heap.size]? = some (.cells #[.bool false, .int .i64 ID, .bool r, .int .i64 L, .slice A m c] 24) := by repeat (first | assumption | exact Below.refl _ _ | ((with_reducible refine lit2 _ _ _ _ _ ?_); (first | (with_reducible rfl) | (simp; done))) | ((with_reducible refine lit1 _ _ _ _ ?_); (first | (with_reducible rfl) | (simp; done))) | refine row_step (by first | assumption | exact below_alloc1 _ _ | exact below_drew1 _ | exact below_drewN0 _ _) ?_ | refine block_below (by first | assumption | exact below_alloc1 _ _ | exact below_drew1 _ | exact below_drewN0 _ _) ?_ | refine below_then ?_ (by first | assumption | exact below_alloc1 _ _ | exact below_drew1 _ | exact below_drewN0 _ _))
    obtain ⟨c0, c1, c2, c3, c5⟩ := cells5' hF4
    have t1 : ((N : Int) != 19 + 8 * (m : Int)) = false := by rw [HNM.out]; simp
    have t2 : ((N : Int) == 19 + 8 * (m : Int)) = true := by rw [HNM.out]; simp
    obtain ⟨e0, e1, e2, e3, e4⟩ := cells5' (block_below (below_alloc1 w4 (.cells #[.bool false, .int .i64 ID, .bool r, .int .i64 L, .slice A m c] 24)) hF4)
    have hlt4 : w.heap.size < w4.heap.size := (Array.getElem?_eq_some_iff.1 hF4).1
    have gG5 : (w4.alloc (.cells #[.bool false, .int .i64 ID, .bool r, .int .i64 L, .slice A m c] 24)).heap[w4.heap.size]? = some (.cells #[.bool false, .int .i64 ID, .bool r, .int .i64 L, .slice A m c] 24) := World.alloc_heap_new _ _
    have o5 : ((w4.alloc (.cells #[.bool false, .int .i64 ID, .bool r, .int .i64 L, .slice A m c] 24)).alloc (.cells #[] 5)).ownsRow (w4.heap.size + 1) 5 1 (.slice (some ⟨w4.heap.size + 1, 0, none⟩) 0 0) 0 (([] : List Int).map (Value.int .u8)) := by have := own_lit (w4.alloc (.cells #[.bool false, .int .i64 ID, .bool r, .int .i64 L, .slice A m c] 24)) .u8 [] 0 rfl 5 (cs := #[]) rfl (by decide); simpa using this
    have f5 : ((w4.alloc (.cells #[.bool false, .int .i64 ID, .bool r, .int .i64 L, .slice A m c] 24)).alloc (.cells #[] 5)).heap[w.heap.size]? = some (.cells #[.bool false, .int .i64 ID, .bool r, .int .i64 L, .slice A m c] 24) := by repeat (first | assumption | exact Below.refl _ _ | ((with_reducible refine lit2 _ _ _ _ _ ?_); (first | (with_reducible rfl) | (simp; done))) | ((with_reducible refine lit1 _ _ _ _ ?_); (first | (with_reducible rfl) | (simp; done))) | refine row_step (by first | assumption | exact below_alloc1 _ _ | exact below_drew1 _ | exact below_drewN0 _ _) ?_ | refine block_below (by first | assumption | exact below_alloc1 _ _ | exact below_drew1 _ | exact below_drewN0 _ _) ?_ | refine below_then ?_ (by first | assumption | exact below_alloc1 _ _ | exact below_drew1 _ | exact below_drewN0 _ _))
    have g5 : ((w4.alloc (.cells #[.bool false, .int .i64 ID, .bool r, .int .i64 L, .slice A m c] 24)).alloc (.cells #[] 5)).heap[w4.heap.size]? = some (.cells #[.bool false, .int .i64 ID, .bool r, .int .i64 L, .slice A m c] 24) := by repeat (first | assumption | exact Below.refl _ _ | ((with_reducible refine lit2 _ _ _ _ _ ?_); (first | (with_reducible rfl) | (simp; done))) | ((with_reducible refine lit1 _ _ _ _ ?_); (first | (with_reducible rfl) | (simp; done))) | refine row_step (by first | assumption | exact below_alloc1 _ _ | exact below_drew1 _ | exact below_drewN0 _ _) ?_ | refine block_below (by first | assumption | exact below_alloc1 _ _ | exact below_drew1 _ | exact below_drewN0 _ _) ?_ | refine below_then ?_ (by first | assumption | exact below_alloc1 _ _ | exact below_drew1 _ | exact below_drewN0 _ _))
    have d5 : Row .u8 ((w4.alloc (.cells #[.bool false, .int .i64 ID, .bool r, .int .i64 L, .slice A m c] 24)).alloc (.cells #[] 5)) ((w4.alloc (.cells #[.bool false, .int .i64 ID, .bool r, .int .i64 L, .slice A m c] 24)).alloc (.cells #[] 5)).heap.size A dl := by repeat (first | assumption | exact Below.refl _ _ | ((with_reducible refine lit2 _ _ _ _ _ ?_); (first | (with_reducible rfl) | (simp; done))) | ((with_reducible refine lit1 _ _ _ _ ?_); (first | (with_reducible rfl) | (simp; done))) | refine row_step (by first | assumption | exact below_alloc1 _ _ | exact below_drew1 _ | exact below_drewN0 _ _) ?_ | refine block_below (by first | assumption | exact below_alloc1 _ _ | exact below_drew1 _ | exact below_drewN0 _ _) ?_ | refine below_then ?_ (by first | assumption | exact below_alloc1 _ _ | exact below_drew1 _ | exact below_drewN0 _ _))
    obtain ⟨u0, u1, u2, u3, u4⟩ := cells5' f5
    go_wp2_with (first
      | (at_builtin; have hq_ := hown6; clear hq_; refine wpList_append_row _ .u8 rfl _ _ 22 rfl (w4.heap.size + 1) 5 i0 (.int .u8 0) 1 Try.underlying22 hi hz0 hz1 hz2 rfl _ m dl rfl own6 _ 1 1 _ [(T : Int)] rfl rfl l6 (by unfold maxLen; omega) (by omega) (by first | (simp; done) | (simp; omega)) ?_; intro A7 c7 w7 hown7 hc7 hB7; have hF7 := (hB7.block w.heap.size (by omega)).trans (block_below (below_alloc1 w6 (.cells #[.int .u8 T] 5)) hF6); have hG7 := (hB7.block w4.heap.size (by omega)).trans (block_below (below_alloc1 w6 (.cells #[.int .u8 T] 5)) hG6); obtain ⟨⟨a0, a1, a2, a3, a4⟩, b0, b1, b2, b3, b4⟩ := cells5 hG7; obtain ⟨⟨r0, r1, r2, r3, r4⟩, v0, v1, v2, v3, v4⟩ := cells5 hF7)
      | (at_builtin; (refine wpList_append_row _ .u8 rfl _ _ 22 rfl (w4.heap.size + 1) 5 i0 (.int .u8 0) 1 Try.underlying22 hi hz0 hz1 hz2 rfl _ 0 [] rfl o5 A m c _ dl rfl HD.out d5 (by unfold maxLen; omega) (by omega) (by first | (simp; done) | (simp; omega)) ?_; intro A6 c6 w6 hown6 hc6 hB6; rw [Nat.zero_add, List.nil_append] at hown6; have hs6 : w4.heap.size + 1 ≤ w6.heap.size := (by have := hB6.size; simp at this; omega); have hF6 := (hB6.block w.heap.size (by omega)).trans f5; have hG6 := (hB6.block w4.heap.size (by omega)).trans g5; have l6 := lit1 w6 .u8 (T : Int) 5 rfl; have own6 := own_to hown6 (below_alloc1 w6 (.cells #[.int .u8 T] 5)))))
    obtain ⟨w8, hw8⟩ : ∃ w8, (w7.setCell ⟨w4.heap.size, 4, none⟩ (.slice A7 (m + 1) c7)).setCell ⟨w4.heap.size, 3, none⟩ (.int .i64 ((L : Int) + 1)) = w8 := ⟨_, rfl⟩
    have hG8 : w8.heap[w4.heap.size]? = some (.cells #[.bool false, .int .i64 ID, .bool r, .int .i64 ((L : Int) + 1), .slice A7 (m + 1) c7] 24) := by rw [← hw8]; exact set_3 (set_4 hG7 _) _
    have hF8 : w8.heap[w.heap.size]? = some (.cells #[.bool false, .int .i64 ID, .bool r, .int .i64 L, .slice A m c] 24) := by rw [← hw8]; exact obj_to (obj_to hF7 (grown_setAt w7 w4.heap.size 4 _) (by omega)) (grown_setAt _ w4.heap.size 3 _) (by omega)
    have k7 : (Value.slice A7 (m + 1) c7).ownBlock ≠ some w4.heap.size := fun e => by have := (hown7.lt _ e).1; omega
    have hD8 : Row .u8 w8 w8.heap.size A7 (dl ++ [(T : Int)]) := by rw [← hw8]; exact Row.own ((hown7.kept (grown_setAt w7 w4.heap.size 4 _) (.inr k7)).kept (grown_setAt _ w4.heap.size 3 _) (.inr k7))
    have hB48 : Below w4.heap.size w4 w8 := by rw [← hw8]; exact (((((((below_alloc1 w4 _).trans ((below_alloc1 _ _).mono (by simp))).trans (hB6.mono (by omega))).trans ((below_alloc1 w6 _).mono (by omega))).trans (hB7.mono (by omega))).setCell (p := ⟨w4.heap.size, 4, none⟩) (Nat.le_refl _) _).setCell (p := ⟨w4.heap.size, 3, none⟩) (Nat.le_refl _) _)
    rw [hw8]
    have hr8 : Row .i64 w8 w8.heap.size A4 (headV false ID r L dl) := hr4.to hB48
    have hall : Below w.heap.size w w8 := by repeat (first | assumption | exact Below.refl _ _ | ((with_reducible refine lit2 _ _ _ _ _ ?_); (first | (with_reducible rfl) | (simp; done))) | ((with_reducible refine lit1 _ _ _ _ ?_); (first | (with_reducible rfl) | (simp; done))) | refine row_step (by first | assumption | exact below_alloc1 _ _ | exact below_drew1 _ | exact below_drewN0 _ _) ?_ | refine block_below (by first | assumption | exact below_alloc1 _ _ | exact below_drew1 _ | exact below_drewN0 _ _) ?_ | refine below_then ?_ (by first | assumption | exact below_alloc1 _ _ | exact below_drew1 _ | exact below_drewN0 _ _))
    clear hw8 hown7 k7 hown6 own6 l6 hB6 hB7 hF6 hG6 hF7 hG7 o5 f5 g5 d5 gG5 hr4 hB0 hB1 hB2 hB3 hB4 hB48 a0 a1 a2 a3 a4 b0 b1 b2 b3 b4 r0 r1 r2 r3 r4 v0 v1 v2 v3 v4 u0 u1 u2 u3 u4 e0 e1 e2 e3 e4 c0 c1 c2 c3 c5 t1 t2 hs6
    cases r
    rotate_left
    · obtain ⟨c0, c1, c2, c3, c5⟩ := cells5' hF8
      obtain ⟨e0, e1, e2, e3, e4⟩ := cells5' hG8
      first | (go_region_with (first | (go_at_call 12; refine (frRight_q false ID true ((L : Int) + 1) A7 (m + 1) c7 _ false (by rw [hrm.out]; rfl)).mono ?_; rintro e w9 ⟨rfl, hB9⟩; have hF9 : w9.heap[w.heap.size]? = some (.cells #[.bool false, .int .i64 ID, .bool true, .int .i64 L, .slice A m c] 24) := (by repeat (first | assumption | exact Below.refl _ _ | ((with_reducible refine lit2 _ _ _ _ _ ?_); (first | (with_reducible rfl) | (simp; done))) | ((with_reducible refine lit1 _ _ _ _ ?_); (first | (with_reducible rfl) | (simp; done))) | refine row_step (by first | assumption | exact below_alloc1 _ _ | exact below_drew1 _ | exact below_drewN0 _ _) ?_ | refine block_below (by first | assumption | exact below_alloc1 _ _ | exact below_drew1 _ | exact below_drewN0 _ _) ?_ | refine below_then ?_ (by first | assumption | exact below_alloc1 _ _ | exact below_drew1 _ | exact below_drewN0 _ _))); obtain ⟨x0, x1, x2, x3, x4⟩ := cells5' hF9))) | fail
      all_goals
        clear c0 c1 c2 c3 c5 e0 e1 e2 e3 e4
        go_wp2_with fail
        go_ret
        exact ⟨rfl, hall.trans (Below.mono (B := w8.heap.size) (by repeat (first | assumption | exact Below.refl _ _ | ((with_reducible refine lit2 _ _ _ _ _ ?_); (first | (with_reducible rfl) | (simp; done))) | ((with_reducible refine lit1 _ _ _ _ ?_); (first | (with_reducible rfl) | (simp; done))) | refine row_step (by first | assumption | exact below_alloc1 _ _ | exact below_drew1 _ | exact below_drewN0 _ _) ?_ | refine block_below (by first | assumption | exact below_alloc1 _ _ | exact below_drew1 _ | exact below_drewN0 _ _) ?_ | refine below_then ?_ (by first | assumption | exact below_alloc1 _ _ | exact below_drew1 _ | exact below_drewN0 _ _))) hall.size)⟩
    obtain rfl : m = L := HMr.out
    by_cases h8 : m < 8
    rotate_left
    · have q1 : decide ((m : Int) < 8) = false := by simp; omega
      have q2 : ((m : Int) == 8) = true := by simp; omega
      have q3 : (m == 8) = true := by simp; omega
      go_region_held3 (fun W => W.cell? ⟨w.heap.size, 0, none⟩ = some (.bool false) ∧ W.cell? ⟨w.heap.size, 1, none⟩ = some (.int .i64 ID) ∧ W.cell? ⟨w.heap.size, 2, none⟩ = some (.bool false) ∧ W.cell? ⟨w.heap.size, 3, none⟩ = some (.int .i64 m) ∧ W.cell? ⟨w.heap.size, 4, none⟩ = some (.slice A m c) ∧ W.cell? ⟨w4.heap.size, 0, none⟩ = some (.bool false) ∧ W.cell? ⟨w4.heap.size, 1, none⟩ = some (.int .i64 ID) ∧ W.cell? ⟨w4.heap.size, 2, none⟩ = some (.bool false) ∧ W.cell? ⟨w4.heap.size, 3, none⟩ = some (.int .i64 ((m : Int) + 1)) ∧ W.cell? ⟨w4.heap.size, 4, none⟩ = some (.slice A7 (m + 1) c7))
        (exact cells10 (by repeat (first | assumption | exact Below.refl _ _ | ((with_reducible refine lit2 _ _ _ _ _ ?_); (first | (with_reducible rfl) | (simp; done))) | ((with_reducible refine lit1 _ _ _ _ ?_); (first | (with_reducible rfl) | (simp; done))) | refine row_step (by first | assumption | exact below_alloc1 _ _ | exact below_drew1 _ | exact below_drewN0 _ _) ?_ | refine block_below (by first | assumption | exact below_alloc1 _ _ | exact below_drew1 _ | exact below_drewN0 _ _) ?_ | refine below_then ?_ (by first | assumption | exact below_alloc1 _ _ | exact below_drew1 _ | exact below_drewN0 _ _))) (by repeat (first | assumption | exact Below.refl _ _ | ((with_reducible refine lit2 _ _ _ _ _ ?_); (first | (with_reducible rfl) | (simp; done))) | ((with_reducible refine lit1 _ _ _ _ ?_); (first | (with_reducible rfl) | (simp; done))) | refine row_step (by first | assumption | exact below_alloc1 _ _ | exact below_drew1 _ | exact below_drewN0 _ _) ?_ | refine block_below (by first | assumption | exact below_alloc1 _ _ | exact below_drew1 _ | exact below_drewN0 _ _) ?_ | refine below_then ?_ (by first | assumption | exact below_alloc1 _ _ | exact below_drew1 _ | exact below_drewN0 _ _))))
        (first
          | (go_at_call 12; refine (frRight_q false ID false ((m : Int) + 1) A7 (m + 1) c7 _ false (by rw [hrm.out]; simp; omega)).mono ?_; rintro e w9 ⟨rfl, hB9⟩))
      all_goals
        have hF9 : w9.heap[w.heap.size]? = some (.cells #[.bool false, .int .i64 ID, .bool false, .int .i64 m, .slice A m c] 24) := by repeat (first | assumption | exact Below.refl _ _ | ((with_reducible refine lit2 _ _ _ _ _ ?_); (first | (with_reducible rfl) | (simp; done))) | ((with_reducible refine lit1 _ _ _ _ ?_); (first | (with_reducible rfl) | (simp; done))) | refine row_step (by first | assumption | exact below_alloc1 _ _ | exact below_drew1 _ | exact below_drewN0 _ _) ?_ | refine block_below (by first | assumption | exact below_alloc1 _ _ | exact below_drew1 _ | exact below_drewN0 _ _) ?_ | refine below_then ?_ (by first | assumption | exact below_alloc1 _ _ | exact below_drew1 _ | exact below_drewN0 _ _))
        have hG9 : w9.heap[w4.heap.size]? = some (.cells #[.bool false, .int .i64 ID, .bool false, .int .i64 ((m : Int) + 1), .slice A7 (m + 1) c7] 24) := by repeat (first | assumption | exact Below.refl _ _ | ((with_reducible refine lit2 _ _ _ _ _ ?_); (first | (with_reducible rfl) | (simp; done))) | ((with_reducible refine lit1 _ _ _ _ ?_); (first | (with_reducible rfl) | (simp; done))) | refine row_step (by first | assumption | exact below_alloc1 _ _ | exact below_drew1 _ | exact below_drewN0 _ _) ?_ | refine block_below (by first | assumption | exact below_alloc1 _ _ | exact below_drew1 _ | exact below_drewN0 _ _) ?_ | refine below_then ?_ (by first | assumption | exact below_alloc1 _ _ | exact below_drew1 _ | exact below_drewN0 _ _))
        obtain ⟨c0, c1, c2, c3, c5⟩ := cells5' hF9
        obtain ⟨e0, e1, e2, e3, e4⟩ := cells5' hG9
        go_wp2_with fail
        go_ret
        exact ⟨rfl, hall.trans (Below.mono (B := w8.heap.size) (by repeat (first | assumption | exact Below.refl _ _ | ((with_reducible refine lit2 _ _ _ _ _ ?_); (first | (with_reducible rfl) | (simp; done))) | ((with_reducible refine lit1 _ _ _ _ ?_); (first | (with_reducible rfl) | (simp; done))) | refine row_step (by first | assumption | exact below_alloc1 _ _ | exact below_drew1 _ | exact below_drewN0 _ _) ?_ | refine block_below (by first | assumption | exact below_alloc1 _ _ | exact below_drew1 _ | exact below_drewN0 _ _) ?_ | refine below_then ?_ (by first | assumption | exact below_alloc1 _ _ | exact below_drew1 _ | exact below_drewN0 _ _))) hall.size)⟩
    have q1 : decide ((m : Int) < 8) = true := by simp; omega
    have q2 : ((m : Int) == 8) = false := by simp; omega
    have q3 : (m == 8) = false := by simp; omega
    go_region_held3 (fun W => W.cell? ⟨w.heap.size, 0, none⟩ = some (.bool false) ∧ W.cell? ⟨w.heap.size, 1, none⟩ = some (.int .i64 ID) ∧ W.cell? ⟨w.heap.size, 2, none⟩ = some (.bool false) ∧ W.cell? ⟨w.heap.size, 3, none⟩ = some (.int .i64 m) ∧ W.cell? ⟨w.heap.size, 4, none⟩ = some (.slice A m c) ∧ W.cell? ⟨w4.heap.size, 0, none⟩ = some (.bool false) ∧ W.cell? ⟨w4.heap.size, 1, none⟩ = some (.int .i64 ID) ∧ W.cell? ⟨w4.heap.size, 2, none⟩ = some (.bool false) ∧ W.cell? ⟨w4.heap.size, 3, none⟩ = some (.int .i64 ((m : Int) + 1)) ∧ W.cell? ⟨w4.heap.size, 4, none⟩ = some (.slice A7 (m + 1) c7))
      (exact cells10 (by repeat (first | assumption | exact Below.refl _ _ | ((with_reducible refine lit2 _ _ _ _ _ ?_); (first | (with_reducible rfl) | (simp; done))) | ((with_reducible refine lit1 _ _ _ _ ?_); (first | (with_reducible rfl) | (simp; done))) | refine row_step (by first | assumption | exact below_alloc1 _ _ | exact below_drew1 _ | exact below_drewN0 _ _) ?_ | refine block_below (by first | assumption | exact below_alloc1 _ _ | exact below_drew1 _ | exact below_drewN0 _ _) ?_ | refine below_then ?_ (by first | assumption | exact below_alloc1 _ _ | exact below_drew1 _ | exact below_drewN0 _ _))) (by repeat (first | assumption | exact Below.refl _ _ | ((with_reducible refine lit2 _ _ _ _ _ ?_); (first | (with_reducible rfl) | (simp; done))) | ((with_reducible refine lit1 _ _ _ _ ?_); (first | (with_reducible rfl) | (simp; done))) | refine row_step (by first | assumption | exact below_alloc1 _ _ | exact below_drew1 _ | exact below_drewN0 _ _) ?_ | refine block_below (by first | assumption | exact below_alloc1 _ _ | exact below_drew1 _ | exact below_drewN0 _ _) ?_ | refine below_then ?_ (by first | assumption | exact below_alloc1 _ _ | exact below_drew1 _ | exact below_drewN0 _ _))))
      (first
        | (go_at_call 12; refine (frRight_q false ID false ((m : Int) + 1) A7 (m + 1) c7 _ true (by rw [hrm.out]; simp; omega)).mono ?_; rintro e w9 ⟨rfl, hB9⟩))
    all_goals
      have hF9 : w9.heap[w.heap.size]? = some (.cells #[.bool false, .int .i64 ID, .bool false, .int .i64 m, .slice A m c] 24) := by repeat (first | assumption | exact Below.refl _ _ | ((with_reducible refine lit2 _ _ _ _ _ ?_); (first | (with_reducible rfl) | (simp; done))) | ((with_reducible refine lit1 _ _ _ _ ?_); (first | (with_reducible rfl) | (simp; done))) | refine row_step (by first | assumption | exact below_alloc1 _ _ | exact below_drew1 _ | exact below_drewN0 _ _) ?_ | refine block_below (by first | assumption | exact below_alloc1 _ _ | exact below_drew1 _ | exact below_drewN0 _ _) ?_ | refine below_then ?_ (by first | assumption | exact below_alloc1 _ _ | exact below_drew1 _ | exact below_drewN0 _ _))
      have hG9 : w9.heap[w4.heap.size]? = some (.cells #[.bool false, .int .i64 ID, .bool false, .int .i64 ((m : Int) + 1), .slice A7 (m + 1) c7] 24) := by repeat (first | assumption | exact Below.refl _ _ | ((with_reducible refine lit2 _ _ _ _ _ ?_); (first | (with_reducible rfl) | (simp; done))) | ((with_reducible refine lit1 _ _ _ _ ?_); (first | (with_reducible rfl) | (simp; done))) | refine row_step (by first | assumption | exact below_alloc1 _ _ | exact below_drew1 _ | exact below_drewN0 _ _) ?_ | refine block_below (by first | assumption | exact below_alloc1 _ _ | exact below_drew1 _ | exact below_drewN0 _ _) ?_ | refine below_then ?_ (by first | assumption | exact below_alloc1 _ _ | exact below_drew1 _ | exact below_drewN0 _ _))
      obtain ⟨c0, c1, c2, c3, c5⟩ := cells5' hF9
      obtain ⟨e0, e1, e2, e3, e4⟩ := cells5' hG9
      go_wp2_with fail
      refine (head_at_i false ID false ((m : Int) + 1) (m + 1) (by omega) (dl ++ [(T : Int)]) (m + 1) HD2.out A7 c7 HID.out (by omega) _ (by repeat (first | assumption | exact Below.refl _ _ | ((with_reducible refine lit2 _ _ _ _ _ ?_); (first | (with_reducible rfl) | (simp; done))) | ((with_reducible refine lit1 _ _ _ _ ?_); (first | (with_reducible rfl) | (simp; done))) | refine row_step (by first | assumption | exact below_alloc1 _ _ | exact below_drew1 _ | exact below_drewN0 _ _) ?_ | refine block_below (by first | assumption | exact below_alloc1 _ _ | exact below_drew1 _ | exact below_drewN0 _ _) ?_ | refine below_then ?_ (by first | assumption | exact below_alloc1 _ _ | exact below_drew1 _ | exact below_drewN0 _ _))) HB2.out (by omega) (M + 8) HM2.out (N + 8) HN2.out).mono ?_
      rintro e w10 ⟨A10, c10, rfl, hr10, hc10, hB10⟩
      have l8 := headV_len' false ID false m dl HD.out HM8.out HN.out
      have l10 := headV_len' false ID false (m + 1) (dl ++ [(T : Int)]) HD2.out HM2.out HN2.out
      have r8 : Row .i64 w10 w10.heap.size A4 (headV false ID false m dl) := by repeat (first | assumption | exact Below.refl _ _ | ((with_reducible refine lit2 _ _ _ _ _ ?_); (first | (with_reducible rfl) | (simp; done))) | ((with_reducible refine lit1 _ _ _ _ ?_); (first | (with_reducible rfl) | (simp; done))) | refine row_step (by first | assumption | exact below_alloc1 _ _ | exact below_drew1 _ | exact below_drewN0 _ _) ?_ | refine block_below (by first | assumption | exact below_alloc1 _ _ | exact below_drew1 _ | exact below_drewN0 _ _) ?_ | refine below_then ?_ (by first | assumption | exact below_alloc1 _ _ | exact below_drew1 _ | exact below_drewN0 _ _))
      obtain ⟨ad4, rfl⟩ := r8.some_ (by rw [l8]; omega)
      obtain ⟨ad10, rfl⟩ := hr10.some_ (by rw [l10]; omega)
      have y8 := r8.sub_ 0 15 (by omega) (by rw [l8]; omega) (A' := some ad4) (fun _ => by simp [Addr.add])
      have y10 := hr10.sub_ 0 15 (by omega) (by rw [l10]; omega) (A' := some ad10) (fun _ => by simp [Addr.add])
      rw [Nat.sub_zero, List.drop_zero, headV_front _ _ _ _ _ (k := 15) rfl] at y8 y10
      have x8 := r8.sub_ 19 N (by omega) (by rw [l8]; omega) (A' := some (ad4.add 19)) (fun _ => rfl)
      have x10 := hr10.sub_ 19 N (by omega) (by rw [l10]; omega) (A' := some (ad10.add 19)) (fun _ => rfl)
      have hNM2 : N - 19 = M := by have := HNM.out; have := HM8.out; omega
      rw [headV_data _ _ _ _ _ (k := 19) rfl, hNM2, List.take_of_length_le (by rw [spreadL_len, HD.out, HM8.out]; omega)] at x8
      rw [headV_data _ _ _ _ _ (k := 19) rfl, hNM2, spreadL_app, List.take_left' (by rw [spreadL_len, HD.out, HM8.out])] at x10
      have LS := Lib.hid (show (spreadL dl).length = M by rw [spreadL_len, HD.out, HM8.out])
      have LP := Lib.hid (show (preV false ID false).length = 15 by have := preV_len false ID false; simp [hn] at this; omega)
      clear l8 l10 c0 c1 c2 c3 c5 e0 e1 e2 e3 e4
      have hend : Below w.heap.size w w10 := hall.trans (Below.mono (B := w8.heap.size) (by repeat (first | assumption | exact Below.refl _ _ | ((with_reducible refine lit2 _ _ _ _ _ ?_); (first | (with_reducible rfl) | (simp; done))) | ((with_reducible refine lit1 _ _ _ _ ?_); (first | (with_reducible rfl) | (simp; done))) | refine row_step (by first | assumption | exact below_alloc1 _ _ | exact below_drew1 _ | exact below_drewN0 _ _) ?_ | refine block_below (by first | assumption | exact below_alloc1 _ _ | exact below_drew1 _ | exact below_drewN0 _ _) ?_ | refine below_then ?_ (by first | assumption | exact below_alloc1 _ _ | exact below_drew1 _ | exact below_drewN0 _ _))) hall.size)
      have p1 : (15 : Int) ≤ (c10 : Int) := by omega
      have p2 : (15 : Int) ≤ (c4 : Int) := by omega
      have p3 : 15 ≤ c10 := by omega
      have p4 : 15 ≤ c4 := by omega
      have p5 : (19 : Int) ≤ (N : Int) := by omega
      have p6 : 19 ≤ N := by omega
      have p7 : (N : Int) ≤ (c10 : Int) := by omega
      have p8 : N ≤ c10 := by omega
      have p9 : (N : Int) ≤ (c4 : Int) := by omega
      have pa : ¬ c10 = 19 := by omega
      have pb : 19 ≤ c4 := by omega
      have pc : (19 : Int) ≤ (c4 : Int) := by omega
      have z1 : (((N + 8 : Nat) : Int) == (N : Int) + 8) = true := by simp
      have z2 : ((N : Int) + 8 == (N : Int) + 8) = true := by simp
      have wr1 : IntKind.i64.wrap ((N : Int) + 8) = (N : Int) + 8 := IntWalk.i64_in _ (by omega)
      have wr2 : IntKind.i64.wrap (19 - 4) = 15 := by decide
      have wr3 : IntKind.i64.wrap 15 = 15 := by decide
      clear hB9 hB10 hall
      by_cases pd : c4 = 19
      · have xe : Row .i64 w10 w10.heap.size (some ad4) (spreadL dl) := .inl (List.eq_nil_of_length_eq_zero (by rw [LS.out]; omega))
        subst pd
        go_wp2_with fail
        go_region_held3 (fun W => Below w10.heap.size w10 W) (repeat (first | assumption | exact Below.refl _ _ | ((with_reducible refine lit2 _ _ _ _ _ ?_); (first | (with_reducible rfl) | (simp; done))) | ((with_reducible refine lit1 _ _ _ _ ?_); (first | (with_reducible rfl) | (simp; done))) | refine row_step (by first | assumption | exact below_alloc1 _ _ | exact below_drew1 _ | exact below_drewN0 _ _) ?_ | refine block_below (by first | assumption | exact below_alloc1 _ _ | exact below_drew1 _ | exact below_drewN0 _ _) ?_ | refine below_then ?_ (by first | assumption | exact below_alloc1 _ _ | exact below_drew1 _ | exact below_drewN0 _ _)))
          (first
            | (go_at_call 16; have hq_ := hBs1; clear hq_; refine (same_q (spreadL dl) (spreadL dl) M M LS.out LS.out _ _ _ _ _ (by repeat (first | assumption | exact Below.refl _ _ | ((with_reducible refine lit2 _ _ _ _ _ ?_); (first | (with_reducible rfl) | (simp; done))) | ((with_reducible refine lit1 _ _ _ _ ?_); (first | (with_reducible rfl) | (simp; done))) | refine row_step (by first | assumption | exact below_alloc1 _ _ | exact below_drew1 _ | exact below_drewN0 _ _) ?_ | refine block_below (by first | assumption | exact below_alloc1 _ _ | exact below_drew1 _ | exact below_drewN0 _ _) ?_ | refine below_then ?_ (by first | assumption | exact below_alloc1 _ _ | exact below_drew1 _ | exact below_drewN0 _ _))) (by repeat (first | assumption | exact Below.refl _ _ | ((with_reducible refine lit2 _ _ _ _ _ ?_); (first | (with_reducible rfl) | (simp; done))) | ((with_reducible refine lit1 _ _ _ _ ?_); (first | (with_reducible rfl) | (simp; done))) | refine row_step (by first | assumption | exact below_alloc1 _ _ | exact below_drew1 _ | exact below_drewN0 _ _) ?_ | refine block_below (by first | assumption | exact below_alloc1 _ _ | exact below_drew1 _ | exact below_drewN0 _ _) ?_ | refine below_then ?_ (by first | assumption | exact below_alloc1 _ _ | exact below_drew1 _ | exact below_drewN0 _ _))) (by unfold maxLen; omega) true (by simp [sameB])).mono ?_; rintro e w12 ⟨rfl, hBs2⟩)
            | (go_at_call 16; refine (same_q (preV false ID false) (preV false ID false) 15 15 LP.out LP.out _ _ _ _ _ (by repeat (first | assumption | exact Below.refl _ _ | ((with_reducible refine lit2 _ _ _ _ _ ?_); (first | (with_reducible rfl) | (simp; done))) | ((with_reducible refine lit1 _ _ _ _ ?_); (first | (with_reducible rfl) | (simp; done))) | refine row_step (by first | assumption | exact below_alloc1 _ _ | exact below_drew1 _ | exact below_drewN0 _ _) ?_ | refine block_below (by first | assumption | exact below_alloc1 _ _ | exact below_drew1 _ | exact below_drewN0 _ _) ?_ | refine below_then ?_ (by first | assumption | exact below_alloc1 _ _ | exact below_drew1 _ | exact below_drewN0 _ _))) (by repeat (first | assumption | exact Below.refl _ _ | ((with_reducible refine lit2 _ _ _ _ _ ?_); (first | (with_reducible rfl) | (simp; done))) | ((with_reducible refine lit1 _ _ _ _ ?_); (first | (with_reducible rfl) | (simp; done))) | refine row_step (by first | assumption | exact below_alloc1 _ _ | exact below_drew1 _ | exact below_drewN0 _ _) ?_ | refine block_below (by first | assumption | exact below_alloc1 _ _ | exact below_drew1 _ | exact below_drewN0 _ _) ?_ | refine below_then ?_ (by first | assumption | exact below_alloc1 _ _ | exact below_drew1 _ | exact below_drewN0 _ _))) (by unfold maxLen; omega) true (by simp [sameB])).mono ?_; rintro e w11 ⟨rfl, hBs1⟩))
        all_goals
          go_wp2_with fail
          go_ret
          exact ⟨rfl, hend.trans (Below.mono (B := w10.heap.size) (by repeat (first | assumption | exact Below.refl _ _ | ((with_reducible refine lit2 _ _ _ _ _ ?_); (first | (with_reducible rfl) | (simp; done))) | ((with_reducible refine lit1 _ _ _ _ ?_); (first | (with_reducible rfl) | (simp; done))) | refine row_step (by first | assumption | exact below_alloc1 _ _ | exact below_drew1 _ | exact below_drewN0 _ _) ?_ | refine block_below (by first | assumption | exact below_alloc1 _ _ | exact below_drew1 _ | exact below_drewN0 _ _) ?_ | refine below_then ?_ (by first | assumption | exact below_alloc1 _ _ | exact below_drew1 _ | exact below_drewN0 _ _))) hend.size)⟩
      · skip
        go_wp2_with fail
        go_region_held3 (fun W => Below w10.heap.size w10 W) (repeat (first | assumption | exact Below.refl _ _ | ((with_reducible refine lit2 _ _ _ _ _ ?_); (first | (with_reducible rfl) | (simp; done))) | ((with_reducible refine lit1 _ _ _ _ ?_); (first | (with_reducible rfl) | (simp; done))) | refine row_step (by first | assumption | exact below_alloc1 _ _ | exact below_drew1 _ | exact below_drewN0 _ _) ?_ | refine block_below (by first | assumption | exact below_alloc1 _ _ | exact below_drew1 _ | exact below_drewN0 _ _) ?_ | refine below_then ?_ (by first | assumption | exact below_alloc1 _ _ | exact below_drew1 _ | exact below_drewN0 _ _)))
          (first
            | (go_at_call 16; have hq_ := hBs1; clear hq_; refine (same_q (spreadL dl) (spreadL dl) M M LS.out LS.out _ _ _ _ _ (by repeat (first | assumption | exact Below.refl _ _ | ((with_reducible refine lit2 _ _ _ _ _ ?_); (first | (with_reducible rfl) | (simp; done))) | ((with_reducible refine lit1 _ _ _ _ ?_); (first | (with_reducible rfl) | (simp; done))) | refine row_step (by first | assumption | exact below_alloc1 _ _ | exact below_drew1 _ | exact below_drewN0 _ _) ?_ | refine block_below (by first | assumption | exact below_alloc1 _ _ | exact below_drew1 _ | exact below_drewN0 _ _) ?_ | refine below_then ?_ (by first | assumption | exact below_alloc1 _ _ | exact below_drew1 _ | exact below_drewN0 _ _))) (by repeat (first | assumption | exact Below.refl _ _ | ((with_reducible refine lit2 _ _ _ _ _ ?_); (first | (with_reducible rfl) | (simp; done))) | ((with_reducible refine lit1 _ _ _ _ ?_); (first | (with_reducible rfl) | (simp; done))) | refine row_step (by first | assumption | exact below_alloc1 _ _ | exact below_drew1 _ | exact below_drewN0 _ _) ?_ | refine block_below (by first | assumption | exact below_alloc1 _ _ | exact below_drew1 _ | exact below_drewN0 _ _) ?_ | refine below_then ?_ (by first | assumption | exact below_alloc1 _ _ | exact below_drew1 _ | exact below_drewN0 _ _))) (by unfold maxLen; omega) true (by simp [sameB])).mono ?_; rintro e w12 ⟨rfl, hBs2⟩)
            | (go_at_call 16; refine (same_q (preV false ID false) (preV false ID false) 15 15 LP.out LP.out _ _ _ _ _ (by repeat (first | assumption | exact Below.refl _ _ | ((with_reducible refine lit2 _ _ _ _ _ ?_); (first | (with_reducible rfl) | (simp; done))) | ((with_reducible refine lit1 _ _ _ _ ?_); (first | (with_reducible rfl) | (simp; done))) | refine row_step (by first | assumption | exact below_alloc1 _ _ | exact below_drew1 _ | exact below_drewN0 _ _) ?_ | refine block_below (by first | assumption | exact below_alloc1 _ _ | exact below_drew1 _ | exact below_drewN0 _ _) ?_ | refine below_then ?_ (by first | assumption | exact below_alloc1 _ _ | exact below_drew1 _ | exact below_drewN0 _ _))) (by repeat (first | assumption | exact Below.refl _ _ | ((with_reducible refine lit2 _ _ _ _ _ ?_); (first | (with_reducible rfl) | (simp; done))) | ((with_reducible refine lit1 _ _ _ _ ?_); (first | (with_reducible rfl) | (simp; done))) | refine row_step (by first | assumption | exact below_alloc1 _ _ | exact below_drew1 _ | exact below_drewN0 _ _) ?_ | refine block_below (by first | assumption | exact below_alloc1 _ _ | exact below_drew1 _ | exact below_drewN0 _ _) ?_ | refine below_then ?_ (by first | assumption | exact below_alloc1 _ _ | exact below_drew1 _ | exact below_drewN0 _ _))) (by unfold maxLen; omega) true (by simp [sameB])).mono ?_; rintro e w11 ⟨rfl, hBs1⟩))
        all_goals
          go_wp2_with fail
          go_ret
          exact ⟨rfl, hend.trans (Below.mono (B := w10.heap.size) (by repeat (first | assumption | exact Below.refl _ _ | ((with_reducible refine lit2 _ _ _ _ _ ?_); (first | (with_reducible rfl) | (simp; done))) | ((with_reducible refine lit1 _ _ _ _ ?_); (first | (with_reducible rfl) | (simp; done))) | refine row_step (by first | assumption | exact below_alloc1 _ _ | exact below_drew1 _ | exact below_drewN0 _ _) ?_ | refine block_below (by first | assumption | exact below_alloc1 _ _ | exact below_drew1 _ | exact below_drewN0 _ _) ?_ | refine below_then ?_ (by first | assumption | exact below_alloc1 _ _ | exact below_drew1 _ | exact below_drewN0 _ _))) hend.size)⟩
  · obtain rfl : K = 39 := HK.out.symm
    have HID : Veil (idOk true ID) := ⟨hID⟩
    clear hID H3
    go_wp2_with fail
    refine (head_at true ID r L dl m HD.out A c HID.out hL _ (by repeat (first | assumption | exact Below.refl _ _ | ((with_reducible refine lit2 _ _ _ _ _ ?_); (first | (with_reducible rfl) | (simp; done))) | ((with_reducible refine lit1 _ _ _ _ ?_); (first | (with_reducible rfl) | (simp; done))) | refine row_step (by first | assumption | exact below_alloc1 _ _ | exact below_drew1 _ | exact below_drewN0 _ _) ?_ | refine block_below (by first | assumption | exact below_alloc1 _ _ | exact below_drew1 _ | exact below_drewN0 _ _) ?_ | refine below_then ?_ (by first | assumption | exact below_alloc1 _ _ | exact below_drew1 _ | exact below_drewN0 _ _))) HB.out (by omega) M HM8.out N HN.out).mono ?_
    rintro e w4 ⟨A4, c4, rfl, hr4, hc4, hB4⟩
    clear c0 c1 c2 c3
    have hF4 : w4.heap[w.heap.size]? = some (.cells #[.bool true, .int .i64 ID, .bool r, .int .i64 L, .slice A m c] 24) := by repeat (first | assumption | exact Below.refl _ _ | ((with_reducible refine lit2 _ _ _ _ _ ?_); (first | (with_reducible rfl) | (simp; done))) | ((with_reducible refine lit1 _ _ _ _ ?_); (first | (with_reducible rfl) | (simp; done))) | refine row_step (by first | assumption | exact below_alloc1 _ _ | exact below_drew1 _ | exact below_drewN0 _ _) ?_ | refine block_below (by first | assumption | exact below_alloc1 _ _ | exact below_drew1 _ | exact below_drewN0 _ _) ?_ | refine below_then ?_ (by first | assumption | exact below_alloc1 _ _ | exact below_drew1 _ | exact below_drewN0 _ _))
    obtain ⟨c0, c1, c2, c3, c5⟩ := cells5' hF4
    have t1 : ((N : Int) != 39 + 8 * (m : Int)) = false := by rw [HNM.out]; simp
    have t2 : ((N : Int) == 39 + 8 * (m : Int)) = true := by rw [HNM.out]; simp
    obtain ⟨e0, e1, e2, e3, e4⟩ := cells5' (block_below (below_alloc1 w4 (.cells #[.bool true, .int .i64 ID, .bool r, .int .i64 L, .slice A m c] 24)) hF4)
    have hlt4 : w.heap.size < w4.heap.size := (Array.getElem?_eq_some_iff.1 hF4).1
    have gG5 : (w4.alloc (.cells #[.bool true, .int .i64 ID, .bool r, .int .i64 L, .slice A m c] 24)).heap[w4.heap.size]? = some (.cells #[.bool true, .int .i64 ID, .bool r, .int .i64 L, .slice A m c] 24) := World.alloc_heap_new _ _
    have o5 : ((w4.alloc (.cells #[.bool true, .int .i64 ID, .bool r, .int .i64 L, .slice A m c] 24)).alloc (.cells #[] 5)).ownsRow (w4.heap.size + 1) 5 1 (.slice (some ⟨w4.heap.size + 1, 0, none⟩) 0 0) 0 (([] : List Int).map (Value.int .u8)) := by have := own_lit (w4.alloc (.cells #[.bool true, .int .i64 ID, .bool r, .int .i64 L, .slice A m c] 24)) .u8 [] 0 rfl 5 (cs := #[]) rfl (by decide); simpa using this
    have f5 : ((w4.alloc (.cells #[.bool true, .int .i64 ID, .bool r, .int .i64 L, .slice A m c] 24)).alloc (.cells #[] 5)).heap[w.heap.size]? = some (.cells #[.bool true, .int .i64 ID, .bool r, .int .i64 L, .slice A m c] 24) := by repeat (first | assumption | exact Below.refl _ _ | ((with_reducible refine lit2 _ _ _ _ _ ?_); (first | (with_reducible rfl) | (simp; done))) | ((with_reducible refine lit1 _ _ _ _ ?_); (first | (with_reducible rfl) | (simp; done))) | refine row_step (by first | assumption | exact below_alloc1 _ _ | exact below_drew1 _ | exact below_drewN0 _ _) ?_ | refine block_below (by first | assumption | exact below_alloc1 _ _ | exact below_drew1 _ | exact below_drewN0 _ _) ?_ | refine below_then ?_ (by first | assumption | exact below_alloc1 _ _ | exact below_drew1 _ | exact below_drewN0 _ _))
    have g5 : ((w4.alloc (.cells #[.bool true, .int .i64 ID, .bool r, .int .i64 L, .slice A m c] 24)).alloc (.cells #[] 5)).heap[w4.heap.size]? = some (.cells #[.bool true, .int .i64 ID, .bool r, .int .i64 L, .slice A m c] 24) := by repeat (first | assumption | exact Below.refl _ _ | ((with_reducible refine lit2 _ _ _ _ _ ?_); (first | (with_reducible rfl) | (simp; done))) | ((with_reducible refine lit1 _ _ _ _ ?_); (first | (with_reducible rfl) | (simp; done))) | refine row_step (by first | assumption | exact below_alloc1 _ _ | exact below_drew1 _ | exact below_drewN0 _ _) ?_ | refine block_below (by first | assumption | exact below_alloc1 _ _ | exact below_drew1 _ | exact below_drewN0 _ _) ?_ | refine below_then ?_ (by first | assumption | exact below_alloc1 _ _ | exact below_drew1 _ | exact below_drewN0 _ _))
    have d5 : Row .u8 ((w4.alloc (.cells #[.bool true, .int .i64 ID, .bool r, .int .i64 L, .slice A m c] 24)).alloc (.cells #[] 5)) ((w4.alloc (.cells #[.bool true, .int .i64 ID, .bool r, .int .i64 L, .slice A m c] 24)).alloc (.cells #[] 5)).heap.size A dl := by repeat (first | assumption | exact Below.refl _ _ | ((with_reducible refine lit2 _ _ _ _ _ ?_); (first | (with_reducible rfl) | (simp; done))) | ((with_reducible refine lit1 _ _ _ _ ?_); (first | (with_reducible rfl) | (simp; done))) | refine row_step (by first | assumption | exact below_alloc1 _ _ | exact below_drew1 _ | exact below_drewN0 _ _) ?_ | refine block_below (by first | assumption | exact below_alloc1 _ _ | exact below_drew1 _ | exact below_drewN0 _ _) ?_ | refine below_then ?_ (by first | assumption | exact below_alloc1 _ _ | exact below_drew1 _ | exact below_drewN0 _ _))
    obtain ⟨u0, u1, u2, u3, u4⟩ := cells5' f5
    go_wp2_with (first
      | (at_builtin; have hq_ := hown6; clear hq_; refine wpList_append_row _ .u8 rfl _ _ 22 rfl (w4.heap.size + 1) 5 i0 (.int .u8 0) 1 Try.underlying22 hi hz0 hz1 hz2 rfl _ m dl rfl own6 _ 1 1 _ [(T : Int)] rfl rfl l6 (by unfold maxLen; omega) (by omega) (by first | (simp; done) | (simp; omega)) ?_; intro A7 c7 w7 hown7 hc7 hB7; have hF7 := (hB7.block w.heap.size (by omega)).trans (block_below (below_alloc1 w6 (.cells #[.int .u8 T] 5)) hF6); have hG7 := (hB7.block w4.heap.size (by omega)).trans (block_below (below_alloc1 w6 (.cells #[.int .u8 T] 5)) hG6); obtain ⟨⟨a0, a1, a2, a3, a4⟩, b0, b1, b2, b3, b4⟩ := cells5 hG7; obtain ⟨⟨r0, r1, r2, r3, r4⟩, v0, v1, v2, v3, v4⟩ := cells5 hF7)
      | (at_builtin; (refine wpList_append_row _ .u8 rfl _ _ 22 rfl (w4.heap.size + 1) 5 i0 (.int .u8 0) 1 Try.underlying22 hi hz0 hz1 hz2 rfl _ 0 [] rfl o5 A m c _ dl rfl HD.out d5 (by unfold maxLen; omega) (by omega) (by first | (simp; done) | (simp; omega)) ?_; intro A6 c6 w6 hown6 hc6 hB6; rw [Nat.zero_add, List.nil_append] at hown6; have hs6 : w4.heap.size + 1 ≤ w6.heap.size := (by have := hB6.size; simp at this; omega); have hF6 := (hB6.block w.heap.size (by omega)).trans f5; have hG6 := (hB6.block w4.heap.size (by omega)).trans g5; have l6 := lit1 w6 .u8 (T : Int) 5 rfl; have own6 := own_to hown6 (below_alloc1 w6 (.cells #[.int .u8 T] 5)))))
    obtain ⟨w8, hw8⟩ : ∃ w8, (w7.setCell ⟨w4.heap.size, 4, none⟩ (.slice A7 (m + 1) c7)).setCell ⟨w4.heap.size, 3, none⟩ (.int .i64 ((L : Int) + 1)) = w8 := ⟨_, rfl⟩
    have hG8 : w8.heap[w4.heap.size]? = some (.cells #[.bool true, .int .i64 ID, .bool r, .int .i64 ((L : Int) + 1), .slice A7 (m + 1) c7] 24) := by rw [← hw8]; exact set_3 (set_4 hG7 _) _
    have hF8 : w8.heap[w.heap.size]? = some (.cells #[.bool true, .int .i64 ID, .bool r, .int .i64 L, .slice A m c] 24) := by rw [← hw8]; exact obj_to (obj_to hF7 (grown_setAt w7 w4.heap.size 4 _) (by omega)) (grown_setAt _ w4.heap.size 3 _) (by omega)
    have k7 : (Value.slice A7 (m + 1) c7).ownBlock ≠ some w4.heap.size := fun e => by have := (hown7.lt _ e).1; omega
    have hD8 : Row .u8 w8 w8.heap.size A7 (dl ++ [(T : Int)]) := by rw [← hw8]; exact Row.own ((hown7.kept (grown_setAt w7 w4.heap.size 4 _) (.inr k7)).kept (grown_setAt _ w4.heap.size 3 _) (.inr k7))
    have hB48 : Below w4.heap.size w4 w8 := by rw [← hw8]; exact (((((((below_alloc1 w4 _).trans ((below_alloc1 _ _).mono (by simp))).trans (hB6.mono (by omega))).trans ((below_alloc1 w6 _).mono (by omega))).trans (hB7.mono (by omega))).setCell (p := ⟨w4.heap.size, 4, none⟩) (Nat.le_refl _) _).setCell (p := ⟨w4.heap.size, 3, none⟩) (Nat.le_refl _) _)
    rw [hw8]
    have hr8 : Row .i64 w8 w8.heap.size A4 (headV true ID r L dl) := hr4.to hB48
    have hall : Below w.heap.size w w8 := by repeat (first | assumption | exact Below.refl _ _ | ((with_reducible refine lit2 _ _ _ _ _ ?_); (first | (with_reducible rfl) | (simp; done))) | ((with_reducible refine lit1 _ _ _ _ ?_); (first | (with_reducible rfl) | (simp; done))) | refine row_step (by first | assumption | exact below_alloc1 _ _ | exact below_drew1 _ | exact below_drewN0 _ _) ?_ | refine block_below (by first | assumption | exact below_alloc1 _ _ | exact below_drew1 _ | exact below_drewN0 _ _) ?_ | refine below_then ?_ (by first | assumption | exact below_alloc1 _ _ | exact below_drew1 _ | exact below_drewN0 _ _))
    clear hw8 hown7 k7 hown6 own6 l6 hB6 hB7 hF6 hG6 hF7 hG7 o5 f5 g5 d5 gG5 hr4 hB0 hB1 hB2 hB3 hB4 hB48 a0 a1 a2 a3 a4 b0 b1 b2 b3 b4 r0 r1 r2 r3 r4 v0 v1 v2 v3 v4 u0 u1 u2 u3 u4 e0 e1 e2 e3 e4 c0 c1 c2 c3 c5 t1 t2 hs6
    cases r
    rotate_left
    · obtain ⟨c0, c1, c2, c3, c5⟩ := cells5' hF8
      obtain ⟨e0, e1, e2, e3, e4⟩ := cells5' hG8
      first | (go_region_with (first | (go_at_call 12; refine (frRight_q true ID true ((L : Int) + 1) A7 (m + 1) c7 _ false (by rw [hrm.out]; rfl)).mono ?_; rintro e w9 ⟨rfl, hB9⟩; have hF9 : w9.heap[w.heap.size]? = some (.cells #[.bool true, .int .i64 ID, .bool true, .int .i64 L, .slice A m c] 24) := (by repeat (first | assumption | exact Below.refl _ _ | ((with_reducible refine lit2 _ _ _ _ _ ?_); (first | (with_reducible rfl) | (simp; done))) | ((with_reducible refine lit1 _ _ _ _ ?_); (first | (with_reducible rfl) | (simp; done))) | refine row_step (by first | assumption | exact below_alloc1 _ _ | exact below_drew1 _ | exact below_drewN0 _ _) ?_ | refine block_below (by first | assumption | exact below_alloc1 _ _ | exact below_drew1 _ | exact below_drewN0 _ _) ?_ | refine below_then ?_ (by first | assumption | exact below_alloc1 _ _ | exact below_drew1 _ | exact below_drewN0 _ _))); obtain ⟨x0, x1, x2, x3, x4⟩ := cells5' hF9))) | fail
      all_goals
        clear c0 c1 c2 c3 c5 e0 e1 e2 e3 e4
        go_wp2_with fail
        go_ret
        exact ⟨rfl, hall.trans (Below.mono (B := w8.heap.size) (by repeat (first | assumption | exact Below.refl _ _ | ((with_reducible refine lit2 _ _ _ _ _ ?_); (first | (with_reducible rfl) | (simp; done))) | ((with_reducible refine lit1 _ _ _ _ ?_); (first | (with_reducible rfl) | (simp; done))) | refine row_step (by first | assumption | exact below_alloc1 _ _ | exact below_drew1 _ | exact below_drewN0 _ _) ?_ | refine block_below (by first | assumption | exact below_alloc1 _ _ | exact below_drew1 _ | exact below_drewN0 _ _) ?_ | refine below_then ?_ (by first | assumption | exact below_alloc1 _ _ | exact below_drew1 _ | exact below_drewN0 _ _))) hall.size)⟩
    obtain rfl : m = L := HMr.out
    by_cases h8 : m < 8
    rotate_left
    · have q1 : decide ((m : Int) < 8) = false := by simp; omega
      have q2 : ((m : Int) == 8) = true := by simp; omega
      have q3 : (m == 8) = true := by simp; omega
      go_region_held3 (fun W => W.cell? ⟨w.heap.size, 0, none⟩ = some (.bool true) ∧ W.cell? ⟨w.heap.size, 1, none⟩ = some (.int .i64 ID) ∧ W.cell? ⟨w.heap.size, 2, none⟩ = some (.bool false) ∧ W.cell? ⟨w.heap.size, 3, none⟩ = some (.int .i64 m) ∧ W.cell? ⟨w.heap.size, 4, none⟩ = some (.slice A m c) ∧ W.cell? ⟨w4.heap.size, 0, none⟩ = some (.bool true) ∧ W.cell? ⟨w4.heap.size, 1, none⟩ = some (.int .i64 ID) ∧ W.cell? ⟨w4.heap.size, 2, none⟩ = some (.bool false) ∧ W.cell? ⟨w4.heap.size, 3, none⟩ = some (.int .i64 ((m : Int) + 1)) ∧ W.cell? ⟨w4.heap.size, 4, none⟩ = some (.slice A7 (m + 1) c7))
        (exact cells10 (by repeat (first | assumption | exact Below.refl _ _ | ((with_reducible refine lit2 _ _ _ _ _ ?_); (first | (with_reducible rfl) | (simp; done))) | ((with_reducible refine lit1 _ _ _ _ ?_); (first | (with_reducible rfl) | (simp; done))) | refine row_step (by first | assumption | exact below_alloc1 _ _ | exact below_drew1 _ | exact below_drewN0 _ _) ?_ | refine block_below (by first | assumption | exact below_alloc1 _ _ | exact below_drew1 _ | exact below_drewN0 _ _) ?_ | refine below_then ?_ (by first | assumption | exact below_alloc1 _ _ | exact below_drew1 _ | exact below_drewN0 _ _))) (by repeat (first | assumption | exact Below.refl _ _ | ((with_reducible refine lit2 _ _ _ _ _ ?_); (first | (with_reducible rfl) | (simp; done))) | ((with_reducible refine lit1 _ _ _ _ ?_); (first | (with_reducible rfl) | (simp; done))) | refine row_step (by first | assumption | exact below_alloc1 _ _ | exact below_drew1 _ | exact below_drewN0 _ _) ?_ | refine block_below (by first | assumption | exact below_alloc1 _ _ | exact below_drew1 _ | exact below_drewN0 _ _) ?_ | refine below_then ?_ (by first | assumption | exact below_alloc1 _ _ | exact below_drew1 _ | exact below_drewN0 _ _))))
        (first
          | (go_at_call 12; refine (frRight_q true ID false ((m : Int) + 1) A7 (m + 1) c7 _ false (by rw [hrm.out]; simp; omega)).mono ?_; rintro e w9 ⟨rfl, hB9⟩))
      all_goals
        have hF9 : w9.heap[w.heap.size]? = some (.cells #[.bool true, .int .i64 ID, .bool false, .int .i64 m, .slice A m c] 24) := by repeat (first | assumption | exact Below.refl _ _ | ((with_reducible refine lit2 _ _ _ _ _ ?_); (first | (with_reducible rfl) | (simp; done))) | ((with_reducible refine lit1 _ _ _ _ ?_); (first | (with_reducible rfl) | (simp; done))) | refine row_step (by first | assumption | exact below_alloc1 _ _ | exact below_drew1 _ | exact below_drewN0 _ _) ?_ | refine block_below (by first | assumption | exact below_alloc1 _ _ | exact below_drew1 _ | exact below_drewN0 _ _) ?_ | refine below_then ?_ (by first | assumption | exact below_alloc1 _ _ | exact below_drew1 _ | exact below_drewN0 _ _))
        have hG9 : w9.heap[w4.heap.size]? = some (.cells #[.bool true, .int .i64 ID, .bool false, .int .i64 ((m : Int) + 1), .slice A7 (m + 1) c7] 24) := by repeat (first | assumption | exact Below.refl _ _ | ((with_reducible refine lit2 _ _ _ _ _ ?_); (first | (with_reducible rfl) | (simp; done))) | ((with_reducible refine lit1 _ _ _ _ ?_); (first | (with_reducible rfl) | (simp; done))) | refine row_step (by first | assumption | exact below_alloc1 _ _ | exact below_drew1 _ | exact below_drewN0 _ _) ?_ | refine block_below (by first | assumption | exact below_alloc1 _ _ | exact below_drew1 _ | exact below_drewN0 _ _) ?_ | refine below_then ?_ (by first | assumption | exact below_alloc1 _ _ | exact below_drew1 _ | exact below_drewN0 _ _))
        obtain ⟨c0, c1, c2, c3, c5⟩ := cells5' hF9
        obtain ⟨e0, e1, e2, e3, e4⟩ := cells5' hG9
        go_wp2_with fail
        go_ret
        exact ⟨rfl, hall.trans (Below.mono (B := w8.heap.size) (by repeat (first | assumption | exact Below.refl _ _ | ((with_reducible refine lit2 _ _ _ _ _ ?_); (first | (with_reducible rfl) | (simp; done))) | ((with_reducible refine lit1 _ _ _ _ ?_); (first | (with_reducible rfl) | (simp; done))) | refine row_step (by first | assumption | exact below_alloc1 _ _ | exact below_drew1 _ | exact below_drewN0 _ _) ?_ | refine block_below (by first | assumption | exact below_alloc1 _ _ | exact below_drew1 _ | exact below_drewN0 _ _) ?_ | refine below_then ?_ (by first | assumption | exact below_alloc1 _ _ | exact below_drew1 _ | exact below_drewN0 _ _))) hall.size)⟩
    have q1 : decide ((m : Int) < 8) = true := by simp; omega
    have q2 : ((m : Int) == 8) = false := by simp; omega
    have q3 : (m == 8) = false := by simp; omega
    go_region_held3 (fun W => W.cell? ⟨w.heap.size, 0, none⟩ = some (.bool true) ∧ W.cell? ⟨w.heap.size, 1, none⟩ = some (.int .i64 ID) ∧ W.cell? ⟨w.heap.size, 2, none⟩ = some (.bool false) ∧ W.cell? ⟨w.heap.size, 3, none⟩ = some (.int .i64 m) ∧ W.cell? ⟨w.heap.size, 4, none⟩ = some (.slice A m c) ∧ W.cell? ⟨w4.heap.size, 0, none⟩ = some (.bool true) ∧ W.cell? ⟨w4.heap.size, 1, none⟩ = some (.int .i64 ID) ∧ W.cell? ⟨w4.heap.size, 2, none⟩ = some (.bool false) ∧ W.cell? ⟨w4.heap.size, 3, none⟩ = some (.int .i64 ((m : Int) + 1)) ∧ W.cell? ⟨w4.heap.size, 4, none⟩ = some (.slice A7 (m + 1) c7))
      (exact cells10 (by repeat (first | assumption | exact Below.refl _ _ | ((with_reducible refine lit2 _ _ _ _ _ ?_); (first | (with_reducible rfl) | (simp; done))) | ((with_reducible refine lit1 _ _ _ _ ?_); (first | (with_reducible rfl) | (simp; done))) | refine row_step (by first | assumption | exact below_alloc1 _ _ | exact below_drew1 _ | exact below_drewN0 _ _) ?_ | refine block_below (by first | assumption | exact below_alloc1 _ _ | exact below_drew1 _ | exact below_drewN0 _ _) ?_ | refine below_then ?_ (by first | assumption | exact below_alloc1 _ _ | exact below_drew1 _ | exact below_drewN0 _ _))) (by repeat (first | assumption | exact Below.refl _ _ | ((with_reducible refine lit2 _ _ _ _ _ ?_); (first | (with_reducible rfl) | (simp; done))) | ((with_reducible refine lit1 _ _ _ _ ?_); (first | (with_reducible rfl) | (simp; done))) | refine row_step (by first | assumption | exact below_alloc1 _ _ | exact below_drew1 _ | exact below_drewN0 _ _) ?_ | refine block_below (by first | assumption | exact below_alloc1 _ _ | exact below_drew1 _ | exact below_drewN0 _ _) ?_ | refine below_then ?_ (by first | assumption | exact below_alloc1 _ _ | exact below_drew1 _ | exact below_drewN0 _ _))))
      (first
        | (go_at_call 12; refine (frRight_q true ID false ((m : Int) + 1) A7 (m + 1) c7 _ true (by rw [hrm.out]; simp; omega)).mono ?_; rintro e w9 ⟨rfl, hB9⟩))
    all_goals
      have hF9 : w9.heap[w.heap.size]? = some (.cells #[.bool true, .int .i64 ID, .bool false, .int .i64 m, .slice A m c] 24) := by repeat (first | assumption | exact Below.refl _ _ | ((with_reducible refine lit2 _ _ _ _ _ ?_); (first | (with_reducible rfl) | (simp; done))) | ((with_reducible refine lit1 _ _ _ _ ?_); (first | (with_reducible rfl) | (simp; done))) | refine row_step (by first | assumption | exact below_alloc1 _ _ | exact below_drew1 _ | exact below_drewN0 _ _) ?_ | refine block_below (by first | assumption | exact below_alloc1 _ _ | exact below_drew1 _ | exact below_drewN0 _ _) ?_ | refine below_then ?_ (by first | assumption | exact below_alloc1 _ _ | exact below_drew1 _ | exact below_drewN0 _ _))
      have hG9 : w9.heap[w4.heap.size]? = some (.cells #[.bool true, .int .i64 ID, .bool false, .int .i64 ((m : Int) + 1), .slice A7 (m + 1) c7] 24) := by repeat (first | assumption | exact Below.refl _ _ | ((with_reducible refine lit2 _ _ _ _ _ ?_); (first | (with_reducible rfl) | (simp; done))) | ((with_reducible refine lit1 _ _ _ _ ?_); (first | (with_reducible rfl) | (simp; done))) | refine row_step (by first | assumption | exact below_alloc1 _ _ | exact below_drew1 _ | exact below_drewN0 _ _) ?_ | refine block_below (by first | assumption | exact below_alloc1 _ _ | exact below_drew1 _ | exact below_drewN0 _ _) ?_ | refine below_then ?_ (by first | assumption | exact below_alloc1 _ _ | exact below_drew1 _ | exact below_drewN0 _ _))
      obtain ⟨c0, c1, c2, c3, c5⟩ := cells5' hF9
      obtain ⟨e0, e1, e2, e3, e4⟩ := cells5' hG9
      go_wp2_with fail
      refine (head_at_i true ID false ((m : Int) + 1) (m + 1) (by omega) (dl ++ [(T : Int)]) (m + 1) HD2.out A7 c7 HID.out (by omega) _ (by repeat (first | assumption | exact Below.refl _ _ | ((with_reducible refine lit2 _ _ _ _ _ ?_); (first | (with_reducible rfl) | (simp; done))) | ((with_reducible refine lit1 _ _ _ _ ?_); (first | (with_reducible rfl) | (simp; done))) | refine row_step (by first | assumption | exact below_alloc1 _ _ | exact below_drew1 _ | exact below_drewN0 _ _) ?_ | refine block_below (by first | assumption | exact below_alloc1 _ _ | exact below_drew1 _ | exact below_drewN0 _ _) ?_ | refine below_then ?_ (by first | assumption | exact below_alloc1 _ _ | exact below_drew1 _ | exact below_drewN0 _ _))) HB2.out (by omega) (M + 8) HM2.out (N + 8) HN2.out).mono ?_
      rintro e w10 ⟨A10, c10, rfl, hr10, hc10, hB10⟩
      have l8 := headV_len' true ID false m dl HD.out HM8.out HN.out
      have l10 := headV_len' true ID false (m + 1) (dl ++ [(T : Int)]) HD2.out HM2.out HN2.out
      have r8 : Row .i64 w10 w10.heap.size A4 (headV true ID false m dl) := by repeat (first | assumption | exact Below.refl _ _ | ((with_reducible refine lit2 _ _ _ _ _ ?_); (first | (with_reducible rfl) | (simp; done))) | ((with_reducible refine lit1 _ _ _ _ ?_); (first | (with_reducible rfl) | (simp; done))) | refine row_step (by first | assumption | exact below_alloc1 _ _ | exact below_drew1 _ | exact below_drewN0 _ _) ?_ | refine block_below (by first | assumption | exact below_alloc1 _ _ | exact below_drew1 _ | exact below_drewN0 _ _) ?_ | refine below_then ?_ (by first | assumption | exact below_alloc1 _ _ | exact below_drew1 _ | exact below_drewN0 _ _))
      obtain ⟨ad4, rfl⟩ := r8.some_ (by rw [l8]; omega)
      obtain ⟨ad10, rfl⟩ := hr10.some_ (by rw [l10]; omega)
      have y8 := r8.sub_ 0 35 (by omega) (by rw [l8]; omega) (A' := some ad4) (fun _ => by simp [Addr.add])
      have y10 := hr10.sub_ 0 35 (by omega) (by rw [l10]; omega) (A' := some ad10) (fun _ => by simp [Addr.add])
      rw [Nat.sub_zero, List.drop_zero, headV_front _ _ _ _ _ (k := 35) rfl] at y8 y10
      have x8 := r8.sub_ 39 N (by omega) (by rw [l8]; omega) (A' := some (ad4.add 39)) (fun _ => rfl)
      have x10 := hr10.sub_ 39 N (by omega) (by rw [l10]; omega) (A' := some (ad10.add 39)) (fun _ => rfl)
      have hNM2 : N - 39 = M := by have := HNM.out; have := HM8.out; omega
      rw [headV_data _ _ _ _ _ (k := 39) rfl, hNM2, List.take_of_length_le (by rw [spreadL_len, HD.out, HM8.out]; omega)] at x8
      rw [headV_data _ _ _ _ _ (k := 39) rfl, hNM2, spreadL_app, List.take_left' (by rw [spreadL_len, HD.out, HM8.out])] at x10
      have LS := Lib.hid (show (spreadL dl).length = M by rw [spreadL_len, HD.out, HM8.out])
      have LP := Lib.hid (show (preV true ID false).length = 35 by have := preV_len true ID false; simp [hn] at this; omega)
      clear l8 l10 c0 c1 c2 c3 c5 e0 e1 e2 e3 e4
      have hend : Below w.heap.size w w10 := hall.trans (Below.mono (B := w8.heap.size) (by repeat (first | assumption | exact Below.refl _ _ | ((with_reducible refine lit2 _ _ _ _ _ ?_); (first | (with_reducible rfl) | (simp; done))) | ((with_reducible refine lit1 _ _ _ _ ?_); (first | (with_reducible rfl) | (simp; done))) | refine row_step (by first | assumption | exact below_alloc1 _ _ | exact below_drew1 _ | exact below_drewN0 _ _) ?_ | refine block_below (by first | assumption | exact below_alloc1 _ _ | exact below_drew1 _ | exact below_drewN0 _ _) ?_ | refine below_then ?_ (by first | assumption | exact below_alloc1 _ _ | exact below_drew1 _ | exact below_drewN0 _ _))) hall.size)
      have p1 : (35 : Int) ≤ (c10 : Int) := by omega
      have p2 : (35 : Int) ≤ (c4 : Int) := by omega
      have p3 : 35 ≤ c10 := by omega
      have p4 : 35 ≤ c4 := by omega
      have p5 : (39 : Int) ≤ (N : Int) := by omega
      have p6 : 39 ≤ N := by omega
      have p7 : (N : Int) ≤ (c10 : Int) := by omega
      have p8 : N ≤ c10 := by omega
      have p9 : (N : Int) ≤ (c4 : Int) := by omega
      have pa : ¬ c10 = 39 := by omega
      have pb : 39 ≤ c4 := by omega
      have pc : (39 : Int) ≤ (c4 : Int) := by omega
      have z1 : (((N + 8 : Nat) : Int) == (N : Int) + 8) = true := by simp
      have z2 : ((N : Int) + 8 == (N : Int) + 8) = true := by simp
      have wr1 : IntKind.i64.wrap ((N : Int) + 8) = (N : Int) + 8 := IntWalk.i64_in _ (by omega)
      have wr2 : IntKind.i64.wrap (39 - 4) = 35 := by decide
      have wr3 : IntKind.i64.wrap 35 = 35 := by decide
      clear hB9 hB10 hall
      by_cases pd : c4 = 39
      · have xe : Row .i64 w10 w10.heap.size (some ad4) (spreadL dl) := .inl (List.eq_nil_of_length_eq_zero (by rw [LS.out]; omega))
        subst pd
        go_wp2_with fail
        go_region_held3 (fun W => Below w10.heap.size w10 W) (repeat (first | assumption | exact Below.refl _ _ | ((with_reducible refine lit2 _ _ _ _ _ ?_); (first | (with_reducible rfl) | (simp; done))) | ((with_reducible refine lit1 _ _ _ _ ?_); (first | (with_reducible rfl) | (simp; done))) | refine row_step (by first | assumption | exact below_alloc1 _ _ | exact below_drew1 _ | exact below_drewN0 _ _) ?_ | refine block_below (by first | assumption | exact below_alloc1 _ _ | exact below_drew1 _ | exact below_drewN0 _ _) ?_ | refine below_then ?_ (by first | assumption | exact below_alloc1 _ _ | exact below_drew1 _ | exact below_drewN0 _ _)))
          (first
            | (go_at_call 16; have hq_ := hBs1; clear hq_; refine (same_q (spreadL dl) (spreadL dl) M M LS.out LS.out _ _ _ _ _ (by repeat (first | assumption | exact Below.refl _ _ | ((with_reducible refine lit2 _ _ _ _ _ ?_); (first | (with_reducible rfl) | (simp; done))) | ((with_reducible refine lit1 _ _ _ _ ?_); (first | (with_reducible rfl) | (simp; done))) | refine row_step (by first | assumption | exact below_alloc1 _ _ | exact below_drew1 _ | exact below_drewN0 _ _) ?_ | refine block_below (by first | assumption | exact below_alloc1 _ _ | exact below_drew1 _ | exact below_drewN0 _ _) ?_ | refine below_then ?_ (by first | assumption | exact below_alloc1 _ _ | exact below_drew1 _ | exact below_drewN0 _ _))) (by repeat (first | assumption | exact Below.refl _ _ | ((with_reducible refine lit2 _ _ _ _ _ ?_); (first | (with_reducible rfl) | (simp; done))) | ((with_reducible refine lit1 _ _ _ _ ?_); (first | (with_reducible rfl) | (simp; done))) | refine row_step (by first | assumption | exact below_alloc1 _ _ | exact below_drew1 _ | exact below_drewN0 _ _) ?_ | refine block_below (by first | assumption | exact below_alloc1 _ _ | exact below_drew1 _ | exact below_drewN0 _ _) ?_ | refine below_then ?_ (by first | assumption | exact below_alloc1 _ _ | exact below_drew1 _ | exact below_drewN0 _ _))) (by unfold maxLen; omega) true (by simp [sameB])).mono ?_; rintro e w12 ⟨rfl, hBs2⟩)
            | (go_at_call 16; refine (same_q (preV true ID false) (preV true ID false) 35 35 LP.out LP.out _ _ _ _ _ (by repeat (first | assumption | exact Below.refl _ _ | ((with_reducible refine lit2 _ _ _ _ _ ?_); (first | (with_reducible rfl) | (simp; done))) | ((with_reducible refine lit1 _ _ _ _ ?_); (first | (with_reducible rfl) | (simp; done))) | refine row_step (by first | assumption | exact below_alloc1 _ _ | exact below_drew1 _ | exact below_drewN0 _ _) ?_ | refine block_below (by first | assumption | exact below_alloc1 _ _ | exact below_drew1 _ | exact below_drewN0 _ _) ?_ | refine below_then ?_ (by first | assumption | exact below_alloc1 _ _ | exact below_drew1 _ | exact below_drewN0 _ _))) (by repeat (first | assumption | exact Below.refl _ _ | ((with_reducible refine lit2 _ _ _ _ _ ?_); (first | (with_reducible rfl) | (simp; done))) | ((with_reducible refine lit1 _ _ _ _ ?_); (first | (with_reducible rfl) | (simp; done))) | refine row_step (by first | assumption | exact below_alloc1 _ _ | exact below_drew1 _ | exact below_drewN0 _ _) ?_ | refine block_below (by first | assumption | exact below_alloc1 _ _ | exact below_drew1 _ | exact below_drewN0 _ _) ?_ | refine below_then ?_ (by first | assumption | exact below_alloc1 _ _ | exact below_drew1 _ | exact below_drewN0 _ _))) (by unfold maxLen; omega) true (by simp [sameB])).mono ?_; rintro e w11 ⟨rfl, hBs1⟩))
        all_goals
          go_wp2_with fail
          go_ret
          exact ⟨rfl, hend.trans (Below.mono (B := w10.heap.size) (by repeat (first | assumption | exact Below.refl _ _ | ((with_reducible refine lit2 _ _ _ _ _ ?_); (first | (with_reducible rfl) | (simp; done))) | ((with_reducible refine lit1 _ _ _ _ ?_); (first | (with_reducible rfl) | (simp; done))) | refine row_step (by first | assumption | exact below_alloc1 _ _ | exact below_drew1 _ | exact below_drewN0 _ _) ?_ | refine block_below (by first | assumption | exact below_alloc1 _ _ | exact below_drew1 _ | exact below_drewN0 _ _) ?_ | refine below_then ?_ (by first | assumption | exact below_alloc1 _ _ | exact below_drew1 _ | exact below_drewN0 _ _))) hend.size)⟩
      · skip
        go_wp2_with fail
        go_region_held3 (fun W => Below w10.heap.size w10 W) (repeat (first | assumption | exact Below.refl _ _ | ((with_reducible refine lit2 _ _ _ _ _ ?_); (first | (with_reducible rfl) | (simp; done))) | ((with_reducible refine lit1 _ _ _ _ ?_); (first | (with_reducible rfl) | (simp; done))) | refine row_step (by first | assumption | exact below_alloc1 _ _ | exact below_drew1 _ | exact below_drewN0 _ _) ?_ | refine block_below (by first | assumption | exact below_alloc1 _ _ | exact below_drew1 _ | exact below_drewN0 _ _) ?_ | refine below_then ?_ (by first | assumption | exact below_alloc1 _ _ | exact below_drew1 _ | exact below_drewN0 _ _)))
          (first
            | (go_at_call 16; have hq_ := hBs1; clear hq_; refine (same_q (spreadL dl) (spreadL dl) M M LS.out LS.out _ _ _ _ _ (by repeat (first | assumption | exact Below.refl _ _ | ((with_reducible refine lit2 _ _ _ _ _ ?_); (first | (with_reducible rfl) | (simp; done))) | ((with_reducible refine lit1 _ _ _ _ ?_); (first | (with_reducible rfl) | (simp; done))) | refine row_step (by first | assumption | exact below_alloc1 _ _ | exact below_drew1 _ | exact below_drewN0 _ _) ?_ | refine block_below (by first | assumption | exact below_alloc1 _ _ | exact below_drew1 _ | exact below_drewN0 _ _) ?_ | refine below_then ?_ (by first | assumption | exact below_alloc1 _ _ | exact below_drew1 _ | exact below_drewN0 _ _))) (by repeat (first | assumption | exact Below.refl _ _ | ((with_reducible refine lit2 _ _ _ _ _ ?_); (first | (with_reducible rfl) | (simp; done))) | ((with_reducible refine lit1 _ _ _ _ ?_); (first | (with_reducible rfl) | (simp; done))) | refine row_step (by first | assumption | exact below_alloc1 _ _ | exact below_drew1 _ | exact below_drewN0 _ _) ?_ | refine block_below (by first | assumption | exact below_alloc1 _ _ | exact below_drew1 _ | exact below_drewN0 _ _) ?_ | refine below_then ?_ (by first | assumption | exact below_alloc1 _ _ | exact below_drew1 _ | exact below_drewN0 _ _))) (by unfold maxLen; omega) true (by simp [sameB])).mono ?_; rintro e w12 ⟨rfl, hBs2⟩)
            | (go_at_call 16; refine (same_q (preV true ID false) (preV true ID false) 35 35 LP.out LP.out _ _ _ _ _ (by repeat (first | assumption | exact Below.refl _ _ | ((with_reducible refine lit2 _ _ _ _ _ ?_); (first | (with_reducible rfl) | (simp; done))) | ((with_reducible refine lit1 _ _ _ _ ?_); (first | (with_reducible rfl) | (simp; done))) | refine row_step (by first | assumption | exact below_alloc1 _ _ | exact below_drew1 _ | exact below_drewN0 _ _) ?_ | refine block_below (by first | assumption | exact below_alloc1 _ _ | exact below_drew1 _ | exact below_drewN0 _ _) ?_ | refine below_then ?_ (by first | assumption | exact below_alloc1 _ _ | exact below_drew1 _ | exact below_drewN0 _ _))) (by repeat (first | assumption | exact Below.refl _ _ | ((with_reducible refine lit2 _ _ _ _ _ ?_); (first | (with_reducible rfl) | (simp; done))) | ((with_reducible refine lit1 _ _ _ _ ?_); (first | (with_reducible rfl) | (simp; done))) | refine row_step (by first | assumption | exact below_alloc1 _ _ | exact below_drew1 _ | exact below_drewN0 _ _) ?_ | refine block_below (by first | assumption | exact below_alloc1 _ _ | exact below_drew1 _ | exact below_drewN0 _ _) ?_ | refine below_then ?_ (by first | assumption | exact below_alloc1 _ _ | exact below_drew1 _ | exact below_drewN0 _ _))) (by unfold maxLen; omega) true (by simp [sameB])).mono ?_; rintro e w11 ⟨rfl, hBs1⟩))
        all_goals
          go_wp2_with fail
          go_ret
          exact ⟨rfl, hend.trans (Below.mono (B := w10.heap.size) (by repeat (first | assumption | exact Below.refl _ _ | ((with_reducible refine lit2 _ _ _ _ _ ?_); (first | (with_reducible rfl) | (simp; done))) | ((with_reducible refine lit1 _ _ _ _ ?_); (first | (with_reducible rfl) | (simp; done))) | refine row_step (by first | assumption | exact below_alloc1 _ _ | exact below_drew1 _ | exact below_drewN0 _ _) ?_ | refine block_below (by first | assumption | exact below_alloc1 _ _ | exact below_drew1 _ | exact below_drewN0 _ _) ?_ | refine below_then ?_ (by first | assumption | exact below_alloc1 _ _ | exact below_drew1 _ | exact below_drewN0 _ _))) hend.size)⟩

end Go.Proofs.Ythjhccdpjgdblaa
