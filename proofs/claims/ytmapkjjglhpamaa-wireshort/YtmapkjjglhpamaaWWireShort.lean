/-
  WireShort. (Written by wip/tools/mk_short.py.)
-/
import Derived.Test.YtmapkjjglhpamaaWSays
import Derived.Test.YtmapkjjglhpamaaWWireFlip
import Derived.Test.YtmapkjjglhpamaaHead5
namespace Go.Proofs.Ytmapkjjglhpamaa
open Go.RowKit

set_option maxRecDepth 100000 in
set_option maxHeartbeats 2000000 in
theorem wireShort_walk (x : Bool) (i : Int) (r : Bool) (n : Int) (dl : List Int) (m : Nat) (hdl : dl.length = m) (A : Option Addr) (c : Nat) (at_ : Nat) (hat : at_ ≤ 255) (row : List Int) (nm : Nat) (hnm : row.length = nm) (B : Option Addr) (cB : Nat)
    (w : World) (h : Row .u8 w w.heap.size A dl) (hb : byteB dl) (hr : Row .i64 w w.heap.size B row) (hmm : nm ≤ maxLen) (hmc : nm ≤ cB) :
    Calls Try.prog 5 #[.agg #[.bool x, .int .i64 i, .bool r, .int .i64 n, .slice A m c], .int .u8 at_, .slice B nm cB] w fun e w' => e = .returned (.bool true) ∧ Below w.heap.size w w' := by
  obtain ⟨i0, hi, hz0, hz1, hz2⟩ := info_parts Try.infoInt
  have HD := Lib.hid hdl
  have HB := Lib.hid hb
  clear hdl hb
  have HMl := Lib.hid hnm
  clear hnm
  obtain ⟨w0, hw0⟩ : ∃ w0, w.alloc (.cells #[.bool x, .int .i64 i, .bool r, .int .i64 n, .slice A m c] 24) = w0 := ⟨_, rfl⟩
  have hB0 : Below w.heap.size w w0 := by rw [← hw0]; exact below_alloc1 _ _
  have hF0 : w0.heap[w.heap.size]? = some (.cells #[.bool x, .int .i64 i, .bool r, .int .i64 n, .slice A m c] 24) := by rw [← hw0]; exact World.alloc_heap_new _ _
  have HW0 := Lib.hid hw0
  clear hw0
  go_enter Try.func5, Try.ntmps5
  go_wp2_with fail
  rw [HW0.out]
  clear HW0
  refine (head5_any _).mono ?_
  rintro e w1 ⟨rfl, hB1⟩
  have hF1 : w1.heap[w.heap.size]? = some (.cells #[.bool x, .int .i64 i, .bool r, .int .i64 n, .slice A m c] 24) := by repeat (first | assumption | exact Below.refl _ _ | ((with_reducible refine lit2 _ _ _ _ _ ?_); (first | (with_reducible rfl) | (simp; done))) | ((with_reducible refine lit1 _ _ _ _ ?_); (first | (with_reducible rfl) | (simp; done))) | refine row_step (by first | assumption | exact below_alloc1 _ _ | exact below_drew1 _ | exact below_drewN0 _ _) ?_ | refine block_below (by first | assumption | exact below_alloc1 _ _ | exact below_drew1 _ | exact below_drewN0 _ _) ?_ | refine below_then ?_ (by first | assumption | exact below_alloc1 _ _ | exact below_drew1 _ | exact below_drewN0 _ _))
  obtain ⟨c0, c1, c2, c3, c4⟩ := cells5' hF1
  go_wp2_with fail
  by_cases h1 : 100 < m
  · refine (great_q x i r n A m c _ true (by simp; omega)).mono ?_
    rintro e w2 ⟨rfl, hB2⟩
    go_wp2_with fail
    go_ret
    exact ⟨rfl, by repeat (first | assumption | exact Below.refl _ _ | ((with_reducible refine lit2 _ _ _ _ _ ?_); (first | (with_reducible rfl) | (simp; done))) | ((with_reducible refine lit1 _ _ _ _ ?_); (first | (with_reducible rfl) | (simp; done))) | refine row_step (by first | assumption | exact below_alloc1 _ _ | exact below_drew1 _ | exact below_drewN0 _ _) ?_ | refine block_below (by first | assumption | exact below_alloc1 _ _ | exact below_drew1 _ | exact below_drewN0 _ _) ?_ | refine below_then ?_ (by first | assumption | exact below_alloc1 _ _ | exact below_drew1 _ | exact below_drewN0 _ _))⟩
  refine (great_q x i r n A m c _ false (by simp; omega)).mono ?_
  rintro e w2 ⟨rfl, hB2⟩
  clear c0 c1 c2 c3 c4
  have hF2 : w2.heap[w.heap.size]? = some (.cells #[.bool x, .int .i64 i, .bool r, .int .i64 n, .slice A m c] 24) := by repeat (first | assumption | exact Below.refl _ _ | ((with_reducible refine lit2 _ _ _ _ _ ?_); (first | (with_reducible rfl) | (simp; done))) | ((with_reducible refine lit1 _ _ _ _ ?_); (first | (with_reducible rfl) | (simp; done))) | refine row_step (by first | assumption | exact below_alloc1 _ _ | exact below_drew1 _ | exact below_drewN0 _ _) ?_ | refine block_below (by first | assumption | exact below_alloc1 _ _ | exact below_drew1 _ | exact below_drewN0 _ _) ?_ | refine below_then ?_ (by first | assumption | exact below_alloc1 _ _ | exact below_drew1 _ | exact below_drewN0 _ _))
  obtain ⟨c0, c1, c2, c3, c4⟩ := cells5' hF2
  go_wp2_with fail
  by_cases h3 : rightV x i r n m = true
  rotate_left
  · refine (refFrRight_q x i r n A m c _ false (by simpa using h3)).mono ?_
    rintro e w3 ⟨rfl, hB3⟩
    clear h3
    go_wp2_with fail
    go_ret
    exact ⟨rfl, by repeat (first | assumption | exact Below.refl _ _ | ((with_reducible refine lit2 _ _ _ _ _ ?_); (first | (with_reducible rfl) | (simp; done))) | ((with_reducible refine lit1 _ _ _ _ ?_); (first | (with_reducible rfl) | (simp; done))) | refine row_step (by first | assumption | exact below_alloc1 _ _ | exact below_drew1 _ | exact below_drewN0 _ _) ?_ | refine block_below (by first | assumption | exact below_alloc1 _ _ | exact below_drew1 _ | exact below_drewN0 _ _) ?_ | refine below_then ?_ (by first | assumption | exact below_alloc1 _ _ | exact below_drew1 _ | exact below_drewN0 _ _))⟩
  obtain ⟨ID, L, rfl, rfl, hID, hL, hmr⟩ := right_ok h3
  have H3 := Lib.hid h3
  have HMr := Lib.hid hmr
  clear h3 hmr
  refine (refFrRight_q x ID r L A m c _ true H3.out).mono ?_
  rintro e w3 ⟨rfl, hB3⟩
  clear c0 c1 c2 c3 c4
  have hF3 : w3.heap[w.heap.size]? = some (.cells #[.bool x, .int .i64 ID, .bool r, .int .i64 L, .slice A m c] 24) := by repeat (first | assumption | exact Below.refl _ _ | ((with_reducible refine lit2 _ _ _ _ _ ?_); (first | (with_reducible rfl) | (simp; done))) | ((with_reducible refine lit1 _ _ _ _ ?_); (first | (with_reducible rfl) | (simp; done))) | refine row_step (by first | assumption | exact below_alloc1 _ _ | exact below_drew1 _ | exact below_drewN0 _ _) ?_ | refine block_below (by first | assumption | exact below_alloc1 _ _ | exact below_drew1 _ | exact below_drewN0 _ _) ?_ | refine below_then ?_ (by first | assumption | exact below_alloc1 _ _ | exact below_drew1 _ | exact below_drewN0 _ _))
  by_cases h4 : 400 < nm
  · have d4 : decide ((400 : Int) < (nm : Int)) = true := by simp; omega
    go_wp2_with fail
    go_ret
    exact ⟨rfl, by repeat (first | assumption | exact Below.refl _ _ | ((with_reducible refine lit2 _ _ _ _ _ ?_); (first | (with_reducible rfl) | (simp; done))) | ((with_reducible refine lit1 _ _ _ _ ?_); (first | (with_reducible rfl) | (simp; done))) | refine row_step (by first | assumption | exact below_alloc1 _ _ | exact below_drew1 _ | exact below_drewN0 _ _) ?_ | refine block_below (by first | assumption | exact below_alloc1 _ _ | exact below_drew1 _ | exact below_drewN0 _ _) ?_ | refine below_then ?_ (by first | assumption | exact below_alloc1 _ _ | exact below_drew1 _ | exact below_drewN0 _ _))⟩
  have d4 : decide ((400 : Int) < (nm : Int)) = false := by simp; omega
  go_wp2_with fail
  by_cases h5 : rightB row = true
  rotate_left
  · refine (refRight_q row nm HMl.out B cB _ (by repeat (first | assumption | exact Below.refl _ _ | ((with_reducible refine lit2 _ _ _ _ _ ?_); (first | (with_reducible rfl) | (simp; done))) | ((with_reducible refine lit1 _ _ _ _ ?_); (first | (with_reducible rfl) | (simp; done))) | refine row_step (by first | assumption | exact below_alloc1 _ _ | exact below_drew1 _ | exact below_drewN0 _ _) ?_ | refine block_below (by first | assumption | exact below_alloc1 _ _ | exact below_drew1 _ | exact below_drewN0 _ _) ?_ | refine below_then ?_ (by first | assumption | exact below_alloc1 _ _ | exact below_drew1 _ | exact below_drewN0 _ _))) hmm false (by simpa using h5)).mono ?_
    rintro e w4 ⟨rfl, hB4⟩
    clear h5
    go_wp2_with fail
    go_ret
    exact ⟨rfl, by repeat (first | assumption | exact Below.refl _ _ | ((with_reducible refine lit2 _ _ _ _ _ ?_); (first | (with_reducible rfl) | (simp; done))) | ((with_reducible refine lit1 _ _ _ _ ?_); (first | (with_reducible rfl) | (simp; done))) | refine row_step (by first | assumption | exact below_alloc1 _ _ | exact below_drew1 _ | exact below_drewN0 _ _) ?_ | refine block_below (by first | assumption | exact below_alloc1 _ _ | exact below_drew1 _ | exact below_drewN0 _ _) ?_ | refine below_then ?_ (by first | assumption | exact below_alloc1 _ _ | exact below_drew1 _ | exact below_drewN0 _ _))⟩
  have H5 := Lib.hid h5
  clear h5
  refine (refRight_q row nm HMl.out B cB _ (by repeat (first | assumption | exact Below.refl _ _ | ((with_reducible refine lit2 _ _ _ _ _ ?_); (first | (with_reducible rfl) | (simp; done))) | ((with_reducible refine lit1 _ _ _ _ ?_); (first | (with_reducible rfl) | (simp; done))) | refine row_step (by first | assumption | exact below_alloc1 _ _ | exact below_drew1 _ | exact below_drewN0 _ _) ?_ | refine block_below (by first | assumption | exact below_alloc1 _ _ | exact below_drew1 _ | exact below_drewN0 _ _) ?_ | refine below_then ?_ (by first | assumption | exact below_alloc1 _ _ | exact below_drew1 _ | exact below_drewN0 _ _))) hmm true H5.out).mono ?_
  rintro e w4 ⟨rfl, hB4⟩
  have hF4 : w4.heap[w.heap.size]? = some (.cells #[.bool x, .int .i64 ID, .bool r, .int .i64 L, .slice A m c] 24) := by repeat (first | assumption | exact Below.refl _ _ | ((with_reducible refine lit2 _ _ _ _ _ ?_); (first | (with_reducible rfl) | (simp; done))) | ((with_reducible refine lit1 _ _ _ _ ?_); (first | (with_reducible rfl) | (simp; done))) | refine row_step (by first | assumption | exact below_alloc1 _ _ | exact below_drew1 _ | exact below_drewN0 _ _) ?_ | refine block_below (by first | assumption | exact below_alloc1 _ _ | exact below_drew1 _ | exact below_drewN0 _ _) ?_ | refine below_then ?_ (by first | assumption | exact below_alloc1 _ _ | exact below_drew1 _ | exact below_drewN0 _ _))
  obtain ⟨w5, hw5⟩ : ∃ w5, w4.alloc (.cells #[] 3) = w5 := ⟨_, rfl⟩
  have hB5 : Below w4.heap.size w4 w5 := by rw [← hw5]; exact below_alloc1 _ _
  have own5 : w5.ownsRow w4.heap.size 3 1 (.slice (some ⟨w4.heap.size, 0, none⟩) 0 0) 0 (([] : List Int).map (Value.int .i64)) := by rw [← hw5]; exact own_lit w4 .i64 [] 0 rfl 3 (cs := #[]) rfl (by decide)
  have hF5 := obj_below hF4 hB5
  obtain ⟨c0, c1, c2, c3, c4⟩ := cells5' hF5
  rw [← hw5] at c0 c1 c2 c3 c4
  obtain ⟨T, hT⟩ : ∃ T, headV x ID r L dl = T := ⟨_, rfl⟩
  have hO : HeadOf T ⟨x, ID, r, L, dl⟩ := by rw [← hT]; exact headOf x ID r L dl hID hL HB.out (by rw [HD.out]; exact HMr.out)
  have hTl : T.length = hn x + 8 * m := by rw [← hT, headV_len, HD.out]
  obtain ⟨M, hM⟩ : ∃ M, (stuffL (bareV T)).length = M := ⟨_, rfl⟩
  have hN : (sentV T).length = M + 10 := by rw [sentV_len, hM]
  have hMb : 34 ≤ M ∧ M ≤ 3000 := by
    have e1 := sent_min T
    have e2 := sentV_len T
    have e3 := stuffL_most (bareV T)
    rw [bareV_len] at e3
    have : hn x ≤ 39 := by cases x <;> decide
    have : 19 ≤ hn x := by cases x <;> decide
    omega
  have HT := Lib.hid hT
  have HM := Lib.hid hM
  have HN := Lib.hid hN
  have HO := Lib.hid hO
  obtain ⟨hMa, hMc⟩ := hMb
  have HW5 := Lib.hid hw5
  clear hT hM hN hO hTl hw5
  go_wp2_with fail
  rw [HW5.out]
  refine (wireBits_at x ID r L dl m HD.out A c hID hL _ (by repeat (first | assumption | exact Below.refl _ _ | ((with_reducible refine lit2 _ _ _ _ _ ?_); (first | (with_reducible rfl) | (simp; done))) | ((with_reducible refine lit1 _ _ _ _ ?_); (first | (with_reducible rfl) | (simp; done))) | refine row_step (by first | assumption | exact below_alloc1 _ _ | exact below_drew1 _ | exact below_drewN0 _ _) ?_ | refine block_below (by first | assumption | exact below_alloc1 _ _ | exact below_drew1 _ | exact below_drewN0 _ _) ?_ | refine below_then ?_ (by first | assumption | exact below_alloc1 _ _ | exact below_drew1 _ | exact below_drewN0 _ _))) HB.out (by omega) T HT.out (M + 10) HN.out).mono ?_
  rintro e w6 ⟨A6, c6, rfl, hr6, hc6, hB6⟩
  clear c0 c1 c2 c3 c4
  have own6 := own_to own5 hB6
  have hF6 := obj_below hF5 hB6
  have bs6 : w4.heap.size ≤ w6.heap.size := (below_then hB5 hB6).size
  obtain ⟨k, hk⟩ : ∃ k, at_ % (M + 10) = k := ⟨_, rfl⟩
  have hk10 : k < M + 10 := by rw [← hk]; exact Nat.mod_lt _ (by omega)
  have hmod : (at_ : Int) % ((M : Int) + 10) = (k : Int) := by rw [← hk]; simp
  have htmod : Int.tmod (at_ : Int) ((M : Int) + 10) = (k : Int) := by rw [Int.tmod_eq_emod_of_nonneg (by omega)]; exact hmod
  have e9 : (M : Int) + 10 - 9 = (M : Int) + 1 := by omega
  have hv1 := sent_one' (T := T) (j := 1) (by omega)
  rw [HM.out] at hv1
  have p1 : (0 : Int) ≤ (M : Int) + 1 := by omega
  have p2 : (M : Int) + 1 < (M : Int) + 10 := by omega
  have pz : ((M : Int) + 10 == 0) = false := by simp; omega
  have pz2 : ¬ (M : Int) + 10 = 0 := by omega
  have t20 : decide ((M : Int) + 10 < 20) = false := by simp; omega
  have hh : heardV T = (sentV T).set (M + 1) 0 := by unfold heardV; rw [HN.out]; rfl
  have Hh := Lib.hid hh
  have Hv1 := Lib.hid hv1
  clear hh hv1 hk hmod
  have hFlt : w.heap.size < w4.heap.size := (Array.getElem?_eq_some_iff.1 hF4).1
  have dl6 : Row .u8 w6 w6.heap.size A dl := by repeat (first | assumption | exact Below.refl _ _ | ((with_reducible refine lit2 _ _ _ _ _ ?_); (first | (with_reducible rfl) | (simp; done))) | ((with_reducible refine lit1 _ _ _ _ ?_); (first | (with_reducible rfl) | (simp; done))) | refine row_step (by first | assumption | exact below_alloc1 _ _ | exact below_drew1 _ | exact below_drewN0 _ _) ?_ | refine block_below (by first | assumption | exact below_alloc1 _ _ | exact below_drew1 _ | exact below_drewN0 _ _) ?_ | refine below_then ?_ (by first | assumption | exact below_alloc1 _ _ | exact below_drew1 _ | exact below_drewN0 _ _))
  have tot6 : Below w.heap.size w w6 := by repeat (first | assumption | exact Below.refl _ _ | ((with_reducible refine lit2 _ _ _ _ _ ?_); (first | (with_reducible rfl) | (simp; done))) | ((with_reducible refine lit1 _ _ _ _ ?_); (first | (with_reducible rfl) | (simp; done))) | refine row_step (by first | assumption | exact below_alloc1 _ _ | exact below_drew1 _ | exact below_drewN0 _ _) ?_ | refine block_below (by first | assumption | exact below_alloc1 _ _ | exact below_drew1 _ | exact below_drewN0 _ _) ?_ | refine below_then ?_ (by first | assumption | exact below_alloc1 _ _ | exact below_drew1 _ | exact below_drewN0 _ _))
  have row0 := hr
  go_wp2_with (at_builtin; refine wpList_append_row _ .i64 rfl _ _ 25 rfl w4.heap.size 3 i0 (.int .i64 0) 8 Try.underlying25 hi hz0 hz1 hz2 rfl _ 0 [] rfl own6 A6 (M + 10) c6 _ (sentV T) rfl HN.out hr6 (by unfold maxLen; omega) (by omega) bs6 ?_; intro A7 c7 w7 hown7 hc7 hB7; rw [Nat.zero_add, List.nil_append] at hown7; obtain ⟨g7, hg7, hgb7⟩ := own_block hown7 (by omega); subst hg7; have kc7 : k ≤ c7 := (by omega); have kc7i : (k : Int) ≤ (c7 : Int) := (by omega); obtain ⟨q1, q2⟩ := ownsRow_cell hown7 Hv1.out)
  have o8 := ownsRow_set hown7 (M + 1) 0
  have hr8 := Row.own o8
  rw [← Hh.out] at hr8
  have tot8 : Below w.heap.size w (w7.setCell ⟨g7, M + 1, none⟩ (.int .i64 0)) := (tot6.trans (hB7.mono (Nat.le_of_lt hFlt))).setCell (p := ⟨g7, M + 1, none⟩) (by simp; omega) _
  have dl8 := h.to tot8
  have row8 := row0.to tot8
  generalize w7.setCell ⟨g7, M + 1, none⟩ (.int .i64 0) = w8 at hr8 tot8 dl8 row8 ⊢
  clear o8 q1 q2 hown7 hB7 hF6 dl6 tot6 hF4 hF5 hB4 hB5 hB6 own5 own6 hr6
  have hr8k : Row .i64 w8 w8.heap.size (some ⟨g7, 0, none⟩) ((heardV T).take k) := by
    have := hr8.sub_ 0 k (by omega) (by rw [Hh.out, List.length_set, HN.out]; omega) (A' := some ⟨g7, 0, none⟩) (fun _ => by simp [Addr.add])
    simpa using this
  have hlk : ((heardV T).take k).length = k := by rw [List.length_take, Hh.out, List.length_set, HN.out]; omega
  have hrk : rightB ((heardV T).take k) = true := by rw [Hh.out]; exact rightB_take (set_right (sent_right HO.out) _ _ (.inl rfl)) k
  have hck : wireRd ((heardV T).take k) = (⟨false, 0, false, 0, []⟩, 1, (k : Int)) := heard_cut HO.out (by rw [HN.out]; omega)
  refine (wireRead_at _ k hlk _ c7 w8 hr8k hrk (by omega) false 0 false 0 [] 1 (k : Int) hck).mono ?_
  rintro e w9 ⟨D9, m9, c9, rfl, hm9, hmc9, -, hB9⟩
  obtain rfl : 0 = m9 := hm9
  have tot9 := below_then tot8 hB9
  have row9 := row8.to hB9
  clear hck hrk hlk hr8k hr8 dl8 tot8 row8 hB9 Hh Hv1
  obtain ⟨w10, hw10⟩ : ∃ w10, w9.alloc (.cells #[.bool false, .int .i64 0, .bool false, .int .i64 0, .slice D9 0 c9] 24) = w10 := ⟨_, rfl⟩
  have hB10 := below_lits hw10
  have hX10 : w10.heap[w9.heap.size]? = some (.cells #[.bool false, .int .i64 0, .bool false, .int .i64 0, .slice D9 0 c9] 24) := by rw [← hw10]; exact World.alloc_heap_new _ _
  have tot10 := below_then tot9 hB10
  have row10 := row9.to hB10
  go_wp2_with fail
  clear hw10 row9 tot9 hB10
  obtain ⟨⟨x', i', r', n', dl'⟩, b, q, hrd⟩ : ∃ y b q, wireRd row = (y, b, q) := ⟨_, _, _, rfl⟩
  have hsay := wire_says H5.out hrd
  have HSay := Lib.hid hsay
  have HRd := Lib.hid hrd
  clear hsay hrd
  refine (wireRead_at row nm HMl.out B cB w10 row10 H5.out (by omega) x' i' r' n' dl' b q HRd.out).mono ?_
  rintro e w11 ⟨D11, m11, c11, rfl, hm11, hmc11, hr11, hB11⟩
  have tot11 := below_then tot10 hB11
  have row11 := row10.to hB11
  have hX11 := obj_below hX10 hB11
  clear tot10 row10 hX10 hB11
  obtain ⟨w12, hw12⟩ : ∃ w12, w11.alloc (.cells #[.bool x', .int .i64 i', .bool r', .int .i64 n', .slice D11 m11 c11] 24) = w12 := ⟨_, rfl⟩
  have hB12 := below_lits hw12
  have hY12 : w12.heap[w11.heap.size]? = some (.cells #[.bool x', .int .i64 i', .bool r', .int .i64 n', .slice D11 m11 c11] 24) := by rw [← hw12]; exact World.alloc_heap_new _ _
  have tot12 := below_then tot11 hB12
  have row12 := row11.to hB12
  have dat12 := hr11.to hB12
  have hX12 := obj_below hX11 hB12
  obtain ⟨c0, c1, c2, c3, c4⟩ := cells5' hX12
  rw [← hw12] at c0 c1 c2 c3 c4
  have HW12 := Lib.hid hw12
  clear hw12 tot11 row11 hX11 hB12 hr11
  have HM11 := Lib.hid hm11
  clear hm11
  go_wp2_with fail
  rw [HW12.out]
  clear HW12 c0 c1 c2 c3 c4
  refine (refFrSame_at false 0 false 0 [] 0 rfl D9 c9 false 0 false 0 [] 0 rfl none 0 _ (.inl rfl) (.inl rfl) byte_nil byte_nil true (by decide)).mono ?_
  rintro e w13 ⟨rfl, hB13⟩
  have tot13 := below_then tot12 hB13
  have row13 := row12.to hB13
  have dat13 := dat12.to hB13
  have hY13 := obj_below hY12 hB13
  clear tot12 row12 dat12 hY12 hX12 hB13
  obtain ⟨c0, c1, c2, c3, c4⟩ := cells5' hY13
  have kk : ((k : Int) != (k : Int)) = false := by simp
  rcases HSay.out with ⟨rfl, rfl, T', ID', L', ht, more, hl⟩ | ⟨hb0, hq0, hq1, hy⟩
  rotate_left
  · have b0 : (b != 0) = true := by simp [hb0]
    have q0 : decide ((0 : Int) ≤ q) = true := by simp [hq0]
    have q1 : decide (q ≤ (nm : Int)) = true := by rw [HMl.out] at hq1; simp [hq1]
    by_cases b5 : b = 5
    · subst b5
      clear hy hb0 b0
      go_wp2_with fail
      go_ret
      exact ⟨rfl, tot13⟩
    · have b5' : (b == 5) = false := by simp [b5]
      obtain ⟨rfl, rfl, rfl, rfl, rfl⟩ : x' = false ∧ i' = 0 ∧ r' = false ∧ n' = 0 ∧ dl' = [] := by rcases hy with e | e; exact absurd e b5; simpa [Fr.none_] using e
      obtain rfl : 0 = m11 := HM11.out
      clear hy hb0
      go_wp2_with fail
      refine (refFrSame_at false 0 false 0 [] 0 rfl D11 c11 false 0 false 0 [] 0 rfl none 0 _ (.inl rfl) (.inl rfl) byte_nil byte_nil true (by decide)).mono ?_
      rintro e w14 ⟨rfl, hB14⟩
      go_wp2_with fail
      go_ret
      exact ⟨rfl, below_then tot13 hB14⟩
  obtain ⟨rfl, rfl⟩ : i' = (ID' : Int) ∧ n' = (L' : Int) := by have := ht.eq; simp only [Fr.mk.injEq, true_and] at this; exact ⟨this.1, this.2.1⟩
  have hID' := ht.id
  have hL' := ht.len
  have hdl' := ht.many
  have hb' := ht.byte
  have hT' := ht.head
  simp only at hID' hdl' hb' hT'
  rw [HM11.out] at hdl'
  have HMr' := Lib.hid hdl'
  have HB' := Lib.hid hb'
  have HT' := Lib.hid hT'
  have HL' := Lib.hid hl
  have hm11 : m11 ≤ 8 := by rw [hdl']; split <;> omega
  clear hb' hT' hl hdl' ht
  obtain ⟨w14, hw14⟩ : ∃ w14, w13.alloc (.cells #[] 3) = w14 := ⟨_, rfl⟩
  have hB14 : Below w13.heap.size w13 w14 := by rw [← hw14]; exact below_alloc1 _ _
  have own14 : w14.ownsRow w13.heap.size 3 1 (.slice (some ⟨w13.heap.size, 0, none⟩) 0 0) 0 (([] : List Int).map (Value.int .i64)) := by rw [← hw14]; exact own_lit w13 .i64 [] 0 rfl 3 (cs := #[]) rfl (by decide)
  have hY14 := obj_below hY13 hB14
  obtain ⟨c0, c1, c2, c3, c4⟩ := cells5' hY14
  rw [← hw14] at c0 c1 c2 c3 c4
  obtain ⟨T2, hT2⟩ : ∃ T2, headV x' ID' r' L' dl' = T2 := ⟨_, rfl⟩
  have hO2 : HeadOf T2 ⟨x', ID', r', L', dl'⟩ := by rw [← hT2]; exact headOf x' ID' r' L' dl' hID' hL' HB'.out (by rw [HM11.out]; exact HMr'.out)
  have hTl2 : T2.length = hn x' + 8 * m11 := by rw [← hT2, headV_len, HM11.out]
  obtain ⟨M2, hM2⟩ : ∃ M, (stuffL (bareV T2)).length = M := ⟨_, rfl⟩
  have hN2 : (sentV T2).length = M2 + 10 := by rw [sentV_len, hM2]
  have hMb2 : 34 ≤ M2 ∧ M2 ≤ 3000 := by
    have e1 := sent_min T2
    have e2 := sentV_len T2
    have e3 := stuffL_most (bareV T2)
    rw [bareV_len] at e3
    have : hn x' ≤ 39 := by cases x' <;> decide
    have : 19 ≤ hn x' := by cases x' <;> decide
    omega
  have HT2 := Lib.hid hT2
  have HM2 := Lib.hid hM2
  have HN2 := Lib.hid hN2
  have HO2 := Lib.hid hO2
  obtain ⟨hMa2, hMc2⟩ := hMb2
  have HW14 := Lib.hid hw14
  clear hT2 hM2 hN2 hO2 hTl2 hw14
  go_wp2_with fail
  rw [HW14.out]
  refine (wireBits_at x' ID' r' L' dl' m11 HM11.out D11 c11 hID' hL' _ (dat13.to hB14) HB'.out (by omega) T2 HT2.out (M2 + 10) HN2.out).mono ?_
  rintro e w15 ⟨A15, c15, rfl, hr15, hc15, hB15⟩
  clear c0 c1 c2 c3 c4
  have own15 := own_to own14 hB15
  have hY15 := obj_below hY14 hB15
  have bs15 : w13.heap.size ≤ w15.heap.size := (below_then hB14 hB15).size
  have hTT : T' = T2 := HT'.out.symm.trans HT2.out
  have hnm2 : nm = M2 + 10 + more.length := by rw [← HMl.out, HL'.out, hTT]; simp [HM2.out, tenV]; omega
  have hH2 : row.take (M2 + 10) = (sentV T2).set (M2 + 1) 0 := by
    have e : (M2 + 10) = (stuffL (bareV T2) ++ tenV 0).length := by simp [HM2.out, tenV]
    have e2 : (sentV T2).set (M2 + 1) 0 = stuffL (bareV T2) ++ tenV 0 := by rw [← HM2.out, sent_ten, set_ten]; rfl
    rw [e2, HL'.out, hTT, ← List.append_assoc, e, List.take_left']
    rfl
  have HH2 := Lib.hid hH2
  have hv2 := sent_one' (T := T2) (j := 1) (by omega)
  rw [HM2.out] at hv2
  have Hv2 := Lib.hid hv2
  have s1 : (0 : Int) ≤ (M2 : Int) + 1 := by omega
  have s2 : (M2 : Int) + 1 < (M2 : Int) + 10 := by omega
  have s3 : (M2 : Int) + 10 - 9 = (M2 : Int) + 1 := by omega
  have s4 : decide ((M2 : Int) + 10 < 20) = false := by simp; omega
  have s5 : decide ((nm : Int) < (M2 : Int) + 10) = false := by simp; omega
  have s6 : (M2 : Int) + 10 ≤ (cB : Int) := by omega
  have s7 : M2 + 10 ≤ cB := by omega
  have s8 : M2 + 10 ≤ nm := by omega
  have tot15 := below_then tot13 (below_then hB14 hB15)
  have row15 := row13.to (below_then hB14 hB15)
  have h13 : w.heap.size ≤ w13.heap.size := tot13.size
  have hYlt : w11.heap.size < w13.heap.size := (Array.getElem?_eq_some_iff.1 hY13).1
  clear hnm2 hH2 hv2 hY13 hY14 dat13 row13 hB14 hB15
  go_wp2_with (at_builtin; refine wpList_append_row _ .i64 rfl _ _ 25 rfl w13.heap.size 3 i0 (.int .i64 0) 8 Try.underlying25 hi hz0 hz1 hz2 rfl _ 0 [] rfl own15 A15 (M2 + 10) c15 _ (sentV T2) rfl HN2.out hr15 (by unfold maxLen; omega) (by omega) bs15 ?_; intro A16 c16 w16 hown16 hc16 hB16; rw [Nat.zero_add, List.nil_append] at hown16; obtain ⟨g16, hg16, hgb16⟩ := own_block hown16 (by omega); subst hg16; have hY16 := (hB16.block _ hYlt).trans hY15; obtain ⟨c0, c1, c2, c3, c4⟩ := cells5' hY16)
  refine (refFrRight_q x' ID' r' L' D11 m11 c11 _ true (rightV_of x' ID' r' L' m11 hID' hL' HMr'.out)).mono ?_
  rintro e w17 ⟨rfl, hB17⟩
  have tot16 := tot15.trans (hB16.mono h13)
  have tot17 := below_then tot16 hB17
  have hown17 := own_to hown16 hB17
  have row17 := row0.to tot17
  obtain ⟨q1, q2⟩ := ownsRow_cell hown17 Hv2.out
  clear c0 c1 c2 c3 c4 hown16 hB17 tot15 tot16 hB16 hY16 row15 hr15 own15 own14
  go_wp2_with fail
  have hr18 := Row.own (ownsRow_set hown17 (M2 + 1) 0)
  have tot18 : Below w.heap.size w (w17.setCell ⟨g16, M2 + 1, none⟩ (.int .i64 0)) := tot17.setCell (p := ⟨g16, M2 + 1, none⟩) (by simp; omega) _
  have row18 := row0.to tot18
  have rowk : Row .i64 (w17.setCell ⟨g16, M2 + 1, none⟩ (.int .i64 0)) (w17.setCell ⟨g16, M2 + 1, none⟩ (.int .i64 0)).heap.size B (row.take (M2 + 10)) := by
    have := row18.sub_ 0 (M2 + 10) (by omega) (by rw [HMl.out]; omega) (A' := B) (fun _ => by cases B <;> simp [Addr.add])
    simpa using this
  generalize w17.setCell ⟨g16, M2 + 1, none⟩ (.int .i64 0) = w18 at hr18 tot18 rowk ⊢
  refine (same_q _ _ (M2 + 10) (M2 + 10) (by rw [List.length_set, HN2.out]) (by rw [List.length_take, HMl.out]; omega) _ _ _ _ w18 hr18 rowk (by unfold maxLen; omega) true (by rw [HH2.out]; unfold sameB; simp)).mono ?_
  rintro e w19 ⟨rfl, hB19⟩
  go_wp2_with fail
  go_ret
  exact ⟨rfl, below_then tot18 hB19⟩

end Go.Proofs.Ytmapkjjglhpamaa
