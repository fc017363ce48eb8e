/-
  WireFlip. (Written by wip/tools/mk_wwalk.py.)
-/
import Derived.Test.YtmapkjjglhpamaaWLaw
import Derived.Test.YtmapkjjglhpamaaHead5
namespace Go.Proofs.Ytmapkjjglhpamaa
open Go.RowKit

theorem sent_one' {T : List Int} {j : Nat} (hj : j < 10) : (sentV T)[(stuffL (bareV T)).length + j]? = some 1 := by
  unfold sentV
  rw [List.getElem?_append_right (by omega), Nat.add_sub_cancel_left]
  unfold ones
  rw [List.getElem?_replicate, if_pos hj]
theorem own_block {w : World} {base : Nat} {e : TypeId} {A : Option Addr} {n c : Nat} {xs : List Value} (h : w.ownsRow base e 1 (.slice A n c) n xs) (hn : 0 < n) : ∃ g, A = some ⟨g, 0, none⟩ ∧ base ≤ g := by
  rcases h.2 with ⟨e1, e2⟩ | ⟨g, cap, cur, e1, hb, _⟩
  · omega
  · exact ⟨g, by injection e1, hb⟩

set_option maxRecDepth 100000 in
set_option maxHeartbeats 2000000 in
theorem wireFlip_walk (x : Bool) (i : Int) (r : Bool) (n : Int) (dl : List Int) (m : Nat) (hdl : dl.length = m) (A : Option Addr) (c : Nat) (at_ : Nat) (hat : at_ ≤ 255)
    (w : World) (h : Row .u8 w w.heap.size A dl) (hb : byteB dl) :
    Calls Try.prog 7 #[.agg #[.bool x, .int .i64 i, .bool r, .int .i64 n, .slice A m c], .int .u8 at_] w fun e w' => e = .returned (.bool true) ∧ Below w.heap.size w w' := by
  obtain ⟨i0, hi, hz0, hz1, hz2⟩ := info_parts Try.infoInt
  have HD := Lib.hid hdl
  have HB := Lib.hid hb
  clear hdl hb
  obtain ⟨w0, hw0⟩ : ∃ w0, w.alloc (.cells #[.bool x, .int .i64 i, .bool r, .int .i64 n, .slice A m c] 24) = w0 := ⟨_, rfl⟩
  have hB0 : Below w.heap.size w w0 := by rw [← hw0]; exact below_alloc1 _ _
  have hF0 : w0.heap[w.heap.size]? = some (.cells #[.bool x, .int .i64 i, .bool r, .int .i64 n, .slice A m c] 24) := by rw [← hw0]; exact World.alloc_heap_new _ _
  have HW0 := Lib.hid hw0
  clear hw0
  go_enter Try.func7, Try.ntmps7
  go_wp2_with fail
  rw [HW0.out]
  clear HW0
  refine (head5_any _).mono ?_
  rintro e w1 ⟨rfl, hB1⟩
  have hF1 : w1.heap[w.heap.size]? = some (.cells #[.bool x, .int .i64 i, .bool r, .int .i64 n, .slice A m c] 24) := by repeat (first | assumption | exact Below.refl _ _ | ((with_reducible refine lit2 _ _ _ _ _ ?_); (first | (with_reducible rfl) | (simp; done))) | ((with_reducible refine lit1 _ _ _ _ ?_); (first | (with_reducible rfl) | (simp; done))) | refine row_step (by first | assumption | exact below_alloc1 _ _ | exact below_drew1 _ | exact below_drewN0 _ _) ?_ | refine block_below (by first | assumption | exact below_alloc1 _ _ | exact below_drew1 _ | exact below_drewN0 _ _) ?_ | refine below_then ?_ (by first | assumption | exact below_alloc1 _ _ | exact below_drew1 _ | exact below_drewN0 _ _))
  obtain ⟨c0, c1, c2, c3, c4⟩ := cells5' hF1
  go_wp2_with fail
  by_cases h1 : 100 < m
  · refine (great_q x i r n A m c _ true (by simp; omega)).mono ?_
    rintro e w2 ⟨rfl, hB2⟩
    go_wp2_with fail
    go_ret
    exact ⟨rfl, by repeat (first | assumption | exact Below.refl _ _ | ((with_reducible refine lit2 _ _ _ _ _ ?_); (first | (with_reducible rfl) | (simp; done))) | ((with_reducible refine lit1 _ _ _ _ ?_); (first | (with_reducible rfl) | (simp; done))) | refine row_step (by first | assumption | exact below_alloc1 _ _ | exact below_drew1 _ | exact below_drewN0 _ _) ?_ | refine block_below (by first | assumption | exact below_alloc1 _ _ | exact below_drew1 _ | exact below_drewN0 _ _) ?_ | refine below_then ?_ (by first | assumption | exact below_alloc1 _ _ | exact below_drew1 _ | exact below_drewN0 _ _))⟩
  refine (great_q x i r n A m c _ false (by simp; omega)).mono ?_
  rintro e w2 ⟨rfl, hB2⟩
  clear c0 c1 c2 c3 c4
  have hF2 : w2.heap[w.heap.size]? = some (.cells #[.bool x, .int .i64 i, .bool r, .int .i64 n, .slice A m c] 24) := by repeat (first | assumption | exact Below.refl _ _ | ((with_reducible refine lit2 _ _ _ _ _ ?_); (first | (with_reducible rfl) | (simp; done))) | ((with_reducible refine lit1 _ _ _ _ ?_); (first | (with_reducible rfl) | (simp; done))) | refine row_step (by first | assumption | exact below_alloc1 _ _ | exact below_drew1 _ | exact below_drewN0 _ _) ?_ | refine block_below (by first | assumption | exact below_alloc1 _ _ | exact below_drew1 _ | exact below_drewN0 _ _) ?_ | refine below_then ?_ (by first | assumption | exact below_alloc1 _ _ | exact below_drew1 _ | exact below_drewN0 _ _))
  obtain ⟨c0, c1, c2, c3, c4⟩ := cells5' hF2
  go_wp2_with fail
  by_cases h3 : rightV x i r n m = true
  rotate_left
  · refine (refFrRight_q x i r n A m c _ false (by simpa using h3)).mono ?_
    rintro e w3 ⟨rfl, hB3⟩
    clear h3
    go_wp2_with fail
    go_ret
    exact ⟨rfl, by repeat (first | assumption | exact Below.refl _ _ | ((with_reducible refine lit2 _ _ _ _ _ ?_); (first | (with_reducible rfl) | (simp; done))) | ((with_reducible refine lit1 _ _ _ _ ?_); (first | (with_reducible rfl) | (simp; done))) | refine row_step (by first | assumption | exact below_alloc1 _ _ | exact below_drew1 _ | exact below_drewN0 _ _) ?_ | refine block_below (by first | assumption | exact below_alloc1 _ _ | exact below_drew1 _ | exact below_drewN0 _ _) ?_ | refine below_then ?_ (by first | assumption | exact below_alloc1 _ _ | exact below_drew1 _ | exact below_drewN0 _ _))⟩
  obtain ⟨ID, L, rfl, rfl, hID, hL, hmr⟩ := right_ok h3
  have H3 := Lib.hid h3
  have HMr := Lib.hid hmr
  clear h3 hmr
  refine (refFrRight_q x ID r L A m c _ true H3.out).mono ?_
  rintro e w3 ⟨rfl, hB3⟩
  clear c0 c1 c2 c3 c4
  have hF3 : w3.heap[w.heap.size]? = some (.cells #[.bool x, .int .i64 ID, .bool r, .int .i64 L, .slice A m c] 24) := by repeat (first | assumption | exact Below.refl _ _ | ((with_reducible refine lit2 _ _ _ _ _ ?_); (first | (with_reducible rfl) | (simp; done))) | ((with_reducible refine lit1 _ _ _ _ ?_); (first | (with_reducible rfl) | (simp; done))) | refine row_step (by first | assumption | exact below_alloc1 _ _ | exact below_drew1 _ | exact below_drewN0 _ _) ?_ | refine block_below (by first | assumption | exact below_alloc1 _ _ | exact below_drew1 _ | exact below_drewN0 _ _) ?_ | refine below_then ?_ (by first | assumption | exact below_alloc1 _ _ | exact below_drew1 _ | exact below_drewN0 _ _))
  obtain ⟨w4, hw4⟩ : ∃ w4, w3.alloc (.cells #[] 3) = w4 := ⟨_, rfl⟩
  have hB4 : Below w3.heap.size w3 w4 := by rw [← hw4]; exact below_alloc1 _ _
  have own4 : w4.ownsRow w3.heap.size 3 1 (.slice (some ⟨w3.heap.size, 0, none⟩) 0 0) 0 (([] : List Int).map (Value.int .i64)) := by rw [← hw4]; exact own_lit w3 .i64 [] 0 rfl 3 (cs := #[]) rfl (by decide)
  have hF4 := obj_below hF3 hB4
  obtain ⟨c0, c1, c2, c3, c4⟩ := cells5' hF4
  rw [← hw4] at c0 c1 c2 c3 c4
  obtain ⟨T, hT⟩ : ∃ T, headV x ID r L dl = T := ⟨_, rfl⟩
  have hO : HeadOf T ⟨x, ID, r, L, dl⟩ := by rw [← hT]; exact headOf x ID r L dl hID hL HB.out (by rw [HD.out]; exact HMr.out)
  have hTl : T.length = hn x + 8 * m := by rw [← hT, headV_len, HD.out]
  obtain ⟨M, hM⟩ : ∃ M, (stuffL (bareV T)).length = M := ⟨_, rfl⟩
  have hN : (sentV T).length = M + 10 := by rw [sentV_len, hM]
  have hMb : 34 ≤ M ∧ M ≤ 3000 := by
    have e1 := sent_min T
    have e2 := sentV_len T
    have e3 := stuffL_most (bareV T)
    rw [bareV_len] at e3
    have : hn x ≤ 39 := by cases x <;> decide
    have : 19 ≤ hn x := by cases x <;> decide
    omega
  have HT := Lib.hid hT
  have HM := Lib.hid hM
  have HN := Lib.hid hN
  have HO := Lib.hid hO
  obtain ⟨hMa, hMc⟩ := hMb
  have HW4 := Lib.hid hw4
  clear hT hM hN hO hTl hw4
  go_wp2_with fail
  rw [HW4.out]
  refine (wireBits_at x ID r L dl m HD.out A c hID hL _ (by repeat (first | assumption | exact Below.refl _ _ | ((with_reducible refine lit2 _ _ _ _ _ ?_); (first | (with_reducible rfl) | (simp; done))) | ((with_reducible refine lit1 _ _ _ _ ?_); (first | (with_reducible rfl) | (simp; done))) | refine row_step (by first | assumption | exact below_alloc1 _ _ | exact below_drew1 _ | exact below_drewN0 _ _) ?_ | refine block_below (by first | assumption | exact below_alloc1 _ _ | exact below_drew1 _ | exact below_drewN0 _ _) ?_ | refine below_then ?_ (by first | assumption | exact below_alloc1 _ _ | exact below_drew1 _ | exact below_drewN0 _ _))) HB.out (by omega) T HT.out (M + 10) HN.out).mono ?_
  rintro e w5 ⟨A5, c5, rfl, hr5, hc5, hB5⟩
  clear c0 c1 c2 c3 c4
  have own5 := own_to own4 hB5
  have hF5 := obj_below hF4 hB5
  have bs5 : w3.heap.size ≤ w5.heap.size := (below_then hB4 hB5).size
  obtain ⟨j, hj⟩ : ∃ j, at_ % 10 = j := ⟨_, rfl⟩
  have hj10 : j < 10 := by rw [← hj]; exact Nat.mod_lt _ (by omega)
  have hmod : (at_ : Int) % 10 = (j : Int) := by rw [← hj]; simp
  have htmod : Int.tmod (at_ : Int) 10 = (j : Int) := by rw [Int.tmod_eq_emod_of_nonneg (by omega)]; exact hmod
  have e9 : (M : Int) + 10 - 9 = (M : Int) + 1 := by omega
  have hv1 := sent_one' (T := T) (j := 1) (by omega)
  have hvj := sent_one' (T := T) (j := j) hj10
  rw [HM.out] at hv1 hvj
  have p1 : (0 : Int) ≤ (M : Int) + 1 := by omega
  have p2 : (M : Int) + 1 < (M : Int) + 10 := by omega
  have p3 : (0 : Int) ≤ (M : Int) + (j : Int) := by omega
  have p4 : (M : Int) + (j : Int) < (M : Int) + 10 := by omega
  have t20 : decide ((M : Int) + 10 < 20) = false := by simp; omega
  have hh : heardV T = (sentV T).set (M + 1) 0 := by unfold heardV; rw [HN.out]; rfl
  have Hh := Lib.hid hh
  have Hv1 := Lib.hid hv1
  have Hvj := Lib.hid hvj
  clear hh hv1 hvj hj hmod
  have hFlt : w.heap.size < w3.heap.size := (Array.getElem?_eq_some_iff.1 hF3).1
  have dl5 : Row .u8 w5 w5.heap.size A dl := by repeat (first | assumption | exact Below.refl _ _ | ((with_reducible refine lit2 _ _ _ _ _ ?_); (first | (with_reducible rfl) | (simp; done))) | ((with_reducible refine lit1 _ _ _ _ ?_); (first | (with_reducible rfl) | (simp; done))) | refine row_step (by first | assumption | exact below_alloc1 _ _ | exact below_drew1 _ | exact below_drewN0 _ _) ?_ | refine block_below (by first | assumption | exact below_alloc1 _ _ | exact below_drew1 _ | exact below_drewN0 _ _) ?_ | refine below_then ?_ (by first | assumption | exact below_alloc1 _ _ | exact below_drew1 _ | exact below_drewN0 _ _))
  have tot5 : Below w.heap.size w w5 := by repeat (first | assumption | exact Below.refl _ _ | ((with_reducible refine lit2 _ _ _ _ _ ?_); (first | (with_reducible rfl) | (simp; done))) | ((with_reducible refine lit1 _ _ _ _ ?_); (first | (with_reducible rfl) | (simp; done))) | refine row_step (by first | assumption | exact below_alloc1 _ _ | exact below_drew1 _ | exact below_drewN0 _ _) ?_ | refine block_below (by first | assumption | exact below_alloc1 _ _ | exact below_drew1 _ | exact below_drewN0 _ _) ?_ | refine below_then ?_ (by first | assumption | exact below_alloc1 _ _ | exact below_drew1 _ | exact below_drewN0 _ _))
  by_cases h1j : j = 1
  · subst h1j
    go_wp2_with (at_builtin; refine wpList_append_row _ .i64 rfl _ _ 25 rfl w3.heap.size 3 i0 (.int .i64 0) 8 Try.underlying25 hi hz0 hz1 hz2 rfl _ 0 [] rfl own5 A5 (M + 10) c5 _ (sentV T) rfl HN.out hr5 (by unfold maxLen; omega) (by omega) bs5 ?_; intro A6 c6 w6 hown6 hc6 hB6; rw [Nat.zero_add, List.nil_append] at hown6; obtain ⟨g6, hg6, hgb6⟩ := own_block hown6 (by omega); subst hg6; obtain ⟨q1, q2⟩ := ownsRow_cell hown6 Hv1.out)
    have o7 := ownsRow_set (ownsRow_set hown6 (M + 1) 0) (M + 1) 1
    have hr7 := Row.own o7
    rw [← Hh.out] at hr7
    have tot7 : Below w.heap.size w ((w6.setCell ⟨g6, M + 1, none⟩ (.int .i64 0)).setCell ⟨g6, M + 1, none⟩ (.int .i64 1)) := ((tot5.trans (hB6.mono (Nat.le_of_lt hFlt))).setCell (p := ⟨g6, M + 1, none⟩) (by simp; omega) _).setCell (p := ⟨g6, M + 1, none⟩) (by simp; omega) _
    have hF7 : ((w6.setCell ⟨g6, M + 1, none⟩ (.int .i64 0)).setCell ⟨g6, M + 1, none⟩ (.int .i64 1)).heap[w.heap.size]? = some (.cells #[.bool x, .int .i64 ID, .bool r, .int .i64 L, .slice A m c] 24) := (Below.heap_setCell _ _ _ _ (by simp; omega)).trans ((Below.heap_setCell _ _ _ _ (by simp; omega)).trans ((hB6.block _ hFlt).trans hF5))
    have dl7 := h.to tot7
    generalize (w6.setCell ⟨g6, M + 1, none⟩ (.int .i64 0)).setCell ⟨g6, M + 1, none⟩ (.int .i64 1) = w7 at hr7 tot7 hF7 dl7 ⊢
    clear o7 q1 q2 hown6 hB6 hF5 dl5 tot5 hF3 hF4 hB3 hB4 hB5 own4 own5 hr5
    have hres : wireRd ((heardV T).set (M + 1) 1) = (⟨x, ID, r, L, dl⟩, 5, (M : Int) + 1) := by
      have := heard_flip1 HO.out (K := M + 1) (by rw [HN.out])
      simpa using this
    have hri : rightB ((heardV T).set (M + 1) 1) = true := by
      apply set_right _ _ _ (.inr rfl)
      rw [Hh.out]
      exact set_right (sent_right HO.out) _ _ (.inl rfl)
    have hle : ((heardV T).set (M + 1) 1).length = M + 10 := by rw [List.length_set, Hh.out, List.length_set, HN.out]
    refine (wireRead_at _ (M + 10) hle _ c6 w7 hr7 hri (by omega) x ID r L dl 5 ((M : Int) + 1) hres).mono ?_
    rintro e w8 ⟨D8, m8, c8, rfl, hm8, hmc8, hr8, hB8⟩
    obtain rfl : m = m8 := HD.out.symm.trans hm8
    have tot8 := below_then tot7 hB8
    have dl8 := dl7.to hB8
    obtain ⟨c0, c1, c2, c3, c4⟩ := cells5' (block_below (below_alloc1 w8 (.cells #[.bool x, .int .i64 ID, .bool r, .int .i64 L, .slice D8 m c8] 24)) (obj_below hF7 hB8))
    clear hres hri hle hr7 hm8
    go_wp2_with fail
    obtain ⟨w9, hw9⟩ : ∃ w9, w8.alloc (.cells #[.bool x, .int .i64 ID, .bool r, .int .i64 L, .slice D8 m c8] 24) = w9 := ⟨_, rfl⟩
    have hB9 := below_lits hw9
    rw [hw9]
    clear hw9 c0 c1 c2 c3 c4
    refine (refFrSame_at x ID r L dl m HD.out D8 c8 x ID r L dl m HD.out A c _ (hr8.to hB9) (dl8.to hB9) HB.out HB.out true (sameV_self _ _ _ _ _)).mono ?_
    rintro e w10 ⟨rfl, hB10⟩
    go_wp2_with fail
    go_ret
    exact ⟨rfl, below_then tot8 (below_then hB9 hB10)⟩
  · have hne : ¬ M + j = M + 1 := by omega
    have z1 : ((M : Int) + (j : Int) == (M : Int) + 1) = false := by simp; omega
    have z2 : ((j : Int) == 1) = false := by simp; omega
    have z3 : ¬ (j : Int) = 1 := by omega
    go_wp2_with (at_builtin; refine wpList_append_row _ .i64 rfl _ _ 25 rfl w3.heap.size 3 i0 (.int .i64 0) 8 Try.underlying25 hi hz0 hz1 hz2 rfl _ 0 [] rfl own5 A5 (M + 10) c5 _ (sentV T) rfl HN.out hr5 (by unfold maxLen; omega) (by omega) bs5 ?_; intro A6 c6 w6 hown6 hc6 hB6; rw [Nat.zero_add, List.nil_append] at hown6; obtain ⟨g6, hg6, hgb6⟩ := own_block hown6 (by omega); subst hg6; obtain ⟨q1, q2⟩ := ownsRow_cell hown6 Hv1.out; obtain ⟨q3, q4⟩ := ownsRow_cell hown6 Hvj.out)
    have o7 := ownsRow_set (ownsRow_set hown6 (M + 1) 0) (M + j) 0
    have hr7 := Row.own o7
    rw [← Hh.out] at hr7
    have tot7 : Below w.heap.size w ((w6.setCell ⟨g6, M + 1, none⟩ (.int .i64 0)).setCell ⟨g6, M + j, none⟩ (.int .i64 0)) := ((tot5.trans (hB6.mono (Nat.le_of_lt hFlt))).setCell (p := ⟨g6, M + 1, none⟩) (by simp; omega) _).setCell (p := ⟨g6, M + j, none⟩) (by simp; omega) _
    generalize (w6.setCell ⟨g6, M + 1, none⟩ (.int .i64 0)).setCell ⟨g6, M + j, none⟩ (.int .i64 0) = w7 at hr7 tot7 ⊢
    clear o7 q1 q2 q3 q4 hown6 hB6 hF5 dl5 tot5 hF3 hF4 hB3 hB4 hB5 own4 own5 hr5
    have hres : wireRd ((heardV T).set (M + j) 0) = (⟨false, 0, false, 0, []⟩, 3, (M : Int) + (j : Int)) := by
      have := heard_flip HO.out hj10 h1j
      rw [HM.out] at this
      simpa [Fr.none_] using this
    have hri : rightB ((heardV T).set (M + j) 0) = true := by
      apply set_right _ _ _ (.inl rfl)
      rw [Hh.out]
      exact set_right (sent_right HO.out) _ _ (.inl rfl)
    have hle : ((heardV T).set (M + j) 0).length = M + 10 := by rw [List.length_set, Hh.out, List.length_set, HN.out]
    refine (wireRead_at _ (M + 10) hle _ c6 w7 hr7 hri (by omega) false 0 false 0 [] 3 ((M : Int) + (j : Int)) hres).mono ?_
    rintro e w8 ⟨D8, m8, c8, rfl, hm8, hmc8, hr8, hB8⟩
    obtain rfl : 0 = m8 := hm8
    have tot8 := below_then tot7 hB8
    clear hres hri hle hr7
    go_wp2_with fail
    obtain ⟨w9, hw9⟩ : ∃ w9, w8.alloc (.cells #[.bool false, .int .i64 0, .bool false, .int .i64 0, .slice D8 0 c8] 24) = w9 := ⟨_, rfl⟩
    have hB9 := below_lits hw9
    rw [hw9]
    clear hw9
    refine (refFrSame_at false 0 false 0 [] 0 rfl D8 c8 false 0 false 0 [] 0 rfl none 0 _ (.inl rfl) (.inl rfl) byte_nil byte_nil true (by decide)).mono ?_
    rintro e w10 ⟨rfl, hB10⟩
    go_wp2_with fail
    go_ret
    exact ⟨rfl, below_then tot8 (below_then hB9 hB10)⟩

end Go.Proofs.Ytmapkjjglhpamaa
