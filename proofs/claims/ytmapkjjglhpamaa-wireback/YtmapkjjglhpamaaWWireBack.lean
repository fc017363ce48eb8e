/-
  WireBack. (Written by wip/tools/mk_wwalk.py.)
-/
import Derived.Test.YtmapkjjglhpamaaWLaw
import Derived.Test.YtmapkjjglhpamaaHead5
namespace Go.Proofs.Ytmapkjjglhpamaa
open Go.RowKit

set_option maxRecDepth 100000 in
set_option maxHeartbeats 2000000 in
theorem wireBack_walk (x : Bool) (i : Int) (r : Bool) (n : Int) (dl : List Int) (m : Nat) (hdl : dl.length = m) (A : Option Addr) (c : Nat) (more : List Int) (nm : Nat) (hnm : more.length = nm) (B : Option Addr) (cB : Nat)
    (w : World) (h : Row .u8 w w.heap.size A dl) (hb : byteB dl) (hr : Row .i64 w w.heap.size B more) (hmm : nm ≤ maxLen) :
    Calls Try.prog 4 #[.agg #[.bool x, .int .i64 i, .bool r, .int .i64 n, .slice A m c], .slice B nm cB] w fun e w' => e = .returned (.bool true) ∧ Below w.heap.size w w' := by
  obtain ⟨i0, hi, hz0, hz1, hz2⟩ := info_parts Try.infoInt
  have HD := Lib.hid hdl
  have HB := Lib.hid hb
  clear hdl hb
  have HM := Lib.hid hnm
  clear hnm
  obtain ⟨w0, hw0⟩ : ∃ w0, w.alloc (.cells #[.bool x, .int .i64 i, .bool r, .int .i64 n, .slice A m c] 24) = w0 := ⟨_, rfl⟩
  have hB0 : Below w.heap.size w w0 := by rw [← hw0]; exact below_alloc1 _ _
  have hF0 : w0.heap[w.heap.size]? = some (.cells #[.bool x, .int .i64 i, .bool r, .int .i64 n, .slice A m c] 24) := by rw [← hw0]; exact World.alloc_heap_new _ _
  have HW0 := Lib.hid hw0
  clear hw0
  go_enter Try.func4, Try.ntmps4
  go_wp2_with fail
  rw [HW0.out]
  clear HW0
  refine (head5_any _).mono ?_
  rintro e w1 ⟨rfl, hB1⟩
  have hF1 : w1.heap[w.heap.size]? = some (.cells #[.bool x, .int .i64 i, .bool r, .int .i64 n, .slice A m c] 24) := by repeat (first | assumption | exact Below.refl _ _ | ((with_reducible refine lit2 _ _ _ _ _ ?_); (first | (with_reducible rfl) | (simp; done))) | ((with_reducible refine lit1 _ _ _ _ ?_); (first | (with_reducible rfl) | (simp; done))) | refine row_step (by first | assumption | exact below_alloc1 _ _ | exact below_drew1 _ | exact below_drewN0 _ _) ?_ | refine block_below (by first | assumption | exact below_alloc1 _ _ | exact below_drew1 _ | exact below_drewN0 _ _) ?_ | refine below_then ?_ (by first | assumption | exact below_alloc1 _ _ | exact below_drew1 _ | exact below_drewN0 _ _))
  obtain ⟨c0, c1, c2, c3, c4⟩ := cells5' hF1
  go_wp2_with fail
  by_cases h1 : 100 < m
  · refine (great_q x i r n A m c _ true (by simp; omega)).mono ?_
    rintro e w2 ⟨rfl, hB2⟩
    go_wp2_with fail
    go_ret
    exact ⟨rfl, by repeat (first | assumption | exact Below.refl _ _ | ((with_reducible refine lit2 _ _ _ _ _ ?_); (first | (with_reducible rfl) | (simp; done))) | ((with_reducible refine lit1 _ _ _ _ ?_); (first | (with_reducible rfl) | (simp; done))) | refine row_step (by first | assumption | exact below_alloc1 _ _ | exact below_drew1 _ | exact below_drewN0 _ _) ?_ | refine block_below (by first | assumption | exact below_alloc1 _ _ | exact below_drew1 _ | exact below_drewN0 _ _) ?_ | refine below_then ?_ (by first | assumption | exact below_alloc1 _ _ | exact below_drew1 _ | exact below_drewN0 _ _))⟩
  refine (great_q x i r n A m c _ false (by simp; omega)).mono ?_
  rintro e w2 ⟨rfl, hB2⟩
  clear c0 c1 c2 c3 c4
  have hF2 : w2.heap[w.heap.size]? = some (.cells #[.bool x, .int .i64 i, .bool r, .int .i64 n, .slice A m c] 24) := by repeat (first | assumption | exact Below.refl _ _ | ((with_reducible refine lit2 _ _ _ _ _ ?_); (first | (with_reducible rfl) | (simp; done))) | ((with_reducible refine lit1 _ _ _ _ ?_); (first | (with_reducible rfl) | (simp; done))) | refine row_step (by first | assumption | exact below_alloc1 _ _ | exact below_drew1 _ | exact below_drewN0 _ _) ?_ | refine block_below (by first | assumption | exact below_alloc1 _ _ | exact below_drew1 _ | exact below_drewN0 _ _) ?_ | refine below_then ?_ (by first | assumption | exact below_alloc1 _ _ | exact below_drew1 _ | exact below_drewN0 _ _))
  obtain ⟨c0, c1, c2, c3, c4⟩ := cells5' hF2
  go_wp2_with fail
  by_cases h3 : rightV x i r n m = true
  rotate_left
  · refine (refFrRight_q x i r n A m c _ false (by simpa using h3)).mono ?_
    rintro e w3 ⟨rfl, hB3⟩
    clear h3
    go_wp2_with fail
    go_ret
    exact ⟨rfl, by repeat (first | assumption | exact Below.refl _ _ | ((with_reducible refine lit2 _ _ _ _ _ ?_); (first | (with_reducible rfl) | (simp; done))) | ((with_reducible refine lit1 _ _ _ _ ?_); (first | (with_reducible rfl) | (simp; done))) | refine row_step (by first | assumption | exact below_alloc1 _ _ | exact below_drew1 _ | exact below_drewN0 _ _) ?_ | refine block_below (by first | assumption | exact below_alloc1 _ _ | exact below_drew1 _ | exact below_drewN0 _ _) ?_ | refine below_then ?_ (by first | assumption | exact below_alloc1 _ _ | exact below_drew1 _ | exact below_drewN0 _ _))⟩
  obtain ⟨ID, L, rfl, rfl, hID, hL, hmr⟩ := right_ok h3
  have H3 := Lib.hid h3
  have HMr := Lib.hid hmr
  clear h3 hmr
  refine (refFrRight_q x ID r L A m c _ true H3.out).mono ?_
  rintro e w3 ⟨rfl, hB3⟩
  clear c0 c1 c2 c3 c4
  have hF3 : w3.heap[w.heap.size]? = some (.cells #[.bool x, .int .i64 ID, .bool r, .int .i64 L, .slice A m c] 24) := by repeat (first | assumption | exact Below.refl _ _ | ((with_reducible refine lit2 _ _ _ _ _ ?_); (first | (with_reducible rfl) | (simp; done))) | ((with_reducible refine lit1 _ _ _ _ ?_); (first | (with_reducible rfl) | (simp; done))) | refine row_step (by first | assumption | exact below_alloc1 _ _ | exact below_drew1 _ | exact below_drewN0 _ _) ?_ | refine block_below (by first | assumption | exact below_alloc1 _ _ | exact below_drew1 _ | exact below_drewN0 _ _) ?_ | refine below_then ?_ (by first | assumption | exact below_alloc1 _ _ | exact below_drew1 _ | exact below_drewN0 _ _))
  by_cases h4 : 100 < nm
  · have d4 : decide ((100 : Int) < (nm : Int)) = true := by simp; omega
    go_wp2_with fail
    go_ret
    exact ⟨rfl, by repeat (first | assumption | exact Below.refl _ _ | ((with_reducible refine lit2 _ _ _ _ _ ?_); (first | (with_reducible rfl) | (simp; done))) | ((with_reducible refine lit1 _ _ _ _ ?_); (first | (with_reducible rfl) | (simp; done))) | refine row_step (by first | assumption | exact below_alloc1 _ _ | exact below_drew1 _ | exact below_drewN0 _ _) ?_ | refine block_below (by first | assumption | exact below_alloc1 _ _ | exact below_drew1 _ | exact below_drewN0 _ _) ?_ | refine below_then ?_ (by first | assumption | exact below_alloc1 _ _ | exact below_drew1 _ | exact below_drewN0 _ _))⟩
  have d4 : decide ((100 : Int) < (nm : Int)) = false := by simp; omega
  go_wp2_with fail
  by_cases h5 : rightB more = true
  rotate_left
  · refine (refRight_q more nm HM.out B cB _ (by repeat (first | assumption | exact Below.refl _ _ | ((with_reducible refine lit2 _ _ _ _ _ ?_); (first | (with_reducible rfl) | (simp; done))) | ((with_reducible refine lit1 _ _ _ _ ?_); (first | (with_reducible rfl) | (simp; done))) | refine row_step (by first | assumption | exact below_alloc1 _ _ | exact below_drew1 _ | exact below_drewN0 _ _) ?_ | refine block_below (by first | assumption | exact below_alloc1 _ _ | exact below_drew1 _ | exact below_drewN0 _ _) ?_ | refine below_then ?_ (by first | assumption | exact below_alloc1 _ _ | exact below_drew1 _ | exact below_drewN0 _ _))) hmm false (by simpa using h5)).mono ?_
    rintro e w4 ⟨rfl, hB4⟩
    clear h5
    go_wp2_with fail
    go_ret
    exact ⟨rfl, by repeat (first | assumption | exact Below.refl _ _ | ((with_reducible refine lit2 _ _ _ _ _ ?_); (first | (with_reducible rfl) | (simp; done))) | ((with_reducible refine lit1 _ _ _ _ ?_); (first | (with_reducible rfl) | (simp; done))) | refine row_step (by first | assumption | exact below_alloc1 _ _ | exact below_drew1 _ | exact below_drewN0 _ _) ?_ | refine block_below (by first | assumption | exact below_alloc1 _ _ | exact below_drew1 _ | exact below_drewN0 _ _) ?_ | refine below_then ?_ (by first | assumption | exact below_alloc1 _ _ | exact below_drew1 _ | exact below_drewN0 _ _))⟩
  have H5 := Lib.hid h5
  clear h5
  refine (refRight_q more nm HM.out B cB _ (by repeat (first | assumption | exact Below.refl _ _ | ((with_reducible refine lit2 _ _ _ _ _ ?_); (first | (with_reducible rfl) | (simp; done))) | ((with_reducible refine lit1 _ _ _ _ ?_); (first | (with_reducible rfl) | (simp; done))) | refine row_step (by first | assumption | exact below_alloc1 _ _ | exact below_drew1 _ | exact below_drewN0 _ _) ?_ | refine block_below (by first | assumption | exact below_alloc1 _ _ | exact below_drew1 _ | exact below_drewN0 _ _) ?_ | refine below_then ?_ (by first | assumption | exact below_alloc1 _ _ | exact below_drew1 _ | exact below_drewN0 _ _))) hmm true H5.out).mono ?_
  rintro e w4 ⟨rfl, hB4⟩
  have hF4 : w4.heap[w.heap.size]? = some (.cells #[.bool x, .int .i64 ID, .bool r, .int .i64 L, .slice A m c] 24) := by repeat (first | assumption | exact Below.refl _ _ | ((with_reducible refine lit2 _ _ _ _ _ ?_); (first | (with_reducible rfl) | (simp; done))) | ((with_reducible refine lit1 _ _ _ _ ?_); (first | (with_reducible rfl) | (simp; done))) | refine row_step (by first | assumption | exact below_alloc1 _ _ | exact below_drew1 _ | exact below_drewN0 _ _) ?_ | refine block_below (by first | assumption | exact below_alloc1 _ _ | exact below_drew1 _ | exact below_drewN0 _ _) ?_ | refine below_then ?_ (by first | assumption | exact below_alloc1 _ _ | exact below_drew1 _ | exact below_drewN0 _ _))
  obtain ⟨c0, c1, c2, c3, c4⟩ := cells5' hF4
  obtain ⟨T, hT⟩ : ∃ T, headV x ID r L dl = T := ⟨_, rfl⟩
  have hO : HeadOf T ⟨x, ID, r, L, dl⟩ := by rw [← hT]; exact headOf x ID r L dl hID hL HB.out (by rw [HD.out]; exact HMr.out)
  have hTl : T.length = hn x + 8 * m := by rw [← hT, headV_len, HD.out]
  obtain ⟨K, hK⟩ : ∃ K, (sentV T).length = K + 9 := ⟨(sentV T).length - 9, by have := sentV_len T; omega⟩
  have hKb : 35 ≤ K ∧ K ≤ 4000 := by
    have e1 := sent_min T
    have e2 := sentV_len T
    have e3 := stuffL_most (bareV T)
    rw [bareV_len] at e3
    have : hn x ≤ 39 := by cases x <;> decide
    have : 19 ≤ hn x := by cases x <;> decide
    omega
  have HT := Lib.hid hT
  have HK := Lib.hid hK
  have HO := Lib.hid hO
  have HTl := Lib.hid hTl
  obtain ⟨hKa, hKc⟩ := hKb
  clear hT hK hO hTl
  go_wp2_with fail
  refine (wireBits_at x ID r L dl m HD.out A c hID hL _ (by repeat (first | assumption | exact Below.refl _ _ | ((with_reducible refine lit2 _ _ _ _ _ ?_); (first | (with_reducible rfl) | (simp; done))) | ((with_reducible refine lit1 _ _ _ _ ?_); (first | (with_reducible rfl) | (simp; done))) | refine row_step (by first | assumption | exact below_alloc1 _ _ | exact below_drew1 _ | exact below_drewN0 _ _) ?_ | refine block_below (by first | assumption | exact below_alloc1 _ _ | exact below_drew1 _ | exact below_drewN0 _ _) ?_ | refine below_then ?_ (by first | assumption | exact below_alloc1 _ _ | exact below_drew1 _ | exact below_drewN0 _ _))) HB.out (by omega) T HT.out (K + 9) HK.out).mono ?_
  rintro e w5 ⟨A5, c5, rfl, hr5, hc5, hB5⟩
  clear c0 c1 c2 c3 c4
  have hF5 : w5.heap[w.heap.size]? = some (.cells #[.bool x, .int .i64 ID, .bool r, .int .i64 L, .slice A m c] 24) := by repeat (first | assumption | exact Below.refl _ _ | ((with_reducible refine lit2 _ _ _ _ _ ?_); (first | (with_reducible rfl) | (simp; done))) | ((with_reducible refine lit1 _ _ _ _ ?_); (first | (with_reducible rfl) | (simp; done))) | refine row_step (by first | assumption | exact below_alloc1 _ _ | exact below_drew1 _ | exact below_drewN0 _ _) ?_ | refine block_below (by first | assumption | exact below_alloc1 _ _ | exact below_drew1 _ | exact below_drewN0 _ _) ?_ | refine below_then ?_ (by first | assumption | exact below_alloc1 _ _ | exact below_drew1 _ | exact below_drewN0 _ _))
  have hb5 : Row .i64 w5 w5.heap.size B more := by repeat (first | assumption | exact Below.refl _ _ | ((with_reducible refine lit2 _ _ _ _ _ ?_); (first | (with_reducible rfl) | (simp; done))) | ((with_reducible refine lit1 _ _ _ _ ?_); (first | (with_reducible rfl) | (simp; done))) | refine row_step (by first | assumption | exact below_alloc1 _ _ | exact below_drew1 _ | exact below_drewN0 _ _) ?_ | refine block_below (by first | assumption | exact below_alloc1 _ _ | exact below_drew1 _ | exact below_drewN0 _ _) ?_ | refine below_then ?_ (by first | assumption | exact below_alloc1 _ _ | exact below_drew1 _ | exact below_drewN0 _ _))
  have o6 := own_lit w5 .i64 [] 0 rfl 3 (cs := #[]) rfl (by decide)
  have r6 := hr5.to (below_alloc1 w5 (.cells #[] 3))
  go_wp2_with (first
    | (at_builtin; have hq_ := hown6; clear hq_; refine wpList_append_row _ .i64 rfl _ _ 25 rfl w5.heap.size 3 i0 (.int .i64 0) 8 Try.underlying25 hi hz0 hz1 hz2 rfl _ (K + 9) (sentV T) rfl hown6 B nm cB _ more rfl HM.out hb6 (by unfold maxLen; omega) (by omega) hs6 ?_; intro A7 c7 w7 hown7 hc7 hB7)
    | (at_builtin; refine wpList_append_row _ .i64 rfl _ _ 25 rfl w5.heap.size 3 i0 (.int .i64 0) 8 Try.underlying25 hi hz0 hz1 hz2 rfl _ 0 [] rfl o6 A5 (K + 9) c5 _ (sentV T) rfl HK.out r6 (by unfold maxLen; omega) (by omega) (by simp) ?_; intro A6 c6 w6 hown6 hc6 hB6; rw [Nat.zero_add, List.nil_append] at hown6; have hs6 : w5.heap.size ≤ w6.heap.size := (by have := hB6.size; simp at this; omega); have hb6 : Row .i64 w6 w5.heap.size B more := (hb5.below ((below_alloc1 w5 (.cells #[] 3)))).below hB6))
  have hB7' : Below w5.heap.size w5 w7 := ((below_alloc1 w5 _).trans hB6).trans hB7
  clear o6 r6 hown6 hc6 hB6 hs6 hb6 hB7
  have hr7 := Row.own hown7
  have hln7 : (sentV T ++ more).length = K + 9 + nm := by rw [List.length_append, HK.out, HM.out]
  have Hln := Lib.hid hln7
  have HR7 := Lib.hid (show rightB (sentV T ++ more) = true by rw [rightB_append, sent_right HO.out, H5.out]; rfl)
  clear hln7
  refine (wireRead_new (sentV T ++ more) (K + 9 + nm) Hln.out A7 c7 w7 hr7 HR7.out (by omega) x ID r L dl 5 K (sent_back HO.out more HK.out)).mono ?_
  rintro e w8 ⟨D8, m8, c8, rfl, hm8, hmc8, hr8, hnew8, hB8⟩
  obtain rfl : m = m8 := HD.out.symm.trans hm8
  have hown8 := own_to hown7 hB8
  have hF8 : w8.heap[w.heap.size]? = some (.cells #[.bool x, .int .i64 ID, .bool r, .int .i64 L, .slice A m c] 24) := by repeat (first | assumption | exact Below.refl _ _ | ((with_reducible refine lit2 _ _ _ _ _ ?_); (first | (with_reducible rfl) | (simp; done))) | ((with_reducible refine lit1 _ _ _ _ ?_); (first | (with_reducible rfl) | (simp; done))) | refine row_step (by first | assumption | exact below_alloc1 _ _ | exact below_drew1 _ | exact below_drewN0 _ _) ?_ | refine block_below (by first | assumption | exact below_alloc1 _ _ | exact below_drew1 _ | exact below_drewN0 _ _) ?_ | refine below_then ?_ (by first | assumption | exact below_alloc1 _ _ | exact below_drew1 _ | exact below_drewN0 _ _))
  have hA8 : Row .u8 w8 w8.heap.size A dl := by repeat (first | assumption | exact Below.refl _ _ | ((with_reducible refine lit2 _ _ _ _ _ ?_); (first | (with_reducible rfl) | (simp; done))) | ((with_reducible refine lit1 _ _ _ _ ?_); (first | (with_reducible rfl) | (simp; done))) | refine row_step (by first | assumption | exact below_alloc1 _ _ | exact below_drew1 _ | exact below_drewN0 _ _) ?_ | refine block_below (by first | assumption | exact below_alloc1 _ _ | exact below_drew1 _ | exact below_drewN0 _ _) ?_ | refine below_then ?_ (by first | assumption | exact below_alloc1 _ _ | exact below_drew1 _ | exact below_drewN0 _ _))
  have hT8 : Below w.heap.size w w8 := by repeat (first | assumption | exact Below.refl _ _ | ((with_reducible refine lit2 _ _ _ _ _ ?_); (first | (with_reducible rfl) | (simp; done))) | ((with_reducible refine lit1 _ _ _ _ ?_); (first | (with_reducible rfl) | (simp; done))) | refine row_step (by first | assumption | exact below_alloc1 _ _ | exact below_drew1 _ | exact below_drewN0 _ _) ?_ | refine block_below (by first | assumption | exact below_alloc1 _ _ | exact below_drew1 _ | exact below_drewN0 _ _) ?_ | refine below_then ?_ (by first | assumption | exact below_alloc1 _ _ | exact below_drew1 _ | exact below_drewN0 _ _))
  -- the acknowledgement is written
  obtain ⟨g, hg, hgb⟩ : ∃ g, A7 = some ⟨g, 0, none⟩ ∧ w5.heap.size ≤ g := by
    rcases hown8.2 with ⟨e1, e2⟩ | ⟨g, cap, cur, e1, hb, _⟩
    · omega
    · exact ⟨g, by injection e1, hb⟩
  subst hg
  have hlt7 := (hown7.lt g rfl).2
  have hlt8 := (hown8.lt g rfl).2
  have hne8 : ¬ g = w8.heap.size := by omega
  have hw5 : w.heap.size < w5.heap.size := (Array.getElem?_eq_some_iff.1 hF5).1
  obtain ⟨y, hy⟩ : ∃ y, (sentV T ++ more)[K]? = some y := ⟨_, List.getElem?_eq_getElem (by rw [Hln.out]; omega)⟩
  obtain ⟨q1, q2⟩ := ownsRow_cell hown8 hy
  have hr9 := Row.own (ownsRow_set hown8 K 0)
  have hF9 : (w8.setCell ⟨g, K, none⟩ (.int .i64 0)).heap[w.heap.size]? = some (.cells #[.bool x, .int .i64 ID, .bool r, .int .i64 L, .slice A m c] 24) := (Below.heap_setCell _ _ _ _ (by simp; omega)).trans hF8
  have hD9 : Row .u8 (w8.setCell ⟨g, K, none⟩ (.int .i64 0)) (w8.setCell ⟨g, K, none⟩ (.int .i64 0)).heap.size D8 dl := by
    have := row_set (g := g) (k := K) (v := .int .i64 0) hr8 (hnew8.imp id fun ⟨ad, e1, e2⟩ => ⟨ad, e1, by omega⟩)
    simpa using this
  have hT9 : Below w.heap.size w (w8.setCell ⟨g, K, none⟩ (.int .i64 0)) := hT8.setCell (p := ⟨g, K, none⟩) (by simp; omega) _
  have hA9 := h.to hT9
  have hsz9 : (w8.setCell ⟨g, K, none⟩ (.int .i64 0)).heap.size = w8.heap.size := by simp
  have p1 : (0 : Int) ≤ (K : Int) + 9 - 9 := by omega
  have p2 : (K : Int) + 9 - 9 < ((K + 9 + nm : Nat) : Int) := by omega
  have p3 : K < K + 9 + nm := by omega
  have t20 : decide ((K : Int) + 9 < 20) = false := by simp; omega
  clear hy hr8 hnew8 hown8 hown7 hr7 hF8 hA8 hT8 hB7' hB8 hr5 hb5 hB0 hB1 hB2 hB3 hB4 hB5 hF0 hF1 hF2 hF3 hF4 hF5 h hr hm8
  go_wp2_with fail
  clear q1 q2 hlt8 hne8
  generalize w8.setCell ⟨g, K, none⟩ (.int .i64 0) = w9 at hr9 hF9 hD9 hT9 hA9 hsz9 ⊢
  rw [← hsz9]
  have hlt9 : w.heap.size < w9.heap.size := (Array.getElem?_eq_some_iff.1 hF9).1
  obtain ⟨w10, hw10⟩ : ∃ w10, w9.alloc (.cells #[.bool x, .int .i64 ID, .bool r, .int .i64 L, .slice D8 m c8] 24) = w10 := ⟨_, rfl⟩
  have hB10 := below_lits hw10
  have hG10 : w10.heap[w9.heap.size]? = some (.cells #[.bool x, .int .i64 ID, .bool r, .int .i64 L, .slice D8 m c8] 24) := by rw [← hw10]; exact World.alloc_heap_new _ _
  rw [hw10]
  clear hw10
  refine (wireRead_at _ (K + 9 + nm) (by rw [List.length_set]; exact Hln.out) _ c7 w10 (hr9.to hB10) (set_right HR7.out K 0 (.inl rfl)) (by omega) x ID r L dl 0 (-1) (heard_back HO.out more HK.out)).mono ?_
  rintro e w11 ⟨D11, m11, c11, rfl, hm11, hmc11, hr11, hB11⟩
  obtain rfl : m = m11 := HD.out.symm.trans hm11
  clear hm11 hr9
  have hF11 : w11.heap[w.heap.size]? = some (.cells #[.bool x, .int .i64 ID, .bool r, .int .i64 L, .slice A m c] 24) := by repeat (first | assumption | exact Below.refl _ _ | ((with_reducible refine lit2 _ _ _ _ _ ?_); (first | (with_reducible rfl) | (simp; done))) | ((with_reducible refine lit1 _ _ _ _ ?_); (first | (with_reducible rfl) | (simp; done))) | refine row_step (by first | assumption | exact below_alloc1 _ _ | exact below_drew1 _ | exact below_drewN0 _ _) ?_ | refine block_below (by first | assumption | exact below_alloc1 _ _ | exact below_drew1 _ | exact below_drewN0 _ _) ?_ | refine below_then ?_ (by first | assumption | exact below_alloc1 _ _ | exact below_drew1 _ | exact below_drewN0 _ _))
  have hG11 : w11.heap[w9.heap.size]? = some (.cells #[.bool x, .int .i64 ID, .bool r, .int .i64 L, .slice D8 m c8] 24) := by repeat (first | assumption | exact Below.refl _ _ | ((with_reducible refine lit2 _ _ _ _ _ ?_); (first | (with_reducible rfl) | (simp; done))) | ((with_reducible refine lit1 _ _ _ _ ?_); (first | (with_reducible rfl) | (simp; done))) | refine row_step (by first | assumption | exact below_alloc1 _ _ | exact below_drew1 _ | exact below_drewN0 _ _) ?_ | refine block_below (by first | assumption | exact below_alloc1 _ _ | exact below_drew1 _ | exact below_drewN0 _ _) ?_ | refine below_then ?_ (by first | assumption | exact below_alloc1 _ _ | exact below_drew1 _ | exact below_drewN0 _ _))
  have hA11 : Row .u8 w11 w11.heap.size A dl := by repeat (first | assumption | exact Below.refl _ _ | ((with_reducible refine lit2 _ _ _ _ _ ?_); (first | (with_reducible rfl) | (simp; done))) | ((with_reducible refine lit1 _ _ _ _ ?_); (first | (with_reducible rfl) | (simp; done))) | refine row_step (by first | assumption | exact below_alloc1 _ _ | exact below_drew1 _ | exact below_drewN0 _ _) ?_ | refine block_below (by first | assumption | exact below_alloc1 _ _ | exact below_drew1 _ | exact below_drewN0 _ _) ?_ | refine below_then ?_ (by first | assumption | exact below_alloc1 _ _ | exact below_drew1 _ | exact below_drewN0 _ _))
  have hD11 : Row .u8 w11 w11.heap.size D8 dl := by repeat (first | assumption | exact Below.refl _ _ | ((with_reducible refine lit2 _ _ _ _ _ ?_); (first | (with_reducible rfl) | (simp; done))) | ((with_reducible refine lit1 _ _ _ _ ?_); (first | (with_reducible rfl) | (simp; done))) | refine row_step (by first | assumption | exact below_alloc1 _ _ | exact below_drew1 _ | exact below_drewN0 _ _) ?_ | refine block_below (by first | assumption | exact below_alloc1 _ _ | exact below_drew1 _ | exact below_drewN0 _ _) ?_ | refine below_then ?_ (by first | assumption | exact below_alloc1 _ _ | exact below_drew1 _ | exact below_drewN0 _ _))
  have hT11 : Below w.heap.size w w11 := hT9.trans ((below_then hB10 hB11).mono (Nat.le_of_lt hlt9))
  clear hF9 hG10 hA9 hD9 hT9 hB10 hB11 hsz9
  obtain ⟨c0, c1, c2, c3, c4⟩ := cells5' (block_below (below_alloc1 w11 (.cells #[.bool x, .int .i64 ID, .bool r, .int .i64 L, .slice D11 m c11] 24)) hF11)
  obtain ⟨d0, d1, d2, d3, d4'⟩ := cells5' (block_below (below_alloc1 w11 (.cells #[.bool x, .int .i64 ID, .bool r, .int .i64 L, .slice D11 m c11] 24)) hG11)
  go_wp2_with fail
  obtain ⟨w12, hw12⟩ : ∃ w12, w11.alloc (.cells #[.bool x, .int .i64 ID, .bool r, .int .i64 L, .slice D11 m c11] 24) = w12 := ⟨_, rfl⟩
  have hB12 := below_lits hw12
  have hX12 : w12.heap[w11.heap.size]? = some (.cells #[.bool x, .int .i64 ID, .bool r, .int .i64 L, .slice D11 m c11] 24) := by rw [← hw12]; exact World.alloc_heap_new _ _
  rw [hw12]
  clear hw12 c0 c1 c2 c3 c4 d0 d1 d2 d3 d4'
  refine (refFrSame_at x ID r L dl m HD.out D8 c8 x ID r L dl m HD.out A c _ (hD11.to hB12) (hA11.to hB12) HB.out HB.out true (sameV_self _ _ _ _ _)).mono ?_
  rintro e w13 ⟨rfl, hB13⟩
  have hB1213 := below_then hB12 hB13
  obtain ⟨c0, c1, c2, c3, c4⟩ := cells5' (obj_below hF11 hB1213)
  obtain ⟨d0, d1, d2, d3, d4'⟩ := cells5' (obj_below hX12 hB13)
  have tk : ((K : Int) == (K : Int) + 9 - 9) = true := by simp
  have tk2 : (K : Int) + 9 - 9 = (K : Int) := by omega
  go_wp2_with fail
  refine (refFrSame_at x ID r L dl m HD.out D11 c11 x ID r L dl m HD.out A c _ (hr11.to hB1213) (hA11.to hB1213) HB.out HB.out true (sameV_self _ _ _ _ _)).mono ?_
  rintro e w14 ⟨rfl, hB14⟩
  go_wp2_with fail
  go_ret
  exact ⟨rfl, hT11.trans ((below_then hB1213 hB14).mono hT11.size)⟩

end Go.Proofs.Ytmapkjjglhpamaa
