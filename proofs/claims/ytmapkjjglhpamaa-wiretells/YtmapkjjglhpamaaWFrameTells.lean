/-
  FrameTells, walked: whether frames are right, or alike, a right one's head and rank, and the frame of any right bits, are the document's. (Written by wip/tools/mk_ftells.py.)
-/
import Derived.Test.YtmapkjjglhpamaaRefRead
import Derived.Test.YtmapkjjglhpamaaHead4
namespace Go.Proofs.Ytmapkjjglhpamaa
open Go.RowKit

/-- A fact that is kept out of sight. -/
structure Veil (p : Prop) : Prop where
  out : p
/-- The one that may come up is not wanted; one that is free is taken: the slots named. -/
theorem wpAnyH_skip {P : Program} {md : Region.Mode} {ops : Array Oper} {Q : Exit → Act → World → Prop} {S : World → Prop} {i : Nat} {o : Oper} {fuel : Nat} {listed : Array Bool} {a : Act} {w : World} (d : Nat) (hi : ops[i]? = some o) (hd : o.dst = some d) (hr : Region.ready md ops listed = [i])
    (hw : Region.wanted o (yielded ops a.tmps) = false) (hS : S w) (h : wpAnyH P md ops Q S fuel (listed.setIfInBounds i true) (a.put (some d) undef) w) : wpAnyH P md ops Q S (fuel + 1) listed a w :=
  wpAnyH_all hr (by simp) fun j hj => by
    obtain rfl := List.mem_singleton.1 hj
    exact YieldsIf.wpOp hi (Or.inr ⟨hw, rfl⟩) hS ⟨hS, by rw [hd]; exact h⟩
theorem wpAnyH_take' {P : Program} {md : Region.Mode} {ops : Array Oper} {Q : Exit → Act → World → Prop} {S : World → Prop} {i : Nat} {oi : Oper} {v : Value} {fuel : Nat} {listed : Array Bool} {a : Act} {w : World} (d : Nat) (hi : ops[i]? = some oi) (hd : oi.dst = some d)
    (hs : Region.noSelect ops = true) (hf : Region.free md ops listed i = true) (hr : (Region.ready md ops listed).contains i = true)
    (hQ : ∀ c a w, Q (.panic c) (a.put oi.dst v) w → Q (.panic c) a w) (hy : YieldsIf P ops S oi v a) (hS : S w)
    (h : wpAnyH P md ops Q S fuel (listed.setIfInBounds i true) (a.put (some d) v) w) : wpAnyH P md ops Q S (fuel + 1) listed a w :=
  wpAnyH_take hi hs hf hr hQ hy hS (by rw [hd]; exact h)
theorem refRank_at (x : Bool) (ID : Nat) (r : Bool) (n : Int) (A : Option Addr) (m c : Nat) (hID : idOk x ID) (k : Nat) (hk : rn x = k) (w : World) :
    Calls Try.prog 31 #[.agg #[.bool x, .int .i64 ID, .bool r, .int .i64 n, .slice A m c]] w fun e w' => ∃ A' c', e = .returned (.slice A' k c') ∧ Row .i64 w' w'.heap.size A' (rankV x ID r) ∧ k ≤ c' ∧ Below w.heap.size w w' := by
  subst hk
  cases x
  · exact refRankS_at ID r n A m c hID w
  · exact refRankX_at ID r n A m c hID w

set_option linter.unusedSimpArgs false in
set_option maxRecDepth 100000 in
set_option maxHeartbeats 20000000 in
theorem frameTells_walk (x : Bool) (i : Int) (r : Bool) (n : Int) (dl : List Int) (m : Nat) (hdl : dl.length = m) (A : Option Addr) (c : Nat) (x' : Bool) (i' : Int) (r' : Bool) (n' : Int) (dl' : List Int) (m' : Nat) (hdl' : dl'.length = m') (A' : Option Addr) (c' : Nat) (row : List Int) (nm : Nat) (hnm : row.length = nm) (B : Option Addr) (cB : Nat) (w : World) (h : Row .u8 w w.heap.size A dl) (hb : byteB dl) (h' : Row .u8 w w.heap.size A' dl') (hb' : byteB dl') (hr : Row .i64 w w.heap.size B row) (hmm : nm ≤ maxLen) (hmc : nm ≤ cB) :
    Calls Try.prog 10 #[.agg #[.bool x, .int .i64 i, .bool r, .int .i64 n, .slice A m c], .agg #[.bool x', .int .i64 i', .bool r', .int .i64 n', .slice A' m' c'], .slice B nm cB] w fun e w' => e = .returned (.bool true) ∧ Below w.heap.size w w' := by
  have HD := Lib.hid hdl
  have HB := Lib.hid hb
  clear hdl hb
  have HD' := Lib.hid hdl'
  have HB' := Lib.hid hb'
  have HMl := Lib.hid hnm
  clear hdl' hb' hnm
  obtain ⟨w0, hw0⟩ : ∃ w0, (w.alloc (.cells #[.bool x, .int .i64 i, .bool r, .int .i64 n, .slice A m c] 24)).alloc (.cells #[.bool x', .int .i64 i', .bool r', .int .i64 n', .slice A' m' c'] 24) = w0 := ⟨_, rfl⟩
  have hB0 : Below w.heap.size w w0 := by rw [← hw0]; exact below_then (below_alloc1 _ _) (below_alloc1 _ _)
  have hF0 : w0.heap[w.heap.size]? = some (.cells #[.bool x, .int .i64 i, .bool r, .int .i64 n, .slice A m c] 24) := by rw [← hw0]; exact block_below (below_alloc1 _ _) (World.alloc_heap_new _ _)
  have hG0 : w0.heap[w.heap.size + 1]? = some (.cells #[.bool x', .int .i64 i', .bool r', .int .i64 n', .slice A' m' c'] 24) := by rw [← hw0]; have := World.alloc_heap_new (w.alloc (.cells #[.bool x, .int .i64 i, .bool r, .int .i64 n, .slice A m c] 24)) (.cells #[.bool x', .int .i64 i', .bool r', .int .i64 n', .slice A' m' c'] 24); simpa using this
  have HW0 := Lib.hid hw0
  clear hw0
  go_enter Try.func10, Try.ntmps10
  go_wp2_with fail
  rw [HW0.out]
  clear HW0
  refine (head_any _).mono ?_
  rintro e w1 ⟨rfl, hB1⟩
  have hF1 : w1.heap[w.heap.size]? = some (.cells #[.bool x, .int .i64 i, .bool r, .int .i64 n, .slice A m c] 24) := by repeat (first | assumption | exact Below.refl _ _ | ((with_reducible refine lit2 _ _ _ _ _ ?_); (first | (with_reducible rfl) | (simp; done))) | ((with_reducible refine lit1 _ _ _ _ ?_); (first | (with_reducible rfl) | (simp; done))) | refine row_step (by first | assumption | exact below_alloc1 _ _ | exact below_drew1 _ | exact below_drewN0 _ _) ?_ | refine block_below (by first | assumption | exact below_alloc1 _ _ | exact below_drew1 _ | exact below_drewN0 _ _) ?_ | refine below_then ?_ (by first | assumption | exact below_alloc1 _ _ | exact below_drew1 _ | exact below_drewN0 _ _))
  obtain ⟨cF0, cF1, cF2, cF3, cF4⟩ := cells5' hF1
  have hG1 : w1.heap[w.heap.size + 1]? = some (.cells #[.bool x', .int .i64 i', .bool r', .int .i64 n', .slice A' m' c'] 24) := by repeat (first | assumption | exact Below.refl _ _ | ((with_reducible refine lit2 _ _ _ _ _ ?_); (first | (with_reducible rfl) | (simp; done))) | ((with_reducible refine lit1 _ _ _ _ ?_); (first | (with_reducible rfl) | (simp; done))) | refine row_step (by first | assumption | exact below_alloc1 _ _ | exact below_drew1 _ | exact below_drewN0 _ _) ?_ | refine block_below (by first | assumption | exact below_alloc1 _ _ | exact below_drew1 _ | exact below_drewN0 _ _) ?_ | refine below_then ?_ (by first | assumption | exact below_alloc1 _ _ | exact below_drew1 _ | exact below_drewN0 _ _))
  obtain ⟨cG0, cG1, cG2, cG3, cG4⟩ := cells5' hG1
  go_wp2_with fail
  by_cases h1 : 100 < m
  · refine (great_q x i r n A m c _ true (by simp; omega)).mono ?_
    rintro e wE ⟨rfl, hBE⟩
    go_wp2_with fail
    go_ret
    exact ⟨rfl, by repeat (first | assumption | exact Below.refl _ _ | ((with_reducible refine lit2 _ _ _ _ _ ?_); (first | (with_reducible rfl) | (simp; done))) | ((with_reducible refine lit1 _ _ _ _ ?_); (first | (with_reducible rfl) | (simp; done))) | refine row_step (by first | assumption | exact below_alloc1 _ _ | exact below_drew1 _ | exact below_drewN0 _ _) ?_ | refine block_below (by first | assumption | exact below_alloc1 _ _ | exact below_drew1 _ | exact below_drewN0 _ _) ?_ | refine below_then ?_ (by first | assumption | exact below_alloc1 _ _ | exact below_drew1 _ | exact below_drewN0 _ _))⟩
  refine (great_q x i r n A m c _ false (by simp; omega)).mono ?_
  rintro e w2 ⟨rfl, hB2⟩
  clear cF0 cF1 cF2 cF3 cF4
  have hF2 : w2.heap[w.heap.size]? = some (.cells #[.bool x, .int .i64 i, .bool r, .int .i64 n, .slice A m c] 24) := by repeat (first | assumption | exact Below.refl _ _ | ((with_reducible refine lit2 _ _ _ _ _ ?_); (first | (with_reducible rfl) | (simp; done))) | ((with_reducible refine lit1 _ _ _ _ ?_); (first | (with_reducible rfl) | (simp; done))) | refine row_step (by first | assumption | exact below_alloc1 _ _ | exact below_drew1 _ | exact below_drewN0 _ _) ?_ | refine block_below (by first | assumption | exact below_alloc1 _ _ | exact below_drew1 _ | exact below_drewN0 _ _) ?_ | refine below_then ?_ (by first | assumption | exact below_alloc1 _ _ | exact below_drew1 _ | exact below_drewN0 _ _))
  obtain ⟨cF0, cF1, cF2, cF3, cF4⟩ := cells5' hF2
  clear cG0 cG1 cG2 cG3 cG4
  have hG2 : w2.heap[w.heap.size + 1]? = some (.cells #[.bool x', .int .i64 i', .bool r', .int .i64 n', .slice A' m' c'] 24) := by repeat (first | assumption | exact Below.refl _ _ | ((with_reducible refine lit2 _ _ _ _ _ ?_); (first | (with_reducible rfl) | (simp; done))) | ((with_reducible refine lit1 _ _ _ _ ?_); (first | (with_reducible rfl) | (simp; done))) | refine row_step (by first | assumption | exact below_alloc1 _ _ | exact below_drew1 _ | exact below_drewN0 _ _) ?_ | refine block_below (by first | assumption | exact below_alloc1 _ _ | exact below_drew1 _ | exact below_drewN0 _ _) ?_ | refine below_then ?_ (by first | assumption | exact below_alloc1 _ _ | exact below_drew1 _ | exact below_drewN0 _ _))
  obtain ⟨cG0, cG1, cG2, cG3, cG4⟩ := cells5' hG2
  go_wp2_with fail
  by_cases h2 : 100 < m'
  · refine (great_q x' i' r' n' A' m' c' _ true (by simp; omega)).mono ?_
    rintro e wE ⟨rfl, hBE⟩
    go_wp2_with fail
    go_ret
    exact ⟨rfl, by repeat (first | assumption | exact Below.refl _ _ | ((with_reducible refine lit2 _ _ _ _ _ ?_); (first | (with_reducible rfl) | (simp; done))) | ((with_reducible refine lit1 _ _ _ _ ?_); (first | (with_reducible rfl) | (simp; done))) | refine row_step (by first | assumption | exact below_alloc1 _ _ | exact below_drew1 _ | exact below_drewN0 _ _) ?_ | refine block_below (by first | assumption | exact below_alloc1 _ _ | exact below_drew1 _ | exact below_drewN0 _ _) ?_ | refine below_then ?_ (by first | assumption | exact below_alloc1 _ _ | exact below_drew1 _ | exact below_drewN0 _ _))⟩
  refine (great_q x' i' r' n' A' m' c' _ false (by simp; omega)).mono ?_
  rintro e w3 ⟨rfl, hB3⟩
  clear cF0 cF1 cF2 cF3 cF4
  have hF3 : w3.heap[w.heap.size]? = some (.cells #[.bool x, .int .i64 i, .bool r, .int .i64 n, .slice A m c] 24) := by repeat (first | assumption | exact Below.refl _ _ | ((with_reducible refine lit2 _ _ _ _ _ ?_); (first | (with_reducible rfl) | (simp; done))) | ((with_reducible refine lit1 _ _ _ _ ?_); (first | (with_reducible rfl) | (simp; done))) | refine row_step (by first | assumption | exact below_alloc1 _ _ | exact below_drew1 _ | exact below_drewN0 _ _) ?_ | refine block_below (by first | assumption | exact below_alloc1 _ _ | exact below_drew1 _ | exact below_drewN0 _ _) ?_ | refine below_then ?_ (by first | assumption | exact below_alloc1 _ _ | exact below_drew1 _ | exact below_drewN0 _ _))
  obtain ⟨cF0, cF1, cF2, cF3, cF4⟩ := cells5' hF3
  clear cG0 cG1 cG2 cG3 cG4
  have hG3 : w3.heap[w.heap.size + 1]? = some (.cells #[.bool x', .int .i64 i', .bool r', .int .i64 n', .slice A' m' c'] 24) := by repeat (first | assumption | exact Below.refl _ _ | ((with_reducible refine lit2 _ _ _ _ _ ?_); (first | (with_reducible rfl) | (simp; done))) | ((with_reducible refine lit1 _ _ _ _ ?_); (first | (with_reducible rfl) | (simp; done))) | refine row_step (by first | assumption | exact below_alloc1 _ _ | exact below_drew1 _ | exact below_drewN0 _ _) ?_ | refine block_below (by first | assumption | exact below_alloc1 _ _ | exact below_drew1 _ | exact below_drewN0 _ _) ?_ | refine below_then ?_ (by first | assumption | exact below_alloc1 _ _ | exact below_drew1 _ | exact below_drewN0 _ _))
  obtain ⟨cG0, cG1, cG2, cG3, cG4⟩ := cells5' hG3
  by_cases h4 : 500 < nm
  · have d4 : decide ((500 : Int) < (nm : Int)) = true := by simp; omega
    go_wp2_with fail
    go_ret
    exact ⟨rfl, by repeat (first | assumption | exact Below.refl _ _ | ((with_reducible refine lit2 _ _ _ _ _ ?_); (first | (with_reducible rfl) | (simp; done))) | ((with_reducible refine lit1 _ _ _ _ ?_); (first | (with_reducible rfl) | (simp; done))) | refine row_step (by first | assumption | exact below_alloc1 _ _ | exact below_drew1 _ | exact below_drewN0 _ _) ?_ | refine block_below (by first | assumption | exact below_alloc1 _ _ | exact below_drew1 _ | exact below_drewN0 _ _) ?_ | refine below_then ?_ (by first | assumption | exact below_alloc1 _ _ | exact below_drew1 _ | exact below_drewN0 _ _))⟩
  have d4 : decide ((500 : Int) < (nm : Int)) = false := by simp; omega
  go_wp2_with fail
  obtain ⟨q1, hq1⟩ : ∃ q, rightV x i r n m = q := ⟨_, rfl⟩
  obtain ⟨q2, hq2⟩ : ∃ q, sameV x i r n dl x' i' r' n' dl' = q := ⟨_, rfl⟩
  have Q1 := Veil.mk hq1
  have Q2 := Veil.mk hq2
  have hA3 : Row .u8 w3 w3.heap.size A dl := by repeat (first | assumption | exact Below.refl _ _ | ((with_reducible refine lit2 _ _ _ _ _ ?_); (first | (with_reducible rfl) | (simp; done))) | ((with_reducible refine lit1 _ _ _ _ ?_); (first | (with_reducible rfl) | (simp; done))) | refine row_step (by first | assumption | exact below_alloc1 _ _ | exact below_drew1 _ | exact below_drewN0 _ _) ?_ | refine block_below (by first | assumption | exact below_alloc1 _ _ | exact below_drew1 _ | exact below_drewN0 _ _) ?_ | refine below_then ?_ (by first | assumption | exact below_alloc1 _ _ | exact below_drew1 _ | exact below_drewN0 _ _))
  have hG3' : Row .u8 w3 w3.heap.size A' dl' := by repeat (first | assumption | exact Below.refl _ _ | ((with_reducible refine lit2 _ _ _ _ _ ?_); (first | (with_reducible rfl) | (simp; done))) | ((with_reducible refine lit1 _ _ _ _ ?_); (first | (with_reducible rfl) | (simp; done))) | refine row_step (by first | assumption | exact below_alloc1 _ _ | exact below_drew1 _ | exact below_drewN0 _ _) ?_ | refine block_below (by first | assumption | exact below_alloc1 _ _ | exact below_drew1 _ | exact below_drewN0 _ _) ?_ | refine below_then ?_ (by first | assumption | exact below_alloc1 _ _ | exact below_drew1 _ | exact below_drewN0 _ _))
  have hR3 : Row .i64 w3 w3.heap.size B row := by repeat (first | assumption | exact Below.refl _ _ | ((with_reducible refine lit2 _ _ _ _ _ ?_); (first | (with_reducible rfl) | (simp; done))) | ((with_reducible refine lit1 _ _ _ _ ?_); (first | (with_reducible rfl) | (simp; done))) | refine row_step (by first | assumption | exact below_alloc1 _ _ | exact below_drew1 _ | exact below_drewN0 _ _) ?_ | refine block_below (by first | assumption | exact below_alloc1 _ _ | exact below_drew1 _ | exact below_drewN0 _ _) ?_ | refine below_then ?_ (by first | assumption | exact below_alloc1 _ _ | exact below_drew1 _ | exact below_drewN0 _ _))
  have hall : Below w.heap.size w w3 := by repeat (first | assumption | exact Below.refl _ _ | ((with_reducible refine lit2 _ _ _ _ _ ?_); (first | (with_reducible rfl) | (simp; done))) | ((with_reducible refine lit1 _ _ _ _ ?_); (first | (with_reducible rfl) | (simp; done))) | refine row_step (by first | assumption | exact below_alloc1 _ _ | exact below_drew1 _ | exact below_drewN0 _ _) ?_ | refine block_below (by first | assumption | exact below_alloc1 _ _ | exact below_drew1 _ | exact below_drewN0 _ _) ?_ | refine below_then ?_ (by first | assumption | exact below_alloc1 _ _ | exact below_drew1 _ | exact below_drewN0 _ _))
  clear hq1 hq2 hB0 hB1 hB2 hB3 hF0 hF1 hF2 hG0 hG1 hG2 h h' hr cF0 cF1 cF2 cF3 cF4 cG0 cG1 cG2 cG3 cG4
  have qq : (q1 != q1) = false := by simp
  have qq2 : (q2 != q2) = false := by simp
  go_region_held3 (fun W => W.cell? ⟨w.heap.size, 0, none⟩ = some (.bool x) ∧ W.cell? ⟨w.heap.size, 1, none⟩ = some (.int .i64 i) ∧ W.cell? ⟨w.heap.size, 2, none⟩ = some (.bool r) ∧ W.cell? ⟨w.heap.size, 3, none⟩ = some (.int .i64 n) ∧ W.cell? ⟨w.heap.size, 4, none⟩ = some (.slice A m c) ∧ W.cell? ⟨w.heap.size + 1, 0, none⟩ = some (.bool x') ∧ W.cell? ⟨w.heap.size + 1, 1, none⟩ = some (.int .i64 i') ∧ W.cell? ⟨w.heap.size + 1, 2, none⟩ = some (.bool r') ∧ W.cell? ⟨w.heap.size + 1, 3, none⟩ = some (.int .i64 n') ∧ W.cell? ⟨w.heap.size + 1, 4, none⟩ = some (.slice A' m' c'))
    (exact cells10 (by repeat (first | assumption | exact Below.refl _ _ | ((with_reducible refine lit2 _ _ _ _ _ ?_); (first | (with_reducible rfl) | (simp; done))) | ((with_reducible refine lit1 _ _ _ _ ?_); (first | (with_reducible rfl) | (simp; done))) | refine row_step (by first | assumption | exact below_alloc1 _ _ | exact below_drew1 _ | exact below_drewN0 _ _) ?_ | refine block_below (by first | assumption | exact below_alloc1 _ _ | exact below_drew1 _ | exact below_drewN0 _ _) ?_ | refine below_then ?_ (by first | assumption | exact below_alloc1 _ _ | exact below_drew1 _ | exact below_drewN0 _ _))) (by repeat (first | assumption | exact Below.refl _ _ | ((with_reducible refine lit2 _ _ _ _ _ ?_); (first | (with_reducible rfl) | (simp; done))) | ((with_reducible refine lit1 _ _ _ _ ?_); (first | (with_reducible rfl) | (simp; done))) | refine row_step (by first | assumption | exact below_alloc1 _ _ | exact below_drew1 _ | exact below_drewN0 _ _) ?_ | refine block_below (by first | assumption | exact below_alloc1 _ _ | exact below_drew1 _ | exact below_drewN0 _ _) ?_ | refine below_then ?_ (by first | assumption | exact below_alloc1 _ _ | exact below_drew1 _ | exact below_drewN0 _ _))))
    (first
      | (go_at_call 27; refine (frRight_q x i r n A m c _ q1 Q1.out).mono ?_; rintro e wa ⟨rfl, hBa⟩)
      | (go_at_call 13; refine (refFrRight_q x i r n A m c _ q1 Q1.out).mono ?_; rintro e wb ⟨rfl, hBb⟩)
      | (go_at_call 28; refine (frSame_at x i r n dl m HD.out A c x' i' r' n' dl' m' HD'.out A' c' _ (by repeat (first | assumption | exact Below.refl _ _ | ((with_reducible refine lit2 _ _ _ _ _ ?_); (first | (with_reducible rfl) | (simp; done))) | ((with_reducible refine lit1 _ _ _ _ ?_); (first | (with_reducible rfl) | (simp; done))) | refine row_step (by first | assumption | exact below_alloc1 _ _ | exact below_drew1 _ | exact below_drewN0 _ _) ?_ | refine block_below (by first | assumption | exact below_alloc1 _ _ | exact below_drew1 _ | exact below_drewN0 _ _) ?_ | refine below_then ?_ (by first | assumption | exact below_alloc1 _ _ | exact below_drew1 _ | exact below_drewN0 _ _))) (by repeat (first | assumption | exact Below.refl _ _ | ((with_reducible refine lit2 _ _ _ _ _ ?_); (first | (with_reducible rfl) | (simp; done))) | ((with_reducible refine lit1 _ _ _ _ ?_); (first | (with_reducible rfl) | (simp; done))) | refine row_step (by first | assumption | exact below_alloc1 _ _ | exact below_drew1 _ | exact below_drewN0 _ _) ?_ | refine block_below (by first | assumption | exact below_alloc1 _ _ | exact below_drew1 _ | exact below_drewN0 _ _) ?_ | refine below_then ?_ (by first | assumption | exact below_alloc1 _ _ | exact below_drew1 _ | exact below_drewN0 _ _))) HB.out HB'.out q2 Q2.out).mono ?_; rintro e wc ⟨rfl, hBc⟩)
      | (go_at_call 24; refine (refFrSame_at x i r n dl m HD.out A c x' i' r' n' dl' m' HD'.out A' c' _ (by repeat (first | assumption | exact Below.refl _ _ | ((with_reducible refine lit2 _ _ _ _ _ ?_); (first | (with_reducible rfl) | (simp; done))) | ((with_reducible refine lit1 _ _ _ _ ?_); (first | (with_reducible rfl) | (simp; done))) | refine row_step (by first | assumption | exact below_alloc1 _ _ | exact below_drew1 _ | exact below_drewN0 _ _) ?_ | refine block_below (by first | assumption | exact below_alloc1 _ _ | exact below_drew1 _ | exact below_drewN0 _ _) ?_ | refine below_then ?_ (by first | assumption | exact below_alloc1 _ _ | exact below_drew1 _ | exact below_drewN0 _ _))) (by repeat (first | assumption | exact Below.refl _ _ | ((with_reducible refine lit2 _ _ _ _ _ ?_); (first | (with_reducible rfl) | (simp; done))) | ((with_reducible refine lit1 _ _ _ _ ?_); (first | (with_reducible rfl) | (simp; done))) | refine row_step (by first | assumption | exact below_alloc1 _ _ | exact below_drew1 _ | exact below_drewN0 _ _) ?_ | refine block_below (by first | assumption | exact below_alloc1 _ _ | exact below_drew1 _ | exact below_drewN0 _ _) ?_ | refine below_then ?_ (by first | assumption | exact below_alloc1 _ _ | exact below_drew1 _ | exact below_drewN0 _ _))) HB.out HB'.out q2 Q2.out).mono ?_; rintro e wd ⟨rfl, hBd⟩))
  have HAll := Lib.hid hall
  clear hall
  have hF4 : wd.heap[w.heap.size]? = some (.cells #[.bool x, .int .i64 i, .bool r, .int .i64 n, .slice A m c] 24) := by repeat (first | assumption | exact Below.refl _ _ | ((with_reducible refine lit2 _ _ _ _ _ ?_); (first | (with_reducible rfl) | (simp; done))) | ((with_reducible refine lit1 _ _ _ _ ?_); (first | (with_reducible rfl) | (simp; done))) | refine row_step (by first | assumption | exact below_alloc1 _ _ | exact below_drew1 _ | exact below_drewN0 _ _) ?_ | refine block_below (by first | assumption | exact below_alloc1 _ _ | exact below_drew1 _ | exact below_drewN0 _ _) ?_ | refine below_then ?_ (by first | assumption | exact below_alloc1 _ _ | exact below_drew1 _ | exact below_drewN0 _ _))
  have hG4 : wd.heap[w.heap.size + 1]? = some (.cells #[.bool x', .int .i64 i', .bool r', .int .i64 n', .slice A' m' c'] 24) := by repeat (first | assumption | exact Below.refl _ _ | ((with_reducible refine lit2 _ _ _ _ _ ?_); (first | (with_reducible rfl) | (simp; done))) | ((with_reducible refine lit1 _ _ _ _ ?_); (first | (with_reducible rfl) | (simp; done))) | refine row_step (by first | assumption | exact below_alloc1 _ _ | exact below_drew1 _ | exact below_drewN0 _ _) ?_ | refine block_below (by first | assumption | exact below_alloc1 _ _ | exact below_drew1 _ | exact below_drewN0 _ _) ?_ | refine below_then ?_ (by first | assumption | exact below_alloc1 _ _ | exact below_drew1 _ | exact below_drewN0 _ _))
  have hA4 : Row .u8 wd wd.heap.size A dl := by repeat (first | assumption | exact Below.refl _ _ | ((with_reducible refine lit2 _ _ _ _ _ ?_); (first | (with_reducible rfl) | (simp; done))) | ((with_reducible refine lit1 _ _ _ _ ?_); (first | (with_reducible rfl) | (simp; done))) | refine row_step (by first | assumption | exact below_alloc1 _ _ | exact below_drew1 _ | exact below_drewN0 _ _) ?_ | refine block_below (by first | assumption | exact below_alloc1 _ _ | exact below_drew1 _ | exact below_drewN0 _ _) ?_ | refine below_then ?_ (by first | assumption | exact below_alloc1 _ _ | exact below_drew1 _ | exact below_drewN0 _ _))
  have hR4 : Row .i64 wd wd.heap.size B row := by repeat (first | assumption | exact Below.refl _ _ | ((with_reducible refine lit2 _ _ _ _ _ ?_); (first | (with_reducible rfl) | (simp; done))) | ((with_reducible refine lit1 _ _ _ _ ?_); (first | (with_reducible rfl) | (simp; done))) | refine row_step (by first | assumption | exact below_alloc1 _ _ | exact below_drew1 _ | exact below_drewN0 _ _) ?_ | refine block_below (by first | assumption | exact below_alloc1 _ _ | exact below_drew1 _ | exact below_drewN0 _ _) ?_ | refine below_then ?_ (by first | assumption | exact below_alloc1 _ _ | exact below_drew1 _ | exact below_drewN0 _ _))
  have hB34 : Below w3.heap.size w3 wd := by repeat (first | assumption | exact Below.refl _ _ | ((with_reducible refine lit2 _ _ _ _ _ ?_); (first | (with_reducible rfl) | (simp; done))) | ((with_reducible refine lit1 _ _ _ _ ?_); (first | (with_reducible rfl) | (simp; done))) | refine row_step (by first | assumption | exact below_alloc1 _ _ | exact below_drew1 _ | exact below_drewN0 _ _) ?_ | refine block_below (by first | assumption | exact below_alloc1 _ _ | exact below_drew1 _ | exact below_drewN0 _ _) ?_ | refine below_then ?_ (by first | assumption | exact below_alloc1 _ _ | exact below_drew1 _ | exact below_drewN0 _ _))
  have hall4 : Below w.heap.size w wd := HAll.out.trans (hB34.mono HAll.out.size)
  clear hF3 hG3 hA3 hG3' hR3 hBa hBb hBc hBd hB34 HAll Q2 qq qq2
  generalize wd = w4 at hF4 hG4 hA4 hR4 hall4 ⊢
  go_wp2_with fail
  cases q1
  · refine wp_region_held_drew (S := fun W => W.cell? ⟨w.heap.size, 0, none⟩ = some (.bool x) ∧ W.cell? ⟨w.heap.size, 1, none⟩ = some (.int .i64 i) ∧ W.cell? ⟨w.heap.size, 2, none⟩ = some (.bool r) ∧ W.cell? ⟨w.heap.size, 3, none⟩ = some (.int .i64 n) ∧ W.cell? ⟨w.heap.size, 4, none⟩ = some (.slice A m c)) (by kernel_rfl) (cells5' (block_below (below_drew1 _) hF4)) (fun hHeld => ?_)
    refine wpAnyH_take' (i := 0) (v := .agg #[.bool x, .int .i64 i, .bool r, .int .i64 n, .slice A m c]) 41 rfl rfl (by kernel_rfl) (by kernel_rfl) (by kernel_rfl) (fun _ _ _ h => h) (Or.inl ⟨by rfl, ?_⟩) hHeld ?_
    · intro W hS
      obtain ⟨s0, s1, s2, s3, s4⟩ := hS
      go_simp
    try simp only [Act.put, List.setIfInBounds_toArray, List.set_cons_zero, List.set_cons_succ]
    refine wpAnyH_ready (rs := [1]) (by kernel_rfl) (by simp) ?_
    refine AllReadyH.cons rfl (fun K hK => ?_) AllReadyH.nil
    go_simp
    go_at_call 13
    refine (refFrRight_q x i r n A m c _ false Q1.out).mono ?_
    rintro e wb ⟨rfl, hBb⟩
    go_wp2_with fail
    refine hK.out _ _ (cells5' (by repeat (first | assumption | exact Below.refl _ _ | ((with_reducible refine lit2 _ _ _ _ _ ?_); (first | (with_reducible rfl) | (simp; done))) | ((with_reducible refine lit1 _ _ _ _ ?_); (first | (with_reducible rfl) | (simp; done))) | refine row_step (by first | assumption | exact below_alloc1 _ _ | exact below_drew1 _ | exact below_drewN0 _ _) ?_ | refine block_below (by first | assumption | exact below_alloc1 _ _ | exact below_drew1 _ | exact below_drewN0 _ _) ?_ | refine below_then ?_ (by first | assumption | exact below_alloc1 _ _ | exact below_drew1 _ | exact below_drewN0 _ _)))) (fun hHeld2 => ?_)
    try simp only [Act.put, List.setIfInBounds_toArray, List.set_cons_zero, List.set_cons_succ]
    refine wpAnyH_take' (i := 2) (v := .bool false) 43 rfl rfl (by kernel_rfl) (by kernel_rfl) (by kernel_rfl) (fun _ _ _ h => h) (Or.inl ⟨by kernel_rfl, fun W _ => by go_simp⟩) hHeld2 ?_
    try simp only [Act.put, List.setIfInBounds_toArray, List.set_cons_zero, List.set_cons_succ]
    refine wpAnyH_take' (i := 3) (v := undef) 44 rfl rfl (by kernel_rfl) (by kernel_rfl) (by kernel_rfl) (fun _ _ _ h => h) (Or.inr ⟨by kernel_rfl, rfl⟩) hHeld2 ?_
    try simp only [Act.put, List.setIfInBounds_toArray, List.set_cons_zero, List.set_cons_succ]
    refine wpAnyH_take' (i := 5) (v := undef) 46 rfl rfl (by kernel_rfl) (by kernel_rfl) (by kernel_rfl) (fun _ _ _ h => h) (Or.inr ⟨by kernel_rfl, rfl⟩) hHeld2 ?_
    try simp only [Act.put, List.setIfInBounds_toArray, List.set_cons_zero, List.set_cons_succ]
    refine wpAnyH_skip (i := 4) 45 rfl rfl (by kernel_rfl) (by kernel_rfl) hHeld2 ?_
    try simp only [Act.put, List.setIfInBounds_toArray, List.set_cons_zero, List.set_cons_succ]
    refine wpAnyH_skip (i := 6) 47 rfl rfl (by kernel_rfl) (by kernel_rfl) hHeld2 ?_
    try simp only [Act.put, List.setIfInBounds_toArray, List.set_cons_zero, List.set_cons_succ]
    refine wpAnyH_skip (i := 7) 48 rfl rfl (by kernel_rfl) (by kernel_rfl) hHeld2 ?_
    try simp only [Act.put, List.setIfInBounds_toArray, List.set_cons_zero, List.set_cons_succ]
    refine wpAnyH_skip (i := 8) 49 rfl rfl (by kernel_rfl) (by kernel_rfl) hHeld2 ?_
    try simp only [Act.put, List.setIfInBounds_toArray, List.set_cons_zero, List.set_cons_succ]
    refine wpAnyH_skip (i := 9) 50 rfl rfl (by kernel_rfl) (by kernel_rfl) hHeld2 ?_
    try simp only [Act.put, List.setIfInBounds_toArray, List.set_cons_zero, List.set_cons_succ]
    refine wpAnyH_take' (i := 10) (v := undef) 51 rfl rfl (by kernel_rfl) (by kernel_rfl) (by kernel_rfl) (fun _ _ _ h => h) (Or.inr ⟨by kernel_rfl, rfl⟩) hHeld2 ?_
    try simp only [Act.put, List.setIfInBounds_toArray, List.set_cons_zero, List.set_cons_succ]
    refine wpAnyH_take' (i := 12) (v := undef) 53 rfl rfl (by kernel_rfl) (by kernel_rfl) (by kernel_rfl) (fun _ _ _ h => h) (Or.inr ⟨by kernel_rfl, rfl⟩) hHeld2 ?_
    try simp only [Act.put, List.setIfInBounds_toArray, List.set_cons_zero, List.set_cons_succ]
    refine wpAnyH_skip (i := 11) 52 rfl rfl (by kernel_rfl) (by kernel_rfl) hHeld2 ?_
    try simp only [Act.put, List.setIfInBounds_toArray, List.set_cons_zero, List.set_cons_succ]
    refine wpAnyH_skip (i := 13) 54 rfl rfl (by kernel_rfl) (by kernel_rfl) hHeld2 ?_
    try simp only [Act.put, List.setIfInBounds_toArray, List.set_cons_zero, List.set_cons_succ]
    refine wpAnyH_skip (i := 14) 55 rfl rfl (by kernel_rfl) (by kernel_rfl) hHeld2 ?_
    try simp only [Act.put, List.setIfInBounds_toArray, List.set_cons_zero, List.set_cons_succ]
    refine wpAnyH_skip (i := 15) 56 rfl rfl (by kernel_rfl) (by kernel_rfl) hHeld2 ?_
    try simp only [Act.put, List.setIfInBounds_toArray, List.set_cons_zero, List.set_cons_succ]
    refine wpAnyH_skip (i := 16) 57 rfl rfl (by kernel_rfl) (by kernel_rfl) hHeld2 ?_
    try simp only [Act.put, List.setIfInBounds_toArray, List.set_cons_zero, List.set_cons_succ]
    refine wpAnyH_take' (i := 17) (v := .bool false) 58 rfl rfl (by kernel_rfl) (by kernel_rfl) (by kernel_rfl) (fun _ _ _ h => h) (Or.inl ⟨by kernel_rfl, fun W _ => by go_simp⟩) hHeld2 ?_
    try simp only [Act.put, List.setIfInBounds_toArray, List.set_cons_zero, List.set_cons_succ]
    refine wpAnyH_done (by kernel_rfl) ?_ _
    have hR5 : Row .i64 wb wb.heap.size B row := by repeat (first | assumption | exact Below.refl _ _ | ((with_reducible refine lit2 _ _ _ _ _ ?_); (first | (with_reducible rfl) | (simp; done))) | ((with_reducible refine lit1 _ _ _ _ ?_); (first | (with_reducible rfl) | (simp; done))) | refine row_step (by first | assumption | exact below_alloc1 _ _ | exact below_drew1 _ | exact below_drewN0 _ _) ?_ | refine block_below (by first | assumption | exact below_alloc1 _ _ | exact below_drew1 _ | exact below_drewN0 _ _) ?_ | refine below_then ?_ (by first | assumption | exact below_alloc1 _ _ | exact below_drew1 _ | exact below_drewN0 _ _))
    have hB45 : Below w4.heap.size w4 wb := by repeat (first | assumption | exact Below.refl _ _ | ((with_reducible refine lit2 _ _ _ _ _ ?_); (first | (with_reducible rfl) | (simp; done))) | ((with_reducible refine lit1 _ _ _ _ ?_); (first | (with_reducible rfl) | (simp; done))) | refine row_step (by first | assumption | exact below_alloc1 _ _ | exact below_drew1 _ | exact below_drewN0 _ _) ?_ | refine block_below (by first | assumption | exact below_alloc1 _ _ | exact below_drew1 _ | exact below_drewN0 _ _) ?_ | refine below_then ?_ (by first | assumption | exact below_alloc1 _ _ | exact below_drew1 _ | exact below_drewN0 _ _))
    have hall5 : Below w.heap.size w wb := below_then hall4 hB45
    clear hHeld hHeld2 hBb hB45 hF4 hG4 hA4 hR4 hall4 Q1
    generalize wb = w5 at hR5 hall5 ⊢
    go_wp2_with fail
    by_cases h5 : rightB row = true
    rotate_left
    · refine (refRight_q row nm HMl.out B cB _ hR5 hmm false (by simpa using h5)).mono ?_
      rintro e w6 ⟨rfl, hB6⟩
      clear h5
      go_wp2_with fail
      go_ret
      exact ⟨rfl, below_then hall5 hB6⟩
    have H5 := Lib.hid h5
    clear h5
    refine (refRight_q row nm HMl.out B cB _ hR5 hmm true H5.out).mono ?_
    rintro e w6 ⟨rfl, hB6⟩
    have hR6 := hR5.to hB6
    have hall6 := below_then hall5 hB6
    clear hR5 hall5 hB6
    obtain ⟨res, hres⟩ : ∃ res, readL row = res := ⟨_, rfl⟩
    have P1 := read_any row nm HMl.out B cB w6 hR6 H5.out (by omega)
    rw [hres] at P1
    rcases res with er | ⟨⟨fx, fi, fr, fn, fd⟩, k⟩
    · have HH := Veil.mk hres
      clear hres
      have HP1 := Veil.mk P1
      clear P1
      go_wp2_with fail
      refine HP1.out.mono ?_
      clear HP1
      rintro e' w7 ⟨rfl, hB7⟩
      have hres := HH.out
      clear HH
      obtain ⟨w8, hw8⟩ : ∃ w8, w7.alloc (.cells #[.bool false, .int .i64 0, .bool false, .int .i64 0, .slice none 0 0] 24) = w8 := ⟨_, rfl⟩
      have hB8 := below_lits hw8
      have hX8 : w8.heap[w7.heap.size]? = some (.cells #[.bool false, .int .i64 0, .bool false, .int .i64 0, .slice none 0 0] 24) := by rw [← hw8]; exact World.alloc_heap_new _ _
      have hB68 := below_then hB7 hB8
      have HW8 := Lib.hid hw8
      clear hw8 hB7
      go_wp2_with fail
      rw [HW8.out]
      clear HW8
      have P2 := refRead_any row nm HMl.out B cB w8 (hR6.to hB68) H5.out (by omega) hmc
      rw [hres] at P2
      refine P2.mono ?_
      rintro e' w9 ⟨rfl, hB9⟩
      have hX9 := obj_below hX8 hB9
      clear P2 hX8
      obtain ⟨w10, hw10⟩ : ∃ w10, w9.alloc (.cells #[.bool false, .int .i64 0, .bool false, .int .i64 0, .slice none 0 0] 24) = w10 := ⟨_, rfl⟩
      have hB10 := below_lits hw10
      have hY10 : w10.heap[w9.heap.size]? = some (.cells #[.bool false, .int .i64 0, .bool false, .int .i64 0, .slice none 0 0] 24) := by rw [← hw10]; exact World.alloc_heap_new _ _
      have hX10 := obj_below hX9 hB10
      obtain ⟨c0, c1, c2, c3, c4⟩ := cells5' hX10
      obtain ⟨d0, d1, d2, d3, d4'⟩ := cells5' hY10
      rw [← hw10] at c0 c1 c2 c3 c4 d0 d1 d2 d3 d4'
      have HW10 := Lib.hid hw10
      have Hres := Veil.mk hres
      clear hw10 hres hX10 hY10 hX9
      go_wp2_with fail
      rw [HW10.out]
      clear c0 c1 c2 c3 c4 d0 d1 d2 d3 d4'
      refine (refFrSame_at false 0 false 0 [] 0 rfl none 0 false 0 false 0 [] 0 rfl none 0 _ (.inl rfl) (.inl rfl) byte_nil byte_nil true (by decide)).mono ?_
      rintro e' w11 ⟨rfl, hB11⟩
      go_wp2_with fail
      go_ret
      exact ⟨rfl, below_then hall6 (below_then hB68 (below_then hB9 (below_then hB10 hB11)))⟩
    · have hby : byteB fd := by obtain ⟨_, _, _, _, _, _, hb5, _⟩ := read_back H5.out hres; exact hb5
      have HBy := Lib.hid hby
      clear hby
      have HH := Veil.mk hres
      clear hres
      have HP1 := Veil.mk P1
      clear P1
      go_wp2_with fail
      refine HP1.out.mono ?_
      clear HP1
      rintro e' w7 ⟨D1, m1, c1', rfl, hm1, hmc1, hr1, hB7⟩
      have HM1 := Lib.hid hm1
      clear hm1
      simp only at HM1 hr1
      have hres := HH.out
      clear HH
      obtain ⟨w8, hw8⟩ : ∃ w8, w7.alloc (.cells #[.bool fx, .int .i64 fi, .bool fr, .int .i64 fn, .slice D1 m1 c1'] 24) = w8 := ⟨_, rfl⟩
      have hB8 := below_lits hw8
      have hX8 : w8.heap[w7.heap.size]? = some (.cells #[.bool fx, .int .i64 fi, .bool fr, .int .i64 fn, .slice D1 m1 c1'] 24) := by rw [← hw8]; exact World.alloc_heap_new _ _
      have hB68 := below_then hB7 hB8
      have HW8 := Lib.hid hw8
      clear hw8 hB7
      go_wp2_with fail
      rw [HW8.out]
      clear HW8
      have P2 := refRead_any row nm HMl.out B cB w8 (hR6.to hB68) H5.out (by omega) hmc
      rw [hres] at P2
      refine P2.mono ?_
      rintro e' w9 ⟨D2, m2, c2', rfl, hm2, hmc2, hr2, hB9⟩
      have HM2 := Lib.hid hm2
      clear hm2
      simp only at HM2 hr2
      have hX9 := obj_below hX8 hB9
      clear P2 hX8
      obtain ⟨w10, hw10⟩ : ∃ w10, w9.alloc (.cells #[.bool fx, .int .i64 fi, .bool fr, .int .i64 fn, .slice D2 m2 c2'] 24) = w10 := ⟨_, rfl⟩
      have hB10 := below_lits hw10
      have hY10 : w10.heap[w9.heap.size]? = some (.cells #[.bool fx, .int .i64 fi, .bool fr, .int .i64 fn, .slice D2 m2 c2'] 24) := by rw [← hw10]; exact World.alloc_heap_new _ _
      have hX10 := obj_below hX9 hB10
      obtain ⟨c0, c1, c2, c3, c4⟩ := cells5' hX10
      obtain ⟨d0, d1, d2, d3, d4'⟩ := cells5' hY10
      rw [← hw10] at c0 c1 c2 c3 c4 d0 d1 d2 d3 d4'
      have HW10 := Lib.hid hw10
      have Hres := Veil.mk hres
      clear hw10 hres hX10 hY10 hX9
      go_wp2_with fail
      rw [HW10.out]
      clear c0 c1 c2 c3 c4 d0 d1 d2 d3 d4'
      refine (refFrSame_at fx fi fr fn fd m1 HM1.out D1 c1' fx fi fr fn fd m2 HM2.out D2 c2' _ (hr1.to (below_then hB8 (below_then hB9 hB10))) (hr2.to hB10) HBy.out HBy.out true (sameV_self _ _ _ _ _)).mono ?_
      rintro e' w11 ⟨rfl, hB11⟩
      go_wp2_with fail
      go_ret
      exact ⟨rfl, below_then hall6 (below_then hB68 (below_then hB9 (below_then hB10 hB11)))⟩

  · obtain ⟨ID, L, rfl, rfl, hID, hL, hmr⟩ := right_ok Q1.out
    obtain ⟨T, hT⟩ : ∃ T, headV x ID r L dl = T := ⟨_, rfl⟩
    obtain ⟨K, hK⟩ : ∃ K, hn x + 8 * m = K := ⟨_, rfl⟩
    have hTl : T.length = K := by rw [← hT, headV_len, HD.out, hK]
    have hKb : K ≤ 1000 := by have : hn x ≤ 39 := (by cases x <;> decide); omega
    obtain ⟨R, hR⟩ : ∃ R, rankV x ID r = R := ⟨_, rfl⟩
    obtain ⟨k, hk⟩ : ∃ k, rn x = k := ⟨_, rfl⟩
    have hRl : R.length = k := by rw [← hR, rankV_len, hk]
    have hkb : k ≤ 1000 := by have : rn x ≤ 32 := (by cases x <;> decide); omega
    have HT := Veil.mk hT
    have HK := Veil.mk hK
    have HTl := Veil.mk hTl
    have HR := Veil.mk hR
    have Hk := Veil.mk hk
    have HRl := Veil.mk hRl
    have HMr := Veil.mk hmr
    clear hT hK hTl hR hk hRl hmr
    go_region_held3 (fun W => W.cell? ⟨w.heap.size, 0, none⟩ = some (.bool x) ∧ W.cell? ⟨w.heap.size, 1, none⟩ = some (.int .i64 ID) ∧ W.cell? ⟨w.heap.size, 2, none⟩ = some (.bool r) ∧ W.cell? ⟨w.heap.size, 3, none⟩ = some (.int .i64 L) ∧ W.cell? ⟨w.heap.size, 4, none⟩ = some (.slice A m c)) (exact cells5' (by repeat (first | assumption | exact Below.refl _ _ | ((with_reducible refine lit2 _ _ _ _ _ ?_); (first | (with_reducible rfl) | (simp; done))) | ((with_reducible refine lit1 _ _ _ _ ?_); (first | (with_reducible rfl) | (simp; done))) | refine row_step (by first | assumption | exact below_alloc1 _ _ | exact below_drew1 _ | exact below_drewN0 _ _) ?_ | refine block_below (by first | assumption | exact below_alloc1 _ _ | exact below_drew1 _ | exact below_drewN0 _ _) ?_ | refine below_then ?_ (by first | assumption | exact below_alloc1 _ _ | exact below_drew1 _ | exact below_drewN0 _ _)))) (first
      | (go_at_call 13; refine (refFrRight_q x ID r L A m c _ true Q1.out).mono ?_; rintro e wb ⟨rfl, hBb⟩)
      | (go_at_call 29; refine (head_at x ID r L dl m HD.out A c hID hL _ (by repeat (first | assumption | exact Below.refl _ _ | ((with_reducible refine lit2 _ _ _ _ _ ?_); (first | (with_reducible rfl) | (simp; done))) | ((with_reducible refine lit1 _ _ _ _ ?_); (first | (with_reducible rfl) | (simp; done))) | refine row_step (by first | assumption | exact below_alloc1 _ _ | exact below_drew1 _ | exact below_drewN0 _ _) ?_ | refine block_below (by first | assumption | exact below_alloc1 _ _ | exact below_drew1 _ | exact below_drewN0 _ _) ?_ | refine below_then ?_ (by first | assumption | exact below_alloc1 _ _ | exact below_drew1 _ | exact below_drewN0 _ _))) HB.out (by omega) (8 * m) rfl K HK.out).mono ?_; rintro e wh ⟨Ah, ch, rfl, hrh, hch, hBh⟩; rw [HT.out] at hrh)
      | (go_at_call 25; refine (refHead_at x ID r L dl m HD.out A c hID hL _ (by repeat (first | assumption | exact Below.refl _ _ | ((with_reducible refine lit2 _ _ _ _ _ ?_); (first | (with_reducible rfl) | (simp; done))) | ((with_reducible refine lit1 _ _ _ _ ?_); (first | (with_reducible rfl) | (simp; done))) | refine row_step (by first | assumption | exact below_alloc1 _ _ | exact below_drew1 _ | exact below_drewN0 _ _) ?_ | refine block_below (by first | assumption | exact below_alloc1 _ _ | exact below_drew1 _ | exact below_drewN0 _ _) ?_ | refine below_then ?_ (by first | assumption | exact below_alloc1 _ _ | exact below_drew1 _ | exact below_drewN0 _ _))) HB.out (by omega) T HT.out K HTl.out).mono ?_; rintro e wi ⟨Ai, ci, rfl, hri, hBi⟩)
      | (go_at_call 30; refine (rank_at x ID r L A m c hID k Hk.out _).mono ?_; rintro e wj ⟨Aj, cj, rfl, hrj, hcj, hBj⟩; rw [HR.out] at hrj)
      | (go_at_call 31; refine (refRank_at x ID r L A m c hID k Hk.out _).mono ?_; rintro e wk ⟨Ak, ck, rfl, hrk, hck, hBk⟩; rw [HR.out] at hrk)
      | (go_at_call 14; have hq_ := hrk; clear hq_; refine (same_q R R k k HRl.out HRl.out Aj Ak cj ck _ (by repeat (first | assumption | exact Below.refl _ _ | ((with_reducible refine lit2 _ _ _ _ _ ?_); (first | (with_reducible rfl) | (simp; done))) | ((with_reducible refine lit1 _ _ _ _ ?_); (first | (with_reducible rfl) | (simp; done))) | refine row_step (by first | assumption | exact below_alloc1 _ _ | exact below_drew1 _ | exact below_drewN0 _ _) ?_ | refine block_below (by first | assumption | exact below_alloc1 _ _ | exact below_drew1 _ | exact below_drewN0 _ _) ?_ | refine below_then ?_ (by first | assumption | exact below_alloc1 _ _ | exact below_drew1 _ | exact below_drewN0 _ _))) (by repeat (first | assumption | exact Below.refl _ _ | ((with_reducible refine lit2 _ _ _ _ _ ?_); (first | (with_reducible rfl) | (simp; done))) | ((with_reducible refine lit1 _ _ _ _ ?_); (first | (with_reducible rfl) | (simp; done))) | refine row_step (by first | assumption | exact below_alloc1 _ _ | exact below_drew1 _ | exact below_drewN0 _ _) ?_ | refine block_below (by first | assumption | exact below_alloc1 _ _ | exact below_drew1 _ | exact below_drewN0 _ _) ?_ | refine below_then ?_ (by first | assumption | exact below_alloc1 _ _ | exact below_drew1 _ | exact below_drewN0 _ _))) (by unfold maxLen; omega) true (by simp [sameB])).mono ?_; rintro e wm ⟨rfl, hBm⟩)
      | (go_at_call 14; refine (same_q T T K K HTl.out HTl.out Ah Ai ch ci _ (by repeat (first | assumption | exact Below.refl _ _ | ((with_reducible refine lit2 _ _ _ _ _ ?_); (first | (with_reducible rfl) | (simp; done))) | ((with_reducible refine lit1 _ _ _ _ ?_); (first | (with_reducible rfl) | (simp; done))) | refine row_step (by first | assumption | exact below_alloc1 _ _ | exact below_drew1 _ | exact below_drewN0 _ _) ?_ | refine block_below (by first | assumption | exact below_alloc1 _ _ | exact below_drew1 _ | exact below_drewN0 _ _) ?_ | refine below_then ?_ (by first | assumption | exact below_alloc1 _ _ | exact below_drew1 _ | exact below_drewN0 _ _))) (by repeat (first | assumption | exact Below.refl _ _ | ((with_reducible refine lit2 _ _ _ _ _ ?_); (first | (with_reducible rfl) | (simp; done))) | ((with_reducible refine lit1 _ _ _ _ ?_); (first | (with_reducible rfl) | (simp; done))) | refine row_step (by first | assumption | exact below_alloc1 _ _ | exact below_drew1 _ | exact below_drewN0 _ _) ?_ | refine block_below (by first | assumption | exact below_alloc1 _ _ | exact below_drew1 _ | exact below_drewN0 _ _) ?_ | refine below_then ?_ (by first | assumption | exact below_alloc1 _ _ | exact below_drew1 _ | exact below_drewN0 _ _))) (by unfold maxLen; omega) true (by simp [sameB])).mono ?_; rintro e wl ⟨rfl, hBl⟩))
    have HAll := Lib.hid hall4
    clear hall4
    have hR5 : Row .i64 wm wm.heap.size B row := by repeat (first | assumption | exact Below.refl _ _ | ((with_reducible refine lit2 _ _ _ _ _ ?_); (first | (with_reducible rfl) | (simp; done))) | ((with_reducible refine lit1 _ _ _ _ ?_); (first | (with_reducible rfl) | (simp; done))) | refine row_step (by first | assumption | exact below_alloc1 _ _ | exact below_drew1 _ | exact below_drewN0 _ _) ?_ | refine block_below (by first | assumption | exact below_alloc1 _ _ | exact below_drew1 _ | exact below_drewN0 _ _) ?_ | refine below_then ?_ (by first | assumption | exact below_alloc1 _ _ | exact below_drew1 _ | exact below_drewN0 _ _))
    have hB45 : Below w4.heap.size w4 wm := by repeat (first | assumption | exact Below.refl _ _ | ((with_reducible refine lit2 _ _ _ _ _ ?_); (first | (with_reducible rfl) | (simp; done))) | ((with_reducible refine lit1 _ _ _ _ ?_); (first | (with_reducible rfl) | (simp; done))) | refine row_step (by first | assumption | exact below_alloc1 _ _ | exact below_drew1 _ | exact below_drewN0 _ _) ?_ | refine block_below (by first | assumption | exact below_alloc1 _ _ | exact below_drew1 _ | exact below_drewN0 _ _) ?_ | refine below_then ?_ (by first | assumption | exact below_alloc1 _ _ | exact below_drew1 _ | exact below_drewN0 _ _))
    have hall5 : Below w.heap.size w wm := HAll.out.trans (hB45.mono HAll.out.size)
    clear hB45 hF4 hG4 hA4 hR4 HAll Q1 hrh hri hrj hrk hBh hBi hBj hBk hBl hBm hBb
    generalize wm = w5 at hR5 hall5 ⊢
    go_wp2_with fail
    by_cases h5 : rightB row = true
    rotate_left
    · refine (refRight_q row nm HMl.out B cB _ hR5 hmm false (by simpa using h5)).mono ?_
      rintro e w6 ⟨rfl, hB6⟩
      clear h5
      go_wp2_with fail
      go_ret
      exact ⟨rfl, below_then hall5 hB6⟩
    have H5 := Lib.hid h5
    clear h5
    refine (refRight_q row nm HMl.out B cB _ hR5 hmm true H5.out).mono ?_
    rintro e w6 ⟨rfl, hB6⟩
    have hR6 := hR5.to hB6
    have hall6 := below_then hall5 hB6
    clear hR5 hall5 hB6
    obtain ⟨res, hres⟩ : ∃ res, readL row = res := ⟨_, rfl⟩
    have P1 := read_any row nm HMl.out B cB w6 hR6 H5.out (by omega)
    rw [hres] at P1
    rcases res with er | ⟨⟨fx, fi, fr, fn, fd⟩, k⟩
    · have HH := Veil.mk hres
      clear hres
      have HP1 := Veil.mk P1
      clear P1
      go_wp2_with fail
      refine HP1.out.mono ?_
      clear HP1
      rintro e' w7 ⟨rfl, hB7⟩
      have hres := HH.out
      clear HH
      obtain ⟨w8, hw8⟩ : ∃ w8, w7.alloc (.cells #[.bool false, .int .i64 0, .bool false, .int .i64 0, .slice none 0 0] 24) = w8 := ⟨_, rfl⟩
      have hB8 := below_lits hw8
      have hX8 : w8.heap[w7.heap.size]? = some (.cells #[.bool false, .int .i64 0, .bool false, .int .i64 0, .slice none 0 0] 24) := by rw [← hw8]; exact World.alloc_heap_new _ _
      have hB68 := below_then hB7 hB8
      have HW8 := Lib.hid hw8
      clear hw8 hB7
      go_wp2_with fail
      rw [HW8.out]
      clear HW8
      have P2 := refRead_any row nm HMl.out B cB w8 (hR6.to hB68) H5.out (by omega) hmc
      rw [hres] at P2
      refine P2.mono ?_
      rintro e' w9 ⟨rfl, hB9⟩
      have hX9 := obj_below hX8 hB9
      clear P2 hX8
      obtain ⟨w10, hw10⟩ : ∃ w10, w9.alloc (.cells #[.bool false, .int .i64 0, .bool false, .int .i64 0, .slice none 0 0] 24) = w10 := ⟨_, rfl⟩
      have hB10 := below_lits hw10
      have hY10 : w10.heap[w9.heap.size]? = some (.cells #[.bool false, .int .i64 0, .bool false, .int .i64 0, .slice none 0 0] 24) := by rw [← hw10]; exact World.alloc_heap_new _ _
      have hX10 := obj_below hX9 hB10
      obtain ⟨c0, c1, c2, c3, c4⟩ := cells5' hX10
      obtain ⟨d0, d1, d2, d3, d4'⟩ := cells5' hY10
      rw [← hw10] at c0 c1 c2 c3 c4 d0 d1 d2 d3 d4'
      have HW10 := Lib.hid hw10
      have Hres := Veil.mk hres
      clear hw10 hres hX10 hY10 hX9
      go_wp2_with fail
      rw [HW10.out]
      clear c0 c1 c2 c3 c4 d0 d1 d2 d3 d4'
      refine (refFrSame_at false 0 false 0 [] 0 rfl none 0 false 0 false 0 [] 0 rfl none 0 _ (.inl rfl) (.inl rfl) byte_nil byte_nil true (by decide)).mono ?_
      rintro e' w11 ⟨rfl, hB11⟩
      go_wp2_with fail
      go_ret
      exact ⟨rfl, below_then hall6 (below_then hB68 (below_then hB9 (below_then hB10 hB11)))⟩
    · have hby : byteB fd := by obtain ⟨_, _, _, _, _, _, hb5, _⟩ := read_back H5.out hres; exact hb5
      have HBy := Lib.hid hby
      clear hby
      have HH := Veil.mk hres
      clear hres
      have HP1 := Veil.mk P1
      clear P1
      go_wp2_with fail
      refine HP1.out.mono ?_
      clear HP1
      rintro e' w7 ⟨D1, m1, c1', rfl, hm1, hmc1, hr1, hB7⟩
      have HM1 := Lib.hid hm1
      clear hm1
      simp only at HM1 hr1
      have hres := HH.out
      clear HH
      obtain ⟨w8, hw8⟩ : ∃ w8, w7.alloc (.cells #[.bool fx, .int .i64 fi, .bool fr, .int .i64 fn, .slice D1 m1 c1'] 24) = w8 := ⟨_, rfl⟩
      have hB8 := below_lits hw8
      have hX8 : w8.heap[w7.heap.size]? = some (.cells #[.bool fx, .int .i64 fi, .bool fr, .int .i64 fn, .slice D1 m1 c1'] 24) := by rw [← hw8]; exact World.alloc_heap_new _ _
      have hB68 := below_then hB7 hB8
      have HW8 := Lib.hid hw8
      clear hw8 hB7
      go_wp2_with fail
      rw [HW8.out]
      clear HW8
      have P2 := refRead_any row nm HMl.out B cB w8 (hR6.to hB68) H5.out (by omega) hmc
      rw [hres] at P2
      refine P2.mono ?_
      rintro e' w9 ⟨D2, m2, c2', rfl, hm2, hmc2, hr2, hB9⟩
      have HM2 := Lib.hid hm2
      clear hm2
      simp only at HM2 hr2
      have hX9 := obj_below hX8 hB9
      clear P2 hX8
      obtain ⟨w10, hw10⟩ : ∃ w10, w9.alloc (.cells #[.bool fx, .int .i64 fi, .bool fr, .int .i64 fn, .slice D2 m2 c2'] 24) = w10 := ⟨_, rfl⟩
      have hB10 := below_lits hw10
      have hY10 : w10.heap[w9.heap.size]? = some (.cells #[.bool fx, .int .i64 fi, .bool fr, .int .i64 fn, .slice D2 m2 c2'] 24) := by rw [← hw10]; exact World.alloc_heap_new _ _
      have hX10 := obj_below hX9 hB10
      obtain ⟨c0, c1, c2, c3, c4⟩ := cells5' hX10
      obtain ⟨d0, d1, d2, d3, d4'⟩ := cells5' hY10
      rw [← hw10] at c0 c1 c2 c3 c4 d0 d1 d2 d3 d4'
      have HW10 := Lib.hid hw10
      have Hres := Veil.mk hres
      clear hw10 hres hX10 hY10 hX9
      go_wp2_with fail
      rw [HW10.out]
      clear c0 c1 c2 c3 c4 d0 d1 d2 d3 d4'
      refine (refFrSame_at fx fi fr fn fd m1 HM1.out D1 c1' fx fi fr fn fd m2 HM2.out D2 c2' _ (hr1.to (below_then hB8 (below_then hB9 hB10))) (hr2.to hB10) HBy.out HBy.out true (sameV_self _ _ _ _ _)).mono ?_
      rintro e' w11 ⟨rfl, hB11⟩
      go_wp2_with fail
      go_ret
      exact ⟨rfl, below_then hall6 (below_then hB68 (below_then hB9 (below_then hB10 hB11)))⟩

end Go.Proofs.Ytmapkjjglhpamaa
