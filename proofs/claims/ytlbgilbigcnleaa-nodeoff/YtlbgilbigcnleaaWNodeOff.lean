/-
  NodeOff: the walk.
-/
import Derived.Test.YtlbgilbigcnleaaNdG
import Derived.Test.YtlbgilbigcnleaaNdV
import Derived.Test.YtlbgilbigcnleaaNdX
namespace Go.Proofs.Ytlbgilbigcnleaa
open Go.RowKit
set_option linter.unusedVariables false
set_option linter.unusedSimpArgs false

/-- How a counter stands that was Off, at so many calm times. -/
def offK (j : Nat) : CV := if j < 128 then ⟨256, 0, 3, (j : Int)⟩ else newV
def offN (N : NC) (j : Nat) : NC := ⟨N.q, N.l, offK j, N.g⟩
theorem offK_lt {j : Nat} (h : j < 128) : offK j = ⟨256, 0, 3, (j : Int)⟩ := by unfold offK; rw [if_pos h]
theorem offK_ok (j : Nat) : OkC (offK j) := by
  unfold offK
  by_cases h : j < 128
  · rw [if_pos h]; unfold OkC; right; right; dsimp only; omega
  · rw [if_neg h]; exact ok_new
theorem offN_ok {N : NC} (h : OkN N) (j : Nat) : OkN (offN N j) := ⟨h.q, h.qm, h.g, h.gm, h.l, h.lm, offK_ok j⟩
theorem offN_quiet (N : NC) {j : Nat} (h : j < 128) : quietN (offN N j) = offN N (j + 1) := by
  have : stepV (offK j) 6 = offK (j + 1) := by
    rw [offK_lt h]
    unfold stepV restV
    simp only [if_true]
    by_cases h1 : j = 127
    · subst h1; decide
    · rw [if_neg (by omega), offK_lt (by omega)]
      rw [cv_ext]; refine ⟨rfl, rfl, rfl, ?_⟩; dsimp only; omega
  unfold quietN offN
  simp [this]
theorem offN_heard (N : NC) {j : Nat} (h : j < 128) (F : FC) (a b : Bool) : heardN (offN N j) F a b = offN N j := by
  unfold heardN
  rw [if_pos (by show (offK j).s = 3; rw [offK_lt h])]
theorem offN_has {N : NC} {j : Nat} (h : j < 128) : hasN (offN N j) = false := by
  unfold hasN
  have : (offN N j).k.s = 3 := by show (offK j).s = 3; rw [offK_lt h]
  simp [this]
theorem offN_sent (N : NC) {j : Nat} (h : j < 128) (a : Bool) : sentN (offN N j) a = offN N j := by
  unfold sentN
  rw [offN_has h]; rfl
theorem offN_send {N : NC} {j : Nat} (h : j < 128) {F : FC} (hF : rightC F = true) : sendE (offN N j) F = 3 := by
  unfold sendE
  rw [if_pos hF, if_pos (by show (offK j).s = 3; rw [offK_lt h])]
theorem offN_back (N : NC) : hasN (offN N 128) = decide (N.q ≠ []) := by
  unfold hasN offN offK newV; simp

set_option maxRecDepth 100000 in
set_option maxHeartbeats 2000000 in
theorem nodeOff_any (n : NV) (N : NC) (f : FV) (F : FC) (T : Nat) (hT : T ≤ 255) (w : World) (h : NIs w (fun _ => True) n N) (hf : FIs w (fun _ => True) f F) :
    Calls Try.prog 8 #[n.v, f.v, .int .u8 T] w fun e w' => e = .returned (.bool true) ∧ Below w.heap.size w w' := by
  have q1 := eqIn_c
  have q2 := eq_c
  obtain ⟨qa, qm, qc, la, lm, lc, kk, ga, gm, gc⟩ := n
  obtain ⟨K, hK⟩ : ∃ K : Nat, T % 128 = K := ⟨_, rfl⟩
  have hK128 : K < 128 := by omega
  have m1 : (T : Int) % 128 = (K : Int) := by omega
  clear hK
  obtain ⟨w0, hw0⟩ : ∃ w0, ((w.alloc (.cells #[.slice qa qm qc, .slice la lm lc, .int .i64 kk.t, .int .i64 kk.r, .int .i64 kk.s, .int .i64 kk.q, .slice ga gm gc] 27)).alloc (.cells #[.bool f.x, .int .i64 f.i, .bool f.r, .int .i64 f.n, .slice f.a f.m f.c] 30)) = w0 := ⟨_, rfl⟩
  have hT0 : Below w.heap.size w w0 := by rw [← hw0]; exact below_then (below_alloc1 _ _) (below_alloc1 _ _)
  have hn0 : w0.heap[w.heap.size]? = some (.cells #[.slice qa qm qc, .slice la lm lc, .int .i64 kk.t, .int .i64 kk.r, .int .i64 kk.s, .int .i64 kk.q, .slice ga gm gc] 27) := by rw [← hw0]; exact block_below (below_alloc1 _ _) (World.alloc_heap_new _ _)
  have hf0 : w0.heap[(w.heap.size + 1)]? = some (.cells #[.bool f.x, .int .i64 f.i, .bool f.r, .int .i64 f.n, .slice f.a f.m f.c] 30) := by rw [← hw0]; exact alloc_at _ _ (by simp)
  have hs0 : w0.heap.size = w.heap.size + 2 := by rw [← hw0]; simp
  have Hs0 := Lib.hid hs0
  clear hs0
  have hln := (Array.getElem?_eq_some_iff.1 hn0).1
  obtain ⟨nc0, nc1, nc2, nc3, nc4, nc5, nc6⟩ := cells7' hn0
  have hlf := (Array.getElem?_eq_some_iff.1 hf0).1
  obtain ⟨fc0, fc1, fc2, fc3, fc4⟩ := cells5' hf0
  go_enter Try.func8, Try.ntmps8
  go_wp2_with fail
  clear hln nc0 nc1 nc2 nc3 nc4 nc5 nc6 hlf fc0 fc1 fc2 fc3 fc4
  clear hw0
  have hZ0 := Below.refl w0.heap.size w0
  have hN0 : NIs w0 (Out [w.heap.size]) ⟨qa, qm, qc, la, lm, lc, kk, ga, gm, gc⟩ N := (h.mono (fun b hb _ => out_cons (L := []) (Nat.le_refl _) b hb (fun _ h => by cases h))).to hT0
  have hF0 : FIs w0 (Out [w.heap.size]) f F := (hf.mono (fun b hb _ => out_cons (L := []) (Nat.le_refl _) b hb (fun _ h => by cases h))).to hT0
  have hgen : w.heap.size ≤ w.heap.size := Nat.le_refl _
  have hgef : w.heap.size ≤ w.heap.size + 1 := by omega
  have Hf_n := Lib.hid (show w.heap.size + 1 ≠ w.heap.size by omega)
  have Hn_f := Lib.hid (show w.heap.size ≠ w.heap.size + 1 by omega)
  refine (head_c w0).mono ?_
  rintro e w1 ⟨rfl, hB1⟩
  have hT1 := below_then hT0 hB1
  have hZ1 := below_then hZ0 hB1
  clear hZ0
  have hn1 := block_below hB1 hn0
  have hf1 := block_below hB1 hf0
  have hN1 := NIs.to hN0 hB1
  have hF1 := FIs.to hF0 hB1
  clear hT0 hn0 hf0 hN0 hF0 hB1
  have hln := (Array.getElem?_eq_some_iff.1 hn1).1
  obtain ⟨nc0, nc1, nc2, nc3, nc4, nc5, nc6⟩ := cells7' hn1
  have hlf := (Array.getElem?_eq_some_iff.1 hf1).1
  obtain ⟨fc0, fc1, fc2, fc3, fc4⟩ := cells5' hf1
  go_wp2_with fail
  clear hln nc0 nc1 nc2 nc3 nc4 nc5 nc6 hlf fc0 fc1 fc2 fc3 fc4
  refine (great9_c hN1).mono ?_
  rintro e w2 ⟨rfl | rfl, hB2⟩
  · skip
    have hT2 := below_then hT1 hB2
    have hZ2 := below_then hZ1 hB2
    clear hZ1
    have hn2 := block_below hB2 hn1
    have hf2 := block_below hB2 hf1
    have hN2 := NIs.to hN1 hB2
    have hF2 := FIs.to hF1 hB2
    clear hT1 hn1 hf1 hN1 hF1 hB2
    have hln := (Array.getElem?_eq_some_iff.1 hn2).1
    obtain ⟨nc0, nc1, nc2, nc3, nc4, nc5, nc6⟩ := cells7' hn2
    have hlf := (Array.getElem?_eq_some_iff.1 hf2).1
    obtain ⟨fc0, fc1, fc2, fc3, fc4⟩ := cells5' hf2
    go_wp2_with fail
    go_ret
    exact ⟨rfl, hT2⟩
  have hT2 := below_then hT1 hB2
  have hZ2 := below_then hZ1 hB2
  clear hZ1
  have hn2 := block_below hB2 hn1
  have hf2 := block_below hB2 hf1
  have hN2 := NIs.to hN1 hB2
  have hF2 := FIs.to hF1 hB2
  clear hT1 hn1 hf1 hN1 hF1 hB2
  have hln := (Array.getElem?_eq_some_iff.1 hn2).1
  obtain ⟨nc0, nc1, nc2, nc3, nc4, nc5, nc6⟩ := cells7' hn2
  have hlf := (Array.getElem?_eq_some_iff.1 hf2).1
  obtain ⟨fc0, fc1, fc2, fc3, fc4⟩ := cells5' hf2
  go_wp2_with fail
  clear hln nc0 nc1 nc2 nc3 nc4 nc5 nc6 hlf fc0 fc1 fc2 fc3 fc4
  obtain ⟨a, ha⟩ : ∃ q, decide (100 < F.d.length) = q := ⟨_, rfl⟩
  have Ha := Lib.hid ha
  clear ha
  cases a
  rotate_left
  · skip
    refine (great_c hF2 true Ha.out).mono ?_
    rintro e w3 ⟨rfl, hB3⟩
    have hT3 := below_then hT2 hB3
    have hZ3 := below_then hZ2 hB3
    clear hZ2
    have hn3 := block_below hB3 hn2
    have hf3 := block_below hB3 hf2
    have hN3 := NIs.to hN2 hB3
    have hF3 := FIs.to hF2 hB3
    clear hT2 hn2 hf2 hN2 hF2 hB3
    have hln := (Array.getElem?_eq_some_iff.1 hn3).1
    obtain ⟨nc0, nc1, nc2, nc3, nc4, nc5, nc6⟩ := cells7' hn3
    have hlf := (Array.getElem?_eq_some_iff.1 hf3).1
    obtain ⟨fc0, fc1, fc2, fc3, fc4⟩ := cells5' hf3
    go_wp2_with fail
    go_ret
    exact ⟨rfl, hT3⟩
  refine (great_c hF2 false Ha.out).mono ?_
  rintro e w3 ⟨rfl, hB3⟩
  have hT3 := below_then hT2 hB3
  have hZ3 := below_then hZ2 hB3
  clear hZ2
  have hn3 := block_below hB3 hn2
  have hf3 := block_below hB3 hf2
  have hN3 := NIs.to hN2 hB3
  have hF3 := FIs.to hF2 hB3
  clear hT2 hn2 hf2 hN2 hF2 hB3
  have hln := (Array.getElem?_eq_some_iff.1 hn3).1
  obtain ⟨nc0, nc1, nc2, nc3, nc4, nc5, nc6⟩ := cells7' hn3
  have hlf := (Array.getElem?_eq_some_iff.1 hf3).1
  obtain ⟨fc0, fc1, fc2, fc3, fc4⟩ := cells5' hf3
  go_wp2_with fail
  clear hln nc0 nc1 nc2 nc3 nc4 nc5 nc6 hlf fc0 fc1 fc2 fc3 fc4
  obtain ⟨c, hc⟩ : ∃ q, rightC F = q := ⟨_, rfl⟩
  have Hc := Lib.hid hc
  clear hc
  cases c
  · skip
    refine (refFrRight_c hF3 false Hc.out).mono ?_
    rintro e w4 ⟨rfl, hB4⟩
    have hT4 := below_then hT3 hB4
    have hZ4 := below_then hZ3 hB4
    clear hZ3
    have hn4 := block_below hB4 hn3
    have hf4 := block_below hB4 hf3
    have hN4 := NIs.to hN3 hB4
    have hF4 := FIs.to hF3 hB4
    clear hT3 hn3 hf3 hN3 hF3 hB4
    have hln := (Array.getElem?_eq_some_iff.1 hn4).1
    obtain ⟨nc0, nc1, nc2, nc3, nc4, nc5, nc6⟩ := cells7' hn4
    have hlf := (Array.getElem?_eq_some_iff.1 hf4).1
    obtain ⟨fc0, fc1, fc2, fc3, fc4⟩ := cells5' hf4
    go_wp2_with fail
    go_ret
    exact ⟨rfl, hT4⟩
  refine (refFrRight_c hF3 true Hc.out).mono ?_
  rintro e w4 ⟨rfl, hB4⟩
  have hT4 := below_then hT3 hB4
  have hZ4 := below_then hZ3 hB4
  clear hZ3
  have hn4 := block_below hB4 hn3
  have hf4 := block_below hB4 hf3
  have hN4 := NIs.to hN3 hB4
  have hF4 := FIs.to hF3 hB4
  clear hT3 hn3 hf3 hN3 hF3 hB4
  have hln := (Array.getElem?_eq_some_iff.1 hn4).1
  obtain ⟨⟨nc0, nc1, nc2, nc3, nc4, nc5, nc6⟩, nf0, nf1, nf2, nf3, nf4, nf5, nf6⟩ := cells7 hn4
  have hlf := (Array.getElem?_eq_some_iff.1 hf4).1
  obtain ⟨fc0, fc1, fc2, fc3, fc4⟩ := cells5' hf4
  go_wp2_with fail
  simp only [m1]
  clear hln nc0 nc1 nc2 nc3 nc4 nc5 nc6 nf0 nf1 nf2 nf3 nf4 nf5 nf6 hlf fc0 fc1 fc2 fc3 fc4
  obtain ⟨w5, hw5⟩ : ∃ w_, set25 w4 w.heap.size (.int .i64 256) (.int .i64 0) (.int .i64 3) (.int .i64 K) = w_ := ⟨_, rfl⟩
  have hG5 : w4.grownBy w5 (some w.heap.size) := by rw [← hw5]; exact set25_grown _ _ _ _ _ _
  have hT5 := below_g hT4 hG5 hgen
  have hn5 : w5.heap[w.heap.size]? = some (.cells #[.slice qa qm qc, .slice la lm lc, .int .i64 256, .int .i64 0, .int .i64 3, .int .i64 K, .slice ga gm gc] 27) := by rw [← hw5]; exact set25_obj hn4 _ _ _ _
  have hf5 := other_g hG5 hf4 Hf_n.out
  have hN5 := NIs.grow hN4 hG5 (out_not (by simp))
  have hF5 := FIs.grow hF4 hG5 (out_not (by simp))
  unfold set25 at hw5
  rw [hw5]
  clear hw5 hG5 hT4 hn4 hf4 hN4 hF4
  have hM5 : NIs w5 (Out [w.heap.size]) ⟨qa, qm, qc, la, lm, lc, ⟨256, 0, 3, (K : Int)⟩, ga, gm, gc⟩ (offN N K) := ⟨hN5.q, hN5.l, (offK_lt hK128).symm, hN5.g⟩
  clear hN5
  obtain ⟨d, hd⟩ : ∃ q, rightN (offN N K) = q := ⟨_, rfl⟩
  have Hd := Lib.hid hd
  clear hd
  cases d
  · skip
    refine (right_c hM5 false Hd.out).mono ?_
    rintro e w6 ⟨rfl, hB6⟩
    have hT6 := below_then hT5 hB6
    have hn6 := block_below hB6 hn5
    have hf6 := block_below hB6 hf5
    have hF6 := FIs.to hF5 hB6
    have hM6 := NIs.to hM5 hB6
    clear hT5 hn5 hf5 hF5 hM5 hB6
    have hln := (Array.getElem?_eq_some_iff.1 hn6).1
    obtain ⟨nc0, nc1, nc2, nc3, nc4, nc5, nc6⟩ := cells7' hn6
    have hlf := (Array.getElem?_eq_some_iff.1 hf6).1
    obtain ⟨fc0, fc1, fc2, fc3, fc4⟩ := cells5' hf6
    go_wp2_with fail
    go_ret
    exact ⟨rfl, hT6⟩
  refine (right_c hM5 true Hd.out).mono ?_
  rintro e w6 ⟨rfl, hB6⟩
  have hT6 := below_then hT5 hB6
  have hn6 := block_below hB6 hn5
  have hf6 := block_below hB6 hf5
  have hF6 := FIs.to hF5 hB6
  have hM6 := NIs.to hM5 hB6
  clear hT5 hn5 hf5 hF5 hM5 hB6
  have hln := (Array.getElem?_eq_some_iff.1 hn6).1
  obtain ⟨nc0, nc1, nc2, nc3, nc4, nc5, nc6⟩ := cells7' hn6
  have hlf := (Array.getElem?_eq_some_iff.1 hf6).1
  obtain ⟨fc0, fc1, fc2, fc3, fc4⟩ := cells5' hf6
  go_wp2_with fail
  clear hln nc0 nc1 nc2 nc3 nc4 nc5 nc6 hlf fc0 fc1 fc2 fc3 fc4
  have Hok := Lib.hid (rightN_iff.1 Hd.out)
  refine (next_c hM6 Hok.out false (offN_has hK128) _ rfl).mono ?_
  rintro e w7 ⟨x, rfl, hx_, hB7⟩
  have hT7 := below_then hT6 hB7
  have hn7 := block_below hB7 hn6
  have hf7 := block_below hB7 hf6
  have hF7 := FIs.to hF6 hB7
  have hM7 := NIs.to hM6 hB7
  clear hT6 hn6 hf6 hF6 hM6 hB7
  have hx7 := hx_
  clear hx_
  clear hx7
  have hln := (Array.getElem?_eq_some_iff.1 hn7).1
  obtain ⟨nc0, nc1, nc2, nc3, nc4, nc5, nc6⟩ := cells7' hn7
  have hlf := (Array.getElem?_eq_some_iff.1 hf7).1
  obtain ⟨fc0, fc1, fc2, fc3, fc4⟩ := cells5' hf7
  go_wp2_with fail
  clear hln nc0 nc1 nc2 nc3 nc4 nc5 nc6 hlf fc0 fc1 fc2 fc3 fc4
  obtain ⟨w8, hw8⟩ : ∃ w8, w7.alloc (.cells #[.bool x.x, .int .i64 x.i, .bool x.r, .int .i64 x.n, .slice x.a x.m x.c] 30) = w8 := ⟨_, rfl⟩
  have hB8 : Below w7.heap.size w7 w8 := by rw [← hw8]; exact below_alloc1 _ _
  have hu8 : w8.heap[w7.heap.size]? = some (.cells #[.bool x.x, .int .i64 x.i, .bool x.r, .int .i64 x.n, .slice x.a x.m x.c] 30) := by rw [← hw8]; exact World.alloc_heap_new _ _
  rw [hw8]
  clear hw8
  have hT8 := below_then hT7 hB8
  have hn8 := block_below hB8 hn7
  have hf8 := block_below hB8 hf7
  have hF8 := FIs.to hF7 hB8
  have hM8 := NIs.to hM7 hB8
  clear hT7 hn7 hf7 hF7 hM7 hB8
  clear hu8
  refine (send_c hM8 hF8 Hok.out (out_up (lt_cons (Array.getElem?_eq_some_iff.1 hn8).1 (fun _ h => by cases h))) 3 (offN_send hK128 Hc.out) _ rfl).mono ?_
  rintro e w9 ⟨y, rfl, hy_, hB9⟩
  have hT9 := below_then hT8 hB9
  have hn9 := block_below hB9 hn8
  have hf9 := block_below hB9 hf8
  have hF9 := FIs.to hF8 hB9
  have hM9 := NIs.to hM8 hB9
  clear hT8 hn8 hf8 hF8 hM8 hB9
  have hy9 := hy_
  clear hy_
  clear hy9
  have hln := (Array.getElem?_eq_some_iff.1 hn9).1
  obtain ⟨nc0, nc1, nc2, nc3, nc4, nc5, nc6⟩ := cells7' hn9
  have hlf := (Array.getElem?_eq_some_iff.1 hf9).1
  obtain ⟨fc0, fc1, fc2, fc3, fc4⟩ := cells5' hf9
  go_wp2_with fail
  simp only [m1]
  clear hln nc0 nc1 nc2 nc3 nc4 nc5 nc6 hlf fc0 fc1 fc2 fc3 fc4
  obtain ⟨w10, hw10⟩ : ∃ w10, w9.alloc (.cells #[.slice y.qa y.qm y.qc, .slice y.la y.lm y.lc, .int .i64 y.k.t, .int .i64 y.k.r, .int .i64 y.k.s, .int .i64 y.k.q, .slice y.ga y.gm y.gc] 27) = w10 := ⟨_, rfl⟩
  have hB10 : Below w9.heap.size w9 w10 := by rw [← hw10]; exact below_alloc1 _ _
  have hv10 : w10.heap[w9.heap.size]? = some (.cells #[.slice y.qa y.qm y.qc, .slice y.la y.lm y.lc, .int .i64 y.k.t, .int .i64 y.k.r, .int .i64 y.k.s, .int .i64 y.k.q, .slice y.ga y.gm y.gc] 27) := by rw [← hw10]; exact World.alloc_heap_new _ _
  have hzw10 : w10.heap.size = w9.heap.size + 1 := by rw [← hw10]; simp
  rw [hw10]
  clear hw10
  have hT10 := below_then hT9 hB10
  have hn10 := block_below hB10 hn9
  have hf10 := block_below hB10 hf9
  have hF10 := FIs.to hF9 hB10
  have hM10 := NIs.to hM9 hB10
  clear hT9 hn9 hf9 hF9 hM9 hB10
  clear hv10
  replace hF10 := hF10.mono (out_cons (L := [w.heap.size]) (X := (w9.heap.size + 1)) (Nat.le_of_eq hzw10))
  replace hM10 := hM10.mono (out_cons (L := [w.heap.size]) (X := (w9.heap.size + 1)) (Nat.le_of_eq hzw10))
  have hgem : w.heap.size ≤ (w9.heap.size + 1) := (hzw10 ▸ hT10.size)
  have Hn_m := Lib.hid (show w.heap.size ≠ (w9.heap.size + 1) from Nat.ne_of_lt (by have := (Array.getElem?_eq_some_iff.1 hn10).1; rw [hzw10] at this; exact this))
  have Hm_n := Lib.hid (show (w9.heap.size + 1) ≠ w.heap.size from Ne.symm Hn_m.out)
  have Hf_m := Lib.hid (show (w.heap.size + 1) ≠ (w9.heap.size + 1) from Nat.ne_of_lt (by have := (Array.getElem?_eq_some_iff.1 hf10).1; rw [hzw10] at this; exact this))
  have Hm_f := Lib.hid (show (w9.heap.size + 1) ≠ (w.heap.size + 1) from Ne.symm Hf_m.out)
  obtain ⟨w11, hw11⟩ : ∃ w11, w10.alloc (.cells #[.slice qa qm qc, .slice la lm lc, .int .i64 256, .int .i64 0, .int .i64 3, .int .i64 K, .slice ga gm gc] 27) = w11 := ⟨_, rfl⟩
  have hB11 : Below w10.heap.size w10 w11 := by rw [← hw11]; exact below_alloc1 _ _
  have hm11 : w11.heap[(w9.heap.size + 1)]? = some (.cells #[.slice qa qm qc, .slice la lm lc, .int .i64 256, .int .i64 0, .int .i64 3, .int .i64 K, .slice ga gm gc] 27) := by rw [← hw11]; exact alloc_at _ _ hzw10
  rw [hw11]
  clear hw11
  have hT11 := below_then hT10 hB11
  have hn11 := block_below hB11 hn10
  have hf11 := block_below hB11 hf10
  have hF11 := FIs.to hF10 hB11
  have hM11 := NIs.to hM10 hB11
  clear hT10 hn10 hf10 hF10 hM10 hB11
  clear hzw10
  go_loopw [13] (fun i wr => ∃ (j : Nat) (m : NV), K ≤ j ∧ j ≤ 128 ∧ i = .int .i64 j ∧ wr.heap[(w9.heap.size + 1)]? = some (.cells #[.slice m.qa m.qm m.qc, .slice m.la m.lm m.lc, .int .i64 m.k.t, .int .i64 m.k.r, .int .i64 m.k.s, .int .i64 m.k.q, .slice m.ga m.gm m.gc] 27) ∧ NIs wr (Out [(w9.heap.size + 1), w.heap.size]) m (offN N j) ∧ wr.heap[w.heap.size]? = some (.cells #[.slice qa qm qc, .slice la lm lc, .int .i64 256, .int .i64 0, .int .i64 3, .int .i64 K, .slice ga gm gc] 27) ∧ wr.heap[(w.heap.size + 1)]? = some (.cells #[.bool f.x, .int .i64 f.i, .bool f.r, .int .i64 f.n, .slice f.a f.m f.c] 30) ∧ NIs wr (Out [(w9.heap.size + 1), w.heap.size]) ⟨qa, qm, qc, la, lm, lc, ⟨256, 0, 3, (K : Int)⟩, ga, gm, gc⟩ (offN N K) ∧ FIs wr (Out [(w9.heap.size + 1), w.heap.size]) f F ∧ Below w.heap.size w wr) (fun i _ => 128 - (intOf i).toNat)
  case atStart => exact ⟨K, ⟨qa, qm, qc, la, lm, lc, ⟨256, 0, 3, (K : Int)⟩, ga, gm, gc⟩, Nat.le_refl _, by omega, rfl, hm11, hM11, hn11, hf11, hM11, hF11, hT11⟩
  case round =>
    clear hm11 hn11 hf11 hM11 hF11 hT11
    obtain ⟨j, m, hKj, hj, rfl, hm50, hV50, hn50, hf50, hM50, hF50, hT50⟩ := hrel
    have Hok2 := Lib.hid (show ∀ i, OkN (offN N i) from fun i => offN_ok (N := offN N K) Hok.out i)
    by_cases hlt : j < 128
    · skip
      have i1 : (j : Int) < 128 := by omega
      have e3 : m.k.s = 3 := by rw [hV50.k]; show (offK j).s = 3; rw [offK_lt hlt]
      have He3 := Lib.hid e3
      clear e3
      have hln := (Array.getElem?_eq_some_iff.1 hn50).1
      obtain ⟨nc0, nc1, nc2, nc3, nc4, nc5, nc6⟩ := cells7' hn50
      have hlf := (Array.getElem?_eq_some_iff.1 hf50).1
      obtain ⟨fc0, fc1, fc2, fc3, fc4⟩ := cells5' hf50
      have hlm := (Array.getElem?_eq_some_iff.1 hm50).1
      obtain ⟨mc0, mc1, mc2, mc3, mc4, mc5, mc6⟩ := cells7' hm50
      go_wp2_with fail
      clear hln nc0 nc1 nc2 nc3 nc4 nc5 nc6 hlf fc0 fc1 fc2 fc3 fc4 hlm mc0 mc1 mc2 mc3 mc4 mc5 mc6
      have hup : ∀ b, wr.heap.size ≤ b → Out [(w9.heap.size + 1), w.heap.size] b := (out_up (lt_cons (Array.getElem?_eq_some_iff.1 hm50).1 (lt_cons (Array.getElem?_eq_some_iff.1 hn50).1 (fun _ h => by cases h))))
      have He4 := Lib.hid (offN_heard N hlt F true false)
      have He5 := Lib.hid (offN_sent N hlt true)
      rw [He3.out] at hm50
      have Hv3 := Lib.hid (show m = ⟨m.qa, m.qm, m.qc, m.la, m.lm, m.lc, ⟨m.k.t, m.k.r, 3, m.k.q⟩, m.ga, m.gm, m.gc⟩ by obtain ⟨a1, a2, a3, a4, a5, a6, ⟨b1, b2, b3, b4⟩, a8, a9, a10⟩ := m; have := He3.out; dsimp only at this; subst this; rfl)
      rw [Hv3.out] at hV50
      refine wp_region_held_drew (S := fun W => (W.cell? ⟨(w.heap.size + 1), 0, none⟩ = some (.bool f.x) ∧ W.cell? ⟨(w.heap.size + 1), 1, none⟩ = some (.int .i64 f.i) ∧ W.cell? ⟨(w.heap.size + 1), 2, none⟩ = some (.bool f.r) ∧ W.cell? ⟨(w.heap.size + 1), 3, none⟩ = some (.int .i64 f.n) ∧ W.cell? ⟨(w.heap.size + 1), 4, none⟩ = some (.slice f.a f.m f.c)) ∧ (W.cell? ⟨(w9.heap.size + 1), 0, none⟩ = some (.slice m.qa m.qm m.qc) ∧ W.cell? ⟨(w9.heap.size + 1), 1, none⟩ = some (.slice m.la m.lm m.lc) ∧ W.cell? ⟨(w9.heap.size + 1), 2, none⟩ = some (.int .i64 m.k.t) ∧ W.cell? ⟨(w9.heap.size + 1), 3, none⟩ = some (.int .i64 m.k.r) ∧ W.cell? ⟨(w9.heap.size + 1), 4, none⟩ = some (.int .i64 3) ∧ W.cell? ⟨(w9.heap.size + 1), 5, none⟩ = some (.int .i64 m.k.q) ∧ W.cell? ⟨(w9.heap.size + 1), 6, none⟩ = some (.slice m.ga m.gm m.gc))) (by kernel_rfl) (by exact ⟨cells5' (block_below (below_drew1 _) hf50), cells7' (block_below (below_drew1 _) hm50)⟩) (fun hHeld_ => ?_)
      refine wpAnyH_take' (i := 0) (v := ?v0_t1) 57 rfl rfl (by kernel_rfl) (by kernel_rfl) (by kernel_rfl) (fun _ _ _ h => h) (Or.inl ⟨by kernel_rfl, ?hy0_t1⟩) (by assumption) ?rest0_t1
      case hy0_t1 => (intro W_ hS_; (try dsimp only at hS_); go_simp; (try (with_reducible rfl)))
      try simp only [Act.put, List.setIfInBounds_toArray, List.set_cons_zero, List.set_cons_succ]
      refine wpAnyH_take' (i := 1) (v := ?v1_t1) 58 rfl rfl (by kernel_rfl) (by kernel_rfl) (by kernel_rfl) (fun _ _ _ h => h) (Or.inl ⟨by kernel_rfl, ?hy1_t1⟩) (by assumption) ?rest1_t1
      case hy1_t1 => (intro W_ hS_; (try dsimp only at hS_); go_simp; (try (with_reducible rfl)))
      try simp only [Act.put, List.setIfInBounds_toArray, List.set_cons_zero, List.set_cons_succ]
      refine wpAnyH_take' (i := 3) (v := ?v3_t1) 60 rfl rfl (by kernel_rfl) (by kernel_rfl) (by kernel_rfl) (fun _ _ _ h => h) (Or.inl ⟨by kernel_rfl, ?hy3_t1⟩) (by assumption) ?rest3_t1
      case hy3_t1 => (intro W_ hS_; (try dsimp only at hS_); go_simp; (try (with_reducible rfl)))
      try simp only [Act.put, List.setIfInBounds_toArray, List.set_cons_zero, List.set_cons_succ]
      refine wpAnyH_ready (rs := [2]) (by kernel_rfl) (by simp) ?_
      refine AllReadyH.cons rfl (fun K_ hK_ => ?_) AllReadyH.nil
      go_simp
      refine (heard_c (NIs.to hV50 (below_drew1 _)) (FIs.to hF50 (below_drew1 _)) (Hok2.out j) Hc.out (fun b hb => hup b (Nat.le_trans (below_drew1 _).size hb)) true false (offN N j) He4.out).mono ?_; rintro e wr2 ⟨p, rfl, hp_, hBr2⟩
      go_wp2_with fail
      refine hK_.out _ _ (by exact ⟨cells5' (block_below hBr2 (block_below (below_drew1 _) hf50)), cells7' (block_below hBr2 (block_below (below_drew1 _) hm50))⟩) (fun hHeld_2 => ?_)
      clear hK_
      try simp only [Act.put, List.setIfInBounds_toArray, List.set_cons_zero, List.set_cons_succ]
      refine wpAnyH_ready (rs := [4]) (by kernel_rfl) (by simp) ?_
      refine AllReadyH.cons rfl (fun K_ hK_ => ?_) AllReadyH.nil
      go_simp
      refine (same9_c hp_ (NIs.to (NIs.to hV50 (below_drew1 _)) hBr2) true (by unfold sameN; simp)).mono ?_; rintro e wr4 ⟨rfl, hBr4⟩
      go_wp2_with fail
      refine hK_.out _ _ (by exact ⟨cells5' (block_below hBr4 (block_below hBr2 (block_below (below_drew1 _) hf50))), cells7' (block_below hBr4 (block_below hBr2 (block_below (below_drew1 _) hm50)))⟩) (fun hHeld_4 => ?_)
      clear hK_
      try simp only [Act.put, List.setIfInBounds_toArray, List.set_cons_zero, List.set_cons_succ]
      refine wpAnyH_take' (i := 5) (v := ?v5_t1) 62 rfl rfl (by kernel_rfl) (by kernel_rfl) (by kernel_rfl) (fun _ _ _ h => h) (Or.inl ⟨by kernel_rfl, ?hy5_t1⟩) (by assumption) ?rest5_t1
      case hy5_t1 => (intro W_ hS_; (try dsimp only at hS_); go_simp; (try (with_reducible rfl)))
      try simp only [Act.put, List.setIfInBounds_toArray, List.set_cons_zero, List.set_cons_succ]
      refine wpAnyH_take' (i := 6) (v := ?v6_t1) 63 rfl rfl (by kernel_rfl) (by kernel_rfl) (by kernel_rfl) (fun _ _ _ h => h) (Or.inl ⟨by kernel_rfl, ?hy6_t1⟩) (by assumption) ?rest6_t1
      case hy6_t1 => (intro W_ hS_; (try dsimp only at hS_); go_simp; (try (with_reducible rfl)))
      try simp only [Act.put, List.setIfInBounds_toArray, List.set_cons_zero, List.set_cons_succ]
      refine wpAnyH_take' (i := 7) (v := ?v7_t1) 64 rfl rfl (by kernel_rfl) (by kernel_rfl) (by kernel_rfl) (fun _ _ _ h => h) (Or.inl ⟨by kernel_rfl, ?hy7_t1⟩) (by assumption) ?rest7_t1
      case hy7_t1 => (intro W_ hS_; (try dsimp only at hS_); go_simp; (try (with_reducible rfl)))
      try simp only [Act.put, List.setIfInBounds_toArray, List.set_cons_zero, List.set_cons_succ]
      refine wpAnyH_take' (i := 9) (v := ?v9_t1) 66 rfl rfl (by kernel_rfl) (by kernel_rfl) (by kernel_rfl) (fun _ _ _ h => h) (Or.inl ⟨by kernel_rfl, ?hy9_t1⟩) (by assumption) ?rest9_t1
      case hy9_t1 => (intro W_ hS_; (try dsimp only at hS_); go_simp; (try (with_reducible rfl)))
      try simp only [Act.put, List.setIfInBounds_toArray, List.set_cons_zero, List.set_cons_succ]
      refine wpAnyH_ready (rs := [8]) (by kernel_rfl) (by simp) ?_
      refine AllReadyH.cons rfl (fun K_ hK_ => ?_) AllReadyH.nil
      go_simp
      refine (sent_c (NIs.to (NIs.to (NIs.to hV50 (below_drew1 _)) hBr2) hBr4) (Hok2.out j) (fun b hb => hup b (Nat.le_trans (below_then (below_then (below_drew1 _) hBr2) hBr4).size hb)) true (offN N j) He5.out).mono ?_; rintro e wr8 ⟨r, rfl, hr_, hBr8⟩
      go_wp2_with fail
      refine hK_.out _ _ (by exact ⟨cells5' (block_below hBr8 (block_below hBr4 (block_below hBr2 (block_below (below_drew1 _) hf50)))), cells7' (block_below hBr8 (block_below hBr4 (block_below hBr2 (block_below (below_drew1 _) hm50))))⟩) (fun hHeld_8 => ?_)
      clear hK_
      try simp only [Act.put, List.setIfInBounds_toArray, List.set_cons_zero, List.set_cons_succ]
      refine wpAnyH_ready (rs := [10]) (by kernel_rfl) (by simp) ?_
      refine AllReadyH.cons rfl (fun K_ hK_ => ?_) AllReadyH.nil
      go_simp
      refine (same9_c hr_ (NIs.to (NIs.to (NIs.to (NIs.to hV50 (below_drew1 _)) hBr2) hBr4) hBr8) true (by unfold sameN; simp)).mono ?_; rintro e wr10 ⟨rfl, hBr10⟩
      go_wp2_with fail
      refine hK_.out _ _ (by exact ⟨cells5' (block_below hBr10 (block_below hBr8 (block_below hBr4 (block_below hBr2 (block_below (below_drew1 _) hf50))))), cells7' (block_below hBr10 (block_below hBr8 (block_below hBr4 (block_below hBr2 (block_below (below_drew1 _) hm50)))))⟩) (fun hHeld_10 => ?_)
      clear hK_
      try simp only [Act.put, List.setIfInBounds_toArray, List.set_cons_zero, List.set_cons_succ]
      refine wpAnyH_take' (i := 11) (v := ?v11_t1) 68 rfl rfl (by kernel_rfl) (by kernel_rfl) (by kernel_rfl) (fun _ _ _ h => h) (Or.inl ⟨by kernel_rfl, ?hy11_t1⟩) (by assumption) ?rest11_t1
      case hy11_t1 => (intro W_ hS_; (try dsimp only at hS_); go_simp; (try (with_reducible rfl)))
      try simp only [Act.put, List.setIfInBounds_toArray, List.set_cons_zero, List.set_cons_succ]
      refine wpAnyH_take' (i := 12) (v := ?v12_t1) 69 rfl rfl (by kernel_rfl) (by kernel_rfl) (by kernel_rfl) (fun _ _ _ h => h) (Or.inl ⟨by kernel_rfl, ?hy12_t1⟩) (by assumption) ?rest12_t1
      case hy12_t1 => (intro W_ hS_; (try dsimp only at hS_); go_simp; (try (with_reducible rfl)))
      try simp only [Act.put, List.setIfInBounds_toArray, List.set_cons_zero, List.set_cons_succ]
      refine wpAnyH_take' (i := 13) (v := ?v13_t1) 70 rfl rfl (by kernel_rfl) (by kernel_rfl) (by kernel_rfl) (fun _ _ _ h => h) (Or.inl ⟨by kernel_rfl, ?hy13_t1⟩) (by assumption) ?rest13_t1
      case hy13_t1 => (intro W_ hS_; (try dsimp only at hS_); go_simp; (try (with_reducible rfl)))
      try simp only [Act.put, List.setIfInBounds_toArray, List.set_cons_zero, List.set_cons_succ]
      refine wpAnyH_take' (i := 14) (v := ?v14_t1) 71 rfl rfl (by kernel_rfl) (by kernel_rfl) (by kernel_rfl) (fun _ _ _ h => h) (Or.inl ⟨by kernel_rfl, ?hy14_t1⟩) (by assumption) ?rest14_t1
      case hy14_t1 => (intro W_ hS_; (try dsimp only at hS_); go_simp; (try (with_reducible rfl)))
      try simp only [Act.put, List.setIfInBounds_toArray, List.set_cons_zero, List.set_cons_succ]
      refine wpAnyH_take' (i := 15) (v := ?v15_t1) 72 rfl rfl (by kernel_rfl) (by kernel_rfl) (by kernel_rfl) (fun _ _ _ h => h) (Or.inl ⟨by kernel_rfl, ?hy15_t1⟩) (by assumption) ?rest15_t1
      case hy15_t1 => (intro W_ hS_; (try dsimp only at hS_); go_simp; (try (with_reducible rfl)))
      try simp only [Act.put, List.setIfInBounds_toArray, List.set_cons_zero, List.set_cons_succ]
      refine wpAnyH_take' (i := 16) (v := ?v16_t1) 73 rfl rfl (by kernel_rfl) (by kernel_rfl) (by kernel_rfl) (fun _ _ _ h => h) (Or.inl ⟨by kernel_rfl, ?hy16_t1⟩) (by assumption) ?rest16_t1
      case hy16_t1 => (intro W_ hS_; (try dsimp only at hS_); go_simp; (try (with_reducible rfl)))
      try simp only [Act.put, List.setIfInBounds_toArray, List.set_cons_zero, List.set_cons_succ]
      refine wpAnyH_take' (i := 17) (v := ?v17_t1) 74 rfl rfl (by kernel_rfl) (by kernel_rfl) (by kernel_rfl) (fun _ _ _ h => h) (Or.inl ⟨by kernel_rfl, ?hy17_t1⟩) (by assumption) ?rest17_t1
      case hy17_t1 => (intro W_ hS_; (try dsimp only at hS_); go_simp; (try (with_reducible rfl)))
      try simp only [Act.put, List.setIfInBounds_toArray, List.set_cons_zero, List.set_cons_succ]
      refine wpAnyH_take' (i := 18) (v := ?v18_t1) 75 rfl rfl (by kernel_rfl) (by kernel_rfl) (by kernel_rfl) (fun _ _ _ h => h) (Or.inl ⟨by kernel_rfl, ?hy18_t1⟩) (by assumption) ?rest18_t1
      case hy18_t1 => (intro W_ hS_; (try dsimp only at hS_); go_simp; (try (with_reducible rfl)))
      try simp only [Act.put, List.setIfInBounds_toArray, List.set_cons_zero, List.set_cons_succ]
      refine wpAnyH_done (by kernel_rfl) ?_ _
      obtain ⟨w51, hw51⟩ : ∃ w51, wr10 = w51 := ⟨_, rfl⟩
      have hB51 : Below wr.heap.size wr w51 := by rw [← hw51]; exact (below_then (below_then (below_then (below_then (below_drew1 _) hBr2) hBr4) hBr8) hBr10)
      have hp51 := (NIs.to (NIs.to (NIs.to hp_ hBr4) hBr8) hBr10)
      rw [hw51] at hp51
      have hr51 := (NIs.to hr_ hBr10)
      rw [hw51] at hr51
      rw [hw51]
      clear hw51 hp_ hr_ hBr2 hBr4 hBr8 hBr10
      have hT51 := below_then hT50 hB51
      have hn51 := block_below hB51 hn50
      have hf51 := block_below hB51 hf50
      have hm51 := block_below hB51 hm50
      have hV51 := NIs.to hV50 hB51
      have hM51 := NIs.to hM50 hB51
      have hF51 := FIs.to hF50 hB51
      clear hT50 hn50 hf50 hm50 hV50 hM50 hF50 hB51
      clear hp51
      clear hr51
      have hln := (Array.getElem?_eq_some_iff.1 hn51).1
      obtain ⟨nc0, nc1, nc2, nc3, nc4, nc5, nc6⟩ := cells7' hn51
      have hlf := (Array.getElem?_eq_some_iff.1 hf51).1
      obtain ⟨fc0, fc1, fc2, fc3, fc4⟩ := cells5' hf51
      have hlm := (Array.getElem?_eq_some_iff.1 hm51).1
      obtain ⟨mc0, mc1, mc2, mc3, mc4, mc5, mc6⟩ := cells7' hm51
      go_wp2_with fail
      clear hln nc0 nc1 nc2 nc3 nc4 nc5 nc6 hlf fc0 fc1 fc2 fc3 fc4 hlm mc0 mc1 mc2 mc3 mc4 mc5 mc6
      refine (quiet_c hV51 (Hok2.out j) (offN N (j + 1)) (offN_quiet N hlt)).mono ?_
      rintro e w52 ⟨m2, rfl, hm2_, hB52⟩
      have hT52 := below_then hT51 hB52
      have hn52 := block_below hB52 hn51
      have hf52 := block_below hB52 hf51
      have hm52 := block_below hB52 hm51
      have hV52 := NIs.to hV51 hB52
      have hM52 := NIs.to hM51 hB52
      have hF52 := FIs.to hF51 hB52
      clear hT51 hn51 hf51 hm51 hV51 hM51 hF51 hB52
      have hm252 := hm2_
      clear hm2_
      clear hV52
      have hln := (Array.getElem?_eq_some_iff.1 hn52).1
      obtain ⟨nc0, nc1, nc2, nc3, nc4, nc5, nc6⟩ := cells7' hn52
      have hlf := (Array.getElem?_eq_some_iff.1 hf52).1
      obtain ⟨fc0, fc1, fc2, fc3, fc4⟩ := cells5' hf52
      have hlm := (Array.getElem?_eq_some_iff.1 hm52).1
      obtain ⟨⟨mc0, mc1, mc2, mc3, mc4, mc5, mc6⟩, mf0, mf1, mf2, mf3, mf4, mf5, mf6⟩ := cells7 hm52
      go_wp2_with fail
      clear hln nc0 nc1 nc2 nc3 nc4 nc5 nc6 hlf fc0 fc1 fc2 fc3 fc4 hlm mc0 mc1 mc2 mc3 mc4 mc5 mc6 mf0 mf1 mf2 mf3 mf4 mf5 mf6
      obtain ⟨w53, hw53⟩ : ∃ w_, set7 w52 (w9.heap.size + 1) (.slice m2.qa m2.qm m2.qc) (.slice m2.la m2.lm m2.lc) (.int .i64 m2.k.t) (.int .i64 m2.k.r) (.int .i64 m2.k.s) (.int .i64 m2.k.q) (.slice m2.ga m2.gm m2.gc) = w_ := ⟨_, rfl⟩
      have hG53 : w52.grownBy w53 (some (w9.heap.size + 1)) := by rw [← hw53]; exact set7_grown _ _ _ _ _ _ _ _ _
      have hT53 := below_g hT52 hG53 hgem
      have hn53 := other_g hG53 hn52 Hn_m.out
      have hf53 := other_g hG53 hf52 Hf_m.out
      have hm53 : w53.heap[(w9.heap.size + 1)]? = some (.cells #[.slice m2.qa m2.qm m2.qc, .slice m2.la m2.lm m2.lc, .int .i64 m2.k.t, .int .i64 m2.k.r, .int .i64 m2.k.s, .int .i64 m2.k.q, .slice m2.ga m2.gm m2.gc] 27) := by rw [← hw53]; exact set7_obj hm52 _ _ _ _ _ _ _
      have hM53 := NIs.grow hM52 hG53 (out_not (by simp))
      have hF53 := FIs.grow hF52 hG53 (out_not (by simp))
      have hm253 := NIs.grow hm252 hG53 (out_not (by simp))
      have Hsz53 := Lib.hid (show w53.heap.size = w52.heap.size by rw [← hw53]; simp [set7, World.setCell])
      unfold set7 at hw53
      rw [hw53]
      clear hw53 hG53 hT52 hn52 hf52 hm52 hM52 hF52 hm252
      go_round
      case measure => simp [intOf]; omega
      exact ⟨j + 1, m2, by omega, by omega, by go_num, hm53, hm253, hn53, hf53, hM53, hF53, hT53⟩
    obtain rfl : j = 128 := by omega
    have i1 : ¬ ((128 : Nat) : Int) < 128 := by omega
    clear hj hKj
    obtain ⟨b, hb⟩ : ∃ q, decide (N.q ≠ []) = q := ⟨_, rfl⟩
    have Hb := Lib.hid hb
    clear hb
    have Hb2 := Lib.hid (show hasN (offN N 128) = b by rw [offN_back]; exact Hb.out)
    have hln := (Array.getElem?_eq_some_iff.1 hn50).1
    obtain ⟨nc0, nc1, nc2, nc3, nc4, nc5, nc6⟩ := cells7' hn50
    have hlf := (Array.getElem?_eq_some_iff.1 hf50).1
    obtain ⟨fc0, fc1, fc2, fc3, fc4⟩ := cells5' hf50
    have hlm := (Array.getElem?_eq_some_iff.1 hm50).1
    obtain ⟨mc0, mc1, mc2, mc3, mc4, mc5, mc6⟩ := cells7' hm50
    go_wp2_with fail
    clear hln nc0 nc1 nc2 nc3 nc4 nc5 nc6 hlf fc0 fc1 fc2 fc3 fc4 hlm mc0 mc1 mc2 mc3 mc4 mc5 mc6
    refine (next_c hV50 (Hok2.out 128) b Hb2.out _ rfl).mono ?_
    rintro e w51 ⟨x2, rfl, hx2_, hB51⟩
    have hT51 := below_then hT50 hB51
    have hn51 := block_below hB51 hn50
    have hf51 := block_below hB51 hf50
    have hm51 := block_below hB51 hm50
    have hV51 := NIs.to hV50 hB51
    have hM51 := NIs.to hM50 hB51
    have hF51 := FIs.to hF50 hB51
    clear hT50 hn50 hf50 hm50 hV50 hM50 hF50 hB51
    have hx251 := hx2_
    clear hx2_
    clear hx251
    have hln := (Array.getElem?_eq_some_iff.1 hn51).1
    obtain ⟨nc0, nc1, nc2, nc3, nc4, nc5, nc6⟩ := cells7' hn51
    have hlf := (Array.getElem?_eq_some_iff.1 hf51).1
    obtain ⟨fc0, fc1, fc2, fc3, fc4⟩ := cells5' hf51
    have hlm := (Array.getElem?_eq_some_iff.1 hm51).1
    obtain ⟨mc0, mc1, mc2, mc3, mc4, mc5, mc6⟩ := cells7' hm51
    go_wp2_with fail
    clear hln nc0 nc1 nc2 nc3 nc4 nc5 nc6 hlf fc0 fc1 fc2 fc3 fc4 hlm mc0 mc1 mc2 mc3 mc4 mc5 mc6
    obtain ⟨w52, hw52⟩ : ∃ w52, w51.alloc (.cells #[.bool x2.x, .int .i64 x2.i, .bool x2.r, .int .i64 x2.n, .slice x2.a x2.m x2.c] 30) = w52 := ⟨_, rfl⟩
    have hB52 : Below w51.heap.size w51 w52 := by rw [← hw52]; exact below_alloc1 _ _
    have hu52 : w52.heap[w51.heap.size]? = some (.cells #[.bool x2.x, .int .i64 x2.i, .bool x2.r, .int .i64 x2.n, .slice x2.a x2.m x2.c] 30) := by rw [← hw52]; exact World.alloc_heap_new _ _
    rw [hw52]
    clear hw52
    have hT52 := below_then hT51 hB52
    have hn52 := block_below hB52 hn51
    have hf52 := block_below hB52 hf51
    have hm52 := block_below hB52 hm51
    have hV52 := NIs.to hV51 hB52
    have hM52 := NIs.to hM51 hB52
    have hF52 := FIs.to hF51 hB52
    clear hT51 hn51 hf51 hm51 hV51 hM51 hF51 hB52
    clear hu52
    have e4 : decide ((0 : Int) < (qm : Int)) = b := by have e4l : N.q.length = qm := hM52.q.len; rw [← Hb.out, ← e4l, decide_eq_decide, ← List.length_pos_iff]; omega
    have e5 : m.k = ⟨0, 0, 1, 0⟩ := hV52.k
    obtain ⟨mqa, mqm, mqc, mla, mlm, mlc, mk, mga, mgm, mgc⟩ := m
    dsimp only at e5
    subst e5
    dsimp only at hV52 hm52
    have e6 : sameC ⟨0, 0, 1, 0⟩ ⟨newV.t, newV.r, newV.s, newV.q⟩ = true := by decide
    have e8 : decide (0 < qm) = b := by rw [← e4, decide_eq_decide]; omega
    have E6 := Lib.hid e6
    have E8 := Lib.hid e8
    clear e6 e8 e4
    refine wp_region_held_drew (S := fun W => (W.cell? ⟨w.heap.size, 0, none⟩ = some (.slice qa qm qc) ∧ W.cell? ⟨w.heap.size, 1, none⟩ = some (.slice la lm lc) ∧ W.cell? ⟨w.heap.size, 2, none⟩ = some (.int .i64 256) ∧ W.cell? ⟨w.heap.size, 3, none⟩ = some (.int .i64 0) ∧ W.cell? ⟨w.heap.size, 4, none⟩ = some (.int .i64 3) ∧ W.cell? ⟨w.heap.size, 5, none⟩ = some (.int .i64 K) ∧ W.cell? ⟨w.heap.size, 6, none⟩ = some (.slice ga gm gc)) ∧ (W.cell? ⟨(w9.heap.size + 1), 0, none⟩ = some (.slice mqa mqm mqc) ∧ W.cell? ⟨(w9.heap.size + 1), 1, none⟩ = some (.slice mla mlm mlc) ∧ W.cell? ⟨(w9.heap.size + 1), 2, none⟩ = some (.int .i64 0) ∧ W.cell? ⟨(w9.heap.size + 1), 3, none⟩ = some (.int .i64 0) ∧ W.cell? ⟨(w9.heap.size + 1), 4, none⟩ = some (.int .i64 1) ∧ W.cell? ⟨(w9.heap.size + 1), 5, none⟩ = some (.int .i64 0) ∧ W.cell? ⟨(w9.heap.size + 1), 6, none⟩ = some (.slice mga mgm mgc))) (by kernel_rfl) (by exact ⟨cells7' (block_below (below_drew1 _) hn52), cells7' (block_below (below_drew1 _) hm52)⟩) (fun hHeld_ => ?_)
    refine wpAnyH_take' (i := 0) (v := ?v0_t2) 83 rfl rfl (by kernel_rfl) (by kernel_rfl) (by kernel_rfl) (fun _ _ _ h => h) (Or.inl ⟨by kernel_rfl, ?hy0_t2⟩) (by assumption) ?rest0_t2
    case hy0_t2 => (intro W_ hS_; (try dsimp only at hS_); go_simp; (try (with_reducible rfl)))
    try simp only [Act.put, List.setIfInBounds_toArray, List.set_cons_zero, List.set_cons_succ]
    refine wpAnyH_take' (i := 1) (v := ?v1_t2) 84 rfl rfl (by kernel_rfl) (by kernel_rfl) (by kernel_rfl) (fun _ _ _ h => h) (Or.inl ⟨by kernel_rfl, ?hy1_t2⟩) (by assumption) ?rest1_t2
    case hy1_t2 => (intro W_ hS_; (try dsimp only at hS_); go_simp; (try (with_reducible rfl)))
    try simp only [Act.put, List.setIfInBounds_toArray, List.set_cons_zero, List.set_cons_succ]
    refine wpAnyH_take' (i := 2) (v := ?v2_t2) 85 rfl rfl (by kernel_rfl) (by kernel_rfl) (by kernel_rfl) (fun _ _ _ h => h) (Or.inl ⟨by kernel_rfl, ?hy2_t2⟩) (by assumption) ?rest2_t2
    case hy2_t2 => (intro W_ hS_; (try dsimp only at hS_); go_simp; (try (with_reducible rfl)))
    try simp only [Act.put, List.setIfInBounds_toArray, List.set_cons_zero, List.set_cons_succ]
    refine wpAnyH_take' (i := 3) (v := ?v3_t2) 86 rfl rfl (by kernel_rfl) (by kernel_rfl) (by kernel_rfl) (fun _ _ _ h => h) (Or.inl ⟨by kernel_rfl, ?hy3_t2⟩) (by assumption) ?rest3_t2
    case hy3_t2 => (intro W_ hS_; (try dsimp only at hS_); go_simp; (try (with_reducible rfl)))
    try simp only [Act.put, List.setIfInBounds_toArray, List.set_cons_zero, List.set_cons_succ]
    refine wpAnyH_take' (i := 4) (v := ?v4_t2) 87 rfl rfl (by kernel_rfl) (by kernel_rfl) (by kernel_rfl) (fun _ _ _ h => h) (Or.inl ⟨by kernel_rfl, ?hy4_t2⟩) (by assumption) ?rest4_t2
    case hy4_t2 => (intro W_ hS_; (try dsimp only at hS_); go_simp; (try (with_reducible rfl)))
    try simp only [Act.put, List.setIfInBounds_toArray, List.set_cons_zero, List.set_cons_succ]
    refine wpAnyH_take' (i := 5) (v := ?v5_t2) 88 rfl rfl (by kernel_rfl) (by kernel_rfl) (by kernel_rfl) (fun _ _ _ h => h) (Or.inl ⟨by kernel_rfl, ?hy5_t2⟩) (by assumption) ?rest5_t2
    case hy5_t2 => (intro W_ hS_; (try dsimp only at hS_); go_simp; (try (with_reducible rfl)))
    try simp only [Act.put, List.setIfInBounds_toArray, List.set_cons_zero, List.set_cons_succ]
    refine wpAnyH_take' (i := 6) (v := ?v6_t2) 89 rfl rfl (by kernel_rfl) (by kernel_rfl) (by kernel_rfl) (fun _ _ _ h => h) (Or.inl ⟨by kernel_rfl, ?hy6_t2⟩) (by assumption) ?rest6_t2
    case hy6_t2 => (intro W_ hS_; (try dsimp only at hS_); go_simp; (try (with_reducible rfl)))
    try simp only [Act.put, List.setIfInBounds_toArray, List.set_cons_zero, List.set_cons_succ]
    refine wpAnyH_take' (i := 7) (v := ?v7_t2) 90 rfl rfl (by kernel_rfl) (by kernel_rfl) (by kernel_rfl) (fun _ _ _ h => h) (Or.inl ⟨by kernel_rfl, ?hy7_t2⟩) (by assumption) ?rest7_t2
    case hy7_t2 => (intro W_ hS_; (try dsimp only at hS_); go_simp; (try (with_reducible rfl)))
    try simp only [Act.put, List.setIfInBounds_toArray, List.set_cons_zero, List.set_cons_succ]
    refine wpAnyH_take' (i := 8) (v := ?v8_t2) 91 rfl rfl (by kernel_rfl) (by kernel_rfl) (by kernel_rfl) (fun _ _ _ h => h) (Or.inl ⟨by kernel_rfl, ?hy8_t2⟩) (by assumption) ?rest8_t2
    case hy8_t2 => (intro W_ hS_; (try dsimp only at hS_); go_simp; (try (with_reducible rfl)))
    try simp only [Act.put, List.setIfInBounds_toArray, List.set_cons_zero, List.set_cons_succ]
    refine wpAnyH_take' (i := 9) (v := ?v9_t2) 92 rfl rfl (by kernel_rfl) (by kernel_rfl) (by kernel_rfl) (fun _ _ _ h => h) (Or.inl ⟨by kernel_rfl, ?hy9_t2⟩) (by assumption) ?rest9_t2
    case hy9_t2 => (intro W_ hS_; (try dsimp only at hS_); go_simp; (try (with_reducible rfl)))
    try simp only [Act.put, List.setIfInBounds_toArray, List.set_cons_zero, List.set_cons_succ]
    refine wpAnyH_take' (i := 10) (v := ?v10_t2) 93 rfl rfl (by kernel_rfl) (by kernel_rfl) (by kernel_rfl) (fun _ _ _ h => h) (Or.inl ⟨by kernel_rfl, ?hy10_t2⟩) (by assumption) ?rest10_t2
    case hy10_t2 => (intro W_ hS_; (try dsimp only at hS_); go_simp; (try (with_reducible rfl)))
    try simp only [Act.put, List.setIfInBounds_toArray, List.set_cons_zero, List.set_cons_succ]
    refine wpAnyH_take' (i := 11) (v := ?v11_t2) 94 rfl rfl (by kernel_rfl) (by kernel_rfl) (by kernel_rfl) (fun _ _ _ h => h) (Or.inl ⟨by kernel_rfl, ?hy11_t2⟩) (by assumption) ?rest11_t2
    case hy11_t2 => (intro W_ hS_; (try dsimp only at hS_); go_simp; (try (with_reducible rfl)))
    try simp only [Act.put, List.setIfInBounds_toArray, List.set_cons_zero, List.set_cons_succ]
    refine wpAnyH_ready (rs := [12]) (by kernel_rfl) (by simp) ?_
    refine AllReadyH.cons rfl (fun K_ hK_ => ?_) AllReadyH.nil
    go_simp
    refine (refNew_any _).mono ?_; rintro e wr12 ⟨rfl, hBr12⟩
    go_wp2_with fail
    refine hK_.out _ _ (by exact ⟨cells7' (block_below hBr12 (block_below (below_drew1 _) hn52)), cells7' (block_below hBr12 (block_below (below_drew1 _) hm52))⟩) (fun hHeld_12 => ?_)
    clear hK_
    try simp only [Act.put, List.setIfInBounds_toArray, List.set_cons_zero, List.set_cons_succ]
    refine wpAnyH_take' (i := 13) (v := ?v13_t2) 96 rfl rfl (by kernel_rfl) (by kernel_rfl) (by kernel_rfl) (fun _ _ _ h => h) (Or.inl ⟨by kernel_rfl, ?hy13_t2⟩) (by assumption) ?rest13_t2
    case hy13_t2 => (intro W_ hS_; (try dsimp only at hS_); go_simp; (try (with_reducible rfl)))
    try simp only [Act.put, List.setIfInBounds_toArray, List.set_cons_zero, List.set_cons_succ]
    refine wpAnyH_take' (i := 14) (v := ?v14_t2) 97 rfl rfl (by kernel_rfl) (by kernel_rfl) (by kernel_rfl) (fun _ _ _ h => h) (Or.inl ⟨by kernel_rfl, ?hy14_t2⟩) (by assumption) ?rest14_t2
    case hy14_t2 => (intro W_ hS_; (try dsimp only at hS_); go_simp; (try (with_reducible rfl)))
    try simp only [Act.put, List.setIfInBounds_toArray, List.set_cons_zero, List.set_cons_succ]
    refine wpAnyH_take' (i := 15) (v := ?v15_t2) 98 rfl rfl (by kernel_rfl) (by kernel_rfl) (by kernel_rfl) (fun _ _ _ h => h) (Or.inl ⟨by kernel_rfl, ?hy15_t2⟩) (by assumption) ?rest15_t2
    case hy15_t2 => (intro W_ hS_; (try dsimp only at hS_); go_simp; (try (with_reducible rfl)))
    try simp only [Act.put, List.setIfInBounds_toArray, List.set_cons_zero, List.set_cons_succ]
    refine wpAnyH_take' (i := 16) (v := ?v16_t2) 99 rfl rfl (by kernel_rfl) (by kernel_rfl) (by kernel_rfl) (fun _ _ _ h => h) (Or.inl ⟨by kernel_rfl, ?hy16_t2⟩) (by assumption) ?rest16_t2
    case hy16_t2 => (intro W_ hS_; (try dsimp only at hS_); go_simp; (try (with_reducible rfl)))
    try simp only [Act.put, List.setIfInBounds_toArray, List.set_cons_zero, List.set_cons_succ]
    refine wpAnyH_take' (i := 17) (v := ?v17_t2) 100 rfl rfl (by kernel_rfl) (by kernel_rfl) (by kernel_rfl) (fun _ _ _ h => h) (Or.inl ⟨by kernel_rfl, ?hy17_t2⟩) (by assumption) ?rest17_t2
    case hy17_t2 => (intro W_ hS_; (try dsimp only at hS_); go_simp; (try (with_reducible rfl)))
    try simp only [Act.put, List.setIfInBounds_toArray, List.set_cons_zero, List.set_cons_succ]
    refine wpAnyH_take' (i := 18) (v := ?v18_t2) 101 rfl rfl (by kernel_rfl) (by kernel_rfl) (by kernel_rfl) (fun _ _ _ h => h) (Or.inl ⟨by kernel_rfl, ?hy18_t2⟩) (by assumption) ?rest18_t2
    case hy18_t2 => (intro W_ hS_; (try dsimp only at hS_); go_simp; (try (with_reducible rfl)))
    try simp only [Act.put, List.setIfInBounds_toArray, List.set_cons_zero, List.set_cons_succ]
    refine wpAnyH_take' (i := 19) (v := ?v19_t2) 102 rfl rfl (by kernel_rfl) (by kernel_rfl) (by kernel_rfl) (fun _ _ _ h => h) (Or.inl ⟨by kernel_rfl, ?hy19_t2⟩) (by assumption) ?rest19_t2
    case hy19_t2 => (intro W_ hS_; (try dsimp only at hS_); go_simp; (try (with_reducible rfl)))
    try simp only [Act.put, List.setIfInBounds_toArray, List.set_cons_zero, List.set_cons_succ]
    refine wpAnyH_ready (rs := [20]) (by kernel_rfl) (by simp) ?_
    refine AllReadyH.cons rfl (fun K_ hK_ => ?_) AllReadyH.nil
    go_simp
    refine (sameAll_c (NIs.to (NIs.to hV52 (below_drew1 _)) hBr12).q (NIs.to (NIs.to hM52 (below_drew1 _)) hBr12).q true (by unfold sameFs; exact decide_eq_true rfl)).mono ?_; rintro e wr20 ⟨rfl, hBr20⟩
    go_wp2_with fail
    refine hK_.out _ _ (by exact ⟨cells7' (block_below hBr20 (block_below hBr12 (block_below (below_drew1 _) hn52))), cells7' (block_below hBr20 (block_below hBr12 (block_below (below_drew1 _) hm52)))⟩) (fun hHeld_20 => ?_)
    clear hK_
    try simp only [Act.put, List.setIfInBounds_toArray, List.set_cons_zero, List.set_cons_succ]
    refine wpAnyH_take' (i := 21) (v := ?v21_t2) 104 rfl rfl (by kernel_rfl) (by kernel_rfl) (by kernel_rfl) (fun _ _ _ h => h) (Or.inl ⟨by kernel_rfl, ?hy21_t2⟩) (by assumption) ?rest21_t2
    case hy21_t2 => (intro W_ hS_; (try dsimp only at hS_); go_simp; (try (with_reducible rfl)))
    try simp only [Act.put, List.setIfInBounds_toArray, List.set_cons_zero, List.set_cons_succ]
    refine wpAnyH_take' (i := 22) (v := ?v22_t2) 105 rfl rfl (by kernel_rfl) (by kernel_rfl) (by kernel_rfl) (fun _ _ _ h => h) (Or.inl ⟨by kernel_rfl, ?hy22_t2⟩) (by assumption) ?rest22_t2
    case hy22_t2 => (intro W_ hS_; (try dsimp only at hS_); go_simp; (try (with_reducible rfl)))
    try simp only [Act.put, List.setIfInBounds_toArray, List.set_cons_zero, List.set_cons_succ]
    refine wpAnyH_take' (i := 23) (v := ?v23_t2) 106 rfl rfl (by kernel_rfl) (by kernel_rfl) (by kernel_rfl) (fun _ _ _ h => h) (Or.inl ⟨by kernel_rfl, ?hy23_t2⟩) (by assumption) ?rest23_t2
    case hy23_t2 => (intro W_ hS_; (try dsimp only at hS_); go_simp; (try (with_reducible rfl)))
    try simp only [Act.put, List.setIfInBounds_toArray, List.set_cons_zero, List.set_cons_succ]
    refine wpAnyH_take' (i := 24) (v := ?v24_t2) 107 rfl rfl (by kernel_rfl) (by kernel_rfl) (by kernel_rfl) (fun _ _ _ h => h) (Or.inl ⟨by kernel_rfl, ?hy24_t2⟩) (by assumption) ?rest24_t2
    case hy24_t2 => (intro W_ hS_; (try dsimp only at hS_); go_simp; (try (with_reducible rfl)))
    try simp only [Act.put, List.setIfInBounds_toArray, List.set_cons_zero, List.set_cons_succ]
    refine wpAnyH_take' (i := 25) (v := ?v25_t2) 108 rfl rfl (by kernel_rfl) (by kernel_rfl) (by kernel_rfl) (fun _ _ _ h => h) (Or.inl ⟨by kernel_rfl, ?hy25_t2⟩) (by assumption) ?rest25_t2
    case hy25_t2 => (intro W_ hS_; (try dsimp only at hS_); go_simp; (try (with_reducible rfl)))
    try simp only [Act.put, List.setIfInBounds_toArray, List.set_cons_zero, List.set_cons_succ]
    refine wpAnyH_take' (i := 26) (v := ?v26_t2) 109 rfl rfl (by kernel_rfl) (by kernel_rfl) (by kernel_rfl) (fun _ _ _ h => h) (Or.inl ⟨by kernel_rfl, ?hy26_t2⟩) (by assumption) ?rest26_t2
    case hy26_t2 => (intro W_ hS_; (try dsimp only at hS_); go_simp; (try (with_reducible rfl)))
    try simp only [Act.put, List.setIfInBounds_toArray, List.set_cons_zero, List.set_cons_succ]
    refine wpAnyH_ready (rs := [27]) (by kernel_rfl) (by simp) ?_
    refine AllReadyH.cons rfl (fun K_ hK_ => ?_) AllReadyH.nil
    go_simp
    refine (sameAll_c (NIs.to (NIs.to (NIs.to hV52 (below_drew1 _)) hBr12) hBr20).g (NIs.to (NIs.to (NIs.to hM52 (below_drew1 _)) hBr12) hBr20).g true (by unfold sameFs; exact decide_eq_true rfl)).mono ?_; rintro e wr27 ⟨rfl, hBr27⟩
    go_wp2_with fail
    refine hK_.out _ _ (by exact ⟨cells7' (block_below hBr27 (block_below hBr20 (block_below hBr12 (block_below (below_drew1 _) hn52)))), cells7' (block_below hBr27 (block_below hBr20 (block_below hBr12 (block_below (below_drew1 _) hm52))))⟩) (fun hHeld_27 => ?_)
    clear hK_
    try simp only [Act.put, List.setIfInBounds_toArray, List.set_cons_zero, List.set_cons_succ]
    refine wpAnyH_take' (i := 28) (v := ?v28_t2) 111 rfl rfl (by kernel_rfl) (by kernel_rfl) (by kernel_rfl) (fun _ _ _ h => h) (Or.inl ⟨by kernel_rfl, ?hy28_t2⟩) (by assumption) ?rest28_t2
    case hy28_t2 => (intro W_ hS_; (try dsimp only at hS_); go_simp; (try (with_reducible rfl)))
    try simp only [Act.put, List.setIfInBounds_toArray, List.set_cons_zero, List.set_cons_succ]
    refine wpAnyH_take' (i := 29) (v := ?v29_t2) 112 rfl rfl (by kernel_rfl) (by kernel_rfl) (by kernel_rfl) (fun _ _ _ h => h) (Or.inl ⟨by kernel_rfl, ?hy29_t2⟩) (by assumption) ?rest29_t2
    case hy29_t2 => (intro W_ hS_; (try dsimp only at hS_); go_simp; (try (with_reducible rfl)))
    try simp only [Act.put, List.setIfInBounds_toArray, List.set_cons_zero, List.set_cons_succ]
    refine wpAnyH_take' (i := 30) (v := ?v30_t2) 113 rfl rfl (by kernel_rfl) (by kernel_rfl) (by kernel_rfl) (fun _ _ _ h => h) (Or.inl ⟨by kernel_rfl, ?hy30_t2⟩) (by assumption) ?rest30_t2
    case hy30_t2 => (intro W_ hS_; (try dsimp only at hS_); go_simp; (try (with_reducible rfl)))
    try simp only [Act.put, List.setIfInBounds_toArray, List.set_cons_zero, List.set_cons_succ]
    refine wpAnyH_take' (i := 31) (v := ?v31_t2) 114 rfl rfl (by kernel_rfl) (by kernel_rfl) (by kernel_rfl) (fun _ _ _ h => h) (Or.inl ⟨by kernel_rfl, ?hy31_t2⟩) (by assumption) ?rest31_t2
    case hy31_t2 => (intro W_ hS_; (try dsimp only at hS_); go_simp; (try (with_reducible rfl)))
    try simp only [Act.put, List.setIfInBounds_toArray, List.set_cons_zero, List.set_cons_succ]
    refine wpAnyH_take' (i := 32) (v := ?v32_t2) 115 rfl rfl (by kernel_rfl) (by kernel_rfl) (by kernel_rfl) (fun _ _ _ h => h) (Or.inl ⟨by kernel_rfl, ?hy32_t2⟩) (by assumption) ?rest32_t2
    case hy32_t2 => (intro W_ hS_; (try dsimp only at hS_); go_simp; (try (with_reducible rfl)))
    try simp only [Act.put, List.setIfInBounds_toArray, List.set_cons_zero, List.set_cons_succ]
    refine wpAnyH_take' (i := 33) (v := ?v33_t2) 116 rfl rfl (by kernel_rfl) (by kernel_rfl) (by kernel_rfl) (fun _ _ _ h => h) (Or.inl ⟨by kernel_rfl, ?hy33_t2⟩) (by assumption) ?rest33_t2
    case hy33_t2 => (intro W_ hS_; (try dsimp only at hS_); go_simp; (try (with_reducible rfl)))
    try simp only [Act.put, List.setIfInBounds_toArray, List.set_cons_zero, List.set_cons_succ]
    refine wpAnyH_take' (i := 34) (v := ?v34_t2) 117 rfl rfl (by kernel_rfl) (by kernel_rfl) (by kernel_rfl) (fun _ _ _ h => h) (Or.inl ⟨by kernel_rfl, ?hy34_t2⟩) (by assumption) ?rest34_t2
    case hy34_t2 => (intro W_ hS_; (try dsimp only at hS_); go_simp; (try (with_reducible rfl)))
    try simp only [Act.put, List.setIfInBounds_toArray, List.set_cons_zero, List.set_cons_succ]
    refine wpAnyH_take' (i := 35) (v := ?v35_t2) 118 rfl rfl (by kernel_rfl) (by kernel_rfl) (by kernel_rfl) (fun _ _ _ h => h) (Or.inl ⟨by kernel_rfl, ?hy35_t2⟩) (by assumption) ?rest35_t2
    case hy35_t2 => (intro W_ hS_; (try dsimp only at hS_); go_simp; (try (with_reducible rfl)))
    try simp only [Act.put, List.setIfInBounds_toArray, List.set_cons_zero, List.set_cons_succ]
    refine wpAnyH_take' (i := 36) (v := ?v36_t2) 119 rfl rfl (by kernel_rfl) (by kernel_rfl) (by kernel_rfl) (fun _ _ _ h => h) (Or.inl ⟨by kernel_rfl, ?hy36_t2⟩) (by assumption) ?rest36_t2
    case hy36_t2 => (intro W_ hS_; (try dsimp only at hS_); go_simp; (try (with_reducible rfl)))
    try simp only [Act.put, List.setIfInBounds_toArray, List.set_cons_zero, List.set_cons_succ]
    refine wpAnyH_take' (i := 37) (v := ?v37_t2) 6 rfl rfl (by kernel_rfl) (by kernel_rfl) (by kernel_rfl) (fun _ _ _ h => h) (Or.inl ⟨by kernel_rfl, ?hy37_t2⟩) (by assumption) ?rest37_t2
    case hy37_t2 => (intro W_ hS_; (try dsimp only at hS_); go_simp; (try (with_reducible rfl)))
    try simp only [Act.put, List.setIfInBounds_toArray, List.set_cons_zero, List.set_cons_succ]
    refine wpAnyH_done (by kernel_rfl) ?_ _
    go_wp2_with fail
    go_ret
    exact ⟨ret_bool (by rw [E6.out, E8.out]; simp), below_then hT52 (below_then (below_then (below_then (below_drew1 _) hBr12) hBr20) hBr27)⟩

end Go.Proofs.Ytlbgilbigcnleaa
