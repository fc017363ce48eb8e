/-
  NodeErrors: the walk.
-/
import Derived.Test.YtlbgilbigcnleaaNdG
import Derived.Test.YtlbgilbigcnleaaNdV
namespace Go.Proofs.Ytlbgilbigcnleaa
open Go.RowKit
set_option linter.unusedVariables false
set_option linter.unusedSimpArgs false

/-- How a counter stands behind so many errors of its own. -/
def errK (i : Nat) : CV := if i < 32 then ⟨8 * (i : Int), 0, if i < 16 then 1 else 2, 0⟩ else ⟨256, 0, 3, 0⟩
def errN (F : FC) (i : Nat) : NC := ⟨[F], [], errK i, []⟩
theorem errK_step {i : Nat} (h : i < 32) : stepV (errK i) 3 = errK (i + 1) := by
  unfold errK
  rw [if_pos h]
  unfold stepV
  rw [if_neg (by dsimp only; split <;> omega)]
  unfold effV wrongV settleV
  simp only [show ¬ ((3 : Int) = 1) by omega, show ¬ ((3 : Int) = 2) by omega, if_true, if_false]
  by_cases h1 : i = 31
  · subst h1; decide
  · rw [if_neg (by omega), if_pos (show i + 1 < 32 by omega)]
    by_cases h2 : i < 15
    · rw [if_neg (by omega), if_pos (show i + 1 < 16 by omega)]
      rw [cv_ext]; refine ⟨?_, rfl, rfl, rfl⟩; dsimp only; omega
    · rw [if_pos (by omega), if_neg (show ¬ i + 1 < 16 by omega)]
      rw [cv_ext]; refine ⟨?_, rfl, rfl, rfl⟩; dsimp only; omega
theorem errN_has (F : FC) (i : Nat) : hasN (errN F i) = decide (i < 32) := by
  unfold hasN errN errK
  by_cases h : i < 32
  · rw [if_pos h]; simp [h]; split <;> omega
  · rw [if_neg h]; simp [h]
theorem errN_step (F : FC) (i : Nat) : sentN (errN F i) false = errN F (i + 1) := by
  unfold sentN
  rw [errN_has]
  by_cases h : i < 32
  · simp only [h, decide_true, if_true]
    have := errK_step h
    unfold errN
    simp [this]
  · simp only [h, decide_false]
    unfold errN
    rw [show errK (i + 1) = errK i by unfold errK; rw [if_neg h, if_neg (show ¬ i + 1 < 32 by omega)]]
    rfl
theorem errK_ok (i : Nat) : OkC (errK i) := by
  unfold errK
  by_cases h : i < 32
  · rw [if_pos h]
    unfold OkC
    dsimp only
    by_cases h2 : i < 16
    · rw [if_pos h2]; left; omega
    · rw [if_neg h2]; right; left; omega
  · rw [if_neg h]; unfold OkC; right; right; simp
theorem errN_ok {F : FC} (h : rightC F = true) (i : Nat) : OkN (errN F i) := by
  refine ⟨?_, ?_, ?_, ?_, ?_, ?_, errK_ok i⟩ <;> simp [errN, h]
theorem errN_next (F : FC) {i : Nat} (h : i < 32) : nextF (errN F i) = F := by
  unfold nextF
  rw [errN_has]
  simp only [h, decide_true, if_true]
  have : atN (errN F i) = 0 := by unfold atN errN; exact leastTo_first _
  rw [this]; rfl
theorem errN_first {F : FC} (h : rightC F = true) : sendE ⟨[], [], newV, []⟩ F = 0 ∧ sendN ⟨[], [], newV, []⟩ F = errN F 0 := by
  have h1 : sendE ⟨[], [], newV, []⟩ F = 0 := by unfold sendE newV; simp [h]
  refine ⟨h1, ?_⟩
  unfold sendN
  rw [if_pos h1]
  rfl
theorem errN_new : newE [] = 0 ∧ newN [] = ⟨[], [], newV, []⟩ := by decide
theorem errN_send {G : FC} (F : FC) (h : rightC G = true) (i : Nat) : sendE (errN F i) G = if i < 32 then 0 else 3 := by
  unfold sendE errN errK
  by_cases h1 : i < 32
  · rw [if_pos h, if_pos h1]; simp [h1]; split <;> omega
  · rw [if_pos h, if_neg h1, if_neg h1]; simp

set_option maxRecDepth 100000 in
set_option maxHeartbeats 2000000 in
theorem nodeErrors_any (f : FV) (F : FC) (g : FV) (G : FC) (T : Nat) (hT : T ≤ 255) (w : World) (hf : FIs w (fun _ => True) f F) (hg : FIs w (fun _ => True) g G) :
    Calls Try.prog 6 #[f.v, g.v, .int .u8 T] w fun e w' => e = .returned (.bool true) ∧ Below w.heap.size w w' := by
  obtain ⟨K, hK⟩ : ∃ K : Nat, T % 40 = K := ⟨_, rfl⟩
  have hK40 : K < 40 := by omega
  have m1 : (T : Int) % 40 = (K : Int) := by omega
  clear hK
  obtain ⟨w0, hw0⟩ : ∃ w0, ((w.alloc (.cells #[.bool f.x, .int .i64 f.i, .bool f.r, .int .i64 f.n, .slice f.a f.m f.c] 30)).alloc (.cells #[.bool g.x, .int .i64 g.i, .bool g.r, .int .i64 g.n, .slice g.a g.m g.c] 30)) = w0 := ⟨_, rfl⟩
  have hT0 : Below w.heap.size w w0 := by rw [← hw0]; exact below_then (below_alloc1 _ _) (below_alloc1 _ _)
  have hf0 : w0.heap[w.heap.size]? = some (.cells #[.bool f.x, .int .i64 f.i, .bool f.r, .int .i64 f.n, .slice f.a f.m f.c] 30) := by rw [← hw0]; exact block_below (below_alloc1 _ _) (World.alloc_heap_new _ _)
  have hg0 : w0.heap[(w.heap.size + 1)]? = some (.cells #[.bool g.x, .int .i64 g.i, .bool g.r, .int .i64 g.n, .slice g.a g.m g.c] 30) := by rw [← hw0]; exact alloc_at _ _ (by simp)
  have hs0 : w0.heap.size = w.heap.size + 2 := by rw [← hw0]; simp
  have Hs0 := Lib.hid hs0
  clear hs0
  have hlf := (Array.getElem?_eq_some_iff.1 hf0).1
  obtain ⟨fc0, fc1, fc2, fc3, fc4⟩ := cells5' hf0
  have hlg := (Array.getElem?_eq_some_iff.1 hg0).1
  obtain ⟨gc0, gc1, gc2, gc3, gc4⟩ := cells5' hg0
  go_enter Try.func6, Try.ntmps6
  go_wp2_with fail
  clear hlf fc0 fc1 fc2 fc3 fc4 hlg gc0 gc1 gc2 gc3 gc4
  clear hw0
  have hZ0 := Below.refl w0.heap.size w0
  have hF0 : FIs w0 (Out []) f F := (hf.to hT0).mono (fun _ _ _ _ h => by cases h)
  have hE0 : FIs w0 (Out []) g G := (hg.to hT0).mono (fun _ _ _ _ h => by cases h)
  have hgef : w.heap.size ≤ w.heap.size := Nat.le_refl _
  have hgeg : w.heap.size ≤ w.heap.size + 1 := by omega
  refine (head_c w0).mono ?_
  rintro e w1 ⟨rfl, hB1⟩
  have hT1 := below_then hT0 hB1
  have hZ1 := below_then hZ0 hB1
  clear hZ0
  have hf1 := block_below hB1 hf0
  have hg1 := block_below hB1 hg0
  have hF1 := FIs.to hF0 hB1
  have hE1 := FIs.to hE0 hB1
  clear hT0 hf0 hg0 hF0 hE0 hB1
  have hlf := (Array.getElem?_eq_some_iff.1 hf1).1
  obtain ⟨fc0, fc1, fc2, fc3, fc4⟩ := cells5' hf1
  have hlg := (Array.getElem?_eq_some_iff.1 hg1).1
  obtain ⟨gc0, gc1, gc2, gc3, gc4⟩ := cells5' hg1
  go_wp2_with fail
  clear hlf fc0 fc1 fc2 fc3 fc4 hlg gc0 gc1 gc2 gc3 gc4
  obtain ⟨a, ha⟩ : ∃ q, decide (100 < F.d.length) = q := ⟨_, rfl⟩
  have Ha := Lib.hid ha
  clear ha
  cases a
  rotate_left
  · skip
    refine (great_c hF1 true Ha.out).mono ?_
    rintro e w2 ⟨rfl, hB2⟩
    have hT2 := below_then hT1 hB2
    have hZ2 := below_then hZ1 hB2
    clear hZ1
    have hf2 := block_below hB2 hf1
    have hg2 := block_below hB2 hg1
    have hF2 := FIs.to hF1 hB2
    have hE2 := FIs.to hE1 hB2
    clear hT1 hf1 hg1 hF1 hE1 hB2
    have hlf := (Array.getElem?_eq_some_iff.1 hf2).1
    obtain ⟨fc0, fc1, fc2, fc3, fc4⟩ := cells5' hf2
    have hlg := (Array.getElem?_eq_some_iff.1 hg2).1
    obtain ⟨gc0, gc1, gc2, gc3, gc4⟩ := cells5' hg2
    go_wp2_with fail
    go_ret
    exact ⟨rfl, hT2⟩
  refine (great_c hF1 false Ha.out).mono ?_
  rintro e w2 ⟨rfl, hB2⟩
  have hT2 := below_then hT1 hB2
  have hZ2 := below_then hZ1 hB2
  clear hZ1
  have hf2 := block_below hB2 hf1
  have hg2 := block_below hB2 hg1
  have hF2 := FIs.to hF1 hB2
  have hE2 := FIs.to hE1 hB2
  clear hT1 hf1 hg1 hF1 hE1 hB2
  have hlf := (Array.getElem?_eq_some_iff.1 hf2).1
  obtain ⟨fc0, fc1, fc2, fc3, fc4⟩ := cells5' hf2
  have hlg := (Array.getElem?_eq_some_iff.1 hg2).1
  obtain ⟨gc0, gc1, gc2, gc3, gc4⟩ := cells5' hg2
  go_wp2_with fail
  clear hlf fc0 fc1 fc2 fc3 fc4 hlg gc0 gc1 gc2 gc3 gc4
  obtain ⟨b, hb⟩ : ∃ q, decide (100 < G.d.length) = q := ⟨_, rfl⟩
  have Hb := Lib.hid hb
  clear hb
  cases b
  rotate_left
  · skip
    refine (great_c hE2 true Hb.out).mono ?_
    rintro e w3 ⟨rfl, hB3⟩
    have hT3 := below_then hT2 hB3
    have hZ3 := below_then hZ2 hB3
    clear hZ2
    have hf3 := block_below hB3 hf2
    have hg3 := block_below hB3 hg2
    have hF3 := FIs.to hF2 hB3
    have hE3 := FIs.to hE2 hB3
    clear hT2 hf2 hg2 hF2 hE2 hB3
    have hlf := (Array.getElem?_eq_some_iff.1 hf3).1
    obtain ⟨fc0, fc1, fc2, fc3, fc4⟩ := cells5' hf3
    have hlg := (Array.getElem?_eq_some_iff.1 hg3).1
    obtain ⟨gc0, gc1, gc2, gc3, gc4⟩ := cells5' hg3
    go_wp2_with fail
    go_ret
    exact ⟨rfl, hT3⟩
  refine (great_c hE2 false Hb.out).mono ?_
  rintro e w3 ⟨rfl, hB3⟩
  have hT3 := below_then hT2 hB3
  have hZ3 := below_then hZ2 hB3
  clear hZ2
  have hf3 := block_below hB3 hf2
  have hg3 := block_below hB3 hg2
  have hF3 := FIs.to hF2 hB3
  have hE3 := FIs.to hE2 hB3
  clear hT2 hf2 hg2 hF2 hE2 hB3
  have hlf := (Array.getElem?_eq_some_iff.1 hf3).1
  obtain ⟨fc0, fc1, fc2, fc3, fc4⟩ := cells5' hf3
  have hlg := (Array.getElem?_eq_some_iff.1 hg3).1
  obtain ⟨gc0, gc1, gc2, gc3, gc4⟩ := cells5' hg3
  go_wp2_with fail
  clear hlf fc0 fc1 fc2 fc3 fc4 hlg gc0 gc1 gc2 gc3 gc4
  obtain ⟨c, hc⟩ : ∃ q, rightC F = q := ⟨_, rfl⟩
  have Hc := Lib.hid hc
  clear hc
  cases c
  · skip
    refine (refFrRight_c hF3 false Hc.out).mono ?_
    rintro e w4 ⟨rfl, hB4⟩
    have hT4 := below_then hT3 hB4
    have hZ4 := below_then hZ3 hB4
    clear hZ3
    have hf4 := block_below hB4 hf3
    have hg4 := block_below hB4 hg3
    have hF4 := FIs.to hF3 hB4
    have hE4 := FIs.to hE3 hB4
    clear hT3 hf3 hg3 hF3 hE3 hB4
    have hlf := (Array.getElem?_eq_some_iff.1 hf4).1
    obtain ⟨fc0, fc1, fc2, fc3, fc4⟩ := cells5' hf4
    have hlg := (Array.getElem?_eq_some_iff.1 hg4).1
    obtain ⟨gc0, gc1, gc2, gc3, gc4⟩ := cells5' hg4
    go_wp2_with fail
    go_ret
    exact ⟨rfl, hT4⟩
  refine (refFrRight_c hF3 true Hc.out).mono ?_
  rintro e w4 ⟨rfl, hB4⟩
  have hT4 := below_then hT3 hB4
  have hZ4 := below_then hZ3 hB4
  clear hZ3
  have hf4 := block_below hB4 hf3
  have hg4 := block_below hB4 hg3
  have hF4 := FIs.to hF3 hB4
  have hE4 := FIs.to hE3 hB4
  clear hT3 hf3 hg3 hF3 hE3 hB4
  have hlf := (Array.getElem?_eq_some_iff.1 hf4).1
  obtain ⟨fc0, fc1, fc2, fc3, fc4⟩ := cells5' hf4
  have hlg := (Array.getElem?_eq_some_iff.1 hg4).1
  obtain ⟨gc0, gc1, gc2, gc3, gc4⟩ := cells5' hg4
  go_wp2_with fail
  clear hlf fc0 fc1 fc2 fc3 fc4 hlg gc0 gc1 gc2 gc3 gc4
  obtain ⟨d, hd⟩ : ∃ q, rightC G = q := ⟨_, rfl⟩
  have Hd := Lib.hid hd
  clear hd
  cases d
  · skip
    refine (refFrRight_c hE4 false Hd.out).mono ?_
    rintro e w5 ⟨rfl, hB5⟩
    have hT5 := below_then hT4 hB5
    have hZ5 := below_then hZ4 hB5
    clear hZ4
    have hf5 := block_below hB5 hf4
    have hg5 := block_below hB5 hg4
    have hF5 := FIs.to hF4 hB5
    have hE5 := FIs.to hE4 hB5
    clear hT4 hf4 hg4 hF4 hE4 hB5
    have hlf := (Array.getElem?_eq_some_iff.1 hf5).1
    obtain ⟨fc0, fc1, fc2, fc3, fc4⟩ := cells5' hf5
    have hlg := (Array.getElem?_eq_some_iff.1 hg5).1
    obtain ⟨gc0, gc1, gc2, gc3, gc4⟩ := cells5' hg5
    go_wp2_with fail
    go_ret
    exact ⟨rfl, hT5⟩
  refine (refFrRight_c hE4 true Hd.out).mono ?_
  rintro e w5 ⟨rfl, hB5⟩
  have hT5 := below_then hT4 hB5
  have hZ5 := below_then hZ4 hB5
  clear hZ4
  have hf5 := block_below hB5 hf4
  have hg5 := block_below hB5 hg4
  have hF5 := FIs.to hF4 hB5
  have hE5 := FIs.to hE4 hB5
  clear hT4 hf4 hg4 hF4 hE4 hB5
  have hlf := (Array.getElem?_eq_some_iff.1 hf5).1
  obtain ⟨fc0, fc1, fc2, fc3, fc4⟩ := cells5' hf5
  have hlg := (Array.getElem?_eq_some_iff.1 hg5).1
  obtain ⟨gc0, gc1, gc2, gc3, gc4⟩ := cells5' hg5
  go_wp2_with fail
  clear hlf fc0 fc1 fc2 fc3 fc4 hlg gc0 gc1 gc2 gc3 gc4
  refine (new_c (LSl.none_ (P := Out [])) (by decide) (out_up (fun _ h => by cases h)) 0 errN_new.1 ⟨[], [], newV, []⟩ errN_new.2).mono ?_
  rintro e w6 ⟨n1, rfl, hn1_, hB6⟩
  have hT6 := below_then hT5 hB6
  have hZ6 := below_then hZ5 hB6
  clear hZ5
  have hf6 := block_below hB6 hf5
  have hg6 := block_below hB6 hg5
  have hF6 := FIs.to hF5 hB6
  have hE6 := FIs.to hE5 hB6
  clear hT5 hf5 hg5 hF5 hE5 hB6
  have hn16 := hn1_
  clear hn1_
  have hlf := (Array.getElem?_eq_some_iff.1 hf6).1
  obtain ⟨fc0, fc1, fc2, fc3, fc4⟩ := cells5' hf6
  have hlg := (Array.getElem?_eq_some_iff.1 hg6).1
  obtain ⟨gc0, gc1, gc2, gc3, gc4⟩ := cells5' hg6
  go_wp2_with fail
  clear hlf fc0 fc1 fc2 fc3 fc4 hlg gc0 gc1 gc2 gc3 gc4
  replace hF6 := hF6.mono (out_cons (L := []) (X := w6.heap.size) (Nat.le_refl _))
  replace hE6 := hE6.mono (out_cons (L := []) (X := w6.heap.size) (Nat.le_refl _))
  replace hn16 := hn16.mono (out_cons (L := []) (X := w6.heap.size) (Nat.le_refl _))
  have hgen : w.heap.size ≤ w6.heap.size := hT6.size
  have Hf_n := Lib.hid (show w.heap.size ≠ w6.heap.size from Nat.ne_of_lt (Array.getElem?_eq_some_iff.1 hf6).1)
  have Hn_f := Lib.hid (show w6.heap.size ≠ w.heap.size from Ne.symm Hf_n.out)
  have Hg_n := Lib.hid (show (w.heap.size + 1) ≠ w6.heap.size from Nat.ne_of_lt (Array.getElem?_eq_some_iff.1 hg6).1)
  have Hn_g := Lib.hid (show w6.heap.size ≠ (w.heap.size + 1) from Ne.symm Hg_n.out)
  obtain ⟨w7, hw7⟩ : ∃ w7, w6.alloc (.cells #[.slice n1.qa n1.qm n1.qc, .slice n1.la n1.lm n1.lc, .int .i64 n1.k.t, .int .i64 n1.k.r, .int .i64 n1.k.s, .int .i64 n1.k.q, .slice n1.ga n1.gm n1.gc] 27) = w7 := ⟨_, rfl⟩
  have hB7 : Below w6.heap.size w6 w7 := by rw [← hw7]; exact below_alloc1 _ _
  have hn7 : w7.heap[w6.heap.size]? = some (.cells #[.slice n1.qa n1.qm n1.qc, .slice n1.la n1.lm n1.lc, .int .i64 n1.k.t, .int .i64 n1.k.r, .int .i64 n1.k.s, .int .i64 n1.k.q, .slice n1.ga n1.gm n1.gc] 27) := by rw [← hw7]; exact World.alloc_heap_new _ _
  rw [hw7]
  clear hw7
  have hT7 := below_then hT6 hB7
  have hZ7 := below_then hZ6 hB7
  clear hZ6
  have hf7 := block_below hB7 hf6
  have hg7 := block_below hB7 hg6
  have hF7 := FIs.to hF6 hB7
  have hE7 := FIs.to hE6 hB7
  have hn17 := NIs.to hn16 hB7
  clear hT6 hf6 hg6 hF6 hE6 hn16 hB7
  refine (send_c hn17 hF7 (ok_new_n (l := []) (by decide)) (out_up (lt_cons (Array.getElem?_eq_some_iff.1 hn7).1 (fun _ h => by cases h))) 0 (errN_first Hc.out).1 (errN F 0) (errN_first Hc.out).2).mono ?_
  rintro e w8 ⟨n2, rfl, hn2_, hB8⟩
  have hT8 := below_then hT7 hB8
  have hZ8 := below_then hZ7 hB8
  clear hZ7
  have hf8 := block_below hB8 hf7
  have hg8 := block_below hB8 hg7
  have hn8 := block_below hB8 hn7
  have hF8 := FIs.to hF7 hB8
  have hE8 := FIs.to hE7 hB8
  have hn18 := NIs.to hn17 hB8
  clear hT7 hf7 hg7 hn7 hF7 hE7 hn17 hB8
  have hn28 := hn2_
  clear hn2_
  clear hn18
  have hlf := (Array.getElem?_eq_some_iff.1 hf8).1
  obtain ⟨fc0, fc1, fc2, fc3, fc4⟩ := cells5' hf8
  have hlg := (Array.getElem?_eq_some_iff.1 hg8).1
  obtain ⟨gc0, gc1, gc2, gc3, gc4⟩ := cells5' hg8
  have hln := (Array.getElem?_eq_some_iff.1 hn8).1
  obtain ⟨⟨nc0, nc1, nc2, nc3, nc4, nc5, nc6⟩, nf0, nf1, nf2, nf3, nf4, nf5, nf6⟩ := cells7 hn8
  go_wp2_with fail
  clear hlf fc0 fc1 fc2 fc3 fc4 hlg gc0 gc1 gc2 gc3 gc4 hln nc0 nc1 nc2 nc3 nc4 nc5 nc6 nf0 nf1 nf2 nf3 nf4 nf5 nf6
  obtain ⟨w9, hw9⟩ : ∃ w_, set7 w8 w6.heap.size (.slice n2.qa n2.qm n2.qc) (.slice n2.la n2.lm n2.lc) (.int .i64 n2.k.t) (.int .i64 n2.k.r) (.int .i64 n2.k.s) (.int .i64 n2.k.q) (.slice n2.ga n2.gm n2.gc) = w_ := ⟨_, rfl⟩
  have hG9 : w8.grownBy w9 (some w6.heap.size) := by rw [← hw9]; exact set7_grown _ _ _ _ _ _ _ _ _
  have hT9 := below_g hT8 hG9 hgen
  have hf9 := other_g hG9 hf8 Hf_n.out
  have hg9 := other_g hG9 hg8 Hg_n.out
  have hn9 : w9.heap[w6.heap.size]? = some (.cells #[.slice n2.qa n2.qm n2.qc, .slice n2.la n2.lm n2.lc, .int .i64 n2.k.t, .int .i64 n2.k.r, .int .i64 n2.k.s, .int .i64 n2.k.q, .slice n2.ga n2.gm n2.gc] 27) := by rw [← hw9]; exact set7_obj hn8 _ _ _ _ _ _ _
  have hF9 := FIs.grow hF8 hG9 (out_not (by simp))
  have hE9 := FIs.grow hE8 hG9 (out_not (by simp))
  have hn29 := NIs.grow hn28 hG9 (out_not (by simp))
  have Hsz9 := Lib.hid (show w9.heap.size = w8.heap.size by rw [← hw9]; simp [set7, World.setCell])
  unfold set7 at hw9
  rw [hw9]
  clear hw9 hG9 hT8 hf8 hg8 hn8 hF8 hE8 hn28
  have hlf := (Array.getElem?_eq_some_iff.1 hf9).1
  obtain ⟨fc0, fc1, fc2, fc3, fc4⟩ := cells5' hf9
  have hlg := (Array.getElem?_eq_some_iff.1 hg9).1
  obtain ⟨gc0, gc1, gc2, gc3, gc4⟩ := cells5' hg9
  have hln := (Array.getElem?_eq_some_iff.1 hn9).1
  obtain ⟨nc0, nc1, nc2, nc3, nc4, nc5, nc6⟩ := cells7' hn9
  go_wp2_with fail
  clear hlf fc0 fc1 fc2 fc3 fc4 hlg gc0 gc1 gc2 gc3 gc4 hln nc0 nc1 nc2 nc3 nc4 nc5 nc6
  simp only [m1]
  go_loopw [12] (fun i wr => ∃ (k : Nat) (m : NV), k ≤ K ∧ i = .int .i64 k ∧ wr.heap[w6.heap.size]? = some (.cells #[.slice m.qa m.qm m.qc, .slice m.la m.lm m.lc, .int .i64 m.k.t, .int .i64 m.k.r, .int .i64 m.k.s, .int .i64 m.k.q, .slice m.ga m.gm m.gc] 27) ∧ NIs wr (Out [w6.heap.size]) m (errN F k) ∧ wr.heap[w.heap.size]? = some (.cells #[.bool f.x, .int .i64 f.i, .bool f.r, .int .i64 f.n, .slice f.a f.m f.c] 30) ∧ wr.heap[(w.heap.size + 1)]? = some (.cells #[.bool g.x, .int .i64 g.i, .bool g.r, .int .i64 g.n, .slice g.a g.m g.c] 30) ∧ FIs wr (Out [w6.heap.size]) f F ∧ FIs wr (Out [w6.heap.size]) g G ∧ Below w.heap.size w wr) (fun i _ => K - (intOf i).toNat)
  case atStart => exact ⟨0, n2, Nat.zero_le _, rfl, hn9, hn29, hf9, hg9, hF9, hE9, hT9⟩
  case round =>
    clear hn9 hn29 hf9 hg9 hF9 hE9 hT9
    obtain ⟨k, m, hk, rfl, hn50, hm50, hf50, hg50, hF50, hE50, hT50⟩ := hrel
    by_cases hlt : k < K
    · skip
      have i1 : (k : Int) < (K : Int) := by omega
      have hlf := (Array.getElem?_eq_some_iff.1 hf50).1
      obtain ⟨fc0, fc1, fc2, fc3, fc4⟩ := cells5' hf50
      have hlg := (Array.getElem?_eq_some_iff.1 hg50).1
      obtain ⟨gc0, gc1, gc2, gc3, gc4⟩ := cells5' hg50
      have hln := (Array.getElem?_eq_some_iff.1 hn50).1
      obtain ⟨nc0, nc1, nc2, nc3, nc4, nc5, nc6⟩ := cells7' hn50
      go_wp2_with fail
      clear hlf fc0 fc1 fc2 fc3 fc4 hlg gc0 gc1 gc2 gc3 gc4 hln nc0 nc1 nc2 nc3 nc4 nc5 nc6
      refine (sent_c hm50 (errN_ok Hc.out k) (out_up (lt_cons (Array.getElem?_eq_some_iff.1 hn50).1 (fun _ h => by cases h))) false (errN F (k + 1)) (errN_step F k)).mono ?_
      rintro e w51 ⟨m2, rfl, hm2_, hB51⟩
      have hT51 := below_then hT50 hB51
      have hf51 := block_below hB51 hf50
      have hg51 := block_below hB51 hg50
      have hn51 := block_below hB51 hn50
      have hm51 := NIs.to hm50 hB51
      have hF51 := FIs.to hF50 hB51
      have hE51 := FIs.to hE50 hB51
      clear hT50 hf50 hg50 hn50 hm50 hF50 hE50 hB51
      have hm251 := hm2_
      clear hm2_
      clear hm51
      have hlf := (Array.getElem?_eq_some_iff.1 hf51).1
      obtain ⟨fc0, fc1, fc2, fc3, fc4⟩ := cells5' hf51
      have hlg := (Array.getElem?_eq_some_iff.1 hg51).1
      obtain ⟨gc0, gc1, gc2, gc3, gc4⟩ := cells5' hg51
      have hln := (Array.getElem?_eq_some_iff.1 hn51).1
      obtain ⟨⟨nc0, nc1, nc2, nc3, nc4, nc5, nc6⟩, nf0, nf1, nf2, nf3, nf4, nf5, nf6⟩ := cells7 hn51
      go_wp2_with fail
      clear hlf fc0 fc1 fc2 fc3 fc4 hlg gc0 gc1 gc2 gc3 gc4 hln nc0 nc1 nc2 nc3 nc4 nc5 nc6 nf0 nf1 nf2 nf3 nf4 nf5 nf6
      obtain ⟨w52, hw52⟩ : ∃ w_, set7 w51 w6.heap.size (.slice m2.qa m2.qm m2.qc) (.slice m2.la m2.lm m2.lc) (.int .i64 m2.k.t) (.int .i64 m2.k.r) (.int .i64 m2.k.s) (.int .i64 m2.k.q) (.slice m2.ga m2.gm m2.gc) = w_ := ⟨_, rfl⟩
      have hG52 : w51.grownBy w52 (some w6.heap.size) := by rw [← hw52]; exact set7_grown _ _ _ _ _ _ _ _ _
      have hT52 := below_g hT51 hG52 hgen
      have hf52 := other_g hG52 hf51 Hf_n.out
      have hg52 := other_g hG52 hg51 Hg_n.out
      have hn52 : w52.heap[w6.heap.size]? = some (.cells #[.slice m2.qa m2.qm m2.qc, .slice m2.la m2.lm m2.lc, .int .i64 m2.k.t, .int .i64 m2.k.r, .int .i64 m2.k.s, .int .i64 m2.k.q, .slice m2.ga m2.gm m2.gc] 27) := by rw [← hw52]; exact set7_obj hn51 _ _ _ _ _ _ _
      have hF52 := FIs.grow hF51 hG52 (out_not (by simp))
      have hE52 := FIs.grow hE51 hG52 (out_not (by simp))
      have hm252 := NIs.grow hm251 hG52 (out_not (by simp))
      have Hsz52 := Lib.hid (show w52.heap.size = w51.heap.size by rw [← hw52]; simp [set7, World.setCell])
      unfold set7 at hw52
      rw [hw52]
      clear hw52 hG52 hT51 hf51 hg51 hn51 hF51 hE51 hm251
      go_round
      case measure => simp [intOf]; omega
      exact ⟨k + 1, m2, by omega, by go_num, hn52, hm252, hf52, hg52, hF52, hE52, hT52⟩
    obtain rfl : k = K := by omega
    have i1 : ¬ (k : Int) < (k : Int) := by omega
    have hlf := (Array.getElem?_eq_some_iff.1 hf50).1
    obtain ⟨fc0, fc1, fc2, fc3, fc4⟩ := cells5' hf50
    have hlg := (Array.getElem?_eq_some_iff.1 hg50).1
    obtain ⟨gc0, gc1, gc2, gc3, gc4⟩ := cells5' hg50
    have hln := (Array.getElem?_eq_some_iff.1 hn50).1
    obtain ⟨nc0, nc1, nc2, nc3, nc4, nc5, nc6⟩ := cells7' hn50
    go_wp2_with fail
    clear hlf fc0 fc1 fc2 fc3 fc4 hlg gc0 gc1 gc2 gc3 gc4 hln nc0 nc1 nc2 nc3 nc4 nc5 nc6
    clear i1
    by_cases h32 : k < 32
    · skip
      have Hh := Lib.hid (show hasN (errN F k) = true by rw [errN_has]; simpa using h32)
      have He := Lib.hid (show sendE (errN F k) G = 0 by rw [errN_send F Hd.out, if_pos h32])
      have Hx := Lib.hid (errN_next F h32)
      have i3 : ¬ (32 : Int) ≤ (k : Int) := by omega
      refine (next_c hm50 (errN_ok Hc.out k) true Hh.out F Hx.out).mono ?_
      rintro e w51 ⟨x, rfl, hx_, hB51⟩
      have hT51 := below_then hT50 hB51
      have hf51 := block_below hB51 hf50
      have hg51 := block_below hB51 hg50
      have hn51 := block_below hB51 hn50
      have hm51 := NIs.to hm50 hB51
      have hF51 := FIs.to hF50 hB51
      have hE51 := FIs.to hE50 hB51
      clear hT50 hf50 hg50 hn50 hm50 hF50 hE50 hB51
      have hx51 := hx_
      clear hx_
      have hlf := (Array.getElem?_eq_some_iff.1 hf51).1
      obtain ⟨fc0, fc1, fc2, fc3, fc4⟩ := cells5' hf51
      have hlg := (Array.getElem?_eq_some_iff.1 hg51).1
      obtain ⟨gc0, gc1, gc2, gc3, gc4⟩ := cells5' hg51
      have hln := (Array.getElem?_eq_some_iff.1 hn51).1
      obtain ⟨nc0, nc1, nc2, nc3, nc4, nc5, nc6⟩ := cells7' hn51
      go_wp2_with fail
      clear hlf fc0 fc1 fc2 fc3 fc4 hlg gc0 gc1 gc2 gc3 gc4 hln nc0 nc1 nc2 nc3 nc4 nc5 nc6
      have hgeu : w.heap.size ≤ w51.heap.size := hT51.size
      have Hf_u := Lib.hid (show w.heap.size ≠ w51.heap.size from Nat.ne_of_lt (Array.getElem?_eq_some_iff.1 hf51).1)
      have Hu_f := Lib.hid (show w51.heap.size ≠ w.heap.size from Ne.symm Hf_u.out)
      have Hg_u := Lib.hid (show (w.heap.size + 1) ≠ w51.heap.size from Nat.ne_of_lt (Array.getElem?_eq_some_iff.1 hg51).1)
      have Hu_g := Lib.hid (show w51.heap.size ≠ (w.heap.size + 1) from Ne.symm Hg_u.out)
      have Hn_u := Lib.hid (show w6.heap.size ≠ w51.heap.size from Nat.ne_of_lt (Array.getElem?_eq_some_iff.1 hn51).1)
      have Hu_n := Lib.hid (show w51.heap.size ≠ w6.heap.size from Ne.symm Hn_u.out)
      obtain ⟨w52, hw52⟩ : ∃ w52, w51.alloc (.cells #[.bool x.x, .int .i64 x.i, .bool x.r, .int .i64 x.n, .slice x.a x.m x.c] 30) = w52 := ⟨_, rfl⟩
      have hB52 : Below w51.heap.size w51 w52 := by rw [← hw52]; exact below_alloc1 _ _
      have hu52 : w52.heap[w51.heap.size]? = some (.cells #[.bool x.x, .int .i64 x.i, .bool x.r, .int .i64 x.n, .slice x.a x.m x.c] 30) := by rw [← hw52]; exact World.alloc_heap_new _ _
      rw [hw52]
      clear hw52
      have hT52 := below_then hT51 hB52
      have hf52 := block_below hB52 hf51
      have hg52 := block_below hB52 hg51
      have hn52 := block_below hB52 hn51
      have hm52 := NIs.to hm51 hB52
      have hF52 := FIs.to hF51 hB52
      have hE52 := FIs.to hE51 hB52
      have hx52 := FIs.to hx51 hB52
      clear hT51 hf51 hg51 hn51 hm51 hF51 hE51 hx51 hB52
      refine (send_c hm52 hE52 (errN_ok Hc.out k) (out_up (lt_cons (Array.getElem?_eq_some_iff.1 hn52).1 (fun _ h => by cases h))) 0 He.out _ rfl).mono ?_
      rintro e w53 ⟨y, rfl, hy_, hB53⟩
      have hT53 := below_then hT52 hB53
      have hf53 := block_below hB53 hf52
      have hg53 := block_below hB53 hg52
      have hn53 := block_below hB53 hn52
      have hu53 := block_below hB53 hu52
      have hm53 := NIs.to hm52 hB53
      have hF53 := FIs.to hF52 hB53
      have hE53 := FIs.to hE52 hB53
      have hx53 := FIs.to hx52 hB53
      clear hT52 hf52 hg52 hn52 hu52 hm52 hF52 hE52 hx52 hB53
      have hy53 := hy_
      clear hy_
      have hlf := (Array.getElem?_eq_some_iff.1 hf53).1
      obtain ⟨fc0, fc1, fc2, fc3, fc4⟩ := cells5' hf53
      have hlg := (Array.getElem?_eq_some_iff.1 hg53).1
      obtain ⟨gc0, gc1, gc2, gc3, gc4⟩ := cells5' hg53
      have hln := (Array.getElem?_eq_some_iff.1 hn53).1
      obtain ⟨nc0, nc1, nc2, nc3, nc4, nc5, nc6⟩ := cells7' hn53
      have hlu := (Array.getElem?_eq_some_iff.1 hu53).1
      obtain ⟨uc0, uc1, uc2, uc3, uc4⟩ := cells5' hu53
      go_wp2_with fail
      clear hlf fc0 fc1 fc2 fc3 fc4 hlg gc0 gc1 gc2 gc3 gc4 hln nc0 nc1 nc2 nc3 nc4 nc5 nc6 hlu uc0 uc1 uc2 uc3 uc4
      have hgev : w.heap.size ≤ w53.heap.size := hT53.size
      have Hf_v := Lib.hid (show w.heap.size ≠ w53.heap.size from Nat.ne_of_lt (Array.getElem?_eq_some_iff.1 hf53).1)
      have Hv_f := Lib.hid (show w53.heap.size ≠ w.heap.size from Ne.symm Hf_v.out)
      have Hg_v := Lib.hid (show (w.heap.size + 1) ≠ w53.heap.size from Nat.ne_of_lt (Array.getElem?_eq_some_iff.1 hg53).1)
      have Hv_g := Lib.hid (show w53.heap.size ≠ (w.heap.size + 1) from Ne.symm Hg_v.out)
      have Hn_v := Lib.hid (show w6.heap.size ≠ w53.heap.size from Nat.ne_of_lt (Array.getElem?_eq_some_iff.1 hn53).1)
      have Hv_n := Lib.hid (show w53.heap.size ≠ w6.heap.size from Ne.symm Hn_v.out)
      have Hu_v := Lib.hid (show w51.heap.size ≠ w53.heap.size from Nat.ne_of_lt (Array.getElem?_eq_some_iff.1 hu53).1)
      have Hv_u := Lib.hid (show w53.heap.size ≠ w51.heap.size from Ne.symm Hu_v.out)
      obtain ⟨w54, hw54⟩ : ∃ w54, w53.alloc (.cells #[.slice y.qa y.qm y.qc, .slice y.la y.lm y.lc, .int .i64 y.k.t, .int .i64 y.k.r, .int .i64 y.k.s, .int .i64 y.k.q, .slice y.ga y.gm y.gc] 27) = w54 := ⟨_, rfl⟩
      have hB54 : Below w53.heap.size w53 w54 := by rw [← hw54]; exact below_alloc1 _ _
      have hv54 : w54.heap[w53.heap.size]? = some (.cells #[.slice y.qa y.qm y.qc, .slice y.la y.lm y.lc, .int .i64 y.k.t, .int .i64 y.k.r, .int .i64 y.k.s, .int .i64 y.k.q, .slice y.ga y.gm y.gc] 27) := by rw [← hw54]; exact World.alloc_heap_new _ _
      rw [hw54]
      clear hw54
      have hT54 := below_then hT53 hB54
      have hf54 := block_below hB54 hf53
      have hg54 := block_below hB54 hg53
      have hn54 := block_below hB54 hn53
      have hu54 := block_below hB54 hu53
      have hm54 := NIs.to hm53 hB54
      have hF54 := FIs.to hF53 hB54
      have hE54 := FIs.to hE53 hB54
      have hx54 := FIs.to hx53 hB54
      have hy54 := NIs.to hy53 hB54
      clear hT53 hf53 hg53 hn53 hu53 hm53 hF53 hE53 hx53 hy53 hB54
      refine (refFrSame_c hx54 hF54 true (by simp [sameF])).mono ?_
      rintro e w55 ⟨rfl, hB55⟩
      have hT55 := below_then hT54 hB55
      have hf55 := block_below hB55 hf54
      have hg55 := block_below hB55 hg54
      have hn55 := block_below hB55 hn54
      have hu55 := block_below hB55 hu54
      have hv55 := block_below hB55 hv54
      have hm55 := NIs.to hm54 hB55
      have hF55 := FIs.to hF54 hB55
      have hE55 := FIs.to hE54 hB55
      have hx55 := FIs.to hx54 hB55
      have hy55 := NIs.to hy54 hB55
      clear hT54 hf54 hg54 hn54 hu54 hv54 hm54 hF54 hE54 hx54 hy54 hB55
      have e1 : m.k.t = 8 * (k : Int) := by rw [hm55.k]; show (errK k).t = _; unfold errK; rw [if_pos h32]
      have e2 : wrap64 (8 * (k : Int)) = 8 * (k : Int) := by unfold wrap64; omega
      clear h32
      have hlf := (Array.getElem?_eq_some_iff.1 hf55).1
      obtain ⟨fc0, fc1, fc2, fc3, fc4⟩ := cells5' hf55
      have hlg := (Array.getElem?_eq_some_iff.1 hg55).1
      obtain ⟨gc0, gc1, gc2, gc3, gc4⟩ := cells5' hg55
      have hln := (Array.getElem?_eq_some_iff.1 hn55).1
      obtain ⟨nc0, nc1, nc2, nc3, nc4, nc5, nc6⟩ := cells7' hn55
      have hlu := (Array.getElem?_eq_some_iff.1 hu55).1
      obtain ⟨uc0, uc1, uc2, uc3, uc4⟩ := cells5' hu55
      have hlv := (Array.getElem?_eq_some_iff.1 hv55).1
      obtain ⟨vc0, vc1, vc2, vc3, vc4, vc5, vc6⟩ := cells7' hv55
      go_wp2_with fail
      go_ret
      exact ⟨rfl, hT55⟩
    have Hh := Lib.hid (show hasN (errN F k) = false by rw [errN_has]; simpa using h32)
    have He := Lib.hid (show sendE (errN F k) G = 3 by rw [errN_send F Hd.out, if_neg h32])
    have i3 : (32 : Int) ≤ (k : Int) := by omega
    refine (next_c hm50 (errN_ok Hc.out k) false Hh.out _ rfl).mono ?_
    rintro e w51 ⟨x, rfl, hx_, hB51⟩
    have hT51 := below_then hT50 hB51
    have hf51 := block_below hB51 hf50
    have hg51 := block_below hB51 hg50
    have hn51 := block_below hB51 hn50
    have hm51 := NIs.to hm50 hB51
    have hF51 := FIs.to hF50 hB51
    have hE51 := FIs.to hE50 hB51
    clear hT50 hf50 hg50 hn50 hm50 hF50 hE50 hB51
    have hx51 := hx_
    clear hx_
    have hlf := (Array.getElem?_eq_some_iff.1 hf51).1
    obtain ⟨fc0, fc1, fc2, fc3, fc4⟩ := cells5' hf51
    have hlg := (Array.getElem?_eq_some_iff.1 hg51).1
    obtain ⟨gc0, gc1, gc2, gc3, gc4⟩ := cells5' hg51
    have hln := (Array.getElem?_eq_some_iff.1 hn51).1
    obtain ⟨nc0, nc1, nc2, nc3, nc4, nc5, nc6⟩ := cells7' hn51
    go_wp2_with fail
    clear hlf fc0 fc1 fc2 fc3 fc4 hlg gc0 gc1 gc2 gc3 gc4 hln nc0 nc1 nc2 nc3 nc4 nc5 nc6
    have hgeu : w.heap.size ≤ w51.heap.size := hT51.size
    have Hf_u := Lib.hid (show w.heap.size ≠ w51.heap.size from Nat.ne_of_lt (Array.getElem?_eq_some_iff.1 hf51).1)
    have Hu_f := Lib.hid (show w51.heap.size ≠ w.heap.size from Ne.symm Hf_u.out)
    have Hg_u := Lib.hid (show (w.heap.size + 1) ≠ w51.heap.size from Nat.ne_of_lt (Array.getElem?_eq_some_iff.1 hg51).1)
    have Hu_g := Lib.hid (show w51.heap.size ≠ (w.heap.size + 1) from Ne.symm Hg_u.out)
    have Hn_u := Lib.hid (show w6.heap.size ≠ w51.heap.size from Nat.ne_of_lt (Array.getElem?_eq_some_iff.1 hn51).1)
    have Hu_n := Lib.hid (show w51.heap.size ≠ w6.heap.size from Ne.symm Hn_u.out)
    obtain ⟨w52, hw52⟩ : ∃ w52, w51.alloc (.cells #[.bool x.x, .int .i64 x.i, .bool x.r, .int .i64 x.n, .slice x.a x.m x.c] 30) = w52 := ⟨_, rfl⟩
    have hB52 : Below w51.heap.size w51 w52 := by rw [← hw52]; exact below_alloc1 _ _
    have hu52 : w52.heap[w51.heap.size]? = some (.cells #[.bool x.x, .int .i64 x.i, .bool x.r, .int .i64 x.n, .slice x.a x.m x.c] 30) := by rw [← hw52]; exact World.alloc_heap_new _ _
    rw [hw52]
    clear hw52
    have hT52 := below_then hT51 hB52
    have hf52 := block_below hB52 hf51
    have hg52 := block_below hB52 hg51
    have hn52 := block_below hB52 hn51
    have hm52 := NIs.to hm51 hB52
    have hF52 := FIs.to hF51 hB52
    have hE52 := FIs.to hE51 hB52
    have hx52 := FIs.to hx51 hB52
    clear hT51 hf51 hg51 hn51 hm51 hF51 hE51 hx51 hB52
    refine (send_c hm52 hE52 (errN_ok Hc.out k) (out_up (lt_cons (Array.getElem?_eq_some_iff.1 hn52).1 (fun _ h => by cases h))) 3 He.out _ rfl).mono ?_
    rintro e w53 ⟨y, rfl, hy_, hB53⟩
    have hT53 := below_then hT52 hB53
    have hf53 := block_below hB53 hf52
    have hg53 := block_below hB53 hg52
    have hn53 := block_below hB53 hn52
    have hu53 := block_below hB53 hu52
    have hm53 := NIs.to hm52 hB53
    have hF53 := FIs.to hF52 hB53
    have hE53 := FIs.to hE52 hB53
    have hx53 := FIs.to hx52 hB53
    clear hT52 hf52 hg52 hn52 hu52 hm52 hF52 hE52 hx52 hB53
    have hy53 := hy_
    clear hy_
    have e1 : m.k.s = 3 := by rw [hm53.k]; show (errK k).s = _; unfold errK; rw [if_neg h32]
    have e2 : m.qm = 1 := hm53.q.len.symm
    clear h32
    have hlf := (Array.getElem?_eq_some_iff.1 hf53).1
    obtain ⟨fc0, fc1, fc2, fc3, fc4⟩ := cells5' hf53
    have hlg := (Array.getElem?_eq_some_iff.1 hg53).1
    obtain ⟨gc0, gc1, gc2, gc3, gc4⟩ := cells5' hg53
    have hln := (Array.getElem?_eq_some_iff.1 hn53).1
    obtain ⟨nc0, nc1, nc2, nc3, nc4, nc5, nc6⟩ := cells7' hn53
    have hlu := (Array.getElem?_eq_some_iff.1 hu53).1
    obtain ⟨uc0, uc1, uc2, uc3, uc4⟩ := cells5' hu53
    go_wp2_with fail
    go_ret
    exact ⟨rfl, below_then hT53 (below_alloc1 _ _)⟩

end Go.Proofs.Ytlbgilbigcnleaa
