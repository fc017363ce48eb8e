/-
  Many steps of a counter, one step, the same so often: the program's functions and the statements'.
-/
import Derived.Test.YtbkldbckcnnafaaCnt3
namespace Go.Proofs.Ytbkldbckcnnafaa
open Go.RowKit
set_option linter.unusedVariables false
set_option linter.unusedSimpArgs false

theorem HasT.set {w : World} {B X Y F : Nat} {c : CV} (h : HasT w B X Y) (hc : HasC w F c) (a b c' d : Value) : HasT (set4 w F a b c' d) B X Y := by
  refine ⟨other_grownF (set4_grown _ _ _ _ _ _) h.map ?_, other_grownF (set4_grown _ _ _ _ _ _) h.one ?_, other_grownF (set4_grown _ _ _ _ _ _) h.two ?_⟩
  · rintro rfl; have := h.map; unfold HasC at hc; rw [hc] at this; cases this
  · rintro rfl; have := h.one; unfold HasC at hc; rw [hc] at this; simp at this
  · rintro rfl; have := h.two; unfold HasC at hc; rw [hc] at this; simp at this
theorem stepsV_take {c : CV} {l : List Int} {k : Nat} {x : Int} (hx : l[k]? = some x) : stepsV c (l.take (k + 1)) = stepV (stepsV c (l.take k)) x := by
  rw [take_snoc hx, stepsV_snoc]

set_option maxRecDepth 100000 in
set_option maxHeartbeats 2000000 in
theorem steps_any (c d : CV) (l : List Int) (hd : stepsV c l = d) (hok : OkC c) (n : Nat) (hn : l.length = n) (hm : n ≤ 1000000) (A : Option Addr) (cp : Nat) (w : World) (h : Row .i64 w w.heap.size A l) :
    Calls Try.prog 17 #[c.v, .slice A n cp] w fun e w' => e = .returned d.v ∧ Below w.heap.size w w' := by
  have Hd := Lib.hid hd
  have Hn := Lib.hid hn
  have Hok := Lib.hid hok
  clear hd hn hok
  go_enter Try.func17, Try.ntmps17
  go_wp2_with fail
  obtain ⟨w0, hw0⟩ : ∃ w0, (w.alloc (.cells #[.int .i64 c.t, .int .i64 c.r, .int .i64 c.s, .int .i64 c.q] 23)).alloc (.cells #[.int .i64 0, .int .i64 0, .int .i64 0, .int .i64 0] 23) = w0 := ⟨_, rfl⟩
  have hT0 : Below w.heap.size w w0 := by rw [← hw0]; exact below_two _ _ _
  have hC0 : HasC w0 w.heap.size c := by rw [← hw0]; exact blk1 _ _ _
  have hR0 : HasC w0 (w.heap.size + 1) zeroV := by rw [← hw0]; exact blk2 _ _ _
  rw [hw0]
  clear hw0
  refine (table_any w0).mono ?_
  rintro e w1 ⟨B, X, Y, rfl, hX1, hB1⟩
  have hT1 := below_then hT0 hB1
  have hR1 := block_below hB1 hR0
  have hC1 := block_below hB1 hC0
  go_wp2_with fail
  go_loopw [11] (fun i wr => ∃ (k : Nat) (b : CV), k ≤ n ∧ i = .int .i64 k ∧ Hid (stepsV c (l.take k) = b) ∧ HasC wr w.heap.size b ∧ HasC wr (w.heap.size + 1) zeroV ∧ HasT wr B X Y ∧ Below w.heap.size w wr) (fun i _ => n - (intOf i).toNat)
  case atStart => exact ⟨0, c, Nat.zero_le _, rfl, Lib.hid rfl, hC1, hR1, hX1, hT1⟩
  case round =>
    clear hT0 hC0 hR0 hX1 hB1 hT1 hR1 hC1
    obtain ⟨k, b, hk, rfl, Hb, hC, hR, hX, hB⟩ := hrel
    by_cases hlt : k < n
    · obtain ⟨ad, x, rfl, hx, hc⟩ := (h.below hB).get_ (k := k) (by rw [Hn.out]; exact hlt)
      obtain ⟨b2, hb2⟩ : ∃ b2, stepV b x = b2 := ⟨_, rfl⟩
      have Hs := Lib.hid (show stepsV c (l.take (k + 1)) = b2 from by rw [stepsV_take hx, Hb.out]; exact hb2)
      have Hb2 := Lib.hid hb2
      clear hx hb2
      obtain ⟨⟨c0, c1, c2, c3⟩, f0, f1, f2, f3⟩ := cells4 hC
      go_wp2_with fail
      clear c0 c1 c2 c3 f0 f1 f2 f3
      refine (step_any b b2 x Hb2.out (by rw [← Hb.out]; exact ok_steps _ _ Hok.out) B X Y wr hX).mono ?_
      rintro e w2 ⟨rfl, hB2⟩
      have hC2 := block_below hB2 hC
      have hR2 := block_below hB2 hR
      have hX2 := hX.to hB2
      have hBB := below_then hB hB2
      obtain ⟨⟨c0, c1, c2, c3⟩, f0, f1, f2, f3⟩ := cells4 hC2
      go_wp2_with fail
      go_round
      case measure => simp [intOf]; omega
      exact ⟨k + 1, b2, by omega, by go_num, Hs, set4_obj hC2 _ _ _ _, other_grownF (set4_grown _ _ _ _ _ _) hR2 (by omega), hX2.set hC2 _ _ _ _, below_set4 hBB (Nat.le_refl _) _ _ _ _⟩
    · obtain rfl : k = n := by omega
      have e1 : l.take k = l := by rw [← Hn.out, List.take_length]
      obtain rfl : b = d := by rw [← Hb.out, ← Hd.out, e1]
      clear e1
      obtain ⟨⟨c0, c1, c2, c3⟩, f0, f1, f2, f3⟩ := cells4 hC
      obtain ⟨⟨r0, r1, r2, r3⟩, g0, g1, g2, g3⟩ := cells4 hR
      go_wp2_with fail
      exact bodyPost_ret (v := b.v) (results_c rfl _ rfl (set4_obj hR _ _ _ _)) rfl ⟨rfl, below_set4 hB (by omega) _ _ _ _⟩

set_option maxRecDepth 100000 in
set_option maxHeartbeats 2000000 in
theorem step1_any (c d : CV) (k : Int) (hd : stepV c k = d) (hok : OkC c) (w : World) :
    Calls Try.prog 15 #[c.v, .int .i64 k] w fun e w' => e = .returned d.v ∧ Below w.heap.size w w' := by
  have Hd := Lib.hid hd
  have Hok := Lib.hid hok
  clear hd hok
  go_enter Try.func15, Try.ntmps15
  go_wp2_with fail
  obtain ⟨w0, hw0⟩ : ∃ w0, (w.alloc (.cells #[.int .i64 c.t, .int .i64 c.r, .int .i64 c.s, .int .i64 c.q] 23)).alloc (.cells #[.int .i64 0, .int .i64 0, .int .i64 0, .int .i64 0] 23) = w0 := ⟨_, rfl⟩
  have hT0 : Below w.heap.size w w0 := by rw [← hw0]; exact below_two _ _ _
  have hR0 : HasC w0 (w.heap.size + 1) zeroV := by rw [← hw0]; exact blk2 _ _ _
  have hsz : w.heap.size + 2 = w0.heap.size := by rw [← hw0]; simp
  rw [hw0, hsz]
  clear hw0 hsz
  obtain ⟨w1, hw1⟩ : ∃ w1, w0.alloc (.cells #[.int .i64 k] 3) = w1 := ⟨_, rfl⟩
  have hT1 : Below w.heap.size w w1 := by rw [← hw1]; exact below_then hT0 (below_alloc1 _ _)
  have hR1 : HasC w1 (w.heap.size + 1) zeroV := by rw [← hw1]; exact block_below (below_alloc1 _ _) hR0
  have hL1 : Row .i64 w1 w1.heap.size (some ⟨w0.heap.size, 0, none⟩) [k] := by rw [← hw1]; simpa using Row.lit w0 .i64 [k] 3 rfl
  rw [hw1]
  clear hw1
  refine (steps_any c d [k] (by rw [← Hd.out]; rfl) Hok.out 1 rfl (by omega) _ 1 w1 hL1).mono ?_
  rintro e w2 ⟨rfl, hB2⟩
  have hT2 := below_then hT1 hB2
  have hR2 := block_below hB2 hR1
  obtain ⟨⟨c0, c1, c2, c3⟩, f0, f1, f2, f3⟩ := cells4 hR2
  go_wp2_with fail
  exact bodyPost_ret (v := d.v) (results_c rfl _ rfl (set4_obj hR2 _ _ _ _)) rfl ⟨rfl, below_set4 hT2 (by omega) _ _ _ _⟩

set_option maxRecDepth 100000 in
set_option maxHeartbeats 2000000 in
theorem times_any (x : Int) (m : Nat) (hm : m ≤ 2000) (w : World) :
    Calls Try.prog 19 #[.int .i64 x, .int .i64 m] w fun e w' => ∃ A c, e = .returned (.slice A m c) ∧ Row .i64 w' w'.heap.size A (List.replicate m x) ∧ Below w.heap.size w w' := by
  obtain ⟨i0, hi, hz0, hz1, hz2⟩ := info_parts Try.infoInt
  go_enter Try.func19, Try.ntmps19
  go_wp2_with fail
  go_loopw [5, 6] (fun o i wr => ∃ (k : Nat) (A' : Option Addr) (c' : Nat), k ≤ m ∧ i = .int .i64 k ∧ o = .slice A' k c' ∧ wr.ownsRow w.heap.size 3 1 (.slice A' k c') k ((List.replicate k x).map (Value.int .i64)) ∧ Below w.heap.size w wr)
    (fun _ i _ => m - (intOf i).toNat)
  case atStart => exact ⟨0, none, 0, Nat.zero_le _, rfl, rfl, ⟨rfl, .inl ⟨rfl, rfl⟩⟩, Below.refl _ _⟩
  case round =>
    obtain ⟨k, A', c', hk, rfl, rfl, hown, hB⟩ := hrel
    have hsz := hB.size
    by_cases hlt : k < m
    · have Hs := Lib.hid (show List.replicate (k + 1) x = List.replicate k x ++ [x] from List.replicate_succ')
      go_wp2_with (at_builtin; refine wpList_append_row _ .i64 rfl _ _ 24 rfl w.heap.size 3 i0 (.int .i64 0) 8 Try.underlying24 hi hz0 hz1 hz2 rfl _ k (List.replicate k x) rfl (hown.alloc _) (some ⟨wr.heap.size, 0, none⟩) 1 1 _ [x] rfl rfl (Row.lit wr .i64 [x] 3 rfl) (by unfold maxLen; omega) (by omega) (by simp; omega) ?_; intro A2 c2 w2 hown2 hc2 hB2)
      have hBB : Below w.heap.size w w2 := (hB.alloc hsz _).trans hB2
      exact ⟨⟨k + 1, A2, c2, by omega, by go_num, rfl, by rw [Hs.out]; exact hown2, hBB⟩, by simp [intOf]; omega⟩
    · obtain rfl : k = m := by omega
      go_wp2
      go_ret
      exact ⟨A', c', rfl, Row.own hown, hB⟩

theorem below_three (w : World) (o1 o2 o3 : Obj) : Below w.heap.size w (((w.alloc o1).alloc o2).alloc o3) := below_then (below_two _ _ _) (below_alloc1 _ _)
theorem blk2of3 (w : World) (o1 o2 o3 : Obj) : (((w.alloc o1).alloc o2).alloc o3).heap[w.heap.size + 1]? = some o2 := block_below (below_alloc1 _ _) (blk2 _ _ _)
set_option maxRecDepth 100000 in
set_option maxHeartbeats 2000000 in
theorem refStep_off (c d : CV) (k : Int) (hd : restV c k = d) (hs : c.s = 3) (hq : 0 ≤ c.q ∧ c.q ≤ 127) (w : World) :
    Calls Try.prog 16 #[c.v, .int .i64 k] w fun e w' => e = .returned d.v ∧ Below w.heap.size w w' := by
  obtain ⟨t, r, s, q⟩ := c
  dsimp only at hs hq
  subst hs
  by_cases hk : k = 6
  · subst hk
    by_cases h1 : q = 127
    · obtain rfl : d = newV := by rw [← hd]; simp [restV, h1]
      clear hd
      subst h1
      go_enter Try.func16, Try.ntmps16
      go_wp2_with fail
      obtain ⟨w0, hw0⟩ : ∃ w0, ((w.alloc (.cells #[.int .i64 t, .int .i64 r, .int .i64 3, .int .i64 127] 23)).alloc (.cells #[.int .i64 0, .int .i64 0, .int .i64 0, .int .i64 0] 23)).alloc (.cells #[.int .i64 t, .int .i64 r, .int .i64 3, .int .i64 128] 23) = w0 := ⟨_, rfl⟩
      have hT0 : Below w.heap.size w w0 := by rw [← hw0]; exact below_three _ _ _ _
      have hR0 : HasC w0 (w.heap.size + 1) zeroV := by rw [← hw0]; exact blk2of3 _ _ _ _
      rw [hw0]
      clear hw0
      refine (refNew_any w0).mono ?_
      rintro e w1 ⟨rfl, hB1⟩
      have hT1 := below_then hT0 hB1
      have hR1 := block_below hB1 hR0
      obtain ⟨⟨c0, c1, c2, c3⟩, f0, f1, f2, f3⟩ := cells4 hR1
      go_wp2_with fail
      exact bodyPost_ret (v := newV.v) (results_c rfl _ rfl (set4_obj hR1 _ _ _ _)) rfl ⟨rfl, below_set4 hT1 (by omega) _ _ _ _⟩
    · obtain rfl : d = ⟨t, r, 3, q + 1⟩ := by rw [← hd]; simp [restV, h1]
      clear hd
      have h2 : wrap64 (q + 1) = q + 1 := by unfold wrap64; omega
      have h3 : (q + 1 == 128) = false := by simp; omega
      have h4 : ¬ (q + 1 = 128) := by omega
      clear h1
      go_enter Try.func16, Try.ntmps16
      go_wp2_with fail
      exact bodyPost_ret (v := CV.v ⟨t, r, 3, q + 1⟩) (results_c (c := ⟨t, r, 3, q + 1⟩) rfl _ rfl (blk2of3 _ _ _ _)) rfl ⟨rfl, below_three _ _ _ _⟩
  · obtain rfl : d = ⟨t, r, 3, q⟩ := by rw [← hd]; simp [restV, hk]
    clear hd
    go_enter Try.func16, Try.ntmps16
    go_wp2_with fail
    exact bodyPost_ret (v := CV.v ⟨t, r, 3, q⟩) (results_c (c := ⟨t, r, 3, q⟩) rfl _ rfl (blk2of3 _ _ _ _)) rfl ⟨rfl, below_three _ _ _ _⟩

set_option maxRecDepth 100000 in
set_option maxHeartbeats 2000000 in
theorem refStep_1 (c d : CV) (hd : settleV (sentV c) = d) (hs : c.s ≠ 3) (hb : 0 ≤ c.t ∧ c.t ≤ 255 ∧ 0 ≤ c.r ∧ c.r ≤ 255) (w : World) :
    Calls Try.prog 16 #[c.v, .int .i64 1] w fun e w' => e = .returned d.v ∧ Below w.heap.size w w' := by
  have hs1 : (c.s == 3) = false := by simpa using hs
  have h7 : wrap64 (c.t - 1) = c.t - 1 := by unfold wrap64; omega
  obtain ⟨m, hm⟩ : ∃ m, max (c.t - 1) 0 = m := ⟨_, rfl⟩
  have Hd := Lib.hid hd
  clear hd hb hs
  by_cases h1 : 255 < m
  · obtain rfl : d = ⟨256, 0, 3, 0⟩ := by rw [← Hd.out]; simp [settleV, sentV, heardV, wrongV, longV, h1, *]
    clear Hd
    go_enter Try.func16, Try.ntmps16
    go_wp2_with fail
    exact bodyPost_ret (v := CV.v ⟨256, 0, 3, 0⟩) (results_c (c := ⟨256, 0, 3, 0⟩) rfl _ rfl (blk2of3 _ _ _ _)) rfl ⟨rfl, below_three _ _ _ _⟩
  by_cases h2 : 127 < m
  · obtain rfl : d = ⟨m, c.r, 2, c.q⟩ := by rw [← Hd.out]; simp [settleV, sentV, heardV, wrongV, longV, h1, h2, *]
    clear Hd
    go_enter Try.func16, Try.ntmps16
    go_wp2_with fail
    exact bodyPost_ret (v := CV.v ⟨m, c.r, 2, c.q⟩) (results_c (c := ⟨m, c.r, 2, c.q⟩) rfl _ rfl (blk2of3 _ _ _ _)) rfl ⟨rfl, below_three _ _ _ _⟩
  by_cases h3 : 127 < c.r
  · obtain rfl : d = ⟨m, c.r, 2, c.q⟩ := by rw [← Hd.out]; simp [settleV, sentV, heardV, wrongV, longV, h1, h2, h3, *]
    clear Hd
    go_enter Try.func16, Try.ntmps16
    go_wp2_with fail
    exact bodyPost_ret (v := CV.v ⟨m, c.r, 2, c.q⟩) (results_c (c := ⟨m, c.r, 2, c.q⟩) rfl _ rfl (blk2of3 _ _ _ _)) rfl ⟨rfl, below_three _ _ _ _⟩
  obtain rfl : d = ⟨m, c.r, 1, c.q⟩ := by rw [← Hd.out]; simp [settleV, sentV, heardV, wrongV, longV, h1, h2, h3, *]
  clear Hd
  go_enter Try.func16, Try.ntmps16
  go_wp2_with fail
  exact bodyPost_ret (v := CV.v ⟨m, c.r, 1, c.q⟩) (results_c (c := ⟨m, c.r, 1, c.q⟩) rfl _ rfl (blk2of3 _ _ _ _)) rfl ⟨rfl, below_three _ _ _ _⟩

set_option maxRecDepth 100000 in
set_option maxHeartbeats 2000000 in
theorem refStep_2a (c d : CV) (hr : 127 < c.r) (hd : settleV (heardV c) = d) (hs : c.s ≠ 3) (hb : 0 ≤ c.t ∧ c.t ≤ 255 ∧ 0 ≤ c.r ∧ c.r ≤ 255) (w : World) :
    Calls Try.prog 16 #[c.v, .int .i64 2] w fun e w' => e = .returned d.v ∧ Below w.heap.size w w' := by
  have hs1 : (c.s == 3) = false := by simpa using hs
  have h7 : wrap64 (c.r - 1) = c.r - 1 := by unfold wrap64; omega
  obtain ⟨m, hm⟩ : ∃ m, max (c.r - 1) 0 = m := ⟨_, rfl⟩
  have Hd := Lib.hid hd
  clear hd hb hs
  by_cases h1 : 255 < c.t
  · obtain rfl : d = ⟨256, 0, 3, 0⟩ := by rw [← Hd.out]; simp [settleV, sentV, heardV, wrongV, longV, h1, *]
    clear Hd
    go_enter Try.func16, Try.ntmps16
    go_wp2_with fail
    exact bodyPost_ret (v := CV.v ⟨256, 0, 3, 0⟩) (results_c (c := ⟨256, 0, 3, 0⟩) rfl _ rfl (blk2of3 _ _ _ _)) rfl ⟨rfl, below_three _ _ _ _⟩
  by_cases h2 : 127 < c.t
  · obtain rfl : d = ⟨c.t, (127 : Int), 2, c.q⟩ := by rw [← Hd.out]; simp [settleV, sentV, heardV, wrongV, longV, h1, h2, *]
    clear Hd
    go_enter Try.func16, Try.ntmps16
    go_wp2_with fail
    exact bodyPost_ret (v := CV.v ⟨c.t, (127 : Int), 2, c.q⟩) (results_c (c := ⟨c.t, (127 : Int), 2, c.q⟩) rfl _ rfl (blk2of3 _ _ _ _)) rfl ⟨rfl, below_three _ _ _ _⟩
  obtain rfl : d = ⟨c.t, (127 : Int), 1, c.q⟩ := by rw [← Hd.out]; simp [settleV, sentV, heardV, wrongV, longV, h1, h2, *]
  clear Hd
  go_enter Try.func16, Try.ntmps16
  go_wp2_with fail
  exact bodyPost_ret (v := CV.v ⟨c.t, (127 : Int), 1, c.q⟩) (results_c (c := ⟨c.t, (127 : Int), 1, c.q⟩) rfl _ rfl (blk2of3 _ _ _ _)) rfl ⟨rfl, below_three _ _ _ _⟩

set_option maxRecDepth 100000 in
set_option maxHeartbeats 2000000 in
theorem refStep_2b (c d : CV) (hr : ¬ 127 < c.r) (hd : settleV (heardV c) = d) (hs : c.s ≠ 3) (hb : 0 ≤ c.t ∧ c.t ≤ 255 ∧ 0 ≤ c.r ∧ c.r ≤ 255) (w : World) :
    Calls Try.prog 16 #[c.v, .int .i64 2] w fun e w' => e = .returned d.v ∧ Below w.heap.size w w' := by
  have hs1 : (c.s == 3) = false := by simpa using hs
  have h7 : wrap64 (c.r - 1) = c.r - 1 := by unfold wrap64; omega
  obtain ⟨m, hm⟩ : ∃ m, max (c.r - 1) 0 = m := ⟨_, rfl⟩
  have Hd := Lib.hid hd
  clear hd hb hs
  by_cases h1 : 255 < c.t
  · obtain rfl : d = ⟨256, 0, 3, 0⟩ := by rw [← Hd.out]; simp [settleV, sentV, heardV, wrongV, longV, h1, *]
    clear Hd
    go_enter Try.func16, Try.ntmps16
    go_wp2_with fail
    exact bodyPost_ret (v := CV.v ⟨256, 0, 3, 0⟩) (results_c (c := ⟨256, 0, 3, 0⟩) rfl _ rfl (blk2of3 _ _ _ _)) rfl ⟨rfl, below_three _ _ _ _⟩
  by_cases h2 : 127 < c.t
  · obtain rfl : d = ⟨c.t, m, 2, c.q⟩ := by rw [← Hd.out]; simp [settleV, sentV, heardV, wrongV, longV, h1, h2, *]
    clear Hd
    go_enter Try.func16, Try.ntmps16
    go_wp2_with fail
    exact bodyPost_ret (v := CV.v ⟨c.t, m, 2, c.q⟩) (results_c (c := ⟨c.t, m, 2, c.q⟩) rfl _ rfl (blk2of3 _ _ _ _)) rfl ⟨rfl, below_three _ _ _ _⟩
  by_cases h3 : 127 < m
  · exfalso; omega
  obtain rfl : d = ⟨c.t, m, 1, c.q⟩ := by rw [← Hd.out]; simp [settleV, sentV, heardV, wrongV, longV, h1, h2, h3, *]
  clear Hd
  go_enter Try.func16, Try.ntmps16
  go_wp2_with fail
  exact bodyPost_ret (v := CV.v ⟨c.t, m, 1, c.q⟩) (results_c (c := ⟨c.t, m, 1, c.q⟩) rfl _ rfl (blk2of3 _ _ _ _)) rfl ⟨rfl, below_three _ _ _ _⟩

set_option maxRecDepth 100000 in
set_option maxHeartbeats 2000000 in
theorem refStep_3 (c d : CV) (hd : settleV (wrongV c) = d) (hs : c.s ≠ 3) (hb : 0 ≤ c.t ∧ c.t ≤ 255 ∧ 0 ≤ c.r ∧ c.r ≤ 255) (w : World) :
    Calls Try.prog 16 #[c.v, .int .i64 3] w fun e w' => e = .returned d.v ∧ Below w.heap.size w w' := by
  have hs1 : (c.s == 3) = false := by simpa using hs
  have h7 : wrap64 (c.t + 8) = c.t + 8 := by unfold wrap64; omega
  have Hd := Lib.hid hd
  clear hd hb hs
  by_cases h1 : 255 < (c.t + 8)
  · obtain rfl : d = ⟨256, 0, 3, 0⟩ := by rw [← Hd.out]; simp [settleV, sentV, heardV, wrongV, longV, h1, *]
    clear Hd
    go_enter Try.func16, Try.ntmps16
    go_wp2_with fail
    exact bodyPost_ret (v := CV.v ⟨256, 0, 3, 0⟩) (results_c (c := ⟨256, 0, 3, 0⟩) rfl _ rfl (blk2of3 _ _ _ _)) rfl ⟨rfl, below_three _ _ _ _⟩
  by_cases h2 : 127 < (c.t + 8)
  · obtain rfl : d = ⟨(c.t + 8), c.r, 2, c.q⟩ := by rw [← Hd.out]; simp [settleV, sentV, heardV, wrongV, longV, h1, h2, *]
    clear Hd
    go_enter Try.func16, Try.ntmps16
    go_wp2_with fail
    exact bodyPost_ret (v := CV.v ⟨(c.t + 8), c.r, 2, c.q⟩) (results_c (c := ⟨(c.t + 8), c.r, 2, c.q⟩) rfl _ rfl (blk2of3 _ _ _ _)) rfl ⟨rfl, below_three _ _ _ _⟩
  by_cases h3 : 127 < c.r
  · obtain rfl : d = ⟨(c.t + 8), c.r, 2, c.q⟩ := by rw [← Hd.out]; simp [settleV, sentV, heardV, wrongV, longV, h1, h2, h3, *]
    clear Hd
    go_enter Try.func16, Try.ntmps16
    go_wp2_with fail
    exact bodyPost_ret (v := CV.v ⟨(c.t + 8), c.r, 2, c.q⟩) (results_c (c := ⟨(c.t + 8), c.r, 2, c.q⟩) rfl _ rfl (blk2of3 _ _ _ _)) rfl ⟨rfl, below_three _ _ _ _⟩
  obtain rfl : d = ⟨(c.t + 8), c.r, 1, c.q⟩ := by rw [← Hd.out]; simp [settleV, sentV, heardV, wrongV, longV, h1, h2, h3, *]
  clear Hd
  go_enter Try.func16, Try.ntmps16
  go_wp2_with fail
  exact bodyPost_ret (v := CV.v ⟨(c.t + 8), c.r, 1, c.q⟩) (results_c (c := ⟨(c.t + 8), c.r, 1, c.q⟩) rfl _ rfl (blk2of3 _ _ _ _)) rfl ⟨rfl, below_three _ _ _ _⟩

set_option maxRecDepth 100000 in
set_option maxHeartbeats 2000000 in
theorem refStep_4 (c d : CV) (hd : settleV (longV 1 c) = d) (hs : c.s ≠ 3) (hb : 0 ≤ c.t ∧ c.t ≤ 255 ∧ 0 ≤ c.r ∧ c.r ≤ 255) (w : World) :
    Calls Try.prog 16 #[c.v, .int .i64 4] w fun e w' => e = .returned d.v ∧ Below w.heap.size w w' := by
  have hs1 : (c.s == 3) = false := by simpa using hs
  have h7 : wrap64 (c.r + 1) = c.r + 1 := by unfold wrap64; omega
  obtain ⟨m, hm⟩ : ∃ m, min (c.r + 1) 255 = m := ⟨_, rfl⟩
  have Hd := Lib.hid hd
  clear hd hb hs
  by_cases h1 : 255 < c.t
  · obtain rfl : d = ⟨256, 0, 3, 0⟩ := by rw [← Hd.out]; simp [settleV, sentV, heardV, wrongV, longV, h1, *]
    clear Hd
    go_enter Try.func16, Try.ntmps16
    go_wp2_with fail
    exact bodyPost_ret (v := CV.v ⟨256, 0, 3, 0⟩) (results_c (c := ⟨256, 0, 3, 0⟩) rfl _ rfl (blk2of3 _ _ _ _)) rfl ⟨rfl, below_three _ _ _ _⟩
  by_cases h2 : 127 < c.t
  · obtain rfl : d = ⟨c.t, m, 2, c.q⟩ := by rw [← Hd.out]; simp [settleV, sentV, heardV, wrongV, longV, h1, h2, *]
    clear Hd
    go_enter Try.func16, Try.ntmps16
    go_wp2_with fail
    exact bodyPost_ret (v := CV.v ⟨c.t, m, 2, c.q⟩) (results_c (c := ⟨c.t, m, 2, c.q⟩) rfl _ rfl (blk2of3 _ _ _ _)) rfl ⟨rfl, below_three _ _ _ _⟩
  by_cases h3 : 127 < m
  · obtain rfl : d = ⟨c.t, m, 2, c.q⟩ := by rw [← Hd.out]; simp [settleV, sentV, heardV, wrongV, longV, h1, h2, h3, *]
    clear Hd
    go_enter Try.func16, Try.ntmps16
    go_wp2_with fail
    exact bodyPost_ret (v := CV.v ⟨c.t, m, 2, c.q⟩) (results_c (c := ⟨c.t, m, 2, c.q⟩) rfl _ rfl (blk2of3 _ _ _ _)) rfl ⟨rfl, below_three _ _ _ _⟩
  obtain rfl : d = ⟨c.t, m, 1, c.q⟩ := by rw [← Hd.out]; simp [settleV, sentV, heardV, wrongV, longV, h1, h2, h3, *]
  clear Hd
  go_enter Try.func16, Try.ntmps16
  go_wp2_with fail
  exact bodyPost_ret (v := CV.v ⟨c.t, m, 1, c.q⟩) (results_c (c := ⟨c.t, m, 1, c.q⟩) rfl _ rfl (blk2of3 _ _ _ _)) rfl ⟨rfl, below_three _ _ _ _⟩

set_option maxRecDepth 100000 in
set_option maxHeartbeats 2000000 in
theorem refStep_5 (c d : CV) (hd : settleV (longV 8 c) = d) (hs : c.s ≠ 3) (hb : 0 ≤ c.t ∧ c.t ≤ 255 ∧ 0 ≤ c.r ∧ c.r ≤ 255) (w : World) :
    Calls Try.prog 16 #[c.v, .int .i64 5] w fun e w' => e = .returned d.v ∧ Below w.heap.size w w' := by
  have hs1 : (c.s == 3) = false := by simpa using hs
  have h7 : wrap64 (c.r + 8) = c.r + 8 := by unfold wrap64; omega
  obtain ⟨m, hm⟩ : ∃ m, min (c.r + 8) 255 = m := ⟨_, rfl⟩
  have Hd := Lib.hid hd
  clear hd hb hs
  by_cases h1 : 255 < c.t
  · obtain rfl : d = ⟨256, 0, 3, 0⟩ := by rw [← Hd.out]; simp [settleV, sentV, heardV, wrongV, longV, h1, *]
    clear Hd
    go_enter Try.func16, Try.ntmps16
    go_wp2_with fail
    exact bodyPost_ret (v := CV.v ⟨256, 0, 3, 0⟩) (results_c (c := ⟨256, 0, 3, 0⟩) rfl _ rfl (blk2of3 _ _ _ _)) rfl ⟨rfl, below_three _ _ _ _⟩
  by_cases h2 : 127 < c.t
  · obtain rfl : d = ⟨c.t, m, 2, c.q⟩ := by rw [← Hd.out]; simp [settleV, sentV, heardV, wrongV, longV, h1, h2, *]
    clear Hd
    go_enter Try.func16, Try.ntmps16
    go_wp2_with fail
    exact bodyPost_ret (v := CV.v ⟨c.t, m, 2, c.q⟩) (results_c (c := ⟨c.t, m, 2, c.q⟩) rfl _ rfl (blk2of3 _ _ _ _)) rfl ⟨rfl, below_three _ _ _ _⟩
  by_cases h3 : 127 < m
  · obtain rfl : d = ⟨c.t, m, 2, c.q⟩ := by rw [← Hd.out]; simp [settleV, sentV, heardV, wrongV, longV, h1, h2, h3, *]
    clear Hd
    go_enter Try.func16, Try.ntmps16
    go_wp2_with fail
    exact bodyPost_ret (v := CV.v ⟨c.t, m, 2, c.q⟩) (results_c (c := ⟨c.t, m, 2, c.q⟩) rfl _ rfl (blk2of3 _ _ _ _)) rfl ⟨rfl, below_three _ _ _ _⟩
  obtain rfl : d = ⟨c.t, m, 1, c.q⟩ := by rw [← Hd.out]; simp [settleV, sentV, heardV, wrongV, longV, h1, h2, h3, *]
  clear Hd
  go_enter Try.func16, Try.ntmps16
  go_wp2_with fail
  exact bodyPost_ret (v := CV.v ⟨c.t, m, 1, c.q⟩) (results_c (c := ⟨c.t, m, 1, c.q⟩) rfl _ rfl (blk2of3 _ _ _ _)) rfl ⟨rfl, below_three _ _ _ _⟩

set_option maxRecDepth 100000 in
set_option maxHeartbeats 2000000 in
theorem refStep_0 (c d : CV) (k : Int) (hk : k ≠ 1 ∧ k ≠ 2 ∧ k ≠ 3 ∧ k ≠ 4 ∧ k ≠ 5) (hd : settleV (c) = d) (hs : c.s ≠ 3) (hb : 0 ≤ c.t ∧ c.t ≤ 255 ∧ 0 ≤ c.r ∧ c.r ≤ 255) (w : World) :
    Calls Try.prog 16 #[c.v, .int .i64 k] w fun e w' => e = .returned d.v ∧ Below w.heap.size w w' := by
  have hs1 : (c.s == 3) = false := by simpa using hs
  obtain ⟨k1, k2, k3, k4, k5⟩ := hk
  have Hd := Lib.hid hd
  clear hd hb hs
  by_cases h1 : 255 < c.t
  · obtain rfl : d = ⟨256, 0, 3, 0⟩ := by rw [← Hd.out]; simp [settleV, sentV, heardV, wrongV, longV, h1, *]
    clear Hd
    go_enter Try.func16, Try.ntmps16
    go_wp2_with fail
    exact bodyPost_ret (v := CV.v ⟨256, 0, 3, 0⟩) (results_c (c := ⟨256, 0, 3, 0⟩) rfl _ rfl (blk2of3 _ _ _ _)) rfl ⟨rfl, below_three _ _ _ _⟩
  by_cases h2 : 127 < c.t
  · obtain rfl : d = ⟨c.t, c.r, 2, c.q⟩ := by rw [← Hd.out]; simp [settleV, sentV, heardV, wrongV, longV, h1, h2, *]
    clear Hd
    go_enter Try.func16, Try.ntmps16
    go_wp2_with fail
    exact bodyPost_ret (v := CV.v ⟨c.t, c.r, 2, c.q⟩) (results_c (c := ⟨c.t, c.r, 2, c.q⟩) rfl _ rfl (blk2of3 _ _ _ _)) rfl ⟨rfl, below_three _ _ _ _⟩
  by_cases h3 : 127 < c.r
  · obtain rfl : d = ⟨c.t, c.r, 2, c.q⟩ := by rw [← Hd.out]; simp [settleV, sentV, heardV, wrongV, longV, h1, h2, h3, *]
    clear Hd
    go_enter Try.func16, Try.ntmps16
    go_wp2_with fail
    exact bodyPost_ret (v := CV.v ⟨c.t, c.r, 2, c.q⟩) (results_c (c := ⟨c.t, c.r, 2, c.q⟩) rfl _ rfl (blk2of3 _ _ _ _)) rfl ⟨rfl, below_three _ _ _ _⟩
  obtain rfl : d = ⟨c.t, c.r, 1, c.q⟩ := by rw [← Hd.out]; simp [settleV, sentV, heardV, wrongV, longV, h1, h2, h3, *]
  clear Hd
  go_enter Try.func16, Try.ntmps16
  go_wp2_with fail
  exact bodyPost_ret (v := CV.v ⟨c.t, c.r, 1, c.q⟩) (results_c (c := ⟨c.t, c.r, 1, c.q⟩) rfl _ rfl (blk2of3 _ _ _ _)) rfl ⟨rfl, below_three _ _ _ _⟩

theorem refStep_any (c d : CV) (k : Int) (hd : stepV c k = d) (hok : OkC c) (w : World) :
    Calls Try.prog 16 #[c.v, .int .i64 k] w fun e w' => e = .returned d.v ∧ Below w.heap.size w w' := by
  have hb := ok_box hok
  by_cases hs : c.s = 3
  · exact refStep_off c d k (by rw [← hd, stepV, if_pos hs]) hs ⟨hb.2.2.2.2.1, hb.2.2.2.2.2⟩ w
  · have hn := ok_notOff hok hs
    have hn' : 0 ≤ c.t ∧ c.t ≤ 255 ∧ 0 ≤ c.r ∧ c.r ≤ 255 := by omega
    rw [stepV, if_neg hs] at hd
    by_cases h1 : k = 1
    · subst h1; exact refStep_1 c d (by rw [← hd]; simp [effV]) hs hn' w
    by_cases h2 : k = 2
    · subst h2
      by_cases hr : 127 < c.r
      · exact refStep_2a c d hr (by rw [← hd]; simp [effV]) hs hn' w
      · exact refStep_2b c d hr (by rw [← hd]; simp [effV]) hs hn' w
    by_cases h3 : k = 3
    · subst h3; exact refStep_3 c d (by rw [← hd]; simp [effV]) hs hn' w
    by_cases h4 : k = 4
    · subst h4; exact refStep_4 c d (by rw [← hd]; simp [effV]) hs hn' w
    by_cases h5 : k = 5
    · subst h5; exact refStep_5 c d (by rw [← hd]; simp [effV]) hs hn' w
    exact refStep_0 c d k ⟨h1, h2, h3, h4, h5⟩ (by rw [← hd]; simp [effV, h1, h2, h3, h4, h5]) hs hn' w

end Go.Proofs.Ytbkldbckcnnafaa
