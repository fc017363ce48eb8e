/-
  A step of a counter, many steps: the program's functions.
-/
import Derived.Test.YtbkldbckcnnafaaCnt2
namespace Go.Proofs.Ytbkldbckcnnafaa
open Go.RowKit
set_option linter.unusedVariables false
set_option linter.unusedSimpArgs false

theorem below_set4 {w0 w : World} {F : Nat} (b : Below w0.heap.size w0 w) (hF : w0.heap.size ≤ F) (a b' c d : Value) : Below w0.heap.size w0 (set4 w F a b' c d) := below_grownF b (set4_grown w F a b' c d) hF
abbrev zeroV : CV := ⟨0, 0, 0, 0⟩
set_option maxRecDepth 100000 in
set_option maxHeartbeats 2000000 in
theorem rest_any (c d : CV) (k : Int) (hd : restV c k = d) (hq : 0 ≤ c.q ∧ c.q ≤ 127) (w : World) :
    Calls Try.prog 28 #[c.v, .int .i64 k] w fun e w' => e = .returned d.v ∧ Below w.heap.size w w' := by
  by_cases hk : k = 6
  · subst hk
    by_cases h1 : c.q = 127
    · obtain rfl : d = newV := by rw [← hd]; simp [restV, h1]
      clear hd
      obtain ⟨t, r, s, q⟩ := c
      dsimp only at h1 hq
      subst h1
      go_enter Try.func28, Try.ntmps28
      go_wp2_with fail
      obtain ⟨w0, hw0⟩ : ∃ w0, (w.alloc (.cells #[.int .i64 t, .int .i64 r, .int .i64 s, .int .i64 128] 23)).alloc (.cells #[.int .i64 0, .int .i64 0, .int .i64 0, .int .i64 0] 23) = w0 := ⟨_, rfl⟩
      have hT0 : Below w.heap.size w w0 := by rw [← hw0]; exact below_two _ _ _
      have hR0 : HasC w0 (w.heap.size + 1) zeroV := by rw [← hw0]; exact blk2 _ _ _
      rw [hw0]
      clear hw0
      refine (new_any w0).mono ?_
      rintro e w1 ⟨rfl, hB1⟩
      have hT1 := below_then hT0 hB1
      have hR1 := block_below hB1 hR0
      obtain ⟨⟨c0, c1, c2, c3⟩, f0, f1, f2, f3⟩ := cells4 hR1
      go_wp2_with fail
      exact bodyPost_ret (v := newV.v) (results_c rfl _ rfl (set4_obj hR1 _ _ _ _)) rfl ⟨rfl, below_set4 hT1 (by omega) _ _ _ _⟩
    · obtain rfl : d = ⟨c.t, c.r, c.s, c.q + 1⟩ := by rw [← hd]; simp [restV, h1]
      clear hd
      have h2 : wrap64 (c.q + 1) = c.q + 1 := by unfold wrap64; omega
      have h3 : (c.q + 1 == 128) = false := by simp; omega
      have h4 : ¬ (c.q + 1 = 128) := by omega
      clear h1
      go_enter Try.func28, Try.ntmps28
      go_wp2_with fail
      exact bodyPost_ret (v := CV.v ⟨c.t, c.r, c.s, c.q + 1⟩) (results_c (c := ⟨c.t, c.r, c.s, c.q + 1⟩) rfl _ rfl (blk2 _ _ _)) rfl ⟨rfl, below_two _ _ _⟩
  · obtain rfl : d = c := by rw [← hd]; simp [restV, hk]
    clear hd
    go_enter Try.func28, Try.ntmps28
    go_wp2_with fail
    exact bodyPost_ret (v := d.v) (results_c rfl _ rfl (blk2 _ _ _)) rfl ⟨rfl, below_two _ _ _⟩

set_option maxRecDepth 100000 in
set_option maxHeartbeats 2000000 in
theorem step_off (c d : CV) (k : Int) (hd : restV c k = d) (hs : c.s = 3) (hq : 0 ≤ c.q ∧ c.q ≤ 127) (B : Nat) (w : World) :
    Calls Try.prog 22 #[.map (some B), c.v, .int .i64 k] w fun e w' => e = .returned d.v ∧ Below w.heap.size w w' := by
  obtain ⟨t, r, s, q⟩ := c
  dsimp only at hs hq
  subst hs
  have Hd := Lib.hid hd
  clear hd
  go_enter Try.func22, Try.ntmps22
  go_wp2_with fail
  obtain ⟨w0, hw0⟩ : ∃ w0, (w.alloc (.cells #[.int .i64 t, .int .i64 r, .int .i64 3, .int .i64 q] 23)).alloc (.cells #[.int .i64 0, .int .i64 0, .int .i64 0, .int .i64 0] 23) = w0 := ⟨_, rfl⟩
  have hT0 : Below w.heap.size w w0 := by rw [← hw0]; exact below_two _ _ _
  have hR0 : HasC w0 (w.heap.size + 1) zeroV := by rw [← hw0]; exact blk2 _ _ _
  rw [hw0]
  clear hw0
  refine (rest_any ⟨t, r, 3, q⟩ d k Hd.out hq w0).mono ?_
  rintro e w1 ⟨rfl, hB1⟩
  have hT1 := below_then hT0 hB1
  have hR1 := block_below hB1 hR0
  obtain ⟨⟨c0, c1, c2, c3⟩, f0, f1, f2, f3⟩ := cells4 hR1
  go_wp2_with fail
  exact bodyPost_ret (v := d.v) (results_c rfl _ rfl (set4_obj hR1 _ _ _ _)) rfl ⟨rfl, below_set4 hT1 (by omega) _ _ _ _⟩

set_option maxRecDepth 100000 in
set_option maxHeartbeats 2000000 in
theorem step_1 (c d : CV) (hd : settleV (sentV c) = d) (hs : c.s ≠ 3) (hb : 0 ≤ c.t ∧ c.t ≤ 255 ∧ 0 ≤ c.r ∧ c.r ≤ 255) (B X Y : Nat) (w : World) (hT : HasT w B X Y) :
    Calls Try.prog 22 #[.map (some B), c.v, .int .i64 1] w fun e w' => e = .returned d.v ∧ Below w.heap.size w w' := by
  have Hd := Lib.hid hd
  clear hd
  have hs1 : (c.s == 3) = false := by simpa using hs
  have hl := look1 (hT.to (below_two w (.cells #[.int .i64 c.t, .int .i64 c.r, .int .i64 c.s, .int .i64 c.q] 23) (.cells #[.int .i64 0, .int .i64 0, .int .i64 0, .int .i64 0] 23)))
  go_enter Try.func22, Try.ntmps22
  go_wp2_with fail
  obtain ⟨w0, hw0⟩ : ∃ w0, (w.alloc (.cells #[.int .i64 c.t, .int .i64 c.r, .int .i64 c.s, .int .i64 c.q] 23)).alloc (.cells #[.int .i64 0, .int .i64 0, .int .i64 0, .int .i64 0] 23) = w0 := ⟨_, rfl⟩
  have hT0 : Below w.heap.size w w0 := by rw [← hw0]; exact below_two _ _ _
  have hC0 : HasC w0 w.heap.size c := by rw [← hw0]; exact blk1 _ _ _
  have hR0 : HasC w0 (w.heap.size + 1) zeroV := by rw [← hw0]; exact blk2 _ _ _
  have hX0 := hT.to hT0
  rw [hw0]
  rw [hw0] at hl
  clear hw0
  obtain ⟨d1, hd1⟩ : ∃ d1, sentV c = d1 := ⟨_, rfl⟩
  have Hd1 := Lib.hid hd1
  clear hd1
  refine (sent_any c d1 Hd1.out (by omega) w0).mono ?_
  rintro e w1 ⟨rfl, hB1⟩
  have hT1 := below_then hT0 hB1
  have hR1 := block_below hB1 hR0
  have hC1 := block_below hB1 hC0
  obtain ⟨⟨c0, c1, c2, c3⟩, f0, f1, f2, f3⟩ := cells4 hC1
  clear hl hs1 hs
  go_wp2_with fail
  obtain ⟨w2, hw2⟩ : ∃ w2, set4 w1 w.heap.size (.int .i64 d1.t) (.int .i64 d1.r) (.int .i64 d1.s) (.int .i64 d1.q) = w2 := ⟨_, rfl⟩
  have hT2 : Below w.heap.size w w2 := by rw [← hw2]; exact below_set4 hT1 (Nat.le_refl _) _ _ _ _
  have hR2 : HasC w2 (w.heap.size + 1) zeroV := by rw [← hw2]; exact other_grownF (set4_grown _ _ _ _ _ _) hR1 (by omega)
  unfold set4 at hw2
  rw [hw2]
  clear hw2 c0 c1 c2 c3 f0 f1 f2 f3
  refine (settle_any d1 d (by rw [← Hd1.out]; exact Hd.out) w2).mono ?_
  rintro e w3 ⟨rfl, hB3⟩
  have hT3 := below_then hT2 hB3
  have hR3 := block_below hB3 hR2
  obtain ⟨⟨c0, c1, c2, c3⟩, f0, f1, f2, f3⟩ := cells4 hR3
  go_wp2_with fail
  exact bodyPost_ret (v := d.v) (results_c rfl _ rfl (set4_obj hR3 _ _ _ _)) rfl ⟨rfl, below_set4 hT3 (by omega) _ _ _ _⟩

set_option maxRecDepth 100000 in
set_option maxHeartbeats 2000000 in
theorem step_2 (c d : CV) (hd : settleV (heardV c) = d) (hs : c.s ≠ 3) (hb : 0 ≤ c.t ∧ c.t ≤ 255 ∧ 0 ≤ c.r ∧ c.r ≤ 255) (B X Y : Nat) (w : World) (hT : HasT w B X Y) :
    Calls Try.prog 22 #[.map (some B), c.v, .int .i64 2] w fun e w' => e = .returned d.v ∧ Below w.heap.size w w' := by
  have Hd := Lib.hid hd
  clear hd
  have hs1 : (c.s == 3) = false := by simpa using hs
  have hl := look2 (hT.to (below_two w (.cells #[.int .i64 c.t, .int .i64 c.r, .int .i64 c.s, .int .i64 c.q] 23) (.cells #[.int .i64 0, .int .i64 0, .int .i64 0, .int .i64 0] 23)))
  go_enter Try.func22, Try.ntmps22
  go_wp2_with fail
  obtain ⟨w0, hw0⟩ : ∃ w0, (w.alloc (.cells #[.int .i64 c.t, .int .i64 c.r, .int .i64 c.s, .int .i64 c.q] 23)).alloc (.cells #[.int .i64 0, .int .i64 0, .int .i64 0, .int .i64 0] 23) = w0 := ⟨_, rfl⟩
  have hT0 : Below w.heap.size w w0 := by rw [← hw0]; exact below_two _ _ _
  have hC0 : HasC w0 w.heap.size c := by rw [← hw0]; exact blk1 _ _ _
  have hR0 : HasC w0 (w.heap.size + 1) zeroV := by rw [← hw0]; exact blk2 _ _ _
  have hX0 := hT.to hT0
  rw [hw0]
  rw [hw0] at hl
  clear hw0
  obtain ⟨d1, hd1⟩ : ∃ d1, heardV c = d1 := ⟨_, rfl⟩
  have Hd1 := Lib.hid hd1
  clear hd1
  refine (heard_any c d1 Hd1.out (by omega) w0).mono ?_
  rintro e w1 ⟨rfl, hB1⟩
  have hT1 := below_then hT0 hB1
  have hR1 := block_below hB1 hR0
  have hC1 := block_below hB1 hC0
  obtain ⟨⟨c0, c1, c2, c3⟩, f0, f1, f2, f3⟩ := cells4 hC1
  clear hl hs1 hs
  go_wp2_with fail
  obtain ⟨w2, hw2⟩ : ∃ w2, set4 w1 w.heap.size (.int .i64 d1.t) (.int .i64 d1.r) (.int .i64 d1.s) (.int .i64 d1.q) = w2 := ⟨_, rfl⟩
  have hT2 : Below w.heap.size w w2 := by rw [← hw2]; exact below_set4 hT1 (Nat.le_refl _) _ _ _ _
  have hR2 : HasC w2 (w.heap.size + 1) zeroV := by rw [← hw2]; exact other_grownF (set4_grown _ _ _ _ _ _) hR1 (by omega)
  unfold set4 at hw2
  rw [hw2]
  clear hw2 c0 c1 c2 c3 f0 f1 f2 f3
  refine (settle_any d1 d (by rw [← Hd1.out]; exact Hd.out) w2).mono ?_
  rintro e w3 ⟨rfl, hB3⟩
  have hT3 := below_then hT2 hB3
  have hR3 := block_below hB3 hR2
  obtain ⟨⟨c0, c1, c2, c3⟩, f0, f1, f2, f3⟩ := cells4 hR3
  go_wp2_with fail
  exact bodyPost_ret (v := d.v) (results_c rfl _ rfl (set4_obj hR3 _ _ _ _)) rfl ⟨rfl, below_set4 hT3 (by omega) _ _ _ _⟩

set_option maxRecDepth 100000 in
set_option maxHeartbeats 2000000 in
theorem step_3 (c d : CV) (hd : settleV (wrongV c) = d) (hs : c.s ≠ 3) (hb : 0 ≤ c.t ∧ c.t ≤ 255 ∧ 0 ≤ c.r ∧ c.r ≤ 255) (B X Y : Nat) (w : World) (hT : HasT w B X Y) :
    Calls Try.prog 22 #[.map (some B), c.v, .int .i64 3] w fun e w' => e = .returned d.v ∧ Below w.heap.size w w' := by
  have Hd := Lib.hid hd
  clear hd
  have hs1 : (c.s == 3) = false := by simpa using hs
  have hl := look3 (hT.to (below_two w (.cells #[.int .i64 c.t, .int .i64 c.r, .int .i64 c.s, .int .i64 c.q] 23) (.cells #[.int .i64 0, .int .i64 0, .int .i64 0, .int .i64 0] 23)))
  go_enter Try.func22, Try.ntmps22
  go_wp2_with fail
  obtain ⟨w0, hw0⟩ : ∃ w0, (w.alloc (.cells #[.int .i64 c.t, .int .i64 c.r, .int .i64 c.s, .int .i64 c.q] 23)).alloc (.cells #[.int .i64 0, .int .i64 0, .int .i64 0, .int .i64 0] 23) = w0 := ⟨_, rfl⟩
  have hT0 : Below w.heap.size w w0 := by rw [← hw0]; exact below_two _ _ _
  have hC0 : HasC w0 w.heap.size c := by rw [← hw0]; exact blk1 _ _ _
  have hR0 : HasC w0 (w.heap.size + 1) zeroV := by rw [← hw0]; exact blk2 _ _ _
  have hX0 := hT.to hT0
  rw [hw0]
  rw [hw0] at hl
  clear hw0
  obtain ⟨d1, hd1⟩ : ∃ d1, wrongV c = d1 := ⟨_, rfl⟩
  have Hd1 := Lib.hid hd1
  clear hd1
  refine (wrong_any c d1 Hd1.out (by omega) w0).mono ?_
  rintro e w1 ⟨rfl, hB1⟩
  have hT1 := below_then hT0 hB1
  have hR1 := block_below hB1 hR0
  have hC1 := block_below hB1 hC0
  obtain ⟨⟨c0, c1, c2, c3⟩, f0, f1, f2, f3⟩ := cells4 hC1
  clear hl hs1 hs
  go_wp2_with fail
  obtain ⟨w2, hw2⟩ : ∃ w2, set4 w1 w.heap.size (.int .i64 d1.t) (.int .i64 d1.r) (.int .i64 d1.s) (.int .i64 d1.q) = w2 := ⟨_, rfl⟩
  have hT2 : Below w.heap.size w w2 := by rw [← hw2]; exact below_set4 hT1 (Nat.le_refl _) _ _ _ _
  have hR2 : HasC w2 (w.heap.size + 1) zeroV := by rw [← hw2]; exact other_grownF (set4_grown _ _ _ _ _ _) hR1 (by omega)
  unfold set4 at hw2
  rw [hw2]
  clear hw2 c0 c1 c2 c3 f0 f1 f2 f3
  refine (settle_any d1 d (by rw [← Hd1.out]; exact Hd.out) w2).mono ?_
  rintro e w3 ⟨rfl, hB3⟩
  have hT3 := below_then hT2 hB3
  have hR3 := block_below hB3 hR2
  obtain ⟨⟨c0, c1, c2, c3⟩, f0, f1, f2, f3⟩ := cells4 hR3
  go_wp2_with fail
  exact bodyPost_ret (v := d.v) (results_c rfl _ rfl (set4_obj hR3 _ _ _ _)) rfl ⟨rfl, below_set4 hT3 (by omega) _ _ _ _⟩

set_option maxRecDepth 100000 in
set_option maxHeartbeats 2000000 in
theorem step_4 (c d : CV) (hd : settleV (longV 1 c) = d) (hs : c.s ≠ 3) (hb : 0 ≤ c.t ∧ c.t ≤ 255 ∧ 0 ≤ c.r ∧ c.r ≤ 255) (B X Y : Nat) (w : World) (hT : HasT w B X Y) :
    Calls Try.prog 22 #[.map (some B), c.v, .int .i64 4] w fun e w' => e = .returned d.v ∧ Below w.heap.size w w' := by
  have Hd := Lib.hid hd
  clear hd
  have hs1 : (c.s == 3) = false := by simpa using hs
  have hl := look4 (hT.to (below_two w (.cells #[.int .i64 c.t, .int .i64 c.r, .int .i64 c.s, .int .i64 c.q] 23) (.cells #[.int .i64 0, .int .i64 0, .int .i64 0, .int .i64 0] 23)))
  go_enter Try.func22, Try.ntmps22
  go_wp2_with fail
  obtain ⟨w0, hw0⟩ : ∃ w0, (w.alloc (.cells #[.int .i64 c.t, .int .i64 c.r, .int .i64 c.s, .int .i64 c.q] 23)).alloc (.cells #[.int .i64 0, .int .i64 0, .int .i64 0, .int .i64 0] 23) = w0 := ⟨_, rfl⟩
  have hT0 : Below w.heap.size w w0 := by rw [← hw0]; exact below_two _ _ _
  have hC0 : HasC w0 w.heap.size c := by rw [← hw0]; exact blk1 _ _ _
  have hR0 : HasC w0 (w.heap.size + 1) zeroV := by rw [← hw0]; exact blk2 _ _ _
  have hX0 := hT.to hT0
  rw [hw0]
  rw [hw0] at hl
  clear hw0
  obtain ⟨d1, hd1⟩ : ∃ d1, longV 1 c = d1 := ⟨_, rfl⟩
  have Hd1 := Lib.hid hd1
  clear hd1
  refine (long_any 1 (by omega) c d1 Hd1.out (by omega) X w0 (by simp [World.cell?, hX0.one])).mono ?_
  rintro e w1 ⟨rfl, hB1⟩
  have hT1 := below_then hT0 hB1
  have hR1 := block_below hB1 hR0
  have hC1 := block_below hB1 hC0
  obtain ⟨⟨c0, c1, c2, c3⟩, f0, f1, f2, f3⟩ := cells4 hC1
  clear hl hs1 hs
  go_wp2_with fail
  obtain ⟨w2, hw2⟩ : ∃ w2, set4 w1 w.heap.size (.int .i64 d1.t) (.int .i64 d1.r) (.int .i64 d1.s) (.int .i64 d1.q) = w2 := ⟨_, rfl⟩
  have hT2 : Below w.heap.size w w2 := by rw [← hw2]; exact below_set4 hT1 (Nat.le_refl _) _ _ _ _
  have hR2 : HasC w2 (w.heap.size + 1) zeroV := by rw [← hw2]; exact other_grownF (set4_grown _ _ _ _ _ _) hR1 (by omega)
  unfold set4 at hw2
  rw [hw2]
  clear hw2 c0 c1 c2 c3 f0 f1 f2 f3
  refine (settle_any d1 d (by rw [← Hd1.out]; exact Hd.out) w2).mono ?_
  rintro e w3 ⟨rfl, hB3⟩
  have hT3 := below_then hT2 hB3
  have hR3 := block_below hB3 hR2
  obtain ⟨⟨c0, c1, c2, c3⟩, f0, f1, f2, f3⟩ := cells4 hR3
  go_wp2_with fail
  exact bodyPost_ret (v := d.v) (results_c rfl _ rfl (set4_obj hR3 _ _ _ _)) rfl ⟨rfl, below_set4 hT3 (by omega) _ _ _ _⟩

set_option maxRecDepth 100000 in
set_option maxHeartbeats 2000000 in
theorem step_5 (c d : CV) (hd : settleV (longV 8 c) = d) (hs : c.s ≠ 3) (hb : 0 ≤ c.t ∧ c.t ≤ 255 ∧ 0 ≤ c.r ∧ c.r ≤ 255) (B X Y : Nat) (w : World) (hT : HasT w B X Y) :
    Calls Try.prog 22 #[.map (some B), c.v, .int .i64 5] w fun e w' => e = .returned d.v ∧ Below w.heap.size w w' := by
  have Hd := Lib.hid hd
  clear hd
  have hs1 : (c.s == 3) = false := by simpa using hs
  have hl := look5 (hT.to (below_two w (.cells #[.int .i64 c.t, .int .i64 c.r, .int .i64 c.s, .int .i64 c.q] 23) (.cells #[.int .i64 0, .int .i64 0, .int .i64 0, .int .i64 0] 23)))
  go_enter Try.func22, Try.ntmps22
  go_wp2_with fail
  obtain ⟨w0, hw0⟩ : ∃ w0, (w.alloc (.cells #[.int .i64 c.t, .int .i64 c.r, .int .i64 c.s, .int .i64 c.q] 23)).alloc (.cells #[.int .i64 0, .int .i64 0, .int .i64 0, .int .i64 0] 23) = w0 := ⟨_, rfl⟩
  have hT0 : Below w.heap.size w w0 := by rw [← hw0]; exact below_two _ _ _
  have hC0 : HasC w0 w.heap.size c := by rw [← hw0]; exact blk1 _ _ _
  have hR0 : HasC w0 (w.heap.size + 1) zeroV := by rw [← hw0]; exact blk2 _ _ _
  have hX0 := hT.to hT0
  rw [hw0]
  rw [hw0] at hl
  clear hw0
  obtain ⟨d1, hd1⟩ : ∃ d1, longV 8 c = d1 := ⟨_, rfl⟩
  have Hd1 := Lib.hid hd1
  clear hd1
  refine (long_any 8 (by omega) c d1 Hd1.out (by omega) Y w0 (by simp [World.cell?, hX0.two])).mono ?_
  rintro e w1 ⟨rfl, hB1⟩
  have hT1 := below_then hT0 hB1
  have hR1 := block_below hB1 hR0
  have hC1 := block_below hB1 hC0
  obtain ⟨⟨c0, c1, c2, c3⟩, f0, f1, f2, f3⟩ := cells4 hC1
  clear hl hs1 hs
  go_wp2_with fail
  obtain ⟨w2, hw2⟩ : ∃ w2, set4 w1 w.heap.size (.int .i64 d1.t) (.int .i64 d1.r) (.int .i64 d1.s) (.int .i64 d1.q) = w2 := ⟨_, rfl⟩
  have hT2 : Below w.heap.size w w2 := by rw [← hw2]; exact below_set4 hT1 (Nat.le_refl _) _ _ _ _
  have hR2 : HasC w2 (w.heap.size + 1) zeroV := by rw [← hw2]; exact other_grownF (set4_grown _ _ _ _ _ _) hR1 (by omega)
  unfold set4 at hw2
  rw [hw2]
  clear hw2 c0 c1 c2 c3 f0 f1 f2 f3
  refine (settle_any d1 d (by rw [← Hd1.out]; exact Hd.out) w2).mono ?_
  rintro e w3 ⟨rfl, hB3⟩
  have hT3 := below_then hT2 hB3
  have hR3 := block_below hB3 hR2
  obtain ⟨⟨c0, c1, c2, c3⟩, f0, f1, f2, f3⟩ := cells4 hR3
  go_wp2_with fail
  exact bodyPost_ret (v := d.v) (results_c rfl _ rfl (set4_obj hR3 _ _ _ _)) rfl ⟨rfl, below_set4 hT3 (by omega) _ _ _ _⟩

set_option maxRecDepth 100000 in
set_option maxHeartbeats 2000000 in
theorem step_0 (c d : CV) (k : Int) (hk : k ≠ 1 ∧ k ≠ 2 ∧ k ≠ 3 ∧ k ≠ 4 ∧ k ≠ 5) (hd : settleV c = d) (hs : c.s ≠ 3) (B X Y : Nat) (w : World) (hT : HasT w B X Y) :
    Calls Try.prog 22 #[.map (some B), c.v, .int .i64 k] w fun e w' => e = .returned d.v ∧ Below w.heap.size w w' := by
  have Hd := Lib.hid hd
  clear hd
  have hs1 : (c.s == 3) = false := by simpa using hs
  have hl := look0 (hT.to (below_two w (.cells #[.int .i64 c.t, .int .i64 c.r, .int .i64 c.s, .int .i64 c.q] 23) (.cells #[.int .i64 0, .int .i64 0, .int .i64 0, .int .i64 0] 23))) hk
  clear hk
  go_enter Try.func22, Try.ntmps22
  go_wp2_with fail
  obtain ⟨w0, hw0⟩ : ∃ w0, (w.alloc (.cells #[.int .i64 c.t, .int .i64 c.r, .int .i64 c.s, .int .i64 c.q] 23)).alloc (.cells #[.int .i64 0, .int .i64 0, .int .i64 0, .int .i64 0] 23) = w0 := ⟨_, rfl⟩
  have hT0 : Below w.heap.size w w0 := by rw [← hw0]; exact below_two _ _ _
  have hR0 : HasC w0 (w.heap.size + 1) zeroV := by rw [← hw0]; exact blk2 _ _ _
  rw [hw0]
  clear hl hw0
  refine (settle_any c d Hd.out w0).mono ?_
  rintro e w3 ⟨rfl, hB3⟩
  have hT3 := below_then hT0 hB3
  have hR3 := block_below hB3 hR0
  obtain ⟨⟨c0, c1, c2, c3⟩, f0, f1, f2, f3⟩ := cells4 hR3
  go_wp2_with fail
  exact bodyPost_ret (v := d.v) (results_c rfl _ rfl (set4_obj hR3 _ _ _ _)) rfl ⟨rfl, below_set4 hT3 (by omega) _ _ _ _⟩

theorem step_any (c d : CV) (k : Int) (hd : stepV c k = d) (hok : OkC c) (B X Y : Nat) (w : World) (hT : HasT w B X Y) :
    Calls Try.prog 22 #[.map (some B), c.v, .int .i64 k] w fun e w' => e = .returned d.v ∧ Below w.heap.size w w' := by
  have hb := ok_box hok
  by_cases hs : c.s = 3
  · exact step_off c d k (by rw [← hd, stepV, if_pos hs]) hs ⟨hb.2.2.2.2.1, hb.2.2.2.2.2⟩ B w
  · have hn := ok_notOff hok hs
    have hn' : 0 ≤ c.t ∧ c.t ≤ 255 ∧ 0 ≤ c.r ∧ c.r ≤ 255 := by omega
    rw [stepV, if_neg hs] at hd
    by_cases h1 : k = 1
    · subst h1; exact step_1 c d (by rw [← hd]; simp [effV]) hs hn' B X Y w hT
    by_cases h2 : k = 2
    · subst h2; exact step_2 c d (by rw [← hd]; simp [effV]) hs hn' B X Y w hT
    by_cases h3 : k = 3
    · subst h3; exact step_3 c d (by rw [← hd]; simp [effV]) hs hn' B X Y w hT
    by_cases h4 : k = 4
    · subst h4; exact step_4 c d (by rw [← hd]; simp [effV]) hs hn' B X Y w hT
    by_cases h5 : k = 5
    · subst h5; exact step_5 c d (by rw [← hd]; simp [effV]) hs hn' B X Y w hT
    exact step_0 c d k ⟨h1, h2, h3, h4, h5⟩ (by rw [← hd]; simp [effV, h1, h2, h3, h4, h5]) hs B X Y w hT

end Go.Proofs.Ytbkldbckcnnafaa
