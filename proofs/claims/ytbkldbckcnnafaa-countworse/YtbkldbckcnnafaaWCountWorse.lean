/-
  CountWorse.
-/
import Derived.Test.YtbkldbckcnnafaaCntMath
import Derived.Test.YtbkldbckcnnafaaHead8
namespace Go.Proofs.Ytbkldbckcnnafaa
open Go.RowKit
set_option linter.unusedVariables false
set_option linter.unusedSimpArgs false

/-- One step of each kind, of a counter that is right and not Off. -/
theorem worse_1 {c : CV} (h : OkC c) (hs : c.s ≠ 3) : ∃ m x, stepV c 1 = ⟨m, c.r, x, 0⟩ ∧ x ≤ c.s ∧ m ≤ c.t ∧ c.t - 1 ≤ m := by
  obtain ⟨hmk, hb⟩ := ok_mk h hs
  refine ⟨max (c.t - 1) 0, (mkC (max (c.t - 1) 0) c.r).s, ?_, ?_, by omega, by omega⟩
  · rw [hmk, step_mk1 hb.2.1]; rfl
  · rw [show c.s = (mkC c.t c.r).s by rw [← hmk]]
    unfold mkC; dsimp only
    split <;> split <;> omega
theorem worse_2 {c : CV} (h : OkC c) (hs : c.s ≠ 3) : ∃ m x, stepV c 2 = ⟨c.t, m, x, 0⟩ ∧ x ≤ c.s ∧ m ≤ c.r := by
  obtain ⟨hmk, hb⟩ := ok_mk h hs
  refine ⟨if 127 < c.r then 127 else max (c.r - 1) 0, (mkC c.t (if 127 < c.r then 127 else max (c.r - 1) 0)).s, ?_, ?_, by split <;> omega⟩
  · rw [hmk, step_mk2 hb.2.1]; rfl
  · rw [show c.s = (mkC c.t c.r).s by rw [← hmk]]
    unfold mkC; dsimp only
    split <;> split <;> split at * <;> omega
theorem worse_3a {c : CV} (h : OkC c) (hs : c.s ≠ 3) (ht : 247 < c.t) : stepV c 3 = ⟨256, 0, 3, 0⟩ ∧ c.s ≤ 3 := by
  obtain ⟨hmk, hb⟩ := ok_mk h hs
  refine ⟨?_, ?_⟩
  · rw [hmk, step_mk3o ht]; rfl
  · rcases mk_s c.t c.r with h1 | h1 <;> rw [← hmk] at h1 <;> omega
theorem worse_3b {c : CV} (h : OkC c) (hs : c.s ≠ 3) (ht : ¬ 247 < c.t) : ∃ x, stepV c 3 = ⟨c.t + 8, c.r, x, 0⟩ ∧ c.s ≤ x ∧ x ≠ 3 := by
  obtain ⟨hmk, hb⟩ := ok_mk h hs
  refine ⟨(mkC (c.t + 8) c.r).s, ?_, ?_, mk_s3 _ _⟩
  · rw [hmk, step_mk3 (by show c.t ≤ 247; omega)]; rfl
  · rw [show c.s = (mkC c.t c.r).s by rw [← hmk]]
    unfold mkC; dsimp only
    split <;> split <;> omega
theorem worse_4a {c : CV} (h : OkC c) (hs : c.s ≠ 3) (hr : c.r ≠ 255) : ∃ x, stepV c 4 = ⟨c.t, c.r + 1, x, 0⟩ ∧ c.s ≤ x := by
  obtain ⟨hmk, hb⟩ := ok_mk h hs
  refine ⟨(mkC c.t (min (c.r + 1) 255)).s, ?_, ?_⟩
  · rw [hmk, step_mk4 hb.2.1, cv_ext]
    refine ⟨rfl, ?_, rfl, rfl⟩
    show min (c.r + 1) 255 = c.r + 1
    omega
  · rw [show c.s = (mkC c.t c.r).s by rw [← hmk]]
    unfold mkC; dsimp only
    split <;> split <;> omega
theorem worse_4b {c : CV} (h : OkC c) (hs : c.s ≠ 3) (hr : c.r = 255) : ∃ x, stepV c 4 = ⟨c.t, 255, x, 0⟩ ∧ c.s ≤ x := by
  obtain ⟨hmk, hb⟩ := ok_mk h hs
  refine ⟨(mkC c.t (min (c.r + 1) 255)).s, ?_, ?_⟩
  · rw [hmk, step_mk4 hb.2.1, cv_ext]
    refine ⟨rfl, ?_, rfl, rfl⟩
    show min (c.r + 1) 255 = 255
    omega
  · rw [show c.s = (mkC c.t c.r).s by rw [← hmk]]
    unfold mkC; dsimp only
    split <;> split <;> omega
theorem worse_off {c : CV} (h : OkC c) (hs : c.s = 3) (k : Int) (hk : k ≠ 6) : stepV c k = c := by
  rw [(ok_off_eq h hs).1, step_off_other hk]
theorem sameC_self (d : CV) : sameC ⟨d.t, d.r, d.s, d.q⟩ ⟨d.t, d.r, d.s, d.q⟩ = true := by simp [sameC]


set_option maxRecDepth 100000 in
set_option maxHeartbeats 1000000 in
theorem countWorse_1 (c : CV) (w : World) :
    Calls Try.prog 7 #[c.v, .bool true, .bool true] w fun e w' => e = .returned (.bool true) ∧ Below w.heap.size w w' := by
  have q1 := eqIn_c
  have q2 := eq_c
  have s2 := sameC_self c
  go_enter Try.func7, Try.ntmps7
  go_wp2_with fail
  obtain ⟨w0, hw0⟩ : ∃ w0, w.alloc (.cells #[.int .i64 c.t, .int .i64 c.r, .int .i64 c.s, .int .i64 c.q] 23) = w0 := ⟨_, rfl⟩
  have hT0 : Below w.heap.size w w0 := by rw [← hw0]; exact below_alloc1 _ _
  have hc0 : HasC w0 w.heap.size c := by rw [← hw0]; exact World.alloc_heap_new _ _
  rw [hw0]
  clear hw0
  refine (head_any w0).mono ?_
  rintro e w1 ⟨rfl, hB1⟩
  have hT1 := below_then hT0 hB1
  have hc1 := block_below hB1 hc0
  clear hT0 hc0  hB1
  obtain ⟨cc0, cc1, cc2, cc3⟩ := HasC.cc (c := c) hc1
  go_wp2_with fail
  clear cc0 cc1 cc2 cc3
  obtain ⟨q, hq⟩ : ∃ q, rightV c = q := ⟨_, rfl⟩
  have Hq := Lib.hid hq
  clear hq
  cases q
  · skip
    refine (right_q c false Hq.out w1).mono ?_
    rintro e w2 ⟨rfl, hB2⟩
    have hT2 := below_then hT1 hB2
    have hc2 := block_below hB2 hc1
    clear hT1 hc1  hB2
    obtain ⟨cc0, cc1, cc2, cc3⟩ := HasC.cc (c := c) hc2
    go_wp2_with fail
    go_ret
    exact ⟨rfl, hT2⟩
  refine (right_q c true Hq.out w1).mono ?_
  rintro e w2 ⟨rfl, hB2⟩
  have hT2 := below_then hT1 hB2
  have hc2 := block_below hB2 hc1
  clear hT1 hc1  hB2
  have Hok := Lib.hid (show OkC c from of_decide_eq_true (show decide (OkC c) = true from Hq.out))
  by_cases hs : c.s = 3
  · skip
    have He := Lib.hid (worse_off Hok.out hs 1 (by decide))
    have hs2 : (c.s == 3) = true := by simpa using hs
    have Hs := Lib.hid hs
    clear hs
    obtain ⟨cc0, cc1, cc2, cc3⟩ := HasC.cc (c := c) hc2
    go_wp2_with fail
    clear cc0 cc1 cc2 cc3
    refine (step1_any c c 1 He.out Hok.out w2).mono ?_
    rintro e w3 ⟨rfl, hB3⟩
    have hT3 := below_then hT2 hB3
    have hc3 := block_below hB3 hc2
    clear hT2 hc2  hB3
    obtain ⟨cc0, cc1, cc2, cc3⟩ := HasC.cc (c := c) hc3
    have hlc := (Array.getElem?_eq_some_iff.1 hc3).1
    go_wp2_with fail
    go_ret
    exact ⟨rfl, below_then hT3 (below_alloc1 _ _)⟩
  have hs2 : (c.s == 3) = false := by simpa using hs
  obtain ⟨m, x, he, h1, h2, h3⟩ := worse_1 Hok.out hs
  have He := Lib.hid he
  have hbx := (ok_mk Hok.out hs).2
  have h4 : wrap64 (c.t - 1) = c.t - 1 := by unfold wrap64; omega
  clear he hs hbx
  obtain ⟨cc0, cc1, cc2, cc3⟩ := HasC.cc (c := c) hc2
  go_wp2_with fail
  clear cc0 cc1 cc2 cc3
  refine (step1_any c ⟨m, c.r, x, 0⟩ 1 He.out Hok.out w2).mono ?_
  rintro e w3 ⟨rfl, hB3⟩
  have hT3 := below_then hT2 hB3
  have hc3 := block_below hB3 hc2
  clear hT2 hc2  hB3
  obtain ⟨cc0, cc1, cc2, cc3⟩ := HasC.cc (c := c) hc3
  have hlc := (Array.getElem?_eq_some_iff.1 hc3).1
  go_wp2_with fail
  go_ret
  exact ⟨rfl, below_then hT3 (below_alloc1 _ _)⟩

set_option maxRecDepth 100000 in
set_option maxHeartbeats 1000000 in
theorem countWorse_2 (c : CV) (w : World) :
    Calls Try.prog 7 #[c.v, .bool true, .bool false] w fun e w' => e = .returned (.bool true) ∧ Below w.heap.size w w' := by
  have q1 := eqIn_c
  have q2 := eq_c
  have s2 := sameC_self c
  go_enter Try.func7, Try.ntmps7
  go_wp2_with fail
  obtain ⟨w0, hw0⟩ : ∃ w0, w.alloc (.cells #[.int .i64 c.t, .int .i64 c.r, .int .i64 c.s, .int .i64 c.q] 23) = w0 := ⟨_, rfl⟩
  have hT0 : Below w.heap.size w w0 := by rw [← hw0]; exact below_alloc1 _ _
  have hc0 : HasC w0 w.heap.size c := by rw [← hw0]; exact World.alloc_heap_new _ _
  rw [hw0]
  clear hw0
  refine (head_any w0).mono ?_
  rintro e w1 ⟨rfl, hB1⟩
  have hT1 := below_then hT0 hB1
  have hc1 := block_below hB1 hc0
  clear hT0 hc0  hB1
  obtain ⟨cc0, cc1, cc2, cc3⟩ := HasC.cc (c := c) hc1
  go_wp2_with fail
  clear cc0 cc1 cc2 cc3
  obtain ⟨q, hq⟩ : ∃ q, rightV c = q := ⟨_, rfl⟩
  have Hq := Lib.hid hq
  clear hq
  cases q
  · skip
    refine (right_q c false Hq.out w1).mono ?_
    rintro e w2 ⟨rfl, hB2⟩
    have hT2 := below_then hT1 hB2
    have hc2 := block_below hB2 hc1
    clear hT1 hc1  hB2
    obtain ⟨cc0, cc1, cc2, cc3⟩ := HasC.cc (c := c) hc2
    go_wp2_with fail
    go_ret
    exact ⟨rfl, hT2⟩
  refine (right_q c true Hq.out w1).mono ?_
  rintro e w2 ⟨rfl, hB2⟩
  have hT2 := below_then hT1 hB2
  have hc2 := block_below hB2 hc1
  clear hT1 hc1  hB2
  have Hok := Lib.hid (show OkC c from of_decide_eq_true (show decide (OkC c) = true from Hq.out))
  by_cases hs : c.s = 3
  · skip
    have He := Lib.hid (worse_off Hok.out hs 2 (by decide))
    have hs2 : (c.s == 3) = true := by simpa using hs
    have Hs := Lib.hid hs
    clear hs
    obtain ⟨cc0, cc1, cc2, cc3⟩ := HasC.cc (c := c) hc2
    go_wp2_with fail
    clear cc0 cc1 cc2 cc3
    refine (step1_any c c 2 He.out Hok.out w2).mono ?_
    rintro e w3 ⟨rfl, hB3⟩
    have hT3 := below_then hT2 hB3
    have hc3 := block_below hB3 hc2
    clear hT2 hc2  hB3
    obtain ⟨cc0, cc1, cc2, cc3⟩ := HasC.cc (c := c) hc3
    have hlc := (Array.getElem?_eq_some_iff.1 hc3).1
    go_wp2_with fail
    go_ret
    exact ⟨rfl, below_then hT3 (below_alloc1 _ _)⟩
  have hs2 : (c.s == 3) = false := by simpa using hs
  obtain ⟨m, x, he, h1, h2⟩ := worse_2 Hok.out hs
  have He := Lib.hid he
  clear he hs
  obtain ⟨cc0, cc1, cc2, cc3⟩ := HasC.cc (c := c) hc2
  go_wp2_with fail
  clear cc0 cc1 cc2 cc3
  refine (step1_any c ⟨c.t, m, x, 0⟩ 2 He.out Hok.out w2).mono ?_
  rintro e w3 ⟨rfl, hB3⟩
  have hT3 := below_then hT2 hB3
  have hc3 := block_below hB3 hc2
  clear hT2 hc2  hB3
  obtain ⟨cc0, cc1, cc2, cc3⟩ := HasC.cc (c := c) hc3
  have hlc := (Array.getElem?_eq_some_iff.1 hc3).1
  go_wp2_with fail
  go_ret
  exact ⟨rfl, below_then hT3 (below_alloc1 _ _)⟩

set_option maxRecDepth 100000 in
set_option maxHeartbeats 1000000 in
theorem countWorse_3 (c : CV) (w : World) :
    Calls Try.prog 7 #[c.v, .bool false, .bool true] w fun e w' => e = .returned (.bool true) ∧ Below w.heap.size w w' := by
  have q1 := eqIn_c
  have q2 := eq_c
  have s2 := sameC_self c
  go_enter Try.func7, Try.ntmps7
  go_wp2_with fail
  obtain ⟨w0, hw0⟩ : ∃ w0, w.alloc (.cells #[.int .i64 c.t, .int .i64 c.r, .int .i64 c.s, .int .i64 c.q] 23) = w0 := ⟨_, rfl⟩
  have hT0 : Below w.heap.size w w0 := by rw [← hw0]; exact below_alloc1 _ _
  have hc0 : HasC w0 w.heap.size c := by rw [← hw0]; exact World.alloc_heap_new _ _
  rw [hw0]
  clear hw0
  refine (head_any w0).mono ?_
  rintro e w1 ⟨rfl, hB1⟩
  have hT1 := below_then hT0 hB1
  have hc1 := block_below hB1 hc0
  clear hT0 hc0  hB1
  obtain ⟨cc0, cc1, cc2, cc3⟩ := HasC.cc (c := c) hc1
  go_wp2_with fail
  clear cc0 cc1 cc2 cc3
  obtain ⟨q, hq⟩ : ∃ q, rightV c = q := ⟨_, rfl⟩
  have Hq := Lib.hid hq
  clear hq
  cases q
  · skip
    refine (right_q c false Hq.out w1).mono ?_
    rintro e w2 ⟨rfl, hB2⟩
    have hT2 := below_then hT1 hB2
    have hc2 := block_below hB2 hc1
    clear hT1 hc1  hB2
    obtain ⟨cc0, cc1, cc2, cc3⟩ := HasC.cc (c := c) hc2
    go_wp2_with fail
    go_ret
    exact ⟨rfl, hT2⟩
  refine (right_q c true Hq.out w1).mono ?_
  rintro e w2 ⟨rfl, hB2⟩
  have hT2 := below_then hT1 hB2
  have hc2 := block_below hB2 hc1
  clear hT1 hc1  hB2
  have Hok := Lib.hid (show OkC c from of_decide_eq_true (show decide (OkC c) = true from Hq.out))
  by_cases hs : c.s = 3
  · skip
    have He := Lib.hid (worse_off Hok.out hs 3 (by decide))
    have hs2 : (c.s == 3) = true := by simpa using hs
    have Hs := Lib.hid hs
    clear hs
    obtain ⟨cc0, cc1, cc2, cc3⟩ := HasC.cc (c := c) hc2
    go_wp2_with fail
    clear cc0 cc1 cc2 cc3
    refine (step1_any c c 3 He.out Hok.out w2).mono ?_
    rintro e w3 ⟨rfl, hB3⟩
    have hT3 := below_then hT2 hB3
    have hc3 := block_below hB3 hc2
    clear hT2 hc2  hB3
    obtain ⟨cc0, cc1, cc2, cc3⟩ := HasC.cc (c := c) hc3
    have hlc := (Array.getElem?_eq_some_iff.1 hc3).1
    go_wp2_with fail
    go_ret
    exact ⟨rfl, below_then hT3 (below_alloc1 _ _)⟩
  have hs2 : (c.s == 3) = false := by simpa using hs
  by_cases ht : 247 < c.t
  · skip
    obtain ⟨he, h1⟩ := worse_3a Hok.out hs ht
    have He := Lib.hid he
    clear he hs
    obtain ⟨cc0, cc1, cc2, cc3⟩ := HasC.cc (c := c) hc2
    go_wp2_with fail
    clear cc0 cc1 cc2 cc3
    refine (step1_any c ⟨256, 0, 3, 0⟩ 3 He.out Hok.out w2).mono ?_
    rintro e w3 ⟨rfl, hB3⟩
    have hT3 := below_then hT2 hB3
    have hc3 := block_below hB3 hc2
    clear hT2 hc2  hB3
    obtain ⟨cc0, cc1, cc2, cc3⟩ := HasC.cc (c := c) hc3
    have hlc := (Array.getElem?_eq_some_iff.1 hc3).1
    go_upto_if 33 with fail
    iterate 4 (first | go_values | go_skip | go_guarded | go_step | go_upon | go_back)
    simp only [List.append]
    go_wp2_with fail
    go_ret
    exact ⟨rfl, below_then hT3 (below_alloc1 _ _)⟩
  obtain ⟨x, he, h1, h2⟩ := worse_3b Hok.out hs ht
  have He := Lib.hid he
  have hbx := (ok_mk Hok.out hs).2
  have h3 : (x == 3) = false := by simpa using h2
  have h4 : wrap64 (c.t + 8) = c.t + 8 := by unfold wrap64; omega
  clear he hs hbx
  obtain ⟨cc0, cc1, cc2, cc3⟩ := HasC.cc (c := c) hc2
  go_wp2_with fail
  clear cc0 cc1 cc2 cc3
  refine (step1_any c ⟨(c.t + 8), c.r, x, 0⟩ 3 He.out Hok.out w2).mono ?_
  rintro e w3 ⟨rfl, hB3⟩
  have hT3 := below_then hT2 hB3
  have hc3 := block_below hB3 hc2
  clear hT2 hc2  hB3
  obtain ⟨cc0, cc1, cc2, cc3⟩ := HasC.cc (c := c) hc3
  have hlc := (Array.getElem?_eq_some_iff.1 hc3).1
  go_upto_if 33 with fail
  iterate 4 (first | go_values | go_skip | go_guarded | go_step | go_upon | go_back)
  simp only [List.append]
  go_wp2_with fail
  go_ret
  exact ⟨rfl, below_then hT3 (below_alloc1 _ _)⟩

set_option maxRecDepth 100000 in
set_option maxHeartbeats 1000000 in
theorem countWorse_4 (c : CV) (w : World) :
    Calls Try.prog 7 #[c.v, .bool false, .bool false] w fun e w' => e = .returned (.bool true) ∧ Below w.heap.size w w' := by
  have q1 := eqIn_c
  have q2 := eq_c
  have s2 := sameC_self c
  go_enter Try.func7, Try.ntmps7
  go_wp2_with fail
  obtain ⟨w0, hw0⟩ : ∃ w0, w.alloc (.cells #[.int .i64 c.t, .int .i64 c.r, .int .i64 c.s, .int .i64 c.q] 23) = w0 := ⟨_, rfl⟩
  have hT0 : Below w.heap.size w w0 := by rw [← hw0]; exact below_alloc1 _ _
  have hc0 : HasC w0 w.heap.size c := by rw [← hw0]; exact World.alloc_heap_new _ _
  rw [hw0]
  clear hw0
  refine (head_any w0).mono ?_
  rintro e w1 ⟨rfl, hB1⟩
  have hT1 := below_then hT0 hB1
  have hc1 := block_below hB1 hc0
  clear hT0 hc0  hB1
  obtain ⟨cc0, cc1, cc2, cc3⟩ := HasC.cc (c := c) hc1
  go_wp2_with fail
  clear cc0 cc1 cc2 cc3
  obtain ⟨q, hq⟩ : ∃ q, rightV c = q := ⟨_, rfl⟩
  have Hq := Lib.hid hq
  clear hq
  cases q
  · skip
    refine (right_q c false Hq.out w1).mono ?_
    rintro e w2 ⟨rfl, hB2⟩
    have hT2 := below_then hT1 hB2
    have hc2 := block_below hB2 hc1
    clear hT1 hc1  hB2
    obtain ⟨cc0, cc1, cc2, cc3⟩ := HasC.cc (c := c) hc2
    go_wp2_with fail
    go_ret
    exact ⟨rfl, hT2⟩
  refine (right_q c true Hq.out w1).mono ?_
  rintro e w2 ⟨rfl, hB2⟩
  have hT2 := below_then hT1 hB2
  have hc2 := block_below hB2 hc1
  clear hT1 hc1  hB2
  have Hok := Lib.hid (show OkC c from of_decide_eq_true (show decide (OkC c) = true from Hq.out))
  by_cases hs : c.s = 3
  · skip
    have He := Lib.hid (worse_off Hok.out hs 4 (by decide))
    have hs2 : (c.s == 3) = true := by simpa using hs
    have Hs := Lib.hid hs
    clear hs
    obtain ⟨cc0, cc1, cc2, cc3⟩ := HasC.cc (c := c) hc2
    go_wp2_with fail
    clear cc0 cc1 cc2 cc3
    refine (step1_any c c 4 He.out Hok.out w2).mono ?_
    rintro e w3 ⟨rfl, hB3⟩
    have hT3 := below_then hT2 hB3
    have hc3 := block_below hB3 hc2
    clear hT2 hc2  hB3
    obtain ⟨cc0, cc1, cc2, cc3⟩ := HasC.cc (c := c) hc3
    have hlc := (Array.getElem?_eq_some_iff.1 hc3).1
    go_wp2_with fail
    go_ret
    exact ⟨rfl, below_then hT3 (below_alloc1 _ _)⟩
  have hs2 : (c.s == 3) = false := by simpa using hs
  by_cases hr : c.r = 255
  · skip
    obtain ⟨x, he, h1⟩ := worse_4b Hok.out hs hr
    have He := Lib.hid he
    clear he hs
    have h2 : (c.r == 255) = true := by simpa using hr
    have h5 : ¬ ((255 : Int) = wrap64 (c.r + 1)) := by unfold wrap64; omega
    have h3 : ((255 : Int) == wrap64 (c.r + 1)) = false := by simpa using h5
    have Hr := Lib.hid hr
    clear hr
    obtain ⟨cc0, cc1, cc2, cc3⟩ := HasC.cc (c := c) hc2
    go_wp2_with fail
    clear cc0 cc1 cc2 cc3
    refine (step1_any c ⟨c.t, 255, x, 0⟩ 4 He.out Hok.out w2).mono ?_
    rintro e w3 ⟨rfl, hB3⟩
    have hT3 := below_then hT2 hB3
    have hc3 := block_below hB3 hc2
    clear hT2 hc2  hB3
    obtain ⟨cc0, cc1, cc2, cc3⟩ := HasC.cc (c := c) hc3
    have hlc := (Array.getElem?_eq_some_iff.1 hc3).1
    go_upto_if 33 with fail
    iterate 4 (first | go_values | go_skip | go_guarded | go_step | go_upon | go_back)
    simp only [List.append]
    go_wp2_with fail
    go_ret
    exact ⟨rfl, below_then hT3 (below_alloc1 _ _)⟩
  obtain ⟨x, he, h1⟩ := worse_4a Hok.out hs hr
  have He := Lib.hid he
  have hbx := (ok_mk Hok.out hs).2
  have h4 : wrap64 (c.r + 1) = c.r + 1 := by unfold wrap64; omega
  clear he hs hbx hr
  obtain ⟨cc0, cc1, cc2, cc3⟩ := HasC.cc (c := c) hc2
  go_wp2_with fail
  clear cc0 cc1 cc2 cc3
  refine (step1_any c ⟨c.t, (c.r + 1), x, 0⟩ 4 He.out Hok.out w2).mono ?_
  rintro e w3 ⟨rfl, hB3⟩
  have hT3 := below_then hT2 hB3
  have hc3 := block_below hB3 hc2
  clear hT2 hc2  hB3
  obtain ⟨cc0, cc1, cc2, cc3⟩ := HasC.cc (c := c) hc3
  have hlc := (Array.getElem?_eq_some_iff.1 hc3).1
  go_upto_if 33 with fail
  iterate 4 (first | go_values | go_skip | go_guarded | go_step | go_upon | go_back)
  simp only [List.append]
  go_wp2_with fail
  go_ret
  exact ⟨rfl, below_then hT3 (below_alloc1 _ _)⟩

theorem countWorse_any (c : CV) (a b : Bool) (w : World) :
    Calls Try.prog 7 #[c.v, .bool a, .bool b] w fun e w' => e = .returned (.bool true) ∧ Below w.heap.size w w' := by
  cases a <;> cases b
  · exact countWorse_4 c w
  · exact countWorse_3 c w
  · exact countWorse_2 c w
  · exact countWorse_1 c w

end Go.Proofs.Ytbkldbckcnnafaa
