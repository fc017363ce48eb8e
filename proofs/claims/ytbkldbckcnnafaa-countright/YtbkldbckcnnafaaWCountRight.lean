/-
  CountRight.
-/
import Derived.Test.YtbkldbckcnnafaaCntMath
import Derived.Test.YtbkldbckcnnafaaHead8
namespace Go.Proofs.Ytbkldbckcnnafaa
open Go.RowKit
set_option linter.unusedVariables false
set_option linter.unusedSimpArgs false

set_option maxRecDepth 100000 in
set_option maxHeartbeats 4000000 in
theorem countRight_any (c : CV) (k : Int) (l : List Int) (n : Nat) (hn : l.length = n) (A : Option Addr) (cp : Nat) (w : World) (hl : Row .i64 w w.heap.size A l) :
    Calls Try.prog 4 #[c.v, .int .i64 k, .slice A n cp] w fun e w' => e = .returned (.bool true) ∧ Below w.heap.size w w' := by
  have Hn := Lib.hid hn
  clear hn
  go_enter Try.func4, Try.ntmps4
  go_wp2_with fail
  obtain ⟨w0, hw0⟩ : ∃ w0, w.alloc (.cells #[.int .i64 c.t, .int .i64 c.r, .int .i64 c.s, .int .i64 c.q] 23) = w0 := ⟨_, rfl⟩
  have hT0 : Below w.heap.size w w0 := by rw [← hw0]; exact below_alloc1 _ _
  have hc0 : HasC w0 w.heap.size c := by rw [← hw0]; exact World.alloc_heap_new _ _
  have hl0 := Row.to hl hT0
  rw [hw0]
  clear hw0
  refine (head_any w0).mono ?_
  rintro e w1 ⟨rfl, hB1⟩
  have hT1 := below_then hT0 hB1
  have hc1 := block_below hB1 hc0
  have hl1 := Row.to hl0 hB1
  clear hT0 hc0 hl0 hB1
  by_cases hbig : 2000 < n
  · skip
    have hb2 : (2000 : Int) < (n : Int) := by omega
    obtain ⟨cc0, cc1, cc2, cc3⟩ := HasC.cc (c := c) hc1
    go_wp2_with fail
    go_ret
    exact ⟨rfl, hT1⟩
  have hb2 : ¬ (2000 : Int) < (n : Int) := by omega
  have Hbig := Lib.hid hbig
  obtain ⟨cc0, cc1, cc2, cc3⟩ := HasC.cc (c := c) hc1
  go_wp2_with fail
  clear cc0 cc1 cc2 cc3
  obtain ⟨q, hq⟩ : ∃ q, rightV c = q := ⟨_, rfl⟩
  have Hq := Lib.hid hq
  clear hq
  cases q
  · skip
    refine (right_q c false Hq.out w1).mono ?_
    rintro e w2 ⟨rfl, hB2⟩
    have hT2 := below_then hT1 hB2
    have hc2 := block_below hB2 hc1
    have hl2 := Row.to hl1 hB2
    clear hT1 hc1 hl1 hB2
    obtain ⟨cc0, cc1, cc2, cc3⟩ := HasC.cc (c := c) hc2
    go_wp2_with fail
    go_ret
    exact ⟨rfl, hT2⟩
  refine (right_q c true Hq.out w1).mono ?_
  rintro e w2 ⟨rfl, hB2⟩
  have hT2 := below_then hT1 hB2
  have hc2 := block_below hB2 hc1
  have hl2 := Row.to hl1 hB2
  clear hT1 hc1 hl1 hB2
  have Hok := Lib.hid (show OkC c from of_decide_eq_true (show decide (OkC c) = true from Hq.out))
  obtain ⟨d, hd⟩ : ∃ q : CV, stepV c k = q := ⟨_, rfl⟩
  have Hd := Lib.hid hd
  clear hd
  obtain ⟨m, hm⟩ : ∃ q : CV, stepsV c l = q := ⟨_, rfl⟩
  have Hm := Lib.hid hm
  clear hm
  have Hd1 := Lib.hid (show rightV d = true from by rw [← Hd.out]; exact decide_eq_true (ok_step _ _ Hok.out))
  have Hm1 := Lib.hid (show rightV m = true from by rw [← Hm.out]; exact decide_eq_true (ok_steps _ _ Hok.out))
  obtain ⟨cc0, cc1, cc2, cc3⟩ := HasC.cc (c := c) hc2
  go_wp2_with fail
  clear cc0 cc1 cc2 cc3
  refine (step1_any c d k Hd.out Hok.out w2).mono ?_
  rintro e w3 ⟨rfl, hB3⟩
  have hT3 := below_then hT2 hB3
  have hc3 := block_below hB3 hc2
  have hl3 := Row.to hl2 hB3
  clear hT2 hc2 hl2 hB3
  obtain ⟨cc0, cc1, cc2, cc3⟩ := HasC.cc (c := c) hc3
  go_wp2_with fail
  clear cc0 cc1 cc2 cc3
  refine (right_q d true Hd1.out w3).mono ?_
  rintro e w4 ⟨rfl, hB4⟩
  have hT4 := below_then hT3 hB4
  have hc4 := block_below hB4 hc3
  have hl4 := Row.to hl3 hB4
  clear hT3 hc3 hl3 hB4
  obtain ⟨cc0, cc1, cc2, cc3⟩ := HasC.cc (c := c) hc4
  go_wp2_with fail
  clear cc0 cc1 cc2 cc3
  refine (steps_any c m l Hm.out Hok.out n Hn.out (by have := Hbig.out; omega) A cp w4 hl4).mono ?_
  rintro e w5 ⟨rfl, hB5⟩
  have hT5 := below_then hT4 hB5
  have hc5 := block_below hB5 hc4
  have hl5 := Row.to hl4 hB5
  clear hT4 hc4 hl4 hB5
  obtain ⟨cc0, cc1, cc2, cc3⟩ := HasC.cc (c := c) hc5
  go_wp2_with fail
  clear cc0 cc1 cc2 cc3
  refine (right_q m true Hm1.out w5).mono ?_
  rintro e w6 ⟨rfl, hB6⟩
  have hT6 := below_then hT5 hB6
  have hc6 := block_below hB6 hc5
  have hl6 := Row.to hl5 hB6
  clear hT5 hc5 hl5 hB6
  obtain ⟨cc0, cc1, cc2, cc3⟩ := HasC.cc (c := c) hc6
  go_wp2_with fail
  clear cc0 cc1 cc2 cc3
  refine (new_any w6).mono ?_
  rintro e w7 ⟨rfl, hB7⟩
  have hT7 := below_then hT6 hB7
  have hc7 := block_below hB7 hc6
  have hl7 := Row.to hl6 hB7
  clear hT6 hc6 hl6 hB7
  obtain ⟨cc0, cc1, cc2, cc3⟩ := HasC.cc (c := c) hc7
  go_wp2_with fail
  clear cc0 cc1 cc2 cc3
  refine (right_q newV true fact6 w7).mono ?_
  rintro e w8 ⟨rfl, hB8⟩
  have hT8 := below_then hT7 hB8
  have hc8 := block_below hB8 hc7
  have hl8 := Row.to hl7 hB8
  clear hT7 hc7 hl7 hB8
  obtain ⟨cc0, cc1, cc2, cc3⟩ := HasC.cc (c := c) hc8
  go_wp2_with fail
  go_ret
  exact ⟨rfl, hT8⟩

end Go.Proofs.Ytbkldbckcnnafaa
