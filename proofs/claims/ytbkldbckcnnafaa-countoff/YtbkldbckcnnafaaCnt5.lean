/-
  Whether a counter is right: the program's function.
-/
import Derived.Test.YtbkldbckcnnafaaCnt4
namespace Go.Proofs.Ytbkldbckcnnafaa
open Go.RowKit
set_option linter.unusedVariables false
set_option linter.unusedSimpArgs false

theorem within_q (n m : Int) (b : Bool) (hb : decide (0 ≤ n ∧ n ≤ m) = b) (w : World) :
    Calls Try.prog 20 #[.int .i64 n, .int .i64 m] w fun e w' => e = .returned (.bool b) ∧ w' = w := by
  subst hb; exact within_any n m w
set_option maxRecDepth 100000 in
set_option maxHeartbeats 2000000 in
theorem right_1a (t r s q : Int) (b : Bool) (hs : s = 1) (h1 : decide (0 ≤ t ∧ t ≤ 127) = false) (hb : b = false) (w : World) :
    Calls Try.prog 11 #[CV.v ⟨t, r, s, q⟩] w fun e w' => e = .returned (.bool b) ∧ Below w.heap.size w w' := by
  subst hs
  have H1 := Lib.hid h1
  clear h1
  subst hb
  go_enter Try.func11, Try.ntmps11
  go_wp2_with fail
  refine (within_q t 127 false H1.out _).mono ?_
  rintro e w_ ⟨rfl, rfl⟩
  go_wp2_with fail
  go_ret
  exact ⟨ret_bool rfl, below_alloc1 _ _⟩

set_option maxRecDepth 100000 in
set_option maxHeartbeats 2000000 in
theorem right_1b (t r s q : Int) (b : Bool) (hs : s = 1) (h1 : decide (0 ≤ t ∧ t ≤ 127) = true) (h2 : decide (0 ≤ r ∧ r ≤ 127) = false) (hb : b = false) (w : World) :
    Calls Try.prog 11 #[CV.v ⟨t, r, s, q⟩] w fun e w' => e = .returned (.bool b) ∧ Below w.heap.size w w' := by
  subst hs
  have H1 := Lib.hid h1
  have H2 := Lib.hid h2
  clear h1 h2
  subst hb
  go_enter Try.func11, Try.ntmps11
  go_wp2_with fail
  refine (within_q t 127 true H1.out _).mono ?_
  rintro e w_ ⟨rfl, rfl⟩
  go_wp2_with fail
  refine (within_q r 127 false H2.out _).mono ?_
  rintro e w_ ⟨rfl, rfl⟩
  go_wp2_with fail
  go_ret
  exact ⟨ret_bool rfl, below_alloc1 _ _⟩

set_option maxRecDepth 100000 in
set_option maxHeartbeats 2000000 in
theorem right_1c (t r s q : Int) (b : Bool) (hs : s = 1) (h1 : decide (0 ≤ t ∧ t ≤ 127) = true) (h2 : decide (0 ≤ r ∧ r ≤ 127) = true) (hb : b = (q == 0)) (w : World) :
    Calls Try.prog 11 #[CV.v ⟨t, r, s, q⟩] w fun e w' => e = .returned (.bool b) ∧ Below w.heap.size w w' := by
  subst hs
  have H1 := Lib.hid h1
  have H2 := Lib.hid h2
  have Hb := Lib.hid hb
  clear h1 h2 hb
  go_enter Try.func11, Try.ntmps11
  go_wp2_with fail
  refine (within_q t 127 true H1.out _).mono ?_
  rintro e w_ ⟨rfl, rfl⟩
  go_wp2_with fail
  refine (within_q r 127 true H2.out _).mono ?_
  rintro e w_ ⟨rfl, rfl⟩
  go_wp2_with fail
  go_ret
  exact ⟨ret_bool (by rw [Hb.out]), below_alloc1 _ _⟩

set_option maxRecDepth 100000 in
set_option maxHeartbeats 2000000 in
theorem right_2a (t r s q : Int) (b : Bool) (hs : s = 2) (h1 : decide (0 ≤ t ∧ t ≤ 255) = false) (hb : b = false) (w : World) :
    Calls Try.prog 11 #[CV.v ⟨t, r, s, q⟩] w fun e w' => e = .returned (.bool b) ∧ Below w.heap.size w w' := by
  subst hs
  have H1 := Lib.hid h1
  clear h1
  subst hb
  go_enter Try.func11, Try.ntmps11
  go_wp2_with fail
  refine (within_q t 255 false H1.out _).mono ?_
  rintro e w_ ⟨rfl, rfl⟩
  go_wp2_with fail
  go_ret
  exact ⟨ret_bool rfl, below_alloc1 _ _⟩

set_option maxRecDepth 100000 in
set_option maxHeartbeats 2000000 in
theorem right_2b (t r s q : Int) (b : Bool) (hs : s = 2) (h1 : decide (0 ≤ t ∧ t ≤ 255) = true) (h2 : decide (0 ≤ r ∧ r ≤ 255) = false) (hb : b = false) (w : World) :
    Calls Try.prog 11 #[CV.v ⟨t, r, s, q⟩] w fun e w' => e = .returned (.bool b) ∧ Below w.heap.size w w' := by
  subst hs
  have H1 := Lib.hid h1
  have H2 := Lib.hid h2
  clear h1 h2
  subst hb
  go_enter Try.func11, Try.ntmps11
  go_wp2_with fail
  refine (within_q t 255 true H1.out _).mono ?_
  rintro e w_ ⟨rfl, rfl⟩
  go_wp2_with fail
  refine (within_q r 255 false H2.out _).mono ?_
  rintro e w_ ⟨rfl, rfl⟩
  go_wp2_with fail
  go_ret
  exact ⟨ret_bool rfl, below_alloc1 _ _⟩

set_option maxRecDepth 100000 in
set_option maxHeartbeats 2000000 in
theorem right_2c (t r s q : Int) (b : Bool) (hs : s = 2) (h1 : decide (0 ≤ t ∧ t ≤ 255) = true) (h2 : decide (0 ≤ r ∧ r ≤ 255) = true) (m : Int) (hm : max t r = m) (h3 : ¬ 127 < m) (hb : b = false) (w : World) :
    Calls Try.prog 11 #[CV.v ⟨t, r, s, q⟩] w fun e w' => e = .returned (.bool b) ∧ Below w.heap.size w w' := by
  subst hs
  have H1 := Lib.hid h1
  have H2 := Lib.hid h2
  clear h1 h2
  subst hb
  go_enter Try.func11, Try.ntmps11
  go_wp2_with fail
  refine (within_q t 255 true H1.out _).mono ?_
  rintro e w_ ⟨rfl, rfl⟩
  go_wp2_with fail
  refine (within_q r 255 true H2.out _).mono ?_
  rintro e w_ ⟨rfl, rfl⟩
  go_wp2_with fail
  go_ret
  exact ⟨ret_bool rfl, below_alloc1 _ _⟩

set_option maxRecDepth 100000 in
set_option maxHeartbeats 2000000 in
theorem right_2d (t r s q : Int) (b : Bool) (hs : s = 2) (h1 : decide (0 ≤ t ∧ t ≤ 255) = true) (h2 : decide (0 ≤ r ∧ r ≤ 255) = true) (m : Int) (hm : max t r = m) (h3 : 127 < m) (hb : b = (q == 0)) (w : World) :
    Calls Try.prog 11 #[CV.v ⟨t, r, s, q⟩] w fun e w' => e = .returned (.bool b) ∧ Below w.heap.size w w' := by
  subst hs
  have H1 := Lib.hid h1
  have H2 := Lib.hid h2
  have Hb := Lib.hid hb
  clear h1 h2 hb
  go_enter Try.func11, Try.ntmps11
  go_wp2_with fail
  refine (within_q t 255 true H1.out _).mono ?_
  rintro e w_ ⟨rfl, rfl⟩
  go_wp2_with fail
  refine (within_q r 255 true H2.out _).mono ?_
  rintro e w_ ⟨rfl, rfl⟩
  go_wp2_with fail
  go_ret
  exact ⟨ret_bool (by rw [Hb.out]), below_alloc1 _ _⟩

set_option maxRecDepth 100000 in
set_option maxHeartbeats 2000000 in
theorem right_3a (t r s q : Int) (b : Bool) (hs : s = 3) (h1 : ¬ t = 256) (hb : b = false) (w : World) :
    Calls Try.prog 11 #[CV.v ⟨t, r, s, q⟩] w fun e w' => e = .returned (.bool b) ∧ Below w.heap.size w w' := by
  subst hs
  have g1 : (t == 256) = false := by simpa using h1
  subst hb
  go_enter Try.func11, Try.ntmps11
  go_wp2_with fail
  go_ret
  exact ⟨ret_bool rfl, below_alloc1 _ _⟩

set_option maxRecDepth 100000 in
set_option maxHeartbeats 2000000 in
theorem right_3b (t r s q : Int) (b : Bool) (hs : s = 3) (h1 : t = 256) (h2 : ¬ r = 0) (hb : b = false) (w : World) :
    Calls Try.prog 11 #[CV.v ⟨t, r, s, q⟩] w fun e w' => e = .returned (.bool b) ∧ Below w.heap.size w w' := by
  subst hs h1
  have g2 : (r == 0) = false := by simpa using h2
  subst hb
  go_enter Try.func11, Try.ntmps11
  go_wp2_with fail
  go_ret
  exact ⟨ret_bool rfl, below_alloc1 _ _⟩

set_option maxRecDepth 100000 in
set_option maxHeartbeats 2000000 in
theorem right_3c (t r s q : Int) (b : Bool) (hs : s = 3) (h1 : t = 256) (h2 : r = 0) (hb : decide (0 ≤ q ∧ q ≤ 127) = b) (w : World) :
    Calls Try.prog 11 #[CV.v ⟨t, r, s, q⟩] w fun e w' => e = .returned (.bool b) ∧ Below w.heap.size w w' := by
  subst hs h1 h2
  have Hb := Lib.hid hb
  clear hb
  go_enter Try.func11, Try.ntmps11
  go_wp2_with fail
  refine (within_q q 127 b Hb.out _).mono ?_
  rintro e w_ ⟨rfl, rfl⟩
  go_wp2_with fail
  go_ret
  exact ⟨ret_bool rfl, below_alloc1 _ _⟩

set_option maxRecDepth 100000 in
set_option maxHeartbeats 2000000 in
theorem right_0 (t r s q : Int) (b : Bool) (h1 : ¬ s = 1) (h2 : ¬ s = 2) (h3 : ¬ s = 3) (hb : b = false) (w : World) :
    Calls Try.prog 11 #[CV.v ⟨t, r, s, q⟩] w fun e w' => e = .returned (.bool b) ∧ Below w.heap.size w w' := by
  have g1 : (s == 1) = false := by simpa using h1
  have g2 : (s == 2) = false := by simpa using h2
  have g3 : (s == 3) = false := by simpa using h3
  subst hb
  go_enter Try.func11, Try.ntmps11
  go_wp2_with fail
  go_ret
  exact ⟨ret_bool rfl, below_alloc1 _ _⟩

theorem right_q (c : CV) (b : Bool) (hb : rightV c = b) (w : World) :
    Calls Try.prog 11 #[c.v] w fun e w' => e = .returned (.bool b) ∧ Below w.heap.size w w' := by
  obtain ⟨t, r, s, q⟩ := c
  have hb' : b = true ↔ OkC ⟨t, r, s, q⟩ := by rw [← hb]; unfold rightV; exact decide_eq_true_iff
  unfold OkC at hb'
  dsimp only at hb'
  clear hb
  by_cases s1 : s = 1
  · by_cases h1 : 0 ≤ t ∧ t ≤ 127
    · by_cases h2 : 0 ≤ r ∧ r ≤ 127
      · exact right_1c t r s q b s1 (by simpa using h1) (by simpa using h2) (by rw [Bool.eq_iff_iff, hb']; simp only [decide_eq_true_eq, beq_iff_eq]; omega) w
      · exact right_1b t r s q b s1 (by simpa using h1) (by simpa using h2) (by cases b <;> simp only [true_iff, reduceCtorEq, false_iff] at hb' ⊢ <;> omega) w
    · exact right_1a t r s q b s1 (by simpa using h1) (by cases b <;> simp only [true_iff, reduceCtorEq, false_iff] at hb' ⊢ <;> omega) w
  by_cases s2 : s = 2
  · by_cases h1 : 0 ≤ t ∧ t ≤ 255
    · by_cases h2 : 0 ≤ r ∧ r ≤ 255
      · by_cases h3 : 127 < max t r
        · exact right_2d t r s q b s2 (by simpa using h1) (by simpa using h2) _ rfl h3 (by rw [Bool.eq_iff_iff, hb']; simp only [decide_eq_true_eq, beq_iff_eq]; omega) w
        · exact right_2c t r s q b s2 (by simpa using h1) (by simpa using h2) _ rfl h3 (by cases b <;> simp only [true_iff, reduceCtorEq, false_iff] at hb' ⊢ <;> omega) w
      · exact right_2b t r s q b s2 (by simpa using h1) (by simpa using h2) (by cases b <;> simp only [true_iff, reduceCtorEq, false_iff] at hb' ⊢ <;> omega) w
    · exact right_2a t r s q b s2 (by simpa using h1) (by cases b <;> simp only [true_iff, reduceCtorEq, false_iff] at hb' ⊢ <;> omega) w
  by_cases s3 : s = 3
  · by_cases h1 : t = 256
    · by_cases h2 : r = 0
      · exact right_3c t r s q b s3 h1 h2 (by rw [Bool.eq_iff_iff, hb']; simp only [decide_eq_true_eq]; omega) w
      · exact right_3b t r s q b s3 h1 h2 (by cases b <;> simp only [true_iff, reduceCtorEq, false_iff] at hb' ⊢ <;> omega) w
    · exact right_3a t r s q b s3 h1 (by cases b <;> simp only [true_iff, reduceCtorEq, false_iff] at hb' ⊢ <;> omega) w
  exact right_0 t r s q b s1 s2 s3 (by cases b <;> simp only [true_iff, reduceCtorEq, false_iff] at hb' ⊢ <;> omega) w

end Go.Proofs.Ytbkldbckcnnafaa
