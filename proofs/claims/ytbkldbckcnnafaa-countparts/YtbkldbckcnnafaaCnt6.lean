/-
  Whether a counter is right, many steps: the document's functions.
-/
import Derived.Test.YtbkldbckcnnafaaCnt4
import Derived.Deep.RegionWith
namespace Go.Proofs.Ytbkldbckcnnafaa
open Go.RowKit
set_option linter.unusedVariables false
set_option linter.unusedSimpArgs false

set_option maxRecDepth 100000 in
set_option maxHeartbeats 2000000 in
theorem refR_3a (t r s q : Int) (b : Bool) (hs : s = 3) (h1 : (t == 256) = false) (hb : b = false) (w : World) :
    Calls Try.prog 12 #[CV.v ⟨t, r, s, q⟩] w fun e w' => e = .returned (.bool b) ∧ Below w.heap.size w w' := by
  subst hs
  subst hb
  go_enter Try.func12, Try.ntmps12
  go_wp2_with fail
  go_ret
  exact ⟨ret_bool rfl, below_alloc1 _ _⟩

set_option maxRecDepth 100000 in
set_option maxHeartbeats 2000000 in
theorem refR_3b (t r s q : Int) (b : Bool) (hs : s = 3) (h1 : t = 256) (h2 : (r == 0) = false) (hb : b = false) (w : World) :
    Calls Try.prog 12 #[CV.v ⟨t, r, s, q⟩] w fun e w' => e = .returned (.bool b) ∧ Below w.heap.size w w' := by
  subst hs h1
  subst hb
  go_enter Try.func12, Try.ntmps12
  go_wp2_with fail
  go_ret
  exact ⟨ret_bool rfl, below_alloc1 _ _⟩

set_option maxRecDepth 100000 in
set_option maxHeartbeats 2000000 in
theorem refR_3c (t r s q : Int) (b : Bool) (hs : s = 3) (h1 : t = 256) (h2 : r = 0) (h3 : ¬ 0 ≤ q) (hb : b = false) (w : World) :
    Calls Try.prog 12 #[CV.v ⟨t, r, s, q⟩] w fun e w' => e = .returned (.bool b) ∧ Below w.heap.size w w' := by
  subst hs h1 h2
  subst hb
  go_enter Try.func12, Try.ntmps12
  go_wp2_with fail
  go_ret
  exact ⟨ret_bool rfl, below_alloc1 _ _⟩

set_option maxRecDepth 100000 in
set_option maxHeartbeats 2000000 in
theorem refR_3d (t r s q : Int) (b : Bool) (hs : s = 3) (h1 : t = 256) (h2 : r = 0) (h3 : 0 ≤ q) (hb : b = decide (q ≤ 127)) (w : World) :
    Calls Try.prog 12 #[CV.v ⟨t, r, s, q⟩] w fun e w' => e = .returned (.bool b) ∧ Below w.heap.size w w' := by
  subst hs h1 h2
  have Hb := Lib.hid hb
  clear hb
  go_enter Try.func12, Try.ntmps12
  go_wp2_with fail
  go_ret
  exact ⟨ret_bool (by rw [Hb.out]), below_alloc1 _ _⟩

set_option maxRecDepth 100000 in
set_option maxHeartbeats 2000000 in
theorem refR_a (t r s q : Int) (b : Bool) (hs : (s == 3) = false) (h1 : t < 0) (hb : b = false) (w : World) :
    Calls Try.prog 12 #[CV.v ⟨t, r, s, q⟩] w fun e w' => e = .returned (.bool b) ∧ Below w.heap.size w w' := by
  subst hb
  go_enter Try.func12, Try.ntmps12
  go_wp2_with fail
  go_ret
  exact ⟨ret_bool rfl, below_alloc1 _ _⟩

set_option maxRecDepth 100000 in
set_option maxHeartbeats 2000000 in
theorem refR_b (t r s q : Int) (b : Bool) (hs : (s == 3) = false) (h1 : ¬ t < 0) (h2 : 255 < t) (hb : b = false) (w : World) :
    Calls Try.prog 12 #[CV.v ⟨t, r, s, q⟩] w fun e w' => e = .returned (.bool b) ∧ Below w.heap.size w w' := by
  subst hb
  go_enter Try.func12, Try.ntmps12
  go_wp2_with fail
  go_ret
  exact ⟨ret_bool rfl, below_alloc1 _ _⟩

set_option maxRecDepth 100000 in
set_option maxHeartbeats 2000000 in
theorem refR_c (t r s q : Int) (b : Bool) (hs : (s == 3) = false) (h1 : ¬ t < 0) (h2 : ¬ 255 < t) (h3 : r < 0) (hb : b = false) (w : World) :
    Calls Try.prog 12 #[CV.v ⟨t, r, s, q⟩] w fun e w' => e = .returned (.bool b) ∧ Below w.heap.size w w' := by
  subst hb
  go_enter Try.func12, Try.ntmps12
  go_wp2_with fail
  go_ret
  exact ⟨ret_bool rfl, below_alloc1 _ _⟩

set_option maxRecDepth 100000 in
set_option maxHeartbeats 2000000 in
theorem refR_d (t r s q : Int) (b : Bool) (hs : (s == 3) = false) (h1 : ¬ t < 0) (h2 : ¬ 255 < t) (h3 : ¬ r < 0) (h4 : 255 < r) (hb : b = false) (w : World) :
    Calls Try.prog 12 #[CV.v ⟨t, r, s, q⟩] w fun e w' => e = .returned (.bool b) ∧ Below w.heap.size w w' := by
  subst hb
  go_enter Try.func12, Try.ntmps12
  go_wp2_with fail
  go_ret
  exact ⟨ret_bool rfl, below_alloc1 _ _⟩

set_option maxRecDepth 100000 in
set_option maxHeartbeats 2000000 in
theorem refR_e (t r s q : Int) (b : Bool) (hs : (s == 3) = false) (h1 : ¬ t < 0) (h2 : ¬ 255 < t) (h3 : ¬ r < 0) (h4 : ¬ 255 < r) (h5 : ¬ q = 0) (hb : b = false) (w : World) :
    Calls Try.prog 12 #[CV.v ⟨t, r, s, q⟩] w fun e w' => e = .returned (.bool b) ∧ Below w.heap.size w w' := by
  subst hb
  go_enter Try.func12, Try.ntmps12
  go_wp2_with fail
  go_ret
  exact ⟨ret_bool rfl, below_alloc1 _ _⟩

set_option maxRecDepth 100000 in
set_option maxHeartbeats 2000000 in
theorem refR_f (t r s q : Int) (b : Bool) (hs : (s == 3) = false) (h1 : ¬ t < 0) (h2 : ¬ 255 < t) (h3 : ¬ r < 0) (h4 : ¬ 255 < r) (h5 : q = 0) (h6 : 127 < t) (hb : b = (s == 2)) (w : World) :
    Calls Try.prog 12 #[CV.v ⟨t, r, s, q⟩] w fun e w' => e = .returned (.bool b) ∧ Below w.heap.size w w' := by
  have Hb := Lib.hid hb
  clear hb
  subst h5
  go_enter Try.func12, Try.ntmps12
  go_wp2_with fail
  go_ret
  exact ⟨ret_bool (by rw [Hb.out]), below_alloc1 _ _⟩

set_option maxRecDepth 100000 in
set_option maxHeartbeats 2000000 in
theorem refR_g (t r s q : Int) (b : Bool) (hs : (s == 3) = false) (h1 : ¬ t < 0) (h2 : ¬ 255 < t) (h3 : ¬ r < 0) (h4 : ¬ 255 < r) (h5 : q = 0) (h6 : ¬ 127 < t) (h7 : 127 < r) (hb : b = (s == 2)) (w : World) :
    Calls Try.prog 12 #[CV.v ⟨t, r, s, q⟩] w fun e w' => e = .returned (.bool b) ∧ Below w.heap.size w w' := by
  have Hb := Lib.hid hb
  clear hb
  subst h5
  go_enter Try.func12, Try.ntmps12
  go_wp2_with fail
  go_ret
  exact ⟨ret_bool (by rw [Hb.out]), below_alloc1 _ _⟩

set_option maxRecDepth 100000 in
set_option maxHeartbeats 2000000 in
theorem refR_h (t r s q : Int) (b : Bool) (hs : (s == 3) = false) (h1 : ¬ t < 0) (h2 : ¬ 255 < t) (h3 : ¬ r < 0) (h4 : ¬ 255 < r) (h5 : q = 0) (h6 : ¬ 127 < t) (h7 : ¬ 127 < r) (hb : b = (s == 1)) (w : World) :
    Calls Try.prog 12 #[CV.v ⟨t, r, s, q⟩] w fun e w' => e = .returned (.bool b) ∧ Below w.heap.size w w' := by
  have Hb := Lib.hid hb
  clear hb
  subst h5
  go_enter Try.func12, Try.ntmps12
  go_wp2_with fail
  go_ret
  exact ⟨ret_bool (by rw [Hb.out]), below_alloc1 _ _⟩

theorem refRight_q (c : CV) (b : Bool) (hb : rightV c = b) (w : World) :
    Calls Try.prog 12 #[c.v] w fun e w' => e = .returned (.bool b) ∧ Below w.heap.size w w' := by
  obtain ⟨t, r, s, q⟩ := c
  have hb' : b = true ↔ OkC ⟨t, r, s, q⟩ := by rw [← hb]; unfold rightV; exact decide_eq_true_iff
  unfold OkC at hb'
  dsimp only at hb'
  clear hb
  by_cases s3 : s = 3
  · by_cases h1 : t = 256
    · by_cases h2 : r = 0
      · by_cases h3 : 0 ≤ q
        · exact refR_3d t r s q b s3 h1 h2 h3 (by rw [Bool.eq_iff_iff, hb']; simp only [decide_eq_true_eq, beq_iff_eq]; omega) w
        · exact refR_3c t r s q b s3 h1 h2 h3 (by cases b <;> simp only [true_iff, reduceCtorEq, false_iff] at hb' ⊢ <;> omega) w
      · exact refR_3b t r s q b s3 h1 (by simpa using h2) (by cases b <;> simp only [true_iff, reduceCtorEq, false_iff] at hb' ⊢ <;> omega) w
    · exact refR_3a t r s q b s3 (by simpa using h1) (by cases b <;> simp only [true_iff, reduceCtorEq, false_iff] at hb' ⊢ <;> omega) w
  have sn : (s == 3) = false := by simpa using s3
  by_cases h1 : t < 0
  · exact refR_a t r s q b sn h1 (by cases b <;> simp only [true_iff, reduceCtorEq, false_iff] at hb' ⊢ <;> omega) w
  by_cases h2 : 255 < t
  · exact refR_b t r s q b sn h1 h2 (by cases b <;> simp only [true_iff, reduceCtorEq, false_iff] at hb' ⊢ <;> omega) w
  by_cases h3 : r < 0
  · exact refR_c t r s q b sn h1 h2 h3 (by cases b <;> simp only [true_iff, reduceCtorEq, false_iff] at hb' ⊢ <;> omega) w
  by_cases h4 : 255 < r
  · exact refR_d t r s q b sn h1 h2 h3 h4 (by cases b <;> simp only [true_iff, reduceCtorEq, false_iff] at hb' ⊢ <;> omega) w
  by_cases h5 : q = 0
  · by_cases h6 : 127 < t
    · exact refR_f t r s q b sn h1 h2 h3 h4 h5 h6 (by rw [Bool.eq_iff_iff, hb']; simp only [decide_eq_true_eq, beq_iff_eq]; omega) w
    by_cases h7 : 127 < r
    · exact refR_g t r s q b sn h1 h2 h3 h4 h5 h6 h7 (by rw [Bool.eq_iff_iff, hb']; simp only [decide_eq_true_eq, beq_iff_eq]; omega) w
    · exact refR_h t r s q b sn h1 h2 h3 h4 h5 h6 h7 (by rw [Bool.eq_iff_iff, hb']; simp only [decide_eq_true_eq, beq_iff_eq]; omega) w
  · exact refR_e t r s q b sn h1 h2 h3 h4 h5 (by cases b <;> simp only [true_iff, reduceCtorEq, false_iff] at hb' ⊢ <;> omega) w

set_option maxRecDepth 100000 in
set_option maxHeartbeats 2000000 in
theorem refSteps_any (c d : CV) (l : List Int) (hd : stepsV c l = d) (hok : OkC c) (n : Nat) (hn : l.length = n) (hm : n ≤ 1000000) (A : Option Addr) (cp : Nat) (w : World) (h : Row .i64 w w.heap.size A l) :
    Calls Try.prog 18 #[c.v, .slice A n cp] w fun e w' => e = .returned d.v ∧ Below w.heap.size w w' := by
  have Hd := Lib.hid hd
  have Hn := Lib.hid hn
  have Hok := Lib.hid hok
  clear hd hn hok
  go_enter Try.func18, Try.ntmps18
  go_wp2_with fail
  go_loopw [5] (fun i wr => ∃ (k : Nat) (b : CV), k ≤ n ∧ i = .int .i64 k ∧ Hid (stepsV c (l.take k) = b) ∧ HasC wr w.heap.size b ∧ HasC wr (w.heap.size + 1) zeroV ∧ Below w.heap.size w wr) (fun i _ => n - (intOf i).toNat)
  case atStart => exact ⟨0, c, Nat.zero_le _, rfl, Lib.hid rfl, blk1 _ _ _, blk2 _ _ _, below_two _ _ _⟩
  case round =>
    obtain ⟨k, b, hk, rfl, Hb, hC, hR, hB⟩ := hrel
    by_cases hlt : k < n
    · obtain ⟨ad, x, rfl, hx, hc⟩ := (h.below hB).get_ (k := k) (by rw [Hn.out]; exact hlt)
      obtain ⟨b2, hb2⟩ : ∃ b2, stepV b x = b2 := ⟨_, rfl⟩
      have Hs := Lib.hid (show stepsV c (l.take (k + 1)) = b2 from by rw [stepsV_take hx, Hb.out]; exact hb2)
      have Hb2 := Lib.hid hb2
      clear hx hb2
      obtain ⟨⟨c0, c1, c2, c3⟩, f0, f1, f2, f3⟩ := cells4 hC
      have i1 : (0 : Int) ≤ (k : Int) := by omega
      have i2 : (k : Int) < (n : Int) := by omega
      go_wp2_with fail
      go_region_with (first
        | (go_at_call 16; refine (refStep_any b b2 x Hb2.out (by rw [← Hb.out]; exact ok_steps _ _ Hok.out) _).mono ?_; rintro e w2 ⟨rfl, hB2⟩; have hBB := below_then (below_then hB (below_drew1 _)) hB2; have hC2 := block_below hB2 hC; have hR2 := block_below hB2 hR; clear c0 c1 c2 c3 f0 f1 f2 f3; obtain ⟨⟨c0, c1, c2, c3⟩, f0, f1, f2, f3⟩ := cells4 hC2)
        | fail)
      all_goals
        go_wp2_with fail
        go_round
        case measure => simp [intOf]; omega
        exact ⟨k + 1, b2, by omega, by go_num, Hs, set4_obj hC2 _ _ _ _, other_grownF (set4_grown _ _ _ _ _ _) hR2 (by omega), below_set4 hBB (Nat.le_refl _) _ _ _ _⟩
    · obtain rfl : k = n := by omega
      have e1 : l.take k = l := by rw [← Hn.out, List.take_length]
      obtain rfl : b = d := by rw [← Hb.out, ← Hd.out, e1]
      clear e1
      obtain ⟨⟨c0, c1, c2, c3⟩, f0, f1, f2, f3⟩ := cells4 hC
      obtain ⟨⟨r0, r1, r2, r3⟩, g0, g1, g2, g3⟩ := cells4 hR
      go_wp2_with fail
      exact bodyPost_ret (v := b.v) (results_c rfl _ rfl (set4_obj hR _ _ _ _)) rfl ⟨rfl, below_set4 hB (by omega) _ _ _ _⟩

end Go.Proofs.Ytbkldbckcnnafaa
