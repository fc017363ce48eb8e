/-
  What the statements of layer 8 ask, of counters as numbers: no Go.
-/
import Derived.Test.YtbkldbckcnnafaaCnt0
namespace Go.Proofs.Ytbkldbckcnnafaa
open Go.RowKit
set_option linter.unusedVariables false

/-- The counter of a node that is not Off. -/
def mkC (t r : Int) : CV := ⟨t, r, if 127 < t ∨ 127 < r then 2 else 1, 0⟩
def offC (q : Int) : CV := ⟨256, 0, 3, q⟩
theorem ok_mk {c : CV} (h : OkC c) (hs : c.s ≠ 3) : c = mkC c.t c.r ∧ 0 ≤ c.t ∧ c.t ≤ 255 ∧ 0 ≤ c.r ∧ c.r ≤ 255 := by
  obtain ⟨t, r, s, q⟩ := c
  unfold OkC at h
  dsimp only at h hs ⊢
  refine ⟨?_, by omega⟩
  unfold mkC
  by_cases h1 : 127 < t ∨ 127 < r
  · rw [if_pos h1, cv_ext]; dsimp only; omega
  · rw [if_neg h1, cv_ext]; dsimp only; omega
theorem mk_ok {t r : Int} (h : 0 ≤ t ∧ t ≤ 255 ∧ 0 ≤ r ∧ r ≤ 255) : OkC (mkC t r) := by
  unfold mkC
  by_cases h1 : 127 < t ∨ 127 < r
  · rw [if_pos h1]; exact .inr (.inl (by dsimp only; omega))
  · rw [if_neg h1]; exact .inl (by dsimp only; omega)
theorem mk_s (t r : Int) : (mkC t r).s = 1 ∨ (mkC t r).s = 2 := by
  unfold mkC; dsimp only; split <;> simp
theorem mk_s3 (t r : Int) : (mkC t r).s ≠ 3 := by
  rcases mk_s t r with h | h <;> rw [h] <;> decide
theorem ok_off_eq {c : CV} (h : OkC c) (hs : c.s = 3) : c = offC c.q ∧ 0 ≤ c.q ∧ c.q ≤ 127 := by
  obtain ⟨t, r, s, q⟩ := c
  unfold OkC at h
  dsimp only at h hs ⊢
  refine ⟨?_, by omega⟩
  rw [offC, cv_ext]; dsimp only; omega
theorem off_ok {q : Int} (h : 0 ≤ q ∧ q ≤ 127) : OkC (offC q) := .inr (.inr (by dsimp only [offC]; omega))
theorem step_off_calm {q : Int} (h : q ≠ 127) : stepV (offC q) 6 = offC (q + 1) := by
  unfold stepV restV offC
  rw [if_pos rfl, if_pos rfl]; dsimp only; rw [if_neg h]
theorem step_off_end : stepV (offC 127) 6 = newV := by decide
theorem step_off_other {q k : Int} (h : k ≠ 6) : stepV (offC q) k = offC q := by
  unfold stepV restV
  rw [if_pos (show (offC q).s = 3 from rfl), if_neg h]
theorem settle_mk {t r s : Int} (h : t ≤ 255) : settleV ⟨t, r, s, 0⟩ = mkC t r := by
  unfold settleV mkC
  dsimp only
  rw [if_neg (by omega)]
  by_cases h1 : 127 < t ∨ 127 < r
  · rw [if_pos h1, if_pos h1]
  · rw [if_neg h1, if_neg h1]
theorem step_mk1 {t r : Int} (h : t ≤ 255) : stepV (mkC t r) 1 = mkC (max (t - 1) 0) r := by
  unfold stepV
  rw [if_neg (mk_s3 t r)]
  exact settle_mk (t := max (t - 1) 0) (r := r) (s := (mkC t r).s) (by omega)
theorem step_mk2 {t r : Int} (h : t ≤ 255) : stepV (mkC t r) 2 = mkC t (if 127 < r then 127 else max (r - 1) 0) := by
  unfold stepV
  rw [if_neg (mk_s3 t r)]
  exact settle_mk (s := (mkC t r).s) h
theorem step_mk3 {t r : Int} (h : t ≤ 247) : stepV (mkC t r) 3 = mkC (t + 8) r := by
  unfold stepV
  rw [if_neg (mk_s3 t r)]
  exact settle_mk (t := t + 8) (r := r) (s := (mkC t r).s) (by omega)
theorem step_mk3o {t r : Int} (h : 247 < t) : stepV (mkC t r) 3 = offC 0 := by
  unfold stepV
  rw [if_neg (mk_s3 t r)]
  show settleV ⟨t + 8, r, _, 0⟩ = _
  unfold settleV
  dsimp only
  rw [if_pos (by omega)]
  rfl
theorem step_mk4 {t r : Int} (h : t ≤ 255) : stepV (mkC t r) 4 = mkC t (min (r + 1) 255) := by
  unfold stepV
  rw [if_neg (mk_s3 t r)]
  exact settle_mk (s := (mkC t r).s) h
theorem step_mk0 {t r k : Int} (h : t ≤ 255) (hk : k ≠ 1 ∧ k ≠ 2 ∧ k ≠ 3 ∧ k ≠ 4 ∧ k ≠ 5) : stepV (mkC t r) k = mkC t r := by
  unfold stepV
  rw [if_neg (mk_s3 t r)]
  unfold effV
  rw [if_neg hk.1, if_neg hk.2.1, if_neg hk.2.2.1, if_neg hk.2.2.2.1, if_neg hk.2.2.2.2]
  exact settle_mk (s := (mkC t r).s) h
theorem steps_rep (c : CV) (n : Nat) (k : Int) : stepsV c (List.replicate (n + 1) k) = stepV (stepsV c (List.replicate n k)) k := by
  rw [List.replicate_succ', stepsV_snoc]
theorem steps_cons (c : CV) (n : Nat) (k : Int) : stepsV c (List.replicate (n + 1) k) = stepsV (stepV c k) (List.replicate n k) := by
  rw [List.replicate_succ]; rfl
theorem steps_mk1 (r : Int) : ∀ (n : Nat) (t : Int), 0 ≤ t → t ≤ 255 → stepsV (mkC t r) (List.replicate n 1) = mkC (max (t - n) 0) r
  | 0, t, h0, h1 => by
    show mkC t r = _
    congr 1; omega
  | n + 1, t, h0, h1 => by
    rw [steps_rep, steps_mk1 r n t h0 h1, step_mk1 (by omega)]
    congr 1; omega
theorem steps_mk2 (t : Int) (ht : t ≤ 255) : ∀ (n : Nat) (r : Int), 0 ≤ r → r ≤ 127 → stepsV (mkC t r) (List.replicate n 2) = mkC t (max (r - n) 0)
  | 0, r, h0, h1 => by
    show mkC t r = _
    congr 1; omega
  | n + 1, r, h0, h1 => by
    rw [steps_rep, steps_mk2 t ht n r h0 h1, step_mk2 ht]
    congr 1
    rw [if_neg (by omega)]; omega
theorem steps_mk3 (r : Int) : ∀ (n : Nat) (t : Int), 0 ≤ t → t + 8 * n ≤ 255 → stepsV (mkC t r) (List.replicate n 3) = mkC (t + 8 * n) r
  | 0, t, h0, h1 => by
    show mkC t r = _
    congr 1; omega
  | n + 1, t, h0, h1 => by
    rw [steps_rep, steps_mk3 r n t h0 (by omega), step_mk3 (by omega)]
    congr 1; omega
theorem mk_new : mkC 0 0 = newV := by decide

/-- CountBack. -/
theorem back_a {t r : Int} {N : Nat} (h : 0 ≤ t ∧ t ≤ 255 ∧ 0 ≤ r ∧ r ≤ 255) (hN : max (t - 127) 0 = (N : Int)) : (stepsV (stepV (mkC t r) 2) (List.replicate N 1)).s = 1 := by
  rw [step_mk2 h.2.1, steps_mk1 _ N t h.1 h.2.1]
  unfold mkC; dsimp only
  rw [if_neg]
  rintro (h1 | h1)
  · omega
  · split at h1 <;> omega
theorem back_b {t r : Int} (h : 0 ≤ t ∧ t ≤ 255 ∧ 0 ≤ r ∧ r ≤ 255) : stepsV (stepsV (mkC t r) (List.replicate 255 1)) (List.replicate 255 2) = newV := by
  rw [steps_mk1 r 255 t h.1 h.2.1, show max (t - ((255 : Nat) : Int)) 0 = 0 by omega]
  rw [show (255 : Nat) = 254 + 1 by rfl, steps_cons]
  rw [step_mk2 (by omega), steps_mk2 0 (by omega) 254 _ (by split <;> omega) (by split <;> omega), ← mk_new]
  congr 1
  split <;> omega
theorem back_c {t r : Int} {N : Nat} (h : 0 ≤ t ∧ t ≤ 255 ∧ 0 ≤ r ∧ r ≤ 255) (hN : max (t - 127) 0 = ((N + 1 : Nat) : Int)) : (stepsV (stepV (mkC t r) 2) (List.replicate N 1)).s = 2 := by
  rw [step_mk2 h.2.1, steps_mk1 _ N t h.1 h.2.1]
  unfold mkC; dsimp only
  rw [if_pos]
  left; omega

/-- CountOut. -/
theorem out_a {t r : Int} {N : Nat} (h : 0 ≤ t ∧ t ≤ 255 ∧ 0 ≤ r ∧ r ≤ 255) (hN : (256 - t + 7) / 8 = ((N + 1 : Nat) : Int)) : stepsV (mkC t r) (List.replicate (N + 1) 3) = ⟨256, 0, 3, 0⟩ := by
  rw [steps_rep, steps_mk3 r N t h.1 (by omega), step_mk3o (by omega)]
  rfl
theorem out_b {t r : Int} {N : Nat} (h : 0 ≤ t ∧ t ≤ 255 ∧ 0 ≤ r ∧ r ≤ 255) (hN : (256 - t + 7) / 8 = ((N + 1 : Nat) : Int)) : stepsV (mkC t r) (List.replicate N 3) = mkC (t + 8 * N) r :=
  steps_mk3 r N t h.1 (by omega)
theorem out_d0 {t r : Int} (h : 247 < t) : stepV (stepV (mkC t r) 3) 1 = ⟨256, 0, 3, 0⟩ := by
  rw [step_mk3o h, step_off_other (by decide)]; rfl
theorem out_d1 {t r : Int} (h : 0 ≤ t ∧ t ≤ 247) : stepV (stepV (mkC t r) 3) 1 = mkC (t + 7) r := by
  rw [step_mk3 h.2, step_mk1 (by omega)]
  congr 1; omega

end Go.Proofs.Ytbkldbckcnnafaa
