/-
  Where two ranks first differ: lists alone.
-/
import Derived.Test.YthjhccdpjgdblaaLaw4
namespace Go.Proofs.Ythjhccdpjgdblaa
open Go.RowKit

/-- The first difference that is not 0. -/
def firstD : List Int → List Int → Int
  | a :: s, b :: t => if a - b = 0 then firstD s t else a - b
  | _, _ => 0
theorem firstD_nil (t : List Int) : firstD [] t = 0 := by simp [firstD]
theorem firstD_nil' (s : List Int) : firstD s [] = 0 := by cases s <;> simp [firstD]
theorem bit_row (n a b : Nat) (ha : a < 2 ^ n) (hb : b < 2 ^ n) : ∀ s t : List Int,
    (a < b → firstD (bitRow a n n ++ s) (bitRow b n n ++ t) < 0) ∧ (a = b → firstD (bitRow a n n ++ s) (bitRow b n n ++ t) = firstD s t) ∧ (b < a → 0 < firstD (bitRow a n n ++ s) (bitRow b n n ++ t)) := by
  induction n generalizing a b with
  | zero =>
    intro s t
    have h1 : a = 0 := by omega
    have h2 : b = 0 := by omega
    subst h1 h2
    exact ⟨by omega, fun _ => rfl, by omega⟩
  | succ n ih =>
    intro s t
    rw [Nat.pow_succ] at ha hb
    have ea : bitRow a (n + 1) (n + 1) = bitRow (a / 2) n n ++ [((a % 2 : Nat) : Int)] := by
      have := bitRow_snoc (a / 2) (a % 2) n (Nat.mod_lt _ (by omega))
      rwa [show 2 * (a / 2) + a % 2 = a by omega] at this
    have eb : bitRow b (n + 1) (n + 1) = bitRow (b / 2) n n ++ [((b % 2 : Nat) : Int)] := by
      have := bitRow_snoc (b / 2) (b % 2) n (Nat.mod_lt _ (by omega))
      rwa [show 2 * (b / 2) + b % 2 = b by omega] at this
    rw [ea, eb, List.append_assoc, List.append_assoc]
    obtain ⟨i1, i2, i3⟩ := ih (a / 2) (b / 2) (by omega) (by omega) ([((a % 2 : Nat) : Int)] ++ s) ([((b % 2 : Nat) : Int)] ++ t)
    by_cases h : a / 2 = b / 2
    · rw [i2 h]
      simp only [List.cons_append, List.nil_append, firstD]
      refine ⟨fun hl => ?_, fun he => ?_, fun hl => ?_⟩
      · rw [if_neg (by omega)]; omega
      · rw [if_pos (by subst he; omega)]
      · rw [if_neg (by omega)]; omega
    · rcases Nat.lt_or_gt_of_ne h with h | h
      · exact ⟨fun _ => i1 h, fun he => by subst he; omega, fun hl => by omega⟩
      · exact ⟨fun hl => by omega, fun he => by subst he; omega, fun _ => i3 h⟩

theorem orderSS {a b : Nat} {r s : Bool} (ha : a < 2048) (hb : b < 2048) :
    (a < b → firstD (rankS a r) (rankS b s) < 0) ∧ (a = b → firstD (rankS a r) (rankS b s) = flag r - flag s) ∧ (b < a → 0 < firstD (rankS a r) (rankS b s)) := by
  obtain ⟨h1, h2, h3⟩ := bit_row 11 a b (by omega) (by omega) [flag r, 0] [flag s, 0]
  refine ⟨h1, fun e => ?_, h3⟩
  unfold rankS
  rw [h2 e]
  cases r <;> cases s <;> rfl
theorem orderXX {a b : Nat} {r s : Bool} (ha : a < 536870912) (hb : b < 536870912) :
    (a < b → firstD (rankX a r) (rankX b s) < 0) ∧ (a = b → firstD (rankX a r) (rankX b s) = flag r - flag s) ∧ (b < a → 0 < firstD (rankX a r) (rankX b s)) := by
  obtain ⟨h1, h2, h3⟩ := bit_row 11 (a / 262144) (b / 262144) (by omega) (by omega) ([1, 1] ++ (bitRow (a % 262144) 18 18 ++ [flag r])) ([1, 1] ++ (bitRow (b % 262144) 18 18 ++ [flag s]))
  obtain ⟨g1, g2, g3⟩ := bit_row 18 (a % 262144) (b % 262144) (Nat.mod_lt _ (by omega)) (Nat.mod_lt _ (by omega)) [flag r] [flag s]
  have mid : firstD ([1, 1] ++ (bitRow (a % 262144) 18 18 ++ [flag r])) ([1, 1] ++ (bitRow (b % 262144) 18 18 ++ [flag s])) = firstD (bitRow (a % 262144) 18 18 ++ [flag r]) (bitRow (b % 262144) 18 18 ++ [flag s]) := by
    simp [firstD]
  have last : firstD [flag r] [flag s] = flag r - flag s := by cases r <;> cases s <;> rfl
  unfold rankX
  by_cases h : a / 262144 = b / 262144
  · rw [h2 h, mid]
    exact ⟨fun hl => g1 (by omega), fun e => by rw [g2 (by omega), last], fun hl => g3 (by omega)⟩
  · rcases Nat.lt_or_gt_of_ne h with h | h
    · exact ⟨fun _ => h1 h, fun e => by omega, fun hl => by omega⟩
    · exact ⟨fun hl => by omega, fun e => by omega, fun _ => h3 h⟩
theorem orderSX {a b : Nat} {r s : Bool} (ha : a < 2048) (hb : b < 536870912) : (a = b / 262144 → firstD (rankS a r) (rankX b s) < 0) ∧ firstD (rankS a r) (rankX b s) ≠ 0 := by
  obtain ⟨h1, h2, h3⟩ := bit_row 11 a (b / 262144) (by omega) (by omega) [flag r, 0] ([1, 1] ++ (bitRow (b % 262144) 18 18 ++ [flag s]))
  have last : firstD [flag r, 0] ([1, 1] ++ (bitRow (b % 262144) 18 18 ++ [flag s])) = -1 := by cases r <;> simp [firstD, flag]
  unfold rankS rankX
  refine ⟨fun e => by rw [h2 e, last]; decide, ?_⟩
  by_cases h : a = b / 262144
  · rw [h2 h, last]; decide
  · rcases Nat.lt_or_gt_of_ne h with h | h
    · have := h1 h; omega
    · have := h3 h; omega
theorem orderXS {a b : Nat} {r s : Bool} (ha : a < 536870912) (hb : b < 2048) : firstD (rankX a r) (rankS b s) ≠ 0 := by
  obtain ⟨h1, h2, h3⟩ := bit_row 11 (a / 262144) b (by omega) (by omega) ([1, 1] ++ (bitRow (a % 262144) 18 18 ++ [flag r])) [flag s, 0]
  have last : firstD ([1, 1] ++ (bitRow (a % 262144) 18 18 ++ [flag r])) [flag s, 0] = 1 := by cases s <;> simp [firstD, flag]
  unfold rankS rankX
  by_cases h : a / 262144 = b
  · rw [h2 h, last]; decide
  · rcases Nat.lt_or_gt_of_ne h with h | h
    · have := h1 h; omega
    · have := h3 h; omega

/-- The loop's state: no difference up to i, or the first one was found. -/
def Ahead (a b : List Int) (i : Nat) (D : Int) : Prop := firstD a b = if D = 0 then firstD (a.drop i) (b.drop i) else D
theorem Ahead.start (a b : List Int) : Ahead a b 0 0 := by simp [Ahead]
theorem Ahead.step {a b : List Int} {i : Nat} {x y : Int} (h : Ahead a b i 0) (hx : a[i]? = some x) (hy : b[i]? = some y) : Ahead a b (i + 1) (x - y) := by
  unfold Ahead at h ⊢
  rw [if_pos rfl] at h
  obtain ⟨h1, h2⟩ := List.getElem?_eq_some_iff.1 hx
  obtain ⟨h3, h4⟩ := List.getElem?_eq_some_iff.1 hy
  rw [h, List.drop_eq_getElem_cons h1, List.drop_eq_getElem_cons h3, h2, h4]
  simp only [firstD]
theorem Ahead.end_a {a b : List Int} {i : Nat} {D : Int} (h : Ahead a b i D) (hi : a.length ≤ i) : firstD a b = D := by
  unfold Ahead at h
  by_cases hD : D = 0
  · rw [if_pos hD, List.drop_eq_nil_of_le hi, firstD_nil] at h; rw [h, hD]
  · rw [if_neg hD] at h; exact h
theorem Ahead.end_b {a b : List Int} {i : Nat} {D : Int} (h : Ahead a b i D) (hi : b.length ≤ i) : firstD a b = D := by
  unfold Ahead at h
  by_cases hD : D = 0
  · rw [if_pos hD, List.drop_eq_nil_of_le hi, firstD_nil'] at h; rw [h, hD]
  · rw [if_neg hD] at h; exact h
theorem Ahead.end_d {a b : List Int} {i : Nat} {D : Int} (h : Ahead a b i D) (hD : D ≠ 0) : firstD a b = D := by
  unfold Ahead at h; rw [if_neg hD] at h; exact h
theorem rankV_right (x : Bool) (ID : Nat) (r : Bool) : rightB (rankV x ID r) = true := by
  cases x
  · simp only [rankV, Bool.false_eq_true, if_false, rankS, rightB_append, bitRow_right]; cases r <;> decide
  · simp only [rankV, if_true, rankX, rightB_append, bitRow_right]; cases r <;> decide

end Go.Proofs.Ythjhccdpjgdblaa
