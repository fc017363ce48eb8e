/-
  More about runs, stuffing and stripping, for the statements' walks: no Go.
-/
import Derived.Test.YtlbefdonpnignaaHead3
import Derived.Deep.RegionHeld3
namespace Go.Proofs.Ytlbefdonpnignaa
open Go.RowKit

theorem below_next {w W W' : World} (hS : Below w.heap.size w W) (hB : Below W.heap.size W W') : Below w.heap.size w W' := hS.trans (hB.mono hS.size)
theorem rightB_cons (x : Int) (l : List Int) : rightB (x :: l) = (decide (x = 0 ∨ x = 1) && rightB l) := rfl
theorem strip_right : ∀ (l : List Int) (s : Int × Nat), rightB l = true → rightB (stripF s l).1 = true
  | [], s, _ => rfl
  | x :: l, s, h => by
    rw [rightB_cons, Bool.and_eq_true] at h
    have ih := strip_right l (tick s x) h.2
    simp only [stripF]
    split
    · rfl
    · split
      · rw [rightB_cons, h.1, ih]; rfl
      · exact ih
theorem stuff_right : ∀ (l : List Int) (s : Int × Nat), rightB l = true → rightB (stuffF s l) = true
  | [], s, _ => rfl
  | x :: l, s, h => by
    rw [rightB_cons, Bool.and_eq_true] at h
    simp only [stuffF]
    split
    · rw [rightB_cons, rightB_cons, h.1, stuff_right l _ h.2]
      have := h.1
      simp only [decide_eq_true_eq] at this
      simp; omega
    · rw [rightB_cons, h.1, stuff_right l _ h.2]; rfl
theorem turned_right : ∀ {l : List Int}, rightB l = true → rightB (turned l) = true
  | [], _ => rfl
  | x :: l, h => by
    rw [rightB_cons, Bool.and_eq_true] at h
    have ih := turned_right (l := l) h.2
    simp only [turned, List.map_cons] at ih ⊢
    rw [rightB_cons, ih]
    have := h.1
    simp only [decide_eq_true_eq] at this
    simp; omega
theorem runsF_le : ∀ (l : List Int) (s : Int × Nat), runsF s l ≤ s.2 + l.length
  | [], s => by simp [runsF]
  | x :: l, s => by
    have := runsF_le l (tick s x)
    have := tick_le s x
    simp only [runsF, List.length_cons]
    omega
theorem runsL_le (l : List Int) : runsL l ≤ l.length := by
  have := runsF_le l (0, 0)
  simpa [runsL] using this
theorem runs_cases (l r : List Int) (p : Option Nat) (hS : stripL l = (r, p)) : (5 < runsL l ∧ ∃ q, p = some q ∧ q < l.length) ∨ (runsL l ≤ 5 ∧ (p = none ∨ p = some l.length)) := by
  have q3 := strip_runs l (0, 0) (by simp)
  rw [show stripF (0, 0) l = (r, p) from hS] at q3
  by_cases h : 5 < runsL l
  · exact .inl ⟨h, q3.1 h⟩
  · exact .inr ⟨Nat.not_lt.1 h, q3.2 (Nat.not_lt.1 h)⟩
/-- What is stripped of a stuffed row with more behind it. -/
theorem strip_more : ∀ (l t : List Int) (s : Int × Nat), s.2 ≤ 4 → stripF s (stuffF s l ++ t) = (l ++ (stripF (stuffS s l) t).1, (stripF (stuffS s l) t).2.map (· + (stuffF s l).length))
  | [], t, s, h => by simp [stuffF, stuffS]
  | x :: l, t, s, h => by
    have h1 := tick_le s x
    by_cases h5 : (tick s x).2 = 5
    · have ih := strip_more l t (1 - x, 1) (by simp)
      simp only [stuffF, stuffS, if_pos h5, List.cons_append, stripF, tick_opp]
      rw [if_neg (by omega), if_pos (by omega), if_neg (by simp), if_neg (by omega), ih]
      refine Prod.ext rfl ?_
      simp only [Option.map_map]
      congr 1
    · have ih := strip_more l t (tick s x) (by omega)
      simp only [stuffF, stuffS, if_neg h5, List.cons_append, stripF]
      rw [if_neg (by omega), if_pos (by omega), ih]
      refine Prod.ext rfl ?_
      simp only [Option.map_map]
      congr 1
/-- A row's last bit: it is put out alone, or with its opposite behind it; without that one the row ends too soon. -/
theorem stuff_last (l : List Int) (x : Int) : stuffL (l ++ [x]) = stuffL l ++ [x] ∨ (stuffL (l ++ [x]) = stuffL l ++ [x, 1 - x] ∧ stripL (stuffL l ++ [x]) = (l ++ [x], some ((stuffL l).length + 1))) := by
  have e := stuffF_append l [x] (0, 0)
  have h4 := stuffS_le l (0, 0) (by simp)
  by_cases h5 : (tick (stuffS (0, 0) l) x).2 = 5
  · right
    refine ⟨by show stuffF _ _ = stuffF _ _ ++ _; rw [e]; simp [stuffF, h5], ?_⟩
    show stripF _ (stuffF _ _ ++ _) = _
    rw [strip_more l [x] (0, 0) (by simp)]
    have h6 : (stuffS (0, 0) l).2 < 5 := by omega
    simp [stripF, h5, h6, stuffL]
    omega
  · left
    show stuffF _ _ = stuffF _ _ ++ _
    rw [e]
    simp [stuffF, h5]
theorem worstL_succ (k : Nat) : worstL (k + 1) = worstL k ++ [worstAt k] := by simp [worstL, List.range_succ]
theorem worstL_right (k : Nat) : rightB (worstL k) = true := by
  unfold rightB worstL
  rw [List.all_eq_true]
  intro x hx
  obtain ⟨i, _, rfl⟩ := List.mem_map.1 hx
  unfold worstAt
  simp only [decide_eq_true_eq]
  omega

end Go.Proofs.Ytlbefdonpnignaa
