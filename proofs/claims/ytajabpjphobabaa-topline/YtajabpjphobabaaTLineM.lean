/-
  Two frames of unlike ranks on the wire: where they first differ: lists alone.
-/
import Derived.Test.YtajabpjphobabaaTMany
import Derived.Test.YtajabpjphobabaaTAp
namespace Go.Proofs.Ytajabpjphobabaa
open Go.RowKit
set_option linter.unusedVariables false
set_option linter.unusedSimpArgs false

theorem head_bit (x : Bool) (ID : Nat) (r : Bool) (L : Nat) (dl : List Int) (j : Nat) (hj : j < rn x) : (headV x ID r L dl)[j + 1]? = (rankV x ID r)[j]? := by
  rw [← headV_rank x ID r L dl, List.getElem?_take, if_pos hj, List.getElem?_drop, Nat.add_comm]
theorem head_first (x : Bool) (ID : Nat) (r : Bool) (L : Nat) (dl : List Int) : (headV x ID r L dl)[0]? = some 0 := by
  cases x <;> simp [headV]
theorem lessAt_lt {a b : List Int} {p : Nat} (h : lessAt a b p) : p < a.length ∧ p < b.length :=
  ⟨(List.getElem?_eq_some_iff.1 h.2.1).1, (List.getElem?_eq_some_iff.1 h.2.2).1⟩
theorem stuff_first (s : Int × Nat) (x : Int) (l : List Int) : ∃ t, stuffF s (x :: l) = x :: t := by
  unfold stuffF
  split
  · exact ⟨_, rfl⟩
  · exact ⟨_, rfl⟩
theorem parted {T : List Int} {k : Nat} {y : Int} (hy : T[k]? = some y) : T = T.take k ++ y :: T.drop (k + 1) := by
  conv => lhs; rw [← List.take_append_drop k T]
  congr 1
  obtain ⟨h1, h2⟩ := List.getElem?_eq_some_iff.1 hy
  rw [← h2]
  exact List.drop_eq_getElem_cons h1
theorem line_sent {T : List Int} {k : Nat} {y : Int} (hy : T[k]? = some y) : ∃ t, sentV T = stuffL (T.take k) ++ y :: t := by
  unfold sentV bareV
  have e : ∀ s, T ++ s = T.take k ++ (y :: (T.drop (k + 1) ++ s)) := fun s => by
    conv => lhs; rw [parted hy]
    simp
  rw [e (sumV T)]
  unfold stuffL
  rw [stuffF_append]
  obtain ⟨t, ht⟩ := stuff_first (stuffS (0, 0) (T.take k)) y (T.drop (k + 1) ++ sumV T)
  rw [ht]
  exact ⟨t ++ ones 10, by simp⟩
theorem line_math {x : Bool} {ID : Nat} {r : Bool} {L : Nat} {dl : List Int} {x' : Bool} {ID' : Nat} {r' : Bool} {L' : Nat} {dl' : List Int} {p : Nat}
    (h : lessAt (rankV x ID r) (rankV x' ID' r') p) : ∃ a t1 t2, p + 1 ≤ a.length ∧ sentV (headV x ID r L dl) = a ++ 0 :: t1 ∧ sentV (headV x' ID' r' L' dl') = a ++ 1 :: t2 := by
  obtain ⟨hl1, hl2⟩ := lessAt_lt h
  rw [rankV_len] at hl1 hl2
  have h1 : (headV x ID r L dl)[p + 1]? = some 0 := by rw [head_bit _ _ _ _ _ _ hl1]; exact h.2.1
  have h2 : (headV x' ID' r' L' dl')[p + 1]? = some 1 := by rw [head_bit _ _ _ _ _ _ hl2]; exact h.2.2
  have h3 : (headV x ID r L dl).take (p + 1) = (headV x' ID' r' L' dl').take (p + 1) := by
    apply List.ext_getElem?
    intro j
    rw [List.getElem?_take, List.getElem?_take]
    by_cases hj : j < p + 1
    · rw [if_pos hj, if_pos hj]
      cases j with
      | zero => rw [head_first, head_first]
      | succ j =>
        rw [head_bit _ _ _ _ _ _ (by omega), head_bit _ _ _ _ _ _ (by omega)]
        exact take_get h.1 (by omega)
    · rw [if_neg hj, if_neg hj]
  obtain ⟨t1, e1⟩ := line_sent h1
  obtain ⟨t2, e2⟩ := line_sent h2
  refine ⟨stuffL ((headV x ID r L dl).take (p + 1)), t1, t2, ?_, e1, by rw [e2, h3]⟩
  have hlen : ((headV x ID r L dl).take (p + 1)).length = p + 1 := by
    rw [List.length_take]
    have := (List.getElem?_eq_some_iff.1 h1).1
    omega
  have := (stuffL_len ((headV x ID r L dl).take (p + 1))).1
  omega
/-- What the walk asks of the two rows. -/
theorem line_rows {S1 S2 a t1 t2 : List Int} (e1 : S1 = a ++ 0 :: t1) (e2 : S2 = a ++ 1 :: t2) :
    a.length < S1.length ∧ a.length < S2.length ∧ S1[a.length]? = some 0 ∧ S2[a.length]? = some 1 ∧ ∀ k, k < a.length → ∃ y, S1[k]? = some y ∧ S2[k]? = some y := by
  subst e1 e2
  refine ⟨by simp, by simp, by simp, by simp, fun k hk => ⟨a[k], ?_, ?_⟩⟩
  · rw [List.getElem?_append_left hk, List.getElem?_eq_getElem hk]
  · rw [List.getElem?_append_left hk, List.getElem?_eq_getElem hk]
theorem ten {w : World} {G : Nat} {a0 a1 a2 a3 a4 a5 a6 a7 a8 a9 : Value} {t : TypeId} (h : w.heap[G]? = some (.cells #[a0, a1, a2, a3, a4, a5, a6, a7, a8, a9] t)) :
    (w.cell? ⟨G, 0, none⟩ = some a0 ∧ w.cell? ⟨G, 1, none⟩ = some a1 ∧ w.cell? ⟨G, 2, none⟩ = some a2 ∧ w.cell? ⟨G, 3, none⟩ = some a3 ∧ w.cell? ⟨G, 4, none⟩ = some a4) ∧
    w.cell? ⟨G, 5, none⟩ = some a5 ∧ w.cell? ⟨G, 6, none⟩ = some a6 ∧ w.cell? ⟨G, 7, none⟩ = some a7 ∧ w.cell? ⟨G, 8, none⟩ = some a8 ∧ w.cell? ⟨G, 9, none⟩ = some a9 := by
  simp [World.cell?, h]
theorem two_at {w : World} {B : Nat} {ad : Addr} {a b : Int} (h : Row .i64 w B (some ad) [a, b]) : w.cell? ad = some (.int .i64 a) ∧ w.cell? ⟨ad.block, ad.off + 1, none⟩ = some (.int .i64 b) ∧ w.cell? (ad.add 0) = some (.int .i64 a) ∧ w.cell? (ad.add 1) = some (.int .i64 b) := by
  have h0 := Row.at_ h (k := 0) (x := a) rfl
  have h1 := Row.at_ h (k := 1) (x := b) rfl
  refine ⟨by simpa [Addr.add] using h0, by simpa [Addr.add] using h1, h0, h1⟩
theorem sentLine_most (x : Bool) (ID : Nat) (r : Bool) (L : Nat) (dl : List Int) {m : Nat} (hdl : dl.length = m) (hm : ¬ 8 < m) : (sentV (headV x ID r L dl)).length ≤ 100000 := by
  rw [sentV_len]
  have h1 := stuffL_most (bareV (headV x ID r L dl))
  rw [bareV_len, headV_len, hdl] at h1
  have h2 : hn x ≤ 39 := by cases x <;> decide
  omega
theorem sentLine_right (x : Bool) (ID : Nat) (r : Bool) (L : Nat) (dl : List Int) : rightB (sentV (headV x ID r L dl)) = true := by
  unfold sentV
  rw [rightB_append, stuffL, stuffF_right _ _ (bareV_right (headV_right _ _ _ _ _))]
  decide
theorem p_wrap {p q : Nat} (h : p < q) (hq : q ≤ 32) : wrap64 ((p : Int) + 1) = (p : Int) + 1 := by unfold wrap64; omega
theorem and_same {y : Int} (h : y = 0 ∨ y = 1) : andL [y, y] = y := by rcases h with rfl | rfl <;> decide

end Go.Proofs.Ytajabpjphobabaa
