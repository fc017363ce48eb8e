/-
  Sent forms told apart; what they share; their runs and lengths: lists, no Go.
-/
import Derived.Test.YtmapkjjglhpamaaWLaw
namespace Go.Proofs.Ytmapkjjglhpamaa
open Go.RowKit

theorem pre_eq {a b : List Int} {n : Nat} (hn : n = min a.length b.length) (h : a.take n = b.take n) (hab : a.length ≤ b.length) : ∃ more, b = a ++ more := by
  have e : n = a.length := by omega
  rw [e, List.take_length] at h
  exact ⟨b.drop a.length, by conv => lhs; rw [← List.take_append_drop a.length b]; rw [← h]⟩
theorem apart {T T' : List Int} {f f' : Fr} (hO : HeadOf T f) (hO' : HeadOf T' f') (hT : f = f' → T = T') {n : Nat} (hn : n = min (sentV T).length (sentV T').length) : (sentV T).take n = (sentV T').take n ↔ f = f' := by
  constructor
  · intro h
    have e1 := sentV_len T
    have e2 := sentV_len T'
    have r1 := sent_back hO [] (K := (sentV T).length - 9) (by omega)
    have r2 := sent_back hO' [] (K := (sentV T').length - 9) (by omega)
    rw [List.append_nil] at r1 r2
    by_cases hab : (sentV T).length ≤ (sentV T').length
    · obtain ⟨more, hm⟩ := pre_eq hn h hab
      have := sent_back hO more (K := (sentV T).length - 9) (by omega)
      rw [← hm, r2] at this
      exact (congrArg Prod.fst this).symm
    · obtain ⟨more, hm⟩ := pre_eq (a := sentV T') (b := sentV T) (by omega) h.symm (by omega)
      have := sent_back hO' more (K := (sentV T').length - 9) (by omega)
      rw [← hm, r1] at this
      exact congrArg Prod.fst this
  · intro h
    rw [hT h]
theorem sent_take {T : List Int} {n : Nat} (hn : n ≤ T.length) : (sentV T).take n = (stuffL (T.take n)).take n := by
  have e1 : (bareV T).take n = T.take n := by unfold bareV; rw [List.take_append_of_le_length hn]
  have e2 := (stuffL_len (T.take n)).1
  rw [List.length_take, Nat.min_eq_left hn] at e2
  obtain ⟨s, hs⟩ := stuffF_take (bareV T) (0, 0) n
  rw [e1] at hs
  unfold sentV
  have hs' : stuffL (bareV T) = stuffL (T.take n) ++ s := hs.symm
  rw [hs', List.append_assoc, List.take_append_of_le_length e2]
theorem shares {T T' : List Int} {n : Nat} (h1 : n ≤ T.length) (h2 : n ≤ T'.length) (h : T.take n = T'.take n) : (sentV T).take n = (sentV T').take n := by
  rw [sent_take h1, sent_take h2, h]

theorem runs_pre : ∀ (l : List Int) (s : Int × Nat) (k : Nat), 1 ≤ k → k ≤ l.length → ((l.take k).foldl tick s).2 ≤ runsF s l
  | [], _, k, h1, h2 => by simp at h2; omega
  | x :: l, s, k, h1, h2 => by
    obtain ⟨j, rfl⟩ : ∃ j, k = j + 1 := ⟨k - 1, by omega⟩
    rw [List.take_succ_cons, List.foldl_cons]
    simp only [runsF]
    by_cases hj : j = 0
    · subst hj; simp; omega
    · have := runs_pre l (tick s x) j (by omega) (by simpa using h2)
      omega
theorem sent_run {T : List Int} {k : Nat} (hk : k + 1 ≤ (stuffL (bareV T)).length) : (runOf ((sentV T).take (k + 1))).2 ≤ 5 := by
  unfold sentV
  rw [List.take_append_of_le_length hk]
  have h1 := runs_pre (stuffL (bareV T)) (0, 0) (k + 1) (by omega) hk
  have h2 := runs_stuffF (bareV T) (0, 0) (by simp)
  unfold runOf
  unfold stuffL at h1
  unfold stuffL
  omega
theorem sent_one {T : List Int} {j : Nat} (hj : j < 10) : (sentV T)[(stuffL (bareV T)).length + j]? = some 1 := by
  unfold sentV
  rw [List.getElem?_append_right (by omega), Nat.add_sub_cancel_left]
  unfold ones
  rw [List.getElem?_replicate, if_pos hj]
theorem sent_most {T : List Int} {x : Bool} {m : Nat} (hT : T.length = hn x + 8 * m) : (sentV T).length ≤ mostV x m := by
  have h1 := (stuffL_len (bareV T)).2
  have h2 := (stuffL_len (bareV T)).1
  rw [bareV_len, hT] at h1 h2
  rw [sentV_len]
  cases x <;> simp only [mostV, hn, if_true, if_false, Bool.false_eq_true] at h1 h2 ⊢ <;> omega
theorem run_next {l : List Int} {k : Nat} {x : Int} (hx : l[k]? = some x) : runOf (l.take (k + 1)) = tick (runOf (l.take k)) x := by rw [take_snoc hx, runOf_snoc]
theorem run_last {l : List Int} {k : Nat} {y : Int} (hy : l[k]? = some y) : (runOf (l.take (k + 1))).1 = y := by rw [run_next hy, tick_fst]

end Go.Proofs.Ytmapkjjglhpamaa
