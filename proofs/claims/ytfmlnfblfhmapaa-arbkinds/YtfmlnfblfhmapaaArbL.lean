/-
  Ranks of right frames are comparable; the least of some; frames that are written out in the text.
-/
import Derived.Test.YtfmlnfblfhmapaaArbN
namespace Go.Proofs.Ytfmlnfblfhmapaa
open Go.RowKit
set_option linter.unusedVariables false
set_option linter.unusedSimpArgs false

theorem rightB_app (a b : List Int) : rightB (a ++ b) = (rightB a && rightB b) := by simp [rightB]
theorem flag_right (r : Bool) : rightB [flag r] = true := by cases r <;> decide
theorem flag_right2 (r : Bool) : rightB [flag r, 0] = true := by cases r <;> decide
theorem rankV_right (x : Bool) (ID : Nat) (r : Bool) : rightB (rankV x ID r) = true := by
  cases x
  · simp only [rankV, rankS, Bool.false_eq_true, if_false]
    rw [rightB_app, bitRow_right, flag_right2]; rfl
  · simp only [rankV, rankX, if_true]
    rw [rightB_app, rightB_app, rightB_app, bitRow_right, bitRow_right, flag_right]; decide
theorem rankF_right (f : FV) : rightB (rankF f) = true := rankV_right _ _ _
theorem rankF_ne (f : FV) : rankF f ≠ [] := by
  intro e
  have := rankF_len f
  rw [e] at this
  cases h : f.x <;> rw [h] at this <;> cases this
theorem rankF_le (f : FV) : (rankF f).length ≤ 32 := by rw [rankF_len]; cases f.x <;> decide

theorem first_diff : ∀ (m : Nat) (a b : List Int), m ≤ a.length → m ≤ b.length → a.take m ≠ b.take m → ∃ k x y, k < m ∧ a.take k = b.take k ∧ a[k]? = some x ∧ b[k]? = some y ∧ x ≠ y
  | 0, a, b, _, _, h => absurd (by simp) h
  | m + 1, [], b, h, _, _ => by simp at h
  | m + 1, _ :: _, [], _, h, _ => by simp at h
  | m + 1, x :: a, y :: b, ha, hb, h => by
    by_cases e : x = y
    · subst e
      obtain ⟨k, u, v, h1, h2, h3, h4, h5⟩ := first_diff m a b (by simpa using ha) (by simpa using hb) (by simpa using h)
      exact ⟨k + 1, u, v, by omega, by simp [h2], by simpa using h3, by simpa using h4, h5⟩
    · exact ⟨0, x, y, by omega, by simp, by simp, by simp, e⟩
theorem cmp_of {a b : List Int} (ha : rightB a = true) (hb : rightB b = true) {k : Nat} {x y : Int} (h1 : a.take k = b.take k) (h2 : a[k]? = some x) (h3 : b[k]? = some y) (h4 : x ≠ y) : lessR a b ∨ lessR b a := by
  rcases rightB_at ha h2 with rfl | rfl <;> rcases rightB_at hb h3 with rfl | rfl
  · exact absurd rfl h4
  · exact .inl ⟨k, h1, h2, h3⟩
  · exact .inr ⟨k, h1.symm, h3, h2⟩
  · exact absurd rfl h4
/-- Of two right frames' ranks one is ahead of the other, if they are not alike. -/
theorem rank_cmp {f g : FV} (hf : FOk f) (hg : FOk g) : rankF f = rankF g ∨ lessR (rankF f) (rankF g) ∨ lessR (rankF g) (rankF f) := by
  obtain ⟨a, ha, ia⟩ := hf
  obtain ⟨b, hb, ib⟩ := hg
  have ea : rankF f = rankV f.x a f.r := by unfold rankF; rw [ha]; simp
  have eb : rankF g = rankV g.x b g.r := by unfold rankF; rw [hb]; simp
  rw [ea, eb]
  by_cases h : (rankV f.x a f.r).take (min (rn f.x) (rn g.x)) = (rankV g.x b g.r).take (min (rn f.x) (rn g.x))
  · obtain ⟨h1, h2, h3⟩ := (rankV_pre ia ib).1 h
    left
    rw [h1, h2, h3]
  · right
    obtain ⟨k, x, y, _, h1, h2, h3, h4⟩ := first_diff _ _ _ (by rw [rankV_len]; omega) (by rw [rankV_len]; omega) h
    exact cmp_of (rankV_right _ _ _) (rankV_right _ _ _) h1 h2 h3 h4
theorem ranks_mem {fs : List FV} {r : List Int} (h : r ∈ ranks fs) : ∃ f ∈ fs, rankF f = r := by
  obtain ⟨f, h1, h2⟩ := List.mem_map.1 h
  exact ⟨f, h1, h2⟩
theorem least_fs (fs : List FV) (hok : ∀ f ∈ fs, FOk f) : ∃ W q, LeastE W (ranks fs) ∧ W.length = q ∧ q ≤ 32 := by
  obtain ⟨W, hW⟩ := least_ex (ranks fs) (fun a ha b hb => by
      obtain ⟨f, hf, rfl⟩ := ranks_mem ha
      obtain ⟨g, hg, rfl⟩ := ranks_mem hb
      exact rank_cmp (hok f hf) (hok g hg)) (fun r hr => by
      obtain ⟨f, hf, rfl⟩ := ranks_mem hr
      exact rankF_right f) (fun r hr => by
      obtain ⟨f, hf, rfl⟩ := ranks_mem hr
      exact rankF_ne f)
  refine ⟨W, _, hW, rfl, ?_⟩
  by_cases e : W = []
  · rw [e]; simp
  · obtain ⟨f, _, hf⟩ := ranks_mem (hW.mem e)
    rw [← hf]
    exact rankF_le f
theorem least_of (fs : List FV) (hok : ∀ f ∈ fs, FOk f) (f0 : FV) (h0 : f0 ∈ fs) (h : ∀ f ∈ fs, lessB (rankF f) (rankF f0) = false) : LeastE (rankF f0) (ranks fs) where
  all := by
    intro r hr
    obtain ⟨f, hf, rfl⟩ := ranks_mem hr
    rcases rank_cmp (hok f hf) (hok f0 h0) with e | e | e
    · exact .inl e
    · have := h f hf
      rw [lessB_yes e] at this
      cases this
    · exact .inr e
  mem := fun _ => List.mem_map.2 ⟨f0, h0, rfl⟩
  right := fun r hr => by
    obtain ⟨f, hf, rfl⟩ := ranks_mem hr
    exact rankF_right f
  rw_ := rankF_right f0
  none_ := fun e => by
    have : rankF f0 ∈ ranks fs := List.mem_map.2 ⟨f0, h0, rfl⟩
    rw [e] at this
    cases this
  pos := fun r hr => by
    obtain ⟨f, hf, rfl⟩ := ranks_mem hr
    exact rankF_ne f

/-- Frames, written out in the text. -/
theorem FRow.lit (W : World) (fs : List FV) {cs : Array Value} (hcs : cs = (fcells fs).toArray) {k : Nat} (hk : k = W.heap.size) : FRow (W.alloc (.cells cs 35)) (W.alloc (.cells cs 35)).heap.size (some ⟨k, 0, none⟩) fs := by
  subst hk hcs
  refine FRow.of_cells (by simp) fun j u hu => ?_
  rw [add0]
  have hb := World.alloc_heap_new W (.cells (fcells fs).toArray 35)
  simp only [World.cell?, hb]
  simpa using hu

end Go.Proofs.Ytfmlnfblfhmapaa
