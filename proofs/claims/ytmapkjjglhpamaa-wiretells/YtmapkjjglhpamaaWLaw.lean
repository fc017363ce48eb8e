/-
  What the statements of layer 5 ask of lists: no Go.
-/
import Derived.Test.YtmapkjjglhpamaaWPass
namespace Go.Proofs.Ytmapkjjglhpamaa
open Go.RowKit

theorem sent_ten (T : List Int) : sentV T = stuffL (bareV T) ++ tenV 1 := rfl
theorem set_ten (S : List Int) (j : Nat) (b : Int) (X : List Int) : (S ++ X).set (S.length + j) b = S ++ X.set j b := by
  rw [List.set_append_right _ _ (by omega)]
  congr 1
  congr 1
  omega
theorem get_ten (S X : List Int) (j : Nat) : (S ++ X).getD (S.length + j) 0 = X.getD j 0 := by
  simp [List.getD, List.getElem?_append_right]
theorem heard_ten {T : List Int} {K : Nat} (hK : (sentV T).length = K + 9) (more : List Int) : (sentV T ++ more).set K 0 = stuffL (bareV T) ++ (tenV 0 ++ more) := by
  have hl := sentV_len T
  rw [hK] at hl
  obtain rfl : K = (stuffL (bareV T)).length + 1 := by omega
  rw [sent_ten, List.append_assoc, set_ten]
  rfl
theorem heardV_ten (T : List Int) : heardV T = stuffL (bareV T) ++ tenV 0 := by
  have hl := sentV_len T
  have := heard_ten (T := T) (K := (sentV T).length - 9) (by omega) []
  simpa [heardV] using this
theorem heard_at (T : List Int) {j : Nat} (hj : j < 10) : (heardV T)[(stuffL (bareV T)).length + j]? = some (if j = 1 then 0 else 1) := by
  rw [heardV_ten, List.getElem?_append_right (by omega), Nat.add_sub_cancel_left]
  have : j = 0 ∨ j = 1 ∨ j = 2 ∨ j = 3 ∨ j = 4 ∨ j = 5 ∨ j = 6 ∨ j = 7 ∨ j = 8 ∨ j = 9 := by omega
  rcases this with rfl | rfl | rfl | rfl | rfl | rfl | rfl | rfl | rfl | rfl <;> rfl
theorem stuffF_right : ∀ (l : List Int) (s : Int × Nat), rightB l = true → rightB (stuffF s l) = true
  | [], _, _ => rfl
  | x :: l, s, hr => by
    have hx : x = 0 ∨ x = 1 := rightB_at hr (k := 0) rfl
    have hl : rightB l = true := rightB_drop hr 1
    simp only [stuffF]
    split
    · have := stuffF_right l (1 - x, 1) hl
      unfold rightB at this ⊢
      rw [List.all_cons, List.all_cons, this]
      rcases hx with rfl | rfl <;> simp
    · have := stuffF_right l (tick s x) hl
      unfold rightB at this ⊢
      rw [List.all_cons, this]
      rcases hx with rfl | rfl <;> simp
theorem sent_min (T : List Int) : T.length + 25 ≤ (sentV T).length := by
  rw [sentV_len]
  have := (stuffL_len (bareV T)).1
  rw [bareV_len] at this
  omega
section
variable {T : List Int} {f : Fr} (h : HeadOf T f)
include h
theorem sent_back (more : List Int) {K : Nat} (hK : (sentV T).length = K + 9) : wireRd (sentV T ++ more) = (f, 5, (K : Int)) := by
  have hl := sentV_len T
  rw [hK] at hl
  have e : sentV T ++ more = stuffL (bareV T) ++ (tenV 1 ++ more) := by rw [sent_ten, List.append_assoc]
  unfold wireRd
  rw [e, pass_all h, ten_all, get_ten]
  rw [if_neg (by simp [tenV])]
  congr 2
  omega
theorem heard_back (more : List Int) {K : Nat} (hK : (sentV T).length = K + 9) : wireRd ((sentV T ++ more).set K 0) = (f, 0, -1) := by
  rw [heard_ten hK]
  unfold wireRd
  rw [pass_all h, ten_all, get_ten, if_pos (by simp [tenV])]
theorem heard_cut {k : Nat} (hk : k < (sentV T).length) : wireRd ((heardV T).take k) = (Fr.none_, 1, (k : Int)) := by
  have hl := sentV_len T
  rw [heardV_ten]
  unfold wireRd
  by_cases hM : k < (stuffL (bareV T)).length
  · rw [List.take_append_of_le_length (Nat.le_of_lt hM)]
    exact pass_cut h _ k hM
  · obtain ⟨j, rfl⟩ : ∃ j, k = (stuffL (bareV T)).length + j := ⟨k - (stuffL (bareV T)).length, by omega⟩
    rw [List.take_append, List.take_of_length_le (by omega), Nat.add_sub_cancel_left, pass_all h, ten_cut _ _ _ _ _ (by omega)]
theorem heard_flip1 {K : Nat} (hK : (sentV T).length = K + 9) : wireRd ((heardV T).set K 1) = (f, 5, (K : Int)) := by
  have e : (heardV T).set K 1 = sentV T ++ [] := by
    have hl := sentV_len T
    rw [hK] at hl
    obtain rfl : K = (stuffL (bareV T)).length + 1 := by omega
    rw [heardV_ten, set_ten, sent_ten, List.append_nil]
    rfl
  rw [e]
  exact sent_back h [] hK
theorem heard_flip {j : Nat} (hj : j < 10) (h1 : j ≠ 1) : wireRd ((heardV T).set ((stuffL (bareV T)).length + j) 0) = (Fr.none_, 3, (((stuffL (bareV T)).length + j : Nat) : Int)) := by
  rw [heardV_ten, set_ten]
  unfold wireRd
  have := ten_flip (stuffL (bareV T) ++ (tenV 0).set j 0) (stuffL (bareV T)).length f 0 j hj h1 []
  rw [List.append_nil] at this
  rw [pass_all h, this]
theorem sent_right : rightB (sentV T) = true := by
  unfold sentV
  rw [rightB_append]
  have : rightB (stuffL (bareV T)) = true := stuffF_right _ _ (bareV_right h.right)
  rw [this]
  rfl
end
theorem row_set {κ : IntKind} {w : World} {B : Nat} {A : Option Addr} {l : List Int} (h : Row κ w B A l) {g k : Nat} {v : Value} (hg : l = [] ∨ ∃ ad, A = some ad ∧ ad.block ≠ g) : Row κ (w.setCell ⟨g, k, none⟩ v) B A l := by
  rcases h with e | ⟨ad, e, hlt, hc⟩
  · exact .inl e
  · rcases hg with e' | ⟨ad', e', hne⟩
    · exact .inl e'
    · rw [e] at e'; cases e'
      exact .inr ⟨ad, e, hlt, fun j x hx => (World.cell?_of_block (Below.heap_setCell _ _ _ _ (by simp [addr_block]; exact hne))).trans (hc j x hx)⟩
theorem set_right {l : List Int} (hr : rightB l = true) (k : Nat) (b : Int) (hb : b = 0 ∨ b = 1) : rightB (l.set k b) = true := by
  unfold rightB at hr ⊢
  rw [List.all_eq_true] at hr ⊢
  intro x hx
  rcases List.mem_or_eq_of_mem_set hx with h | h
  · exact hr x h
  · subst h; simpa using hb

end Go.Proofs.Ytmapkjjglhpamaa
