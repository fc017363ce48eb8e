/-
  Rows, numbers and bytes, there and back: no Go.
-/
import Derived.Test.YtmapkjjglhpamaaMath
namespace Go.Proofs.Ytmapkjjglhpamaa
open Go.RowKit

theorem joinOk_spread (l : List Int) : joinOk (spreadL l) = true := by
  unfold joinOk
  rw [spreadL_right, spreadL_len]
  simp
theorem joinTo_cons (c l : List Int) (h : c.length = 8) (k : Nat) : joinTo (c ++ l) (k + 1) = ((numOf c : Nat) : Int) :: joinTo l k := by
  unfold joinTo
  rw [List.range_succ_eq_map, List.map_cons, List.map_map]
  congr 1
  · simp [← h]
  · apply List.map_congr_left
    intro i _
    simp only [Function.comp]
    rw [show 8 * (i + 1) = c.length + 8 * i by omega, List.drop_append, List.drop_eq_nil_of_le (by omega)]
    simp
theorem joinL_spread : ∀ {b : List Int}, byteB b → joinL (spreadL b) = b
  | [], _ => rfl
  | x :: b, h => by
    have ih := joinL_spread (b := b) (fun z hz => h z (by simp [hz]))
    have hx := h x (by simp)
    have e : spreadL (x :: b) = byteBits x ++ spreadL b := by simp [spreadL]
    unfold joinL at ih ⊢
    rw [spreadL_len] at ih ⊢
    rw [show 8 * b.length / 8 = b.length by omega] at ih
    rw [show 8 * (x :: b).length / 8 = b.length + 1 by simp, e, joinTo_cons _ _ (byteBits_len x), ih]
    congr 1
    unfold byteBits
    rw [numOf_back (by omega)]
    omega
theorem spread_joinL : ∀ (k : Nat) (l : List Int), l.length = 8 * k → rightB l = true → spreadL (joinL l) = l
  | 0, l, h, _ => by obtain rfl := List.eq_nil_of_length_eq_zero (by omega : l.length = 0); rfl
  | k + 1, l, h, hr => by
    obtain ⟨c, r, hc, rfl⟩ : ∃ c r, c.length = 8 ∧ l = c ++ r := ⟨l.take 8, l.drop 8, by simp; omega, (List.take_append_drop 8 l).symm⟩
    rw [rightB_append, Bool.and_eq_true] at hr
    have hl : r.length = 8 * k := by simp at h; omega
    have ih := spread_joinL k r hl hr.2
    unfold joinL at ih ⊢
    rw [hl, show 8 * k / 8 = k by omega] at ih
    rw [h, show 8 * (k + 1) / 8 = k + 1 by omega, joinTo_cons _ _ hc]
    have e : spreadL (((numOf c : Nat) : Int) :: joinTo r k) = byteBits (numOf c : Nat) ++ spreadL (joinTo r k) := by simp [spreadL]
    rw [e, ih]
    congr 1
    unfold byteBits
    rw [Int.toNat_natCast]
    exact bitRow_back 8 c hc hr.1

end Go.Proofs.Ytmapkjjglhpamaa
