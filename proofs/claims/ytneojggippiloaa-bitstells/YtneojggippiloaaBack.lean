/-
  Rows, numbers and bytes, there and back: no Go.
-/
import Derived.Test.YtneojggippiloaaMath
namespace Go.Proofs.Ytneojggippiloaa
open Go.RowKit

theorem bitRow_snoc (N b n : Nat) (hb : b < 2) : bitRow (2 * N + b) (n + 1) (n + 1) = bitRow N n n ++ [(b : Int)] := by
  rw [bitRow_succ]
  have e1 : bitAt (2 * N + b) (n + 1) n = (b : Int) := by
    unfold bitAt
    rw [show n + 1 - 1 - n = 0 by omega, Nat.pow_zero, Nat.div_one]
    omega
  have e2 : bitRow (2 * N + b) (n + 1) n = bitRow N n n := by
    unfold bitRow
    apply List.map_congr_left
    intro j hj
    have hj' : j < n := List.mem_range.1 hj
    unfold bitAt
    rw [show n + 1 - 1 - j = (n - 1 - j) + 1 by omega, Nat.pow_succ, Nat.mul_comm (2 ^ (n - 1 - j)) 2, ← Nat.div_div_eq_div_mul]
    rw [show (2 * N + b) / 2 = N by omega]
  rw [e1, e2]

theorem snoc_cases (l : List Int) : l = [] ∨ ∃ l' x, l = l' ++ [x] := by
  rcases List.eq_nil_or_concat l with h | ⟨l', x, h⟩
  · exact .inl h
  · exact .inr ⟨l', x, by simpa using h⟩

theorem bitRow_back : ∀ (n : Nat) (l : List Int), l.length = n → rightB l = true → bitRow (numOf l) n n = l
  | 0, l, h, _ => by obtain rfl := List.eq_nil_of_length_eq_zero h; rfl
  | n + 1, l, h, hr => by
    rcases snoc_cases l with rfl | ⟨l', x, rfl⟩
    · simp at h
    · rw [rightB_snoc] at hr
      simp only [Bool.and_eq_true, decide_eq_true_eq] at hr
      have hl : l'.length = n := by simpa using h
      rw [numOf_snoc, bitRow_snoc _ _ _ (by omega), bitRow_back n l' hl hr.1]
      congr 2
      omega

theorem byteBits_len (x : Int) : (byteBits x).length = 8 := by simp [byteBits, bitRow]
theorem spreadL_right : ∀ l : List Int, rightB (spreadL l) = true
  | [] => rfl
  | x :: l => by
    have h := spreadL_right l
    have h2 : rightB (byteBits x) = true := bitRow_right _ _ _
    unfold rightB at h h2 ⊢
    unfold spreadL at h ⊢
    rw [List.flatMap_cons, List.all_append, h, h2]
    rfl
theorem joinOk_spread (l : List Int) : joinOk (spreadL l) = true := by
  unfold joinOk
  rw [spreadL_right, spreadL_len]
  simp
theorem rightB_append (a b : List Int) : rightB (a ++ b) = (rightB a && rightB b) := by simp [rightB]

theorem joinTo_cons (c l : List Int) (h : c.length = 8) (k : Nat) : joinTo (c ++ l) (k + 1) = ((numOf c : Nat) : Int) :: joinTo l k := by
  unfold joinTo
  rw [List.range_succ_eq_map, List.map_cons, List.map_map]
  congr 1
  · simp [← h]
  · apply List.map_congr_left
    intro i _
    simp only [Function.comp]
    rw [show 8 * (i + 1) = c.length + 8 * i by omega, List.drop_append, List.drop_eq_nil_of_le (by omega)]
    simp
theorem joinL_spread : ∀ {b : List Int}, byteB b → joinL (spreadL b) = b
  | [], _ => rfl
  | x :: b, h => by
    have ih := joinL_spread (b := b) (fun z hz => h z (by simp [hz]))
    have hx := h x (by simp)
    have e : spreadL (x :: b) = byteBits x ++ spreadL b := by simp [spreadL]
    unfold joinL at ih ⊢
    rw [spreadL_len] at ih ⊢
    rw [show 8 * b.length / 8 = b.length by omega] at ih
    rw [show 8 * (x :: b).length / 8 = b.length + 1 by simp, e, joinTo_cons _ _ (byteBits_len x), ih]
    congr 1
    unfold byteBits
    rw [numOf_back (by omega)]
    omega
theorem spread_joinL : ∀ (k : Nat) (l : List Int), l.length = 8 * k → rightB l = true → spreadL (joinL l) = l
  | 0, l, h, _ => by obtain rfl := List.eq_nil_of_length_eq_zero (by omega : l.length = 0); rfl
  | k + 1, l, h, hr => by
    obtain ⟨c, r, hc, rfl⟩ : ∃ c r, c.length = 8 ∧ l = c ++ r := ⟨l.take 8, l.drop 8, by simp; omega, (List.take_append_drop 8 l).symm⟩
    rw [rightB_append, Bool.and_eq_true] at hr
    have hl : r.length = 8 * k := by simp at h; omega
    have ih := spread_joinL k r hl hr.2
    unfold joinL at ih ⊢
    rw [hl, show 8 * k / 8 = k by omega] at ih
    rw [h, show 8 * (k + 1) / 8 = k + 1 by omega, joinTo_cons _ _ hc]
    have e : spreadL (((numOf c : Nat) : Int) :: joinTo r k) = byteBits (numOf c : Nat) ++ spreadL (joinTo r k) := by simp [spreadL]
    rw [e, ih]
    congr 1
    unfold byteBits
    rw [Int.toNat_natCast]
    exact bitRow_back 8 c hc hr.1

end Go.Proofs.Ytneojggippiloaa
