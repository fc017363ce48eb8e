/-
  Numbers and their rows of bits: no Go.
-/
import Derived.Test.YtneojggippiloaaAt
namespace Go.Proofs.Ytneojggippiloaa
open Go.RowKit

theorem bitRow_len (n many k : Nat) : (bitRow n many k).length = k := by simp [bitRow]
theorem bitRow_succ (n many k : Nat) : bitRow n many (k + 1) = bitRow n many k ++ [bitAt n many k] := by simp [bitRow, List.range_succ]
theorem bitAt_01 (n many k : Nat) : bitAt n many k = 0 ∨ bitAt n many k = 1 := by unfold bitAt; omega
theorem bitRow_right (n many : Nat) : ∀ k, rightB (bitRow n many k) = true
  | 0 => rfl
  | k + 1 => by
    rw [bitRow_succ, rightB_snoc, bitRow_right n many k]
    simpa using bitAt_01 n many k
theorem numOf_bitRow {n many : Nat} (h : n < 2 ^ many) : ∀ k, k ≤ many → numOf (bitRow n many k) = n / 2 ^ (many - k)
  | 0, _ => by simp [bitRow, numOf, Nat.div_eq_of_lt h]
  | k + 1, hk => by
    rw [bitRow_succ, numOf_snoc, numOf_bitRow h k (by omega)]
    have e : many - k = (many - 1 - k) + 1 := by omega
    have e2 : many - (k + 1) = many - 1 - k := by omega
    rw [e, e2, Nat.pow_succ, ← Nat.div_div_eq_div_mul]
    unfold bitAt
    omega
theorem numOf_back {n many : Nat} (h : n < 2 ^ many) : numOf (bitRow n many many) = n := by
  rw [numOf_bitRow h many (Nat.le_refl _), Nat.sub_self, Nat.pow_zero, Nat.div_one]
theorem getOk_bitRow (n many : Nat) (h : many ≤ 32) : getOk (bitRow n many many) = true := by
  simp [getOk, bitRow_len, bitRow_right, h]

theorem putOk_nat {num many : Nat} : PutOk num many ↔ many ≤ 32 ∧ num < 2 ^ many := by
  unfold PutOk
  rw [Int.toNat_natCast]
  have e : ((2 : Int) ^ many) = ((2 ^ many : Nat) : Int) := by simp
  rw [e]
  omega

/-- A slice of whole numbers that came in, as the frame of a row tells it. -/
theorem row_of_arg {k : IntKind} {w : World} {a : Option Addr} {len cap : Nat} {zs : List Int}
    (h : (a = none ∧ len = 0 ∧ cap = 0 ∧ zs = []) ∨ ∃ x, a = some x ∧ len ≤ cap ∧ cap ≤ maxLen ∧ zs.length = cap ∧ (∀ i, i < zs.length → w.cell? (x.add i) = some (.int k (zs.getD i 0))) ∧ ∀ n ∈ zs, (Lit.int k n).wf = true) :
    ∃ l : List Int, l.length = len ∧ Row k w w.heap.size a l ∧ len ≤ cap ∧ cap ≤ maxLen ∧ ∀ n ∈ l, (Lit.int k n).wf = true := by
  rcases h with ⟨rfl, rfl, rfl, rfl⟩ | ⟨x, rfl, hl, hm, hz, hc, hw⟩
  · exact ⟨[], rfl, .inl rfl, Nat.le_refl _, by decide, by simp⟩
  · refine ⟨zs.take len, by simp; omega, ?_, hl, hm, fun n hn => hw n (List.mem_of_mem_take hn)⟩
    by_cases h0 : len = 0
    · left; subst h0; simp
    · right
      refine ⟨x, rfl, ?_, fun j y hy => ?_⟩
      · have h1 := hc 0 (by omega)
        rcases Nat.lt_or_ge x.block w.heap.size with h2 | h2
        · exact h2
        · exfalso
          have : (x.add 0).block = x.block := addr_block _ _
          simp [World.cell?, this, Array.getElem?_eq_none h2] at h1
      · rw [List.getElem?_take] at hy
        split at hy
        · rename_i hj
          rw [hc j (by omega)]
          simp [List.getD, hy]
        · cases hy

end Go.Proofs.Ytneojggippiloaa
