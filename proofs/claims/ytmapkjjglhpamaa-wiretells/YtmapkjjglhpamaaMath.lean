/-
  Numbers and their rows of bits: no Go.
-/
import Derived.Test.YtmapkjjglhpamaaAt
namespace Go.Proofs.Ytmapkjjglhpamaa
open Go.RowKit

theorem getOk_bitRow (n many : Nat) (h : many ≤ 32) : getOk (bitRow n many many) = true := by
  simp [getOk, bitRow_len, bitRow_right, h]

theorem putOk_nat {num many : Nat} : PutOk num many ↔ many ≤ 32 ∧ num < 2 ^ many := by
  unfold PutOk
  rw [Int.toNat_natCast]
  have e : ((2 : Int) ^ many) = ((2 ^ many : Nat) : Int) := by simp
  rw [e]
  omega

end Go.Proofs.Ytmapkjjglhpamaa
