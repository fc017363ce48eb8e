/-
  BitsOrder: of two numbers of as many bits the lesser one has 0 where they first differ.
-/
import Derived.Test.YtneojggippiloaaMath
import Derived.Deep.QuietTactic
import Derived.BigQuiet
namespace Go.Proofs.Ytneojggippiloaa
open Go.RowKit

theorem bitRow_at (n many k j : Nat) (h : j < k) : (bitRow n many k)[j]? = some (bitAt n many j) := by simp [bitRow, h]
theorem bitRow_congr {a b many : Nat} : ∀ k, (∀ j, j < k → bitAt a many j = bitAt b many j) → bitRow a many k = bitRow b many k := by
  intro k h
  unfold bitRow
  exact List.map_congr_left fun j hj => h j (List.mem_range.1 hj)
/-- Alike up to bit k: alike above it. -/
theorem upper_alike {a b k : Nat} (ha : a < 2 ^ 32) (hb : b < 2 ^ 32) (hk : k ≤ 32) (h : ∀ j, j < k → bitAt a 32 j = bitAt b 32 j) : a / 2 ^ (32 - k) = b / 2 ^ (32 - k) := by
  rw [← numOf_bitRow ha k hk, ← numOf_bitRow hb k hk, bitRow_congr k h]
theorem first_less {a b k : Nat} (ha : a < 2 ^ 32) (hb : b < 2 ^ 32) (hk : k < 32) (h : ∀ j, j < k → bitAt a 32 j = bitAt b 32 j) (h0 : bitAt a 32 k = 0) (h1 : bitAt b 32 k = 1) : a < b := by
  have hu := upper_alike ha hb (by omega) h
  rw [show 32 - k = (32 - 1 - k) + 1 by omega, Nat.pow_succ, ← Nat.div_div_eq_div_mul, ← Nat.div_div_eq_div_mul] at hu
  unfold bitAt at h0 h1
  have hlt : a / 2 ^ (32 - 1 - k) < b / 2 ^ (32 - 1 - k) := by omega
  rcases Nat.lt_or_ge a b with h2 | h2
  · exact h2
  · have := Nat.div_le_div_right (c := 2 ^ (32 - 1 - k)) h2
    omega
theorem all_alike {a b : Nat} (ha : a < 2 ^ 32) (hb : b < 2 ^ 32) (h : ∀ j, j < 32 → bitAt a 32 j = bitAt b 32 j) : a = b := by
  have := upper_alike ha hb (Nat.le_refl _) h
  simpa using this

set_option maxRecDepth 100000 in
set_option maxHeartbeats 2000000 in
theorem bitsOrder_walk (a b : Nat) (ha : a < 4294967296) (hb : b < 4294967296) (w : World) :
    Calls Try.prog 8 #[.int .u32 a, .int .u32 b] w fun e w' => e = .returned (.bool true) ∧ Below w.heap.size w w' := by
  go_enter Try.func8, Try.ntmps8
  go_wp2_with fail
  refine (head_any _).mono ?_
  rintro e w1 ⟨rfl, hB1⟩
  go_wp2_with fail
  refine (put_yes_at _ _ a 32 rfl rfl (by omega) (by omega) _).mono ?_
  rintro e w2 ⟨A2, rfl, hr2, hB2⟩
  go_wp2_with fail
  refine (put_yes_at _ _ b 32 rfl rfl (by omega) (by omega) _).mono ?_
  rintro e w3 ⟨A3, rfl, hr3, hB3⟩
  have r2 := hr2.to hB3
  have hBB := below_then hB1 (below_then hB2 hB3)
  go_wp2_with fail
  go_loopw [10] (fun i wr => ∃ k q : Nat, k ≤ 32 ∧ i = .int .i64 k ∧ (∀ j, j < k → bitAt a 32 j = bitAt b 32 j) ∧ wr = w3.drewN q) (fun i _ => 32 - (intOf i).toNat)
  case atStart => exact ⟨0, 0, Nat.zero_le _, rfl, fun j hj => absurd hj (by omega), rfl⟩
  case round =>
    obtain ⟨k, q, hk, rfl, hal, rfl⟩ := hrel
    have Hal := Lib.hid hal
    clear hal
    by_cases hlt : k < 32
    · obtain ⟨ad, x, rfl, hx, hc⟩ := r2.get_ (k := k) (by rw [bitRow_len]; exact hlt)
      obtain ⟨ad', y, rfl, hy, hc'⟩ := hr3.get_ (k := k) (by rw [bitRow_len]; exact hlt)
      rw [bitRow_at _ _ _ _ hlt] at hx hy
      have hx' : bitAt a 32 k = x := Option.some.inj hx
      have hy' : bitAt b 32 k = y := Option.some.inj hy
      have Hx := Lib.hid hx'
      have Hy := Lib.hid hy'
      have h01 := bitAt_01 a 32 k
      have h01' := bitAt_01 b 32 k
      rw [hx'] at h01
      rw [hy'] at h01'
      clear hx hy hx' hy'
      by_cases hxy : x = y
      · have hd2 : (x != y) = false := by simp [hxy]
        have Hxy := Lib.hid hxy
        clear hxy h01 h01'
        go_wp2
        go_quiet (fail)
        go_wp2
        refine ⟨⟨k + 1, _, by omega, by go_num, fun j hj => ?_, rfl⟩, by simp [intOf]; omega⟩
        by_cases hjk : j < k
        · exact Hal.out j hjk
        · obtain rfl : j = k := by omega
          rw [Hx.out, Hy.out, Hxy.out]
      · rcases h01 with rfl | rfl
        · obtain rfl : y = 1 := by omega
          have hab : a < b := first_less (by omega) (by omega) hlt Hal.out Hx.out Hy.out
          have dab : decide (a < b) = true := by simp; omega
          clear hxy h01'
          go_wp2
          go_quiet (fail)
          go_wp2
          go_ret
          exact ⟨rfl, by first | exact below_drewN' hBB _ | exact below_drewN' (below_drewN' hBB _) _⟩
        · obtain rfl : y = 0 := by omega
          have hab : b < a := first_less (by omega) (by omega) hlt (fun j hj => (Hal.out j hj).symm) Hy.out Hx.out
          have dab : decide (a < b) = false := by simp; omega
          clear hxy h01'
          go_wp2
          go_quiet (fail)
          go_wp2
          go_ret
          exact ⟨rfl, by first | exact below_drewN' hBB _ | exact below_drewN' (below_drewN' hBB _) _⟩
    · obtain rfl : k = 32 := by omega
      obtain rfl : a = b := all_alike (by omega) (by omega) Hal.out
      go_wp2
      go_ret
      exact ⟨rfl, by first | exact below_drewN' hBB _ | exact below_drewN' (below_drewN' hBB _) _⟩

end Go.Proofs.Ytneojggippiloaa
