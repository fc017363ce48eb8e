/-
  BitsBack: a number is got back from its bits, of which there are as many as were asked for; else Put says no, and rightly.
-/
import Derived.Test.YtneojggippiloaaMath
namespace Go.Proofs.Ytneojggippiloaa
open Go.RowKit

set_option maxRecDepth 100000 in
set_option maxHeartbeats 1000000 in
theorem bitsBack_yes (num many : Nat) (hm : many ≤ 32) (hn : num < 2 ^ many) (w : World) :
    Calls Try.prog 4 #[.int .i64 num, .int .i64 many] w fun e w' => e = .returned (.bool true) ∧ Below w.heap.size w w' := by
  have Hn := Lib.hid hn
  clear hn
  go_enter Try.func4, Try.ntmps4
  go_wp2_with fail
  refine (head_any _).mono ?_
  rintro e w1 ⟨rfl, hB1⟩
  go_wp2_with fail
  refine (put_yes_at num many num many rfl rfl hm Hn.out _).mono ?_
  rintro e w2 ⟨A, rfl, hr, hB2⟩
  go_wp2_with fail
  refine (get_yes_at (bitRow num many many) many (bitRow_len _ _ _) num (by rw [numOf_back Hn.out]) _ _ _ _ hr (getOk_bitRow _ _ hm)).mono ?_
  rintro e w' ⟨rfl, rfl⟩
  go_wp2_with fail
  refine (right_at (bitRow num many many) many (bitRow_len _ _ _) _ _ _ _ hr (by unfold maxLen; omega)).mono ?_
  rintro e w' ⟨rfl, rfl⟩
  rw [bitRow_right]
  have d1 : decide (0 ≤ (many : Int)) = true := by simp
  have d2 : decide ((many : Int) ≤ 32) = true := by simp; omega
  go_wp2_with fail
  go_ret
  exact ⟨rfl, below_then hB1 hB2⟩

set_option maxRecDepth 100000 in
set_option maxHeartbeats 1000000 in
theorem bitsBack_no (num many : Int) (h : ¬ PutOk num many) (w : World) :
    Calls Try.prog 4 #[.int .i64 num, .int .i64 many] w fun e w' => e = .returned (.bool true) ∧ Below w.heap.size w w' := by
  have H := Lib.hid h
  have key : many < 0 ∨ ∃ m : Nat, many = m ∧ (32 < m ∨ m ≤ 32 ∧ (num < 0 ∨ 0 ≤ num ∧ wrap64 (2 ^ m) ≤ num)) := by
    by_cases h1 : many < 0
    · exact .inl h1
    · obtain ⟨m, rfl⟩ := Int.eq_ofNat_of_zero_le (Int.not_lt.1 h1)
      refine .inr ⟨m, rfl, ?_⟩
      by_cases h2 : 32 < m
      · exact .inl h2
      · refine .inr ⟨by omega, ?_⟩
        by_cases h3 : num < 0
        · exact .inl h3
        · refine .inr ⟨by omega, ?_⟩
          rw [wrap_pow m (by omega)]
          unfold PutOk at h
          have e : ((2 : Int) ^ m) = ((2 ^ m : Nat) : Int) := by simp
          rw [Int.toNat_natCast, e] at h
          omega
  clear h
  rcases key with h1 | ⟨m, rfl, h2 | ⟨h2, h3 | ⟨h3, h4⟩⟩⟩
  · have d1 : decide (many < 0) = true := by simp; omega
    go_enter Try.func4, Try.ntmps4
    go_wp2_with fail
    refine (head_any _).mono ?_
    rintro e w1 ⟨rfl, hB1⟩
    go_wp2_with fail
    refine (put_no _ _ H.out _).mono ?_
    rintro e w' ⟨rfl, rfl⟩
    go_wp2_with fail
    go_ret
    exact ⟨rfl, hB1⟩
  · have d1 : decide ((m : Int) < 0) = false := by simp
    have d2 : decide (32 < (m : Int)) = true := by simp; omega
    go_enter Try.func4, Try.ntmps4
    go_wp2_with fail
    refine (head_any _).mono ?_
    rintro e w1 ⟨rfl, hB1⟩
    go_wp2_with fail
    refine (put_no _ _ H.out _).mono ?_
    rintro e w' ⟨rfl, rfl⟩
    go_wp2_with fail
    go_ret
    exact ⟨rfl, hB1⟩
  · have d1 : decide ((m : Int) < 0) = false := by simp
    have d2 : decide (32 < (m : Int)) = false := by simp; omega
    have d3 : decide (num < 0) = true := by simp; omega
    go_enter Try.func4, Try.ntmps4
    go_wp2_with fail
    refine (head_any _).mono ?_
    rintro e w1 ⟨rfl, hB1⟩
    go_wp2_with fail
    refine (put_no _ _ H.out _).mono ?_
    rintro e w' ⟨rfl, rfl⟩
    go_wp2_with fail
    go_ret
    exact ⟨rfl, hB1⟩
  · have d1 : decide ((m : Int) < 0) = false := by simp
    have d2 : decide (32 < (m : Int)) = false := by simp; omega
    have d3 : decide (num < 0) = false := by simp; omega
    have d4 : decide (wrap64 (2 ^ m) ≤ num) = true := by simp; omega
    go_enter Try.func4, Try.ntmps4
    go_wp2_with fail
    refine (head_any _).mono ?_
    rintro e w1 ⟨rfl, hB1⟩
    go_wp2_with fail
    refine (put_no _ _ H.out _).mono ?_
    rintro e w' ⟨rfl, rfl⟩
    go_wp2_with fail
    go_ret
    exact ⟨rfl, hB1⟩

theorem bitsBack_walk (a b : Int) (w : World) : Calls Try.prog 4 #[.int .i64 a, .int .i64 b] w fun e w' => e = .returned (.bool true) ∧ Below w.heap.size w w' := by
  by_cases h : PutOk a b
  · obtain ⟨n, rfl⟩ := Int.eq_ofNat_of_zero_le h.2.2.1
    obtain ⟨m, rfl⟩ := Int.eq_ofNat_of_zero_le h.1
    rw [putOk_nat] at h
    exact bitsBack_yes n m h.1 h.2 w
  · exact bitsBack_no a b h w

end Go.Proofs.Ytneojggippiloaa
