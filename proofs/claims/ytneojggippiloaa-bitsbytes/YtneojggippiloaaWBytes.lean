/-
  BitsBytes: bytes are joined from their bits, of which there are eight each; a row that is joined is that of its bytes.
-/
import Derived.Test.YtneojggippiloaaBack
namespace Go.Proofs.Ytneojggippiloaa
open Go.RowKit

theorem len_of_joinOk {l : List Int} (h : joinOk l = true) : l.length = 8 * (l.length / 8) ∧ rightB l = true := by
  simp only [joinOk, Bool.and_eq_true, decide_eq_true_eq] at h
  exact ⟨by omega, h.2⟩

set_option maxRecDepth 100000 in
set_option maxHeartbeats 1000000 in
/-- Too long: nothing is asked. -/
theorem bitsBytes_long (nb n : Nat) (A A' : Option Addr) (c c' : Nat) (w : World) (hb : nb ≤ maxLen) (hl : n ≤ maxLen) (h : 500 < nb ∨ 2000 < n) :
    Calls Try.prog 6 #[.slice A nb c, .slice A' n c'] w fun e w' => e = .returned (.bool true) ∧ Below w.heap.size w w' := by
  unfold maxLen at hb hl
  by_cases h1 : 500 < nb
  · have d1 : decide (500 < (nb : Int)) = true := by simp; omega
    clear h
    go_enter Try.func6, Try.ntmps6
    go_wp2_with fail
    refine (head_any _).mono ?_
    rintro e w1 ⟨rfl, hB1⟩
    go_wp2_with fail
    go_ret
    exact ⟨rfl, hB1⟩
  · have d1 : decide (500 < (nb : Int)) = false := by simp; omega
    have d2 : decide (2000 < (n : Int)) = true := by simp; omega
    clear h
    go_enter Try.func6, Try.ntmps6
    go_wp2_with fail
    refine (head_any _).mono ?_
    rintro e w1 ⟨rfl, hB1⟩
    go_wp2_with fail
    go_ret
    exact ⟨rfl, hB1⟩

set_option maxRecDepth 100000 in
set_option maxHeartbeats 2000000 in
theorem bitsBytes_walk (b : List Int) (nb : Nat) (hnb : b.length = nb) (A : Option Addr) (c : Nat) (l : List Int) (n : Nat) (hn : l.length = n) (A' : Option Addr) (c' : Nat) (w : World)
    (hb : Row .u8 w w.heap.size A b) (h : Row .i64 w w.heap.size A' l) (hbb : byteB b) (hc : n ≤ c') (hmb : nb ≤ maxLen) (hm : n ≤ maxLen) :
    Calls Try.prog 6 #[.slice A nb c, .slice A' n c'] w fun e w' => e = .returned (.bool true) ∧ Below w.heap.size w w' := by
  by_cases hlong : 500 < nb ∨ 2000 < n
  · exact bitsBytes_long nb n A A' c c' w hmb hm hlong
  have h500 : nb ≤ 500 := by omega
  have h2000 : n ≤ 2000 := by omega
  have d1 : decide (500 < (nb : Int)) = false := by simp; omega
  have d2 : decide (2000 < (n : Int)) = false := by simp; omega
  have Hn := Lib.hid hn
  have Hnb := Lib.hid hnb
  have Hbb := Lib.hid hbb
  clear hn hnb hbb hlong
  have d3 : (((8 * nb : Nat) : Int) != 8 * (nb : Int)) = false := by simp
  go_enter Try.func6, Try.ntmps6
  go_wp2_with fail
  refine (head_any _).mono ?_
  rintro e w1 ⟨rfl, hB1⟩
  have rb1 := hb.to hB1
  have rl1 := h.to hB1
  go_wp2_with fail
  refine (spread_at b nb Hnb.out _ _ _ _ rb1 (Nat.le_refl _) Hbb.out (by omega) (8 * nb) rfl).mono ?_
  rintro e w2 ⟨A2, rfl, hr2, hB2⟩
  have rb2 := rb1.to hB2
  have rl2 := rl1.to hB2
  clear rb1 rl1
  go_wp2_with fail
  refine (join_yes_at (spreadL b) (8 * nb) (by rw [spreadL_len, Hnb.out]) _ _ _ _ hr2 (Nat.le_refl _) (by omega) (Nat.le_refl _) (joinOk_spread b) nb (by omega)).mono ?_
  rintro e w3 ⟨A3, rfl, hr3, hB3⟩
  rw [joinL_spread Hbb.out] at hr3
  have rb3 := rb2.to hB3
  have rl3 := rl2.to hB3
  have rs3 := hr2.to hB3
  clear rb2 rl2
  go_wp2_with fail
  refine (sameBytes_at b b nb nb Hnb.out Hnb.out _ _ _ _ _ _ _ rb3 hr3 Hbb.out Hbb.out).mono ?_
  rintro e w' ⟨rfl, rfl⟩
  rw [show sameB b b = true from by simp [sameB]]
  go_wp2_with fail
  refine (right_at (spreadL b) (8 * nb) (by rw [spreadL_len, Hnb.out]) _ _ _ _ rs3 (by unfold maxLen; omega)).mono ?_
  rintro e w' ⟨rfl, rfl⟩
  rw [spreadL_right]
  cases hj : joinOk l with
  | true =>
    obtain ⟨h8, hr⟩ := len_of_joinOk hj
    have hbk := spread_joinL (l.length / 8) l h8 hr
    have hby := joinL_byte hr
    have Hbk := Lib.hid hbk
    have Hby := Lib.hid hby
    have Hj := Lib.hid hj
    have h8' : n = 8 * (n / 8) := by have := Hn.out; omega
    have H8 := Lib.hid h8'
    clear hbk hby hj h8 hr h8'
    go_wp2_with fail
    refine (join_yes_at l n Hn.out _ _ _ _ rl3 (Nat.le_refl _) (by omega) hc Hj.out (n / 8) rfl).mono ?_
    rintro e w4 ⟨A4, rfl, hr4, hB4⟩
    have rl4 := rl3.to hB4
    go_wp2_with fail
    refine (spread_at (joinL l) (n / 8) (by rw [joinL_len, Hn.out]) _ _ _ _ hr4 (Nat.le_refl _) Hby.out (by omega) n (by have := H8.out; omega)).mono ?_
    rintro e w5 ⟨A5, rfl, hr5, hB5⟩
    rw [Hbk.out] at hr5
    have rl5 := rl4.to hB5
    go_wp2_with fail
    refine (same_at l l n n Hn.out Hn.out _ _ _ _ _ _ _ hr5 rl5 hm).mono ?_
    rintro e w' ⟨rfl, q, rfl⟩
    rw [show sameB l l = true from by simp [sameB]]
    go_wp2_with fail
    go_ret
    exact ⟨rfl, below_then hB1 (below_then hB2 (below_then hB3 (below_then hB4 (below_then hB5 (below_drewN0 _ _)))))⟩
  | false =>
    have Hj := Lib.hid hj
    clear hj
    by_cases h8 : n % 8 = 0
    · have d8 : (((n : Int) % 8) != 0) = false := by simp; omega
      have hr : rightB l = false := by
        have hg := Hj.out
        have hn := Hn.out
        cases e : rightB l with
        | false => rfl
        | true => rw [joinOk, e, Bool.and_true] at hg; simp at hg; omega
      have Hr := Lib.hid hr
      clear hr h8
      go_wp2_with fail
      refine (join_no_at l n Hn.out _ _ _ _ rl3 hm Hj.out).mono ?_
      rintro e w' ⟨rfl, rfl⟩
      go_wp2_with fail
      refine (right_at l n Hn.out _ _ _ _ rl3 hm).mono ?_
      rintro e w' ⟨rfl, rfl⟩
      rw [Hr.out]
      go_wp2_with fail
      go_ret
      exact ⟨rfl, below_then hB1 (below_then hB2 hB3)⟩
    · have d8 : (((n : Int) % 8) != 0) = true := by simp; omega
      clear h8
      go_wp2_with fail
      refine (join_no_at l n Hn.out _ _ _ _ rl3 hm Hj.out).mono ?_
      rintro e w' ⟨rfl, rfl⟩
      go_wp2_with fail
      go_ret
      exact ⟨rfl, below_then hB1 (below_then hB2 hB3)⟩

end Go.Proofs.Ytneojggippiloaa
