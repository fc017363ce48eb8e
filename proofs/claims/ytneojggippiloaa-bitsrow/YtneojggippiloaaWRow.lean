/-
  BitsRow: a right row of at most 32 bits is that of its number; others have none.
-/
import Derived.Test.YtneojggippiloaaBack
namespace Go.Proofs.Ytneojggippiloaa
open Go.RowKit

set_option maxRecDepth 100000 in
set_option maxHeartbeats 1000000 in
theorem bitsRow_walk (l : List Int) (n : Nat) (hn : l.length = n) (A : Option Addr) (c : Nat) (w : World) (h : Row .i64 w w.heap.size A l) (hm : n ≤ maxLen) :
    Calls Try.prog 5 #[.slice A n c] w fun e w' => e = .returned (.bool true) ∧ Below w.heap.size w w' := by
  have Hn := Lib.hid hn
  have hm' : n ≤ 9223372036854775807 := by unfold maxLen at hm; omega
  by_cases h2000 : 2000 < n
  · have d1 : decide (2000 < (n : Int)) = true := by simp; omega
    clear hn
    go_enter Try.func5, Try.ntmps5
    go_wp2_with fail
    refine (head_any _).mono ?_
    rintro e w1 ⟨rfl, hB1⟩
    go_wp2_with fail
    go_ret
    exact ⟨rfl, hB1⟩
  · have d1 : decide (2000 < (n : Int)) = false := by simp; omega
    cases hg : getOk l with
    | true =>
      have hg2 := hg
      simp only [getOk, Bool.and_eq_true, decide_eq_true_eq] at hg2
      have hlt := numOf_lt l hg2.2
      have hbk := bitRow_back n l hn hg2.2
      rw [hn] at hlt
      have h32 : n ≤ 32 := by omega
      have Hg := Lib.hid hg
      have Hr := Lib.hid hg2.2
      have Hlt := Lib.hid hlt
      have Hbk := Lib.hid hbk
      clear hg hg2 hlt hbk hn
      obtain ⟨N, hN⟩ : ∃ N, numOf l = N := ⟨_, rfl⟩
      rw [hN] at Hlt Hbk
      have HN := Lib.hid hN
      clear hN
      go_enter Try.func5, Try.ntmps5
      go_wp2_with fail
      refine (head_any _).mono ?_
      rintro e w1 ⟨rfl, hB1⟩
      have r1 := h.to hB1
      go_wp2_with fail
      refine (get_yes_at l n Hn.out N (by rw [HN.out]) _ _ _ _ r1 Hg.out).mono ?_
      rintro e w' ⟨rfl, rfl⟩
      go_wp2_with fail
      refine (put_yes_at N n N n rfl rfl h32 Hlt.out _).mono ?_
      rintro e w2 ⟨A2, rfl, hr2, hB2⟩
      have r2 := r1.to hB2
      rw [Hbk.out] at hr2
      go_wp2_with fail
      refine (same_at l l n n Hn.out Hn.out _ _ _ _ _ _ _ hr2 r2 hm).mono ?_
      rintro e w' ⟨rfl, q, rfl⟩
      rw [show sameB l l = true from by simp [sameB]]
      go_wp2_with fail
      refine (right_at l n Hn.out _ _ _ _ (r2.drewN q) hm).mono ?_
      rintro e w' ⟨rfl, rfl⟩
      rw [Hr.out]
      go_wp2_with fail
      go_ret
      exact ⟨rfl, below_then hB1 (below_then hB2 (below_drewN0 _ _))⟩
    | false =>
      have Hg := Lib.hid hg
      clear hg hn
      by_cases h32 : 32 < n
      · have d2 : decide (32 < (n : Int)) = true := by simp; omega
        go_enter Try.func5, Try.ntmps5
        go_wp2_with fail
        refine (head_any _).mono ?_
        rintro e w1 ⟨rfl, hB1⟩
        have r1 := h.to hB1
        go_wp2_with fail
        refine (get_no_at l n Hn.out _ _ _ _ r1 hm Hg.out).mono ?_
        rintro e w' ⟨rfl, rfl⟩
        go_wp2_with fail
        go_ret
        exact ⟨rfl, hB1⟩
      · have d2 : decide (32 < (n : Int)) = false := by simp; omega
        have hr : rightB l = false := by
          have hg := Hg.out
          have hn := Hn.out
          cases e : rightB l with
          | false => rfl
          | true => rw [getOk, e, Bool.and_true] at hg; simp at hg; omega
        have Hr := Lib.hid hr
        clear hr
        go_enter Try.func5, Try.ntmps5
        go_wp2_with fail
        refine (head_any _).mono ?_
        rintro e w1 ⟨rfl, hB1⟩
        have r1 := h.to hB1
        go_wp2_with fail
        refine (get_no_at l n Hn.out _ _ _ _ r1 hm Hg.out).mono ?_
        rintro e w' ⟨rfl, rfl⟩
        go_wp2_with fail
        refine (right_at l n Hn.out _ _ _ _ r1 hm).mono ?_
        rintro e w' ⟨rfl, rfl⟩
        rw [Hr.out]
        go_wp2_with fail
        go_ret
        exact ⟨rfl, hB1⟩

end Go.Proofs.Ytneojggippiloaa
