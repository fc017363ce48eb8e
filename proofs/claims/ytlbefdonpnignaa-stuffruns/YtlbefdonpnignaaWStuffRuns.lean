/-
  StuffRuns: no run of what is stuffed has six bits; and bits of which none has six, or five at their end, are stripped without a fault.
-/
import Derived.Test.YtlbefdonpnignaaLaw3
namespace Go.Proofs.Ytlbefdonpnignaa
open Go.RowKit

set_option maxRecDepth 100000 in
set_option maxHeartbeats 2000000 in
theorem stuffRuns_walk (a : List Int) (n : Nat) (hn : a.length = n) (A : Option Addr) (c : Nat) (w : World) (h : Row .i64 w w.heap.size A a) (hmx : n ≤ maxLen) :
    Calls Try.prog 6 #[.slice A n c] w fun e w' => e = .returned (.bool true) ∧ Below w.heap.size w w' := by
  have hN := Lib.hid hn
  clear hn
  go_enter Try.func6, Try.ntmps6
  go_wp2_with fail
  refine (head_any _).mono ?_
  rintro e w1 ⟨rfl, b1⟩
  have h1 := h.to b1
  clear h
  go_wp2_with fail
  refine (bits_at _ hN.out h1 hmx).mono ?_
  rintro e w2 ⟨Al, cl, m, rfl, hl, hm3, hcl, rl, b2⟩
  have t2 := below_then b1 b2
  obtain ⟨l, hlo⟩ : ∃ l, lowL a = l := ⟨_, rfl⟩
  have hr : rightB l = true := by rw [← hlo]; exact lowL_right a
  rw [hlo] at hl rl
  have Hl := Lib.hid hl
  have HR := Lib.hid hr
  clear hlo h1 b1 b2 hN hmx hr
  obtain ⟨⟨r, p⟩, hS⟩ : ∃ S, stripL l = S := ⟨_, rfl⟩
  have hrl : r.length ≤ m := by have := strip_len l (0, 0); rw [show stripF (0, 0) l = (r, p) from hS, hl] at this; exact this
  have HS := Lib.hid hS
  obtain ⟨k, hk⟩ : ∃ k, r.length = k := ⟨_, rfl⟩
  rw [hk] at hrl
  have Hk := Lib.hid hk
  obtain ⟨s, hs⟩ : ∃ s, stuffL l = s := ⟨_, rfl⟩
  have HS1 := Lib.hid hs
  obtain ⟨z, hz⟩ : ∃ z, s.length = z := ⟨_, rfl⟩
  have hz1 : z ≤ 1000 := by have := stuffL_len l; rw [hs] at this; omega
  have Hz := Lib.hid hz
  obtain ⟨u, hu⟩ : ∃ u, runsL l = u := ⟨_, rfl⟩
  have Hu := Lib.hid hu
  obtain ⟨y, hy⟩ : ∃ y, runsL s = y := ⟨_, rfl⟩
  have Hy := Lib.hid hy
  have q1 : y ≤ 5 := by rw [← hy, ← hs]; exact runs_stuffF l (0, 0) (by simp)
  have q2 : min 5 u ≤ y := by rw [← hy, ← hs, ← hu]; exact stuffF_runs l (0, 0) (by simp)
  have q3 := runs_cases l r p hS
  rw [hu, hl] at q3
  have hu3 : u ≤ 300 := by have := runsL_le l; omega
  have d1 : decide (5 < (y : Int)) = false := by simp; omega
  clear hl hS hk hs hz hu hy q1
  by_cases h5 : u < 5
  · have e1 : (u : Int) < 5 := by omega
    have e2 : decide (y < u) = false := by simp; omega
    have e3 : decide (5 < (u : Int)) = false := by simp; omega
    rcases q3 with ⟨q3, -⟩ | ⟨-, rfl | rfl⟩
    · omega
    · clear h5 q2
      go_wp2_with fail
      refine (stuff_at _ Hl.out rl HR.out (by omega) HS1.out Hz.out).mono ?_
      rintro e w3 ⟨A3, c3, rfl, -, r3, b3⟩
      replace rl := rl.to b3
      have t3 := below_then t2 b3
      go_wp2_with fail
      refine (runs_at _ Hz.out r3 (by omega) Hy.out).mono ?_
      rintro e w4 ⟨rfl, b4⟩
      replace rl := rl.to b4
      replace r3 := r3.to b4
      have t4 := below_then t3 b4
      go_wp2_with fail
      refine (runs_at _ Hz.out r3 (by omega) Hy.out).mono ?_
      rintro e w5 ⟨rfl, b5⟩
      replace rl := rl.to b5
      have t5 := below_then t4 b5
      go_wp2_with fail
      refine (runs_at _ Hl.out rl (by omega) Hu.out).mono ?_
      rintro e w6 ⟨rfl, b6⟩
      replace rl := rl.to b6
      have t6 := below_then t5 b6
      go_wp2_with fail
      refine (strip_at _ Hl.out rl (by omega) HS.out Hk.out (v := -1) rfl).mono ?_
      rintro e w7 ⟨A7, c7, rfl, -, -, b7⟩
      replace rl := rl.to b7
      have t7 := below_then t6 b7
      go_wp2_with fail
      refine (runs_at _ Hl.out rl (by omega) Hu.out).mono ?_
      rintro e w8 ⟨rfl, b8⟩
      go_wp2_with fail
      go_ret
      exact ⟨rfl, below_then t7 b8⟩
    · clear h5 q2
      have d2 : ((m : Int) == -1) = false := by simp <;> omega
      go_wp2_with fail
      refine (stuff_at _ Hl.out rl HR.out (by omega) HS1.out Hz.out).mono ?_
      rintro e w3 ⟨A3, c3, rfl, -, r3, b3⟩
      replace rl := rl.to b3
      have t3 := below_then t2 b3
      go_wp2_with fail
      refine (runs_at _ Hz.out r3 (by omega) Hy.out).mono ?_
      rintro e w4 ⟨rfl, b4⟩
      replace rl := rl.to b4
      replace r3 := r3.to b4
      have t4 := below_then t3 b4
      go_wp2_with fail
      refine (runs_at _ Hz.out r3 (by omega) Hy.out).mono ?_
      rintro e w5 ⟨rfl, b5⟩
      replace rl := rl.to b5
      have t5 := below_then t4 b5
      go_wp2_with fail
      refine (runs_at _ Hl.out rl (by omega) Hu.out).mono ?_
      rintro e w6 ⟨rfl, b6⟩
      replace rl := rl.to b6
      have t6 := below_then t5 b6
      go_wp2_with fail
      refine (strip_at _ Hl.out rl (by omega) HS.out Hk.out (v := (m : Int)) rfl).mono ?_
      rintro e w7 ⟨A7, c7, rfl, -, -, b7⟩
      replace rl := rl.to b7
      have t7 := below_then t6 b7
      go_wp2_with fail
      refine (runs_at _ Hl.out rl (by omega) Hu.out).mono ?_
      rintro e w8 ⟨rfl, b8⟩
      go_wp2_with fail
      go_ret
      exact ⟨rfl, below_then t7 b8⟩
  · have e1 : ¬ (u : Int) < 5 := by omega
    have e2 : decide ((y : Int) < 5) = false := by simp; omega
    rcases q3 with ⟨q3, q, rfl, hq⟩ | ⟨q3, rfl | rfl⟩
    · have e3 : decide (5 < (u : Int)) = true := by simp; omega
      have e4 : decide (0 ≤ (q : Int)) = true := by simp
      have e5 : decide (q < m) = true := by simp; omega
      clear h5 q2
      go_wp2_with fail
      refine (stuff_at _ Hl.out rl HR.out (by omega) HS1.out Hz.out).mono ?_
      rintro e w3 ⟨A3, c3, rfl, -, r3, b3⟩
      replace rl := rl.to b3
      have t3 := below_then t2 b3
      go_wp2_with fail
      refine (runs_at _ Hz.out r3 (by omega) Hy.out).mono ?_
      rintro e w4 ⟨rfl, b4⟩
      replace rl := rl.to b4
      replace r3 := r3.to b4
      have t4 := below_then t3 b4
      go_wp2_with fail
      refine (runs_at _ Hz.out r3 (by omega) Hy.out).mono ?_
      rintro e w5 ⟨rfl, b5⟩
      replace rl := rl.to b5
      have t5 := below_then t4 b5
      go_wp2_with fail
      refine (runs_at _ Hl.out rl (by omega) Hu.out).mono ?_
      rintro e w6 ⟨rfl, b6⟩
      replace rl := rl.to b6
      have t6 := below_then t5 b6
      go_wp2_with fail
      refine (strip_at _ Hl.out rl (by omega) HS.out Hk.out (v := (q : Int)) rfl).mono ?_
      rintro e w7 ⟨A7, c7, rfl, -, -, b7⟩
      replace rl := rl.to b7
      have t7 := below_then t6 b7
      go_wp2_with fail
      refine (runs_at _ Hl.out rl (by omega) Hu.out).mono ?_
      rintro e w8 ⟨rfl, b8⟩
      go_wp2_with fail
      go_ret
      exact ⟨rfl, below_then t7 b8⟩
    · have e3 : decide (5 < (u : Int)) = false := by simp; omega
      clear h5 q2
      go_wp2_with fail
      refine (stuff_at _ Hl.out rl HR.out (by omega) HS1.out Hz.out).mono ?_
      rintro e w3 ⟨A3, c3, rfl, -, r3, b3⟩
      replace rl := rl.to b3
      have t3 := below_then t2 b3
      go_wp2_with fail
      refine (runs_at _ Hz.out r3 (by omega) Hy.out).mono ?_
      rintro e w4 ⟨rfl, b4⟩
      replace rl := rl.to b4
      replace r3 := r3.to b4
      have t4 := below_then t3 b4
      go_wp2_with fail
      refine (runs_at _ Hz.out r3 (by omega) Hy.out).mono ?_
      rintro e w5 ⟨rfl, b5⟩
      replace rl := rl.to b5
      have t5 := below_then t4 b5
      go_wp2_with fail
      refine (runs_at _ Hl.out rl (by omega) Hu.out).mono ?_
      rintro e w6 ⟨rfl, b6⟩
      replace rl := rl.to b6
      have t6 := below_then t5 b6
      go_wp2_with fail
      refine (strip_at _ Hl.out rl (by omega) HS.out Hk.out (v := -1) rfl).mono ?_
      rintro e w7 ⟨A7, c7, rfl, -, -, b7⟩
      replace rl := rl.to b7
      have t7 := below_then t6 b7
      go_wp2_with fail
      refine (runs_at _ Hl.out rl (by omega) Hu.out).mono ?_
      rintro e w8 ⟨rfl, b8⟩
      go_wp2_with fail
      go_ret
      exact ⟨rfl, below_then t7 b8⟩
    · have e3 : decide (5 < (u : Int)) = false := by simp; omega
      have d2 : ((m : Int) == -1) = false := by simp <;> omega
      clear h5 q2
      go_wp2_with fail
      refine (stuff_at _ Hl.out rl HR.out (by omega) HS1.out Hz.out).mono ?_
      rintro e w3 ⟨A3, c3, rfl, -, r3, b3⟩
      replace rl := rl.to b3
      have t3 := below_then t2 b3
      go_wp2_with fail
      refine (runs_at _ Hz.out r3 (by omega) Hy.out).mono ?_
      rintro e w4 ⟨rfl, b4⟩
      replace rl := rl.to b4
      replace r3 := r3.to b4
      have t4 := below_then t3 b4
      go_wp2_with fail
      refine (runs_at _ Hz.out r3 (by omega) Hy.out).mono ?_
      rintro e w5 ⟨rfl, b5⟩
      replace rl := rl.to b5
      have t5 := below_then t4 b5
      go_wp2_with fail
      refine (runs_at _ Hl.out rl (by omega) Hu.out).mono ?_
      rintro e w6 ⟨rfl, b6⟩
      replace rl := rl.to b6
      have t6 := below_then t5 b6
      go_wp2_with fail
      refine (strip_at _ Hl.out rl (by omega) HS.out Hk.out (v := (m : Int)) rfl).mono ?_
      rintro e w7 ⟨A7, c7, rfl, -, -, b7⟩
      replace rl := rl.to b7
      have t7 := below_then t6 b7
      go_wp2_with fail
      refine (runs_at _ Hl.out rl (by omega) Hu.out).mono ?_
      rintro e w8 ⟨rfl, b8⟩
      go_wp2_with fail
      go_ret
      exact ⟨rfl, below_then t7 b8⟩

end Go.Proofs.Ytlbefdonpnignaa
