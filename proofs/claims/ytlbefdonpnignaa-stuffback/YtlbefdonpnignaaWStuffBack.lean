/-
  StuffBack: what is stuffed is stripped to what it was, and nothing in it is wrong; without its last bit, if that was put in, it ends too soon.
-/
import Derived.Test.YtlbefdonpnignaaLaw3
namespace Go.Proofs.Ytlbefdonpnignaa
open Go.RowKit

set_option maxRecDepth 100000 in
set_option maxHeartbeats 2000000 in
theorem stuffBack_walk (a : List Int) (n : Nat) (hn : a.length = n) (A : Option Addr) (c : Nat) (w : World) (h : Row .i64 w w.heap.size A a) (hmx : n ≤ maxLen) :
    Calls Try.prog 4 #[.slice A n c] w fun e w' => e = .returned (.bool true) ∧ Below w.heap.size w w' := by
  have hN := Lib.hid hn
  clear hn
  go_enter Try.func4, Try.ntmps4
  go_wp2_with fail
  refine (head_any _).mono ?_
  rintro e w1 ⟨rfl, b1⟩
  have h1 := h.to b1
  clear h
  go_wp2_with fail
  refine (bits_at _ hN.out h1 hmx).mono ?_
  rintro e w2 ⟨Al, cl, m, rfl, hl, hm3, hcl, rl, b2⟩
  have t2 := below_then b1 b2
  obtain ⟨l, hlo⟩ : ∃ l, lowL a = l := ⟨_, rfl⟩
  have hr : rightB l = true := by rw [← hlo]; exact lowL_right a
  rw [hlo] at hl rl
  have Hl := Lib.hid hl
  have HR := Lib.hid hr
  clear hlo h1 b1 b2 hN hmx hr
  obtain ⟨s, hs⟩ : ∃ s, stuffL l = s := ⟨_, rfl⟩
  have HS1 := Lib.hid hs
  obtain ⟨z, hz⟩ : ∃ z, s.length = z := ⟨_, rfl⟩
  have hzl := stuffL_len l
  rw [hs, hz, hl] at hzl
  have Hz := Lib.hid hz
  have HB := Lib.hid (show stripL s = (l, none) by rw [← hs]; exact strip_stuffF l (0, 0) (by simp))
  have d1 : decide (z < m) = false := by simp; omega
  have hz9 : z ≤ 1000 := by omega
  cases m with
  | zero =>
    clear hl hs hz hzl
    go_wp2_with fail
    refine (stuff_at _ Hl.out rl HR.out (by omega) HS1.out Hz.out).mono ?_
    rintro e w3 ⟨A3, c3, rfl, hc3, r3, b3⟩
    replace rl := rl.to b3
    have t3 := below_then t2 b3
    go_wp2_with fail
    refine (strip_at _ Hz.out r3 (by omega) HB.out Hl.out (v := -1) rfl).mono ?_
    rintro e w4 ⟨A4, c4, rfl, -, r4, b4⟩
    replace rl := rl.to b4
    replace r3 := r3.to b4
    have t4 := below_then t3 b4
    go_wp2_with fail
    refine (ints_at _ _ Hl.out Hl.out r4 rl (by omega) (by omega) (same_yes _)).mono ?_
    rintro e w5 ⟨rfl, b5⟩
    replace rl := rl.to b5
    replace r3 := r3.to b5
    have t5 := below_then t4 b5
    go_wp2_with fail
    go_ret
    exact ⟨rfl, t5⟩
  | succ m1 =>
    obtain ⟨l1, x, rfl⟩ : ∃ l1 x, l = l1 ++ [x] := by
      rcases snoc_cases l with rfl | h
      · simp at hl
      · exact h
    have hl1 : l1.length = m1 := by simpa using hl
    have HR1 := Lib.hid (show rightB l1 = true by have := HR.out; rw [rightB_snoc, Bool.and_eq_true] at this; exact this.1)
    have hd := stuff_last l1 x
    obtain ⟨s1, hs1⟩ : ∃ s1, stuffL l1 = s1 := ⟨_, rfl⟩
    obtain ⟨z1, hz1⟩ : ∃ z1, s1.length = z1 := ⟨_, rfl⟩
    have hzl1 := stuffL_len l1
    rw [hs1, hz1, hl1] at hzl1
    rw [hs1, hs] at hd
    have Hl1 := Lib.hid hl1
    have HS11 := Lib.hid hs1
    have Hz1 := Lib.hid hz1
    have d0 : ((m1 : Int) + 1 == 0) = false := by simp <;> omega
    rcases hd with e | ⟨e, e2⟩
    · have hzz : z = z1 + 1 := by rw [← hz, e, List.length_append, hz1]; rfl
      subst hzz
      have d7 : decide (z1 < m1) = false := by simp; omega
      have Hsub := Lib.hid (show (l1 ++ [x]).take m1 = l1 by rw [← hl1]; simp)
      clear hl hs hz hzl hl1 hs1 hz1 hzl1 e
      go_wp2_with fail
      refine (stuff_at _ Hl.out rl HR.out (by omega) HS1.out Hz.out).mono ?_
      rintro e w3 ⟨A3, c3, rfl, hc3, r3, b3⟩
      replace rl := rl.to b3
      have t3 := below_then t2 b3
      go_wp2_with fail
      refine (strip_at _ Hz.out r3 (by omega) HB.out Hl.out (v := -1) rfl).mono ?_
      rintro e w4 ⟨A4, c4, rfl, -, r4, b4⟩
      replace rl := rl.to b4
      replace r3 := r3.to b4
      have t4 := below_then t3 b4
      go_wp2_with fail
      refine (ints_at _ _ Hl.out Hl.out r4 rl (by omega) (by omega) (same_yes _)).mono ?_
      rintro e w5 ⟨rfl, b5⟩
      replace rl := rl.to b5
      replace r3 := r3.to b5
      have t5 := below_then t4 b5
      go_wp2_with fail
      have rs : Row .i64 w5 w5.heap.size Al l1 := by
        have := rl.sub_ 0 m1 (by omega) (by rw [Hl.out]; omega) (A' := Al) (fun _ => by cases Al <;> rfl)
        rwa [List.drop_zero, Nat.sub_zero, Hsub.out] at this
      refine (stuff_at _ Hl1.out rs HR1.out (by omega) HS11.out Hz1.out).mono ?_
      rintro e w6 ⟨A6, c6, rfl, -, -, b6⟩
      go_wp2_with fail
      go_ret
      exact ⟨rfl, below_then t5 b6⟩
    · have hzz : z = z1 + 1 + 1 := by rw [← hz, e, List.length_append, hz1]; rfl
      subst hzz
      have d5 : ((z1 : Int) + 1 + 1 == (z1 : Int) + 1) = false := by simp <;> omega
      have d6 : (z1 + 1 + 1 == z1 + 1) = false := by simp
      have d7 : decide ((z1 : Int) + 1 < (m1 : Int)) = false := by simp; omega
      have Hsub := Lib.hid (show (l1 ++ [x]).take m1 = l1 by rw [← hl1]; simp)
      have Hsub2 := Lib.hid (show s.take (z1 + 1) = s1 ++ [x] by rw [e, show s1 ++ [x, 1 - x] = (s1 ++ [x]) ++ [1 - x] by simp]; exact List.take_left' (by rw [List.length_append, hz1]; rfl))
      have He := Lib.hid (show stripL (s1 ++ [x]) = (l1 ++ [x], some (z1 + 1)) by rw [← hz1]; exact e2)
      have Hle := Lib.hid (show (s1 ++ [x]).length = z1 + 1 by rw [List.length_append, hz1]; rfl)
      clear hl hs hz hzl hl1 hs1 hz1 hzl1 e e2
      go_wp2_with fail
      refine (stuff_at _ Hl.out rl HR.out (by omega) HS1.out Hz.out).mono ?_
      rintro e w3 ⟨A3, c3, rfl, hc3, r3, b3⟩
      replace rl := rl.to b3
      have t3 := below_then t2 b3
      go_wp2_with fail
      refine (strip_at _ Hz.out r3 (by omega) HB.out Hl.out (v := -1) rfl).mono ?_
      rintro e w4 ⟨A4, c4, rfl, -, r4, b4⟩
      replace rl := rl.to b4
      replace r3 := r3.to b4
      have t4 := below_then t3 b4
      go_wp2_with fail
      refine (ints_at _ _ Hl.out Hl.out r4 rl (by omega) (by omega) (same_yes _)).mono ?_
      rintro e w5 ⟨rfl, b5⟩
      replace rl := rl.to b5
      replace r3 := r3.to b5
      have t5 := below_then t4 b5
      go_wp2_with fail
      have rs : Row .i64 w5 w5.heap.size Al l1 := by
        have := rl.sub_ 0 m1 (by omega) (by rw [Hl.out]; omega) (A' := Al) (fun _ => by cases Al <;> rfl)
        rwa [List.drop_zero, Nat.sub_zero, Hsub.out] at this
      refine (stuff_at _ Hl1.out rs HR1.out (by omega) HS11.out Hz1.out).mono ?_
      rintro e w6 ⟨A6, c6, rfl, -, -, b6⟩
      replace rl := rl.to b6
      replace r3 := r3.to b6
      have t6 := below_then t5 b6
      go_wp2_with fail
      have rs2 : Row .i64 w6 w6.heap.size A3 (s1 ++ [x]) := by
        have := r3.sub_ 0 (z1 + 1) (by omega) (by rw [Hz.out]; omega) (A' := A3) (fun _ => by cases A3 <;> rfl)
        rwa [List.drop_zero, Nat.sub_zero, Hsub2.out] at this
      refine (strip_at _ Hle.out rs2 (by omega) He.out Hl.out (v := (z1 : Int) + 1) rfl).mono ?_
      rintro e w7 ⟨A7, c7, rfl, -, r7, b7⟩
      replace rl := rl.to b7
      have t7 := below_then t6 b7
      go_wp2_with fail
      refine (ints_at _ _ Hl.out Hl.out r7 rl (by omega) (by omega) (same_yes _)).mono ?_
      rintro e w8 ⟨rfl, b8⟩
      go_wp2_with fail
      go_ret
      exact ⟨rfl, below_then t7 b8⟩

end Go.Proofs.Ytlbefdonpnignaa
