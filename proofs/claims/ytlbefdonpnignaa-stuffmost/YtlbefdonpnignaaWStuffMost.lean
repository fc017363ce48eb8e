/-
  StuffMost: at most a quarter of the bits less one are put in, and so many are, if each run that comes out has five.
-/
import Derived.Test.YtlbefdonpnignaaLaw3
namespace Go.Proofs.Ytlbefdonpnignaa
open Go.RowKit

set_option maxRecDepth 100000 in
set_option maxHeartbeats 2000000 in
theorem stuffMost_walk (a : List Int) (n : Nat) (hn : a.length = n) (q : Nat) (hq : q < 65536) (A : Option Addr) (c : Nat) (w : World) (h : Row .i64 w w.heap.size A a) (hmx : n ≤ maxLen) :
    Calls Try.prog 7 #[.slice A n c, .int .u16 q] w fun e w' => e = .returned (.bool true) ∧ Below w.heap.size w w' := by
  have hN := Lib.hid hn
  clear hn
  go_enter Try.func7, Try.ntmps7
  go_wp2_with fail
  refine (head_any _).mono ?_
  rintro e w1 ⟨rfl, b1⟩
  have h1 := h.to b1
  clear h
  go_wp2_with fail
  refine (bits_at _ hN.out h1 hmx).mono ?_
  rintro e w2 ⟨Al, cl, m, rfl, hl, hm3, hcl, rl, b2⟩
  have t2 := below_then b1 b2
  obtain ⟨l, hlo⟩ : ∃ l, lowL a = l := ⟨_, rfl⟩
  have hr : rightB l = true := by rw [← hlo]; exact lowL_right a
  rw [hlo] at hl rl
  have Hl := Lib.hid hl
  have HR := Lib.hid hr
  clear hlo h1 b1 b2 hN hmx hr
  obtain ⟨i0, hi, hz0, hz1, hz2⟩ := info_parts Try.infoInt
  obtain ⟨p, hp⟩ : ∃ p, q % 300 = p := ⟨_, rfl⟩
  have hp3 : p < 300 := by omega
  have hpI : (q : Int) % 300 = (p : Int) := by rw [← hp]; push_cast; rfl
  obtain ⟨s, hs⟩ : ∃ s, stuffL l = s := ⟨_, rfl⟩
  obtain ⟨z, hz⟩ : ∃ z, s.length = z := ⟨_, rfl⟩
  have hzl := stuffL_len l
  rw [hs, hz, hl] at hzl
  have Hs := Lib.hid hs
  have Hz := Lib.hid hz
  clear hl hs hz hp
  rcases m with _ | _ | m2
  · obtain rfl : z = 0 := by omega
    go_wp2_with fail
    refine (stuff_at _ Hl.out rl HR.out (by omega) Hs.out Hz.out).mono ?_
    rintro e w3 ⟨A3, c3, rfl, -, -, b3⟩
    have t3 := below_then t2 b3
    clear b3 t2 rl
    go_wp2_with fail
    go_loopw [6, 7] (fun o i wr => ∃ (k : Nat) (A' : Option Addr) (c' : Nat), k ≤ p + 1 ∧ i = .int .i64 k ∧ o = .slice A' k c' ∧ k ≤ c' ∧ wr.ownsRow w3.heap.size 3 1 (.slice A' k c') k ((worstL k).map (Value.int .i64)) ∧ Below w3.heap.size w3 wr)
      (fun _ i _ => p + 1 - (intOf i).toNat)
    case atStart => exact ⟨0, _, 0, Nat.zero_le _, rfl, rfl, Nat.le_refl _, own_lit w3 .i64 [] 0 rfl 3 rfl (by decide), (Below.refl _ _).alloc (Nat.le_refl _) _⟩
    case round =>
      obtain ⟨k, A', c', hk, rfl, rfl, hkc, hown, hB⟩ := hrel
      have hsz := hB.size
      by_cases hlt : k < p + 1
      · have dk : decide ((k : Int) < 1 + (p : Int)) = true := by simp; omega
        rcases k with _ | _ | j
        · have Hy := Lib.hid (show worstAt 0 = 1 from rfl)
          go_wp2_with (at_builtin; refine wpList_append_row _ .i64 rfl _ _ 22 rfl w3.heap.size 3 i0 (.int .i64 0) 8 Try.underlying22 hi hz0 hz1 hz2 rfl _ 0 (worstL (0)) rfl (hown.alloc _) (some ⟨wr.heap.size, 0, none⟩) 1 1 _ [1] rfl rfl (Row.lit wr .i64 [1] 3 rfl) (by unfold maxLen; omega) (by omega) (by simp; omega) ?_; intro A4 c4 w4 hown4 hc4 hB4)
          have hBB : Below w3.heap.size w3 w4 := (hB.alloc hsz _).trans hB4
          exact ⟨⟨0 + 1, A4, c4, by omega, by go_num, rfl, hc4, by rw [worstL_succ, Hy.out]; exact hown4, hBB⟩, by simp [intOf] <;> omega⟩
        · have Hy := Lib.hid (show worstAt 1 = 1 from rfl)
          go_wp2_with (at_builtin; refine wpList_append_row _ .i64 rfl _ _ 22 rfl w3.heap.size 3 i0 (.int .i64 0) 8 Try.underlying22 hi hz0 hz1 hz2 rfl _ 1 (worstL (1)) rfl (hown.alloc _) (some ⟨wr.heap.size, 0, none⟩) 1 1 _ [1] rfl rfl (Row.lit wr .i64 [1] 3 rfl) (by unfold maxLen; omega) (by omega) (by simp; omega) ?_; intro A4 c4 w4 hown4 hc4 hB4)
          have hBB : Below w3.heap.size w3 w4 := (hB.alloc hsz _).trans hB4
          exact ⟨⟨1 + 1, A4, c4, by omega, by go_num, rfl, hc4, by rw [worstL_succ, Hy.out]; exact hown4, hBB⟩, by simp [intOf] <;> omega⟩
        · have hj : (0 : Int) < (j : Int) + 1 := by omega
          obtain ⟨y, hy⟩ : ∃ y, (((j : Int) + 1) / 4 + 1) % 2 = y := ⟨_, rfl⟩
          have Hy := Lib.hid (show worstAt (j + 1 + 1) = y by rw [← hy]; unfold worstAt; omega)
          go_wp2_with (at_builtin; refine wpList_append_row _ .i64 rfl _ _ 22 rfl w3.heap.size 3 i0 (.int .i64 0) 8 Try.underlying22 hi hz0 hz1 hz2 rfl _ (j + 1 + 1) (worstL ((j + 1 + 1))) rfl (hown.alloc _) (some ⟨wr.heap.size, 0, none⟩) 1 1 _ [y] rfl rfl (Row.lit wr .i64 [y] 3 rfl) (by unfold maxLen; omega) (by omega) (by simp; omega) ?_; intro A4 c4 w4 hown4 hc4 hB4)
          have hBB : Below w3.heap.size w3 w4 := (hB.alloc hsz _).trans hB4
          exact ⟨⟨(j + 1 + 1) + 1, A4, c4, by omega, by go_num, rfl, hc4, by rw [worstL_succ, Hy.out]; exact hown4, hBB⟩, by simp [intOf] <;> omega⟩
      · obtain rfl : k = p + 1 := by omega
        have dk : decide ((p : Int) + 1 < 1 + (p : Int)) = false := by simp; omega
        have r4 := Row.own hown
        have t4 := below_then t3 hB
        have Hw := Lib.hid (worstL_len (p + 1) (by omega))
        have Hwl := Lib.hid (show (worstL (p + 1)).length = p + 1 by simp [worstL])
        have dfin : ((p : Int) + 1 + (p : Int) / 4 == (p : Int) + 1 + ((p : Int) + 1 - 1) / 4) = true := by simp
        clear hown
        go_wp2_with fail
        refine (stuff_at _ Hwl.out r4 (worstL_right _) (by omega) rfl (m := p + 1 + p / 4) Hw.out).mono ?_
        rintro e w5 ⟨A5, c5, rfl, -, -, b5⟩
        go_wp2_with fail
        go_ret
        exact ⟨rfl, below_then t4 b5⟩
  · obtain rfl : z = 1 := by omega
    go_wp2_with fail
    refine (stuff_at _ Hl.out rl HR.out (by omega) Hs.out Hz.out).mono ?_
    rintro e w3 ⟨A3, c3, rfl, -, -, b3⟩
    have t3 := below_then t2 b3
    clear b3 t2 rl
    go_wp2_with fail
    go_loopw [6, 7] (fun o i wr => ∃ (k : Nat) (A' : Option Addr) (c' : Nat), k ≤ p + 1 ∧ i = .int .i64 k ∧ o = .slice A' k c' ∧ k ≤ c' ∧ wr.ownsRow w3.heap.size 3 1 (.slice A' k c') k ((worstL k).map (Value.int .i64)) ∧ Below w3.heap.size w3 wr)
      (fun _ i _ => p + 1 - (intOf i).toNat)
    case atStart => exact ⟨0, _, 0, Nat.zero_le _, rfl, rfl, Nat.le_refl _, own_lit w3 .i64 [] 0 rfl 3 rfl (by decide), (Below.refl _ _).alloc (Nat.le_refl _) _⟩
    case round =>
      obtain ⟨k, A', c', hk, rfl, rfl, hkc, hown, hB⟩ := hrel
      have hsz := hB.size
      by_cases hlt : k < p + 1
      · have dk : decide ((k : Int) < 1 + (p : Int)) = true := by simp; omega
        rcases k with _ | _ | j
        · have Hy := Lib.hid (show worstAt 0 = 1 from rfl)
          go_wp2_with (at_builtin; refine wpList_append_row _ .i64 rfl _ _ 22 rfl w3.heap.size 3 i0 (.int .i64 0) 8 Try.underlying22 hi hz0 hz1 hz2 rfl _ 0 (worstL (0)) rfl (hown.alloc _) (some ⟨wr.heap.size, 0, none⟩) 1 1 _ [1] rfl rfl (Row.lit wr .i64 [1] 3 rfl) (by unfold maxLen; omega) (by omega) (by simp; omega) ?_; intro A4 c4 w4 hown4 hc4 hB4)
          have hBB : Below w3.heap.size w3 w4 := (hB.alloc hsz _).trans hB4
          exact ⟨⟨0 + 1, A4, c4, by omega, by go_num, rfl, hc4, by rw [worstL_succ, Hy.out]; exact hown4, hBB⟩, by simp [intOf] <;> omega⟩
        · have Hy := Lib.hid (show worstAt 1 = 1 from rfl)
          go_wp2_with (at_builtin; refine wpList_append_row _ .i64 rfl _ _ 22 rfl w3.heap.size 3 i0 (.int .i64 0) 8 Try.underlying22 hi hz0 hz1 hz2 rfl _ 1 (worstL (1)) rfl (hown.alloc _) (some ⟨wr.heap.size, 0, none⟩) 1 1 _ [1] rfl rfl (Row.lit wr .i64 [1] 3 rfl) (by unfold maxLen; omega) (by omega) (by simp; omega) ?_; intro A4 c4 w4 hown4 hc4 hB4)
          have hBB : Below w3.heap.size w3 w4 := (hB.alloc hsz _).trans hB4
          exact ⟨⟨1 + 1, A4, c4, by omega, by go_num, rfl, hc4, by rw [worstL_succ, Hy.out]; exact hown4, hBB⟩, by simp [intOf] <;> omega⟩
        · have hj : (0 : Int) < (j : Int) + 1 := by omega
          obtain ⟨y, hy⟩ : ∃ y, (((j : Int) + 1) / 4 + 1) % 2 = y := ⟨_, rfl⟩
          have Hy := Lib.hid (show worstAt (j + 1 + 1) = y by rw [← hy]; unfold worstAt; omega)
          go_wp2_with (at_builtin; refine wpList_append_row _ .i64 rfl _ _ 22 rfl w3.heap.size 3 i0 (.int .i64 0) 8 Try.underlying22 hi hz0 hz1 hz2 rfl _ (j + 1 + 1) (worstL ((j + 1 + 1))) rfl (hown.alloc _) (some ⟨wr.heap.size, 0, none⟩) 1 1 _ [y] rfl rfl (Row.lit wr .i64 [y] 3 rfl) (by unfold maxLen; omega) (by omega) (by simp; omega) ?_; intro A4 c4 w4 hown4 hc4 hB4)
          have hBB : Below w3.heap.size w3 w4 := (hB.alloc hsz _).trans hB4
          exact ⟨⟨(j + 1 + 1) + 1, A4, c4, by omega, by go_num, rfl, hc4, by rw [worstL_succ, Hy.out]; exact hown4, hBB⟩, by simp [intOf] <;> omega⟩
      · obtain rfl : k = p + 1 := by omega
        have dk : decide ((p : Int) + 1 < 1 + (p : Int)) = false := by simp; omega
        have r4 := Row.own hown
        have t4 := below_then t3 hB
        have Hw := Lib.hid (worstL_len (p + 1) (by omega))
        have Hwl := Lib.hid (show (worstL (p + 1)).length = p + 1 by simp [worstL])
        have dfin : ((p : Int) + 1 + (p : Int) / 4 == (p : Int) + 1 + ((p : Int) + 1 - 1) / 4) = true := by simp
        clear hown
        go_wp2_with fail
        refine (stuff_at _ Hwl.out r4 (worstL_right _) (by omega) rfl (m := p + 1 + p / 4) Hw.out).mono ?_
        rintro e w5 ⟨A5, c5, rfl, -, -, b5⟩
        go_wp2_with fail
        go_ret
        exact ⟨rfl, below_then t4 b5⟩
  · have hm2 : (0 : Int) < (m2 : Int) + 1 + 1 - 1 := by omega
    have dz : decide (((m2 : Int) + 1 + 1 - 1) / 4 < (z : Int) - ((m2 : Int) + 1 + 1)) = false := by simp; omega
    go_wp2_with fail
    refine (stuff_at _ Hl.out rl HR.out (by omega) Hs.out Hz.out).mono ?_
    rintro e w3 ⟨A3, c3, rfl, -, -, b3⟩
    have t3 := below_then t2 b3
    clear b3 t2 rl
    go_wp2_with fail
    go_loopw [6, 7] (fun o i wr => ∃ (k : Nat) (A' : Option Addr) (c' : Nat), k ≤ p + 1 ∧ i = .int .i64 k ∧ o = .slice A' k c' ∧ k ≤ c' ∧ wr.ownsRow w3.heap.size 3 1 (.slice A' k c') k ((worstL k).map (Value.int .i64)) ∧ Below w3.heap.size w3 wr)
      (fun _ i _ => p + 1 - (intOf i).toNat)
    case atStart => exact ⟨0, _, 0, Nat.zero_le _, rfl, rfl, Nat.le_refl _, own_lit w3 .i64 [] 0 rfl 3 rfl (by decide), (Below.refl _ _).alloc (Nat.le_refl _) _⟩
    case round =>
      obtain ⟨k, A', c', hk, rfl, rfl, hkc, hown, hB⟩ := hrel
      have hsz := hB.size
      by_cases hlt : k < p + 1
      · have dk : decide ((k : Int) < 1 + (p : Int)) = true := by simp; omega
        rcases k with _ | _ | j
        · have Hy := Lib.hid (show worstAt 0 = 1 from rfl)
          go_wp2_with (at_builtin; refine wpList_append_row _ .i64 rfl _ _ 22 rfl w3.heap.size 3 i0 (.int .i64 0) 8 Try.underlying22 hi hz0 hz1 hz2 rfl _ 0 (worstL (0)) rfl (hown.alloc _) (some ⟨wr.heap.size, 0, none⟩) 1 1 _ [1] rfl rfl (Row.lit wr .i64 [1] 3 rfl) (by unfold maxLen; omega) (by omega) (by simp; omega) ?_; intro A4 c4 w4 hown4 hc4 hB4)
          have hBB : Below w3.heap.size w3 w4 := (hB.alloc hsz _).trans hB4
          exact ⟨⟨0 + 1, A4, c4, by omega, by go_num, rfl, hc4, by rw [worstL_succ, Hy.out]; exact hown4, hBB⟩, by simp [intOf] <;> omega⟩
        · have Hy := Lib.hid (show worstAt 1 = 1 from rfl)
          go_wp2_with (at_builtin; refine wpList_append_row _ .i64 rfl _ _ 22 rfl w3.heap.size 3 i0 (.int .i64 0) 8 Try.underlying22 hi hz0 hz1 hz2 rfl _ 1 (worstL (1)) rfl (hown.alloc _) (some ⟨wr.heap.size, 0, none⟩) 1 1 _ [1] rfl rfl (Row.lit wr .i64 [1] 3 rfl) (by unfold maxLen; omega) (by omega) (by simp; omega) ?_; intro A4 c4 w4 hown4 hc4 hB4)
          have hBB : Below w3.heap.size w3 w4 := (hB.alloc hsz _).trans hB4
          exact ⟨⟨1 + 1, A4, c4, by omega, by go_num, rfl, hc4, by rw [worstL_succ, Hy.out]; exact hown4, hBB⟩, by simp [intOf] <;> omega⟩
        · have hj : (0 : Int) < (j : Int) + 1 := by omega
          obtain ⟨y, hy⟩ : ∃ y, (((j : Int) + 1) / 4 + 1) % 2 = y := ⟨_, rfl⟩
          have Hy := Lib.hid (show worstAt (j + 1 + 1) = y by rw [← hy]; unfold worstAt; omega)
          go_wp2_with (at_builtin; refine wpList_append_row _ .i64 rfl _ _ 22 rfl w3.heap.size 3 i0 (.int .i64 0) 8 Try.underlying22 hi hz0 hz1 hz2 rfl _ (j + 1 + 1) (worstL ((j + 1 + 1))) rfl (hown.alloc _) (some ⟨wr.heap.size, 0, none⟩) 1 1 _ [y] rfl rfl (Row.lit wr .i64 [y] 3 rfl) (by unfold maxLen; omega) (by omega) (by simp; omega) ?_; intro A4 c4 w4 hown4 hc4 hB4)
          have hBB : Below w3.heap.size w3 w4 := (hB.alloc hsz _).trans hB4
          exact ⟨⟨(j + 1 + 1) + 1, A4, c4, by omega, by go_num, rfl, hc4, by rw [worstL_succ, Hy.out]; exact hown4, hBB⟩, by simp [intOf] <;> omega⟩
      · obtain rfl : k = p + 1 := by omega
        have dk : decide ((p : Int) + 1 < 1 + (p : Int)) = false := by simp; omega
        have r4 := Row.own hown
        have t4 := below_then t3 hB
        have Hw := Lib.hid (worstL_len (p + 1) (by omega))
        have Hwl := Lib.hid (show (worstL (p + 1)).length = p + 1 by simp [worstL])
        have dfin : ((p : Int) + 1 + (p : Int) / 4 == (p : Int) + 1 + ((p : Int) + 1 - 1) / 4) = true := by simp
        clear hown
        go_wp2_with fail
        refine (stuff_at _ Hwl.out r4 (worstL_right _) (by omega) rfl (m := p + 1 + p / 4) Hw.out).mono ?_
        rintro e w5 ⟨A5, c5, rfl, -, -, b5⟩
        go_wp2_with fail
        go_ret
        exact ⟨rfl, below_then t4 b5⟩

end Go.Proofs.Ytlbefdonpnignaa
