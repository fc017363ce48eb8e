/-
  BitsWide: a number's bits, one more of them, are a 0 and its bits; twice the number's are its bits and a 0.
-/
import Derived.Test.YtneojggippiloaaApp
namespace Go.Proofs.Ytneojggippiloaa
open Go.RowKit

theorem bitRow_wide {m k : Nat} (h : m < 2 ^ k) : bitRow m (k + 1) (k + 1) = 0 :: bitRow m k k := by
  unfold bitRow
  rw [List.range_succ_eq_map, List.map_cons, List.map_map]
  congr 1
  · unfold bitAt
    rw [show k + 1 - 1 - 0 = k by omega, Nat.div_eq_of_lt h]
    rfl
  · apply List.map_congr_left
    intro j hj
    simp only [Function.comp, bitAt]
    rw [show k + 1 - 1 - (j + 1) = k - 1 - j by omega]

set_option maxRecDepth 100000 in
set_option maxHeartbeats 2000000 in
theorem bitsWide_walk (N K : Nat) (hN : N < 4294967296) (hK : K < 256) (w : World) :
    Calls Try.prog 9 #[.int .u32 N, .int .u8 K] w fun e w' => e = .returned (.bool true) ∧ Below w.heap.size w w' := by
  obtain ⟨k, hk⟩ : ∃ k, K % 32 = k := ⟨_, rfl⟩
  have hk32 : k < 32 := by omega
  have hkI : ((K : Int) % 32) = (k : Int) := by omega
  have hpow := wrap_pow k (by omega)
  obtain ⟨m, hm⟩ : ∃ m, N % 2 ^ k = m := ⟨_, rfl⟩
  have hlt : m < 2 ^ k := by rw [← hm]; exact Nat.mod_lt _ (Nat.pow_pos (by omega))
  have hlt1 : m < 2 ^ (k + 1) := by rw [Nat.pow_succ]; omega
  have hlt2 : 2 * m < 2 ^ (k + 1) := by rw [Nat.pow_succ]; omega
  have hw1 := bitRow_wide hlt
  have hw2 := bitRow_snoc m 0 k (by omega)
  rw [Nat.add_zero] at hw2
  have hmN : m < 4294967296 := by have := Nat.mod_le N (2 ^ k); omega
  obtain ⟨p, hp⟩ : ∃ p : Nat, 2 ^ k = p := ⟨_, rfl⟩
  rw [hp] at hpow hm
  have hp0 : 0 < p := by rw [← hp]; exact Nat.pow_pos (by omega)
  have hmI : ((N : Int) % (p : Int)) = (m : Int) := by rw [← hm]; simp
  have Hlt := Lib.hid hlt
  have Hlt1 := Lib.hid hlt1
  have Hlt2 := Lib.hid hlt2
  have Hw1 := Lib.hid hw1
  have Hw2 := Lib.hid hw2
  clear hlt hlt1 hlt2 hw1 hw2 hm hp hk
  obtain ⟨i0, hi, hz0, hz1, hz2⟩ := info_parts Try.infoInt
  go_enter Try.func9, Try.ntmps9
  go_wp2_with fail
  refine (head_any _).mono ?_
  rintro e w1 ⟨rfl, hB1⟩
  go_wp2_with fail
  refine (put_yes_at _ _ m k rfl rfl (by omega) Hlt.out _).mono ?_
  rintro e w2 ⟨A2, rfl, hr2, hB2⟩
  go_wp2_with fail
  refine (put_yes_at _ _ m (k + 1) rfl (by simp) (by omega) Hlt1.out _).mono ?_
  rintro e w3 ⟨A3, rfl, hr3, hB3⟩
  go_wp2_with fail
  refine (put_yes_at _ _ (2 * m) (k + 1) (by simp) (by simp) (by omega) Hlt2.out _).mono ?_
  rintro e w4 ⟨A4, rfl, hr4, hB4⟩
  have r24 := (hr2.to hB3).to hB4
  have r34 := hr3.to hB4
  rw [Hw1.out] at r34
  rw [Hw2.out] at hr4
  have r24a := r24.to (below_lits (w := w4) (o := .cells #[.int .i64 0] 3) rfl)
  have o4 := own_lit w4 .i64 [0] 1 rfl 3 (cs := #[.int .i64 0]) rfl (by decide)
  go_wp2_with (at_builtin; refine wpList_append_row _ .i64 rfl _ _ 22 rfl w4.heap.size 3 i0 (.int .i64 0) 8 Try.underlying22 hi hz0 hz1 hz2 rfl _ 1 [0] rfl o4 A2 k k _ (bitRow m k k) rfl (bitRow_len _ _ _) r24a (by unfold maxLen; omega) (by omega) (by simp) ?_; intro A5 c5 w5 hown5 hc5 hB5)
  have e5 := (below_lits (w := w4) (o := .cells #[.int .i64 0] 3) rfl).trans hB5
  have r5 := Row.own hown5
  have r35 := r34.to e5
  refine (same_at (0 :: bitRow m k k) ([0] ++ bitRow m k k) (k + 1) (1 + k) (by simp [bitRow_len]) (by simp [bitRow_len]; omega) _ _ _ _ _ _ _ r35 r5 (by unfold maxLen; omega)).mono ?_
  rintro e w' ⟨rfl, q, rfl⟩
  rw [show sameB (0 :: bitRow m k k) ([0] ++ bitRow m k k) = true from by simp [sameB]]
  obtain ⟨w6, hw6⟩ : ∃ w6, w5.drewN q = w6 := ⟨_, rfl⟩
  rw [hw6]
  have e6 : Below w5.heap.size w5 w6 := by rw [← hw6]; exact below_drewN0 _ _
  clear hw6 r35 r5 hown5
  have e46 := below_then e5 e6
  have r26 := (r24.to e46).to (below_lits (w := w6) (o := .cells #[] 3) rfl)
  have r46 := hr4.to e46
  have o6 := own_lit w6 .i64 [] 0 rfl 3 (cs := #[]) rfl (by decide)
  go_wp2_with (first
    | (at_builtin; refine wpList_append_row _ .i64 rfl (.tmp 63) (.tmp 64) 22 rfl w6.heap.size 3 i0 (.int .i64 0) 8 Try.underlying22 hi hz0 hz1 hz2 rfl _ 0 [] rfl o6 A2 k k _ (bitRow m k k) rfl (bitRow_len _ _ _) r26 (by unfold maxLen; omega) (by omega) (by simp) ?_; intro A7 c7 w7 hown7 hc7 hB7; simp only [Nat.zero_add, List.nil_append] at hown7 hc7 ⊢)
    | (at_builtin; refine wpList_append_row _ .i64 rfl (.tmp 65) (.tmp 66) 22 rfl w6.heap.size 3 i0 (.int .i64 0) 8 Try.underlying22 hi hz0 hz1 hz2 rfl _ k (bitRow m k k) rfl (hown7.alloc _) (some ⟨w7.heap.size, 0, none⟩) 1 1 _ [0] rfl rfl (Row.lit w7 .i64 [0] 3 rfl) (by unfold maxLen; omega) (by omega) (by have := hB7.size; simp at this ⊢; omega) ?_; intro A8 c8 w8 hown8 hc8 hB8))
  have e7 : Below w6.heap.size w6 w7 := (below_lits (w := w6) (o := .cells #[] 3) rfl).trans hB7
  have e8 : Below w6.heap.size w6 w8 := e7.trans (((Below.refl _ w7).alloc (by exact e7.size) (.cells #[.int .i64 0] 3)).trans hB8)
  have r8 := Row.own hown8
  have r48 := r46.to e8
  refine (same_at (bitRow m k k ++ [0]) (bitRow m k k ++ [0]) (k + 1) (k + 1) (by simp [bitRow_len]) (by simp [bitRow_len]) _ _ _ _ _ _ _ r48 r8 (by unfold maxLen; omega)).mono ?_
  rintro e w' ⟨rfl, q2, rfl⟩
  rw [show sameB (bitRow m k k ++ [0]) (bitRow m k k ++ [0]) = true from by simp [sameB]]
  go_wp2_with fail
  go_ret
  exact ⟨rfl, below_then hB1 (below_then hB2 (below_then hB3 (below_then hB4 (below_then e46 (below_then e8 (below_drewN0 _ _))))))⟩

end Go.Proofs.Ytneojggippiloaa
