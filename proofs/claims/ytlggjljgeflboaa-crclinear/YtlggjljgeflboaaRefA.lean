/-
  The document's own answers of layer 1 that these statements use: Right, Put, Spread.
-/
import Derived.Test.YtlggjljgeflboaaBase
namespace Go.Proofs.Ytlggjljgeflboaa
open Go.RowKit

set_option maxHeartbeats 400000 in
theorem refRight_any (l : List Int) (A : Option Addr) (c B : Nat) (w : World) (h : Row .i64 w B A l) (hl : l.length ≤ maxLen) :
    Calls Try.prog 11 #[.slice A l.length c] w fun e w' => e = .returned (.bool (rightB l)) ∧ w = w' := by
  unfold maxLen at hl
  go_enter Try.func11, Try.ntmps11
  go_wp2
  go_loop [3] (fun i => ∃ k : Nat, k ≤ l.length ∧ i = .int .i64 k ∧ rightB (l.take k) = true) (fun i => l.length - (intOf i).toNat)
  case atStart => exact ⟨0, Nat.zero_le _, rfl, by simp [rightB]⟩
  case round =>
    obtain ⟨k, hk, rfl, hr⟩ := hrel
    have Hr := Lib.hid hr
    clear hr
    by_cases hlt : k < l.length
    · obtain ⟨ad, x, rfl, hx, hc⟩ := h.get_ hlt
      have Hx := Lib.hid hx
      clear hx
      by_cases h0 : x = 0
      · subst h0
        go_wp2
        go_round
        case rel => exact ⟨k + 1, by omega, by go_num, by rw [take_snoc Hx.out, rightB_snoc, Hr.out]; rfl⟩
        case measure => simp [intOf]; omega
      · by_cases h1 : x = 1
        · subst h1
          go_wp2
          go_round
          case rel => exact ⟨k + 1, by omega, by go_num, by rw [take_snoc Hx.out, rightB_snoc, Hr.out]; rfl⟩
          case measure => simp [intOf]; omega
        · have d0 : (x != 0) = true := by simp [h0]
          have d1 : (x != 1) = true := by simp [h1]
          go_wp2
          go_ret
          exact ⟨ret_bool (rightB_no Hx.out (by omega)).symm, rfl⟩
    · obtain rfl : k = l.length := by omega
      go_wp2
      go_ret
      exact ⟨ret_bool (by rw [List.take_length] at Hr; exact Hr.out.symm), rfl⟩

theorem refRight_at (l : List Int) (n : Nat) (hn : l.length = n) (A : Option Addr) (c B : Nat) (w : World) (h : Row .i64 w B A l) (hl : n ≤ maxLen) :
    Calls Try.prog 11 #[.slice A n c] w fun e w' => e = .returned (.bool (rightB l)) ∧ w = w' := by
  subst hn; exact refRight_any l A c B w h hl

set_option maxRecDepth 100000 in
set_option maxHeartbeats 1000000 in
theorem refPut_yes (num many : Nat) (hm : many ≤ 32) (hnum : num < 2 ^ many) (w : World) :
    Calls Try.prog 21 #[.int .i64 num, .int .i64 many] w fun e W' => ∃ A c, e = .returned (.tuple #[.slice A many c, .bool true]) ∧ W'.ownsRow w.heap.size 3 1 (.slice A many c) many ((bitRow num many many).map (Value.int .i64)) ∧ Below w.heap.size w W' := by
  obtain ⟨i0, hi, hz0, hz1, hz2⟩ := info_parts Try.infoInt
  have d1 : decide ((many : Int) < 0) = false := by simp
  have d2 : decide (32 < (many : Int)) = false := by simp; omega
  have d3 : decide ((num : Int) < 0) = false := by simp
  have d4 : decide (wrap64 (2 ^ many) ≤ (num : Int)) = false := by
    rw [wrap_pow many hm]; simp; exact_mod_cast hnum
  have hn62 : num < 4611686018427387904 := by
    have := Nat.pow_le_pow_right (n := 2) (by omega) hm
    omega
  clear hnum
  go_enter Try.func21, Try.ntmps21
  go_wp2_with fail
  go_loopw [6, 7] (fun o i wr => ∃ (k : Nat) (A : Option Addr) (c : Nat), k ≤ many ∧ i = .int .i64 ((many : Int) - 1 - k) ∧ o = .slice A k c ∧ wr.ownsRow w.heap.size 3 1 (.slice A k c) k ((bitRow num many k).map (Value.int .i64)) ∧ Below w.heap.size w wr)
    (fun _ i _ => (intOf i + 1).toNat)
  case atStart => exact ⟨0, none, 0, Nat.zero_le _, by simp, rfl, World.ownsRow_nil _ _ _ _, Below.refl _ _⟩
  case round =>
    obtain ⟨k, A, c, hk, rfl, rfl, hown, hB⟩ := hrel
    by_cases hlt : k < many
    · have hx : bits .and .i64 ((num : Int) / 2 ^ (many - 1 - k)) 1 = bitAt num many k := bits_one num (many - 1 - k) hn62
      have Hr := Lib.hid (bitRow_succ num many k)
      go_wp2_with (at_builtin; refine wpList_append_row _ .i64 rfl _ _ 22 rfl w.heap.size 3 i0 (.int .i64 0) 8 Try.underlying22 hi hz0 hz1 hz2 rfl _ k (bitRow num many k) rfl (hown.alloc _) (some ⟨wr.heap.size, 0, none⟩) 1 1 _ [bitAt num many k] rfl rfl (Row.lit wr .i64 [bitAt num many k] 3 rfl) (by unfold maxLen; omega) (by omega) (by have := hB.size; simp; omega) ?_; intro A' c' w1 hown1 hc1 hB1)
      have hBB : Below w.heap.size w w1 := (hB.alloc hB.size _).trans hB1
      exact ⟨⟨k + 1, A', c', by omega, by go_num, rfl, by rw [Hr.out]; exact hown1, hBB⟩, by simp [intOf]; omega⟩
    · obtain rfl : k = many := by omega
      go_wp2
      go_ret2
      exact ⟨A, c, rfl, hown, hB⟩

theorem refPut_at (n m : Int) (num many : Nat) (hn : n = num) (hm' : m = many) (hm : many ≤ 32) (hnum : num < 2 ^ many) (w : World) :
    Calls Try.prog 21 #[.int .i64 n, .int .i64 m] w fun e W' => ∃ A c, e = .returned (.tuple #[.slice A many c, .bool true]) ∧ Row .i64 W' W'.heap.size A (bitRow num many many) ∧ Below w.heap.size w W' := by
  subst hn hm'
  exact (refPut_yes num many hm hnum w).mono fun e W' ⟨A, c, h1, h2, h3⟩ => ⟨A, c, h1, Row.own h2, h3⟩

set_option maxRecDepth 100000 in
set_option maxHeartbeats 1000000 in
theorem refSpread_any (l : List Int) (A : Option Addr) (c : Nat) (w : World) (h : Row .u8 w w.heap.size A l) (hb : byteB l) (hm : l.length * 64 ≤ 140737488355328) :
    Calls Try.prog 20 #[.slice A l.length c] w fun e w' => ∃ A' c', e = .returned (.slice A' (8 * l.length) c') ∧
      w'.ownsRow w.heap.size 3 1 (.slice A' (8 * l.length) c') (8 * l.length) ((spreadL l).map (Value.int .i64)) ∧ Below w.heap.size w w' := by
  obtain ⟨i0, hi, hz0, hz1, hz2⟩ := info_parts Try.infoInt
  have Hb := Lib.hid hb
  clear hb
  go_enter Try.func20, Try.ntmps20
  go_wp2_with fail
  go_loopw [3, 4] (fun o i wr => ∃ (k : Nat) (A' : Option Addr) (c' : Nat), k ≤ l.length ∧ i = .int .i64 k ∧ o = .slice A' (8 * k) c' ∧
      wr.ownsRow w.heap.size 3 1 (.slice A' (8 * k) c') (8 * k) ((spreadL (l.take k)).map (Value.int .i64)) ∧ Below w.heap.size w wr)
    (fun _ i _ => l.length - (intOf i).toNat)
  case atStart => exact ⟨0, none, 0, Nat.zero_le _, rfl, rfl, World.ownsRow_nil _ _ _ _, Below.refl _ _⟩
  case round =>
    obtain ⟨k, A', c', hk, rfl, rfl, hown, hB⟩ := hrel
    by_cases hlt : k < l.length
    · obtain ⟨ad, x, rfl, hx, hc⟩ := (h.below hB).get_ hlt
      have hxb := Hb.out x (List.mem_of_getElem? hx)
      obtain ⟨N, rfl⟩ := Int.eq_ofNat_of_zero_le hxb.1
      have hN : N ≤ 255 := by omega
      have Hsn := Lib.hid (spreadL_snoc hx)
      clear hx hxb
      have hsz := hB.size
      go_wp2_with (first
        | (go_at_call 21; refine (refPut_at _ _ N 8 rfl rfl (by omega) (by omega) _).mono ?_; rintro e w1 ⟨A2, c2, rfl, hr1, hB1⟩; have own1 := own_to hown (hB1.mono (Nat.le_refl _)))
        | (at_builtin; refine wpList_append_row _ .i64 rfl _ _ 22 rfl w.heap.size 3 i0 (.int .i64 0) 8 Try.underlying22 hi hz0 hz1 hz2 rfl _ (8 * k) (spreadL (l.take k)) rfl own1 A2 8 c2 _ (bitRow N 8 8) rfl (bitRow_len _ _ _) hr1 (by unfold maxLen; omega) (by omega) (by have := hB1.size; omega) ?_; intro A3 c3 w2 hown2 hc2 hB2))
      have hBB : Below w.heap.size w w2 := (hB.trans (hB1.mono hsz)).trans hB2
      exact ⟨⟨k + 1, A3, c3, by omega, by go_num, rfl, by rw [Hsn.out]; exact hown2, hBB⟩, by simp [intOf]; omega⟩
    · obtain rfl : k = l.length := by omega
      go_wp2
      go_ret
      exact ⟨A', c', rfl, by rw [List.take_length] at hown; exact hown, hB⟩

theorem refSpread_at (l : List Int) (n : Nat) (hn : l.length = n) (A : Option Addr) (c : Nat) (w : World) (h : Row .u8 w w.heap.size A l) (hb : byteB l) (hm : n * 64 ≤ 140737488355328) (m : Nat) (hm' : 8 * n = m) :
    Calls Try.prog 20 #[.slice A n c] w fun e W' => ∃ A' c', e = .returned (.slice A' m c') ∧ Row .i64 W' W'.heap.size A' (spreadL l) ∧ Below w.heap.size w W' := by
  subst hn hm'
  exact (refSpread_any l A c w h hb hm).mono fun e W' ⟨A', c', h1, h2, h3⟩ => ⟨A', c', h1, Row.own h2, h3⟩

end Go.Proofs.Ytlggjljgeflboaa
