/-
  The document's own answers, walked: Put, Join, Spread (Right, Get, Same: in the text of rows).
-/
import Derived.Test.YtmapkjjglhpamaaBack
namespace Go.Proofs.Ytmapkjjglhpamaa
open Go.RowKit

set_option maxRecDepth 100000 in
set_option maxHeartbeats 1000000 in
theorem refPut_yes (num many : Nat) (hm : many ≤ 32) (hnum : num < 2 ^ many) (w : World) :
    Calls Try.prog 40 #[.int .i64 num, .int .i64 many] w fun e W' => ∃ A c, e = .returned (.tuple #[.slice A many c, .bool true]) ∧ W'.ownsRow w.heap.size 3 1 (.slice A many c) many ((bitRow num many many).map (Value.int .i64)) ∧ Below w.heap.size w W' := by
  obtain ⟨i0, hi, hz0, hz1, hz2⟩ := info_parts Try.infoInt
  have d1 : decide ((many : Int) < 0) = false := by simp
  have d2 : decide (32 < (many : Int)) = false := by simp; omega
  have d3 : decide ((num : Int) < 0) = false := by simp
  have d4 : decide (wrap64 (2 ^ many) ≤ (num : Int)) = false := by
    rw [wrap_pow many hm]; simp; exact_mod_cast hnum
  have hn62 : num < 4611686018427387904 := by
    have := Nat.pow_le_pow_right (n := 2) (by omega) hm
    omega
  clear hnum
  go_enter Try.func40, Try.ntmps40
  go_wp2_with fail
  go_loopw [6, 7] (fun o i wr => ∃ (k : Nat) (A : Option Addr) (c : Nat), k ≤ many ∧ i = .int .i64 ((many : Int) - 1 - k) ∧ o = .slice A k c ∧ wr.ownsRow w.heap.size 3 1 (.slice A k c) k ((bitRow num many k).map (Value.int .i64)) ∧ Below w.heap.size w wr)
    (fun _ i _ => (intOf i + 1).toNat)
  case atStart => exact ⟨0, none, 0, Nat.zero_le _, by simp, rfl, World.ownsRow_nil _ _ _ _, Below.refl _ _⟩
  case round =>
    obtain ⟨k, A, c, hk, rfl, rfl, hown, hB⟩ := hrel
    by_cases hlt : k < many
    · have hx : bits .and .i64 ((num : Int) / 2 ^ (many - 1 - k)) 1 = bitAt num many k := bits_one num (many - 1 - k) hn62
      have Hr := Lib.hid (bitRow_succ num many k)
      go_wp2_with (at_builtin; refine wpList_append_row _ .i64 rfl _ _ 25 rfl w.heap.size 3 i0 (.int .i64 0) 8 Try.underlying25 hi hz0 hz1 hz2 rfl _ k (bitRow num many k) rfl (hown.alloc _) (some ⟨wr.heap.size, 0, none⟩) 1 1 _ [bitAt num many k] rfl rfl (Row.lit wr .i64 [bitAt num many k] 3 rfl) (by unfold maxLen; omega) (by omega) (by have := hB.size; simp; omega) ?_; intro A' c' w1 hown1 hc1 hB1)
      have hBB : Below w.heap.size w w1 := (hB.alloc hB.size _).trans hB1
      exact ⟨⟨k + 1, A', c', by omega, by go_num, rfl, by rw [Hr.out]; exact hown1, hBB⟩, by simp [intOf]; omega⟩
    · obtain rfl : k = many := by omega
      go_wp2
      go_ret2
      exact ⟨A, c, rfl, hown, hB⟩

set_option maxHeartbeats 1000000 in
theorem refPut_no (num many : Int) (h : ¬ PutOk num many) (w : World) :
    Calls Try.prog 40 #[.int .i64 num, .int .i64 many] w fun e w' => e = .returned (.tuple #[.slice none 0 0, .bool false]) ∧ w = w' := by
  by_cases h1 : many < 0
  · have d1 : decide (many < 0) = true := by simp; omega
    clear h
    go_enter Try.func40, Try.ntmps40
    go_wp2
    go_ret2
    exact ⟨rfl, rfl⟩
  · obtain ⟨m, rfl⟩ := Int.eq_ofNat_of_zero_le (Int.not_lt.1 h1)
    have d1 : decide ((m : Int) < 0) = false := by simp
    by_cases h2 : 32 < m
    · have d2 : decide (32 < (m : Int)) = true := by simp; omega
      clear h
      go_enter Try.func40, Try.ntmps40
      go_wp2
      go_ret2
      exact ⟨rfl, rfl⟩
    · have d2 : decide (32 < (m : Int)) = false := by simp; omega
      by_cases h3 : num < 0
      · have d3 : decide (num < 0) = true := by simp; omega
        clear h
        go_enter Try.func40, Try.ntmps40
        go_wp2
        go_ret2
        exact ⟨rfl, rfl⟩
      · have d3 : decide (num < 0) = false := by simp; omega
        have d4 : decide (wrap64 (2 ^ m) ≤ num) = true := by
          rw [wrap_pow m (by omega)]
          have e : ((2 : Int) ^ m) = ((2 ^ m : Nat) : Int) := by simp
          unfold PutOk at h
          rw [Int.toNat_natCast, e] at h
          simp only [decide_eq_true_eq]
          omega
        clear h
        go_enter Try.func40, Try.ntmps40
        go_wp2
        go_ret2
        exact ⟨rfl, rfl⟩

theorem refGet_at (l : List Int) (n : Nat) (hn : l.length = n) (v : Int) (hv : ((numOf l : Nat) : Int) = v) (A : Option Addr) (c B : Nat) (w : World) (h : Row .i64 w B A l) (hg : getOk l = true) :
    Calls Try.prog 59 #[.slice A n c] w fun e w' => e = .returned (.tuple #[.int .i64 v, .bool true]) ∧ w = w' := by
  subst hn hv; exact refGet_yes l A c B w h hg
theorem refPut_at (n m : Int) (num many : Nat) (hn : n = num) (hm' : m = many) (hm : many ≤ 32) (hnum : num < 2 ^ many) (w : World) :
    Calls Try.prog 40 #[.int .i64 n, .int .i64 m] w fun e W' => ∃ A c, e = .returned (.tuple #[.slice A many c, .bool true]) ∧ Row .i64 W' W'.heap.size A (bitRow num many many) ∧ Below w.heap.size w W' := by
  subst hn hm'
  exact (refPut_yes num many hm hnum w).mono fun e W' ⟨A, c, h1, h2, h3⟩ => ⟨A, c, h1, Row.own h2, h3⟩

set_option maxRecDepth 100000 in
set_option maxHeartbeats 1000000 in
theorem refJoin_yes (l : List Int) (A : Option Addr) (c : Nat) (w : World) (h : Row .i64 w w.heap.size A l) (hm : l.length * 8 ≤ 140737488355328) (hc : l.length ≤ c) (hg : joinOk l = true) :
    Calls Try.prog 60 #[.slice A l.length c] w fun e w' => ∃ A' c', e = .returned (.tuple #[.slice A' (l.length / 8) c', .bool true]) ∧
      w'.ownsRow w.heap.size 5 1 (.slice A' (l.length / 8) c') (l.length / 8) ((joinL l).map (Value.int .u8)) ∧ Below w.heap.size w w' := by
  simp only [joinOk, Bool.and_eq_true, decide_eq_true_eq] at hg
  obtain ⟨h8, hr⟩ := hg
  obtain ⟨i0, hi, hz0, hz1, hz2⟩ := info_parts Try.infoByte
  have d1 : (((l.length : Int) % 8) != 0) = false := by simp; omega
  have HR := Lib.hid hr
  have H8 := Lib.hid h8
  have hml : l.length ≤ maxLen := by unfold maxLen; omega
  have hml' : l.length ≤ 9223372036854775807 := by omega
  clear h8
  go_enter Try.func60, Try.ntmps60
  go_wp2_with (go_at_call 21; refine (refRight_any l A c _ _ h hml).mono ?_; rintro e w' ⟨rfl, rfl⟩)
  go_loopw [4, 5] (fun b i wr => ∃ (k : Nat) (A' : Option Addr) (c' : Nat), k ≤ l.length / 8 ∧ i = .int .i64 ((8 * k : Nat) : Int) ∧ b = .slice A' k c' ∧
      wr.ownsRow w.heap.size 5 1 (.slice A' k c') k ((joinTo l k).map (Value.int .u8)) ∧ Below w.heap.size w wr)
    (fun _ i _ => l.length - (intOf i).toNat)
  case atStart => exact ⟨0, none, 0, Nat.zero_le _, rfl, rfl, World.ownsRow_nil _ _ _ _, Below.refl _ _⟩
  case round =>
    obtain ⟨k, A', c', hk, rfl, rfl, hown, hB⟩ := hrel
    have h8 := H8.out
    by_cases hlt : k < l.length / 8
    · have hlt' : 8 * k < l.length := by omega
      have hle' : 8 * k + 8 ≤ l.length := by omega
      obtain ⟨ad, x, rfl, _, _⟩ := h.get_ hlt'
      clear h8
      have hsub : Row .i64 wr w.heap.size (some (ad.add (8 * k))) ((l.drop (8 * k)).take 8) := by
        have := (h.below hB).sub_ (8 * k) (8 * k + 8) (by omega) hle' (A' := some (ad.add (8 * k))) (fun _ => rfl)
        rwa [show 8 * k + 8 - 8 * k = 8 by omega] at this
      have hln : ((l.drop (8 * k)).take 8).length = 8 := by simp; omega
      have hrs : rightB ((l.drop (8 * k)).take 8) = true := rightB_take (rightB_drop HR.out _) _
      have hgo : getOk ((l.drop (8 * k)).take 8) = true := by rw [getOk, hrs, hln]; rfl
      have hlt8 : numOf ((l.drop (8 * k)).take 8) < 256 := by
        have := numOf_lt _ hrs
        rw [hln] at this
        omega
      have hsn : joinTo l (k + 1) = joinTo l k ++ [((numOf ((l.drop (8 * k)).take 8) : Nat) : Int)] := by simp [joinTo, List.range_succ]
      have Hln := Lib.hid hln
      have Hgo := Lib.hid hgo
      have Hsn := Lib.hid hsn
      clear hln hrs hsn hgo
      generalize hnum : numOf ((l.drop (8 * k)).take 8) = N at *
      have Hnum := Lib.hid hnum
      clear hnum
      have hsz := hB.size
      go_wp2_with (first
        | (go_at_call 59; refine (refGet_at _ 8 Hln.out N (by rw [Hnum.out]) _ _ _ _ hsub Hgo.out).mono ?_; rintro e w' ⟨rfl, rfl⟩)
        | (at_builtin; refine wpList_append_row _ .u8 rfl _ _ 22 rfl w.heap.size 5 i0 (.int .u8 0) 1 Try.underlying22 hi hz0 hz1 hz2 rfl _ k (joinTo l k) rfl (hown.alloc _) (some ⟨wr.heap.size, 0, none⟩) 1 1 _ [(N : Int)] rfl rfl (Row.lit wr .u8 [(N : Int)] 5 rfl) (by unfold maxLen; omega) (by omega) (by simp; omega) ?_; intro A2 c2 w1 hown1 hc1 hB1))
      have hBB : Below w.heap.size w w1 := (hB.alloc hB.size _).trans hB1
      exact ⟨⟨k + 1, A2, c2, by omega, by go_num, rfl, by rw [Hsn.out]; exact hown1, hBB⟩, by simp [intOf]; omega⟩
    · obtain rfl : k = l.length / 8 := by omega
      have hge : ¬ 8 * (l.length / 8) < l.length := by omega
      clear h8
      go_wp2
      go_ret2
      exact ⟨A', c', rfl, hown, hB⟩

set_option maxHeartbeats 400000 in
theorem refJoin_no (l : List Int) (A : Option Addr) (c B : Nat) (w : World) (h : Row .i64 w B A l) (hm : l.length ≤ maxLen) (hg : joinOk l = false) :
    Calls Try.prog 60 #[.slice A l.length c] w fun e w' => e = .returned (.tuple #[.slice none 0 0, .bool false]) ∧ w = w' := by
  cases hr : rightB l with
  | false =>
    clear hg
    have hm' : l.length ≤ 9223372036854775807 := by unfold maxLen at hm; omega
    go_enter Try.func60, Try.ntmps60
    go_wp2_with (go_at_call 21; refine (refRight_any l A c B _ h hm).mono ?_; rintro e w' ⟨rfl, rfl⟩)
    go_ret2
    exact ⟨rfl, rfl⟩
  | true =>
    have d1 : (((l.length : Int) % 8) != 0) = true := by
      rw [joinOk, hr, Bool.and_true] at hg
      simp at hg ⊢
      omega
    clear hg
    have hm' : l.length ≤ 9223372036854775807 := by unfold maxLen at hm; omega
    go_enter Try.func60, Try.ntmps60
    go_wp2_with (go_at_call 21; refine (refRight_any l A c B _ h hm).mono ?_; rintro e w' ⟨rfl, rfl⟩)
    go_ret2
    exact ⟨rfl, rfl⟩

set_option maxRecDepth 100000 in
set_option maxHeartbeats 1000000 in
theorem refSpread_any (l : List Int) (A : Option Addr) (c : Nat) (w : World) (h : Row .u8 w w.heap.size A l) (hb : byteB l) (hm : l.length * 64 ≤ 140737488355328) :
    Calls Try.prog 51 #[.slice A l.length c] w fun e w' => ∃ A' c', e = .returned (.slice A' (8 * l.length) c') ∧
      w'.ownsRow w.heap.size 3 1 (.slice A' (8 * l.length) c') (8 * l.length) ((spreadL l).map (Value.int .i64)) ∧ Below w.heap.size w w' := by
  obtain ⟨i0, hi, hz0, hz1, hz2⟩ := info_parts Try.infoInt
  have Hb := Lib.hid hb
  clear hb
  go_enter Try.func51, Try.ntmps51
  go_wp2_with fail
  go_loopw [3, 4] (fun o i wr => ∃ (k : Nat) (A' : Option Addr) (c' : Nat), k ≤ l.length ∧ i = .int .i64 k ∧ o = .slice A' (8 * k) c' ∧
      wr.ownsRow w.heap.size 3 1 (.slice A' (8 * k) c') (8 * k) ((spreadL (l.take k)).map (Value.int .i64)) ∧ Below w.heap.size w wr)
    (fun _ i _ => l.length - (intOf i).toNat)
  case atStart => exact ⟨0, none, 0, Nat.zero_le _, rfl, rfl, World.ownsRow_nil _ _ _ _, Below.refl _ _⟩
  case round =>
    obtain ⟨k, A', c', hk, rfl, rfl, hown, hB⟩ := hrel
    by_cases hlt : k < l.length
    · obtain ⟨ad, x, rfl, hx, hc⟩ := (h.below hB).get_ hlt
      have hxb := Hb.out x (List.mem_of_getElem? hx)
      obtain ⟨N, rfl⟩ := Int.eq_ofNat_of_zero_le hxb.1
      have hN : N ≤ 255 := by omega
      have Hsn := Lib.hid (spreadL_snoc hx)
      clear hx hxb
      have hsz := hB.size
      go_wp2_with (first
        | (go_at_call 40; refine (refPut_at _ _ N 8 rfl rfl (by omega) (by omega) _).mono ?_; rintro e w1 ⟨A2, c2, rfl, hr1, hB1⟩; have own1 := own_to hown (hB1.mono (Nat.le_refl _)))
        | (at_builtin; refine wpList_append_row _ .i64 rfl _ _ 25 rfl w.heap.size 3 i0 (.int .i64 0) 8 Try.underlying25 hi hz0 hz1 hz2 rfl _ (8 * k) (spreadL (l.take k)) rfl own1 A2 8 c2 _ (bitRow N 8 8) rfl (bitRow_len _ _ _) hr1 (by unfold maxLen; omega) (by omega) (by have := hB1.size; omega) ?_; intro A3 c3 w2 hown2 hc2 hB2))
      have hBB : Below w.heap.size w w2 := (hB.trans (hB1.mono hsz)).trans hB2
      exact ⟨⟨k + 1, A3, c3, by omega, by go_num, rfl, by rw [Hsn.out]; exact hown2, hBB⟩, by simp [intOf]; omega⟩
    · obtain rfl : k = l.length := by omega
      go_wp2
      go_ret
      exact ⟨A', c', rfl, by rw [List.take_length] at hown; exact hown, hB⟩

end Go.Proofs.Ytmapkjjglhpamaa
