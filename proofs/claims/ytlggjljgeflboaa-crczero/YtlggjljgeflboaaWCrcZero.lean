/-
  CrcZero: bits with their own sum's bits behind have the sum 0; each sum has its bits, and no more.
-/
import Derived.Test.YtlggjljgeflboaaHead
import Derived.Test.YtlggjljgeflboaaApart
namespace Go.Proofs.Ytlggjljgeflboaa
open Go.RowKit

set_option maxRecDepth 100000 in
set_option maxHeartbeats 1000000 in
theorem crcZero_out (l : List Int) (n nb : Nat) (hn : l.length = n) (A A' : Option Addr) (c c' : Nat) (w : World) (r : Row .i64 w w.heap.size A l) (hl : n ≤ maxLen) (h : 2000 < n ∨ 500 < nb ∨ rightB l = false) :
    Calls Try.prog 8 #[.slice A n c, .slice A' nb c'] w fun e w' => e = .returned (.bool true) ∧ Below w.heap.size w w' := by
  have Hn := Lib.hid hn
  clear hn
  by_cases h1 : 2000 < n
  · have d1 : decide (2000 < (n : Int)) = true := by simp; omega
    clear h
    go_enter Try.func8, Try.ntmps8
    go_wp2_with fail
    refine (head_any _).mono ?_
    rintro e w1 ⟨rfl, hB1⟩
    go_wp2_with fail
    go_ret
    exact ⟨rfl, hB1⟩
  · have d1 : decide (2000 < (n : Int)) = false := by simp; omega
    by_cases h2 : 500 < nb
    · have d2 : decide (500 < (nb : Int)) = true := by simp; omega
      clear h
      go_enter Try.func8, Try.ntmps8
      go_wp2_with fail
      refine (head_any _).mono ?_
      rintro e w1 ⟨rfl, hB1⟩
      go_wp2_with fail
      go_ret
      exact ⟨rfl, hB1⟩
    · have d2 : decide (500 < (nb : Int)) = false := by simp; omega
      have hr : rightB l = false := by rcases h with h | h | h; omega; omega; exact h
      have Hr := Lib.hid hr
      clear h hr
      go_enter Try.func8, Try.ntmps8
      go_wp2_with fail
      refine (head_any _).mono ?_
      rintro e w1 ⟨rfl, hB1⟩
      go_wp2_with fail
      refine (refRight_at l n Hn.out A c _ _ (r.keep hB1) hl).mono ?_
      rintro e w' ⟨rfl, rfl⟩
      rw [Hr.out]
      go_wp2_with fail
      go_ret
      exact ⟨rfl, hB1⟩

set_option maxRecDepth 100000 in
set_option maxHeartbeats 2000000 in
theorem crcZero_in (l : List Int) (n : Nat) (hn : l.length = n) (b : List Int) (nb : Nat) (hnb : b.length = nb) (A A' : Option Addr) (c c' : Nat) (w : World)
    (h : Row .i64 w w.heap.size A l) (hb : Row .u8 w w.heap.size A' b) (hbb : byteB b) (h2000 : n ≤ 2000) (h500 : nb ≤ 500) (hr : rightB l = true) :
    Calls Try.prog 8 #[.slice A n c, .slice A' nb c'] w fun e w' => e = .returned (.bool true) ∧ Below w.heap.size w w' := by
  have d1 : decide (2000 < (n : Int)) = false := by simp; omega
  have d2 : decide (500 < (nb : Int)) = false := by simp; omega
  have Hm := Lib.hid (show n ≤ maxLen by unfold maxLen; omega)
  have Hmb := Lib.hid (show nb ≤ maxLen by unfold maxLen; omega)
  have Hm15 := Lib.hid (show n + 15 ≤ maxLen by unfold maxLen; omega)
  have Hn := Lib.hid hn
  have Hnb := Lib.hid hnb
  have Hbb := Lib.hid hbb
  have Hr := Lib.hid hr
  have hz := crc15_zero l
  obtain ⟨S, hS⟩ : ∃ S, (crc15 l).toNat = S := ⟨_, rfl⟩
  have hlt : S < 2 ^ 15 := by rw [← hS]; exact (crc15 l).isLt
  rw [hS] at hz
  have HS := Lib.hid (show ((crc15 l).toNat : Int) = (S : Int) by rw [hS])
  have Hz := Lib.hid (show ((crc15 (l ++ bitRow S 15 15)).toNat : Int) = 0 by rw [hz]; rfl)
  have Hlt := Lib.hid hlt
  have Hr15 := Lib.hid (show rightB (l ++ bitRow S 15 15) = true by rw [rightB_append, hr, bitRow_right]; rfl)
  have Hl15 := Lib.hid (show (l ++ bitRow S 15 15).length = n + 15 by simp [hn, bitRow_len])
  obtain ⟨T, hT⟩ : ∃ T, (crc8 b).toNat ^^^ 255 = T := ⟨_, rfl⟩
  have hT2 : T < 256 := by rw [← hT]; exact Nat.xor_lt_two_pow (n := 8) (crc8 b).isLt (by omega)
  have HT := Lib.hid (show (((crc8 b).toNat ^^^ 255 : Nat) : Int) = (T : Int) by rw [hT])
  obtain ⟨V, hV⟩ : ∃ V, (crc32 0xFFFFFFFF#32 b).toNat ^^^ 4294967295 = V := ⟨_, rfl⟩
  have hV2 : V < 4294967296 := by rw [← hV]; exact Nat.xor_lt_two_pow (n := 32) (crc32 0xFFFFFFFF#32 b).isLt (by omega)
  have HV := Lib.hid (show (((crc32 0xFFFFFFFF#32 b).toNat ^^^ 4294967295 : Nat) : Int) = (V : Int) by rw [hV])
  clear hn hnb hbb hr hz hS hlt hT hV
  have d3 : decide ((0 : Int) ≤ (T : Int)) = true := by simp
  have d4 : decide ((T : Int) < 256) = true := by simp; omega
  have d5 : decide ((0 : Int) ≤ (V : Int)) = true := by simp
  have d6 : decide ((V : Int) < 4294967296) = true := by simp; omega
  obtain ⟨i0, hi, hz0, hz1, hz2⟩ := info_parts Try.infoInt
  go_enter Try.func8, Try.ntmps8
  go_wp2_with fail
  refine (head_any _).mono ?_
  rintro e w1 ⟨rfl, hB1⟩
  go_wp2_with fail
  refine (refRight_at l n Hn.out A c _ _ (h.keep hB1) Hm.out).mono ?_
  rintro e w' ⟨rfl, rfl⟩
  rw [Hr.out]
  go_wp2_with fail
  refine (bits_S c Hn.out h hB1 Hr.out Hm.out HS.out).mono ?_
  rintro e w2 ⟨rfl, hB2⟩
  go_wp2_with fail
  refine (refPut_at _ _ S 15 rfl rfl (by omega) Hlt.out _).mono ?_
  rintro e w3 ⟨A3, c3, rfl, r3, hB3⟩
  have e3 := below_next hB2 hB3
  have rb3 := hb.to e3
  have rl3 := h.to e3
  go_wp2_with fail
  refine (byte_S c' Hnb.out rb3 (Below.refl _ _) Hbb.out Hmb.out HT.out).mono ?_
  rintro e w4 ⟨rfl, hB4⟩
  go_wp2_with fail
  refine (word_S c' Hnb.out rb3 hB4 Hbb.out Hmb.out HV.out).mono ?_
  rintro e w5 ⟨rfl, hB5⟩
  have rl5 := (rl3.keep hB5).to (below_lits (w := w5) (o := .cells #[] 3) rfl)
  have rp5 := r3.keep hB5
  have o5 := own_lit w5 .i64 [] 0 rfl 3 (cs := #[]) rfl (by decide)
  go_wp2_with (first
    | (at_builtin; refine wpList_append_row _ .i64 rfl (.tmp 42) (.tmp 43) 22 rfl w5.heap.size 3 i0 (.int .i64 0) 8 Try.underlying22 hi hz0 hz1 hz2 rfl _ 0 [] rfl o5 A n c _ l rfl Hn.out rl5 (by unfold maxLen; omega) (by omega) (by simp) ?_; intro A6 c6 w6 own6 hc6 hB6; simp only [Nat.zero_add, List.nil_append] at own6 hc6 ⊢; have e6 : Below w5.heap.size w5 w6 := (below_lits (w := w5) (o := .cells #[] 3) rfl).trans hB6; have rp6 := rp5.to e6)
    | (at_builtin; refine wpList_append_row _ .i64 rfl (.tmp 44) (.tmp 45) 22 rfl w5.heap.size 3 i0 (.int .i64 0) 8 Try.underlying22 hi hz0 hz1 hz2 rfl _ n l rfl own6 A3 15 c3 _ (bitRow S 15 15) rfl (bitRow_len _ _ _) rp6 (by unfold maxLen; omega) (by omega) (by exact e6.size) ?_; intro A7 c7 w7 own7 hc7 hB7))
  have e7 : Below w5.heap.size w5 w7 := e6.trans hB7
  have r7 := Row.own own7
  refine (bits_S c7 Hl15.out r7 (Below.refl _ _) Hr15.out Hm15.out Hz.out).mono ?_
  rintro e w8 ⟨rfl, hB8⟩
  clear own6 own7 rl5 rp5 rp6 o5
  go_wp2_with fail
  go_ret
  exact ⟨rfl, below_then e3 (below_then hB5 (below_then e7 hB8))⟩

theorem crcZero_walk (l : List Int) (n : Nat) (hn : l.length = n) (b : List Int) (nb : Nat) (hnb : b.length = nb) (A A' : Option Addr) (c c' : Nat) (w : World)
    (h : Row .i64 w w.heap.size A l) (hb : Row .u8 w w.heap.size A' b) (hbb : byteB b) (hm : n ≤ maxLen) :
    Calls Try.prog 8 #[.slice A n c, .slice A' nb c'] w fun e w' => e = .returned (.bool true) ∧ Below w.heap.size w w' := by
  by_cases hlong : 2000 < n ∨ 500 < nb ∨ rightB l = false
  · exact crcZero_out l n nb hn A A' c c' w h hm hlong
  · refine crcZero_in l n hn b nb hnb A A' c c' w h hb hbb (by omega) (by omega) ?_
    cases hr : rightB l with
    | true => rfl
    | false => exact absurd (.inr (.inr hr)) hlong

end Go.Proofs.Ytlggjljgeflboaa
