/-
  CrcTells: the three sums of any bits and bytes, and any sum that goes on, are the document's.
-/
import Derived.Test.YtlggjljgeflboaaHead
import Derived.Test.YtlggjljgeflboaaRefB
namespace Go.Proofs.Ytlggjljgeflboaa
open Go.RowKit

set_option maxRecDepth 100000 in
set_option maxHeartbeats 1000000 in
theorem crcTells_long (n nb : Nat) (x : Int) (A A' : Option Addr) (c c' : Nat) (w : World) (hl : n ≤ maxLen) (hb : nb ≤ maxLen) (h : 2000 < n ∨ 1000 < nb) :
    Calls Try.prog 3 #[.slice A n c, .slice A' nb c', .int .i64 x] w fun e w' => e = .returned (.bool true) ∧ Below w.heap.size w w' := by
  unfold maxLen at hb hl
  by_cases h1 : 2000 < n
  · have d1 : decide (2000 < (n : Int)) = true := by simp; omega
    clear h
    go_enter Try.func3, Try.ntmps3
    go_wp2_with fail
    refine (head_any _).mono ?_
    rintro e w1 ⟨rfl, hB1⟩
    go_wp2_with fail
    go_ret
    exact ⟨rfl, hB1⟩
  · have d1 : decide (2000 < (n : Int)) = false := by simp; omega
    have d2 : decide (1000 < (nb : Int)) = true := by simp; omega
    clear h
    go_enter Try.func3, Try.ntmps3
    go_wp2_with fail
    refine (head_any _).mono ?_
    rintro e w1 ⟨rfl, hB1⟩
    go_wp2_with fail
    go_ret
    exact ⟨rfl, hB1⟩

set_option maxRecDepth 100000 in
set_option maxHeartbeats 2000000 in
theorem crcTells_short (l : List Int) (n : Nat) (hn : l.length = n) (x : Int) (b : List Int) (nb : Nat) (hnb : b.length = nb) (A A' : Option Addr) (c c' : Nat) (w : World)
    (h : Row .i64 w w.heap.size A l) (hb : Row .u8 w w.heap.size A' b) (hbb : byteB b) (hm : n ≤ maxLen) (hmb : nb ≤ maxLen) (h2000 : n ≤ 2000) (h1000 : nb ≤ 1000) :
    Calls Try.prog 3 #[.slice A n c, .slice A' nb c', .int .i64 x] w fun e w' => e = .returned (.bool true) ∧ Below w.heap.size w w' := by
  have d1 : decide (2000 < (n : Int)) = false := by simp; omega
  have d2 : decide (1000 < (nb : Int)) = false := by simp; omega
  have Hn := Lib.hid hn
  have Hnb := Lib.hid hnb
  have Hbb := Lib.hid hbb
  clear hn hnb hbb
  cases er : rightB l with
  | true =>
    have Er := Lib.hid er
    clear er
    go_enter Try.func3, Try.ntmps3
    go_wp2_with fail
    refine (head_any _).mono ?_
    rintro e w1 ⟨rfl, hB1⟩
    go_wp2_with fail
    refine (refRight_at l n Hn.out A c _ _ (h.keep hB1) hm).mono ?_
    rintro e w' ⟨rfl, rfl⟩
    rw [Er.out]
    go_wp2_with fail
    refine (bits_S c Hn.out h hB1 Er.out hm rfl).mono ?_
    rintro e w2 ⟨rfl, hB2⟩
    go_wp2_with fail
    refine (refBits_any l n Hn.out A c _ _ (h.keep hB2) Er.out hm).mono ?_
    rintro e w' ⟨rfl, rfl⟩
    generalize (crc15 l).toNat = V1
    go_wp2_with fail
    refine (byte_S c' Hnb.out hb hB2 Hbb.out hmb rfl).mono ?_
    rintro e w3 ⟨rfl, hB3⟩
    go_wp2_with fail
    refine (refByte_any b nb Hnb.out A' c' _ _ (hb.keep hB3) Hbb.out hmb).mono ?_
    rintro e w' ⟨rfl, rfl⟩
    generalize (crc8 b).toNat ^^^ 255 = V2
    go_wp2_with fail
    refine (word_S c' Hnb.out hb hB3 Hbb.out hmb rfl).mono ?_
    rintro e w4 ⟨rfl, hB4⟩
    go_wp2_with fail
    refine (refWord_any b nb Hnb.out A' c' _ _ (hb.keep hB4) Hbb.out hmb).mono ?_
    rintro e w' ⟨rfl, rfl⟩
    generalize (crc32 0xFFFFFFFF#32 b).toNat ^^^ 4294967295 = V3
    go_wp2_with fail
    refine (more_S c' x Hnb.out hb hB4 Hbb.out hmb rfl).mono ?_
    rintro e w5 ⟨rfl, hB5⟩
    go_wp2_with fail
    refine (refMore_any x b nb Hnb.out A' c' _ _ (hb.keep hB5) Hbb.out hmb _ (not_u32 x)).mono ?_
    rintro e w' ⟨rfl, rfl⟩
    rw [show (crc32 (BitVec.ofInt 32 x ^^^ 0xFFFFFFFF#32) b).toNat ^^^ 4294967295 = moreN x b from rfl]
    generalize moreN x b = V4
    go_wp2_with fail
    go_ret
    exact ⟨rfl, hB5⟩
  | false =>
    have Er := Lib.hid er
    clear er
    go_enter Try.func3, Try.ntmps3
    go_wp2_with fail
    refine (head_any _).mono ?_
    rintro e w1 ⟨rfl, hB1⟩
    go_wp2_with fail
    refine (refRight_at l n Hn.out A c _ _ (h.keep hB1) hm).mono ?_
    rintro e w' ⟨rfl, rfl⟩
    rw [Er.out]
    go_wp2_with fail
    refine (byte_S c' Hnb.out hb hB1 Hbb.out hmb rfl).mono ?_
    rintro e w3 ⟨rfl, hB3⟩
    go_wp2_with fail
    refine (refByte_any b nb Hnb.out A' c' _ _ (hb.keep hB3) Hbb.out hmb).mono ?_
    rintro e w' ⟨rfl, rfl⟩
    generalize (crc8 b).toNat ^^^ 255 = V2
    go_wp2_with fail
    refine (word_S c' Hnb.out hb hB3 Hbb.out hmb rfl).mono ?_
    rintro e w4 ⟨rfl, hB4⟩
    go_wp2_with fail
    refine (refWord_any b nb Hnb.out A' c' _ _ (hb.keep hB4) Hbb.out hmb).mono ?_
    rintro e w' ⟨rfl, rfl⟩
    generalize (crc32 0xFFFFFFFF#32 b).toNat ^^^ 4294967295 = V3
    go_wp2_with fail
    refine (more_S c' x Hnb.out hb hB4 Hbb.out hmb rfl).mono ?_
    rintro e w5 ⟨rfl, hB5⟩
    go_wp2_with fail
    refine (refMore_any x b nb Hnb.out A' c' _ _ (hb.keep hB5) Hbb.out hmb _ (not_u32 x)).mono ?_
    rintro e w' ⟨rfl, rfl⟩
    rw [show (crc32 (BitVec.ofInt 32 x ^^^ 0xFFFFFFFF#32) b).toNat ^^^ 4294967295 = moreN x b from rfl]
    generalize moreN x b = V4
    go_wp2_with fail
    go_ret
    exact ⟨rfl, hB5⟩

theorem crcTells_walk (l : List Int) (n : Nat) (hn : l.length = n) (x : Int) (b : List Int) (nb : Nat) (hnb : b.length = nb) (A A' : Option Addr) (c c' : Nat) (w : World)
    (h : Row .i64 w w.heap.size A l) (hb : Row .u8 w w.heap.size A' b) (hbb : byteB b) (hm : n ≤ maxLen) (hmb : nb ≤ maxLen) :
    Calls Try.prog 3 #[.slice A n c, .slice A' nb c', .int .i64 x] w fun e w' => e = .returned (.bool true) ∧ Below w.heap.size w w' := by
  by_cases hlong : 2000 < n ∨ 1000 < nb
  · exact crcTells_long n nb x A A' c c' w hm hmb hlong
  · exact crcTells_short l n hn x b nb hnb A A' c c' w h hb hbb hm hmb (by omega) (by omega)

end Go.Proofs.Ytlggjljgeflboaa
