/-
  The document's own sums, walked.
-/
import Derived.Test.YtlggjljgeflboaaCrc
namespace Go.Proofs.Ytlggjljgeflboaa
open Go.RowKit

theorem xor_i64 (a b : Nat) (ha : a < 4611686018427387904) (hb : b < 4611686018427387904) : bits .xor .i64 (a : Int) (b : Int) = ((a ^^^ b : Nat) : Int) := by
  have hx : a ^^^ b < 2 ^ 62 := Nat.xor_lt_two_pow ha hb
  show IntKind.i64.wrap ((BitVec.ofInt 64 (a : Int) ^^^ BitVec.ofInt 64 (b : Int)).toNat : Int) = _
  rw [BitVec.toNat_xor, ofInt_u64 _ (by omega), ofInt_u64 _ (by omega), IntKind.wrap_i64]
  omega

set_option maxRecDepth 100000 in
set_option maxHeartbeats 400000 in
theorem refBits_any (l : List Int) (n : Nat) (hn : l.length = n) (A : Option Addr) (c B : Nat) (w : World) (h : Row .i64 w B A l) (hr : rightB l = true) (hm : n ≤ maxLen) :
    Calls Try.prog 13 #[.slice A n c] w fun e w' => e = .returned (.int .i64 (crc15 l).toNat) ∧ w = w' := by
  subst hn
  unfold maxLen at hm
  have HR := Lib.hid hr
  clear hr
  go_enter Try.func13, Try.ntmps13
  go_wp2
  go_loop [3, 4] (fun v i => ∃ k : Nat, k ≤ l.length ∧ i = .int .i64 k ∧ v = .int .i64 (crc15 (l.take k)).toNat) (fun _ i => l.length - (intOf i).toNat)
  case atStart => exact ⟨0, Nat.zero_le _, rfl, rfl⟩
  case round =>
    obtain ⟨k, hk, rfl, rfl⟩ := hrel
    by_cases hlt : k < l.length
    · obtain ⟨ad, x, rfl, hx, hc⟩ := h.get_ hlt
      have hb := rightB_at HR.out hx
      obtain ⟨b, rfl, hb2⟩ : ∃ b : Nat, x = (b : Int) ∧ b < 2 := by
        rcases hb with rfl | rfl
        · exact ⟨0, rfl, by omega⟩
        · exact ⟨1, rfl, by omega⟩
      have hs : (crc15 (l.take (k + 1))).toNat = redN (2 * (crc15 (l.take k)).toNat % 2 ^ 15) (b ^^^ (crc15 (l.take k)).toNat / 2 ^ 14) 17817 := by
        have e : crc15 (l.take (k + 1)) = stepL 0x4599#15 (crc15 (l.take k)) (decide (b = 1)) := by
          unfold crc15
          rw [boolsOf_snoc hx, List.foldl_append, List.foldl_cons, List.foldl_nil]
          rcases (by omega : b = 0 ∨ b = 1) with rfl | rfl <;> rfl
        rw [e, stepL_nat, toNat_decide hb2]
        rfl
      have hlt15 := (crc15 (l.take k)).isLt
      have Hs := Lib.hid hs
      clear hs hb hx
      generalize (crc15 (l.take k)).toNat = S at *
      have hx2 : b ^^^ S / 2 ^ 14 < 2 := Nat.xor_lt_two_pow (n := 1) hb2 (by omega)
      have hq : ((S / 2 ^ 14 : Nat) : Int) = (S : Int) / 16384 := by omega
      have hS2 : S < 32768 := hlt15
      have hmod : ((S : Int) * 2) % 32768 = ((2 * S % 2 ^ 15 : Nat) : Int) := by omega
      have hxo := xor_i64 (2 * S % 2 ^ 15) 17817 (by omega) (by omega)
      have Hmod := Lib.hid hmod
      have Hxo := Lib.hid hxo
      by_cases hx1 : b ^^^ S / 2 ^ 14 = 1
      · have e1 : bits .xor .i64 (b : Int) ((S : Int) / 16384) = 1 := by rw [← hq, xor_i64 _ _ (by omega) (by omega), hx1]; rfl
        rw [hx1] at Hs
        clear hmod hxo hx1 hx2 hq hlt15
        go_wp2
        go_round
        case rel => exact ⟨k + 1, by omega, by go_num, congrArg (Value.int .i64) (by rw [Hs.out, Hmod.out]; exact Hxo.out)⟩
        case measure => simp [intOf]; omega
      · have hx0 : b ^^^ S / 2 ^ 14 = 0 := by omega
        have e1 : bits .xor .i64 (b : Int) ((S : Int) / 16384) = 0 := by rw [← hq, xor_i64 _ _ (by omega) (by omega), hx0]; rfl
        rw [hx0] at Hs
        clear hmod hxo hx0 hx1 hx2 hq hlt15
        go_wp2
        go_round
        case rel => exact ⟨k + 1, by omega, by go_num, congrArg (Value.int .i64) (by rw [Hs.out, Hmod.out]; rfl)⟩
        case measure => simp [intOf]; omega
    · obtain rfl : k = l.length := by omega
      go_wp2
      go_ret
      exact ⟨rfl, rfl⟩

theorem crc8_step (s : BitVec 8) (x : Nat) : (hiBits 8 x).foldl (stepL 0x1D#8) s = (List.replicate 8 false).foldl (stepL 0x1D#8) (s ^^^ BitVec.ofNat 8 x) := by
  have h := runL_at_once 0x1D#8 s (BitVec.ofNat 8 x) 8 (Nat.le_refl _)
  have e : hiBits 8 x = (List.range 8).map fun j => (BitVec.ofNat 8 x).getLsbD (8 - 1 - j) := by
    unfold hiBits
    apply List.map_congr_left
    intro j hj
    have := List.mem_range.1 hj
    rw [BitVec.getLsbD_ofNat]
    simp
    omega
  rw [e, h]
  have hz : (BitVec.ofNat 8 x) <<< 8 = 0#8 := by
    apply BitVec.eq_of_getLsbD_eq
    intro i hi
    simp [hi]
  rw [hz, BitVec.xor_zero]
theorem crc32_step (s : BitVec 32) (x : Nat) (hx : x < 256) : (loBits 8 x).foldl (stepR 0xEDB88320#32) s = (List.replicate 8 false).foldl (stepR 0xEDB88320#32) (s ^^^ BitVec.ofNat 32 x) := by
  have h := runR_at_once 0xEDB88320#32 s (BitVec.ofNat 32 x) 8
  have e : loBits 8 x = (List.range 8).map fun j => (BitVec.ofNat 32 x).getLsbD j := by
    unfold loBits
    apply List.map_congr_left
    intro j hj
    have := List.mem_range.1 hj
    rw [BitVec.getLsbD_ofNat]
    simp
    omega
  rw [e, h]
  have hz : (BitVec.ofNat 32 x) >>> 8 = 0#32 := by
    apply BitVec.eq_of_toNat_eq
    rw [BitVec.toNat_ushiftRight, Nat.shiftRight_eq_div_pow, BitVec.toNat_ofNat]
    simp
    omega
  rw [hz, BitVec.xor_zero]
theorem crc8_snoc {l : List Int} {k : Nat} {x : Nat} (hx : l[k]? = some (x : Int)) : crc8 (l.take (k + 1)) = (List.replicate 8 false).foldl (stepL 0x1D#8) (crc8 (l.take k) ^^^ BitVec.ofNat 8 x) := by
  rw [← crc8_step]
  unfold crc8
  rw [hiAll_snoc hx, List.foldl_append, Int.toNat_natCast]
theorem crc32_snoc {l : List Int} {k : Nat} {x : Nat} (hx : l[k]? = some (x : Int)) (h : x < 256) (s : BitVec 32) : crc32 s (l.take (k + 1)) = (List.replicate 8 false).foldl (stepR 0xEDB88320#32) (crc32 s (l.take k) ^^^ BitVec.ofNat 32 x) := by
  rw [← crc32_step _ _ h]
  unfold crc32
  rw [loAll_snoc hx, List.foldl_append, Int.toNat_natCast]

/-- Zeros that a register consumes. -/
def zeroL (s : BitVec 8) (k : Nat) : BitVec 8 := (List.replicate k false).foldl (stepL 0x1D#8) s
def zeroR (s : BitVec 32) (k : Nat) : BitVec 32 := (List.replicate k false).foldl (stepR 0xEDB88320#32) s
theorem zeroL_succ (s : BitVec 8) (k : Nat) : (zeroL s (k + 1)).toNat = redN (2 * (zeroL s k).toNat % 256) ((zeroL s k).toNat / 128) 29 := by
  unfold zeroL
  rw [List.replicate_succ', List.foldl_append, List.foldl_cons, List.foldl_nil, stepL_nat]
  simp
theorem zeroR_succ (s : BitVec 32) (k : Nat) : (zeroR s (k + 1)).toNat = redN ((zeroR s k).toNat / 2) ((zeroR s k).toNat % 2) 3988292384 := by
  unfold zeroR
  rw [List.replicate_succ', List.foldl_append, List.foldl_cons, List.foldl_nil, stepR_nat]
  simp

set_option maxRecDepth 100000 in
set_option maxHeartbeats 1000000 in
theorem refByte_any (l : List Int) (n : Nat) (hn : l.length = n) (A : Option Addr) (c B : Nat) (w : World) (h : Row .u8 w B A l) (hr : byteB l) (hm : n ≤ maxLen) :
    Calls Try.prog 15 #[.slice A n c] w fun e w' => e = .returned (.int .i64 ((crc8 l).toNat ^^^ 255 : Nat)) ∧ w = w' := by
  subst hn
  unfold maxLen at hm
  have HR := Lib.hid hr
  clear hr
  go_enter Try.func15, Try.ntmps15
  go_wp2
  go_loop [3, 4] (fun v i => ∃ k : Nat, k ≤ l.length ∧ i = .int .i64 k ∧ v = .int .i64 (crc8 (l.take k)).toNat) (fun _ i => l.length - (intOf i).toNat)
  case atStart => exact ⟨0, Nat.zero_le _, rfl, rfl⟩
  case round =>
    obtain ⟨k, hk, rfl, rfl⟩ := hrel
    by_cases hlt : k < l.length
    · obtain ⟨ad, x, rfl, hx, hc⟩ := h.get_ hlt
      have hb := HR.out x (List.mem_of_getElem? hx)
      obtain ⟨b, rfl⟩ := Int.eq_ofNat_of_zero_le hb.1
      have hb2 : b < 256 := by omega
      have Hs := Lib.hid (crc8_snoc hx)
      clear hx hb
      have hlt8 : (crc8 (l.take k)).toNat < 256 := (crc8 (l.take k)).isLt
      have e1 : bits .xor .i64 ((crc8 (l.take k)).toNat : Int) (b : Int) = ((crc8 (l.take k) ^^^ BitVec.ofNat 8 b).toNat : Int) := by
        rw [xor_i64 _ _ (by omega) (by omega), BitVec.toNat_xor, BitVec.toNat_ofNat, Nat.mod_eq_of_lt (show b < 2 ^ 8 by omega)]
      generalize hS : crc8 (l.take k) ^^^ BitVec.ofNat 8 b = S at *
      clear hS
      go_wp2
      go_loop [3, 5] (fun v i => ∃ j : Nat, j ≤ 8 ∧ i = .int .i64 j ∧ v = .int .i64 (zeroL S j).toNat) (fun _ i => 8 - (intOf i).toNat)
      case atStart => exact ⟨0, Nat.zero_le _, rfl, rfl⟩
      case round =>
        obtain ⟨j, hj, rfl, rfl⟩ := hrel
        by_cases hj8 : j < 8
        · have Hz := Lib.hid (zeroL_succ S j)
          have hlt := (zeroL S j).isLt
          generalize (zeroL S j).toNat = T at *
          have hmod : ((T : Int) * 2) % 256 = ((2 * T % 256 : Nat) : Int) := by omega
          have hxo := xor_i64 (2 * T % 256) 29 (by omega) (by omega)
          have Hmod := Lib.hid hmod
          have Hxo := Lib.hid hxo
          clear hmod hxo
          by_cases hT : 128 ≤ T
          · have hT1 : T / 128 = 1 := by omega
            rw [hT1] at Hz
            clear hT1
            go_wp2
            go_round
            case rel => exact ⟨j + 1, by omega, by go_num, congrArg (Value.int .i64) (by rw [Hz.out, Hmod.out]; exact Hxo.out)⟩
            case measure => simp [intOf]; omega
          · have hT1 : T / 128 = 0 := by omega
            have hT2 : 2 * T % 256 = 2 * T := by omega
            rw [hT1, hT2] at Hz
            clear hT1 hT2
            go_wp2
            go_round
            case rel => exact ⟨j + 1, by omega, by go_num, congrArg (Value.int .i64) (by rw [Hz.out]; simp [redN]; omega)⟩
            case measure => simp [intOf]; omega
        · obtain rfl : j = 8 := by omega
          go_wp2
          go_round
          case rel => exact ⟨k + 1, by omega, by go_num, congrArg (Value.int .i64) (by rw [Hs.out]; rfl)⟩
          case measure => simp [intOf]; omega
    · obtain rfl : k = l.length := by omega
      have hlt8 : (crc8 l).toNat < 256 := (crc8 l).isLt
      have Hx := Lib.hid (xor_i64 (crc8 l).toNat 255 (by omega) (by omega))
      go_wp2
      go_ret
      exact ⟨ret_int Hx.out, rfl⟩

set_option maxRecDepth 100000 in
set_option maxHeartbeats 1000000 in
theorem refMore_any (x : Int) (l : List Int) (n : Nat) (hn : l.length = n) (A : Option Addr) (c B : Nat) (w : World) (h : Row .u8 w B A l) (hr : byteB l) (hm : n ≤ maxLen) (s0 : BitVec 32) (hs0 : bits .xor .u32 IntKind.u32.max (x % 4294967296) = (s0.toNat : Int)) :
    Calls Try.prog 19 #[.int .i64 x, .slice A n c] w fun e w' => e = .returned (.int .i64 ((crc32 s0 l).toNat ^^^ 4294967295 : Nat)) ∧ w = w' := by
  subst hn
  have hsg : IntKind.u32.signed = false := rfl
  unfold maxLen at hm
  have HR := Lib.hid hr
  clear hr
  go_enter Try.func19, Try.ntmps19
  go_wp2
  go_loop [5, 6] (fun v i => ∃ k : Nat, k ≤ l.length ∧ i = .int .i64 k ∧ v = .int .u32 (crc32 s0 (l.take k)).toNat) (fun _ i => l.length - (intOf i).toNat)
  case atStart => exact ⟨0, Nat.zero_le _, rfl, rfl⟩
  case round =>
    obtain ⟨k, hk, rfl, rfl⟩ := hrel
    by_cases hlt : k < l.length
    · obtain ⟨ad, x, rfl, hx, hc⟩ := h.get_ hlt
      have hb := HR.out x (List.mem_of_getElem? hx)
      obtain ⟨b, rfl⟩ := Int.eq_ofNat_of_zero_le hb.1
      have hb2 : b < 256 := by omega
      have Hs := Lib.hid (crc32_snoc hx hb2 s0)
      clear hx hb
      have hlt8 : (crc32 s0 (l.take k)).toNat < 4294967296 := (crc32 s0 (l.take k)).isLt
      have e1 : bits .xor .u32 ((crc32 s0 (l.take k)).toNat : Int) (b : Int) = ((crc32 s0 (l.take k) ^^^ BitVec.ofNat 32 b).toNat : Int) := by
        rw [u32_xor_nat _ _ (by omega) (by omega), BitVec.toNat_xor, BitVec.toNat_ofNat, Nat.mod_eq_of_lt (show b < 2 ^ 32 by omega)]
      generalize hS : crc32 s0 (l.take k) ^^^ BitVec.ofNat 32 b = S at *
      clear hS
      go_wp2
      go_loop [5, 7] (fun v i => ∃ j : Nat, j ≤ 8 ∧ i = .int .i64 j ∧ v = .int .u32 (zeroR S j).toNat) (fun _ i => 8 - (intOf i).toNat)
      case atStart => exact ⟨0, Nat.zero_le _, rfl, rfl⟩
      case round =>
        obtain ⟨j, hj, rfl, rfl⟩ := hrel
        by_cases hj8 : j < 8
        · have Hz := Lib.hid (zeroR_succ S j)
          have hlt : (zeroR S j).toNat < 4294967296 := (zeroR S j).isLt
          generalize (zeroR S j).toNat = T at *
          have hdiv : ((T : Int) / 2) = ((T / 2 : Nat) : Int) := by omega
          have hxo := u32_xor_nat (T / 2) 3988292384 (by omega) (by omega)
          have Hdiv := Lib.hid hdiv
          have Hxo := Lib.hid hxo
          clear hdiv hxo
          by_cases hT : T % 2 = 1
          · rw [hT] at Hz
            have hd : ((T : Int) % 2 == 1) = true := by simp; omega
            clear hT
            go_wp2
            go_round
            case rel => exact ⟨j + 1, by omega, by go_num, congrArg (Value.int .u32) (by rw [Hz.out, Hdiv.out]; exact Hxo.out)⟩
            case measure => simp [intOf]; omega
          · have hT1 : T % 2 = 0 := by omega
            rw [hT1] at Hz
            have hd : ((T : Int) % 2 == 1) = false := by simp; omega
            clear hT1 hT
            go_wp2
            go_round
            case rel => exact ⟨j + 1, by omega, by go_num, congrArg (Value.int .u32) (by rw [Hz.out, Hdiv.out]; rfl)⟩
            case measure => simp [intOf]; omega
        · obtain rfl : j = 8 := by omega
          go_wp2
          go_round
          case rel => exact ⟨k + 1, by omega, by go_num, congrArg (Value.int .u32) (by rw [Hs.out]; rfl)⟩
          case measure => simp [intOf]; omega
    · obtain rfl : k = l.length := by omega
      have e2 : bits .xor .u32 IntKind.u32.max ((crc32 s0 l).toNat : Int) = (((crc32 s0 l).toNat ^^^ 4294967295 : Nat) : Int) := by
        have := u32_xor_nat 4294967295 (crc32 s0 l).toNat (by omega) (crc32 s0 l).isLt
        rw [Nat.xor_comm] at this
        exact this
      have hlt8 : (crc32 s0 l).toNat ^^^ 4294967295 < 4294967296 := Nat.xor_lt_two_pow (n := 32) (crc32 s0 l).isLt (by omega)
      go_wp2
      go_ret
      exact ⟨rfl, rfl⟩

theorem not_u32 (x : Int) : bits .xor .u32 IntKind.u32.max (x % 4294967296) = ((BitVec.ofInt 32 x ^^^ 0xFFFFFFFF#32).toNat : Int) := by
  have h := u32_xor_nat 4294967295 (BitVec.ofInt 32 x).toNat (by omega) (BitVec.ofInt 32 x).isLt
  have e : ((BitVec.ofInt 32 x).toNat : Int) = x % 4294967296 := by
    rw [BitVec.toNat_ofInt]
    have : (0 : Int) ≤ x % 4294967296 := Int.emod_nonneg _ (by omega)
    show (((x % ((2 ^ 32 : Nat) : Int)).toNat : Nat) : Int) = _
    rw [show ((2 ^ 32 : Nat) : Int) = 4294967296 from rfl]
    omega
  rw [e] at h
  rw [BitVec.toNat_xor, Nat.xor_comm]
  exact h

set_option maxHeartbeats 400000 in
theorem refWord_any (l : List Int) (n : Nat) (hn : l.length = n) (A : Option Addr) (c B : Nat) (w : World) (h : Row .u8 w B A l) (hr : byteB l) (hm : n ≤ maxLen) :
    Calls Try.prog 17 #[.slice A n c] w fun e w' => e = .returned (.int .i64 ((crc32 0xFFFFFFFF#32 l).toNat ^^^ 4294967295 : Nat)) ∧ w = w' := by
  go_enter Try.func17, Try.ntmps17
  go_wp2_with fail
  refine (refMore_any 0 l n hn A c B w h hr hm 0xFFFFFFFF#32 (not_u32 0)).mono ?_
  rintro e w1 ⟨rfl, rfl⟩
  go_wp2_with fail
  go_ret
  exact ⟨rfl, rfl⟩

end Go.Proofs.Ytlggjljgeflboaa
