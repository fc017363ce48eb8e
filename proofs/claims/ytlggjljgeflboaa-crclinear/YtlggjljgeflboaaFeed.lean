/-
  What feeds a register: the bits of a row, the bits of bytes.
-/
import Derived.Test.YtlggjljgeflboaaTake
namespace Go.Proofs.Ytlggjljgeflboaa
open Go.RowKit

/-- A row of bits as truths. -/
def boolsOf (l : List Int) : List Bool := l.map fun x => decide (x = 1)
theorem boolsOf_snoc {l : List Int} {k : Nat} {x : Int} (hx : l[k]? = some x) : boolsOf (l.take (k + 1)) = boolsOf (l.take k) ++ [decide (x = 1)] := by
  rw [take_snoc hx]; simp [boolsOf]
/-- The value 'r.take'. -/
abbrev fnTake (B : Nat) : Value := .func (.func 32) #[.pointer (some ⟨B, 0, none⟩)] #[]

set_option maxRecDepth 100000 in
set_option maxHeartbeats 400000 in
theorem bits1_any {w : Nat} {f : BitVec w → Bool → BitVec w} {B : Nat} {St : BitVec w → World → Prop} (hT : Takes f B St) (l : List Int) (n : Nat) (hn : l.length = n) (A : Option Addr) (c Bl : Nat) (s : BitVec w) (W : World)
    (hr : rightB l = true) (hm : n ≤ maxLen) (h : Row .i64 W B A l) (kl : W.cell? ⟨Bl, 0, none⟩ = some (.slice A n c)) (h0 : St s W) :
    Calls Try.prog 24 #[fnTake B, .pointer (some ⟨Bl, 0, none⟩)] W fun e w' => (∃ v, e = .returned v) ∧ St ((boolsOf l).foldl f s) w' ∧ Below B W w' := by
  subst hn
  unfold maxLen at hm
  have HR := Lib.hid hr
  clear hr
  go_enter Try.func24, Try.ntmps24
  go_wp2_with fail
  go_loopw [7] (fun i wr => ∃ k : Nat, k ≤ l.length ∧ i = .int .i64 k ∧ St ((boolsOf (l.take k)).foldl f s) wr ∧ Below B W wr) (fun i _ => l.length - (intOf i).toNat)
  case atStart => exact ⟨0, Nat.zero_le _, rfl, h0, Below.refl _ _⟩
  case round =>
    obtain ⟨k, hk, rfl, hS, hBl⟩ := hrel
    by_cases hlt : k < l.length
    · obtain ⟨ad, x, rfl, hx, hc⟩ := (h.below hBl).get_ hlt
      have hb := rightB_at HR.out hx
      have Hx := Lib.hid (boolsOf_snoc hx)
      obtain ⟨b, rfl, hb2⟩ : ∃ b : Nat, x = (b : Int) ∧ b < 2 := by
        rcases hb with rfl | rfl
        · exact ⟨0, rfl, by omega⟩
        · exact ⟨1, rfl, by omega⟩
      have hd : decide ((b : Int) = 1) = decide (b = 1) := by
        rcases (by omega : b = 0 ∨ b = 1) with rfl | rfl <;> rfl
      have Hd := Lib.hid hd
      clear hx hb hd
      have hb32 : b < 4294967296 := by omega
      go_wp2_with (go_at_call 32; refine (hT _ _ b hb2 hS).mono ?_; rintro e w2 ⟨⟨v, rfl⟩, hS2, hB2⟩)
      go_roundw
      case rel =>
        refine ⟨k + 1, by omega, by go_num, ?_, hBl.trans hB2⟩
        rw [Hx.out, List.foldl_append, List.foldl_cons, List.foldl_nil, Hd.out]
        exact hS2
      case measure => simp [intOf]; omega
    · obtain rfl : k = l.length := by omega
      go_wp2
      go_end0
      exact ⟨⟨_, rfl⟩, by rw [List.take_length] at hS; exact hS, hBl⟩

theorem bit_u32 (x j : Nat) (hx : x < 256) : bits .and .u32 ((x : Int) / 2 ^ j) 1 = ((x / 2 ^ j % 2 : Nat) : Int) := by
  have hle : x / 2 ^ j ≤ x := Nat.div_le_self _ _
  have := u32_and_nat (x / 2 ^ j) 1 (by omega) (by omega)
  rw [nat_mask1] at this
  rw [← this]
  simp
theorem Takes.at_ {w : Nat} {f : BitVec w → Bool → BitVec w} {B : Nat} {St : BitVec w → World → Prop} (hT : Takes f B St) {V : Int} {b : Nat} (hV : V = b) (hb : b < 2) {s : BitVec w} {W : World} (hS : St s W) :
    Calls Try.prog 32 #[.pointer (some ⟨B, 0, none⟩), .int .u32 V] W fun e w' => (∃ v, e = .returned v) ∧ St (f s (decide (b = 1))) w' ∧ Below B W w' := by
  subst hV; exact hT s W b hb hS
theorem bit_test (x j : Nat) : decide (x / 2 ^ j % 2 = 1) = x.testBit j := by rw [Nat.testBit_eq_decide_div_mod_eq]

set_option maxRecDepth 100000 in
set_option maxHeartbeats 400000 in
theorem highest_any {w : Nat} {f : BitVec w → Bool → BitVec w} {B : Nat} {St : BitVec w → World → Prop} (hT : Takes f B St) (x : Nat) (hx : x < 256) (s : BitVec w) (W : World) (h0 : St s W) :
    Calls Try.prog 27 #[.int .u8 x, fnTake B] W fun e w' => (∃ v, e = .returned v) ∧ St ((hiBits 8 x).foldl f s) w' ∧ Below B W w' := by
  go_enter Try.func27, Try.ntmps27
  go_wp2_with fail
  go_loopw [4] (fun i wr => ∃ k : Nat, k ≤ 8 ∧ i = .int .i64 (7 - (k : Int)) ∧ St (((List.range k).map fun j => x.testBit (8 - 1 - j)).foldl f s) wr ∧ Below B W wr) (fun i _ => (intOf i + 1).toNat)
  case atStart => exact ⟨0, Nat.zero_le _, rfl, h0, Below.refl _ _⟩
  case round =>
    obtain ⟨k, hk, rfl, hS, hBl⟩ := hrel
    by_cases hlt : k < 8
    · have hbit := bit_u32 x (7 - k) hx
      have Hb := Lib.hid hbit
      have Ht := Lib.hid (bit_test x (7 - k))
      clear hbit
      have hb2 : x / 2 ^ (7 - k) % 2 < 2 := Nat.mod_lt _ (by omega)
      generalize x / 2 ^ (7 - k) % 2 = b at *
      go_wp2_with (go_at_call 32; refine (hT.at_ Hb.out hb2 hS).mono ?_; rintro e w2 ⟨⟨v, rfl⟩, hS2, hB2⟩)
      go_roundw
      case rel =>
        refine ⟨k + 1, by omega, by go_num, ?_, hBl.trans hB2⟩
        rw [range_succ_map, List.foldl_append, List.foldl_cons, List.foldl_nil]
        rw [Ht.out] at hS2
        exact hS2
      case measure => simp [intOf]; omega
    · obtain rfl : k = 8 := by omega
      go_wp2
      go_end0
      exact ⟨⟨_, rfl⟩, hS, hBl⟩

set_option maxRecDepth 100000 in
set_option maxHeartbeats 400000 in
theorem lowest_any {w : Nat} {f : BitVec w → Bool → BitVec w} {B : Nat} {St : BitVec w → World → Prop} (hT : Takes f B St) (x : Nat) (hx : x < 256) (s : BitVec w) (W : World) (h0 : St s W) :
    Calls Try.prog 30 #[.int .u8 x, fnTake B] W fun e w' => (∃ v, e = .returned v) ∧ St ((loBits 8 x).foldl f s) w' ∧ Below B W w' := by
  go_enter Try.func30, Try.ntmps30
  go_wp2_with fail
  go_loopw [5] (fun i wr => ∃ k : Nat, k ≤ 8 ∧ i = .int .i64 k ∧ St (((List.range k).map fun j => x.testBit j).foldl f s) wr ∧ Below B W wr) (fun i _ => 8 - (intOf i).toNat)
  case atStart => exact ⟨0, Nat.zero_le _, rfl, h0, Below.refl _ _⟩
  case round =>
    obtain ⟨k, hk, rfl, hS, hBl⟩ := hrel
    by_cases hlt : k < 8
    · have hbit := bit_u32 x k hx
      have Hb := Lib.hid hbit
      have Ht := Lib.hid (bit_test x k)
      clear hbit
      have hb2 : x / 2 ^ k % 2 < 2 := Nat.mod_lt _ (by omega)
      generalize x / 2 ^ k % 2 = b at *
      go_wp2_with (go_at_call 32; refine (hT.at_ Hb.out hb2 hS).mono ?_; rintro e w2 ⟨⟨v, rfl⟩, hS2, hB2⟩)
      go_roundw
      case rel =>
        refine ⟨k + 1, by omega, by go_num, ?_, hBl.trans hB2⟩
        rw [range_succ_map, List.foldl_append, List.foldl_cons, List.foldl_nil]
        rw [Ht.out] at hS2
        exact hS2
      case measure => simp [intOf]; omega
    · obtain rfl : k = 8 := by omega
      go_wp2
      go_end0
      exact ⟨⟨_, rfl⟩, hS, hBl⟩

/-- The bits of bytes, each one's highest first; each one's lowest first. -/
def hiAll (l : List Int) : List Bool := l.flatMap fun x => hiBits 8 x.toNat
def loAll (l : List Int) : List Bool := l.flatMap fun x => loBits 8 x.toNat
theorem hiAll_snoc {l : List Int} {k : Nat} {x : Int} (hx : l[k]? = some x) : hiAll (l.take (k + 1)) = hiAll (l.take k) ++ hiBits 8 x.toNat := by
  rw [take_snoc hx]; simp [hiAll]
theorem loAll_snoc {l : List Int} {k : Nat} {x : Int} (hx : l[k]? = some x) : loAll (l.take (k + 1)) = loAll (l.take k) ++ loBits 8 x.toNat := by
  rw [take_snoc hx]; simp [loAll]

set_option maxRecDepth 100000 in
set_option maxHeartbeats 400000 in
theorem byte1_any {w : Nat} {f : BitVec w → Bool → BitVec w} {B : Nat} {St : BitVec w → World → Prop} (hT : Takes f B St) (l : List Int) (n : Nat) (hn : l.length = n) (A : Option Addr) (c Bl : Nat) (s : BitVec w) (W : World)
    (hr : byteB l) (hm : n ≤ maxLen) (h : Row .u8 W B A l) (kl : W.cell? ⟨Bl, 0, none⟩ = some (.slice A n c)) (h0 : St s W) :
    Calls Try.prog 26 #[fnTake B, .pointer (some ⟨Bl, 0, none⟩)] W fun e w' => (∃ v, e = .returned v) ∧ St ((hiAll l).foldl f s) w' ∧ Below B W w' := by
  subst hn
  unfold maxLen at hm
  have HR := Lib.hid hr
  clear hr
  go_enter Try.func26, Try.ntmps26
  go_wp2_with fail
  go_loopw [7] (fun i wr => ∃ k : Nat, k ≤ l.length ∧ i = .int .i64 k ∧ St ((hiAll (l.take k)).foldl f s) wr ∧ Below B W wr) (fun i _ => l.length - (intOf i).toNat)
  case atStart => exact ⟨0, Nat.zero_le _, rfl, h0, Below.refl _ _⟩
  case round =>
    obtain ⟨k, hk, rfl, hS, hBl⟩ := hrel
    by_cases hlt : k < l.length
    · obtain ⟨ad, x, rfl, hx, hc⟩ := (h.below hBl).get_ hlt
      have hb := HR.out x (List.mem_of_getElem? hx)
      have Hx := Lib.hid (hiAll_snoc hx)
      obtain ⟨b, rfl⟩ := Int.eq_ofNat_of_zero_le hb.1
      have hb2 : b < 256 := by omega
      clear hx hb
      go_wp2_with (go_at_call 27; refine (highest_any hT b hb2 _ _ hS).mono ?_; rintro e w2 ⟨⟨v, rfl⟩, hS2, hB2⟩)
      go_roundw
      case rel =>
        refine ⟨k + 1, by omega, by go_num, ?_, hBl.trans hB2⟩
        rw [Hx.out, List.foldl_append, Int.toNat_natCast]
        exact hS2
      case measure => simp [intOf]; omega
    · obtain rfl : k = l.length := by omega
      go_wp2
      go_end0
      exact ⟨⟨_, rfl⟩, by rw [List.take_length] at hS; exact hS, hBl⟩

set_option maxRecDepth 100000 in
set_option maxHeartbeats 400000 in
theorem more1_any {w : Nat} {f : BitVec w → Bool → BitVec w} {B : Nat} {St : BitVec w → World → Prop} (hT : Takes f B St) (l : List Int) (n : Nat) (hn : l.length = n) (A : Option Addr) (c Bl : Nat) (s : BitVec w) (W : World)
    (hr : byteB l) (hm : n ≤ maxLen) (h : Row .u8 W B A l) (kl : W.cell? ⟨Bl, 0, none⟩ = some (.slice A n c)) (h0 : St s W) :
    Calls Try.prog 29 #[fnTake B, .pointer (some ⟨Bl, 0, none⟩)] W fun e w' => (∃ v, e = .returned v) ∧ St ((loAll l).foldl f s) w' ∧ Below B W w' := by
  subst hn
  unfold maxLen at hm
  have HR := Lib.hid hr
  clear hr
  go_enter Try.func29, Try.ntmps29
  go_wp2_with fail
  go_loopw [7] (fun i wr => ∃ k : Nat, k ≤ l.length ∧ i = .int .i64 k ∧ St ((loAll (l.take k)).foldl f s) wr ∧ Below B W wr) (fun i _ => l.length - (intOf i).toNat)
  case atStart => exact ⟨0, Nat.zero_le _, rfl, h0, Below.refl _ _⟩
  case round =>
    obtain ⟨k, hk, rfl, hS, hBl⟩ := hrel
    by_cases hlt : k < l.length
    · obtain ⟨ad, x, rfl, hx, hc⟩ := (h.below hBl).get_ hlt
      have hb := HR.out x (List.mem_of_getElem? hx)
      have Hx := Lib.hid (loAll_snoc hx)
      obtain ⟨b, rfl⟩ := Int.eq_ofNat_of_zero_le hb.1
      have hb2 : b < 256 := by omega
      clear hx hb
      go_wp2_with (go_at_call 30; refine (lowest_any hT b hb2 _ _ hS).mono ?_; rintro e w2 ⟨⟨v, rfl⟩, hS2, hB2⟩)
      go_roundw
      case rel =>
        refine ⟨k + 1, by omega, by go_num, ?_, hBl.trans hB2⟩
        rw [Hx.out, List.foldl_append, Int.toNat_natCast]
        exact hS2
      case measure => simp [intOf]; omega
    · obtain rfl : k = l.length := by omega
      go_wp2
      go_end0
      exact ⟨⟨_, rfl⟩, by rw [List.take_length] at hS; exact hS, hBl⟩

end Go.Proofs.Ytlggjljgeflboaa
