/-
  crc's registers: a step, and 'take'.
-/
import Derived.Test.YtlggjljgeflboaaReg
import Derived.StillTailTactics
import Derived.Deep.RegionHeld3
namespace Go.Proofs.Ytlggjljgeflboaa
open Go.RowKit

/-- What 'reduced' hands back. -/
def redN (c x d : Nat) : Nat := if x = 1 then c ^^^ d else c

set_option maxHeartbeats 400000 in
theorem reduced_any (c x d : Nat) (hc : c < 4294967296) (hd : d < 4294967296) (W : World) :
    Calls Try.prog 35 #[.int .u32 c, .int .u32 x, .int .u32 d] W fun e w' => e = .returned (.int .u32 (redN c x d)) ∧ W = w' := by
  have hx := u32_xor_nat c d hc hd
  have Hx := Lib.hid hx
  clear hx
  by_cases h : x = 1
  · subst h
    go_enter Try.func35, Try.ntmps35
    go_wp2
    go_ret
    exact ⟨ret_int Hx.out, rfl⟩
  · have d1 : ((x : Int) == 1) = false := by simp; omega
    have Hh := Lib.hid (show redN c x d = c from if_neg h)
    clear h
    go_enter Try.func35, Try.ntmps35
    go_wp2
    go_ret
    exact ⟨ret_int (by rw [Hh.out]), rfl⟩
theorem reduced_at (C X D : Int) (c x d : Nat) (hC : C = c) (hX : X = x) (hD : D = d) (hc : c < 4294967296) (hd : d < 4294967296) (W : World) :
    Calls Try.prog 35 #[.int .u32 C, .int .u32 X, .int .u32 D] W fun e w' => e = .returned (.int .u32 (redN c x d)) ∧ W = w' := by
  subst hC hX hD; exact reduced_any c x d hc hd W

theorem stepL_nat {m : Nat} (p s : BitVec m) (b : Bool) : (stepL p s b).toNat = redN (2 * s.toNat % 2 ^ m) (b.toNat ^^^ s.toNat / 2 ^ (m - 1)) p.toNat := by
  rcases Nat.eq_zero_or_pos m with rfl | hm
  · obtain rfl : p = 0#0 := BitVec.eq_nil _
    obtain rfl : s = 0#0 := BitVec.eq_nil _
    cases b <;> rfl
  have hs := s.isLt
  have hpw : 2 ^ m = 2 * 2 ^ (m - 1) := by
    conv => lhs; rw [show m = (m - 1) + 1 by omega]
    rw [Nat.pow_succ]; omega
  have h0 : 0 < 2 ^ (m - 1) := Nat.pow_pos (by omega)
  have hq : s.toNat / 2 ^ (m - 1) = s.msb.toNat := by
    rw [BitVec.msb_eq_decide]
    by_cases h : 2 ^ (m - 1) ≤ s.toNat
    · simp only [h, decide_true, Bool.toNat_true]
      apply Nat.div_eq_of_lt_le <;> omega
    · simp only [h, decide_false, Bool.toNat_false]
      exact Nat.div_eq_of_lt (by omega)
  have hsh : (s <<< 1).toNat = 2 * s.toNat % 2 ^ m := by
    rw [BitVec.toNat_shiftLeft, Nat.shiftLeft_eq]; congr 1; omega
  rw [hq]
  unfold stepL redN
  rw [BitVec.toNat_xor, hsh]
  cases b <;> cases s.msb <;> simp
theorem stepR_nat (p s : BitVec 32) (b : Bool) : (stepR p s b).toNat = redN (s.toNat / 2) (b.toNat ^^^ s.toNat % 2) p.toNat := by
  have hq : s.toNat % 2 = (s.getLsbD 0).toNat := by
    rw [BitVec.getLsbD, Nat.testBit_zero]
    rcases Nat.mod_two_eq_zero_or_one s.toNat with h | h <;> simp [h]
  have hsh : (s >>> 1).toNat = s.toNat / 2 := by rw [BitVec.toNat_ushiftRight, Nat.shiftRight_eq_div_pow]
  rw [hq]
  unfold stepR redN
  rw [BitVec.toNat_xor, hsh]
  cases b <;> cases s.getLsbD 0 <;> simp

theorem pow_le31 {m : Nat} (h : m ≤ 31) : 2 ^ m ≤ 2147483648 := Nat.pow_le_pow_right (n := 2) (by omega) h

set_option maxHeartbeats 400000 in
theorem left1_nat (m c b d : Nat) (hm : 1 ≤ m) (hm' : m ≤ 31) (hc : c < 2 ^ m) (hb : b < 2) (hd : d < 4294967296) (W : World) (Bm Ba Bd : Nat) (km : W.cell? ⟨Bm, 0, none⟩ = some (.int .i64 m)) (ka : W.cell? ⟨Ba, 0, none⟩ = some (.int .u32 ((2 ^ m - 1 : Nat) : Int))) (kd : W.cell? ⟨Bd, 0, none⟩ = some (.int .u32 d)) :
    Calls Try.prog 34 #[.int .u32 c, .int .u32 b, .pointer (some ⟨Bm, 0, none⟩), .pointer (some ⟨Ba, 0, none⟩), .pointer (some ⟨Bd, 0, none⟩)] W fun e w' => e = .returned (.int .u32 (redN (2 * c % 2 ^ m) (b ^^^ c / 2 ^ (m - 1)) d)) ∧ W = w' := by
  have hp := pow_le31 hm'
  have hp0 : 0 < 2 ^ m := Nat.pow_pos (by omega)
  have e1 : bits .and .u32 ((c : Int) * 2 % 4294967296) ((2 ^ m - 1 : Nat) : Int) = ((2 * c % 2 ^ m : Nat) : Int) := by
    rw [show (c : Int) * 2 % 4294967296 = ((2 * c : Nat) : Int) by omega, u32_and_nat _ _ (by omega) (by omega), Nat.and_two_pow_sub_one_eq_mod]
  have e2 : bits .xor .u32 (b : Int) ((c : Int) / 2 ^ (m - 1)) = ((b ^^^ c / 2 ^ (m - 1) : Nat) : Int) := by
    have hle : c / 2 ^ (m - 1) ≤ c := Nat.div_le_self _ _
    rw [← u32_xor_nat _ _ (by omega) (by omega)]
    simp
  have hlt : 2 * c % 2 ^ m < 4294967296 := by have := Nat.mod_lt (2 * c) hp0; omega
  have E1 := Lib.hid e1
  have E2 := Lib.hid e2
  clear e1 e2 hc
  go_enter Try.func34, Try.ntmps34
  go_wp2_with (go_at_call 35; refine (reduced_at _ _ _ _ _ _ E1.out E2.out rfl hlt hd _).mono ?_; rintro e w' ⟨rfl, rfl⟩)
  go_ret
  exact ⟨rfl, rfl⟩

set_option maxHeartbeats 400000 in
theorem right1_nat (c b d : Nat) (hc : c < 4294967296) (hb : b < 2) (hd : d < 4294967296) (W : World) (Bd : Nat) (kd : W.cell? ⟨Bd, 0, none⟩ = some (.int .u32 d)) :
    Calls Try.prog 36 #[.int .u32 c, .int .u32 b, .pointer (some ⟨Bd, 0, none⟩)] W fun e w' => e = .returned (.int .u32 (redN (c / 2) (b ^^^ c % 2) d)) ∧ W = w' := by
  have e0 : bits .and .u32 (c : Int) 1 = ((c % 2 : Nat) : Int) := by
    have := u32_and_nat c 1 hc (by omega)
    rw [nat_mask1] at this
    exact this
  have e2 : bits .xor .u32 (b : Int) (bits .and .u32 (c : Int) 1) = ((b ^^^ c % 2 : Nat) : Int) := by
    rw [e0, u32_xor_nat _ _ (by omega) (by omega)]
  have e1 : ((c : Int) / 2) = ((c / 2 : Nat) : Int) := by omega
  have hlt : c / 2 < 4294967296 := by omega
  have E0 := Lib.hid e0
  have E1 := Lib.hid e1
  have E2 := Lib.hid e2
  clear e1 e2 e0
  go_enter Try.func36, Try.ntmps36
  go_wp2_with (go_at_call 35; refine (reduced_at _ _ _ _ _ _ E1.out E2.out rfl hlt hd _).mono ?_; rintro e w' ⟨rfl, rfl⟩)
  go_ret
  exact ⟨rfl, rfl⟩

/-- A register in memory. -/
def RegAt (W : World) (B : Nat) (f : Value) (inv s : Nat) : Prop := W.heap[B]? = some (.cells #[f, .int .u32 inv, .int .u32 s] 52 (0, 0))
theorem RegAt.set {W : World} {B : Nat} {f : Value} {inv s : Nat} (h : RegAt W B f inv s) (s' : Nat) : RegAt (W.setCell ⟨B, 2, none⟩ (.int .u32 s')).drew B f inv s' := by
  show (W.setCell ⟨B, 2, none⟩ (.int .u32 s')).heap[B]? = _
  rw [heap_setCell_same W B 2 _ _ _ h]
  rfl
theorem below_setB (W : World) (B o : Nat) (v : Value) : Below B W (W.setCell ⟨B, o, none⟩ v).drew := ((Below.refl B W).setCell (Nat.le_refl _) v).drew

/-- The step of a register whose highest bit leaves. -/
abbrev fnL (Bm Ba Bd : Nat) : Value := .func (.func 34) #[] #[.pointer (some ⟨Bm, 0, none⟩), .pointer (some ⟨Ba, 0, none⟩), .pointer (some ⟨Bd, 0, none⟩)]
abbrev fnR (Bd : Nat) : Value := .func (.func 36) #[] #[.pointer (some ⟨Bd, 0, none⟩)]

set_option maxRecDepth 100000 in
set_option maxHeartbeats 400000 in
theorem takeL_nat (m c b d inv : Nat) (hm : 1 ≤ m) (hm' : m ≤ 31) (hc : c < 2 ^ m) (hb : b < 2) (hd : d < 4294967296) (W : World) (Bm Ba Bd B : Nat) (km : W.cell? ⟨Bm, 0, none⟩ = some (.int .i64 m)) (ka : W.cell? ⟨Ba, 0, none⟩ = some (.int .u32 ((2 ^ m - 1 : Nat) : Int))) (kd : W.cell? ⟨Bd, 0, none⟩ = some (.int .u32 d))
    (hR : RegAt W B (fnL Bm Ba Bd) inv c) :
    Calls Try.prog 32 #[.pointer (some ⟨B, 0, none⟩), .int .u32 b] W fun e w' => (∃ v, e = .returned v) ∧ RegAt w' B (fnL Bm Ba Bd) inv (redN (2 * c % 2 ^ m) (b ^^^ c / 2 ^ (m - 1)) d) ∧ Below B W w' := by
  have c0 : W.cell? ⟨B, 0, none⟩ = some (.func (.func 34) #[] #[.pointer (some ⟨Bm, 0, none⟩), .pointer (some ⟨Ba, 0, none⟩), .pointer (some ⟨Bd, 0, none⟩)]) := by simp [World.cell?, show W.heap[B]? = _ from hR]
  have c2 : W.cell? ⟨B, 2, none⟩ = some (.int .u32 c) := by simp [World.cell?, show W.heap[B]? = _ from hR]
  have f2 : W.frozen? ⟨B, 2, none⟩ = false := by simp [World.frozen?, show W.heap[B]? = _ from hR]
  have hR' := Lib.hid hR
  clear hR
  go_enter Try.func32, Try.ntmps32
  go_wp2_with fail
  go_region_with (go_at_call 34; refine (left1_nat m c b d hm hm' hc hb hd _ Bm Ba Bd (by simp [*]) (by simp [*]) (by simp [*])).mono ?_; rintro e w' ⟨rfl, rfl⟩)
  all_goals (go_end0; exact ⟨⟨_, rfl⟩, hR'.out.set _, below_setB _ _ _ _⟩)

set_option maxRecDepth 100000 in
set_option maxHeartbeats 400000 in
theorem takeR_nat (c b d inv : Nat) (hc : c < 4294967296) (hb : b < 2) (hd : d < 4294967296) (W : World) (Bd B : Nat) (kd : W.cell? ⟨Bd, 0, none⟩ = some (.int .u32 d))
    (hR : RegAt W B (fnR Bd) inv c) :
    Calls Try.prog 32 #[.pointer (some ⟨B, 0, none⟩), .int .u32 b] W fun e w' => (∃ v, e = .returned v) ∧ RegAt w' B (fnR Bd) inv (redN (c / 2) (b ^^^ c % 2) d) ∧ Below B W w' := by
  have c0 : W.cell? ⟨B, 0, none⟩ = some (.func (.func 36) #[] #[.pointer (some ⟨Bd, 0, none⟩)]) := by simp [World.cell?, show W.heap[B]? = _ from hR]
  have c2 : W.cell? ⟨B, 2, none⟩ = some (.int .u32 c) := by simp [World.cell?, show W.heap[B]? = _ from hR]
  have f2 : W.frozen? ⟨B, 2, none⟩ = false := by simp [World.frozen?, show W.heap[B]? = _ from hR]
  have hR' := Lib.hid hR
  clear hR
  go_enter Try.func32, Try.ntmps32
  go_wp2_with fail
  go_region_with (go_at_call 36; refine (right1_nat c b d hc hb hd _ Bd (by simp [*])).mono ?_; rintro e w' ⟨rfl, rfl⟩)
  all_goals (go_end0; exact ⟨⟨_, rfl⟩, hR'.out.set _, below_setB _ _ _ _⟩)

/-- A register of m bits, the highest leaving, with content s, lies in block B. -/
def RegL {m : Nat} (p : BitVec m) (inv B Bm Ba Bd : Nat) (s : BitVec m) (W : World) : Prop :=
  (Bm < B ∧ Ba < B ∧ Bd < B) ∧ W.cell? ⟨Bm, 0, none⟩ = some (.int .i64 m) ∧ W.cell? ⟨Ba, 0, none⟩ = some (.int .u32 ((2 ^ m - 1 : Nat) : Int)) ∧ W.cell? ⟨Bd, 0, none⟩ = some (.int .u32 p.toNat) ∧ RegAt W B (fnL Bm Ba Bd) inv s.toNat
def RegR (p : BitVec 32) (inv B Bd : Nat) (s : BitVec 32) (W : World) : Prop :=
  Bd < B ∧ W.cell? ⟨Bd, 0, none⟩ = some (.int .u32 p.toNat) ∧ RegAt W B (fnR Bd) inv s.toNat

/-- What 'take' does to a register that is abstract. -/
def Takes {w : Nat} (f : BitVec w → Bool → BitVec w) (B : Nat) (St : BitVec w → World → Prop) : Prop :=
  ∀ (s : BitVec w) (W : World) (b : Nat), b < 2 → St s W → Calls Try.prog 32 #[.pointer (some ⟨B, 0, none⟩), .int .u32 b] W fun e w' => (∃ v, e = .returned v) ∧ St (f s (decide (b = 1))) w' ∧ Below B W w'

theorem toNat_decide {b : Nat} (hb : b < 2) : (decide (b = 1)).toNat = b := by
  rcases (by omega : b = 0 ∨ b = 1) with rfl | rfl <;> rfl
theorem takesL {m : Nat} (p : BitVec m) (inv B Bm Ba Bd : Nat) (hm : 1 ≤ m) (hm' : m ≤ 31) : Takes (stepL p) B (RegL p inv B Bm Ba Bd) := by
  rintro s W b hb ⟨⟨h1, h2, h3⟩, km, ka, kd, hR⟩
  have hp := pow_le31 hm'
  have hd := p.isLt
  refine (takeL_nat m s.toNat b p.toNat inv hm hm' s.isLt hb (by omega) W Bm Ba Bd B km ka kd hR).mono ?_
  rintro e w' ⟨he, hR', hB⟩
  refine ⟨he, ⟨⟨h1, h2, h3⟩, (hB.cell h1).trans km, (hB.cell h2).trans ka, (hB.cell h3).trans kd, ?_⟩, hB⟩
  rw [stepL_nat, toNat_decide hb]
  exact hR'
theorem takesR (p : BitVec 32) (inv B Bd : Nat) : Takes (stepR p) B (RegR p inv B Bd) := by
  rintro s W b hb ⟨h3, kd, hR⟩
  refine (takeR_nat s.toNat b p.toNat inv s.isLt hb p.isLt W Bd B kd hR).mono ?_
  rintro e w' ⟨he, hR', hB⟩
  refine ⟨he, ⟨h3, (hB.cell h3).trans kd, ?_⟩, hB⟩
  rw [stepR_nat, toNat_decide hb]
  exact hR'

end Go.Proofs.Ytlggjljgeflboaa
