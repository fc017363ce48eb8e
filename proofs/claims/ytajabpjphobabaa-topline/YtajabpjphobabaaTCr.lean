/-
  Crc5: what this seat needs of them.
-/
import Derived.Test.YtajabpjphobabaaTBi
import Derived.Test.YtajabpjphobabaaTFr
import Derived.Test.YtajabpjphobabaaTSt
import Derived.Test.YtajabpjphobabaaBase
import Derived.StillTailTactics
import Derived.Deep.RegionHeld3
import Derived.Laws.EntriesVeiled
namespace Go.Proofs.Ytajabpjphobabaa
open Go.RowKit
set_option linter.unusedVariables false
set_option linter.unusedSimpArgs false

/-- A register whose highest bit leaves it. -/
def stepL {w : Nat} (p s : BitVec w) (b : Bool) : BitVec w := (s <<< 1) ^^^ (if (b ^^ s.msb) = true then p else 0#w)

/-- A register whose lowest bit leaves it. -/
def stepR {w : Nat} (p s : BitVec w) (b : Bool) : BitVec w := (s >>> 1) ^^^ (if (b ^^ s.getLsbD 0) = true then p else 0#w)

structure IsReg (w : Nat) (f : BitVec w → Bool → BitVec w) : Prop where
  lin : ∀ s t b c, f (s ^^^ t) (b ^^ c) = f s b ^^^ f t c
  inj : ∀ s, f s false = 0#w → s = 0#w
  burst : ∀ e : List Bool, e.length ≤ w → e.foldl f 0#w = 0#w → ∀ b ∈ e, b = false

theorem lin_core {w : Nat} (A B p : BitVec w) (x y : Bool) : A ^^^ B ^^^ (if (x ^^ y) = true then p else 0#w) = (A ^^^ (if x = true then p else 0#w)) ^^^ (B ^^^ (if y = true then p else 0#w)) := by
  apply BitVec.eq_of_getLsbD_eq
  intro i hi
  cases x <;> cases y <;> simp <;> cases A.getLsbD i <;> cases B.getLsbD i <;> cases p.getLsbD i <;> rfl

theorem xor4 (b c m n : Bool) : ((b ^^ c) ^^ (m ^^ n)) = ((b ^^ m) ^^ (c ^^ n)) := by cases b <;> cases c <;> cases m <;> cases n <;> rfl

theorem stepL_lin {w : Nat} (p s t : BitVec w) (b c : Bool) : stepL p (s ^^^ t) (b ^^ c) = stepL p s b ^^^ stepL p t c := by
  unfold stepL
  rw [BitVec.shiftLeft_xor_distrib, BitVec.msb_xor, xor4, lin_core]

theorem stepR_lin {w : Nat} (p s t : BitVec w) (b c : Bool) : stepR p (s ^^^ t) (b ^^ c) = stepR p s b ^^^ stepR p t c := by
  unfold stepR
  rw [BitVec.ushiftRight_xor_distrib, BitVec.getLsbD_xor, xor4, lin_core]

/-- What a step leaves behind of a bit that was set. -/
theorem stepL_bit {w : Nat} (p s : BitVec w) (hp : p.getLsbD 0 = true) (b : Bool) (i : Nat) (hi : i + 1 < w) (hs : s.getLsbD i = true) : (stepL p s b).getLsbD 0 = true ∨ (stepL p s b).getLsbD (i + 1) = true := by
  unfold stepL
  by_cases h : (b ^^ s.msb) = true
  · left
    simp [h, hp]
  · right
    simp [h, hs]
    omega

theorem stepR_bit {w : Nat} (p s : BitVec w) (hp : p.getLsbD (w - 1) = true) (b : Bool) (i : Nat) (hs : s.getLsbD (i + 1) = true) : (stepR p s b).getLsbD (w - 1) = true ∨ (stepR p s b).getLsbD i = true := by
  unfold stepR
  by_cases h : (b ^^ s.getLsbD 0) = true
  · left
    have : s.getLsbD (1 + (w - 1)) = false := BitVec.getLsbD_of_ge _ _ (by omega)
    simp [h, hp, this]
  · right
    simp [h, Nat.add_comm 1 i, hs]

theorem bit_ne {w : Nat} {s : BitVec w} {i : Nat} (h : s.getLsbD i = true) : s ≠ 0#w := by
  rintro rfl
  simp at h

theorem runL_bit {w : Nat} (p : BitVec w) (hp : p.getLsbD 0 = true) : ∀ (e : List Bool) (s : BitVec w) (i : Nat), i + e.length < w → s.getLsbD i = true → e.foldl (stepL p) s ≠ 0#w
  | [], s, i, _, hs => bit_ne hs
  | b :: e, s, i, hi, hs => by
    simp only [List.length_cons] at hi
    simp only [List.foldl_cons]
    rcases stepL_bit p s hp b i (by omega) hs with h | h
    · exact runL_bit p hp e _ 0 (by omega) h
    · exact runL_bit p hp e _ (i + 1) (by omega) h

theorem runR_bit {w : Nat} (p : BitVec w) (hp : p.getLsbD (w - 1) = true) : ∀ (e : List Bool) (s : BitVec w) (i : Nat), e.length ≤ i → i < w → s.getLsbD i = true → e.foldl (stepR p) s ≠ 0#w
  | [], s, i, _, _, hs => bit_ne hs
  | b :: e, s, i, hi, hw, hs => by
    simp only [List.length_cons] at hi
    simp only [List.foldl_cons]
    obtain ⟨j, rfl⟩ : ∃ j, i = j + 1 := ⟨i - 1, by omega⟩
    rcases stepR_bit p s hp b j hs with h | h
    · exact runR_bit p hp e _ (w - 1) (by omega) (by omega) h
    · exact runR_bit p hp e _ j (by omega) (by omega) h

theorem stepL_zero {w : Nat} (p : BitVec w) : stepL p 0#w false = 0#w := by simp [stepL]

theorem stepL_one {w : Nat} (p : BitVec w) : stepL p 0#w true = p := by simp [stepL]

theorem stepR_zero {w : Nat} (p : BitVec w) : stepR p 0#w false = 0#w := by simp [stepR]

theorem stepR_one {w : Nat} (p : BitVec w) : stepR p 0#w true = p := by simp [stepR]

theorem stepL_reg {w : Nat} (p : BitVec w) (hp : p.getLsbD 0 = true) : IsReg w (stepL p) where
  lin := stepL_lin p
  inj s h := by
    apply BitVec.eq_of_getLsbD_eq
    intro i hi
    have key : ∀ j, j < w → (stepL p s false).getLsbD j = false := fun j _ => by rw [h]; simp
    have hm : s.msb = false := by
      cases hm : s.msb with
      | false => rfl
      | true =>
        have h0 := key 0 (by omega)
        simp [stepL, hm, hp] at h0
    by_cases hl : i + 1 < w
    · have h1 := key (i + 1) hl
      simp [stepL, hm, hl] at h1
      rw [BitVec.getLsbD_eq_getElem hi, h1]
      simp
    · have e : i = w - 1 := by omega
      rw [BitVec.msb_eq_getLsbD_last] at hm
      rw [e, hm]
      simp
  burst e he h := by
    induction e with
    | nil => simp
    | cons b e ih =>
      simp only [List.length_cons] at he
      cases b with
      | false =>
        simp only [List.foldl_cons, stepL_zero] at h
        intro b hb
        rcases List.mem_cons.1 hb with rfl | hb
        · rfl
        · exact ih (by omega) h b hb
      | true =>
        simp only [List.foldl_cons, stepL_one] at h
        exact absurd h (runL_bit p hp e p 0 (by omega) hp)

theorem stepR_reg {w : Nat} (p : BitVec w) (hp : p.getLsbD (w - 1) = true) : IsReg w (stepR p) where
  lin := stepR_lin p
  inj s h := by
    apply BitVec.eq_of_getLsbD_eq
    intro i hi
    have key : ∀ j, j < w → (stepR p s false).getLsbD j = false := fun j _ => by rw [h]; simp
    have hm : s.getLsbD 0 = false := by
      cases hm : s.getLsbD 0 with
      | false => rfl
      | true =>
        have h0 := key (w - 1) (by omega)
        have : s.getLsbD (1 + (w - 1)) = false := BitVec.getLsbD_of_ge _ _ (by omega)
        simp [stepR, hm, hp, this] at h0
    cases i with
    | zero => rw [hm]; simp
    | succ j =>
      have h1 := key j (by omega)
      simp [stepR, hm, Nat.add_comm 1 j] at h1
      simp [h1]
  burst e he h := by
    induction e with
    | nil => simp
    | cons b e ih =>
      simp only [List.length_cons] at he
      cases b with
      | false =>
        simp only [List.foldl_cons, stepR_zero] at h
        intro b hb
        rcases List.mem_cons.1 hb with rfl | hb
        · rfl
        · exact ih (by omega) h b hb
      | true =>
        simp only [List.foldl_cons, stepR_one] at h
        exact absurd h (runR_bit p hp e p (w - 1) (by omega) (by omega) hp)

section

variable {w : Nat} {f : BitVec w → Bool → BitVec w}

theorem IsReg.run_lin (hf : IsReg w f) : ∀ (a b : List Bool) (s t : BitVec w), a.length = b.length → (List.zipWith Bool.xor a b).foldl f (s ^^^ t) = a.foldl f s ^^^ b.foldl f t
  | [], [], _, _, _ => rfl
  | x :: a, y :: b, s, t, h => by
    simp only [List.length_cons, Nat.add_right_cancel_iff] at h
    simp only [List.zipWith_cons_cons, List.foldl_cons]
    have := hf.lin s t x y
    rw [this]
    exact hf.run_lin a b _ _ h
  | [], _ :: _, _, _, h => by simp at h
  | _ :: _, [], _, _, h => by simp at h

theorem IsReg.zero (hf : IsReg w f) : f 0#w false = 0#w := by
  have := hf.lin 0#w 0#w false false
  simpa using this

theorem xor_zero_iff (a b : BitVec w) : a ^^^ b = 0#w ↔ a = b := by
  constructor
  · intro h
    have : (a ^^^ b) ^^^ b = 0#w ^^^ b := by rw [h]
    rw [BitVec.xor_assoc, BitVec.xor_self] at this
    simpa using this
  · rintro rfl; exact BitVec.xor_self

theorem IsReg.step_inj (hf : IsReg w f) {s t : BitVec w} {b : Bool} (h : f s b = f t b) : s = t := by
  rw [← xor_zero_iff] at h ⊢
  apply hf.inj
  have := hf.lin s t b b
  rw [Bool.xor_self] at this
  rw [this, h]

theorem IsReg.run_inj (hf : IsReg w f) : ∀ (l : List Bool) {s t : BitVec w}, l.foldl f s = l.foldl f t → s = t
  | [], _, _, h => h
  | _ :: l, _, _, h => hf.step_inj (hf.run_inj l h)

theorem zip_false : ∀ (a b : List Bool), a.length = b.length → (∀ x ∈ List.zipWith Bool.xor a b, x = false) → a = b
  | [], [], _, _ => rfl
  | x :: a, y :: b, h, k => by
    simp only [List.length_cons, Nat.add_right_cancel_iff] at h
    simp only [List.zipWith_cons_cons, List.mem_cons] at k
    have h1 := k _ (.inl rfl)
    have h2 := zip_false a b h fun z hz => k z (.inr hz)
    rw [h2]
    congr 1
    cases x <;> cases y <;> simp_all
  | [], _ :: _, h, _ => by simp at h
  | _ :: _, [], h, _ => by simp at h

/-- Rows that differ within as many bits as the register has are told apart. -/
theorem IsReg.apart (hf : IsReg w f) (pre a b post : List Bool) (s : BitVec w) (hl : a.length = b.length) (hw : a.length ≤ w) (hne : a ≠ b) : (pre ++ (a ++ post)).foldl f s ≠ (pre ++ (b ++ post)).foldl f s := by
  intro h
  simp only [List.foldl_append] at h
  have h1 := hf.run_inj post h
  rw [← xor_zero_iff, ← hf.run_lin a b _ _ hl, BitVec.xor_self] at h1
  exact hne (zip_false a b hl (hf.burst _ (by simp [hl]; omega) h1))

theorem IsReg.zeros (hf : IsReg w f) : ∀ n, (List.replicate n false).foldl f 0#w = 0#w
  | 0 => rfl
  | n + 1 => by rw [List.replicate_succ, List.foldl_cons, hf.zero]; exact hf.zeros n

/-- Of three rows of as many bits. -/
theorem IsReg.three (hf : IsReg w f) (a b c : List Bool) (s : BitVec w) (h1 : a.length = b.length) (h2 : a.length = c.length) :
    (List.zipWith Bool.xor (List.zipWith Bool.xor a b) c).foldl f s = a.foldl f s ^^^ b.foldl f s ^^^ c.foldl f s := by
  have e : s = (s ^^^ s) ^^^ s := by rw [BitVec.xor_self]; simp
  have h := hf.run_lin (List.zipWith Bool.xor a b) c (s ^^^ s) s (by simp [h1]; omega)
  rw [← e, hf.run_lin a b s s h1] at h
  exact h

end

/-- A register's own bits, the highest first, empty it. -/
theorem stepL_own {w : Nat} (p s : BitVec w) : stepL p s s.msb = s <<< 1 := by unfold stepL; simp

theorem stepR_own {w : Nat} (p s : BitVec w) : stepR p s (s.getLsbD 0) = s >>> 1 := by unfold stepR; simp

/-- The bits of a number, the highest of many first; the lowest first. -/
def hiBits (many n : Nat) : List Bool := (List.range many).map fun j => n.testBit (many - 1 - j)

def loBits (many n : Nat) : List Bool := (List.range many).map fun j => n.testBit j

theorem range_succ_map {α : Type} (g : Nat → α) (n : Nat) : (List.range (n + 1)).map g = (List.range n).map g ++ [g n] := by simp [List.range_succ]

/-- To combine a number with a register at once, and then to shift, is to consume its bits. -/
theorem runL_at_once {w : Nat} (p s b : BitVec w) : ∀ k, k ≤ w → ((List.range k).map fun j => b.getLsbD (w - 1 - j)).foldl (stepL p) s = (List.replicate k false).foldl (stepL p) (s ^^^ b) ^^^ (b <<< k)
  | 0, _ => by simp [BitVec.xor_assoc]
  | k + 1, h => by
    rw [range_succ_map, List.foldl_append, runL_at_once p s b k (by omega), List.replicate_succ', List.foldl_append]
    simp only [List.foldl_cons, List.foldl_nil]
    have hm : b.getLsbD (w - 1 - k) = (b <<< k).msb := by
      rw [BitVec.msb_eq_getLsbD_last, BitVec.getLsbD_shiftLeft]
      have h1 : w - 1 < w := by omega
      have h2 : ¬ w - 1 < k := by omega
      simp [h1, h2]
    rw [hm]
    have := stepL_lin p ((List.replicate k false).foldl (stepL p) (s ^^^ b)) (b <<< k) false (b <<< k).msb
    rw [Bool.false_xor] at this
    rw [this, stepL_own, BitVec.shiftLeft_add]

theorem runR_at_once {w : Nat} (p s b : BitVec w) : ∀ k, ((List.range k).map fun j => b.getLsbD j).foldl (stepR p) s = (List.replicate k false).foldl (stepR p) (s ^^^ b) ^^^ (b >>> k)
  | 0 => by simp [BitVec.xor_assoc]
  | k + 1 => by
    rw [range_succ_map, List.foldl_append, runR_at_once p s b k, List.replicate_succ', List.foldl_append]
    simp only [List.foldl_cons, List.foldl_nil]
    have hm : b.getLsbD k = (b >>> k).getLsbD 0 := by simp
    rw [hm]
    have := stepR_lin p ((List.replicate k false).foldl (stepR p) (s ^^^ b)) (b >>> k) false ((b >>> k).getLsbD 0)
    rw [Bool.false_xor] at this
    rw [this, stepR_own, BitVec.shiftRight_add]

/-- A row with its own sum behind has the sum 0. -/
theorem runL_empty {w : Nat} (p s : BitVec w) : (hiBits w s.toNat).foldl (stepL p) s = 0#w := by
  have h := runL_at_once p s s w (Nat.le_refl _)
  have e : hiBits w s.toNat = (List.range w).map fun j => s.getLsbD (w - 1 - j) := rfl
  rw [e, h, BitVec.xor_self]
  have hz : ∀ n, (List.replicate n false).foldl (stepL p) 0#w = 0#w := by
    intro n
    induction n with
    | zero => rfl
    | succ n ih => rw [List.replicate_succ, List.foldl_cons, stepL_zero]; exact ih
  rw [hz]
  apply BitVec.eq_of_getLsbD_eq
  intro i hi
  simp [hi]

/-- What 'reduced' hands back. -/
def redN (c x d : Nat) : Nat := if x = 1 then c ^^^ d else c

set_option maxHeartbeats 400000 in
theorem reduced_any (c x d : Nat) (hc : c < 4294967296) (hd : d < 4294967296) (W : World) :
    Calls Try.prog 49 #[.int .u32 c, .int .u32 x, .int .u32 d] W fun e w' => e = .returned (.int .u32 (redN c x d)) ∧ W = w' := by
  have hx := u32_xor_nat c d hc hd
  have Hx := Lib.hid hx
  clear hx
  by_cases h : x = 1
  · subst h
    go_enter Try.func49, Try.ntmps49
    go_wp2
    go_ret
    exact ⟨ret_int Hx.out, rfl⟩
  · have d1 : ((x : Int) == 1) = false := by simp; omega
    have Hh := Lib.hid (show redN c x d = c from if_neg h)
    clear h
    go_enter Try.func49, Try.ntmps49
    go_wp2
    go_ret
    exact ⟨ret_int (by rw [Hh.out]), rfl⟩

theorem reduced_at (C X D : Int) (c x d : Nat) (hC : C = c) (hX : X = x) (hD : D = d) (hc : c < 4294967296) (hd : d < 4294967296) (W : World) :
    Calls Try.prog 49 #[.int .u32 C, .int .u32 X, .int .u32 D] W fun e w' => e = .returned (.int .u32 (redN c x d)) ∧ W = w' := by
  subst hC hX hD; exact reduced_any c x d hc hd W

theorem stepL_nat {m : Nat} (p s : BitVec m) (b : Bool) : (stepL p s b).toNat = redN (2 * s.toNat % 2 ^ m) (b.toNat ^^^ s.toNat / 2 ^ (m - 1)) p.toNat := by
  rcases Nat.eq_zero_or_pos m with rfl | hm
  · obtain rfl : p = 0#0 := BitVec.eq_nil _
    obtain rfl : s = 0#0 := BitVec.eq_nil _
    cases b <;> rfl
  have hs := s.isLt
  have hpw : 2 ^ m = 2 * 2 ^ (m - 1) := by
    conv => lhs; rw [show m = (m - 1) + 1 by omega]
    rw [Nat.pow_succ]; omega
  have h0 : 0 < 2 ^ (m - 1) := Nat.pow_pos (by omega)
  have hq : s.toNat / 2 ^ (m - 1) = s.msb.toNat := by
    rw [BitVec.msb_eq_decide]
    by_cases h : 2 ^ (m - 1) ≤ s.toNat
    · simp only [h, decide_true, Bool.toNat_true]
      apply Nat.div_eq_of_lt_le <;> omega
    · simp only [h, decide_false, Bool.toNat_false]
      exact Nat.div_eq_of_lt (by omega)
  have hsh : (s <<< 1).toNat = 2 * s.toNat % 2 ^ m := by
    rw [BitVec.toNat_shiftLeft, Nat.shiftLeft_eq]; congr 1; omega
  rw [hq]
  unfold stepL redN
  rw [BitVec.toNat_xor, hsh]
  cases b <;> cases s.msb <;> simp

theorem stepR_nat (p s : BitVec 32) (b : Bool) : (stepR p s b).toNat = redN (s.toNat / 2) (b.toNat ^^^ s.toNat % 2) p.toNat := by
  have hq : s.toNat % 2 = (s.getLsbD 0).toNat := by
    rw [BitVec.getLsbD, Nat.testBit_zero]
    rcases Nat.mod_two_eq_zero_or_one s.toNat with h | h <;> simp [h]
  have hsh : (s >>> 1).toNat = s.toNat / 2 := by rw [BitVec.toNat_ushiftRight, Nat.shiftRight_eq_div_pow]
  rw [hq]
  unfold stepR redN
  rw [BitVec.toNat_xor, hsh]
  cases b <;> cases s.getLsbD 0 <;> simp

theorem pow_le31 {m : Nat} (h : m ≤ 31) : 2 ^ m ≤ 2147483648 := Nat.pow_le_pow_right (n := 2) (by omega) h

set_option maxHeartbeats 400000 in
theorem left1_nat (m c b d : Nat) (hm : 1 ≤ m) (hm' : m ≤ 31) (hc : c < 2 ^ m) (hb : b < 2) (hd : d < 4294967296) (W : World) (Bm Ba Bd : Nat) (km : W.cell? ⟨Bm, 0, none⟩ = some (.int .i64 m)) (ka : W.cell? ⟨Ba, 0, none⟩ = some (.int .u32 ((2 ^ m - 1 : Nat) : Int))) (kd : W.cell? ⟨Bd, 0, none⟩ = some (.int .u32 d)) :
    Calls Try.prog 48 #[.int .u32 c, .int .u32 b, .pointer (some ⟨Bm, 0, none⟩), .pointer (some ⟨Ba, 0, none⟩), .pointer (some ⟨Bd, 0, none⟩)] W fun e w' => e = .returned (.int .u32 (redN (2 * c % 2 ^ m) (b ^^^ c / 2 ^ (m - 1)) d)) ∧ W = w' := by
  have hp := pow_le31 hm'
  have hp0 : 0 < 2 ^ m := Nat.pow_pos (by omega)
  have e1 : bits .and .u32 ((c : Int) * 2 % 4294967296) ((2 ^ m - 1 : Nat) : Int) = ((2 * c % 2 ^ m : Nat) : Int) := by
    rw [show (c : Int) * 2 % 4294967296 = ((2 * c : Nat) : Int) by omega, u32_and_nat _ _ (by omega) (by omega), Nat.and_two_pow_sub_one_eq_mod]
  have e2 : bits .xor .u32 (b : Int) ((c : Int) / 2 ^ (m - 1)) = ((b ^^^ c / 2 ^ (m - 1) : Nat) : Int) := by
    have hle : c / 2 ^ (m - 1) ≤ c := Nat.div_le_self _ _
    rw [← u32_xor_nat _ _ (by omega) (by omega)]
    simp
  have hlt : 2 * c % 2 ^ m < 4294967296 := by have := Nat.mod_lt (2 * c) hp0; omega
  have E1 := Lib.hid e1
  have E2 := Lib.hid e2
  clear e1 e2 hc
  go_enter Try.func48, Try.ntmps48
  go_wp2_with (go_at_call 49; refine (reduced_at _ _ _ _ _ _ E1.out E2.out rfl hlt hd _).mono ?_; rintro e w' ⟨rfl, rfl⟩)
  go_ret
  exact ⟨rfl, rfl⟩

/-- A register in memory. -/
def RegAt (W : World) (B : Nat) (f : Value) (inv s : Nat) : Prop := W.heap[B]? = some (.cells #[f, .int .u32 inv, .int .u32 s] 76 (0, 0))

theorem RegAt.set {W : World} {B : Nat} {f : Value} {inv s : Nat} (h : RegAt W B f inv s) (s' : Nat) : RegAt (W.setCell ⟨B, 2, none⟩ (.int .u32 s')).drew B f inv s' := by
  show (W.setCell ⟨B, 2, none⟩ (.int .u32 s')).heap[B]? = _
  rw [heap_setCell_same W B 2 _ _ _ h]
  rfl

theorem below_setB (W : World) (B o : Nat) (v : Value) : Below B W (W.setCell ⟨B, o, none⟩ v).drew := ((Below.refl B W).setCell (Nat.le_refl _) v).drew

/-- The step of a register whose highest bit leaves. -/
abbrev fnL (Bm Ba Bd : Nat) : Value := .func (.func 48) #[] #[.pointer (some ⟨Bm, 0, none⟩), .pointer (some ⟨Ba, 0, none⟩), .pointer (some ⟨Bd, 0, none⟩)]

set_option maxRecDepth 100000 in
set_option maxHeartbeats 400000 in
theorem takeL_nat (m c b d inv : Nat) (hm : 1 ≤ m) (hm' : m ≤ 31) (hc : c < 2 ^ m) (hb : b < 2) (hd : d < 4294967296) (W : World) (Bm Ba Bd B : Nat) (km : W.cell? ⟨Bm, 0, none⟩ = some (.int .i64 m)) (ka : W.cell? ⟨Ba, 0, none⟩ = some (.int .u32 ((2 ^ m - 1 : Nat) : Int))) (kd : W.cell? ⟨Bd, 0, none⟩ = some (.int .u32 d))
    (hR : RegAt W B (fnL Bm Ba Bd) inv c) :
    Calls Try.prog 44 #[.pointer (some ⟨B, 0, none⟩), .int .u32 b] W fun e w' => (∃ v, e = .returned v) ∧ RegAt w' B (fnL Bm Ba Bd) inv (redN (2 * c % 2 ^ m) (b ^^^ c / 2 ^ (m - 1)) d) ∧ Below B W w' := by
  have c0 : W.cell? ⟨B, 0, none⟩ = some (.func (.func 48) #[] #[.pointer (some ⟨Bm, 0, none⟩), .pointer (some ⟨Ba, 0, none⟩), .pointer (some ⟨Bd, 0, none⟩)]) := by simp [World.cell?, show W.heap[B]? = _ from hR]
  have c2 : W.cell? ⟨B, 2, none⟩ = some (.int .u32 c) := by simp [World.cell?, show W.heap[B]? = _ from hR]
  have f2 : W.frozen? ⟨B, 2, none⟩ = false := by simp [World.frozen?, show W.heap[B]? = _ from hR]
  have hR' := Lib.hid hR
  clear hR
  go_enter Try.func44, Try.ntmps44
  go_wp2_with fail
  go_region_with (go_at_call 48; refine (left1_nat m c b d hm hm' hc hb hd _ Bm Ba Bd (by simp [*]) (by simp [*]) (by simp [*])).mono ?_; rintro e w' ⟨rfl, rfl⟩)
  all_goals (go_end0; exact ⟨⟨_, rfl⟩, hR'.out.set _, below_setB _ _ _ _⟩)

/-- A register of m bits, the highest leaving, with content s, lies in block B. -/
def RegL {m : Nat} (p : BitVec m) (inv B Bm Ba Bd : Nat) (s : BitVec m) (W : World) : Prop :=
  (Bm < B ∧ Ba < B ∧ Bd < B) ∧ W.cell? ⟨Bm, 0, none⟩ = some (.int .i64 m) ∧ W.cell? ⟨Ba, 0, none⟩ = some (.int .u32 ((2 ^ m - 1 : Nat) : Int)) ∧ W.cell? ⟨Bd, 0, none⟩ = some (.int .u32 p.toNat) ∧ RegAt W B (fnL Bm Ba Bd) inv s.toNat

/-- What 'take' does to a register that is abstract. -/
def Takes {w : Nat} (f : BitVec w → Bool → BitVec w) (B : Nat) (St : BitVec w → World → Prop) : Prop :=
  ∀ (s : BitVec w) (W : World) (b : Nat), b < 2 → St s W → Calls Try.prog 44 #[.pointer (some ⟨B, 0, none⟩), .int .u32 b] W fun e w' => (∃ v, e = .returned v) ∧ St (f s (decide (b = 1))) w' ∧ Below B W w'

theorem toNat_decide {b : Nat} (hb : b < 2) : (decide (b = 1)).toNat = b := by
  rcases (by omega : b = 0 ∨ b = 1) with rfl | rfl <;> rfl

theorem takesL {m : Nat} (p : BitVec m) (inv B Bm Ba Bd : Nat) (hm : 1 ≤ m) (hm' : m ≤ 31) : Takes (stepL p) B (RegL p inv B Bm Ba Bd) := by
  rintro s W b hb ⟨⟨h1, h2, h3⟩, km, ka, kd, hR⟩
  have hp := pow_le31 hm'
  have hd := p.isLt
  refine (takeL_nat m s.toNat b p.toNat inv hm hm' s.isLt hb (by omega) W Bm Ba Bd B km ka kd hR).mono ?_
  rintro e w' ⟨he, hR', hB⟩
  refine ⟨he, ⟨⟨h1, h2, h3⟩, (hB.cell h1).trans km, (hB.cell h2).trans ka, (hB.cell h3).trans kd, ?_⟩, hB⟩
  rw [stepL_nat, toNat_decide hb]
  exact hR'

/-- A row of bits as truths. -/
def boolsOf (l : List Int) : List Bool := l.map fun x => decide (x = 1)

theorem boolsOf_snoc {l : List Int} {k : Nat} {x : Int} (hx : l[k]? = some x) : boolsOf (l.take (k + 1)) = boolsOf (l.take k) ++ [decide (x = 1)] := by
  rw [take_snoc hx]; simp [boolsOf]

/-- The value 'r.take'. -/
abbrev fnTake (B : Nat) : Value := .func (.func 44) #[.pointer (some ⟨B, 0, none⟩)] #[]

set_option maxRecDepth 100000 in
set_option maxHeartbeats 400000 in
theorem bits1_any {w : Nat} {f : BitVec w → Bool → BitVec w} {B : Nat} {St : BitVec w → World → Prop} (hT : Takes f B St) (l : List Int) (n : Nat) (hn : l.length = n) (A : Option Addr) (c Bl : Nat) (s : BitVec w) (W : World)
    (hr : rightB l = true) (hm : n ≤ maxLen) (h : Row .i64 W B A l) (kl : W.cell? ⟨Bl, 0, none⟩ = some (.slice A n c)) (h0 : St s W) :
    Calls Try.prog 30 #[fnTake B, .pointer (some ⟨Bl, 0, none⟩)] W fun e w' => (∃ v, e = .returned v) ∧ St ((boolsOf l).foldl f s) w' ∧ Below B W w' := by
  subst hn
  unfold maxLen at hm
  have HR := Lib.hid hr
  clear hr
  go_enter Try.func30, Try.ntmps30
  go_wp2_with fail
  go_loopw [7] (fun i wr => ∃ k : Nat, k ≤ l.length ∧ i = .int .i64 k ∧ St ((boolsOf (l.take k)).foldl f s) wr ∧ Below B W wr) (fun i _ => l.length - (intOf i).toNat)
  case atStart => exact ⟨0, Nat.zero_le _, rfl, h0, Below.refl _ _⟩
  case round =>
    obtain ⟨k, hk, rfl, hS, hBl⟩ := hrel
    by_cases hlt : k < l.length
    · obtain ⟨ad, x, rfl, hx, hc⟩ := (h.below hBl).get_ hlt
      have hb := rightB_at HR.out hx
      have Hx := Lib.hid (boolsOf_snoc hx)
      obtain ⟨b, rfl, hb2⟩ : ∃ b : Nat, x = (b : Int) ∧ b < 2 := by
        rcases hb with rfl | rfl
        · exact ⟨0, rfl, by omega⟩
        · exact ⟨1, rfl, by omega⟩
      have hd : decide ((b : Int) = 1) = decide (b = 1) := by
        rcases (by omega : b = 0 ∨ b = 1) with rfl | rfl <;> rfl
      have Hd := Lib.hid hd
      clear hx hb hd
      have hb32 : b < 4294967296 := by omega
      go_wp2_with (go_at_call 44; refine (hT _ _ b hb2 hS).mono ?_; rintro e w2 ⟨⟨v, rfl⟩, hS2, hB2⟩)
      go_roundw
      case rel =>
        refine ⟨k + 1, by omega, by go_num, ?_, hBl.trans hB2⟩
        rw [Hx.out, List.foldl_append, List.foldl_cons, List.foldl_nil, Hd.out]
        exact hS2
      case measure => simp [intOf]; omega
    · obtain rfl : k = l.length := by omega
      go_wp2
      go_end0
      exact ⟨⟨_, rfl⟩, by rw [List.take_length] at hS; exact hS, hBl⟩

theorem bit_u32 (x j : Nat) (hx : x < 256) : bits .and .u32 ((x : Int) / 2 ^ j) 1 = ((x / 2 ^ j % 2 : Nat) : Int) := by
  have hle : x / 2 ^ j ≤ x := Nat.div_le_self _ _
  have := u32_and_nat (x / 2 ^ j) 1 (by omega) (by omega)
  rw [nat_mask1] at this
  rw [← this]
  simp

theorem Takes.at_ {w : Nat} {f : BitVec w → Bool → BitVec w} {B : Nat} {St : BitVec w → World → Prop} (hT : Takes f B St) {V : Int} {b : Nat} (hV : V = b) (hb : b < 2) {s : BitVec w} {W : World} (hS : St s W) :
    Calls Try.prog 44 #[.pointer (some ⟨B, 0, none⟩), .int .u32 V] W fun e w' => (∃ v, e = .returned v) ∧ St (f s (decide (b = 1))) w' ∧ Below B W w' := by
  subst hV; exact hT s W b hb hS

theorem bit_test (x j : Nat) : decide (x / 2 ^ j % 2 = 1) = x.testBit j := by rw [Nat.testBit_eq_decide_div_mod_eq]

/-- The bits of bytes, each one's highest first; each one's lowest first. -/
def hiAll (l : List Int) : List Bool := l.flatMap fun x => hiBits 8 x.toNat

def loAll (l : List Int) : List Bool := l.flatMap fun x => loBits 8 x.toNat

theorem hiAll_snoc {l : List Int} {k : Nat} {x : Int} (hx : l[k]? = some x) : hiAll (l.take (k + 1)) = hiAll (l.take k) ++ hiBits 8 x.toNat := by
  rw [take_snoc hx]; simp [hiAll]

theorem loAll_snoc {l : List Int} {k : Nat} {x : Int} (hx : l[k]? = some x) : loAll (l.take (k + 1)) = loAll (l.take k) ++ loBits 8 x.toNat := by
  rw [take_snoc hx]; simp [loAll]

theorem results_cell1 {fn : Func} {p : Tmp} {ty : TypeId} (h : fn.results = #[.cell p ty]) (tmps : Array Value) (P : Program) (w : World) :
    (results fn tmps).run P w = ((asAddr (tmps.getD p undef)).run P w).andThen fun a w₁ => (loadVar ty a).run P w₁ := by
  simp only [results, h]
  simp [Sem.run_bind, Result.andThen]

/-- The value of a rule. -/
abbrev ruleV (f : Value) (inv : Int) : Value := .agg #[f, .int .u32 inv]

set_option maxHeartbeats 400000 in
theorem leftward_15 (w : World) :
    Calls Try.prog 43 #[.int .i64 15, .int .u32 17817] w fun e w' => e = .returned (fnL w.heap.size (w.heap.size + 1 + 1) (w.heap.size + 1)) ∧ w' = ((w.alloc (.cells #[.int .i64 15] 3)).alloc (.cells #[.int .u32 17817] 50)).alloc (.cells #[.int .u32 32767] 50) := by
  go_enter Try.func43, Try.ntmps43
  go_wp2
  go_ret
  exact ⟨rfl, rfl⟩

set_option maxHeartbeats 400000 in
theorem leftward_8 (w : World) :
    Calls Try.prog 43 #[.int .i64 8, .int .u32 29] w fun e w' => e = .returned (fnL w.heap.size (w.heap.size + 1 + 1) (w.heap.size + 1)) ∧ w' = ((w.alloc (.cells #[.int .i64 8] 3)).alloc (.cells #[.int .u32 29] 50)).alloc (.cells #[.int .u32 255] 50) := by
  go_enter Try.func43, Try.ntmps43
  go_wp2
  go_ret
  exact ⟨rfl, rfl⟩

set_option maxHeartbeats 400000 in
theorem bitsRule_any (w : World) :
    Calls Try.prog 28 #[] w fun e w' => e = .returned (ruleV (fnL (w.heap.size + 1) (w.heap.size + 1 + 1 + 1) (w.heap.size + 1 + 1)) 0) ∧
      w' = (((w.alloc (.cells #[fnL (w.heap.size + 1) (w.heap.size + 1 + 1 + 1) (w.heap.size + 1 + 1), .int .u32 0] 52)).alloc (.cells #[.int .i64 15] 3)).alloc (.cells #[.int .u32 17817] 50)).alloc (.cells #[.int .u32 32767] 50) := by
  go_enter Try.func28, Try.ntmps28
  go_wp2_with (go_at_call 43; refine (leftward_15 _).mono ?_; rintro e w' ⟨rfl, rfl⟩)
  refine bodyPost_ret (v := ruleV (fnL (w.heap.size + 1) (w.heap.size + 1 + 1 + 1) (w.heap.size + 1 + 1)) 0) ?_ rfl ⟨rfl, rfl⟩
  rw [results_cell1 rfl]
  go_simp

theorem bitsRule_at (w : World) :
    Calls Try.prog 28 #[] w fun e w' => ∃ Bm Ba Bd, e = .returned (ruleV (fnL Bm Ba Bd) 0) ∧ (Bm < w'.heap.size ∧ Ba < w'.heap.size ∧ Bd < w'.heap.size) ∧
      w'.cell? ⟨Bm, 0, none⟩ = some (.int .i64 15) ∧ w'.cell? ⟨Ba, 0, none⟩ = some (.int .u32 32767) ∧ w'.cell? ⟨Bd, 0, none⟩ = some (.int .u32 17817) ∧ Below w.heap.size w w' := by
  refine (bitsRule_any w).mono ?_
  rintro e w' ⟨rfl, rfl⟩
  refine ⟨_, _, _, rfl, ⟨by simp, by simp, by simp⟩, by go_simp, by go_simp, by go_simp, ?_⟩
  exact ((((Below.refl _ w).alloc (Nat.le_refl _) _).alloc (by simp) _).alloc (by simp; omega) _).alloc (by simp; omega) _

set_option maxRecDepth 100000 in
set_option maxHeartbeats 400000 in
theorem proceedBits {m : Nat} {St : BitVec m → World → Prop} (F : Fn) (fs cs : Array Value) (inv sum : Nat) (hinv : inv < 4294967296) (hsum : sum < 4294967296) (Bl : Nat) (s0 s1 : BitVec m) (hm : m ≤ 32) (h0 : s0.toNat = sum ^^^ inv) (w : World)
    (hin : ∀ W, Below w.heap.size w W → RegAt W (w.heap.size + 1) (.func F fs cs) inv s0.toNat → St s0 W)
    (hout : ∀ W, St s1 W → RegAt W (w.heap.size + 1) (.func F fs cs) inv s1.toNat)
    (hF : ∀ W, Below w.heap.size w W → St s0 W → Calls Try.prog 30 #[fnTake (w.heap.size + 1), .pointer (some ⟨Bl, 0, none⟩)] W fun e w' => (∃ v, e = .returned v) ∧ St s1 w' ∧ Below (w.heap.size + 1) W w') :
    Calls Try.prog 29 #[ruleV (.func F fs cs) inv, .int .u32 sum, .func (.func 30) #[] #[.pointer (some ⟨Bl, 0, none⟩)]] w fun e w' => e = .returned (.int .i64 ((s1.toNat ^^^ inv : Nat) : Int)) ∧ Below w.heap.size w w' := by
  have e0 : bits .xor .u32 (sum : Int) (inv : Int) = (s0.toNat : Int) := by rw [h0]; exact u32_xor_nat _ _ hsum hinv
  clear h0
  have hle : s1.toNat < 4294967296 := Nat.lt_of_lt_of_le s1.isLt (Nat.pow_le_pow_right (n := 2) (by omega) hm)
  have e1 : bits .xor .u32 (s1.toNat : Int) (inv : Int) = ((s1.toNat ^^^ inv : Nat) : Int) := u32_xor_nat _ _ hle hinv
  have hx : s1.toNat ^^^ inv < 4294967296 := Nat.xor_lt_two_pow (n := 32) hle hinv
  have hB2 : Below w.heap.size w ((w.alloc (.cells #[.func F fs cs, .int .u32 inv] 52)).alloc (.cells #[.func F fs cs, .int .u32 inv, .int .u32 s0.toNat] 76)) :=
    ((Below.refl _ w).alloc (Nat.le_refl _) _).alloc (by simp) _
  have hreg : RegAt ((w.alloc (.cells #[.func F fs cs, .int .u32 inv] 52)).alloc (.cells #[.func F fs cs, .int .u32 inv, .int .u32 s0.toNat] 76)) (w.heap.size + 1) (.func F fs cs) inv s0.toNat := by
    have := World.alloc_heap_new (w.alloc (.cells #[.func F fs cs, .int .u32 inv] 52)) (.cells #[.func F fs cs, .int .u32 inv, .int .u32 s0.toNat] 76)
    rw [World.size_alloc] at this
    exact this
  have hcell : ((w.alloc (.cells #[.func F fs cs, .int .u32 inv] 52)).alloc (.cells #[.func F fs cs, .int .u32 inv, .int .u32 s0.toNat] 76)).cell? ⟨w.heap.size, 1, none⟩ = some (.int .u32 inv) := by go_simp
  have Hc := hF _ hB2 (hin _ hB2 hreg)
  have HB2 := Lib.hid hB2
  have Hcell := Lib.hid hcell
  clear hB2 hreg hcell hin hF
  go_enter Try.func29, Try.ntmps29
  go_wp2_with fail
  refine Hc.mono ?_
  rintro e w3 ⟨⟨v, rfl⟩, hS, hB3⟩
  have hR := hout _ hS
  have c2 : w3.cell? ⟨w.heap.size + 1, 2, none⟩ = some (.int .u32 s1.toNat) := by simp [World.cell?, show w3.heap[w.heap.size + 1]? = _ from hR]
  have k1 : w3.cell? ⟨w.heap.size, 1, none⟩ = some (.int .u32 inv) := (hB3.cell (by simp)).trans Hcell.out
  clear hout Hc
  go_wp2_with fail
  go_ret
  exact ⟨rfl, HB2.out.trans (hB3.mono (by omega))⟩

/-- The three sums. -/
def crc15 (l : List Int) : BitVec 15 := (boolsOf l).foldl (stepL 0x4599#15) 0#15

def crc8 (b : List Int) : BitVec 8 := (hiAll b).foldl (stepL 0x1D#8) 0xFF#8

def crc32 (s : BitVec 32) (b : List Int) : BitVec 32 := (loAll b).foldl (stepR 0xEDB88320#32) s

set_option maxRecDepth 100000 in
set_option maxHeartbeats 400000 in
theorem bits_any (l : List Int) (n : Nat) (hn : l.length = n) (A : Option Addr) (c : Nat) (w : World) (h : Row .i64 w w.heap.size A l) (hr : rightB l = true) (hm : n ≤ maxLen) :
    Calls Try.prog 13 #[.slice A n c] w fun e w' => e = .returned (.int .i64 (crc15 l).toNat) ∧ Below w.heap.size w w' := by
  have Hn := Lib.hid hn
  have Hr := Lib.hid hr
  clear hn hr
  go_enter Try.func13, Try.ntmps13
  go_wp2_with fail
  obtain ⟨w1, hw1⟩ : ∃ w1, w.alloc (.cells #[.slice A n c] 27) = w1 := ⟨_, rfl⟩
  rw [hw1]
  have kl : w1.cell? ⟨w.heap.size, 0, none⟩ = some (.slice A n c) := by subst hw1; go_simp
  have hz1 : w.heap.size < w1.heap.size := by rw [← hw1]; simp
  have hB1 := below_lits hw1
  clear hw1
  refine (bitsRule_at _).mono ?_
  rintro e w2 ⟨Bm, Ba, Bd, rfl, ⟨b1, b2, b3⟩, km, ka, kd, hB2⟩
  have kl2 : w2.cell? ⟨w.heap.size, 0, none⟩ = some (.slice A n c) := (hB2.cell hz1).trans kl
  have hz2 : w.heap.size < w2.heap.size := by have := hB2.size; omega
  have r2 := (h.to hB1).to hB2
  have hP := proceedBits (St := RegL 0x4599#15 0 (w2.heap.size + 1) Bm Ba Bd) (.func 48) #[] #[.pointer (some ⟨Bm, 0, none⟩), .pointer (some ⟨Ba, 0, none⟩), .pointer (some ⟨Bd, 0, none⟩)] 0 0 (by omega) (by omega) w.heap.size 0#15 (crc15 l) (by omega) rfl w2
    (fun W hB hR => ⟨⟨by omega, by omega, by omega⟩, (hB.cell b1).trans km, (hB.cell b2).trans ka, (hB.cell b3).trans kd, hR⟩)
    (fun W hS => hS.2.2.2.2)
    (fun W hB hS => bits1_any (takesL _ _ _ _ _ _ (by omega) (by omega)) l n Hn.out A c w.heap.size 0#15 W Hr.out hm ((r2.below hB).more (by omega)) ((hB.cell hz2).trans kl2) hS)
  go_wp2_with fail
  refine hP.mono ?_
  rintro e w3 ⟨rfl, hB3⟩
  go_wp2_with fail
  go_ret
  exact ⟨rfl, below_then hB1 (below_then hB2 hB3)⟩

theorem xor_i64 (a b : Nat) (ha : a < 4611686018427387904) (hb : b < 4611686018427387904) : bits .xor .i64 (a : Int) (b : Int) = ((a ^^^ b : Nat) : Int) := by
  have hx : a ^^^ b < 2 ^ 62 := Nat.xor_lt_two_pow ha hb
  show IntKind.i64.wrap ((BitVec.ofInt 64 (a : Int) ^^^ BitVec.ofInt 64 (b : Int)).toNat : Int) = _
  rw [BitVec.toNat_xor, ofInt_u64 _ (by omega), ofInt_u64 _ (by omega), IntKind.wrap_i64]
  omega

theorem crc8_step (s : BitVec 8) (x : Nat) : (hiBits 8 x).foldl (stepL 0x1D#8) s = (List.replicate 8 false).foldl (stepL 0x1D#8) (s ^^^ BitVec.ofNat 8 x) := by
  have h := runL_at_once 0x1D#8 s (BitVec.ofNat 8 x) 8 (Nat.le_refl _)
  have e : hiBits 8 x = (List.range 8).map fun j => (BitVec.ofNat 8 x).getLsbD (8 - 1 - j) := by
    unfold hiBits
    apply List.map_congr_left
    intro j hj
    have := List.mem_range.1 hj
    rw [BitVec.getLsbD_ofNat]
    simp
    omega
  rw [e, h]
  have hz : (BitVec.ofNat 8 x) <<< 8 = 0#8 := by
    apply BitVec.eq_of_getLsbD_eq
    intro i hi
    simp [hi]
  rw [hz, BitVec.xor_zero]

theorem crc32_step (s : BitVec 32) (x : Nat) (hx : x < 256) : (loBits 8 x).foldl (stepR 0xEDB88320#32) s = (List.replicate 8 false).foldl (stepR 0xEDB88320#32) (s ^^^ BitVec.ofNat 32 x) := by
  have h := runR_at_once 0xEDB88320#32 s (BitVec.ofNat 32 x) 8
  have e : loBits 8 x = (List.range 8).map fun j => (BitVec.ofNat 32 x).getLsbD j := by
    unfold loBits
    apply List.map_congr_left
    intro j hj
    have := List.mem_range.1 hj
    rw [BitVec.getLsbD_ofNat]
    simp
    omega
  rw [e, h]
  have hz : (BitVec.ofNat 32 x) >>> 8 = 0#32 := by
    apply BitVec.eq_of_toNat_eq
    rw [BitVec.toNat_ushiftRight, Nat.shiftRight_eq_div_pow, BitVec.toNat_ofNat]
    simp
    omega
  rw [hz, BitVec.xor_zero]

theorem crc8_snoc {l : List Int} {k : Nat} {x : Nat} (hx : l[k]? = some (x : Int)) : crc8 (l.take (k + 1)) = (List.replicate 8 false).foldl (stepL 0x1D#8) (crc8 (l.take k) ^^^ BitVec.ofNat 8 x) := by
  rw [← crc8_step]
  unfold crc8
  rw [hiAll_snoc hx, List.foldl_append, Int.toNat_natCast]

theorem crc32_snoc {l : List Int} {k : Nat} {x : Nat} (hx : l[k]? = some (x : Int)) (h : x < 256) (s : BitVec 32) : crc32 s (l.take (k + 1)) = (List.replicate 8 false).foldl (stepR 0xEDB88320#32) (crc32 s (l.take k) ^^^ BitVec.ofNat 32 x) := by
  rw [← crc32_step _ _ h]
  unfold crc32
  rw [loAll_snoc hx, List.foldl_append, Int.toNat_natCast]

/-- Zeros that a register consumes. -/
def zeroL (s : BitVec 8) (k : Nat) : BitVec 8 := (List.replicate k false).foldl (stepL 0x1D#8) s

def zeroR (s : BitVec 32) (k : Nat) : BitVec 32 := (List.replicate k false).foldl (stepR 0xEDB88320#32) s

theorem zeroL_succ (s : BitVec 8) (k : Nat) : (zeroL s (k + 1)).toNat = redN (2 * (zeroL s k).toNat % 256) ((zeroL s k).toNat / 128) 29 := by
  unfold zeroL
  rw [List.replicate_succ', List.foldl_append, List.foldl_cons, List.foldl_nil, stepL_nat]
  simp

theorem zeroR_succ (s : BitVec 32) (k : Nat) : (zeroR s (k + 1)).toNat = redN ((zeroR s k).toNat / 2) ((zeroR s k).toNat % 2) 3988292384 := by
  unfold zeroR
  rw [List.replicate_succ', List.foldl_append, List.foldl_cons, List.foldl_nil, stepR_nat]
  simp

theorem not_u32 (x : Int) : bits .xor .u32 IntKind.u32.max (x % 4294967296) = ((BitVec.ofInt 32 x ^^^ 0xFFFFFFFF#32).toNat : Int) := by
  have h := u32_xor_nat 4294967295 (BitVec.ofInt 32 x).toNat (by omega) (BitVec.ofInt 32 x).isLt
  have e : ((BitVec.ofInt 32 x).toNat : Int) = x % 4294967296 := by
    rw [BitVec.toNat_ofInt]
    have : (0 : Int) ≤ x % 4294967296 := Int.emod_nonneg _ (by omega)
    show (((x % ((2 ^ 32 : Nat) : Int)).toNat : Nat) : Int) = _
    rw [show ((2 ^ 32 : Nat) : Int) = 4294967296 from rfl]
    omega
  rw [e] at h
  rw [BitVec.toNat_xor, Nat.xor_comm]
  exact h

end Go.Proofs.Ytajabpjphobabaa
