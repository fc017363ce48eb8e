/-
  FilMath: what this seat needs of them.
-/
import Derived.Test.YtlbgilbigcnleaaNFr
import Derived.Test.YtlbgilbigcnleaaNFi
namespace Go.Proofs.Ytlbgilbigcnleaa
open Go.RowKit
set_option linter.unusedVariables false
set_option linter.unusedSimpArgs false

theorem wraps_i64 (n : Int) (h₀ : 0 ≤ n) (h₁ : n < 2 ^ 62) : IntKind.i64.wrap n = n := by rw [IntKind.wrap_i64]; omega

theorem and_nat {a b : Nat} (ha : a < 4611686018427387904) (hb : b < 4611686018427387904) : bits .and .i64 (a : Int) (b : Int) = ((a &&& b : Nat) : Int) :=
  (bits_nat .i64 62 (by decide) wraps_i64 a b (by omega) (by omega)).1

theorem or_nat {a b : Nat} (ha : a < 4611686018427387904) (hb : b < 4611686018427387904) : bits .or .i64 (a : Int) (b : Int) = ((a ||| b : Nat) : Int) :=
  (bits_nat .i64 62 (by decide) wraps_i64 a b (by omega) (by omega)).2

theorem ofInt64_NFm (a : Nat) (ha : a < 18446744073709551616) : (BitVec.ofInt 64 (a : Int)).toNat = a := by
  rw [BitVec.ofInt_natCast, BitVec.toNat_ofNat]; exact Nat.mod_eq_of_lt (by omega)

theorem xor_nat {a b : Nat} (ha : a < 4611686018427387904) (hb : b < 4611686018427387904) : bits .xor .i64 (a : Int) (b : Int) = ((a ^^^ b : Nat) : Int) := by
  have hx : a ^^^ b < 2 ^ 62 := Nat.xor_lt_two_pow (by omega) (by omega)
  show IntKind.i64.wrap ((BitVec.ofInt 64 (a : Int) ^^^ BitVec.ofInt 64 (b : Int)).toNat : Int) = _
  rw [BitVec.toNat_xor, ofInt64_NFm a (by omega), ofInt64_NFm b (by omega), wraps_i64 _ (by omega) (by omega)]

theorem and_comm64 (a b : Int) : bits .and .i64 a b = bits .and .i64 b a := by
  show IntKind.i64.wrap ((BitVec.ofInt 64 a &&& BitVec.ofInt 64 b).toNat : Int) = IntKind.i64.wrap ((BitVec.ofInt 64 b &&& BitVec.ofInt 64 a).toNat : Int)
  rw [BitVec.and_comm]

theorem nat_ext {a b : Nat} (h : ∀ i, a.testBit i = b.testBit i) : a = b := Nat.eq_of_testBit_eq h

theorem bit_of {a b : Nat} (h : a = b) (i : Nat) : a.testBit i = b.testBit i := by rw [h]

theorem bits_nil {a : Nat} (h : ∀ i, a.testBit i = false) : a = 0 := nat_ext fun i => by simp [h i]

/-- All bits of a kind's identifiers. -/
def allN (x : Bool) : Nat := if x then 536870911 else 2047

theorem allN_most (x : Bool) : ((allN x : Nat) : Int) + 1 = mostL x := by cases x <;> rfl

theorem allN_lt (x : Bool) : allN x < 536870912 := by cases x <;> decide

theorem and_all {x : Bool} {K : Nat} (h : (K : Int) < mostL x) : K &&& allN x = K := by
  cases x
  · have h' : K < 2 ^ 11 := by simp [mostL] at h; omega
    show K &&& (2 ^ 11 - 1) = K
    rw [Nat.and_two_pow_sub_one_eq_mod, Nat.mod_eq_of_lt h']
  · have h' : K < 2 ^ 29 := by simp [mostL] at h; omega
    show K &&& (2 ^ 29 - 1) = K
    rw [Nat.and_two_pow_sub_one_eq_mod, Nat.mod_eq_of_lt h']

/-- A right filter, its mask K, its match M. -/
structure OkL (f : FL) (K M : Nat) : Prop where
  k : f.k = K
  m : f.m = M
  all : K &&& allN f.x = K
  sub : M &&& K = M
  kl : K < 536870912
  ml : M < 536870912

theorem okL_of {f : FL} (h : refRightP f = true) : ∃ K M : Nat, OkL f K M := by
  simp only [refRightP, Bool.and_eq_true, decide_eq_true_eq, beq_iff_eq] at h
  obtain ⟨⟨h1, h2, h3, h4⟩, h5⟩ := h
  obtain ⟨K, hK⟩ := Int.eq_ofNat_of_zero_le h1
  obtain ⟨M, hM⟩ := Int.eq_ofNat_of_zero_le h3
  have hm := allN_most f.x
  have hl := allN_lt f.x
  rw [hK] at h2 h5
  rw [hM] at h4 h5
  have hK' : K < 536870912 := by omega
  have hM' : M < 536870912 := by omega
  rw [and_nat (by omega) (by omega)] at h5
  exact ⟨K, M, hK, hM, and_all h2, by exact_mod_cast h5, hK', hM'⟩

theorem takes_iff {f : FL} {K M : Nat} (h : OkL f K M) {x : Bool} {i : Nat} (hi : i < 4611686018427387904) : takesV f x i = true ↔ x = f.x ∧ i &&& K = M := by
  have hk := h.kl
  simp only [takesV, Bool.and_eq_true, beq_iff_eq, h.k, h.m]
  rw [and_nat hi (by omega)]
  constructor
  · rintro ⟨h1, h2⟩; exact ⟨h1, by exact_mod_cast h2⟩
  · rintro ⟨h1, h2⟩; exact ⟨h1, by exact_mod_cast h2⟩

theorem covers_iff {a b : FL} {K M K' M' : Nat} (ha : OkL a K M) (hb : OkL b K' M') : coversV a b = true ↔ b.x = a.x ∧ K' &&& K = K ∧ M' &&& K = M := by
  have h1 := ha.kl
  have h2 := hb.kl
  have h3 := hb.ml
  simp only [coversV, decide_eq_true_eq, withinV, fl_ext, ha.k, ha.m, hb.k, hb.m]
  rw [and_nat (by omega) (by omega), and_nat (by omega) (by omega)]
  constructor
  · rintro ⟨e1, e2, e3⟩; exact ⟨e1, by exact_mod_cast e2, by exact_mod_cast e3⟩
  · rintro ⟨e1, e2, e3⟩; exact ⟨e1, by exact_mod_cast e2, by exact_mod_cast e3⟩

theorem meets_iff {a b : FL} {K M K' M' : Nat} (ha : OkL a K M) (hb : OkL b K' M') : meetsV a b = true ↔ a.x = b.x ∧ M &&& K' = M' &&& K := by
  have h1 := ha.kl
  have h2 := hb.kl
  have h3 := hb.ml
  have h4 := ha.ml
  simp only [meetsV, decide_eq_true_eq, withinV, fl_ext, ha.k, ha.m, hb.k, hb.m]
  rw [and_nat (by omega) (by omega), and_nat (by omega) (by omega), and_nat (by omega) (by omega), and_nat (by omega) (by omega), Nat.and_comm K' K]
  constructor
  · rintro ⟨e1, _, e3⟩; exact ⟨e1, by exact_mod_cast e3⟩
  · rintro ⟨e1, e3⟩; exact ⟨e1, rfl, by exact_mod_cast e3⟩

/-- The document's answers are the program's. -/
theorem refCovers_eq (a b : FL) : refCoversP a b = coversV a b := by
  rw [Bool.eq_iff_iff]
  simp only [refCoversP, coversV, withinV, fl_ext, Bool.and_eq_true, beq_iff_eq, decide_eq_true_eq]
  rw [and_comm64 a.k b.k]
  constructor
  · rintro ⟨⟨h1, h2⟩, h3⟩; exact ⟨h1.symm, h2, h3⟩
  · rintro ⟨h1, h2, h3⟩; exact ⟨⟨h1.symm, h2⟩, h3⟩

theorem refMeets_eq {a b : FL} {K M K' M' : Nat} (ha : OkL a K M) (hb : OkL b K' M') : refMeetsP a b = meetsV a b := by
  have h1 := ha.kl
  have h2 := hb.kl
  have h3 := hb.ml
  have h4 := ha.ml
  have hx : M ^^^ M' < 2 ^ 62 := Nat.xor_lt_two_pow (by omega) (by omega)
  have hy : (M ^^^ M') &&& K < 2 ^ 62 := Nat.and_lt_two_pow _ (by omega)
  rw [Bool.eq_iff_iff, meets_iff ha hb]
  simp only [refMeetsP, Bool.and_eq_true, beq_iff_eq, ha.k, ha.m, hb.k, hb.m]
  rw [xor_nat (by omega) (by omega), and_nat (by omega) (by omega), and_nat (by omega) (by omega)]
  refine and_congr Iff.rfl ?_
  have hz : ((((M ^^^ M') &&& K) &&& K' : Nat) : Int) = 0 ↔ (((M ^^^ M') &&& K) &&& K') = 0 := by omega
  rw [hz]
  constructor
  · intro h
    refine nat_ext fun i => ?_
    have e1 := bit_of h i
    have e2 := bit_of ha.sub i
    have e3 := bit_of hb.sub i
    simp only [Nat.testBit_and, Nat.testBit_xor, Nat.zero_testBit] at e1 e2 e3 ⊢
    revert e1 e2 e3
    cases M.testBit i <;> cases M'.testBit i <;> cases K.testBit i <;> cases K'.testBit i <;> simp
  · intro h
    refine bits_nil fun i => ?_
    have e1 := bit_of h i
    have e2 := bit_of ha.sub i
    have e3 := bit_of hb.sub i
    simp only [Nat.testBit_and, Nat.testBit_xor] at e1 e2 e3 ⊢
    revert e1 e2 e3
    cases M.testBit i <;> cases M'.testBit i <;> cases K.testBit i <;> cases K'.testBit i <;> simp

theorem right_eq {f : FL} (hm : -9223372036854775808 ≤ f.m ∧ f.m < 9223372036854775808) : rightP f = refRightP f := by
  obtain ⟨x, k, m⟩ := f
  have hall := allN_most x
  have hl := allN_lt x
  rw [Bool.eq_iff_iff]
  simp only [rightP, refRightP, Bool.and_eq_true, decide_eq_true_eq, beq_iff_eq]
  dsimp only at hm
  have hN : bits .andNot .i64 m k = IntKind.i64.wrap ((BitVec.ofInt 64 m &&& ~~~BitVec.ofInt 64 k).toNat : Int) := rfl
  have hA : bits .and .i64 m k = IntKind.i64.wrap ((BitVec.ofInt 64 m &&& BitVec.ofInt 64 k).toNat : Int) := rfl
  have hmt : (BitVec.ofInt 64 m).toNat = (m % 18446744073709551616).toNat := by simp [BitVec.toNat_ofInt]
  constructor
  · rintro ⟨⟨h1, h2⟩, h3⟩
    obtain ⟨K, rfl⟩ := Int.eq_ofNat_of_zero_le h1
    have hz : BitVec.ofInt 64 m &&& ~~~BitVec.ofInt 64 (K : Int) = 0#64 := by
      apply BitVec.eq_of_toNat_eq
      have hlt := (BitVec.ofInt 64 m &&& ~~~BitVec.ofInt 64 (K : Int)).isLt
      rw [hN, IntKind.wrap_i64] at h3
      simp only [BitVec.toNat_ofNat, Nat.zero_mod]
      omega
    have he : BitVec.ofInt 64 m &&& BitVec.ofInt 64 (K : Int) = BitVec.ofInt 64 m := by
      apply BitVec.eq_of_getLsbD_eq
      intro i hi
      have := congrArg (fun v : BitVec 64 => v.getLsbD i) hz
      simp only [BitVec.getLsbD_and, BitVec.getLsbD_not, BitVec.getLsbD_zero, hi, decide_true, Bool.true_and] at this ⊢
      revert this
      cases (BitVec.ofInt 64 m).getLsbD i <;> cases (BitVec.ofInt 64 (K : Int)).getLsbD i <;> simp
    have hle : (BitVec.ofInt 64 m).toNat ≤ K := by
      rw [← he, BitVec.toNat_and, ofInt64_NFm K (by omega)]
      exact Nat.and_le_right
    rw [hmt] at hle
    have hm0 : 0 ≤ m ∧ m ≤ K := by omega
    refine ⟨⟨h1, h2, hm0.1, by omega⟩, ?_⟩
    rw [hA, he, hmt, wraps_i64 _ (by omega) (by omega)]
    omega
  · rintro ⟨⟨h1, h2, h3, h4⟩, h5⟩
    obtain ⟨K, rfl⟩ := Int.eq_ofNat_of_zero_le h1
    obtain ⟨M, rfl⟩ := Int.eq_ofNat_of_zero_le h3
    rw [and_nat (by omega) (by omega)] at h5
    have h6 : M &&& K = M := by exact_mod_cast h5
    refine ⟨⟨h1, h2⟩, ?_⟩
    have hz : BitVec.ofInt 64 (M : Int) &&& ~~~BitVec.ofInt 64 (K : Int) = 0#64 := by
      apply BitVec.eq_of_getLsbD_eq
      intro i hi
      have := bit_of h6 i
      simp only [BitVec.ofInt_natCast, BitVec.getLsbD_and, BitVec.getLsbD_not, BitVec.getLsbD_zero, BitVec.getLsbD_ofNat, hi, decide_true, Bool.true_and, Nat.testBit_and] at this ⊢
      revert this
      cases M.testBit i <;> cases K.testBit i <;> simp
    rw [hN, hz]
    rfl

end Go.Proofs.Ytlbgilbigcnleaa
