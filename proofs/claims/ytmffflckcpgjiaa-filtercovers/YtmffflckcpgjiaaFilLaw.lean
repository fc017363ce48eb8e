/-
  What the statements ask of filters that are right.
-/
import Derived.Test.YtmffflckcpgjiaaFilMath
namespace Go.Proofs.Ytmffflckcpgjiaa
open Go.RowKit
set_option linter.unusedVariables false
set_option linter.unusedSimpArgs false

theorem bfalse {a : Bool} {p : Prop} (h : a = true ↔ p) (hn : ¬ p) : a = false := by
  cases a
  · rfl
  · exact absurd (h.1 rfl) hn

/-- What covers takes what is taken. -/
theorem n_mono {i mk mm fk fm : Nat} (h1 : i &&& mk = mm) (h2 : mk &&& fk = fk) (h3 : mm &&& fk = fm) : i &&& fk = fm := by
  rw [← h3, ← h1, Nat.and_assoc, h2]
theorem covers_takes {a b : FL} {K M K' M' : Nat} (ha : OkL a K M) (hb : OkL b K' M') (hc : coversV a b = true) {x : Bool} {i : Nat} (hi : i < 4611686018427387904) (ht : takesV b x i = true) : takesV a x i = true := by
  obtain ⟨c1, c2, c3⟩ := (covers_iff ha hb).1 hc
  obtain ⟨t1, t2⟩ := (takes_iff hb hi).1 ht
  exact (takes_iff ha hi).2 ⟨t1.trans c1, n_mono t2 c2 c3⟩

/-- FilterCovers. -/
theorem free_nat {x : Bool} {K : Nat} (hK : K &&& allN x = K) (hk : K < 536870912) : bits .andNot .i64 ((allN x : Nat) : Int) (K : Int) = ((allN x ^^^ K : Nat) : Int) := by
  have hl := allN_lt x
  have hx : allN x ^^^ K < 2 ^ 62 := Nat.xor_lt_two_pow (by omega) (by omega)
  show IntKind.i64.wrap ((BitVec.ofInt 64 ((allN x : Nat) : Int) &&& ~~~BitVec.ofInt 64 (K : Int)).toNat : Int) = _
  have he : BitVec.ofInt 64 ((allN x : Nat) : Int) &&& ~~~BitVec.ofInt 64 (K : Int) = BitVec.ofInt 64 ((allN x : Nat) : Int) ^^^ BitVec.ofInt 64 (K : Int) := by
    apply BitVec.eq_of_getLsbD_eq
    intro i hi
    have := bit_of hK i
    simp only [BitVec.ofInt_natCast, BitVec.getLsbD_and, BitVec.getLsbD_xor, BitVec.getLsbD_not, BitVec.getLsbD_ofNat, hi, decide_true, Bool.true_and, Nat.testBit_and] at this ⊢
    revert this
    cases (allN x).testBit i <;> cases K.testBit i <;> simp
  rw [he, BitVec.toNat_xor, ofInt64 _ (by omega), ofInt64 K (by omega), wraps_i64 _ (by omega) (by omega)]
theorem free_lt {x : Bool} {K : Nat} (hk : K < 536870912) : allN x ^^^ K < 536870912 :=
  Nat.xor_lt_two_pow (n := 29) (by have := allN_lt x; omega) (by omega)
theorem takes_free {b : FL} {K M : Nat} (hb : OkL b K M) (N : Nat) : (M ||| (N &&& (allN b.x ^^^ K))) &&& K = M := by
  refine nat_ext fun i => ?_
  have e1 := bit_of hb.sub i
  have e2 := bit_of hb.all i
  simp only [Nat.testBit_and, Nat.testBit_xor, Nat.testBit_or] at e1 e2 ⊢
  revert e1 e2
  cases M.testBit i <;> cases N.testBit i <;> cases K.testBit i <;> cases (allN b.x).testBit i <;> simp
theorem covers_miss {a b : FL} {K M K' M' : Nat} (ha : OkL a K M) (hb : OkL b K' M') (hc : coversV a b = false) (h1 : takesV a b.x (M' : Int) = true) :
    takesV a b.x (((M' ||| (allN b.x ^^^ K') : Nat) : Nat) : Int) = false := by
  have l1 := hb.ml
  have l2 := hb.kl
  have l3 : M' ||| (allN b.x ^^^ K') < 2 ^ 29 := Nat.or_lt_two_pow (by omega) (free_lt l2)
  refine bfalse (takes_iff ha (by omega)) ?_
  rintro ⟨t1, t2⟩
  obtain ⟨_, t3⟩ := (takes_iff ha (by omega)).1 h1
  have : coversV a b = true := by
    refine (covers_iff ha hb).2 ⟨t1, ?_, t3⟩
    have hall := ha.all
    rw [← t1] at hall
    refine nat_ext fun i => ?_
    have e1 := bit_of t2 i
    have e2 := bit_of t3 i
    have e3 := bit_of hall i
    have e4 := bit_of hb.sub i
    simp only [Nat.testBit_and, Nat.testBit_xor, Nat.testBit_or] at e1 e2 e3 e4 ⊢
    revert e1 e2 e3 e4
    cases M.testBit i <;> cases K.testBit i <;> cases M'.testBit i <;> cases K'.testBit i <;> cases (allN b.x).testBit i <;> simp
  rw [hc] at this
  cases this

/-- FilterMeets. -/
theorem meets_comm (a b : FL) : meetsV a b = meetsV b a := by
  unfold meetsV
  exact decide_eq_decide.2 ⟨Eq.symm, Eq.symm⟩
theorem meets_both {a b : FL} {K M K' M' : Nat} (ha : OkL a K M) (hb : OkL b K' M') (hm : meetsV a b = true) : takesV a a.x (((M ||| M' : Nat) : Nat) : Int) = true ∧ takesV b a.x (((M ||| M' : Nat) : Nat) : Int) = true := by
  have l1 := ha.ml
  have l2 := hb.ml
  have l3 : M ||| M' < 2 ^ 29 := Nat.or_lt_two_pow (by omega) (by omega)
  obtain ⟨m1, m2⟩ := (meets_iff ha hb).1 hm
  refine ⟨(takes_iff ha (by omega)).2 ⟨rfl, ?_⟩, (takes_iff hb (by omega)).2 ⟨m1, ?_⟩⟩
  all_goals
    refine nat_ext fun i => ?_
    have e1 := bit_of m2 i
    have e2 := bit_of ha.sub i
    have e3 := bit_of hb.sub i
    simp only [Nat.testBit_and, Nat.testBit_or] at e1 e2 e3 ⊢
    revert e1 e2 e3
    cases M.testBit i <;> cases K.testBit i <;> cases M'.testBit i <;> cases K'.testBit i <;> simp
theorem meets_none {a b : FL} {K M K' M' : Nat} (ha : OkL a K M) (hb : OkL b K' M') (hm : meetsV a b = false) {x : Bool} {i : Nat} (hi : i < 4611686018427387904) (ht : takesV a x i = true) : takesV b x i = false := by
  refine bfalse (takes_iff hb hi) ?_
  rintro ⟨t1, t2⟩
  obtain ⟨t3, t4⟩ := (takes_iff ha hi).1 ht
  have : meetsV a b = true := (meets_iff ha hb).2 ⟨t3.symm.trans t1, by rw [← t2, ← t4, Nat.and_assoc, Nat.and_assoc, Nat.and_comm K K']⟩
  rw [hm] at this
  cases this

/-- FilterOrder. -/
theorem covers_self {a : FL} {K M : Nat} (ha : OkL a K M) : coversV a a = true := (covers_iff ha ha).2 ⟨rfl, Nat.and_self _, ha.sub⟩
theorem covers_trans {a b c : FL} {K M K' M' K2 M2 : Nat} (ha : OkL a K M) (hb : OkL b K' M') (hc : OkL c K2 M2) (h1 : coversV a b = true) (h2 : coversV b c = true) : coversV a c = true := by
  obtain ⟨a1, a2, a3⟩ := (covers_iff ha hb).1 h1
  obtain ⟨b1, b2, b3⟩ := (covers_iff hb hc).1 h2
  exact (covers_iff ha hc).2 ⟨b1.trans a1, n_mono b2 a2 a2, n_mono b3 a2 a3⟩
theorem covers_meets {a b : FL} {K M K' M' : Nat} (ha : OkL a K M) (hb : OkL b K' M') (h1 : coversV a b = true) : meetsV a b = true := by
  obtain ⟨a1, a2, a3⟩ := (covers_iff ha hb).1 h1
  refine (meets_iff ha hb).2 ⟨a1.symm, ?_⟩
  rw [a3, ← a3, Nat.and_assoc, Nat.and_comm K K', ← Nat.and_assoc, hb.sub]
theorem covers_back {a b : FL} {K M K' M' : Nat} (ha : OkL a K M) (hb : OkL b K' M') (h1 : coversV a b = true) : coversV b a = sameL a b := by
  obtain ⟨a1, a2, a3⟩ := (covers_iff ha hb).1 h1
  rw [Bool.eq_iff_iff, covers_iff hb ha]
  unfold sameL
  rw [decide_eq_true_eq, fl_ext, ha.k, ha.m, hb.k, hb.m]
  constructor
  · rintro ⟨b1, b2, b3⟩
    have e : K = K' := by rw [← a2, Nat.and_comm, b2]
    refine ⟨b1, by rw [e], ?_⟩
    rw [e, hb.sub] at a3
    rw [a3]
  · rintro ⟨b1, b2, b3⟩
    have e1 : K = K' := by exact_mod_cast b2
    have e2 : M = M' := by exact_mod_cast b3
    subst e1 e2
    exact ⟨b1, Nat.and_self _, ha.sub⟩

theorem frRight_id {g : FV} (h : frRightP g = true) : ∃ I : Nat, g.i = I ∧ (I : Int) < mostL g.x ∧ I < 536870912 := by
  simp only [frRightP, decide_eq_true_eq] at h
  obtain ⟨I, hI⟩ := Int.eq_ofNat_of_zero_le h.1
  have h2 := h.2.1
  rw [hI] at h2
  have := allN_most g.x
  have := allN_lt g.x
  exact ⟨I, hI, h2, by omega⟩
/-- FilterData. -/
theorem takes_none {x : Bool} {i : Nat} (hi : i < 4611686018427387904) : takesV ⟨x, 0, 0⟩ x i = true ∧ takesV ⟨!x, 0, 0⟩ x i = false := by
  have h0 : bits .and .i64 (i : Int) 0 = 0 := by
    have := and_nat (b := 0) hi (by omega)
    simpa using this
  constructor
  · simp [takesV, h0]
  · cases x <;> rfl
theorem takes_whole {x y : Bool} {i j : Nat} (hj : (j : Int) < mostL y) : takesV ⟨x, ((allN x : Nat) : Int), (i : Int)⟩ y j = ((y == x) && ((j : Int) == (i : Int))) := by
  unfold takesV
  dsimp only
  by_cases h : y = x
  · subst h
    have hl := allN_lt y
    have hm := allN_most y
    rw [and_nat (by omega) (by omega), and_all hj]
  · rw [beq_eq_false_iff_ne.2 h]
    rfl

theorem pow_all (x : Bool) {p : Nat} (h : p < if x then 29 else 11) : 2 ^ p &&& allN x = 2 ^ p ∧ 2 ^ p < 536870912 := by
  have hp : ((2 ^ p : Nat) : Int) < mostL x := by
    cases x
    · have : 2 ^ p < 2 ^ 11 := Nat.pow_lt_pow_right (by omega) (by simpa using h)
      simp only [mostL, Bool.false_eq_true, if_false]
      omega
    · have : 2 ^ p < 2 ^ 29 := Nat.pow_lt_pow_right (by omega) (by simpa using h)
      simp only [mostL, if_true]
      omega
  have := allN_most x
  have := allN_lt x
  exact ⟨and_all hp, by omega⟩
theorem wrap_pow29 {p : Nat} (h : 2 ^ p < 536870912) : wrap64 (2 ^ p) = ((2 ^ p : Nat) : Int) := by
  have e : ((2 : Int) ^ p) = ((2 ^ p : Nat) : Int) := by simp
  have h3 : 0 < (2 : Nat) ^ p := Nat.pow_pos (by omega)
  rw [e]
  simp only [wrap64]
  omega

section
variable {x : Bool} {K M b : Nat}
theorem split_zero {f : FL} (hf : OkL f K M) (hb : b &&& allN f.x = b) (hz : K &&& b = 0) : OkL ⟨f.x, ((K ||| b : Nat) : Int), (M : Int)⟩ (K ||| b) M := by
  have hl := allN_lt f.x
  have hbl : b < 2 ^ 29 := by rw [← hb]; exact Nat.and_lt_two_pow _ (by omega)
  have hkl := hf.kl
  refine ⟨rfl, rfl, ?_, ?_, Nat.or_lt_two_pow (n := 29) (by omega) hbl, hf.ml⟩
  · dsimp only
    rw [Nat.and_or_distrib_right, hf.all, hb]
  · rw [Nat.and_or_distrib_left, hf.sub]
    refine nat_ext fun i => ?_
    have e1 := bit_of hf.sub i
    simp only [Nat.testBit_and, Nat.testBit_or] at e1 ⊢
    revert e1
    cases M.testBit i <;> cases K.testBit i <;> cases b.testBit i <;> simp
theorem split_one {f : FL} (hf : OkL f K M) (hb : b &&& allN f.x = b) (hz : K &&& b = 0) : OkL ⟨f.x, ((K ||| b : Nat) : Int), ((M ||| b : Nat) : Int)⟩ (K ||| b) (M ||| b) := by
  have hl := allN_lt f.x
  have hbl : b < 2 ^ 29 := by rw [← hb]; exact Nat.and_lt_two_pow _ (by omega)
  have hkl := hf.kl
  have hml := hf.ml
  refine ⟨rfl, rfl, ?_, ?_, Nat.or_lt_two_pow (n := 29) (by omega) hbl, Nat.or_lt_two_pow (n := 29) (by omega) hbl⟩
  · dsimp only
    rw [Nat.and_or_distrib_right, hf.all, hb]
  · refine nat_ext fun i => ?_
    have e1 := bit_of hf.sub i
    simp only [Nat.testBit_and, Nat.testBit_or] at e1 ⊢
    revert e1
    cases M.testBit i <;> cases K.testBit i <;> cases b.testBit i <;> simp
theorem split_takes {i p : Nat} (hz : K &&& 2 ^ p = 0) (hs : M &&& K = M) : i &&& K = M ↔ (i &&& (K ||| 2 ^ p) = M ∨ i &&& (K ||| 2 ^ p) = M ||| 2 ^ p) := by
  constructor
  · intro h
    cases hip : i.testBit p
    · left
      refine nat_ext fun j => ?_
      have e1 := bit_of h j
      simp only [Nat.testBit_and, Nat.testBit_or, Nat.testBit_two_pow] at e1 ⊢
      by_cases hj : p = j
      · subst hj
        rw [hip] at e1 ⊢
        simpa using e1
      · simpa [hj] using e1
    · right
      refine nat_ext fun j => ?_
      have e1 := bit_of h j
      simp only [Nat.testBit_and, Nat.testBit_or, Nat.testBit_two_pow] at e1 ⊢
      by_cases hj : p = j
      · subst hj
        rw [hip]
        simp
      · simpa [hj] using e1
  · intro h
    have key : ∀ N : Nat, i &&& (K ||| 2 ^ p) = N → i &&& K = N &&& K := by
      intro N hN
      rw [← hN, Nat.and_assoc, Nat.and_or_distrib_right, Nat.and_self]
      congr 1
      refine nat_ext fun j => ?_
      simp only [Nat.testBit_and, Nat.testBit_or]
      cases K.testBit j <;> simp
    rcases h with h | h
    · rw [key _ h, hs]
    · rw [key _ h, Nat.and_or_distrib_right, hs, Nat.and_comm (2 ^ p) K, hz, Nat.or_zero]
theorem split_all {f : FL} {K M p : Nat} (hf : OkL f K M) (hb : 2 ^ p &&& allN f.x = 2 ^ p) (hz : K &&& 2 ^ p = 0) (x : Bool) {i : Nat} (hi : i < 4611686018427387904) :
    takesV f x i = (takesV ⟨f.x, ((K ||| 2 ^ p : Nat) : Int), (M : Int)⟩ x i || takesV ⟨f.x, ((K ||| 2 ^ p : Nat) : Int), ((M ||| 2 ^ p : Nat) : Int)⟩ x i) ∧
    coversV f ⟨f.x, ((K ||| 2 ^ p : Nat) : Int), (M : Int)⟩ = true ∧ coversV f ⟨f.x, ((K ||| 2 ^ p : Nat) : Int), ((M ||| 2 ^ p : Nat) : Int)⟩ = true ∧
    meetsV ⟨f.x, ((K ||| 2 ^ p : Nat) : Int), (M : Int)⟩ ⟨f.x, ((K ||| 2 ^ p : Nat) : Int), ((M ||| 2 ^ p : Nat) : Int)⟩ = false ∧
    coversV ⟨f.x, ((K ||| 2 ^ p : Nat) : Int), (M : Int)⟩ f = false := by
  have h0 := split_zero hf hb hz
  have h1 := split_one hf hb hz
  have hkp : K.testBit p = false := by
    have := bit_of hz p
    simpa using this
  have hmp : M.testBit p = false := by
    have := bit_of hf.sub p
    simp only [Nat.testBit_and, hkp, Bool.and_false] at this
    exact this.symm
  refine ⟨?_, (covers_iff hf h0).2 ⟨rfl, ?_, hf.sub⟩, (covers_iff hf h1).2 ⟨rfl, ?_, ?_⟩, ?_, ?_⟩
  · rw [Bool.eq_iff_iff, Bool.or_eq_true, takes_iff hf hi, takes_iff h0 hi, takes_iff h1 hi, split_takes hz hf.sub]
    dsimp only
    constructor
    · rintro ⟨e1, e2 | e2⟩
      · exact .inl ⟨e1, e2⟩
      · exact .inr ⟨e1, e2⟩
    · rintro (⟨e1, e2⟩ | ⟨e1, e2⟩)
      · exact ⟨e1, .inl e2⟩
      · exact ⟨e1, .inr e2⟩
  · rw [Nat.and_or_distrib_right, Nat.and_self, Nat.and_comm, hz, Nat.or_zero]
  · rw [Nat.and_or_distrib_right, Nat.and_self, Nat.and_comm, hz, Nat.or_zero]
  · rw [Nat.and_or_distrib_right, hf.sub, Nat.and_comm, hz, Nat.or_zero]
  · refine bfalse (meets_iff h0 h1) ?_
    rintro ⟨_, e⟩
    have := bit_of e p
    simp [hkp, hmp] at this
  · refine bfalse (covers_iff h0 hf) ?_
    rintro ⟨_, e, _⟩
    have := bit_of e p
    simp [hkp] at this
end

end Go.Proofs.Ytmffflckcpgjiaa
