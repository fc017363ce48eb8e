/-
  Registers that consume bits: linear, one to one, and none forgets a burst: no Go.
-/
import Derived.Test.YtlggjljgeflboaaBase
namespace Go.Proofs.Ytlggjljgeflboaa
open Go.RowKit

/-- A register whose highest bit leaves it. -/
def stepL {w : Nat} (p s : BitVec w) (b : Bool) : BitVec w := (s <<< 1) ^^^ (if (b ^^ s.msb) = true then p else 0#w)
/-- A register whose lowest bit leaves it. -/
def stepR {w : Nat} (p s : BitVec w) (b : Bool) : BitVec w := (s >>> 1) ^^^ (if (b ^^ s.getLsbD 0) = true then p else 0#w)

structure IsReg (w : Nat) (f : BitVec w → Bool → BitVec w) : Prop where
  lin : ∀ s t b c, f (s ^^^ t) (b ^^ c) = f s b ^^^ f t c
  inj : ∀ s, f s false = 0#w → s = 0#w
  burst : ∀ e : List Bool, e.length ≤ w → e.foldl f 0#w = 0#w → ∀ b ∈ e, b = false

theorem lin_core {w : Nat} (A B p : BitVec w) (x y : Bool) : A ^^^ B ^^^ (if (x ^^ y) = true then p else 0#w) = (A ^^^ (if x = true then p else 0#w)) ^^^ (B ^^^ (if y = true then p else 0#w)) := by
  apply BitVec.eq_of_getLsbD_eq
  intro i hi
  cases x <;> cases y <;> simp <;> cases A.getLsbD i <;> cases B.getLsbD i <;> cases p.getLsbD i <;> rfl
theorem xor4 (b c m n : Bool) : ((b ^^ c) ^^ (m ^^ n)) = ((b ^^ m) ^^ (c ^^ n)) := by cases b <;> cases c <;> cases m <;> cases n <;> rfl
theorem stepL_lin {w : Nat} (p s t : BitVec w) (b c : Bool) : stepL p (s ^^^ t) (b ^^ c) = stepL p s b ^^^ stepL p t c := by
  unfold stepL
  rw [BitVec.shiftLeft_xor_distrib, BitVec.msb_xor, xor4, lin_core]
theorem stepR_lin {w : Nat} (p s t : BitVec w) (b c : Bool) : stepR p (s ^^^ t) (b ^^ c) = stepR p s b ^^^ stepR p t c := by
  unfold stepR
  rw [BitVec.ushiftRight_xor_distrib, BitVec.getLsbD_xor, xor4, lin_core]

/-- What a step leaves behind of a bit that was set. -/
theorem stepL_bit {w : Nat} (p s : BitVec w) (hp : p.getLsbD 0 = true) (b : Bool) (i : Nat) (hi : i + 1 < w) (hs : s.getLsbD i = true) : (stepL p s b).getLsbD 0 = true ∨ (stepL p s b).getLsbD (i + 1) = true := by
  unfold stepL
  by_cases h : (b ^^ s.msb) = true
  · left
    simp [h, hp]
  · right
    simp [h, hs]
    omega
theorem stepR_bit {w : Nat} (p s : BitVec w) (hp : p.getLsbD (w - 1) = true) (b : Bool) (i : Nat) (hs : s.getLsbD (i + 1) = true) : (stepR p s b).getLsbD (w - 1) = true ∨ (stepR p s b).getLsbD i = true := by
  unfold stepR
  by_cases h : (b ^^ s.getLsbD 0) = true
  · left
    have : s.getLsbD (1 + (w - 1)) = false := BitVec.getLsbD_of_ge _ _ (by omega)
    simp [h, hp, this]
  · right
    simp [h, Nat.add_comm 1 i, hs]

theorem bit_ne {w : Nat} {s : BitVec w} {i : Nat} (h : s.getLsbD i = true) : s ≠ 0#w := by
  rintro rfl
  simp at h

theorem runL_bit {w : Nat} (p : BitVec w) (hp : p.getLsbD 0 = true) : ∀ (e : List Bool) (s : BitVec w) (i : Nat), i + e.length < w → s.getLsbD i = true → e.foldl (stepL p) s ≠ 0#w
  | [], s, i, _, hs => bit_ne hs
  | b :: e, s, i, hi, hs => by
    simp only [List.length_cons] at hi
    simp only [List.foldl_cons]
    rcases stepL_bit p s hp b i (by omega) hs with h | h
    · exact runL_bit p hp e _ 0 (by omega) h
    · exact runL_bit p hp e _ (i + 1) (by omega) h
theorem runR_bit {w : Nat} (p : BitVec w) (hp : p.getLsbD (w - 1) = true) : ∀ (e : List Bool) (s : BitVec w) (i : Nat), e.length ≤ i → i < w → s.getLsbD i = true → e.foldl (stepR p) s ≠ 0#w
  | [], s, i, _, _, hs => bit_ne hs
  | b :: e, s, i, hi, hw, hs => by
    simp only [List.length_cons] at hi
    simp only [List.foldl_cons]
    obtain ⟨j, rfl⟩ : ∃ j, i = j + 1 := ⟨i - 1, by omega⟩
    rcases stepR_bit p s hp b j hs with h | h
    · exact runR_bit p hp e _ (w - 1) (by omega) (by omega) h
    · exact runR_bit p hp e _ j (by omega) (by omega) h

theorem stepL_zero {w : Nat} (p : BitVec w) : stepL p 0#w false = 0#w := by simp [stepL]
theorem stepL_one {w : Nat} (p : BitVec w) : stepL p 0#w true = p := by simp [stepL]
theorem stepR_zero {w : Nat} (p : BitVec w) : stepR p 0#w false = 0#w := by simp [stepR]
theorem stepR_one {w : Nat} (p : BitVec w) : stepR p 0#w true = p := by simp [stepR]

theorem stepL_reg {w : Nat} (p : BitVec w) (hp : p.getLsbD 0 = true) : IsReg w (stepL p) where
  lin := stepL_lin p
  inj s h := by
    apply BitVec.eq_of_getLsbD_eq
    intro i hi
    have key : ∀ j, j < w → (stepL p s false).getLsbD j = false := fun j _ => by rw [h]; simp
    have hm : s.msb = false := by
      cases hm : s.msb with
      | false => rfl
      | true =>
        have h0 := key 0 (by omega)
        simp [stepL, hm, hp] at h0
    by_cases hl : i + 1 < w
    · have h1 := key (i + 1) hl
      simp [stepL, hm, hl] at h1
      rw [BitVec.getLsbD_eq_getElem hi, h1]
      simp
    · have e : i = w - 1 := by omega
      rw [BitVec.msb_eq_getLsbD_last] at hm
      rw [e, hm]
      simp
  burst e he h := by
    induction e with
    | nil => simp
    | cons b e ih =>
      simp only [List.length_cons] at he
      cases b with
      | false =>
        simp only [List.foldl_cons, stepL_zero] at h
        intro b hb
        rcases List.mem_cons.1 hb with rfl | hb
        · rfl
        · exact ih (by omega) h b hb
      | true =>
        simp only [List.foldl_cons, stepL_one] at h
        exact absurd h (runL_bit p hp e p 0 (by omega) hp)

theorem stepR_reg {w : Nat} (p : BitVec w) (hp : p.getLsbD (w - 1) = true) : IsReg w (stepR p) where
  lin := stepR_lin p
  inj s h := by
    apply BitVec.eq_of_getLsbD_eq
    intro i hi
    have key : ∀ j, j < w → (stepR p s false).getLsbD j = false := fun j _ => by rw [h]; simp
    have hm : s.getLsbD 0 = false := by
      cases hm : s.getLsbD 0 with
      | false => rfl
      | true =>
        have h0 := key (w - 1) (by omega)
        have : s.getLsbD (1 + (w - 1)) = false := BitVec.getLsbD_of_ge _ _ (by omega)
        simp [stepR, hm, hp, this] at h0
    cases i with
    | zero => rw [hm]; simp
    | succ j =>
      have h1 := key j (by omega)
      simp [stepR, hm, Nat.add_comm 1 j] at h1
      simp [h1]
  burst e he h := by
    induction e with
    | nil => simp
    | cons b e ih =>
      simp only [List.length_cons] at he
      cases b with
      | false =>
        simp only [List.foldl_cons, stepR_zero] at h
        intro b hb
        rcases List.mem_cons.1 hb with rfl | hb
        · rfl
        · exact ih (by omega) h b hb
      | true =>
        simp only [List.foldl_cons, stepR_one] at h
        exact absurd h (runR_bit p hp e p (w - 1) (by omega) (by omega) hp)

section
variable {w : Nat} {f : BitVec w → Bool → BitVec w}
theorem IsReg.run_lin (hf : IsReg w f) : ∀ (a b : List Bool) (s t : BitVec w), a.length = b.length → (List.zipWith Bool.xor a b).foldl f (s ^^^ t) = a.foldl f s ^^^ b.foldl f t
  | [], [], _, _, _ => rfl
  | x :: a, y :: b, s, t, h => by
    simp only [List.length_cons, Nat.add_right_cancel_iff] at h
    simp only [List.zipWith_cons_cons, List.foldl_cons]
    have := hf.lin s t x y
    rw [this]
    exact hf.run_lin a b _ _ h
  | [], _ :: _, _, _, h => by simp at h
  | _ :: _, [], _, _, h => by simp at h
theorem IsReg.zero (hf : IsReg w f) : f 0#w false = 0#w := by
  have := hf.lin 0#w 0#w false false
  simpa using this
theorem xor_zero_iff (a b : BitVec w) : a ^^^ b = 0#w ↔ a = b := by
  constructor
  · intro h
    have : (a ^^^ b) ^^^ b = 0#w ^^^ b := by rw [h]
    rw [BitVec.xor_assoc, BitVec.xor_self] at this
    simpa using this
  · rintro rfl; exact BitVec.xor_self
theorem IsReg.step_inj (hf : IsReg w f) {s t : BitVec w} {b : Bool} (h : f s b = f t b) : s = t := by
  rw [← xor_zero_iff] at h ⊢
  apply hf.inj
  have := hf.lin s t b b
  rw [Bool.xor_self] at this
  rw [this, h]
theorem IsReg.run_inj (hf : IsReg w f) : ∀ (l : List Bool) {s t : BitVec w}, l.foldl f s = l.foldl f t → s = t
  | [], _, _, h => h
  | _ :: l, _, _, h => hf.step_inj (hf.run_inj l h)
theorem zip_false : ∀ (a b : List Bool), a.length = b.length → (∀ x ∈ List.zipWith Bool.xor a b, x = false) → a = b
  | [], [], _, _ => rfl
  | x :: a, y :: b, h, k => by
    simp only [List.length_cons, Nat.add_right_cancel_iff] at h
    simp only [List.zipWith_cons_cons, List.mem_cons] at k
    have h1 := k _ (.inl rfl)
    have h2 := zip_false a b h fun z hz => k z (.inr hz)
    rw [h2]
    congr 1
    cases x <;> cases y <;> simp_all
  | [], _ :: _, h, _ => by simp at h
  | _ :: _, [], h, _ => by simp at h
/-- Rows that differ within as many bits as the register has are told apart. -/
theorem IsReg.apart (hf : IsReg w f) (pre a b post : List Bool) (s : BitVec w) (hl : a.length = b.length) (hw : a.length ≤ w) (hne : a ≠ b) : (pre ++ (a ++ post)).foldl f s ≠ (pre ++ (b ++ post)).foldl f s := by
  intro h
  simp only [List.foldl_append] at h
  have h1 := hf.run_inj post h
  rw [← xor_zero_iff, ← hf.run_lin a b _ _ hl, BitVec.xor_self] at h1
  exact hne (zip_false a b hl (hf.burst _ (by simp [hl]; omega) h1))
theorem IsReg.zeros (hf : IsReg w f) : ∀ n, (List.replicate n false).foldl f 0#w = 0#w
  | 0 => rfl
  | n + 1 => by rw [List.replicate_succ, List.foldl_cons, hf.zero]; exact hf.zeros n
/-- Of three rows of as many bits. -/
theorem IsReg.three (hf : IsReg w f) (a b c : List Bool) (s : BitVec w) (h1 : a.length = b.length) (h2 : a.length = c.length) :
    (List.zipWith Bool.xor (List.zipWith Bool.xor a b) c).foldl f s = a.foldl f s ^^^ b.foldl f s ^^^ c.foldl f s := by
  have e : s = (s ^^^ s) ^^^ s := by rw [BitVec.xor_self]; simp
  have h := hf.run_lin (List.zipWith Bool.xor a b) c (s ^^^ s) s (by simp [h1]; omega)
  rw [← e, hf.run_lin a b s s h1] at h
  exact h
end

/-- A register's own bits, the highest first, empty it. -/
theorem stepL_own {w : Nat} (p s : BitVec w) : stepL p s s.msb = s <<< 1 := by unfold stepL; simp
theorem stepR_own {w : Nat} (p s : BitVec w) : stepR p s (s.getLsbD 0) = s >>> 1 := by unfold stepR; simp
/-- The bits of a number, the highest of many first; the lowest first. -/
def hiBits (many n : Nat) : List Bool := (List.range many).map fun j => n.testBit (many - 1 - j)
def loBits (many n : Nat) : List Bool := (List.range many).map fun j => n.testBit j

theorem range_succ_map {α : Type} (g : Nat → α) (n : Nat) : (List.range (n + 1)).map g = (List.range n).map g ++ [g n] := by simp [List.range_succ]

/-- To combine a number with a register at once, and then to shift, is to consume its bits. -/
theorem runL_at_once {w : Nat} (p s b : BitVec w) : ∀ k, k ≤ w → ((List.range k).map fun j => b.getLsbD (w - 1 - j)).foldl (stepL p) s = (List.replicate k false).foldl (stepL p) (s ^^^ b) ^^^ (b <<< k)
  | 0, _ => by simp [BitVec.xor_assoc]
  | k + 1, h => by
    rw [range_succ_map, List.foldl_append, runL_at_once p s b k (by omega), List.replicate_succ', List.foldl_append]
    simp only [List.foldl_cons, List.foldl_nil]
    have hm : b.getLsbD (w - 1 - k) = (b <<< k).msb := by
      rw [BitVec.msb_eq_getLsbD_last, BitVec.getLsbD_shiftLeft]
      have h1 : w - 1 < w := by omega
      have h2 : ¬ w - 1 < k := by omega
      simp [h1, h2]
    rw [hm]
    have := stepL_lin p ((List.replicate k false).foldl (stepL p) (s ^^^ b)) (b <<< k) false (b <<< k).msb
    rw [Bool.false_xor] at this
    rw [this, stepL_own, BitVec.shiftLeft_add]
theorem runR_at_once {w : Nat} (p s b : BitVec w) : ∀ k, ((List.range k).map fun j => b.getLsbD j).foldl (stepR p) s = (List.replicate k false).foldl (stepR p) (s ^^^ b) ^^^ (b >>> k)
  | 0 => by simp [BitVec.xor_assoc]
  | k + 1 => by
    rw [range_succ_map, List.foldl_append, runR_at_once p s b k, List.replicate_succ', List.foldl_append]
    simp only [List.foldl_cons, List.foldl_nil]
    have hm : b.getLsbD k = (b >>> k).getLsbD 0 := by simp
    rw [hm]
    have := stepR_lin p ((List.replicate k false).foldl (stepR p) (s ^^^ b)) (b >>> k) false ((b >>> k).getLsbD 0)
    rw [Bool.false_xor] at this
    rw [this, stepR_own, BitVec.shiftRight_add]
/-- A row with its own sum behind has the sum 0. -/
theorem runL_empty {w : Nat} (p s : BitVec w) : (hiBits w s.toNat).foldl (stepL p) s = 0#w := by
  have h := runL_at_once p s s w (Nat.le_refl _)
  have e : hiBits w s.toNat = (List.range w).map fun j => s.getLsbD (w - 1 - j) := rfl
  rw [e, h, BitVec.xor_self]
  have hz : ∀ n, (List.replicate n false).foldl (stepL p) 0#w = 0#w := by
    intro n
    induction n with
    | zero => rfl
    | succ n ih => rw [List.replicate_succ, List.foldl_cons, stepL_zero]; exact ih
  rw [hz]
  apply BitVec.eq_of_getLsbD_eq
  intro i hi
  simp [hi]

end Go.Proofs.Ytlggjljgeflboaa
