/-
  What the three sums tell apart; zeros ahead; a sum behind its own row: no Go.
-/
import Derived.Test.YtajabpjphobabaaTAu
namespace Go.Proofs.Ytajabpjphobabaa
open Go.RowKit

theorem reg15 : IsReg 15 (stepL 0x4599#15) := stepL_reg _ rfl
theorem reg8 : IsReg 8 (stepL 0x1D#8) := stepL_reg _ rfl
theorem reg32 : IsReg 32 (stepR 0xEDB88320#32) := stepR_reg _ rfl

theorem xor_cancel {a b c : Nat} (h : a ^^^ c = b ^^^ c) : a = b := by
  have : (a ^^^ c) ^^^ c = (b ^^^ c) ^^^ c := by rw [h]
  rwa [Nat.xor_assoc, Nat.xor_assoc, Nat.xor_self, Nat.xor_zero, Nat.xor_zero] at this
theorem hiBits_len (m n : Nat) : (hiBits m n).length = m := by simp [hiBits]
theorem loBits_len (m n : Nat) : (loBits m n).length = m := by simp [loBits]
theorem loBits_inj {x y : Nat} (hx : x < 256) (hy : y < 256) (h : loBits 8 x = loBits 8 y) : x = y := by
  apply Nat.eq_of_testBit_eq
  intro i
  by_cases hi : i < 8
  · have := congrArg (·[i]?) h
    simpa [loBits, hi] using this
  · rw [Nat.testBit_lt_two_pow (Nat.lt_of_lt_of_le hx (Nat.pow_le_pow_right (n := 2) (by omega) (by omega : 8 ≤ i))), Nat.testBit_lt_two_pow (Nat.lt_of_lt_of_le hy (Nat.pow_le_pow_right (n := 2) (by omega) (by omega : 8 ≤ i)))]
theorem hiBits_inj {x y : Nat} (hx : x < 256) (hy : y < 256) (h : hiBits 8 x = hiBits 8 y) : x = y := by
  apply loBits_inj hx hy
  unfold loBits
  apply List.map_congr_left
  intro j hj
  have hj' := List.mem_range.1 hj
  have := congrArg (·[7 - j]?) h
  have h7 : 7 - j < 8 := by omega
  simp [hiBits, h7] at this
  rwa [show 7 - (7 - j) = j by omega] at this
theorem hiAll_append (a b : List Int) : hiAll (a ++ b) = hiAll a ++ hiAll b := by simp [hiAll]
theorem loAll_append (a b : List Int) : loAll (a ++ b) = loAll a ++ loAll b := by simp [loAll]
theorem loAll_cons (x : Int) (a : List Int) : loAll (x :: a) = loBits 8 x.toNat ++ loAll a := by simp [loAll]
theorem hiAll_cons (x : Int) (a : List Int) : hiAll (x :: a) = hiBits 8 x.toNat ++ hiAll a := by simp [hiAll]
theorem loAll_len (a : List Int) : (loAll a).length = 8 * a.length := by
  induction a with
  | nil => rfl
  | cons x a ih => rw [loAll_cons, List.length_append, ih, loBits_len, List.length_cons]; omega
theorem hiAll_len (a : List Int) : (hiAll a).length = 8 * a.length := by
  induction a with
  | nil => rfl
  | cons x a ih => rw [hiAll_cons, List.length_append, ih, hiBits_len, List.length_cons]; omega
theorem loAll_inj : ∀ (a b : List Int), a.length = b.length → byteB a → byteB b → loAll a = loAll b → a = b
  | [], [], _, _, _, _ => rfl
  | x :: a, y :: b, hl, ha, hb, h => by
    rw [loAll_cons, loAll_cons] at h
    obtain ⟨h1, h2⟩ := List.append_inj h (by rw [loBits_len, loBits_len])
    have hx := ha x (by simp)
    have hy := hb y (by simp)
    have e1 := loBits_inj (by omega) (by omega) h1
    have e2 := loAll_inj a b (by simpa using hl) (fun z hz => ha z (by simp [hz])) (fun z hz => hb z (by simp [hz])) h2
    rw [e2]
    congr 1
    omega
  | [], _ :: _, hl, _, _, _ => by simp at hl
  | _ :: _, [], hl, _, _, _ => by simp at hl
theorem crc8_apart (pre post : List Int) (x y : Int) (hx : 0 ≤ x ∧ x ≤ 255) (hy : 0 ≤ y ∧ y ≤ 255) (h : x ≠ y) : crc8 (pre ++ x :: post) ≠ crc8 (pre ++ y :: post) := by
  unfold crc8
  rw [hiAll_append, hiAll_append, hiAll_cons, hiAll_cons]
  refine reg8.apart _ _ _ _ _ (by rw [hiBits_len, hiBits_len]) (by rw [hiBits_len]; omega) fun e => ?_
  have := hiBits_inj (by omega) (by omega) e
  omega
theorem crc32_apart (s : BitVec 32) (pre post a b : List Int) (hl : a.length = b.length) (h4 : a.length ≤ 4) (ha : byteB a) (hb : byteB b) (h : a ≠ b) : crc32 s (pre ++ (a ++ post)) ≠ crc32 s (pre ++ (b ++ post)) := by
  unfold crc32
  rw [loAll_append, loAll_append, loAll_append, loAll_append]
  exact reg32.apart _ _ _ _ _ (by rw [loAll_len, loAll_len, hl]) (by rw [loAll_len]; omega) fun e => h (loAll_inj a b hl ha hb e)

theorem boolsOf_append (a b : List Int) : boolsOf (a ++ b) = boolsOf a ++ boolsOf b := by simp [boolsOf]
theorem boolsOf_inj : ∀ (a b : List Int), a.length = b.length → rightB a = true → rightB b = true → boolsOf a = boolsOf b → a = b
  | [], [], _, _, _, _ => rfl
  | x :: a, y :: b, hl, ha, hb, h => by
    simp only [rightB, List.all_cons, Bool.and_eq_true, decide_eq_true_eq] at ha hb
    simp only [boolsOf, List.map_cons, List.cons.injEq] at h
    have e2 := boolsOf_inj a b (by simpa using hl) ha.2 hb.2 h.2
    rw [e2]
    congr 1
    rcases ha.1 with rfl | rfl <;> rcases hb.1 with rfl | rfl <;> simp at h ⊢
  | [], _ :: _, hl, _, _, _ => by simp at hl
  | _ :: _, [], hl, _, _, _ => by simp at hl
theorem crc15_apart (pre post a b : List Int) (hl : a.length = b.length) (h15 : a.length ≤ 15) (ha : rightB a = true) (hb : rightB b = true) (h : a ≠ b) : crc15 (pre ++ (a ++ post)) ≠ crc15 (pre ++ (b ++ post)) := by
  unfold crc15
  rw [boolsOf_append, boolsOf_append, boolsOf_append, boolsOf_append]
  exact reg15.apart _ _ _ _ _ (by simp [boolsOf, hl]) (by simp [boolsOf]; omega) fun e => h (boolsOf_inj a b hl ha hb e)
theorem crc15_ahead (n : Nat) (l : List Int) : crc15 (List.replicate n 0 ++ l) = crc15 l := by
  unfold crc15
  rw [boolsOf_append, List.foldl_append]
  have e : boolsOf (List.replicate n 0) = List.replicate n false := by simp [boolsOf]
  rw [e, reg15.zeros]
theorem boolsOf_bitRow (v m : Nat) : boolsOf (bitRow v m m) = hiBits m v := by
  unfold boolsOf bitRow hiBits
  rw [List.map_map]
  apply List.map_congr_left
  intro j _
  simp only [Function.comp, bitAt, Nat.testBit_eq_decide_div_mod_eq]
  exact decide_eq_decide.2 (by omega)
theorem crc15_zero (l : List Int) : crc15 (l ++ bitRow (crc15 l).toNat 15 15) = 0#15 := by
  show (boolsOf (l ++ bitRow (crc15 l).toNat 15 15)).foldl (stepL 0x4599#15) 0#15 = _
  rw [boolsOf_append, List.foldl_append, boolsOf_bitRow]
  exact runL_empty 0x4599#15 (crc15 l)
theorem rightB_zeros (n : Nat) : rightB (List.replicate n 0) = true := by
  unfold rightB; rw [List.all_eq_true]; intro x hx; rw [(List.mem_replicate.1 hx).2]; rfl

end Go.Proofs.Ytajabpjphobabaa
