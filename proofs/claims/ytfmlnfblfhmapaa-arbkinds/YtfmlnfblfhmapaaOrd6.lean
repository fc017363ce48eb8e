/-
  Where two ranks first differ, and who is ahead: lists alone.
-/
import Derived.Test.YtfmlnfblfhmapaaFrTwo
namespace Go.Proofs.Ytfmlnfblfhmapaa
open Go.RowKit
set_option linter.unusedVariables false

/-- The first difference that is not 0. -/
def firstD : List Int → List Int → Int
  | a :: s, b :: t => if a - b = 0 then firstD s t else a - b
  | _, _ => 0
theorem firstD_nil (t : List Int) : firstD [] t = 0 := by simp [firstD]
theorem firstD_nil' (s : List Int) : firstD s [] = 0 := by cases s <;> simp [firstD]
theorem bit_row (n a b : Nat) (ha : a < 2 ^ n) (hb : b < 2 ^ n) : ∀ s t : List Int,
    (a < b → firstD (bitRow a n n ++ s) (bitRow b n n ++ t) < 0) ∧ (a = b → firstD (bitRow a n n ++ s) (bitRow b n n ++ t) = firstD s t) ∧ (b < a → 0 < firstD (bitRow a n n ++ s) (bitRow b n n ++ t)) := by
  induction n generalizing a b with
  | zero =>
    intro s t
    have h1 : a = 0 := by omega
    have h2 : b = 0 := by omega
    subst h1 h2
    exact ⟨by omega, fun _ => rfl, by omega⟩
  | succ n ih =>
    intro s t
    rw [Nat.pow_succ] at ha hb
    have ea : bitRow a (n + 1) (n + 1) = bitRow (a / 2) n n ++ [((a % 2 : Nat) : Int)] := by
      have := bitRow_snoc (a / 2) (a % 2) n (Nat.mod_lt _ (by omega))
      rwa [show 2 * (a / 2) + a % 2 = a by omega] at this
    have eb : bitRow b (n + 1) (n + 1) = bitRow (b / 2) n n ++ [((b % 2 : Nat) : Int)] := by
      have := bitRow_snoc (b / 2) (b % 2) n (Nat.mod_lt _ (by omega))
      rwa [show 2 * (b / 2) + b % 2 = b by omega] at this
    rw [ea, eb, List.append_assoc, List.append_assoc]
    obtain ⟨i1, i2, i3⟩ := ih (a / 2) (b / 2) (by omega) (by omega) ([((a % 2 : Nat) : Int)] ++ s) ([((b % 2 : Nat) : Int)] ++ t)
    by_cases h : a / 2 = b / 2
    · rw [i2 h]
      simp only [List.cons_append, List.nil_append, firstD]
      refine ⟨fun hl => ?_, fun he => ?_, fun hl => ?_⟩
      · rw [if_neg (by omega)]; omega
      · rw [if_pos (by subst he; omega)]
      · rw [if_neg (by omega)]; omega
    · rcases Nat.lt_or_gt_of_ne h with h | h
      · exact ⟨fun _ => i1 h, fun he => by subst he; omega, fun hl => by omega⟩
      · exact ⟨fun hl => by omega, fun he => by subst he; omega, fun _ => i3 h⟩

theorem orderSS {a b : Nat} {r s : Bool} (ha : a < 2048) (hb : b < 2048) :
    (a < b → firstD (rankS a r) (rankS b s) < 0) ∧ (a = b → firstD (rankS a r) (rankS b s) = flag r - flag s) ∧ (b < a → 0 < firstD (rankS a r) (rankS b s)) := by
  obtain ⟨h1, h2, h3⟩ := bit_row 11 a b (by omega) (by omega) [flag r, 0] [flag s, 0]
  refine ⟨h1, fun e => ?_, h3⟩
  unfold rankS
  rw [h2 e]
  cases r <;> cases s <;> rfl
theorem orderXX {a b : Nat} {r s : Bool} (ha : a < 536870912) (hb : b < 536870912) :
    (a < b → firstD (rankX a r) (rankX b s) < 0) ∧ (a = b → firstD (rankX a r) (rankX b s) = flag r - flag s) ∧ (b < a → 0 < firstD (rankX a r) (rankX b s)) := by
  obtain ⟨h1, h2, h3⟩ := bit_row 11 (a / 262144) (b / 262144) (by omega) (by omega) ([1, 1] ++ (bitRow (a % 262144) 18 18 ++ [flag r])) ([1, 1] ++ (bitRow (b % 262144) 18 18 ++ [flag s]))
  obtain ⟨g1, g2, g3⟩ := bit_row 18 (a % 262144) (b % 262144) (Nat.mod_lt _ (by omega)) (Nat.mod_lt _ (by omega)) [flag r] [flag s]
  have mid : firstD ([1, 1] ++ (bitRow (a % 262144) 18 18 ++ [flag r])) ([1, 1] ++ (bitRow (b % 262144) 18 18 ++ [flag s])) = firstD (bitRow (a % 262144) 18 18 ++ [flag r]) (bitRow (b % 262144) 18 18 ++ [flag s]) := by
    simp [firstD]
  have last : firstD [flag r] [flag s] = flag r - flag s := by cases r <;> cases s <;> rfl
  unfold rankX
  by_cases h : a / 262144 = b / 262144
  · rw [h2 h, mid]
    exact ⟨fun hl => g1 (by omega), fun e => by rw [g2 (by omega), last], fun hl => g3 (by omega)⟩
  · rcases Nat.lt_or_gt_of_ne h with h | h
    · exact ⟨fun _ => h1 h, fun e => by omega, fun hl => by omega⟩
    · exact ⟨fun hl => by omega, fun e => by omega, fun _ => h3 h⟩
theorem orderSX {a b : Nat} {r s : Bool} (ha : a < 2048) (hb : b < 536870912) : (a = b / 262144 → firstD (rankS a r) (rankX b s) < 0) ∧ firstD (rankS a r) (rankX b s) ≠ 0 := by
  obtain ⟨h1, h2, h3⟩ := bit_row 11 a (b / 262144) (by omega) (by omega) [flag r, 0] ([1, 1] ++ (bitRow (b % 262144) 18 18 ++ [flag s]))
  have last : firstD [flag r, 0] ([1, 1] ++ (bitRow (b % 262144) 18 18 ++ [flag s])) = -1 := by cases r <;> simp [firstD, flag]
  unfold rankS rankX
  refine ⟨fun e => by rw [h2 e, last]; decide, ?_⟩
  by_cases h : a = b / 262144
  · rw [h2 h, last]; decide
  · rcases Nat.lt_or_gt_of_ne h with h | h
    · have := h1 h; omega
    · have := h3 h; omega
theorem less_firstD : ∀ (a b : List Int), rightB a = true → rightB b = true → firstD a b < 0 → lessR a b
  | [], b, _, _, h => by rw [firstD_nil] at h; omega
  | a :: s, [], _, _, h => by rw [firstD_nil'] at h; omega
  | a :: s, b :: t, ha, hb, h => by
    have ha0 := rightB_at ha (k := 0) (x := a) rfl
    have hb0 := rightB_at hb (k := 0) (x := b) rfl
    by_cases e : a - b = 0
    · rw [firstD, if_pos e] at h
      obtain rfl : a = b := by omega
      obtain ⟨k, h1, h2, h3⟩ := less_firstD s t (by simpa using rightB_drop ha 1) (by simpa using rightB_drop hb 1) h
      exact ⟨k + 1, by simp [h1], by simpa using h2, by simpa using h3⟩
    · rw [firstD, if_neg e] at h
      obtain ⟨rfl, rfl⟩ : a = 0 ∧ b = 1 := by omega
      exact ⟨0, by simp, by simp, by simp⟩
/-- Of one kind the lesser identifier is ahead. -/
theorem rank_lt {x : Bool} {i j : Nat} {r s : Bool} (hi : idOk x i) (hj : idOk x j) (h : i < j) : lessR (rankV x i r) (rankV x j s) := by
  refine less_firstD _ _ (rankV_right _ _ _) (rankV_right _ _ _) ?_
  cases x
  · exact (orderSS (r := r) (s := s) hi hj).1 h
  · exact (orderXX (r := r) (s := s) hi hj).1 h
theorem rank_data {i : Nat} (hi : i < 2048) : lessR (rankV false i false) (rankV false i true) := by
  refine less_firstD _ _ (rankV_right _ _ _) (rankV_right _ _ _) ?_
  show firstD (rankS i false) (rankS i true) < 0
  rw [(orderSS (r := false) (s := true) hi hi).2.1 rfl]
  decide
theorem rank_ext {i j : Nat} {r s : Bool} (hi : i < 2048) (hj : j < 262144) : lessR (rankV false i r) (rankV true (i * 262144 + j) s) := by
  refine less_firstD _ _ (rankV_right _ _ _) (rankV_right _ _ _) ?_
  exact (orderSX (r := r) (s := s) hi (by omega)).1 (by omega)
/-- The least of some, and who wins. -/
theorem least_is (fs : List FV) {W : List Int} (h0 : W ∈ ranks fs) (h : ∀ f ∈ fs, rankF f = W ∨ lessR W (rankF f)) : LeastE W (ranks fs) where
  all := fun r hr => by obtain ⟨f, hf, rfl⟩ := ranks_mem hr; exact h f hf
  mem := fun _ => h0
  right := fun r hr => by obtain ⟨f, _, rfl⟩ := ranks_mem hr; exact rankF_right f
  rw_ := by obtain ⟨f, _, rfl⟩ := ranks_mem h0; exact rankF_right f
  none_ := fun e => by rw [e] at h0; cases h0
  pos := fun r hr => by obtain ⟨f, _, rfl⟩ := ranks_mem hr; exact rankF_ne f
theorem less_ne {a b : List Int} (h : lessR a b) : b ≠ a := fun e => less_irr (e ▸ h)
theorem win_two {f g : FV} (h : lessR (rankF f) (rankF g)) : LeastE (rankF f) (ranks [f, g]) ∧ winOf (rankF f) (ranks [f, g]) = 0 ∧ LeastE (rankF f) (ranks [g, f]) ∧ winOf (rankF f) (ranks [g, f]) = 1 := by
  refine ⟨least_is _ (by simp [ranks]) ?_, winOf_at (i := 0) (by simp [ranks]) (by intro j hj; omega), least_is _ (by simp [ranks]) ?_, winOf_at (i := 1) (by simp [ranks]) ?_⟩
  · intro x hx
    simp only [List.mem_cons, List.not_mem_nil, or_false] at hx
    rcases hx with rfl | rfl
    · exact .inl rfl
    · exact .inr h
  · intro x hx
    simp only [List.mem_cons, List.not_mem_nil, or_false] at hx
    rcases hx with rfl | rfl
    · exact .inr h
    · exact .inl rfl
  · intro j hj
    obtain rfl : j = 0 := by omega
    simpa [ranks] using less_ne h
theorem win_three {f g k : FV} (h : lessR (rankF f) (rankF g)) (h' : lessR (rankF f) (rankF k)) : LeastE (rankF f) (ranks [k, g, f]) ∧ winOf (rankF f) (ranks [k, g, f]) = 2 := by
  refine ⟨least_is _ (by simp [ranks]) ?_, winOf_at (i := 2) (by simp [ranks]) ?_⟩
  · intro x hx
    simp only [List.mem_cons, List.not_mem_nil, or_false] at hx
    rcases hx with rfl | rfl | rfl
    · exact .inr h'
    · exact .inr h
    · exact .inl rfl
  · intro j hj
    have : j = 0 ∨ j = 1 := by omega
    rcases this with rfl | rfl
    · simpa [ranks] using less_ne h'
    · simpa [ranks] using less_ne h
theorem and_keep_ (U k : Nat) (hk : k ≤ 61) (h : U < 2 ^ k) : bits .and .i64 (U : Int) ((2 ^ k - 1 : Nat) : Int) = U := by
  have e : bits .and .i64 (U : Int) ((2 ^ k - 1 : Nat) : Int) = IntKind.i64.wrap ((BitVec.ofInt 64 (U : Int) &&& BitVec.ofInt 64 ((2 ^ k - 1 : Nat) : Int)).toNat : Int) := rfl
  have h2 : 2 ^ k ≤ 2 ^ 61 := Nat.pow_le_pow_right (by omega) hk
  rw [e, BitVec.ofInt_natCast, BitVec.ofInt_natCast, BitVec.toNat_and, BitVec.toNat_ofNat, BitVec.toNat_ofNat, Nat.mod_eq_of_lt (show U < 2 ^ 64 by omega), Nat.mod_eq_of_lt (show 2 ^ k - 1 < 2 ^ 64 by omega), Nat.and_two_pow_sub_one_eq_mod, Nat.mod_eq_of_lt h, IntKind.wrap_i64]
  omega
theorem idm_keep_ {f : FV} (h : FOk f) : idm f.x f.i = f.i := by
  obtain ⟨U, e, hU⟩ := h
  rw [e]
  cases hx : f.x <;> rw [hx] at hU
  · exact and_keep_ U 11 (by omega) hU
  · exact and_keep_ U 29 (by omega) hU

/-- A row of bytes lies in no frame's block. -/
theorem row_ne {w : World} {B : Nat} {ad : Addr} {l : List Int} (h : Row .u8 w B (some ad) l) (h0 : l ≠ []) {F : Nat} {x r : Bool} {i n : Int} {D : Option Addr} {m c : Nat} {t : TypeId} (hF : w.heap[F]? = some (.cells #[.bool x, .int .i64 i, .bool r, .int .i64 n, .slice D m c] t)) : ad.block ≠ F := by
  intro e
  obtain ⟨y, l', rfl⟩ : ∃ y l', l = y :: l' := by cases l with | nil => exact absurd rfl h0 | cons y l' => exact ⟨y, l', rfl⟩
  have hc := h.at_ (k := 0) (x := y) rfl
  have hh : w.heap[(ad.add 0).block]? = some (.cells #[.bool x, .int .i64 i, .bool r, .int .i64 n, .slice D m c] t) := by rw [addr_block, e]; exact hF
  simp only [World.cell?, hh] at hc
  have hm : Value.int .u8 y ∈ [Value.bool x, .int .i64 i, .bool r, .int .i64 n, .slice D m c] := by
    have h2 := hc
    simp at h2
    first
      | exact List.mem_of_getElem? h2.2
      | exact List.mem_of_getElem? h2
  simp at hm
theorem row_set5 {w : World} {A : Option Addr} {l : List Int} (h : Row .u8 w w.heap.size A l) {F : Nat} {x r : Bool} {i n : Int} {D : Option Addr} {m c : Nat} {t : TypeId} (hF : w.heap[F]? = some (.cells #[.bool x, .int .i64 i, .bool r, .int .i64 n, .slice D m c] t)) (v0 v1 v2 v3 v4 : Value) : Row .u8 (set5 w F v0 v1 v2 v3 v4) (set5 w F v0 v1 v2 v3 v4).heap.size A l := by
  by_cases h0 : l = []
  · exact .inl h0
  · have hg := set5_grown w F v0 v1 v2 v3 v4
    rcases h with e | ⟨ad, rfl, hb, hc⟩
    · exact .inl e
    · have hne := row_ne (.inr ⟨ad, rfl, hb, hc⟩) h0 hF
      exact .inr ⟨ad, rfl, Nat.lt_of_lt_of_le hb hg.size, fun k y hy => hg.cell (hc k y hy) (by simp [addr_block]; exact hne)⟩

end Go.Proofs.Ytfmlnfblfhmapaa
