/-
  What right frames are; ranks told apart: no Go but the two contracts in one.
-/
import Derived.Test.YtmapkjjglhpamaaHead4
namespace Go.Proofs.Ytmapkjjglhpamaa
open Go.RowKit

/-- A kind's identifiers; how long its rank is, and its head without data. -/
def idOk (x : Bool) (ID : Nat) : Prop := ID < if x then 536870912 else 2048
def rn (x : Bool) : Nat := if x then 32 else 13
def hn (x : Bool) : Nat := if x then 39 else 19
def rankV (x : Bool) (ID : Nat) (r : Bool) : List Int := if x then rankX ID r else rankS ID r
def headV (x : Bool) (ID : Nat) (r : Bool) (L : Nat) (dl : List Int) : List Int :=
  if x then [0] ++ (rankX ID r ++ ([0, 0] ++ (bitRow L 4 4 ++ spreadL dl))) else [0] ++ (rankS ID r ++ ([0] ++ (bitRow L 4 4 ++ spreadL dl)))
theorem rankV_len (x : Bool) (ID : Nat) (r : Bool) : (rankV x ID r).length = rn x := by cases x <;> simp [rankV, rn, rankS_len, rankX_len]
theorem headV_len (x : Bool) (ID : Nat) (r : Bool) (L : Nat) (dl : List Int) : (headV x ID r L dl).length = hn x + 8 * dl.length := by
  cases x <;> simp only [headV, hn, if_true, if_false, Bool.false_eq_true, List.length_append, rankS_len, rankX_len, bitRow_len, spreadL_len, List.length_cons, List.length_nil] <;> omega
theorem hn_rn (x : Bool) : rn x + 6 ≤ hn x := by cases x <;> decide
theorem headV_len' (x : Bool) (ID : Nat) (r : Bool) (L : Nat) (dl : List Int) {m M N : Nat} (hm : dl.length = m) (hM : 8 * m = M) (hN : hn x + M = N) : (headV x ID r L dl).length = N := by
  rw [headV_len, hm, hM, hN]
theorem rank_at (x : Bool) (ID : Nat) (r : Bool) (n : Int) (A : Option Addr) (m c : Nat) (hID : idOk x ID) (k : Nat) (hk : rn x = k) (w : World) :
    Calls Try.prog 30 #[.agg #[.bool x, .int .i64 ID, .bool r, .int .i64 n, .slice A m c]] w fun e w' => ∃ A' c', e = .returned (.slice A' k c') ∧ Row .i64 w' w'.heap.size A' (rankV x ID r) ∧ k ≤ c' ∧ Below w.heap.size w w' := by
  subst hk
  cases x
  · exact rankS_at ID r n A m c hID w
  · exact rankX_at ID r n A m c hID w
theorem head_at (x : Bool) (ID : Nat) (r : Bool) (L : Nat) (dl : List Int) (m : Nat) (hdl : dl.length = m) (A : Option Addr) (c : Nat) (hID : idOk x ID) (hL : L ≤ 8) (w : World) (h : Row .u8 w w.heap.size A dl) (hb : byteB dl) (hm : m ≤ 1000) (M : Nat) (hM : 8 * m = M) (N : Nat) (hN : hn x + M = N) :
    Calls Try.prog 29 #[.agg #[.bool x, .int .i64 ID, .bool r, .int .i64 L, .slice A m c]] w fun e w' => ∃ A' c', e = .returned (.slice A' N c') ∧ Row .i64 w' w'.heap.size A' (headV x ID r L dl) ∧ N ≤ c' ∧ Below w.heap.size w w' := by
  cases x
  · exact headS_at ID r L dl m hdl A c hID (by omega) w h hb hm M hM N hN
  · exact headX_at ID r L dl m hdl A c hID (by omega) w h hb hm M hM N hN

theorem right_ok {x : Bool} {i : Int} {r : Bool} {n : Int} {m : Nat} (h : rightV x i r n m = true) :
    ∃ ID L : Nat, i = ID ∧ n = L ∧ idOk x ID ∧ L ≤ 8 ∧ m = (if r then 0 else L) := by
  simp only [rightV, decide_eq_true_eq] at h
  obtain ⟨h1, h2, h3, h4, h5⟩ := h
  obtain ⟨ID, rfl⟩ := Int.eq_ofNat_of_zero_le h1
  obtain ⟨L, rfl⟩ := Int.eq_ofNat_of_zero_le h3
  refine ⟨ID, L, rfl, rfl, ?_, by omega, ?_⟩
  · unfold idOk; cases x <;> simp at h2 ⊢ <;> omega
  · cases r <;> simp at h5 ⊢ <;> omega
theorem right_parts {x : Bool} {i : Int} {r : Bool} {n : Int} {m : Nat} (h : rightV x i r n m = true) :
    ∃ ID L : Nat, i = ID ∧ n = L ∧ ID < (if x then 536870912 else 2048) ∧ L ≤ 8 ∧ m = (if r then 0 else L) := by
  simp only [rightV, decide_eq_true_eq] at h
  obtain ⟨h1, h2, h3, h4, h5⟩ := h
  obtain ⟨ID, rfl⟩ := Int.eq_ofNat_of_zero_le h1
  obtain ⟨L, rfl⟩ := Int.eq_ofNat_of_zero_le h3
  refine ⟨ID, L, rfl, rfl, ?_, by omega, ?_⟩
  · cases x <;> simp at h2 ⊢ <;> omega
  · cases r <;> simp at h5 ⊢ <;> omega

theorem Row.some_ {κ : IntKind} {w : World} {B : Nat} {A : Option Addr} {l : List Int} (h : Row κ w B A l) (hl : 0 < l.length) : ∃ ad, A = some ad := by
  rcases h with rfl | ⟨ad, e, _⟩
  · simp at hl
  · exact ⟨ad, e⟩

theorem flag_inj {a b : Bool} (h : flag a = flag b) : a = b := by cases a <;> cases b <;> first | rfl | (simp [flag] at h)
theorem bitRow_inj {n a b : Nat} (ha : a < 2 ^ n) (hb : b < 2 ^ n) (h : bitRow a n n = bitRow b n n) : a = b := by rw [← numOf_back ha, ← numOf_back hb, h]

theorem rankSS {a b : Nat} {r s : Bool} (ha : a < 2048) (hb : b < 2048) : rankS a r = rankS b s ↔ a = b ∧ r = s := by
  constructor
  · intro h
    unfold rankS at h
    obtain ⟨h1, h2⟩ := List.append_inj h (by simp [bitRow_len])
    refine ⟨bitRow_inj (n := 11) (by omega) (by omega) h1, flag_inj ?_⟩
    simpa using h2
  · rintro ⟨rfl, rfl⟩; rfl
theorem rankXX {a b : Nat} {r s : Bool} (ha : a < 536870912) (hb : b < 536870912) : rankX a r = rankX b s ↔ a = b ∧ r = s := by
  constructor
  · intro h
    unfold rankX at h
    obtain ⟨h1, h2⟩ := List.append_inj h (by simp [bitRow_len])
    obtain ⟨_, h3⟩ := List.append_inj h2 (by simp)
    obtain ⟨h4, h5⟩ := List.append_inj h3 (by simp [bitRow_len])
    have e1 := bitRow_inj (n := 11) (by omega) (by omega) h1
    have e2 := bitRow_inj (n := 18) (Nat.mod_lt _ (by omega)) (Nat.mod_lt _ (by omega)) h4
    exact ⟨by omega, flag_inj (by simpa using h5)⟩
  · rintro ⟨rfl, rfl⟩; rfl
theorem rankX_take (b : Nat) (s : Bool) : (rankX b s).take 13 = bitRow (b / 262144) 11 11 ++ [1, 1] := by
  unfold rankX
  rw [← List.append_assoc, List.take_left' (by simp [bitRow_len])]
theorem rankSX (a b : Nat) (r s : Bool) : rankS a r ≠ (rankX b s).take 13 := by
  rw [rankX_take]
  unfold rankS
  intro h
  obtain ⟨_, h2⟩ := List.append_inj h (by simp [bitRow_len])
  simp at h2
theorem rankSX' (a b : Nat) (r s : Bool) : rankS a r ≠ rankX b s := by
  intro h
  have := congrArg List.length h
  rw [rankS_len, rankX_len] at this
  cases this
theorem headS_rank (a : Nat) (r : Bool) (t : List Int) : (([0] ++ (rankS a r ++ t)).drop 1).take 13 = rankS a r := by
  simp only [List.cons_append, List.nil_append, List.drop_succ_cons, List.drop_zero]
  exact List.take_left' (rankS_len a r)
theorem headX_rank (a : Nat) (r : Bool) (t : List Int) : (([0] ++ (rankX a r ++ t)).drop 1).take 32 = rankX a r := by
  simp only [List.cons_append, List.nil_append, List.drop_succ_cons, List.drop_zero]
  exact List.take_left' (rankX_len a r)
theorem headS_len (a : Nat) (r : Bool) (L : Nat) (dl : List Int) (m M N : Nat) (hm : dl.length = m) (hM : 8 * m = M) (hN : 19 + M = N) : ([0] ++ (rankS a r ++ ([0] ++ (bitRow L 4 4 ++ spreadL dl)))).length = N := by
  simp only [List.length_append, rankS_len, bitRow_len, spreadL_len, List.length_cons, List.length_nil]; omega
theorem headX_len (a : Nat) (r : Bool) (L : Nat) (dl : List Int) (m M N : Nat) (hm : dl.length = m) (hM : 8 * m = M) (hN : 39 + M = N) : ([0] ++ (rankX a r ++ ([0, 0] ++ (bitRow L 4 4 ++ spreadL dl)))).length = N := by
  simp only [List.length_append, rankX_len, bitRow_len, spreadL_len, List.length_cons, List.length_nil]; omega

theorem headV_rank (x : Bool) (ID : Nat) (r : Bool) (L : Nat) (dl : List Int) : ((headV x ID r L dl).drop 1).take (rn x) = rankV x ID r := by
  cases x
  · exact headS_rank ID r _
  · exact headX_rank ID r _
theorem rankV_eq {x x' : Bool} {a b : Nat} {r s : Bool} (ha : idOk x a) (hb : idOk x' b) : rankV x a r = rankV x' b s ↔ x = x' ∧ a = b ∧ r = s := by
  cases x <;> cases x'
  · simpa [rankV] using rankSS ha hb
  · simpa [rankV] using rankSX' a b r s
  · simpa [rankV] using fun e => rankSX' b a s r e.symm
  · simpa [rankV] using rankXX ha hb
theorem rankV_pre {x x' : Bool} {a b : Nat} {r s : Bool} (ha : idOk x a) (hb : idOk x' b) : (rankV x a r).take (min (rn x) (rn x')) = (rankV x' b s).take (min (rn x) (rn x')) ↔ x = x' ∧ a = b ∧ r = s := by
  rw [← rankV_eq ha hb]
  cases x <;> cases x'
  · show (rankS a r).take 13 = (rankS b s).take 13 ↔ rankS a r = rankS b s
    rw [List.take_of_length_le (by rw [rankS_len]; omega), List.take_of_length_le (by rw [rankS_len]; omega)]
  · show (rankS a r).take 13 = (rankX b s).take 13 ↔ rankS a r = rankX b s
    rw [List.take_of_length_le (by rw [rankS_len]; omega)]
    exact ⟨fun e => absurd e (rankSX _ _ _ _), fun e => absurd e (rankSX' _ _ _ _)⟩
  · show (rankX a r).take 13 = (rankS b s).take 13 ↔ rankX a r = rankS b s
    rw [List.take_of_length_le (l := rankS b s) (by rw [rankS_len]; omega)]
    exact ⟨fun e => absurd e.symm (rankSX _ _ _ _), fun e => absurd e.symm (rankSX' _ _ _ _)⟩
  · show (rankX a r).take 32 = (rankX b s).take 32 ↔ rankX a r = rankX b s
    rw [List.take_of_length_le (by rw [rankX_len]; omega), List.take_of_length_le (by rw [rankX_len]; omega)]

end Go.Proofs.Ytmapkjjglhpamaa
