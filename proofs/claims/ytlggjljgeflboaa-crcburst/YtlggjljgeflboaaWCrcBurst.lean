/-
  CrcBurst: rows of bits that differ only within 15 places one behind the other have unlike sums.
-/
import Derived.Test.YtlggjljgeflboaaHead
import Derived.Test.YtlggjljgeflboaaSplice
import Derived.RegionTactic
import Derived.ChangeAlike
import Derived.BigRegion
namespace Go.Proofs.Ytlggjljgeflboaa
open Go.RowKit

set_option maxRecDepth 100000 in
set_option maxHeartbeats 1000000 in
theorem crcBurst_out (l : List Int) (n : Nat) (hn : l.length = n) (at_ x : Nat) (A : Option Addr) (c : Nat) (w : World) (r : Row .i64 w w.heap.size A l) (hl : n ≤ maxLen) (h : 2000 < n ∨ n < 15 ∨ rightB l = false ∨ x % 32768 = 0) :
    Calls Try.prog 5 #[.slice A n c, .int .u16 at_, .int .u16 x] w fun e w' => e = .returned (.bool true) ∧ Below w.heap.size w w' := by
  have Hn := Lib.hid hn
  clear hn
  by_cases h1 : 2000 < n
  · have d1 : decide (2000 < (n : Int)) = true := by simp; omega
    clear h
    go_enter Try.func5, Try.ntmps5
    go_wp2_with fail
    refine (head_any _).mono ?_
    rintro e w1 ⟨rfl, hB1⟩
    go_wp2_with fail
    go_ret
    exact ⟨rfl, hB1⟩
  · have d1 : decide (2000 < (n : Int)) = false := by simp; omega
    by_cases h2 : n < 15
    · have d2 : decide ((n : Int) < 15) = true := by simp; omega
      clear h
      go_enter Try.func5, Try.ntmps5
      go_wp2_with fail
      refine (head_any _).mono ?_
      rintro e w1 ⟨rfl, hB1⟩
      go_wp2_with fail
      go_ret
      exact ⟨rfl, hB1⟩
    · have d2 : decide ((n : Int) < 15) = false := by simp; omega
      cases hr : rightB l with
      | false =>
        have Hr := Lib.hid hr
        clear h hr
        go_enter Try.func5, Try.ntmps5
        go_wp2_with fail
        refine (head_any _).mono ?_
        rintro e w1 ⟨rfl, hB1⟩
        go_wp2_with fail
        refine (refRight_at l n Hn.out A c _ _ (r.keep hB1) hl).mono ?_
        rintro e w' ⟨rfl, rfl⟩
        rw [Hr.out]
        go_wp2_with fail
        go_ret
        exact ⟨rfl, hB1⟩
      | true =>
        have hx : x % 32768 = 0 := by rcases h with h | h | h | h; omega; omega; rw [hr] at h; cases h; exact h
        have d3 : (((x : Int) % 32768) == 0) = true := by simp; omega
        have Hr := Lib.hid hr
        clear h hr hx
        go_enter Try.func5, Try.ntmps5
        go_wp2_with fail
        refine (head_any _).mono ?_
        rintro e w1 ⟨rfl, hB1⟩
        go_wp2_with fail
        refine (refRight_at l n Hn.out A c _ _ (r.keep hB1) hl).mono ?_
        rintro e w' ⟨rfl, rfl⟩
        rw [Hr.out]
        go_wp2_with fail
        go_ret
        exact ⟨rfl, hB1⟩

/-- A bit, turned by bit number j of x. -/
def turn1 (x : Nat) (j : Nat) (v : Int) : Int := ((v.toNat ^^^ x / 2 ^ j % 2 : Nat) : Int)

theorem turn1_eq (x j : Nat) (V : Int) (hV : V = 0 ∨ V = 1) : bits .xor .i64 V ((x : Int) / 2 ^ j % 2) = turn1 x j V := by
  obtain ⟨v, rfl, hv⟩ : ∃ v : Nat, V = (v : Int) ∧ v < 2 := by
    rcases hV with rfl | rfl
    · exact ⟨0, rfl, by omega⟩
    · exact ⟨1, rfl, by omega⟩
  have hb : x / 2 ^ j % 2 < 2 := Nat.mod_lt _ (by omega)
  have := xor64 v (x / 2 ^ j % 2) (by omega) (by omega)
  unfold turn1
  rw [Int.toNat_natCast, ← this]
  simp
theorem turn1_01 (x j : Nat) (V : Int) (hV : V = 0 ∨ V = 1) : turn1 x j V = 0 ∨ turn1 x j V = 1 := by
  have hb : V.toNat ^^^ x / 2 ^ j % 2 < 2 := Nat.xor_lt_two_pow (n := 1) (by rcases hV with rfl | rfl <;> decide) (Nat.mod_lt _ (by omega))
  unfold turn1
  omega
theorem turn1_ne (x j : Nat) (V : Int) (hV : V = 0 ∨ V = 1) (hb : x.testBit j = true) : turn1 x j V ≠ V := by
  rw [Nat.testBit_eq_decide_div_mod_eq, decide_eq_true_eq] at hb
  unfold turn1
  rw [hb]
  rcases hV with rfl | rfl <;> decide
theorem some_bit {x : Nat} (h : x % 32768 ≠ 0) : ∃ j, j < 15 ∧ x.testBit j = true := by
  apply Classical.byContradiction
  intro hno
  apply h
  rw [show 32768 = 2 ^ 15 from rfl]
  apply Nat.eq_of_testBit_eq
  intro i
  rw [Nat.testBit_mod_two_pow, Nat.zero_testBit]
  by_cases hi : i < 15
  · cases hb : x.testBit i with
    | false => simp
    | true => exact absurd ⟨i, hi, hb⟩ hno
  · simp [hi]
theorem getD_01 {l : List Int} (h : rightB l = true) (j : Nat) : l.getD j 0 = 0 ∨ l.getD j 0 = 1 := by
  by_cases hj : j < l.length
  · rw [List.getD_eq_getElem?_getD, List.getElem?_eq_getElem hj]
    exact rightB_at h (List.getElem?_eq_getElem hj)
  · left; simp [List.getD_eq_getElem?_getD, List.getElem?_eq_none (show l.length ≤ j by omega)]
theorem turned_right {l : List Int} (h : rightB l = true) (x K : Nat) : ∀ i, rightB ((List.range i).map (fun j => turn1 x j (l.getD (K + j) 0))) = true
  | 0 => rfl
  | i + 1 => by
    rw [range_succ_map, rightB_snoc, turned_right h x K i]
    simpa using turn1_01 x i _ (getD_01 h (K + i))
theorem burst_ne {l : List Int} (h : rightB l = true) {x K : Nat} (hK : K + 15 ≤ l.length) (hx : x % 32768 ≠ 0) : crc15 (splice l K (turn1 x) 15) ≠ crc15 l := by
  obtain ⟨j, hj, hb⟩ := some_bit hx
  have hne := stretch_ne l K (turn1 x) 15 hK j hj (turn1_ne x j _ (getD_01 h _) hb)
  have := crc15_apart (l.take K) (l.drop (K + 15)) ((l.drop K).take 15) ((List.range 15).map (fun j => turn1 x j (l.getD (K + j) 0))) (by simp; omega) (by simp; omega) (rightB_take (rightB_drop h K) 15) (turned_right h x K 15) hne
  rw [← splice_self] at this
  exact this.symm
theorem splice_right {l : List Int} (h : rightB l = true) (x K i : Nat) : rightB (splice l K (turn1 x) i) = true := by
  unfold splice
  rw [rightB_append, rightB_append, rightB_take h, rightB_drop h, turned_right h]
  rfl

set_option maxRecDepth 100000 in
set_option maxHeartbeats 2000000 in
theorem crcBurst_in (l : List Int) (n : Nat) (hn : l.length = n) (at_ x : Nat) (hat : at_ < 65536) (hx : x < 65536) (A : Option Addr) (c : Nat) (w : World)
    (h : Row .i64 w w.heap.size A l) (h2000 : n ≤ 2000) (h15 : 15 ≤ n) (hr : rightB l = true) (hx0 : x % 32768 ≠ 0) :
    Calls Try.prog 5 #[.slice A n c, .int .u16 at_, .int .u16 x] w fun e w' => e = .returned (.bool true) ∧ Below w.heap.size w w' := by
  have d1 : decide (2000 < (n : Int)) = false := by simp; omega
  have d2 : decide ((n : Int) < 15) = false := by simp; omega
  have d3 : (((x : Int) % 32768) == 0) = false := by simp; omega
  obtain ⟨K, hK⟩ : ∃ K, at_ % (n - 14) = K := ⟨_, rfl⟩
  have hKlt : K + 15 ≤ n := by
    have := Nat.mod_lt at_ (show 0 < n - 14 by omega)
    omega
  have hKI : ((at_ : Int) % ((n : Int) - 14)) = (K : Int) := by
    rw [← hK, show ((n : Int) - 14) = ((n - 14 : Nat) : Int) by omega]; simp
  have Hm := Lib.hid (show n ≤ maxLen by unfold maxLen; omega)
  have Hn := Lib.hid hn
  have Hr := Lib.hid hr
  clear hK hn hr
  obtain ⟨i0, hi, hz0, hz1, hz2⟩ := info_parts Try.infoInt
  go_enter Try.func5, Try.ntmps5
  go_wp2_with fail
  refine (head_any _).mono ?_
  rintro e w1 ⟨rfl, hB1⟩
  go_wp2_with fail
  refine (refRight_at l n Hn.out A c _ _ (h.keep hB1) Hm.out).mono ?_
  rintro e w' ⟨rfl, rfl⟩
  rw [Hr.out]
  have o1 := own_lit w1 .i64 [] 0 rfl 3 (cs := #[]) rfl (by decide)
  have l1 := (h.to hB1).to (below_lits (w := w1) (o := .cells #[] 3) rfl)
  go_wp2_with (at_builtin; refine wpList_append_row _ .i64 rfl (.tmp 31) (.tmp 32) 22 rfl w1.heap.size 3 i0 (.int .i64 0) 8 Try.underlying22 hi hz0 hz1 hz2 rfl _ 0 [] rfl o1 A n c _ l rfl Hn.out l1 (by unfold maxLen; omega) (by omega) (by simp) ?_; intro A2 c2 w2 own2 hc2 hB2; simp only [Nat.zero_add, List.nil_append] at own2 hc2 ⊢)
  have e2 : Below w1.heap.size w1 w2 := (below_lits (w := w1) (o := .cells #[] 3) rfl).trans hB2
  obtain ⟨g, rfl⟩ : ∃ g, A2 = some ⟨g, 0, none⟩ := by
    rcases own2.2 with ⟨_, h0⟩ | ⟨g, cap, cur, e1, _⟩
    · omega
    · cases e1; exact ⟨g, rfl⟩
  have hg := (own2.lt g rfl).1
  go_loopw [10] (fun i wr => ∃ k : Nat, k ≤ 15 ∧ i = .int .i64 k ∧ wr.ownsRow w1.heap.size 3 1 (.slice (some ⟨g, 0, none⟩) n c2) n ((splice l K (turn1 x) k).map (Value.int .i64)) ∧ Below w1.heap.size w1 wr) (fun i _ => 15 - (intOf i).toNat)
  case atStart => exact ⟨0, Nat.zero_le _, rfl, by rw [splice_zero]; exact own2, e2⟩
  case round =>
    obtain ⟨k, hk, rfl, hown, hB⟩ := hrel
    by_cases hlt : k < 15
    · obtain ⟨hc1, hf1⟩ := ownsRow_cell hown (splice_get (turn1 x) (i := k) (K := K) (l := l) (by rw [Hn.out]; omega))
      have hbit := bits_one x k (by omega)
      have Hs := Lib.hid (splice_succ (turn1 x) (i := k) (K := K) (l := l) (by rw [Hn.out]; omega))
      have Ht := Lib.hid (turn1_eq x k _ (getD_01 Hr.out (K + k)))
      generalize l.getD (K + k) 0 = V at *
      go_wp2_with fail
      go_region
      go_wp2_with fail
      refine ⟨⟨k + 1, by omega, by go_num, ?_, (hB.setCell (by exact hg) _).drew⟩, by simp [intOf]; omega⟩
      have ho := ownsRow_set hown (K + k) (bits .xor .i64 V ((x : Int) / 2 ^ k % 2))
      rw [Ht.out, Hs.out] at ho
      rw [Ht.out]
      exact ho
    · obtain rfl : k = 15 := by omega
      have rm := Row.own hown
      have eb := below_next hB1 hB
      have rl := h.to eb
      obtain ⟨S, hS⟩ : ∃ S, (crc15 l).toNat = S := ⟨_, rfl⟩
      obtain ⟨T, hT⟩ : ∃ T, (crc15 (splice l K (turn1 x) 15)).toNat = T := ⟨_, rfl⟩
      have hne : T ≠ S := by
        rw [← hS, ← hT]
        intro e
        exact burst_ne Hr.out (by rw [Hn.out]; exact hKlt) hx0 (BitVec.eq_of_toNat_eq e)
      have dT : ((T : Int) != (S : Int)) = true := by simp; omega
      have HS := Lib.hid (show ((crc15 l).toNat : Int) = (S : Int) by rw [hS])
      have HT := Lib.hid (show ((crc15 (splice l K (turn1 x) 15)).toNat : Int) = (T : Int) by rw [hT])
      have Hsr := Lib.hid (splice_right Hr.out x K 15)
      have Hsl := Lib.hid (show (splice l K (turn1 x) 15).length = n by rw [splice_len _ _ _ _ (by rw [Hn.out]; exact hKlt), Hn.out])
      clear hS hT hne hown
      go_wp2_with fail
      refine (bits_S c2 Hsl.out rm (Below.refl _ _) Hsr.out Hm.out HT.out).mono ?_
      rintro e w3 ⟨rfl, hB3⟩
      go_wp2_with fail
      refine (bits_S c Hn.out rl hB3 Hr.out Hm.out HS.out).mono ?_
      rintro e w4 ⟨rfl, hB4⟩
      go_wp2_with fail
      go_ret
      exact ⟨rfl, below_then eb hB4⟩

theorem crcBurst_walk (l : List Int) (n : Nat) (hn : l.length = n) (at_ x : Nat) (hat : at_ < 65536) (hx : x < 65536) (A : Option Addr) (c : Nat) (w : World)
    (h : Row .i64 w w.heap.size A l) (hm : n ≤ maxLen) :
    Calls Try.prog 5 #[.slice A n c, .int .u16 at_, .int .u16 x] w fun e w' => e = .returned (.bool true) ∧ Below w.heap.size w w' := by
  by_cases hlong : 2000 < n ∨ n < 15 ∨ rightB l = false ∨ x % 32768 = 0
  · exact crcBurst_out l n hn at_ x A c w h hm hlong
  · refine crcBurst_in l n hn at_ x hat hx A c w h (by omega) (by omega) ?_ (by omega)
    cases hr : rightB l with
    | true => rfl
    | false => exact absurd (.inr (.inr (.inl hr))) hlong

end Go.Proofs.Ytlggjljgeflboaa
