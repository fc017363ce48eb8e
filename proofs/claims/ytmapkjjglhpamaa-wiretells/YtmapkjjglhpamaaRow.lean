/-
  A slice of whole numbers that reads as a list, nil let in; the functions that only read one: Right, number, Get, and the document's Right, Get, Same.
-/
import Derived.WalkKit
import Derived.WalkSpells
import Derived.WalkLawsBesides
import Derived.Deep.QuietTactic
import Derived.BigQuiet
import Derived.Lib.Hide
import Derived.Laws.BitsAllLaws
import Derived.Laws.BitsLemmas
import Derived.Test.YtmapkjjglhpamaaBase
namespace Go.Proofs.Ytmapkjjglhpamaa
open Go.RowKit


set_option maxHeartbeats 400000 in
theorem right_any (l : List Int) (A : Option Addr) (c B : Nat) (w : World) (h : Row .i64 w B A l) (hl : l.length ≤ maxLen) :
    Calls Try.prog 83 #[.slice A l.length c] w fun e w' => e = .returned (.bool (rightB l)) ∧ w = w' := by
  unfold maxLen at hl
  go_enter Try.func83, Try.ntmps83
  go_wp2
  go_loop [7] (fun i => ∃ k : Nat, k ≤ l.length ∧ i = .int .i64 k ∧ rightB (l.take k) = true) (fun i => l.length - (intOf i).toNat)
  case atStart => exact ⟨0, Nat.zero_le _, rfl, by simp [rightB]⟩
  case round =>
    obtain ⟨k, hk, rfl, hr⟩ := hrel
    have Hr := Lib.hid hr
    clear hr
    by_cases hlt : k < l.length
    · obtain ⟨ad, x, rfl, hx, hc⟩ := h.get_ hlt
      have Hx := Lib.hid hx
      clear hx
      by_cases h0 : x = 0
      · subst h0
        go_wp2
        go_round
        case rel => exact ⟨k + 1, by omega, by go_num, by rw [take_snoc Hx.out, rightB_snoc, Hr.out]; rfl⟩
        case measure => simp [intOf]; omega
      · by_cases h1 : x = 1
        · subst h1
          go_wp2
          go_round
          case rel => exact ⟨k + 1, by omega, by go_num, by rw [take_snoc Hx.out, rightB_snoc, Hr.out]; rfl⟩
          case measure => simp [intOf]; omega
        · have d0 : (x != 0) = true := by simp [h0]
          have d1 : (x != 1) = true := by simp [h1]
          go_wp2
          go_ret
          exact ⟨ret_bool (rightB_no Hx.out (by omega)).symm, rfl⟩
    · obtain rfl : k = l.length := by omega
      go_wp2
      go_ret
      exact ⟨ret_bool (by rw [List.take_length] at Hr; exact Hr.out.symm), rfl⟩

set_option maxHeartbeats 400000 in
theorem refRight_any (l : List Int) (A : Option Addr) (c B : Nat) (w : World) (h : Row .i64 w B A l) (hl : l.length ≤ maxLen) :
    Calls Try.prog 21 #[.slice A l.length c] w fun e w' => e = .returned (.bool (rightB l)) ∧ w = w' := by
  unfold maxLen at hl
  go_enter Try.func21, Try.ntmps21
  go_wp2
  go_loop [3] (fun i => ∃ k : Nat, k ≤ l.length ∧ i = .int .i64 k ∧ rightB (l.take k) = true) (fun i => l.length - (intOf i).toNat)
  case atStart => exact ⟨0, Nat.zero_le _, rfl, by simp [rightB]⟩
  case round =>
    obtain ⟨k, hk, rfl, hr⟩ := hrel
    have Hr := Lib.hid hr
    clear hr
    by_cases hlt : k < l.length
    · obtain ⟨ad, x, rfl, hx, hc⟩ := h.get_ hlt
      have Hx := Lib.hid hx
      clear hx
      by_cases h0 : x = 0
      · subst h0
        go_wp2
        go_round
        case rel => exact ⟨k + 1, by omega, by go_num, by rw [take_snoc Hx.out, rightB_snoc, Hr.out]; rfl⟩
        case measure => simp [intOf]; omega
      · by_cases h1 : x = 1
        · subst h1
          go_wp2
          go_round
          case rel => exact ⟨k + 1, by omega, by go_num, by rw [take_snoc Hx.out, rightB_snoc, Hr.out]; rfl⟩
          case measure => simp [intOf]; omega
        · have d0 : (x != 0) = true := by simp [h0]
          have d1 : (x != 1) = true := by simp [h1]
          go_wp2
          go_ret
          exact ⟨ret_bool (rightB_no Hx.out (by omega)).symm, rfl⟩
    · obtain rfl : k = l.length := by omega
      go_wp2
      go_ret
      exact ⟨ret_bool (by rw [List.take_length] at Hr; exact Hr.out.symm), rfl⟩

theorem ofInt64 (a : Nat) (ha : a < 9223372036854775808) : (BitVec.ofInt 64 (a : Int)).toNat = a := by
  rw [BitVec.ofInt_natCast, BitVec.toNat_ofNat]; exact Nat.mod_eq_of_lt (by omega)
theorem or_bit (n : Nat) (x : Int) (hn : n < 4294967296) (hx : x = 0 ∨ x = 1) : bits .or .i64 ((n : Int) * 2) x = ((2 * n + x.toNat : Nat) : Int) := by
  obtain ⟨b, rfl, hb⟩ : ∃ b : Nat, x = (b : Int) ∧ b < 2 := by
    rcases hx with rfl | rfl
    · exact ⟨0, rfl, by omega⟩
    · exact ⟨1, rfl, by omega⟩
  have e : ((n : Int) * 2) = ((2 * n : Nat) : Int) := by omega
  rw [e]
  show IntKind.i64.wrap ((BitVec.ofInt 64 ((2 * n : Nat) : Int) ||| BitVec.ofInt 64 (b : Int)).toNat : Int) = _
  rw [BitVec.toNat_or, ofInt64 _ (by omega), ofInt64 _ (by omega), IntKind.wrap_i64]
  have h2 : 2 * n ||| b = 2 * n + b := by
    have := Nat.two_pow_add_eq_or_of_lt (i := 1) (b := b) (by simpa using hb) n
    simpa using this.symm
  rw [h2, Int.toNat_natCast]
  omega

set_option maxHeartbeats 400000 in
theorem number_any (l : List Int) (A : Option Addr) (c B : Nat) (w : World) (h : Row .i64 w B A l) (hl : l.length ≤ 32) (hr : rightB l = true) :
    Calls Try.prog 84 #[.slice A l.length c] w fun e w' => e = .returned (.int .i64 (numOf l)) ∧ w = w' := by
  have HR := Lib.hid hr
  clear hr
  go_enter Try.func84, Try.ntmps84
  go_wp2
  go_loop [3, 8] (fun n i => ∃ k : Nat, k ≤ l.length ∧ i = .int .i64 k ∧ n = .int .i64 (numOf (l.take k))) (fun _ i => l.length - (intOf i).toNat)
  case atStart => exact ⟨0, Nat.zero_le _, rfl, rfl⟩
  case round =>
    obtain ⟨k, hk, rfl, rfl⟩ := hrel
    have hlt31 : numOf (l.take k) < 4294967296 := by
      have h1 := numOf_lt (l.take k) (rightB_take HR.out k)
      have h2 : (l.take k).length ≤ 32 := by simp; omega
      have h3 := Nat.pow_le_pow_right (n := 2) (by omega) h2
      omega
    by_cases hlt : k < l.length
    · obtain ⟨ad, x, rfl, hx, hc⟩ := h.get_ hlt
      have hb := rightB_at HR.out hx
      have hsn : numOf (l.take (k + 1)) = 2 * numOf (l.take k) + x.toNat := by rw [take_snoc hx, numOf_snoc]
      have Hs := Lib.hid hsn
      have hor := or_bit (numOf (l.take k)) x hlt31 hb
      have Ho := Lib.hid hor
      have Hb := Lib.hid hb
      clear hsn hb hx hor
      go_wp2
      go_round
      case rel => exact ⟨k + 1, by omega, by go_num, by rw [Hs.out, Ho.out]⟩
      case measure => simp [intOf]; omega
    · obtain rfl : k = l.length := by omega
      go_wp2
      go_ret
      exact ⟨rfl, rfl⟩

theorem number_at (l : List Int) (n : Nat) (hn : l.length = n) (A : Option Addr) (c B : Nat) (w : World) (h : Row .i64 w B A l) (hr : rightB l = true) (hl : n ≤ 32 := by omega) :
    Calls Try.prog 84 #[.slice A n c] w fun e w' => e = .returned (.int .i64 (numOf l)) ∧ w = w' := by
  subst hn
  exact number_any l A c B w h hl hr

/-- Get of a row: its number, if it is right and no longer than 32. -/
def getOk (l : List Int) : Bool := decide (l.length ≤ 32) && rightB l

set_option maxHeartbeats 400000 in
theorem get_yes (l : List Int) (A : Option Addr) (c B : Nat) (w : World) (h : Row .i64 w B A l) (hg : getOk l = true) :
    Calls Try.prog 81 #[.slice A l.length c] w fun e w' => e = .returned (.tuple #[.int .i64 (numOf l), .bool true]) ∧ w = w' := by
  simp only [getOk, Bool.and_eq_true, decide_eq_true_eq] at hg
  obtain ⟨hl, hr⟩ := hg
  have d1 : decide (32 < (l.length : Int)) = false := by simp; omega
  have HR := Lib.hid hr
  have hm : l.length ≤ maxLen := by unfold maxLen; omega
  go_enter Try.func81, Try.ntmps81
  go_wp2_with (first
    | (go_at_call 83; refine (right_any l A c B _ h hm).mono ?_; rintro e w' ⟨rfl, rfl⟩)
    | (go_at_call 84; refine (number_any l A c B _ h hl HR.out).mono ?_; rintro e w' ⟨rfl, rfl⟩))
  go_ret2
  exact ⟨rfl, rfl⟩

set_option maxHeartbeats 400000 in
theorem get_no (l : List Int) (A : Option Addr) (c B : Nat) (w : World) (h : Row .i64 w B A l) (hm : l.length ≤ maxLen) (hg : getOk l = false) :
    Calls Try.prog 81 #[.slice A l.length c] w fun e w' => e = .returned (.tuple #[.int .i64 0, .bool false]) ∧ w = w' := by
  by_cases hl : 32 < l.length
  · have d1 : decide (32 < (l.length : Int)) = true := by simp; omega
    clear hg
    go_enter Try.func81, Try.ntmps81
    go_wp2
    go_ret2
    exact ⟨rfl, rfl⟩
  · have d1 : decide (32 < (l.length : Int)) = false := by simp; omega
    have hr : rightB l = false := by
      cases e : rightB l with
      | false => rfl
      | true => rw [getOk, e, Bool.and_true] at hg; simp at hg; omega
    clear hg
    go_enter Try.func81, Try.ntmps81
    go_wp2_with (go_at_call 83; refine (right_any l A c B _ h hm).mono ?_; rintro e w' ⟨rfl, rfl⟩)
    go_ret2
    exact ⟨rfl, rfl⟩

set_option maxHeartbeats 800000 in
theorem refGet_yes (l : List Int) (A : Option Addr) (c B : Nat) (w : World) (h : Row .i64 w B A l) (hg : getOk l = true) :
    Calls Try.prog 59 #[.slice A l.length c] w fun e w' => e = .returned (.tuple #[.int .i64 (numOf l), .bool true]) ∧ w = w' := by
  simp only [getOk, Bool.and_eq_true, decide_eq_true_eq] at hg
  obtain ⟨hl, hr⟩ := hg
  have d1 : decide (32 < (l.length : Int)) = false := by simp; omega
  have HR := Lib.hid hr
  have hm : l.length ≤ maxLen := by unfold maxLen; omega
  go_enter Try.func59, Try.ntmps59
  go_wp2_with (go_at_call 21; refine (refRight_any l A c B _ h hm).mono ?_; rintro e w' ⟨rfl, rfl⟩)
  go_loop [4, 5] (fun n i => ∃ k : Nat, k ≤ l.length ∧ i = .int .i64 k ∧ n = .int .i64 (numOf (l.take k))) (fun _ i => l.length - (intOf i).toNat)
  case atStart => exact ⟨0, Nat.zero_le _, rfl, rfl⟩
  case round =>
    obtain ⟨k, hk, rfl, rfl⟩ := hrel
    have hlt31 : numOf (l.take k) < 4294967296 := by
      have h1 := numOf_lt (l.take k) (rightB_take HR.out k)
      have h2 : (l.take k).length ≤ 32 := by simp; omega
      have h3 := Nat.pow_le_pow_right (n := 2) (by omega) h2
      omega
    by_cases hlt : k < l.length
    · obtain ⟨ad, x, rfl, hx, hc⟩ := h.get_ hlt
      have hb := rightB_at HR.out hx
      have hb0 : 0 ≤ x := by omega
      have hb1 : x ≤ 1 := by omega
      have hsn : numOf (l.take (k + 1)) = 2 * numOf (l.take k) + x.toNat := by rw [take_snoc hx, numOf_snoc]
      have Hs := Lib.hid hsn
      clear hsn hb hx
      go_wp2
      go_round
      case rel => exact ⟨k + 1, by omega, by go_num, by rw [Hs.out]; exact congrArg (Value.int .i64) (by omega)⟩
      case measure => simp [intOf]; omega
    · obtain rfl : k = l.length := by omega
      go_wp2
      go_ret2
      exact ⟨rfl, rfl⟩

set_option maxHeartbeats 400000 in
theorem refGet_no (l : List Int) (A : Option Addr) (c B : Nat) (w : World) (h : Row .i64 w B A l) (hm : l.length ≤ maxLen) (hg : getOk l = false) :
    Calls Try.prog 59 #[.slice A l.length c] w fun e w' => e = .returned (.tuple #[.int .i64 0, .bool false]) ∧ w = w' := by
  by_cases hl : 32 < l.length
  · have d1 : decide (32 < (l.length : Int)) = true := by simp; omega
    clear hg
    go_enter Try.func59, Try.ntmps59
    go_wp2
    go_ret2
    exact ⟨rfl, rfl⟩
  · have d1 : decide (32 < (l.length : Int)) = false := by simp; omega
    have hr : rightB l = false := by
      cases e : rightB l with
      | false => rfl
      | true => rw [getOk, e, Bool.and_true] at hg; simp at hg; omega
    clear hg
    go_enter Try.func59, Try.ntmps59
    go_wp2_with (go_at_call 21; refine (refRight_any l A c B _ h hm).mono ?_; rintro e w' ⟨rfl, rfl⟩)
    go_ret2
    exact ⟨rfl, rfl⟩

set_option maxHeartbeats 800000 in
theorem same_any (a b : List Int) (A A' : Option Addr) (c c' B B' : Nat) (w : World) (h : Row .i64 w B A a) (h' : Row .i64 w B' A' b) (hl : a.length ≤ maxLen) :
    Calls Try.prog 14 #[.slice A a.length c, .slice A' b.length c'] w fun e w' => e = .returned (.bool (sameB a b)) ∧ ∃ k, w' = w.drewN k := by
  unfold maxLen at hl
  by_cases hlen : a.length = b.length
  · have hd : ((a.length : Int) != (b.length : Int)) = false := by simp [hlen]
    have Hlen := Lib.hid hlen
    have hlb : b.length ≤ 9223372036854775807 := by omega
    clear hlen
    go_enter Try.func14, Try.ntmps14
    go_wp2
    go_loopw [5] (fun i wr => ∃ k q : Nat, k ≤ a.length ∧ i = .int .i64 k ∧ (∀ j, j < k → a[j]? = b[j]?) ∧ wr = w.drewN q) (fun i _ => a.length - (intOf i).toNat)
    case atStart => exact ⟨0, 0, Nat.zero_le _, rfl, fun j hj => absurd hj (by omega), rfl⟩
    case round =>
      obtain ⟨k, q, hk, rfl, hr, rfl⟩ := hrel
      have Hr := Lib.hid hr
      clear hr
      by_cases hlt : k < a.length
      · obtain ⟨ad, x, rfl, hx, hc⟩ := h.get_ hlt
        obtain ⟨ad', y, rfl, hy, hc'⟩ := h'.get_ (k := k) (by have := Hlen.out; omega)
        have hlt' : k < b.length := by have := Hlen.out; omega
        have Hx := Lib.hid hx
        have Hy := Lib.hid hy
        clear hx hy
        by_cases hxy : x = y
        · have hd2 : (x != y) = false := by simp [hxy]
          have Hxy := Lib.hid hxy
          clear hxy
          go_wp2
          go_quiet (fail)
          go_wp2
          refine ⟨⟨k + 1, _, by omega, by go_num, fun j hj => ?_, rfl⟩, by simp [intOf]; omega⟩
          by_cases hjk : j < k
          · exact Hr.out j hjk
          · obtain rfl : j = k := by omega
            rw [Hx.out, Hy.out, Hxy.out]
        · have hd2 : (x != y) = true := by simp [hxy]
          have Hxy := Lib.hid hxy
          clear hxy
          go_wp2
          go_quiet (fail)
          go_wp2
          go_ret
          refine ⟨ret_bool ?_, q + nq, by rw [World.drewN_drewN]⟩
          simp only [sameB]
          symm
          simp only [decide_eq_false_iff_not]
          intro e
          subst e
          exact Hxy.out (Option.some.inj (Hx.out.symm.trans Hy.out))
      · obtain rfl : k = a.length := by omega
        go_wp2
        go_ret
        refine ⟨ret_bool ?_, _, rfl⟩
        simp only [sameB]
        symm
        simp only [decide_eq_true_eq]
        exact take_all Hlen.out Hr.out
  · have hd : ((a.length : Int) != (b.length : Int)) = true := by simp; omega
    have Hlen := Lib.hid hlen
    clear hlen
    go_enter Try.func14, Try.ntmps14
    go_wp2
    go_ret
    exact ⟨ret_bool (by simp [sameB]; intro e; exact Hlen.out (by rw [e])), 0, rfl⟩

end Go.Proofs.Ytmapkjjglhpamaa
