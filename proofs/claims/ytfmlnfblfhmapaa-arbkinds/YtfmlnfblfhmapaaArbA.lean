/-
  slices.Index, slices.Contains, arb.And, a field's bit.
-/
import Derived.Test.YtfmlnfblfhmapaaArbMath
namespace Go.Proofs.Ytfmlnfblfhmapaa
open Go.RowKit
set_option linter.unusedVariables false

set_option maxHeartbeats 800000 in
theorem index_any (l : List Int) (v : Int) (n : Nat) (hn : l.length = n) (A : Option Addr) (c B : Nat) (w : World) (h : Row .i64 w B A l) (hl : n ≤ maxLen) :
    Calls Try.prog 26 #[.slice A n c, .int .i64 v] w fun e w' => e = .returned (.int .i64 (idxI v l)) ∧ w = w' := by
  unfold maxLen at hl
  have Hn := Lib.hid hn
  clear hn
  go_enter Try.func26, Try.ntmps26
  go_wp2
  go_loop [8] (fun i => ∃ k : Nat, k ≤ n ∧ i = .int .i64 k ∧ (∀ j : Nat, j < k → l[j]? ≠ some v)) (fun i => n - (intOf i).toNat)
  case atStart => exact ⟨0, Nat.zero_le _, rfl, fun j hj => absurd hj (by omega)⟩
  case round =>
    obtain ⟨k, hk, rfl, hr⟩ := hrel
    have Hr := Lib.hid hr
    clear hr
    by_cases hlt : k < n
    · obtain ⟨ad, x, rfl, hx, hc⟩ := h.get_ (k := k) (by rw [Hn.out]; exact hlt)
      have Hx := Lib.hid hx
      clear hx
      by_cases hxy : v = x
      · have hd2 : (v == x) = true := by simp [hxy]
        have Hxy := Lib.hid hxy
        clear hxy
        go_wp2
        go_ret
        refine ⟨ret_int ?_, rfl⟩
        exact (idxI_at (by rw [Hx.out, Hxy.out]) Hr.out).symm
      · have hd2 : (v == x) = false := by simp [hxy]
        have Hxy := Lib.hid hxy
        clear hxy
        go_wp2
        go_round
        case measure => simp [intOf]; omega
        refine ⟨k + 1, by omega, by go_num, fun j hj => ?_⟩
        by_cases hjk : j < k
        · exact Hr.out j hjk
        · obtain rfl : j = k := by omega
          rw [Hx.out]
          exact fun e => Hxy.out (Option.some.inj e).symm
    · obtain rfl : k = n := by omega
      go_wp2
      go_ret
      refine ⟨ret_int ?_, rfl⟩
      refine (idxI_none fun hm => ?_).symm
      obtain ⟨j, hj, e⟩ := List.getElem_of_mem hm
      exact Hr.out j (by rw [← Hn.out]; exact hj) (by rw [List.getElem?_eq_getElem hj, e])

def idxGe (l : List Int) (v : Int) : Bool := decide (0 ≤ idxI v l)
theorem idxGe_mem (l : List Int) (v : Int) : idxGe l v = decide (v ∈ l) := by
  unfold idxGe
  rcases idxI_cases v l with ⟨h1, h2⟩ | ⟨k, h1, _, h2⟩
  · simp [h1, h2]
  · have := List.mem_of_getElem? h1
    simp [this, h2]

set_option maxHeartbeats 800000 in
theorem contains_any (l : List Int) (v : Int) (n : Nat) (hn : l.length = n) (A : Option Addr) (c B : Nat) (w : World) (h : Row .i64 w B A l) (hl : n ≤ maxLen) (q : Bool) (hq : decide (v ∈ l) = q) :
    Calls Try.prog 30 #[.slice A n c, .int .i64 v] w fun e w' => e = .returned (.bool q) ∧ w = w' := by
  obtain ⟨x, hx⟩ : ∃ x, idxI v l = x := ⟨_, rfl⟩
  have hg := (idxGe_mem l v).trans hq
  unfold idxGe at hg
  rw [hx] at hg
  have Hx := Lib.hid hx
  clear hx hq
  go_enter Try.func30, Try.ntmps30
  go_wp2_with (go_at_call 26; refine (index_any l v n hn A c B w h hl).mono ?_; rw [Hx.out]; rintro e w' ⟨rfl, rfl⟩)
  go_ret
  exact ⟨rfl, rfl⟩

set_option maxHeartbeats 800000 in
theorem and_any (l : List Int) (n : Nat) (hn : l.length = n) (A : Option Addr) (c B : Nat) (w : World) (h : Row .i64 w B A l) (hl : n ≤ maxLen) (x : Int) (hx : andL l = x) :
    Calls Try.prog 21 #[.slice A n c] w fun e w' => e = .returned (.int .i64 x) ∧ w = w' := by
  have Hn := Lib.hid hn
  clear hn
  by_cases h0 : (0 : Int) ∈ l
  · obtain rfl : 0 = x := by rw [← hx]; simp [andL, h0]
    clear hx
    go_enter Try.func21, Try.ntmps21
    go_wp2_with (go_at_call 30; refine (contains_any l 0 n Hn.out A c B w h hl true (by simp [h0])).mono ?_; rintro e w' ⟨rfl, rfl⟩)
    go_ret
    exact ⟨rfl, rfl⟩
  · obtain rfl : 1 = x := by rw [← hx]; simp [andL, h0]
    clear hx
    go_enter Try.func21, Try.ntmps21
    go_wp2_with (go_at_call 30; refine (contains_any l 0 n Hn.out A c B w h hl false (by simp [h0])).mono ?_; rintro e w' ⟨rfl, rfl⟩)
    go_ret
    exact ⟨rfl, rfl⟩

theorem bit_yes (l : List Int) (n : Nat) (hn : l.length = n) (A : Option Addr) (c B p : Nat) (x : Int) (hx : l[p]? = some x) (w : World) (h : Row .i64 w B A l) (hl : n ≤ 1000) :
    Calls Try.prog 33 #[.slice A n c, .int .i64 p] w fun e w' => e = .returned (.tuple #[.int .i64 x, .bool true]) ∧ w = w' := by
  have hp : p < n := by rw [← hn]; exact (List.getElem?_eq_some_iff.1 hx).1
  obtain ⟨ad, y, rfl, hy, hc⟩ := h.get_ (k := p) (by rw [hn]; exact hp)
  obtain rfl : y = x := by rw [hx] at hy; exact (Option.some.inj hy).symm
  clear hx hy h hn
  go_enter Try.func33, Try.ntmps33
  go_wp2
  go_ret2
  exact ⟨rfl, rfl⟩
theorem bit_no (n : Nat) (A : Option Addr) (c p : Nat) (hp : n ≤ p) (w : World) (hl : p ≤ 1000) :
    Calls Try.prog 33 #[.slice A n c, .int .i64 p] w fun e w' => e = .returned (.tuple #[.int .i64 0, .bool false]) ∧ w = w' := by
  go_enter Try.func33, Try.ntmps33
  go_wp2
  go_ret2
  exact ⟨rfl, rfl⟩

end Go.Proofs.Ytfmlnfblfhmapaa
