/-
  The document's own answers of layer 3: Bits, Ints, five, Turned, Stuff, Strip, Runs.
-/
import Derived.Test.YtlbefdonpnignaaStrip
namespace Go.Proofs.Ytlbefdonpnignaa
open Go.RowKit

/-- A number's lowest bit. -/
def low (x : Int) : Int := bits .and .i64 x 1
theorem low_01 (x : Int) : low x = 0 ∨ low x = 1 := by
  have e : low x = IntKind.i64.wrap ((BitVec.ofInt 64 x &&& BitVec.ofInt 64 ((1 : Nat) : Int)).toNat : Int) := rfl
  rw [e, BitVec.ofInt_natCast, BitVec.toNat_and, BitVec.toNat_ofNat, Nat.mod_eq_of_lt (show 1 < 2 ^ 64 by omega), Nat.and_one_is_mod, IntKind.wrap_i64]
  omega
def lowL (l : List Int) : List Int := (l.take 300).map low
theorem lowL_right (l : List Int) : rightB (lowL l) = true := by
  unfold rightB lowL
  rw [List.all_eq_true]
  intro x hx
  obtain ⟨y, _, rfl⟩ := List.mem_map.1 hx
  simpa using low_01 y
theorem lowL_len (l : List Int) : (lowL l).length ≤ 300 := by
  unfold lowL
  rw [List.length_map, List.length_take]
  omega
theorem map_snoc {l : List Int} {k : Nat} {x : Int} (f : Int → Int) (hx : l[k]? = some x) : (l.take (k + 1)).map f = (l.take k).map f ++ [f x] := by
  rw [take_snoc hx, List.map_append]; rfl

set_option maxRecDepth 100000 in
set_option maxHeartbeats 1000000 in
theorem refBits_any (l : List Int) (A : Option Addr) (c : Nat) (w : World) (h : Row .i64 w w.heap.size A l) (hm : l.length ≤ maxLen) :
    Calls Try.prog 12 #[.slice A l.length c, .int .i64 300] w fun e w' => ∃ A' c' m, e = .returned (.slice A' m c') ∧ (lowL l).length = m ∧ m ≤ c' ∧
      w'.ownsRow w.heap.size 3 1 (.slice A' m c') m ((lowL l).map (Value.int .i64)) ∧ Below w.heap.size w w' := by
  obtain ⟨i0, hi, hz0, hz1, hz2⟩ := info_parts Try.infoInt
  unfold maxLen at hm
  go_enter Try.func12, Try.ntmps12
  go_wp2_with fail
  go_loopw [5, 6] (fun o i wr => ∃ (k : Nat) (A' : Option Addr) (c' : Nat), k ≤ l.length ∧ k ≤ 300 ∧ i = .int .i64 k ∧ o = .slice A' k c' ∧ k ≤ c' ∧
      wr.ownsRow w.heap.size 3 1 (.slice A' k c') k (((l.take k).map low).map (Value.int .i64)) ∧ Below w.heap.size w wr)
    (fun _ i _ => l.length - (intOf i).toNat)
  case atStart => exact ⟨0, _, 0, Nat.zero_le _, Nat.zero_le _, rfl, rfl, Nat.le_refl _, own_lit w .i64 [] 0 rfl 3 rfl (by decide), (Below.refl _ _).alloc (Nat.le_refl _) _⟩
  case round =>
    obtain ⟨k, A', c', hk, hk3, rfl, rfl, hkc, hown, hB⟩ := hrel
    have hsz := hB.size
    by_cases hlt : k < l.length
    · by_cases hl3 : k < 300
      · obtain ⟨ad, x, rfl, hx, hc⟩ := (h.below hB).get_ hlt
        have Hs := Lib.hid (map_snoc low hx)
        obtain ⟨y, hy⟩ : ∃ y, bits .and .i64 x 1 = y := ⟨_, rfl⟩
        have Hy := Lib.hid (show low x = y from hy)
        clear hx
        go_wp2_with (at_builtin; refine wpList_append_row _ .i64 rfl _ _ 22 rfl w.heap.size 3 i0 (.int .i64 0) 8 Try.underlying22 hi hz0 hz1 hz2 rfl _ k ((l.take k).map low) rfl (hown.alloc _) (some ⟨wr.heap.size, 0, none⟩) 1 1 _ [y] rfl rfl (Row.lit wr .i64 [y] 3 rfl) (by unfold maxLen; omega) (by omega) (by simp; omega) ?_; intro A2 c2 w2 hown2 hc2 hB2)
        have hBB : Below w.heap.size w w2 := (hB.alloc hsz _).trans hB2
        exact ⟨⟨k + 1, A2, c2, by omega, by omega, by go_num, rfl, hc2, by rw [Hs.out, Hy.out]; exact hown2, hBB⟩, by simp [intOf]; omega⟩
      · obtain rfl : k = 300 := by omega
        have hl : (lowL l).length = 300 := by unfold lowL; rw [List.length_map, List.length_take]; omega
        go_wp2
        go_ret
        exact ⟨A', c', 300, rfl, hl, hkc, hown, hB⟩
    · obtain rfl : k = l.length := by omega
      have e : l.take l.length = l.take 300 := by rw [List.take_length, List.take_of_length_le (by omega)]
      rw [e] at hown
      have hl : (lowL l).length = l.length := by unfold lowL; rw [List.length_map, List.length_take]; omega
      clear e
      go_wp2
      go_ret
      exact ⟨A', c', _, rfl, hl, hkc, hown, hB⟩

set_option maxHeartbeats 800000 in
theorem ints_any (a b : List Int) (A A' : Option Addr) (c c' B B' : Nat) (w : World) (h : Row .i64 w B A a) (h' : Row .i64 w B' A' b) (hl : a.length ≤ maxLen) (hlb : b.length ≤ maxLen) :
    Calls Try.prog 15 #[.slice A a.length c, .slice A' b.length c'] w fun e w' => e = .returned (.bool (sameB a b)) ∧ ∃ k, w' = w.drewN k := by
  unfold maxLen at hl hlb
  by_cases hlen : a.length = b.length
  · have hd : ((a.length : Int) != (b.length : Int)) = false := by simp [hlen]
    have Hlen := Lib.hid hlen
    clear hlen
    go_enter Try.func15, Try.ntmps15
    go_wp2
    go_loopw [5] (fun i wr => ∃ k q : Nat, k ≤ a.length ∧ i = .int .i64 k ∧ (∀ j, j < k → a[j]? = b[j]?) ∧ wr = w.drewN q) (fun i _ => a.length - (intOf i).toNat)
    case atStart => exact ⟨0, 0, Nat.zero_le _, rfl, fun j hj => absurd hj (by omega), rfl⟩
    case round =>
      obtain ⟨k, q, hk, rfl, hr, rfl⟩ := hrel
      have Hr := Lib.hid hr
      clear hr
      by_cases hlt : k < a.length
      · obtain ⟨ad, x, rfl, hx, hc⟩ := h.get_ hlt
        obtain ⟨ad', y, rfl, hy, hc'⟩ := h'.get_ (k := k) (by have := Hlen.out; omega)
        have hlt' : k < b.length := by have := Hlen.out; omega
        have Hx := Lib.hid hx
        have Hy := Lib.hid hy
        clear hx hy
        by_cases hxy : x = y
        · have hd2 : (x != y) = false := by simp [hxy]
          have Hxy := Lib.hid hxy
          clear hxy
          go_wp2
          go_quiet (fail)
          go_wp2
          refine ⟨⟨k + 1, _, by omega, by go_num, fun j hj => ?_, rfl⟩, by simp [intOf]; omega⟩
          by_cases hjk : j < k
          · exact Hr.out j hjk
          · obtain rfl : j = k := by omega
            rw [Hx.out, Hy.out, Hxy.out]
        · have hd2 : (x != y) = true := by simp [hxy]
          have Hxy := Lib.hid hxy
          clear hxy
          go_wp2
          go_quiet (fail)
          go_wp2
          go_ret
          refine ⟨ret_bool ?_, q + nq, by rw [World.drewN_drewN]⟩
          simp only [sameB]
          symm
          simp only [decide_eq_false_iff_not]
          intro e
          subst e
          exact Hxy.out (Option.some.inj (Hx.out.symm.trans Hy.out))
      · obtain rfl : k = a.length := by omega
        go_wp2
        go_ret
        refine ⟨ret_bool ?_, _, rfl⟩
        simp only [sameB]
        symm
        simp only [decide_eq_true_eq]
        exact take_all Hlen.out Hr.out
  · have hd : ((a.length : Int) != (b.length : Int)) = true := by simp; omega
    have Hlen := Lib.hid hlen
    clear hlen
    go_enter Try.func15, Try.ntmps15
    go_wp2
    go_ret
    exact ⟨ret_bool (by simp [sameB]; intro e; exact Hlen.out (by rw [e])), 0, rfl⟩

set_option maxRecDepth 100000 in
set_option maxHeartbeats 1000000 in
theorem turned_any (l : List Int) (A : Option Addr) (c : Nat) (w : World) (h : Row .i64 w w.heap.size A l) (hr : rightB l = true) (hm : l.length ≤ 100000) :
    Calls Try.prog 20 #[.slice A l.length c] w fun e w' => ∃ A' c', e = .returned (.slice A' l.length c') ∧ l.length ≤ c' ∧
      w'.ownsRow w.heap.size 3 1 (.slice A' l.length c') l.length ((turned l).map (Value.int .i64)) ∧ Below w.heap.size w w' := by
  obtain ⟨i0, hi, hz0, hz1, hz2⟩ := info_parts Try.infoInt
  have HR := Lib.hid hr
  clear hr
  go_enter Try.func20, Try.ntmps20
  go_wp2_with fail
  go_loopw [3, 4] (fun o i wr => ∃ (k : Nat) (A' : Option Addr) (c' : Nat), k ≤ l.length ∧ i = .int .i64 k ∧ o = .slice A' k c' ∧ k ≤ c' ∧
      wr.ownsRow w.heap.size 3 1 (.slice A' k c') k ((turned (l.take k)).map (Value.int .i64)) ∧ Below w.heap.size w wr)
    (fun _ i _ => l.length - (intOf i).toNat)
  case atStart => exact ⟨0, _, 0, Nat.zero_le _, rfl, rfl, Nat.le_refl _, own_lit w .i64 [] 0 rfl 3 rfl (by decide), (Below.refl _ _).alloc (Nat.le_refl _) _⟩
  case round =>
    obtain ⟨k, A', c', hk, rfl, rfl, hkc, hown, hB⟩ := hrel
    have hsz := hB.size
    by_cases hlt : k < l.length
    · obtain ⟨ad, x, rfl, hx, hc⟩ := (h.below hB).get_ hlt
      have hb := rightB_at HR.out hx
      have hx0 : 0 ≤ x := by omega
      have hx1 : x ≤ 1 := by omega
      have Hs := Lib.hid (show turned (l.take (k + 1)) = turned (l.take k) ++ [1 - x] from map_snoc (1 - ·) hx)
      clear hx hb
      go_wp2_with (at_builtin; refine wpList_append_row _ .i64 rfl _ _ 22 rfl w.heap.size 3 i0 (.int .i64 0) 8 Try.underlying22 hi hz0 hz1 hz2 rfl _ k (turned (l.take k)) rfl (hown.alloc _) (some ⟨wr.heap.size, 0, none⟩) 1 1 _ [1 - x] rfl rfl (Row.lit wr .i64 [1 - x] 3 rfl) (by unfold maxLen; omega) (by omega) (by simp; omega) ?_; intro A2 c2 w2 hown2 hc2 hB2)
      have hBB : Below w.heap.size w w2 := (hB.alloc hsz _).trans hB2
      exact ⟨⟨k + 1, A2, c2, by omega, by go_num, rfl, hc2, by rw [Hs.out]; exact hown2, hBB⟩, by simp [intOf]; omega⟩
    · obtain rfl : k = l.length := by omega
      rw [List.take_length] at hown
      go_wp2
      go_ret
      exact ⟨A', c', rfl, hkc, hown, hB⟩

end Go.Proofs.Ytlbefdonpnignaa
