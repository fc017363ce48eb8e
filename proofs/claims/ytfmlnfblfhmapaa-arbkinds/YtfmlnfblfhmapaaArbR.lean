/-
  The document's Bits, Ints, Less, Rank (layers 3, 4, 6).
-/
import Derived.Test.YtfmlnfblfhmapaaArbG
import Derived.Test.YtfmlnfblfhmapaaRf6
namespace Go.Proofs.Ytfmlnfblfhmapaa
open Go.RowKit
set_option linter.unusedVariables false
set_option linter.unusedSimpArgs false

/-- A number's lowest bit. -/
def low (x : Int) : Int := bits .and .i64 x 1
theorem low_01 (x : Int) : low x = 0 ∨ low x = 1 := by
  have e : low x = IntKind.i64.wrap ((BitVec.ofInt 64 x &&& BitVec.ofInt 64 ((1 : Nat) : Int)).toNat : Int) := rfl
  rw [e, BitVec.ofInt_natCast, BitVec.toNat_and, BitVec.toNat_ofNat, Nat.mod_eq_of_lt (show 1 < 2 ^ 64 by omega), Nat.and_one_is_mod, IntKind.wrap_i64]
  omega
def lowM (M : Nat) (l : List Int) : List Int := (l.take M).map low
theorem lowM_right (M : Nat) (l : List Int) : rightB (lowM M l) = true := by
  unfold rightB lowM
  rw [List.all_eq_true]
  intro x hx
  obtain ⟨y, _, rfl⟩ := List.mem_map.1 hx
  simpa using low_01 y
theorem map_snoc {l : List Int} {k : Nat} {x : Int} (f : Int → Int) (hx : l[k]? = some x) : (l.take (k + 1)).map f = (l.take k).map f ++ [f x] := by
  rw [take_snoc hx, List.map_append]; rfl

set_option maxRecDepth 100000 in
set_option maxHeartbeats 1000000 in
theorem refBits_any (M : Nat) (hM : M ≤ 1000) (l : List Int) (A : Option Addr) (c : Nat) (w : World) (h : Row .i64 w w.heap.size A l) (hm : l.length ≤ maxLen) :
    Calls Try.prog 13 #[.slice A l.length c, .int .i64 M] w fun e w' => ∃ A' c' m, e = .returned (.slice A' m c') ∧ (lowM M l).length = m ∧ m ≤ c' ∧
      w'.ownsRow w.heap.size 3 1 (.slice A' m c') m ((lowM M l).map (Value.int .i64)) ∧ Below w.heap.size w w' := by
  obtain ⟨i0, hi, hz0, hz1, hz2⟩ := info_parts Try.infoInt
  unfold maxLen at hm
  go_enter Try.func13, Try.ntmps13
  go_wp2_with fail
  go_loopw [5, 6] (fun o i wr => ∃ (k : Nat) (A' : Option Addr) (c' : Nat), k ≤ l.length ∧ k ≤ M ∧ i = .int .i64 k ∧ o = .slice A' k c' ∧ k ≤ c' ∧
      wr.ownsRow w.heap.size 3 1 (.slice A' k c') k (((l.take k).map low).map (Value.int .i64)) ∧ Below w.heap.size w wr)
    (fun _ i _ => l.length - (intOf i).toNat)
  case atStart => exact ⟨0, _, 0, Nat.zero_le _, Nat.zero_le _, rfl, rfl, Nat.le_refl _, own_lit w .i64 [] 0 rfl 3 rfl (by decide), (Below.refl _ _).alloc (Nat.le_refl _) _⟩
  case round =>
    obtain ⟨k, A', c', hk, hk3, rfl, rfl, hkc, hown, hB⟩ := hrel
    have hsz := hB.size
    by_cases hlt : k < l.length
    · by_cases hl3 : k < M
      · obtain ⟨ad, x, rfl, hx, hc⟩ := (h.below hB).get_ hlt
        have Hs := Lib.hid (map_snoc low hx)
        obtain ⟨y, hy⟩ : ∃ y, bits .and .i64 x 1 = y := ⟨_, rfl⟩
        have Hy := Lib.hid (show low x = y from hy)
        clear hx
        go_wp2_with (at_builtin; refine wpList_append_row _ .i64 rfl _ _ 23 rfl w.heap.size 3 i0 (.int .i64 0) 8 Try.underlying23 hi hz0 hz1 hz2 rfl _ k ((l.take k).map low) rfl (hown.alloc _) (some ⟨wr.heap.size, 0, none⟩) 1 1 _ [y] rfl rfl (Row.lit wr .i64 [y] 3 rfl) (by unfold maxLen; omega) (by omega) (by simp; omega) ?_; intro A2 c2 w2 hown2 hc2 hB2)
        have hBB : Below w.heap.size w w2 := (hB.alloc hsz _).trans hB2
        exact ⟨⟨k + 1, A2, c2, by omega, by omega, by go_num, rfl, hc2, by rw [Hs.out, Hy.out]; exact hown2, hBB⟩, by simp [intOf]; omega⟩
      · obtain rfl : k = M := by omega
        have hl : (lowM k l).length = k := by unfold lowM; rw [List.length_map, List.length_take]; omega
        go_wp2
        go_ret
        exact ⟨A', c', k, rfl, hl, hkc, hown, hB⟩
    · obtain rfl : k = l.length := by omega
      have e : l.take l.length = l.take M := by rw [List.take_length, List.take_of_length_le (by omega)]
      rw [e] at hown
      have hl : (lowM M l).length = l.length := by unfold lowM; rw [List.length_map, List.length_take]; omega
      clear e
      go_wp2
      go_ret
      exact ⟨A', c', _, rfl, hl, hkc, hown, hB⟩

set_option maxHeartbeats 800000 in
theorem ints_any (a b : List Int) (A A' : Option Addr) (c c' B B' : Nat) (w : World) (h : Row .i64 w B A a) (h' : Row .i64 w B' A' b) (hl : a.length ≤ maxLen) (hlb : b.length ≤ maxLen) :
    Calls Try.prog 16 #[.slice A a.length c, .slice A' b.length c'] w fun e w' => e = .returned (.bool (sameB a b)) ∧ ∃ k, w' = w.drewN k := by
  unfold maxLen at hl hlb
  by_cases hlen : a.length = b.length
  · have hd : ((a.length : Int) != (b.length : Int)) = false := by simp [hlen]
    have Hlen := Lib.hid hlen
    clear hlen
    go_enter Try.func16, Try.ntmps16
    go_wp2
    go_loopw [5] (fun i wr => ∃ k q : Nat, k ≤ a.length ∧ i = .int .i64 k ∧ (∀ j, j < k → a[j]? = b[j]?) ∧ wr = w.drewN q) (fun i _ => a.length - (intOf i).toNat)
    case atStart => exact ⟨0, 0, Nat.zero_le _, rfl, fun j hj => absurd hj (by omega), rfl⟩
    case round =>
      obtain ⟨k, q, hk, rfl, hr, rfl⟩ := hrel
      have Hr := Lib.hid hr
      clear hr
      by_cases hlt : k < a.length
      · obtain ⟨ad, x, rfl, hx, hc⟩ := h.get_ hlt
        obtain ⟨ad', y, rfl, hy, hc'⟩ := h'.get_ (k := k) (by have := Hlen.out; omega)
        have hlt' : k < b.length := by have := Hlen.out; omega
        have Hx := Lib.hid hx
        have Hy := Lib.hid hy
        clear hx hy
        by_cases hxy : x = y
        · have hd2 : (x != y) = false := by simp [hxy]
          have Hxy := Lib.hid hxy
          clear hxy
          go_wp2
          go_quiet (fail)
          go_wp2
          refine ⟨⟨k + 1, _, by omega, by go_num, fun j hj => ?_, rfl⟩, by simp [intOf]; omega⟩
          by_cases hjk : j < k
          · exact Hr.out j hjk
          · obtain rfl : j = k := by omega
            rw [Hx.out, Hy.out, Hxy.out]
        · have hd2 : (x != y) = true := by simp [hxy]
          have Hxy := Lib.hid hxy
          clear hxy
          go_wp2
          go_quiet (fail)
          go_wp2
          go_ret
          refine ⟨ret_bool ?_, q + nq, by rw [World.drewN_drewN]⟩
          simp only [sameB]
          symm
          simp only [decide_eq_false_iff_not]
          intro e
          subst e
          exact Hxy.out (Option.some.inj (Hx.out.symm.trans Hy.out))
      · obtain rfl : k = a.length := by omega
        go_wp2
        go_ret
        refine ⟨ret_bool ?_, _, rfl⟩
        simp only [sameB]
        symm
        simp only [decide_eq_true_eq]
        exact take_all Hlen.out Hr.out
  · have hd : ((a.length : Int) != (b.length : Int)) = true := by simp; omega
    have Hlen := Lib.hid hlen
    clear hlen
    go_enter Try.func16, Try.ntmps16
    go_wp2
    go_ret
    exact ⟨ret_bool (by simp [sameB]; intro e; exact Hlen.out (by rw [e])), 0, rfl⟩


theorem ints_q (a b : List Int) (n m : Nat) (hn : a.length = n) (hm : b.length = m) (A A' : Option Addr) (c c' : Nat) (w : World) (h : Row .i64 w w.heap.size A a) (h' : Row .i64 w w.heap.size A' b) (hl : n ≤ maxLen) (hlb : m ≤ maxLen) (q : Bool) (hq : sameB a b = q) :
    Calls Try.prog 16 #[.slice A n c, .slice A' m c'] w fun e w' => e = .returned (.bool q) ∧ Below w.heap.size w w' := by
  subst hn hm hq
  refine (ints_any a b A A' c c' _ _ w h h' hl hlb).mono ?_
  rintro e w' ⟨rfl, k, rfl⟩
  exact ⟨rfl, below_drewN0 _ _⟩

set_option maxHeartbeats 800000 in
theorem lessGo_any (a b : List Int) (n m : Nat) (hn : a.length = n) (hm : b.length = m) (A A' : Option Addr) (c c' : Nat) (w : World) (h : Row .i64 w w.heap.size A a) (h' : Row .i64 w w.heap.size A' b) (hl : n ≤ 1000) (hlb : m ≤ 1000) (q : Bool) (hq : lessB a b = q) :
    Calls Try.prog 23 #[.slice A n c, .slice A' m c'] w fun e w' => e = .returned (.bool q) ∧ Below w.heap.size w w' := by
  have Hq := Lib.hid (And.intro hq (And.intro hn hm))
  clear hq hn hm
  go_enter Try.func23, Try.ntmps23
  go_wp2
  go_loopw [5] (fun i wr => ∃ k j : Nat, k ≤ n ∧ k ≤ m ∧ i = .int .i64 k ∧ a.take k = b.take k ∧ wr = w.drewN j) (fun i _ => n - (intOf i).toNat)
  case atStart => exact ⟨0, 0, Nat.zero_le _, Nat.zero_le _, rfl, by simp, rfl⟩
  case round =>
    obtain ⟨k, j, hk, hk2, rfl, hr, rfl⟩ := hrel
    have Hr := Lib.hid hr
    clear hr
    by_cases hlt : k < n
    · by_cases hlt2 : k < m
      · obtain ⟨ad, x, rfl, hx, hc⟩ := h.get_ (k := k) (by rw [Hq.out.2.1]; exact hlt)
        obtain ⟨ad', y, rfl, hy, hc'⟩ := h'.get_ (k := k) (by rw [Hq.out.2.2]; exact hlt2)
        have Hx := Lib.hid (And.intro hx hy)
        clear hx hy
        by_cases hxy : x = y
        · have hd2 : (x != y) = false := by simp [hxy]
          have Hxy := Lib.hid hxy
          clear hxy
          go_wp2
          go_quiet (fail)
          go_wp2
          exact ⟨⟨k + 1, _, by omega, by omega, by go_num, take_next Hr.out (by rw [Hx.out.1, Hx.out.2, Hxy.out]), rfl⟩, by simp [intOf]; omega⟩
        · have hd2 : (x != y) = true := by simp [hxy]
          have hl2 : lessB a b = decide (x < y) := lessB_at k a b x y Hr.out Hx.out.1 Hx.out.2 hxy
          rw [Hq.out.1] at hl2
          have hd3 : decide (x < y) = q := hl2.symm
          have Hxy := Lib.hid hxy
          clear hxy hl2
          go_wp2
          go_quiet (fail)
          go_wp2
          go_quiet (fail)
          go_wp2
          go_ret
          exact ⟨rfl, by first | exact below_drewN0 _ _ | (rw [World.drewN_drewN]; exact below_drewN0 _ _) | (rw [World.drewN_drewN, World.drewN_drewN]; exact below_drewN0 _ _)⟩
      · have hf : false = q := by rw [← Hq.out.1]; exact (lessB_end k a b Hr.out (.inr (by rw [Hq.out.2.2]; omega))).symm
        subst hf
        go_wp2
        go_ret
        exact ⟨rfl, below_drewN0 _ _⟩
    · have hf : false = q := by rw [← Hq.out.1]; exact (lessB_end k a b Hr.out (.inl (by rw [Hq.out.2.1]; omega))).symm
      subst hf
      go_wp2
      go_ret
      exact ⟨rfl, below_drewN0 _ _⟩

theorem refRankF_at (f : FV) (hf : FOk f) (n : Nat) (hn : (rankF f).length = n) (w : World) :
    Calls Try.prog 31 #[f.v] w fun e w' => ∃ A' c', e = .returned (.slice A' n c') ∧ Row .i64 w' w'.heap.size A' (rankF f) ∧ n ≤ c' ∧ Below w.heap.size w w' := by
  obtain ⟨x, i, r, m, a, l, c⟩ := f
  obtain ⟨ID, rfl, hID⟩ := hf
  have e : rn x = n := by rw [← hn, rankF_len]
  subst e
  cases x
  · refine (refRankS_at ID r m a l c hID w).mono ?_
    rintro e w' ⟨A', c', rfl, h1, h2, h3⟩
    exact ⟨A', c', rfl, by simpa [rankF, rankV] using h1, h2, h3⟩
  · refine (refRankX_at ID r m a l c hID w).mono ?_
    rintro e w' ⟨A', c', rfl, h1, h2, h3⟩
    exact ⟨A', c', rfl, by simpa [rankF, rankV] using h1, h2, h3⟩
set_option maxRecDepth 100000 in
theorem rank6_at (f : FV) (hf : FOk f) (n : Nat) (hn : (rankF f).length = n) (w : World) :
    Calls Try.prog 24 #[f.v] w fun e w' => ∃ A' c', e = .returned (.slice A' n c') ∧ Row .i64 w' w'.heap.size A' (rankF f) ∧ n ≤ c' ∧ Below w.heap.size w w' := by
  have Hn := Lib.hid hn
  clear hn
  go_enter Try.func24, Try.ntmps24
  go_wp2_with fail
  refine (refRankF_at f hf n Hn.out _).mono ?_
  rintro e w1 ⟨A1, c1, rfl, hr, hc, hB⟩
  go_wp2_with fail
  go_ret
  exact ⟨A1, c1, rfl, hr, hc, below_lit hB⟩

end Go.Proofs.Ytfmlnfblfhmapaa
