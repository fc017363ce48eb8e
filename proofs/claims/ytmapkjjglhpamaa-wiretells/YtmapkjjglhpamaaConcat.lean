/-
  slices.Grow of nil, slices.Concat of rows.
-/
import Derived.Test.YtmapkjjglhpamaaBack
import Derived.Lib.AppendZeros
namespace Go.Proofs.Ytmapkjjglhpamaa
open Go.RowKit

set_option maxRecDepth 100000 in
set_option maxHeartbeats 1000000 in
theorem grow_nil (n : Nat) (hn : n ≤ 1000000) (w : World) :
    Calls Try.prog 67 #[.slice none 0 0, .int .i64 n] w fun e w' => ∃ A c, e = .returned (.slice A 0 c) ∧ w'.ownsRow w.heap.size 3 1 (.slice A 0 c) 0 [] ∧ Below w.heap.size w w' := by
  obtain ⟨i0, hi, hz0, hz1, hz2⟩ := info_parts Try.infoInt
  by_cases h0 : n = 0
  · subst h0
    go_enter Try.func67, Try.ntmps67
    go_wp2_with fail
    go_ret
    exact ⟨none, 0, rfl, World.ownsRow_nil _ _ _ _, Below.refl _ _⟩
  · have hz : 0 < n := by omega
    have hc : grownCap w n 0 3 ≤ maxLen := grownCap_le_maxLen w n 0 3 (by unfold maxLen; omega)
    have hge := grownCap_ge w n 0 3
    have hrun := fun ty => Lib.run_append_nil_zeros (P := Try.prog) w 25 3 ty 3 i0 (.int .i64 0) .i64 .i64 Try.underlying25 Try.underlying3 hi hz0 n hz (by rw [hz1]; omega) (by omega) (by rw [hz2]; omega)
    obtain ⟨cap, hcap⟩ : ∃ cap, grownCap w n 0 3 = cap := ⟨_, rfl⟩
    rw [hcap] at hc hge hrun
    unfold maxLen at hc
    have HRun := Lib.hid hrun
    clear hcap hrun
    have d1 : ¬ (n : Int) < 0 := by omega
    have d2 : decide ((0 : Int) < (n : Int)) = true := by simp; omega
    have d3 : decide ((n : Int) < 0) = false := by simp
    go_enter Try.func67, Try.ntmps67
    go_wp2_with (at_builtin; refine Lib.wpList_append_run _ rfl _ _ _ _ rfl _ _ rfl rfl _ _ (HRun.out _) ?_)
    go_ret
    refine ⟨_, cap, rfl, ⟨rfl, .inr ⟨w.heap.size, cap, _, rfl, Nat.le_refl _, World.alloc_heap_new _ _, Nat.zero_le _, hc, ?_, rfl⟩⟩, ((Below.refl _ w).drew).alloc (Nat.le_refl _) _⟩
    rw [Array.size_append, size_zeroCells, size_zeroCells]
    simp
    omega

/-- Slices of a slice. -/
structure Parts (w : World) (S : Addr) (ps : List (Value × List Int)) : Prop where
  lt : S.block < w.heap.size
  at_ : ∀ (j : Nat) p, ps[j]? = some p → w.cell? (S.add j) = some p.1 ∧ ∃ A c, p.1 = .slice A p.2.length c ∧ Row .i64 w w.heap.size A p.2
def cat (ps : List (Value × List Int)) : List Int := ps.flatMap (·.2)
theorem cat_snoc {ps : List (Value × List Int)} {k : Nat} {p : Value × List Int} (h : ps[k]? = some p) : cat (ps.take (k + 1)) = cat (ps.take k) ++ p.2 := by
  rw [List.take_add_one, h]; simp [cat]
theorem cat_le (ps : List (Value × List Int)) (k : Nat) : (cat (ps.take k)).length ≤ (cat ps).length := by
  have : cat ps = cat (ps.take k) ++ cat (ps.drop k) := by simp only [cat, ← List.flatMap_append, List.take_append_drop]
  rw [this]; simp
theorem Parts.to {w w' : World} {S : Addr} {ps : List (Value × List Int)} (h : Parts w S ps) (b : Below w.heap.size w w') : Parts w' S ps :=
  ⟨by have := b.size; have := h.lt; omega, fun j p hp => by
    obtain ⟨h1, A, c, h2, h3⟩ := h.at_ j p hp
    exact ⟨(b.cell (by rw [addr_block]; exact h.lt)).trans h1, A, c, h2, h3.to b⟩⟩

set_option maxRecDepth 100000 in
set_option maxHeartbeats 2000000 in
theorem concat_at (ps : List (Value × List Int)) (k0 : Nat) (hk0 : ps.length = k0) (S : Addr) (c0 : Nat) (w : World) (h : Parts w S ps) (hk : k0 ≤ 1000) (N : Nat) (hN : (cat ps).length = N) (hN2 : N ≤ 100000) (hc0 : k0 ≤ c0) :
    Calls Try.prog 39 #[.slice (some S) k0 c0] w fun e w' => ∃ A c, e = .returned (.slice A N c) ∧ w'.ownsRow w.heap.size 3 1 (.slice A N c) N ((cat ps).map (Value.int .i64)) ∧ Below w.heap.size w w' := by
  obtain ⟨i0, hi, hz0, hz1, hz2⟩ := info_parts Try.infoInt
  have HN := Lib.hid hN
  have HK := Lib.hid hk0
  clear hN hk0
  go_enter Try.func39, Try.ntmps39
  go_wp2_with fail
  go_loop [3, 11] (fun z i => ∃ (k m : Nat), k ≤ k0 ∧ i = .int .i64 k ∧ z = .int .i64 m ∧ (cat (ps.take k)).length = m) (fun _ i => k0 - (intOf i).toNat)
  case atStart => exact ⟨0, 0, Nat.zero_le _, rfl, rfl, rfl⟩
  case round =>
    obtain ⟨k, m, hkk, rfl, rfl, hm⟩ := hrel
    have hmN : m ≤ N := by rw [← hm, ← HN.out]; exact cat_le ps k
    by_cases hlt : k < k0
    · obtain ⟨p, hp⟩ : ∃ p, ps[k]? = some p := ⟨_, List.getElem?_eq_getElem (by rw [HK.out]; exact hlt)⟩
      obtain ⟨hc, A, c, hv, hrow⟩ := h.at_ k p hp
      rw [hv] at hc
      obtain ⟨q, hq⟩ : ∃ q, p.2.length = q := ⟨_, rfl⟩
      rw [hq] at hc
      have hm2 : (cat (ps.take (k + 1))).length = m + q := by rw [cat_snoc hp, List.length_append, hm, hq]
      have hmN2 : m + q ≤ N := by rw [← hm2, ← HN.out]; exact cat_le ps (k + 1)
      have HM := Lib.hid hm2
      clear hm hp hv hrow hq hm2
      have d1 : decide ((m : Int) + (q : Int) < 0) = false := by simp; omega
      go_wp2_with fail
      go_round
      case rel => exact ⟨k + 1, m + q, by omega, by go_num, by go_num, HM.out⟩
      case measure => simp [intOf]; omega
    · obtain rfl : k = k0 := by omega
      obtain rfl : m = N := by rw [← hm, ← HN.out, List.take_of_length_le (by rw [HK.out]; exact Nat.le_refl _)]
      clear hm
      go_wp2_with fail
      refine (grow_nil m (by omega) w).mono ?_
      rintro e w1 ⟨A1, c1, rfl, hown1, hB1⟩
      have h1 := h.to hB1
      go_wp2_with fail
      go_loopw [6, 27] (fun z i wr => ∃ (j q : Nat) (A : Option Addr) (c : Nat), j ≤ k ∧ i = .int .i64 j ∧ z = .slice A q c ∧ (cat (ps.take j)).length = q ∧
          wr.ownsRow w.heap.size 3 1 (.slice A q c) q ((cat (ps.take j)).map (Value.int .i64)) ∧ Below w.heap.size w wr) (fun _ i _ => k - (intOf i).toNat)
      case atStart => exact ⟨0, 0, A1, c1, Nat.zero_le _, rfl, rfl, rfl, hown1, hB1⟩
      case round =>
        obtain ⟨j, q, A, c, hj, rfl, rfl, hq, hown, hB⟩ := hrel
        have hw := h.to hB
        by_cases hlt2 : j < k
        · obtain ⟨p, hp⟩ : ∃ p, ps[j]? = some p := ⟨_, List.getElem?_eq_getElem (by rw [HK.out]; exact hlt2)⟩
          obtain ⟨hc, A2, c2, hv, hrow⟩ := hw.at_ j p hp
          rw [hv] at hc
          obtain ⟨l2, hl2⟩ : ∃ l2, p.2 = l2 := ⟨_, rfl⟩
          have hcs := cat_snoc hp
          rw [hl2] at hc hrow hcs
          obtain ⟨q2, hq2⟩ : ∃ q2, l2.length = q2 := ⟨_, rfl⟩
          rw [hq2] at hc
          have hqq : (cat (ps.take (j + 1))).length = q + q2 := by rw [hcs, List.length_append, hq, hq2]
          have hqN : q + q2 ≤ m := by rw [← hqq, ← HN.out]; exact cat_le ps (j + 1)
          have HC := Lib.hid hcs
          have HQ := Lib.hid hqq
          have HQ2 := Lib.hid hq2
          clear hcs hqq hp hv hl2 hq hq2
          have hs := hB.size
          go_wp2_with (at_builtin; refine wpList_append_row _ .i64 rfl _ _ 25 rfl w.heap.size 3 i0 (.int .i64 0) 8 Try.underlying25 hi hz0 hz1 hz2 rfl _ q (cat (ps.take j)) rfl hown A2 q2 c2 _ l2 rfl HQ2.out hrow (by unfold maxLen; omega) (by omega) hs ?_; intro A3 c3 w2 hown2 hc2 hB2)
          exact ⟨⟨j + 1, q + q2, A3, c3, by omega, by go_num, rfl, HQ.out, by rw [HC.out]; exact hown2, hB.trans hB2⟩, by simp [intOf]; omega⟩
        · obtain rfl : j = k := by omega
          have e1 : cat (ps.take j) = cat ps := by rw [List.take_of_length_le (by rw [HK.out]; exact Nat.le_refl _)]
          rw [e1] at hq hown
          obtain rfl : q = m := by rw [← hq]; exact HN.out
          clear hq
          go_wp2_with fail
          go_ret
          exact ⟨A, c, rfl, hown, hB⟩

theorem Parts.lit (W : World) (ps : List (Value × List Int)) (t : TypeId) {cs : Array Value} (hcs : cs = (ps.map (·.1)).toArray) (h : ∀ p ∈ ps, ∃ A c, p.1 = .slice A p.2.length c ∧ Row .i64 W W.heap.size A p.2) :
    Parts (W.alloc (.cells cs t)) ⟨W.heap.size, 0, none⟩ ps := by
  refine ⟨by simp, fun j p hp => ?_⟩
  obtain ⟨A, c, h1, h2⟩ := h p (List.mem_of_getElem? hp)
  refine ⟨?_, A, c, h1, h2.to ((Below.refl _ W).alloc (Nat.le_refl _) _)⟩
  have e : (⟨W.heap.size, 0, none⟩ : Addr).add j = ⟨W.heap.size, j, none⟩ := by unfold Addr.add; split <;> simp_all
  have hb := World.alloc_heap_new W (.cells cs t)
  subst hcs
  rw [e]
  simp only [World.cell?, hb]
  simp [hp]
theorem own_cap {w : World} {base : Nat} {e : TypeId} {n c : Nat} {A : Option Addr} {xs : List Value} (h : w.ownsRow base e 1 (.slice A n c) n xs) : n ≤ c := by
  rcases h.2 with ⟨e1, e2⟩ | ⟨g, cap, cur, e1, _, _, hc, _⟩
  · omega
  · cases e1; exact hc
theorem concat4 (A1 A2 A3 A4 : Option Addr) (n1 n2 n3 n4 c1 c2 c3 c4 : Nat) (l1 l2 l3 l4 : List Int) (e1 : l1.length = n1) (e2 : l2.length = n2) (e3 : l3.length = n3) (e4 : l4.length = n4) (W : World) (t : TypeId)
    (h1 : Row .i64 W W.heap.size A1 l1) (h2 : Row .i64 W W.heap.size A2 l2) (h3 : Row .i64 W W.heap.size A3 l3) (h4 : Row .i64 W W.heap.size A4 l4) (N : Nat) (hN : n1 + (n2 + (n3 + n4)) = N) (hN2 : N ≤ 100000) {S : Nat} (hS : S = W.heap.size) :
    Calls Try.prog 39 #[.slice (some ⟨S, 0, none⟩) 4 4] (W.alloc (.cells #[.slice A1 n1 c1, .slice A2 n2 c2, .slice A3 n3 c3, .slice A4 n4 c4] t)) fun e w' =>
      ∃ A c, e = .returned (.slice A N c) ∧ Row .i64 w' w'.heap.size A (l1 ++ (l2 ++ (l3 ++ l4))) ∧ N ≤ c ∧ Below W.heap.size W w' := by
  subst e1 e2 e3 e4 hN hS
  refine (concat_at [(.slice A1 l1.length c1, l1), (.slice A2 l2.length c2, l2), (.slice A3 l3.length c3, l3), (.slice A4 l4.length c4, l4)] 4 rfl _ 4 _ (Parts.lit W _ t rfl ?_) (by omega) _ (by simp [cat]) hN2 (by omega)).mono ?_
  · intro p hp
    simp only [List.mem_cons, List.not_mem_nil, or_false] at hp
    rcases hp with rfl | rfl | rfl | rfl
    · exact ⟨_, _, rfl, h1⟩
    · exact ⟨_, _, rfl, h2⟩
    · exact ⟨_, _, rfl, h3⟩
    · exact ⟨_, _, rfl, h4⟩
  · rintro e w' ⟨A, c, rfl, hown, hB⟩
    have hr := Row.own hown
    simp only [cat, List.flatMap_cons, List.flatMap_nil, List.append_nil] at hr
    exact ⟨A, c, rfl, hr, own_cap hown, below_lit hB⟩
theorem concat5 (A1 A2 A3 A4 A5 : Option Addr) (n1 n2 n3 n4 n5 c1 c2 c3 c4 c5 : Nat) (l1 l2 l3 l4 l5 : List Int) (e1 : l1.length = n1) (e2 : l2.length = n2) (e3 : l3.length = n3) (e4 : l4.length = n4) (e5 : l5.length = n5) (W : World) (t : TypeId)
    (h1 : Row .i64 W W.heap.size A1 l1) (h2 : Row .i64 W W.heap.size A2 l2) (h3 : Row .i64 W W.heap.size A3 l3) (h4 : Row .i64 W W.heap.size A4 l4) (h5 : Row .i64 W W.heap.size A5 l5) (N : Nat) (hN : n1 + (n2 + (n3 + (n4 + n5))) = N) (hN2 : N ≤ 100000) {S : Nat} (hS : S = W.heap.size) :
    Calls Try.prog 39 #[.slice (some ⟨S, 0, none⟩) 5 5] (W.alloc (.cells #[.slice A1 n1 c1, .slice A2 n2 c2, .slice A3 n3 c3, .slice A4 n4 c4, .slice A5 n5 c5] t)) fun e w' =>
      ∃ A c, e = .returned (.slice A N c) ∧ Row .i64 w' w'.heap.size A (l1 ++ (l2 ++ (l3 ++ (l4 ++ l5)))) ∧ N ≤ c ∧ Below W.heap.size W w' := by
  subst e1 e2 e3 e4 e5 hN hS
  refine (concat_at [(.slice A1 l1.length c1, l1), (.slice A2 l2.length c2, l2), (.slice A3 l3.length c3, l3), (.slice A4 l4.length c4, l4), (.slice A5 l5.length c5, l5)] 5 rfl _ 5 _ (Parts.lit W _ t rfl ?_) (by omega) _ (by simp [cat]) hN2 (by omega)).mono ?_
  · intro p hp
    simp only [List.mem_cons, List.not_mem_nil, or_false] at hp
    rcases hp with rfl | rfl | rfl | rfl | rfl
    · exact ⟨_, _, rfl, h1⟩
    · exact ⟨_, _, rfl, h2⟩
    · exact ⟨_, _, rfl, h3⟩
    · exact ⟨_, _, rfl, h4⟩
    · exact ⟨_, _, rfl, h5⟩
  · rintro e w' ⟨A, c, rfl, hown, hB⟩
    have hr := Row.own hown
    simp only [cat, List.flatMap_cons, List.flatMap_nil, List.append_nil] at hr
    exact ⟨A, c, rfl, hr, own_cap hown, below_lit hB⟩

theorem frPut_at (n : Int) (num many : Nat) (hn : n = num) (hm : many ≤ 32) (hnum : num < 2 ^ many) (w : World) :
    Calls Try.prog 53 #[.int .i64 n, .int .i64 many] w fun e W' => e = .returned (.slice (some ⟨w.heap.size, 0, none⟩) many many) ∧ W'.ownsRow w.heap.size 3 1 (.slice (some ⟨w.heap.size, 0, none⟩) many many) many ((bitRow num many many).map (Value.int .i64)) ∧ Below w.heap.size w W' := by
  subst hn
  have HN := Lib.hid hnum
  clear hnum
  go_enter Try.func53, Try.ntmps53
  go_wp2_with fail
  refine (put_yes num many hm HN.out w).mono ?_
  rintro e w' ⟨rfl, hown, hB⟩
  go_wp2_with fail
  go_ret
  exact ⟨rfl, hown, hB⟩
theorem frPut_ex (n : Int) (num many : Nat) (hn : n = num) (hm : many ≤ 32) (hnum : num < 2 ^ many) (w : World) :
    Calls Try.prog 53 #[.int .i64 n, .int .i64 many] w fun e W' => ∃ A, e = .returned (.slice A many many) ∧ Row .i64 W' W'.heap.size A (bitRow num many many) ∧ Below w.heap.size w W' :=
  (frPut_at n num many hn hm hnum w).mono fun _ _ ⟨h1, h2, h3⟩ => ⟨_, h1, Row.own h2, h3⟩

end Go.Proofs.Ytmapkjjglhpamaa
