/-
  Slices that are made of others: bytes.Clone, slices.Grow, slices.Concat of frames, with, without.
-/
import Derived.Test.YtlbgilbigcnleaaNdF
import Derived.Lib.SliceRun
namespace Go.Proofs.Ytlbgilbigcnleaa
open Go.RowKit
set_option linter.unusedVariables false
set_option linter.unusedSimpArgs false

set_option maxRecDepth 100000 in
set_option maxHeartbeats 1000000 in
theorem clone_any (l : List Int) (m : Nat) (hl : l.length = m) (hm : m ≤ 1000) (A : Option Addr) (c : Nat) (w : World) (h : Row .u8 w w.heap.size A l) (P : Nat → Prop) (hP : ∀ b, w.heap.size ≤ b → P b) :
    Calls Try.prog 67 #[.slice A m c] w fun e w' => ∃ A' c', e = .returned (.slice A' m c') ∧ Row .u8 w' w'.heap.size A' l ∧ m ≤ c' ∧ InP P A' m ∧ Below w.heap.size w w' := by
  obtain ⟨i0, hi, hz0, hz1, hz2⟩ := info_parts Try.infoByte
  have qT : ∀ (w : World) (a : Option Addr) (n c n' c' : Nat), (binOp .eql 28 (.slice a n c) (.slice none n' c')).run Try.prog w = .ok (.bool a.isNone) w := fun w a n c n' c' => Lib.run_eql_slice_nil w _ _ a n c n' c' Try.underlying28
  have Hl := Lib.hid hl
  clear hl
  cases A with
  | none =>
    have h0 : l = [] := by
      rcases h with e | ⟨ad, e, _⟩
      · exact e
      · cases e
    subst h0
    obtain rfl : 0 = m := Hl.out
    go_enter Try.func67, Try.ntmps67
    go_wp2_with fail
    go_ret
    exact ⟨none, 0, rfl, .inl rfl, Nat.le_refl _, fun h => absurd h (by decide), Below.refl _ _⟩
  | some ad =>
    have hown := own_lit w .u8 [] 0 rfl 5 (cs := #[]) rfl (by decide)
    go_enter Try.func67, Try.ntmps67
    go_wp2_with (at_builtin; refine wpList_append_row _ .u8 rfl _ _ 28 rfl w.heap.size 5 i0 (.int .u8 0) 1 Try.underlying28 hi hz0 hz1 hz2 rfl _ 0 [] rfl hown (some ad) m c _ l rfl Hl.out (h.to (below_alloc1 _ _)) (by unfold maxLen; omega) (by omega) (by simp) ?_; intro A3 c3 w2 hown2 hc2 hB2)
    go_ret
    simp only [Nat.zero_add, List.nil_append] at hown2 hc2
    exact ⟨A3, c3, rfl, Row.own hown2, hc2, own_inP hown2 hP m, ((Below.refl _ w).alloc (Nat.le_refl _) _).trans hB2⟩

set_option maxRecDepth 100000 in
set_option maxHeartbeats 1000000 in
theorem growF_nil (n : Nat) (hn : n ≤ 1000) (w : World) :
    Calls Try.prog 78 #[.slice none 0 0, .int .i64 n] w fun e w' => ∃ A c, e = .returned (.slice A 0 c) ∧ FOwn w' w.heap.size A 0 c [] ∧ Below w.heap.size w w' := by
  obtain ⟨i0, hi, hz0, hz1, hz2⟩ := info_parts Try.infoFr
  by_cases h0 : n = 0
  · subst h0
    go_enter Try.func78, Try.ntmps78
    go_wp2_with fail
    go_ret
    exact ⟨none, 0, rfl, World.ownsRow_nil _ _ _ _, Below.refl _ _⟩
  · have hz : 0 < n := by omega
    have hc : grownCap w n 0 30 ≤ maxLen := grownCap_le_maxLen w n 0 30 (by unfold maxLen; omega)
    have hge := grownCap_ge w n 0 30
    have hrun := fun ty => Lib.run_append_nil_zeros (P := Try.prog) w 22 3 ty 30 i0 _ .i64 .i64 Try.underlying22 Try.underlying3 hi hz0 n hz (by rw [hz1]; omega) (by omega) (by rw [hz2]; omega)
    obtain ⟨cap, hcap⟩ : ∃ cap, grownCap w n 0 30 = cap := ⟨_, rfl⟩
    rw [hcap] at hc hge hrun
    unfold maxLen at hc
    have HRun := Lib.hid hrun
    clear hcap hrun
    have d1 : ¬ (n : Int) < 0 := by omega
    have d2 : decide ((0 : Int) < (n : Int)) = true := by simp; omega
    have d3 : decide ((n : Int) < 0) = false := by simp
    go_enter Try.func78, Try.ntmps78
    go_wp2_with (at_builtin; refine Lib.wpList_append_run _ rfl _ _ _ _ rfl _ _ rfl rfl _ _ (HRun.out _) ?_)
    go_ret
    refine ⟨_, cap, rfl, ⟨rfl, .inr ⟨w.heap.size, cap, _, rfl, Nat.le_refl _, World.alloc_heap_new _ _, Nat.zero_le _, hc, ?_, rfl⟩⟩, ((Below.refl _ w).drew).alloc (Nat.le_refl _) _⟩
    rw [Array.size_append, size_zeroCells, size_zeroCells]
    simp [Value.cells]
    omega

/-- Slices of a slice, of frames. -/
structure PartsF (w : World) (S : Addr) (ps : List (Value × List FV)) : Prop where
  lt : S.block < w.heap.size
  at_ : ∀ (j : Nat) p, ps[j]? = some p → w.cell? (S.add j) = some p.1 ∧ ∃ A c, p.1 = .slice A p.2.length c ∧ FRow w w.heap.size A p.2
def catF (ps : List (Value × List FV)) : List FV := ps.flatMap (·.2)
theorem catF_snoc {ps : List (Value × List FV)} {k : Nat} {p : Value × List FV} (h : ps[k]? = some p) : catF (ps.take (k + 1)) = catF (ps.take k) ++ p.2 := by
  rw [List.take_add_one, h]; simp [catF]
theorem catF_le (ps : List (Value × List FV)) (k : Nat) : (catF (ps.take k)).length ≤ (catF ps).length := by
  have : catF ps = catF (ps.take k) ++ catF (ps.drop k) := by simp only [catF, ← List.flatMap_append, List.take_append_drop]
  rw [this]; simp
theorem PartsF.to {w w' : World} {S : Addr} {ps : List (Value × List FV)} (h : PartsF w S ps) (b : Below w.heap.size w w') : PartsF w' S ps :=
  ⟨by have := b.size; have := h.lt; omega, fun j p hp => by
    obtain ⟨h1, A, c, h2, h3⟩ := h.at_ j p hp
    exact ⟨(b.cell (by rw [addr_block]; exact h.lt)).trans h1, A, c, h2, h3.to b⟩⟩

set_option maxRecDepth 100000 in
set_option maxHeartbeats 2000000 in
theorem concatF_at (ps : List (Value × List FV)) (k0 : Nat) (hk0 : ps.length = k0) (S : Addr) (c0 : Nat) (w : World) (h : PartsF w S ps) (hk : k0 ≤ 1000) (N : Nat) (hN : (catF ps).length = N) (hN2 : N ≤ 1000) (hc0 : k0 ≤ c0) :
    Calls Try.prog 66 #[.slice (some S) k0 c0] w fun e w' => ∃ A c, e = .returned (.slice A N c) ∧ FOwn w' w.heap.size A N c (catF ps) ∧ Below w.heap.size w w' := by
  have HN := Lib.hid hN
  have HK := Lib.hid hk0
  clear hN hk0
  go_enter Try.func66, Try.ntmps66
  go_wp2_with fail
  go_loop [3, 11] (fun z i => ∃ (k m : Nat), k ≤ k0 ∧ i = .int .i64 k ∧ z = .int .i64 m ∧ (catF (ps.take k)).length = m) (fun _ i => k0 - (intOf i).toNat)
  case atStart => exact ⟨0, 0, Nat.zero_le _, rfl, rfl, rfl⟩
  case round =>
    obtain ⟨k, m, hkk, rfl, rfl, hm⟩ := hrel
    have hmN : m ≤ N := by rw [← hm, ← HN.out]; exact catF_le ps k
    by_cases hlt : k < k0
    · obtain ⟨p, hp⟩ : ∃ p, ps[k]? = some p := ⟨_, List.getElem?_eq_getElem (by rw [HK.out]; exact hlt)⟩
      obtain ⟨hc, A, c, hv, hrow⟩ := h.at_ k p hp
      rw [hv] at hc
      obtain ⟨q, hq⟩ : ∃ q, p.2.length = q := ⟨_, rfl⟩
      rw [hq] at hc
      have hm2 : (catF (ps.take (k + 1))).length = m + q := by rw [catF_snoc hp, List.length_append, hm, hq]
      have hmN2 : m + q ≤ N := by rw [← hm2, ← HN.out]; exact catF_le ps (k + 1)
      have HM := Lib.hid hm2
      clear hm hp hv hrow hq hm2
      have d1 : decide ((m : Int) + (q : Int) < 0) = false := by simp; omega
      go_wp2_with fail
      go_round
      case rel => exact ⟨k + 1, m + q, by omega, by go_num, by go_num, HM.out⟩
      case measure => simp [intOf]; omega
    · obtain rfl : k = k0 := by omega
      obtain rfl : m = N := by rw [← hm, ← HN.out, List.take_of_length_le (by rw [HK.out]; exact Nat.le_refl _)]
      clear hm
      go_wp2_with fail
      refine (growF_nil m (by omega) w).mono ?_
      rintro e w1 ⟨A1, c1, rfl, hown1, hB1⟩
      have h1 := h.to hB1
      go_wp2_with fail
      go_loopw [6, 27] (fun z i wr => ∃ (j q : Nat) (A : Option Addr) (c : Nat), j ≤ k ∧ i = .int .i64 j ∧ z = .slice A q c ∧ (catF (ps.take j)).length = q ∧
          FOwn wr w.heap.size A q c (catF (ps.take j)) ∧ Below w.heap.size w wr) (fun _ i _ => k - (intOf i).toNat)
      case atStart => exact ⟨0, 0, A1, c1, Nat.zero_le _, rfl, rfl, rfl, hown1, hB1⟩
      case round =>
        obtain ⟨j, q, A, c, hj, rfl, rfl, hq, hown, hB⟩ := hrel
        have hw := h.to hB
        by_cases hlt2 : j < k
        · obtain ⟨p, hp⟩ : ∃ p, ps[j]? = some p := ⟨_, List.getElem?_eq_getElem (by rw [HK.out]; exact hlt2)⟩
          obtain ⟨hc, A2, c2, hv, hrow⟩ := hw.at_ j p hp
          rw [hv] at hc
          obtain ⟨l2, hl2⟩ : ∃ l2, p.2 = l2 := ⟨_, rfl⟩
          have hcs := catF_snoc hp
          rw [hl2] at hc hrow hcs
          obtain ⟨q2, hq2⟩ : ∃ q2, l2.length = q2 := ⟨_, rfl⟩
          rw [hq2] at hc
          have hqq : (catF (ps.take (j + 1))).length = q + q2 := by rw [hcs, List.length_append, hq, hq2]
          have hqN : q + q2 ≤ m := by rw [← hqq, ← HN.out]; exact catF_le ps (j + 1)
          have HC := Lib.hid hcs
          have HQ := Lib.hid hqq
          have HQ2 := Lib.hid hq2
          clear hcs hqq hp hv hl2 hq hq2
          have hs := hB.size
          go_wp2_with (at_builtin; refine wpList_append_fr _ rfl _ _ rfl w.heap.size _ q (catF (ps.take j)) rfl hown A2 q2 c2 _ l2 rfl HQ2.out hrow (by omega) hs ?_; intro A3 c3 w2 hown2 hc2 hB2)
          exact ⟨⟨j + 1, q + q2, A3, c3, by omega, by go_num, rfl, HQ.out, by rw [HC.out]; exact hown2, hB.trans hB2⟩, by simp [intOf]; omega⟩
        · obtain rfl : j = k := by omega
          have e1 : catF (ps.take j) = catF ps := by rw [List.take_of_length_le (by rw [HK.out]; exact Nat.le_refl _)]
          rw [e1] at hq hown
          obtain rfl : q = m := by rw [← hq]; exact HN.out
          clear hq
          go_wp2_with fail
          go_ret
          exact ⟨A, c, rfl, hown, hB⟩

theorem PartsF.lit (W : World) (ps : List (Value × List FV)) (t : TypeId) {cs : Array Value} (hcs : cs = (ps.map (·.1)).toArray) (h : ∀ p ∈ ps, ∃ A c, p.1 = .slice A p.2.length c ∧ FRow W W.heap.size A p.2) :
    PartsF (W.alloc (.cells cs t)) ⟨W.heap.size, 0, none⟩ ps := by
  refine ⟨by simp, fun j p hp => ?_⟩
  obtain ⟨A, c, h1, h2⟩ := h p (List.mem_of_getElem? hp)
  refine ⟨?_, A, c, h1, h2.to ((Below.refl _ W).alloc (Nat.le_refl _) _)⟩
  have e : (⟨W.heap.size, 0, none⟩ : Addr).add j = ⟨W.heap.size, j, none⟩ := by unfold Addr.add; split <;> simp_all
  have hb := World.alloc_heap_new W (.cells cs t)
  subst hcs
  rw [e]
  simp only [World.cell?, hb]
  simp [hp]
/-- Two slices of frames, one behind the other: W0 is where they lie, W where their addresses are written out. -/
theorem concat2F {A1 A2 : Option Addr} {n1 n2 c1 c2 : Nat} {F1 F2 : List FC} (W : World) (t : TypeId) (P : Nat → Prop)
    (h1 : FSl W P A1 n1 c1 F1) (h2 : FSl W P A2 n2 c2 F2) (N : Nat) (hN : n1 + n2 = N) (hN2 : N ≤ 1000) (hP : ∀ b, W.heap.size ≤ b → P b) {S : Nat} (hS : S = W.heap.size) :
    Calls Try.prog 66 #[.slice (some ⟨S, 0, none⟩) 2 2] (W.alloc (.cells #[.slice A1 n1 c1, .slice A2 n2 c2] t)) fun e w' =>
      ∃ A c, e = .returned (.slice A N c) ∧ FSl w' P A N c (F1 ++ F2) ∧ Below W.heap.size W w' := by
  obtain ⟨f1, r1, s1⟩ := h1.row
  obtain ⟨f2, r2, s2⟩ := h2.row
  have e1 : f1.length = n1 := s1.1.trans h1.len
  have e2 : f2.length = n2 := s2.1.trans h2.len
  subst hS
  refine (concatF_at [(.slice A1 n1 c1, f1), (.slice A2 n2 c2, f2)] 2 rfl _ 2 _ (PartsF.lit W _ t rfl ?_) (by omega) N (by simp [catF]; omega) hN2 (by omega)).mono ?_
  · intro p hp
    simp only [List.mem_cons, List.not_mem_nil, or_false] at hp
    rcases hp with rfl | rfl
    · exact ⟨_, _, by rw [e1], r1⟩
    · exact ⟨_, _, by rw [e2], r2⟩
  · rintro e w' ⟨A, c, rfl, hown, hB⟩
    have hB' := below_lit hB
    simp only [catF, List.flatMap_cons, List.flatMap_nil, List.append_nil] at hown
    exact ⟨A, c, rfl, FSl.own hown ((s1.append s2).to hB') hN2 (fun b hb => hP b (by simp at hb; omega)), hB'⟩

end Go.Proofs.Ytlbgilbigcnleaa
