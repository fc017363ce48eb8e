/-
  Are there too many? Are two nodes alike? (the statements' Great, the document's Same)
-/
import Derived.Test.YtlbgilbigcnleaaNdM
import Derived.Test.YtlbgilbigcnleaaNdS
namespace Go.Proofs.Ytlbgilbigcnleaa
open Go.RowKit
set_option linter.unusedVariables false
set_option linter.unusedSimpArgs false

set_option maxRecDepth 100000 in
set_option maxHeartbeats 4000000 in
theorem great9_c {w : World} {P : Nat → Prop} {n : NV} {N : NC} (h : NIs w P n N) :
    Calls Try.prog 11 #[n.v] w fun e w' => (e = .returned (.bool true) ∨ e = .returned (.bool false)) ∧ Below w.heap.size w w' := by
  obtain ⟨qa, qm, qc, la, lm, lc, kk, ga, gm, gc⟩ := n
  have hq := h.q
  have hg := h.g
  dsimp only at hq hg
  have hqb := hq.big
  have hgb := hg.big
  unfold maxLen at hqb hgb
  clear h
  by_cases b1 : 100 < qm
  · skip
    have c1 : (100 : Int) < (qm : Int) := by omega
    obtain ⟨w0, hw0⟩ : ∃ w0, (w.alloc (.cells #[.slice qa qm qc, .slice la lm lc, .int .i64 kk.t, .int .i64 kk.r, .int .i64 kk.s, .int .i64 kk.q, .slice ga gm gc] 27)) = w0 := ⟨_, rfl⟩
    have hT0 : Below w.heap.size w w0 := by rw [← hw0]; exact below_alloc1 _ _
    have hn0 : w0.heap[w.heap.size]? = some (.cells #[.slice qa qm qc, .slice la lm lc, .int .i64 kk.t, .int .i64 kk.r, .int .i64 kk.s, .int .i64 kk.q, .slice ga gm gc] 27) := by rw [← hw0]; exact World.alloc_heap_new _ _
    have hs0 : w0.heap.size = w.heap.size + 1 := by rw [← hw0]; simp
    have Hs0 := Lib.hid hs0
    clear hs0
    obtain ⟨nc0, nc1, nc2, nc3, nc4, nc5, nc6⟩ := cells7' hn0
    go_enter Try.func11, Try.ntmps11
    go_wp2_with fail
    clear nc0 nc1 nc2 nc3 nc4 nc5 nc6
    clear hw0
    have hZ0 := Below.refl w0.heap.size w0
    go_ret
    exact ⟨Or.inl rfl, hT0⟩
  have c1 : ¬ (100 : Int) < (qm : Int) := by omega
  by_cases b2 : 200 < gm
  · skip
    have c2 : (200 : Int) < (gm : Int) := by omega
    obtain ⟨w0, hw0⟩ : ∃ w0, (w.alloc (.cells #[.slice qa qm qc, .slice la lm lc, .int .i64 kk.t, .int .i64 kk.r, .int .i64 kk.s, .int .i64 kk.q, .slice ga gm gc] 27)) = w0 := ⟨_, rfl⟩
    have hT0 : Below w.heap.size w w0 := by rw [← hw0]; exact below_alloc1 _ _
    have hn0 : w0.heap[w.heap.size]? = some (.cells #[.slice qa qm qc, .slice la lm lc, .int .i64 kk.t, .int .i64 kk.r, .int .i64 kk.s, .int .i64 kk.q, .slice ga gm gc] 27) := by rw [← hw0]; exact World.alloc_heap_new _ _
    have hs0 : w0.heap.size = w.heap.size + 1 := by rw [← hw0]; simp
    have Hs0 := Lib.hid hs0
    clear hs0
    obtain ⟨nc0, nc1, nc2, nc3, nc4, nc5, nc6⟩ := cells7' hn0
    go_enter Try.func11, Try.ntmps11
    go_wp2_with fail
    clear nc0 nc1 nc2 nc3 nc4 nc5 nc6
    clear hw0
    have hZ0 := Below.refl w0.heap.size w0
    go_ret
    exact ⟨Or.inl rfl, hT0⟩
  have c2 : ¬ (200 : Int) < (gm : Int) := by omega
  by_cases b3 : 100 < lm
  · skip
    have c3 : (100 : Int) < (lm : Int) := by omega
    obtain ⟨w0, hw0⟩ : ∃ w0, (w.alloc (.cells #[.slice qa qm qc, .slice la lm lc, .int .i64 kk.t, .int .i64 kk.r, .int .i64 kk.s, .int .i64 kk.q, .slice ga gm gc] 27)) = w0 := ⟨_, rfl⟩
    have hT0 : Below w.heap.size w w0 := by rw [← hw0]; exact below_alloc1 _ _
    have hn0 : w0.heap[w.heap.size]? = some (.cells #[.slice qa qm qc, .slice la lm lc, .int .i64 kk.t, .int .i64 kk.r, .int .i64 kk.s, .int .i64 kk.q, .slice ga gm gc] 27) := by rw [← hw0]; exact World.alloc_heap_new _ _
    have hs0 : w0.heap.size = w.heap.size + 1 := by rw [← hw0]; simp
    have Hs0 := Lib.hid hs0
    clear hs0
    obtain ⟨nc0, nc1, nc2, nc3, nc4, nc5, nc6⟩ := cells7' hn0
    go_enter Try.func11, Try.ntmps11
    go_wp2_with fail
    clear nc0 nc1 nc2 nc3 nc4 nc5 nc6
    clear hw0
    have hZ0 := Below.refl w0.heap.size w0
    go_ret
    exact ⟨Or.inl rfl, hT0⟩
  have c3 : ¬ (100 : Int) < (lm : Int) := by omega
  obtain ⟨w0, hw0⟩ : ∃ w0, (w.alloc (.cells #[.slice qa qm qc, .slice la lm lc, .int .i64 kk.t, .int .i64 kk.r, .int .i64 kk.s, .int .i64 kk.q, .slice ga gm gc] 27)) = w0 := ⟨_, rfl⟩
  have hT0 : Below w.heap.size w w0 := by rw [← hw0]; exact below_alloc1 _ _
  have hn0 : w0.heap[w.heap.size]? = some (.cells #[.slice qa qm qc, .slice la lm lc, .int .i64 kk.t, .int .i64 kk.r, .int .i64 kk.s, .int .i64 kk.q, .slice ga gm gc] 27) := by rw [← hw0]; exact World.alloc_heap_new _ _
  have hs0 : w0.heap.size = w.heap.size + 1 := by rw [← hw0]; simp
  have Hs0 := Lib.hid hs0
  clear hs0
  obtain ⟨nc0, nc1, nc2, nc3, nc4, nc5, nc6⟩ := cells7' hn0
  go_enter Try.func11, Try.ntmps11
  go_wp2_with fail
  clear nc0 nc1 nc2 nc3 nc4 nc5 nc6
  clear hw0
  have hZ0 := Below.refl w0.heap.size w0
  go_loopw [3] (fun i wr => ∃ k : Nat, k ≤ qm ∧ i = .int .i64 k ∧ wr.heap[w.heap.size]? = some (.cells #[.slice qa qm qc, .slice la lm lc, .int .i64 kk.t, .int .i64 kk.r, .int .i64 kk.s, .int .i64 kk.q, .slice ga gm gc] 27) ∧ Below w.heap.size w wr) (fun i _ => qm - (intOf i).toNat)
  case atStart => exact ⟨0, Nat.zero_le _, rfl, hn0, hT0⟩
  case round =>
    obtain ⟨k, hk, rfl, hn50, hT50⟩ := hrel
    by_cases hlt : k < qm
    · skip
      obtain ⟨ad, f, F, e0, hF, ⟨a0, a1, a2, a3, a4⟩, hf⟩ := (hq.to hT50).at_ hlt
      subst e0
      clear hF
      have i1 : (k : Int) < (qm : Int) := by omega
      obtain ⟨r, hr⟩ : ∃ q, decide (100 < F.d.length) = q := ⟨_, rfl⟩
      have Hr := Lib.hid hr
      clear hr
      cases r
      · skip
        obtain ⟨nc0, nc1, nc2, nc3, nc4, nc5, nc6⟩ := cells7' hn50
        go_wp2_with fail
        clear nc0 nc1 nc2 nc3 nc4 nc5 nc6
        refine (great_c hf false Hr.out).mono ?_
        rintro e w51 ⟨rfl, hB51⟩
        have hT51 := below_then hT50 hB51
        have hn51 := block_below hB51 hn50
        clear hT50 hn50  hB51
        obtain ⟨nc0, nc1, nc2, nc3, nc4, nc5, nc6⟩ := cells7' hn51
        go_wp2_with fail
        clear nc0 nc1 nc2 nc3 nc4 nc5 nc6
        go_round
        case measure => simp [intOf]; omega
        exact ⟨k + 1, by omega, by go_num, hn51, hT51⟩
      obtain ⟨nc0, nc1, nc2, nc3, nc4, nc5, nc6⟩ := cells7' hn50
      go_wp2_with fail
      clear nc0 nc1 nc2 nc3 nc4 nc5 nc6
      refine (great_c hf true Hr.out).mono ?_
      rintro e w51 ⟨rfl, hB51⟩
      have hT51 := below_then hT50 hB51
      have hn51 := block_below hB51 hn50
      clear hT50 hn50  hB51
      obtain ⟨nc0, nc1, nc2, nc3, nc4, nc5, nc6⟩ := cells7' hn51
      go_wp2_with fail
      go_ret
      exact ⟨Or.inl rfl, hT51⟩
    obtain rfl : k = qm := by omega
    have i1 : ¬ (k : Int) < (k : Int) := by omega
    obtain ⟨nc0, nc1, nc2, nc3, nc4, nc5, nc6⟩ := cells7' hn50
    go_wp2_with fail
    clear nc0 nc1 nc2 nc3 nc4 nc5 nc6
    have hnA := hn50
    have hTA := hT50
    clear hn50 hT50
    go_loopw [4] (fun i wr2 => ∃ j : Nat, j ≤ gm ∧ i = .int .i64 j ∧ wr2.heap[w.heap.size]? = some (.cells #[.slice qa k qc, .slice la lm lc, .int .i64 kk.t, .int .i64 kk.r, .int .i64 kk.s, .int .i64 kk.q, .slice ga gm gc] 27) ∧ Below w.heap.size w wr2) (fun i _ => gm - (intOf i).toNat)
    case atStart => exact ⟨0, Nat.zero_le _, rfl, hnA, hTA⟩
    case round =>
      clear hnA hTA
      obtain ⟨j, hj, rfl, hn50, hT50⟩ := hrel
      by_cases hlt2 : j < gm
      · skip
        obtain ⟨ad, f, F, e0, hF, ⟨a0, a1, a2, a3, a4⟩, hf⟩ := (hg.to hT50).at_ hlt2
        subst e0
        clear hF
        have i2 : (j : Int) < (gm : Int) := by omega
        obtain ⟨r, hr⟩ : ∃ q, decide (100 < F.d.length) = q := ⟨_, rfl⟩
        have Hr := Lib.hid hr
        clear hr
        cases r
        · skip
          obtain ⟨nc0, nc1, nc2, nc3, nc4, nc5, nc6⟩ := cells7' hn50
          go_wp2_with fail
          clear nc0 nc1 nc2 nc3 nc4 nc5 nc6
          refine (great_c hf false Hr.out).mono ?_
          rintro e w51 ⟨rfl, hB51⟩
          have hT51 := below_then hT50 hB51
          have hn51 := block_below hB51 hn50
          clear hT50 hn50  hB51
          obtain ⟨nc0, nc1, nc2, nc3, nc4, nc5, nc6⟩ := cells7' hn51
          go_wp2_with fail
          clear nc0 nc1 nc2 nc3 nc4 nc5 nc6
          go_round
          case measure => simp [intOf]; omega
          exact ⟨j + 1, by omega, by go_num, hn51, hT51⟩
        obtain ⟨nc0, nc1, nc2, nc3, nc4, nc5, nc6⟩ := cells7' hn50
        go_wp2_with fail
        clear nc0 nc1 nc2 nc3 nc4 nc5 nc6
        refine (great_c hf true Hr.out).mono ?_
        rintro e w51 ⟨rfl, hB51⟩
        have hT51 := below_then hT50 hB51
        have hn51 := block_below hB51 hn50
        clear hT50 hn50  hB51
        obtain ⟨nc0, nc1, nc2, nc3, nc4, nc5, nc6⟩ := cells7' hn51
        go_wp2_with fail
        go_ret
        exact ⟨Or.inl rfl, hT51⟩
      obtain rfl : j = gm := by omega
      obtain ⟨nc0, nc1, nc2, nc3, nc4, nc5, nc6⟩ := cells7' hn50
      go_wp2_with fail
      go_ret
      exact ⟨Or.inr rfl, hT50⟩


end Go.Proofs.Ytlbgilbigcnleaa
