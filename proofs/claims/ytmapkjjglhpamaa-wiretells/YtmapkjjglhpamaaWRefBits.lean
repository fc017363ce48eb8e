/-
  The document's own answers of layer 5: Stuff, Bits, Length, Most, Heard. (Written by wip/tools/mk_wref.py.)
-/
import Derived.Test.YtmapkjjglhpamaaWBits
namespace Go.Proofs.Ytmapkjjglhpamaa
open Go.RowKit

set_option maxRecDepth 100000 in
set_option maxHeartbeats 2000000 in
theorem refStuff5_any (l : List Int) (n : Nat) (hn : l.length = n) (A : Option Addr) (c : Nat) (w : World) (h : Row .i64 w w.heap.size A l) (hr : rightB l = true) (hm : n ≤ 10000) (M : Nat) (hM : (stuffL l).length = M) :
    Calls Try.prog 42 #[.slice A n c] w fun e w' => ∃ A' c', e = .returned (.slice A' M c') ∧
      w'.ownsRow w.heap.size 3 1 (.slice A' M c') M ((stuffL l).map (Value.int .i64)) ∧ Below w.heap.size w w' := by
  obtain ⟨i0, hi, hz0, hz1, hz2⟩ := info_parts Try.infoInt
  subst hn
  have HR := Lib.hid hr
  have HM := Lib.hid hM
  clear hr hM
  go_enter Try.func42, Try.ntmps42
  go_wp2_with fail
  go_loopw [3, 4, 5] (fun o rn i wr => ∃ (k m : Nat) (A' : Option Addr) (c' q : Nat), k ≤ l.length ∧ i = .int .i64 k ∧ (stuffL (l.take k)).length = m ∧ o = .slice A' m c' ∧ rn = .int .i64 q ∧ (stuffS (0, 0) (l.take k)).2 = q ∧
      wr.ownsRow w.heap.size 3 1 (.slice A' m c') m ((stuffL (l.take k)).map (Value.int .i64)) ∧ Below w.heap.size w wr)
    (fun _ _ i _ => l.length - (intOf i).toNat)
  case atStart => exact ⟨0, 0, none, 0, 0, Nat.zero_le _, rfl, rfl, rfl, rfl, rfl, World.ownsRow_nil _ _ _ _, Below.refl _ _⟩
  case round =>
    obtain ⟨k, m, A', c', q, hk, rfl, hml, rfl, rfl, hsq, hown, hB⟩ := hrel
    have hsz := hB.size
    by_cases hlt : k < l.length
    · have hrow := h
      obtain ⟨ad, x, rfl, hx, hc⟩ := (h.below hB).get_ hlt
      have hb := rightB_at HR.out hx
      have hx0 : 0 ≤ x := by omega
      have hx1 : x ≤ 1 := by omega
      have hfit : m ≤ k + k / 4 := by rw [← hml]; exact stuffL_take_len l k hk
      have hs4 := stuffS_le (l.take k) (0, 0) (by simp)
      have e1 := stuffF_snoc hx (0, 0)
      have e2 := stuffS_snoc hx (0, 0)
      have hlast : 0 < m → (stuffL (l.take k))[m - 1]? = some (stuffS (0, 0) (l.take k)).1 := by
        intro h0
        have := runOf_last (l := stuffL (l.take k)) (by omega)
        rw [hml, runOf_stuff] at this
        exact this
      have hm0 : m = 0 → k = 0 := by
        intro e0
        have := (stuffL_len (l.take k)).1
        rw [hml, e0, List.length_take] at this
        omega
      obtain ⟨s, hs⟩ : ∃ s, stuffS (0, 0) (l.take k) = s := ⟨_, rfl⟩
      have hs0 : k = 0 → s = (0, 0) := by rintro rfl; rw [← hs]; rfl
      rw [hs] at e1 e2 hs4 hlast hsq
      clear hs
      obtain ⟨u, hu⟩ : ∃ u, stuffL (l.take k) = u := ⟨_, rfl⟩
      rw [hu] at hown hml hlast
      by_cases h0 : m = 0
      · have hs := hs0 (hm0 h0)
        subst hs
        have hq : tick (0, 0) x = (x, 1) := by
          by_cases e : x = 0
          · subst e; rfl
          · exact tick_other e
        obtain rfl : q = 0 := hsq.symm
        have g1 : decide ((0 : Int) < (m : Int)) = false := by simp; omega
        have g2 : decide (0 < m) = false := by simp; omega
        have g3 : ¬ 0 < m := by omega
        clear hm0 hs0 hlast h0
        have e1' : stuffL (l.take (k + 1)) = u ++ [x] := by
          rw [← hu]
          show stuffF _ _ = stuffF _ _ ++ _
          rw [e1]; simp [stuffF, hq]
        have hs' : stuffS (0, 0) (l.take (k + 1)) = (x, 1) := by rw [e2]; simp [stuffS, hq]
        have l1 : (stuffL (l.take (k + 1))).length = m + 1 := by rw [e1', List.length_append, hml]; rfl
        have E1 := Lib.hid e1'
        have Hs' := Lib.hid (show (stuffS (0, 0) (l.take (k + 1))).2 = 1 by rw [hs'])
        have L1 := Lib.hid l1
        have Hx := Lib.hid hx
        clear e1' hs' l1 e1 e2 hq hu hml hx
        go_wp2_with fail
        go_quiet (fail)
        have hBq := below_drewN' hB nq
        have cq : (wr.drewN nq).cell? (ad.add k) = some (.int .i64 x) := hc
        have hown0 : (wr.drewN nq).ownsRow w.heap.size 3 1 (.slice A' m c') m (u.map (Value.int .i64)) := hown
        have hszq := hBq.size
        generalize wr.drewN nq = w1 at hBq cq hown0 hszq ⊢
        go_wp2_with (at_builtin; refine wpList_append_row _ .i64 rfl _ _ 25 rfl w.heap.size 3 i0 (.int .i64 0) 8 Try.underlying25 hi hz0 hz1 hz2 rfl _ m u rfl (hown0.alloc _) (some ⟨w1.heap.size, 0, none⟩) 1 1 _ [x] rfl rfl (Row.lit w1 .i64 [x] 3 rfl) (by unfold maxLen; omega) (by omega) (by simp; omega) ?_; intro A2 c2 w2 hown2 hc2 hB2)
        refine ⟨⟨k + 1, m + 1, A2, c2, 1, by omega, by go_num, L1.out, rfl, by go_num, Hs'.out, by rw [E1.out]; exact hown2, (hBq.alloc hszq _).trans hB2⟩, by simp [intOf]; omega⟩
      · have hl := hlast (by omega)
        obtain ⟨p, rfl⟩ : ∃ p, m = p + 1 := ⟨m - 1, by omega⟩
        rw [Nat.add_sub_cancel] at hl
        obtain ⟨y, hy⟩ : ∃ y, s.1 = y := ⟨_, rfl⟩
        rw [hy] at hl
        have ru := Row.own hown
        obtain ⟨ad2, rfl⟩ : ∃ ad2, A' = some ad2 := by
          obtain ⟨ad2, _, e, _⟩ := ru.get_ (k := 0) (by omega)
          exact ⟨ad2, e⟩
        have cl := ru.at_ hl
        by_cases hxy : x = y
        · have hq : tick s x = (x, q + 1) := by
            rw [hxy, ← hy, tick_same, hsq]
          have dxy : (y == x) = true := by simp [hxy]
          by_cases h5 : q + 1 = 5
          · obtain rfl : q = 4 := by omega
            have e1' : stuffL (l.take (k + 1)) = u ++ [x] ++ [1 - x] := by
              rw [← hu]
              show stuffF _ _ = stuffF _ _ ++ _ ++ _
              rw [e1]; simp [stuffF, hq]
            have hs' : stuffS (0, 0) (l.take (k + 1)) = (1 - x, 1) := by rw [e2]; simp [stuffS, hq]
            have l1 : (stuffL (l.take (k + 1))).length = p + 1 + 1 + 1 := by rw [e1', List.length_append, List.length_append, hml]; rfl
            have E1 := Lib.hid e1'
            have Hs' := Lib.hid (show (stuffS (0, 0) (l.take (k + 1))).2 = 1 by rw [hs'])
            have L1 := Lib.hid l1
            have Hx := Lib.hid hx
            clear e1' hs' l1 e1 e2 hq hu hml hx hlast hm0 hs0 hl hy hxy hb
            go_wp2_with fail
            go_quiet (fail)
            have hBq := below_drewN' hB nq
            have cq : (wr.drewN nq).cell? (ad.add k) = some (.int .i64 x) := hc
            have hown0 : (wr.drewN nq).ownsRow w.heap.size 3 1 (.slice (some ad2) (p + 1) c') (p + 1) (u.map (Value.int .i64)) := hown
            have hszq := hBq.size
            generalize wr.drewN nq = w1 at hBq cq hown0 hszq ⊢
            have cx2 : True := trivial
            go_wp2_with (first
              | (have hq_ := hown2; clear hq_; at_builtin; refine wpList_append_row _ .i64 rfl _ _ 25 rfl w.heap.size 3 i0 (.int .i64 0) 8 Try.underlying25 hi hz0 hz1 hz2 rfl _ (p + 1 + 1) (u ++ [x]) rfl (hown2.alloc _) (some ⟨w2.heap.size, 0, none⟩) 1 1 _ [1 - x] rfl rfl (Row.lit w2 .i64 [1 - x] 3 rfl) (by unfold maxLen; omega) (by omega) (by have := hB2.size; simp at this ⊢; omega) ?_; intro A4 c4 w4 hown4 hc4 hB4)
              | (at_builtin; refine wpList_append_row _ .i64 rfl _ _ 25 rfl w.heap.size 3 i0 (.int .i64 0) 8 Try.underlying25 hi hz0 hz1 hz2 rfl _ (p + 1) u rfl (hown0.alloc _) (some ⟨w1.heap.size, 0, none⟩) 1 1 _ [x] rfl rfl (Row.lit w1 .i64 [x] 3 rfl) (by unfold maxLen; omega) (by omega) (by simp; omega) ?_; intro A2 c2 w2 hown2 hc2 hB2; have cy : w2.cell? (ad.add k) = some (.int .i64 x) := (hrow.below ((hBq.alloc hszq _).trans hB2)).at_ Hx.out))
            refine ⟨⟨k + 1, p + 1 + 1 + 1, A4, c4, 1, by omega, by go_num, L1.out, rfl, by go_num, Hs'.out, by rw [E1.out]; exact hown4, ?_⟩, by simp [intOf]; omega⟩
            exact ((((hBq.alloc hszq _).trans hB2).alloc (by have := hB2.size; simp at this; omega) _).trans hB4)
          · have h5' : ¬ q = 4 := by omega
            have d5 : ((q : Int) + 1 == 5) = false := by simp; omega
            have e1' : stuffL (l.take (k + 1)) = u ++ [x] := by
              rw [← hu]
              show stuffF _ _ = stuffF _ _ ++ _
              rw [e1]; simp [stuffF, hq, h5']
            have hs' : stuffS (0, 0) (l.take (k + 1)) = (x, q + 1) := by rw [e2]; simp [stuffS, hq, h5']
            have l1 : (stuffL (l.take (k + 1))).length = p + 1 + 1 := by rw [e1', List.length_append, hml]; rfl
            have E1 := Lib.hid e1'
            have Hs' := Lib.hid (show (stuffS (0, 0) (l.take (k + 1))).2 = q + 1 by rw [hs'])
            have L1 := Lib.hid l1
            have Hx := Lib.hid hx
            clear e1' hs' l1 e1 e2 hq hu hml hx
            clear hlast hm0 hs0 hl hy hxy hb
            go_wp2_with fail
            go_quiet (fail)
            have hBq := below_drewN' hB nq
            have cq : (wr.drewN nq).cell? (ad.add k) = some (.int .i64 x) := hc
            have hown0 : (wr.drewN nq).ownsRow w.heap.size 3 1 (.slice (some ad2) (p + 1) c') (p + 1) (u.map (Value.int .i64)) := hown
            have hszq := hBq.size
            generalize wr.drewN nq = w1 at hBq cq hown0 hszq ⊢
            go_wp2_with (at_builtin; refine wpList_append_row _ .i64 rfl _ _ 25 rfl w.heap.size 3 i0 (.int .i64 0) 8 Try.underlying25 hi hz0 hz1 hz2 rfl _ (p + 1) u rfl (hown0.alloc _) (some ⟨w1.heap.size, 0, none⟩) 1 1 _ [x] rfl rfl (Row.lit w1 .i64 [x] 3 rfl) (by unfold maxLen; omega) (by omega) (by simp; omega) ?_; intro A2 c2 w2 hown2 hc2 hB2)
            refine ⟨⟨k + 1, p + 1 + 1, A2, c2, q + 1, by omega, by go_num, L1.out, rfl, by go_num, Hs'.out, by rw [E1.out]; exact hown2, (hBq.alloc hszq _).trans hB2⟩, by simp [intOf]; omega⟩
        · have hq : tick s x = (x, 1) := tick_other (by rw [hy]; exact hxy)
          have dxy : (y == x) = false := by simp; exact fun e => hxy e.symm
          have e1' : stuffL (l.take (k + 1)) = u ++ [x] := by
            rw [← hu]
            show stuffF _ _ = stuffF _ _ ++ _
            rw [e1]; simp [stuffF, hq]
          have hs' : stuffS (0, 0) (l.take (k + 1)) = (x, 1) := by rw [e2]; simp [stuffS, hq]
          have l1 : (stuffL (l.take (k + 1))).length = p + 1 + 1 := by rw [e1', List.length_append, hml]; rfl
          have E1 := Lib.hid e1'
          have Hs' := Lib.hid (show (stuffS (0, 0) (l.take (k + 1))).2 = 1 by rw [hs'])
          have L1 := Lib.hid l1
          have Hx := Lib.hid hx
          clear e1' hs' l1 e1 e2 hq hu hml hx
          clear hlast hm0 hs0 hl hy hxy hb
          go_wp2_with fail
          go_quiet (fail)
          have hBq := below_drewN' hB nq
          have cq : (wr.drewN nq).cell? (ad.add k) = some (.int .i64 x) := hc
          have hown0 : (wr.drewN nq).ownsRow w.heap.size 3 1 (.slice (some ad2) (p + 1) c') (p + 1) (u.map (Value.int .i64)) := hown
          have hszq := hBq.size
          generalize wr.drewN nq = w1 at hBq cq hown0 hszq ⊢
          go_wp2_with (at_builtin; refine wpList_append_row _ .i64 rfl _ _ 25 rfl w.heap.size 3 i0 (.int .i64 0) 8 Try.underlying25 hi hz0 hz1 hz2 rfl _ (p + 1) u rfl (hown0.alloc _) (some ⟨w1.heap.size, 0, none⟩) 1 1 _ [x] rfl rfl (Row.lit w1 .i64 [x] 3 rfl) (by unfold maxLen; omega) (by omega) (by simp; omega) ?_; intro A2 c2 w2 hown2 hc2 hB2)
          refine ⟨⟨k + 1, p + 1 + 1, A2, c2, 1, by omega, by go_num, L1.out, rfl, by go_num, Hs'.out, by rw [E1.out]; exact hown2, (hBq.alloc hszq _).trans hB2⟩, by simp [intOf]; omega⟩
    · obtain rfl : k = l.length := by omega
      rw [List.take_length] at hml hown
      obtain rfl : m = M := by rw [← hml, HM.out]
      clear hml hsq
      go_wp2_with fail
      go_ret
      exact ⟨A', c', rfl, hown, hB⟩

end Go.Proofs.Ytmapkjjglhpamaa
