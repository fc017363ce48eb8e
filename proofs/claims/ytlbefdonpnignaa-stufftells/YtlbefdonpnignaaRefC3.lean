/-
  The document's own Runs; and its answers as the statements use them.
-/
import Derived.Test.YtlbefdonpnignaaRefB3
namespace Go.Proofs.Ytlbefdonpnignaa
open Go.RowKit

theorem runsF_snoc : ∀ (a : List Int) (s : Int × Nat) (x : Int), runsF s (a ++ [x]) = max (runsF s a) (tick (a.foldl tick s) x).2
  | [], s, x => by simp [runsF]
  | y :: a, s, x => by
    simp only [List.cons_append, runsF, List.foldl_cons, runsF_snoc a (tick s y) x]
    omega
theorem runsL_snoc {l : List Int} {k : Nat} {x : Int} (hx : l[k]? = some x) : runsL (l.take (k + 1)) = max (runsL (l.take k)) (runOf (l.take (k + 1))).2 := by
  rw [take_snoc hx, runOf_snoc]
  exact runsF_snoc _ _ _

set_option maxRecDepth 100000 in
set_option maxHeartbeats 1000000 in
theorem refRuns_any (l : List Int) (A : Option Addr) (c : Nat) (w : World) (h : Row .i64 w w.heap.size A l) (hm : l.length ≤ 10000) :
    Calls Try.prog 19 #[.slice A l.length c] w fun e w' => e = .returned (.int .i64 (runsL l)) ∧ ∃ q, w' = w.drewN q := by
  go_enter Try.func19, Try.ntmps19
  go_wp2_with fail
  go_loopw [3, 4, 5] (fun mo nn i wr => ∃ (k u v dq : Nat), k ≤ l.length ∧ i = .int .i64 k ∧ mo = .int .i64 u ∧ nn = .int .i64 v ∧ runsL (l.take k) = u ∧ (runOf (l.take k)).2 = v ∧ wr = w.drewN dq)
    (fun _ _ i _ => l.length - (intOf i).toNat)
  case atStart => exact ⟨0, 0, 0, 0, Nat.zero_le _, rfl, rfl, rfl, rfl, rfl, rfl⟩
  case round =>
    obtain ⟨k, u, v, dq, hk, rfl, rfl, rfl, hu0, hv0, rfl⟩ := hrel
    have hvk : v ≤ k := by have := runOf_le (l.take k); rw [hv0, List.length_take] at this; omega
    by_cases hlt : k < l.length
    · obtain ⟨ad, x, rfl, hx, hc⟩ := h.get_ hlt
      have hs := runsL_snoc hx
      rw [hu0] at hs
      have ht : runOf (l.take (k + 1)) = tick (runOf (l.take k)) x := by rw [take_snoc hx, runOf_snoc]
      rcases k with _ | j
      · have hn : (runOf (l.take 1)).2 = 1 := by rw [ht]; simp [runOf, tick]
        have Hn := Lib.hid hn
        rw [hn] at hs
        have Hs := Lib.hid hs
        clear hx hs hn ht hu0 hv0
        by_cases hu : u < 1
        · have hu1 : (u : Int) < (1 : Nat) := by omega
          have Hmx := Lib.hid (show runsL (l.take (0 + 1)) = 1 by rw [Hs.out]; omega)
          clear hu
          go_wp2_with fail
          go_quiet (fail)
          go_wp2_with fail
          exact ⟨⟨0 + 1, 1, 1, _, by omega, by go_num, rfl, rfl, Hmx.out, Hn.out, rfl⟩, by simp [intOf] <;> omega⟩
        · have hu1 : ¬ (u : Int) < (1 : Nat) := by omega
          have Hmx := Lib.hid (show runsL (l.take (0 + 1)) = u by rw [Hs.out]; omega)
          clear hu
          go_wp2_with fail
          go_quiet (fail)
          go_wp2_with fail
          exact ⟨⟨0 + 1, u, 1, _, by omega, by go_num, rfl, rfl, Hmx.out, Hn.out, rfl⟩, by simp [intOf] <;> omega⟩
      · obtain ⟨y, hy⟩ : ∃ y, l[j]? = some y := ⟨_, List.getElem?_eq_getElem (by omega)⟩
        have hcy := Row.at_ h hy
        have hlast : (runOf (l.take (j + 1))).1 = y := by rw [take_snoc hy, runOf_snoc]; rfl
        have d0 : decide ((0 : Int) < (j : Int) + 1) = true := by simp <;> omega
        have hj1 : (j : Int) + 1 < (l.length : Int) := by omega
        simp [Addr.add] at hc
        by_cases hxy : x = y
        · subst hxy
          have hn : (runOf (l.take (j + 1 + 1))).2 = v + 1 := by rw [ht, ← hlast, tick_same, hv0]
          have Hn := Lib.hid hn
          rw [hn] at hs
          have Hs := Lib.hid hs
          have dxy : (x == x) = true := by simp
          clear hx hs hn ht hu0 hv0 hy hlast
          by_cases hu : u < (v + 1)
          · have hu1 : (u : Int) < ((v + 1) : Nat) := by omega
            have Hmx := Lib.hid (show runsL (l.take (j + 1 + 1)) = (v + 1) by rw [Hs.out]; omega)
            clear hu
            go_wp2_with fail
            go_quiet (fail)
            go_wp2_with fail
            exact ⟨⟨j + 1 + 1, (v + 1), (v + 1), _, by omega, by go_num, rfl, rfl, Hmx.out, Hn.out, rfl⟩, by simp [intOf] <;> omega⟩
          · have hu1 : ¬ (u : Int) < ((v + 1) : Nat) := by omega
            have Hmx := Lib.hid (show runsL (l.take (j + 1 + 1)) = u by rw [Hs.out]; omega)
            clear hu
            go_wp2_with fail
            go_quiet (fail)
            go_wp2_with fail
            exact ⟨⟨j + 1 + 1, u, (v + 1), _, by omega, by go_num, rfl, rfl, Hmx.out, Hn.out, rfl⟩, by simp [intOf] <;> omega⟩
        · have hn : (runOf (l.take (j + 1 + 1))).2 = 1 := by rw [ht, tick_other (by rw [hlast]; exact hxy)]
          have Hn := Lib.hid hn
          rw [hn] at hs
          have Hs := Lib.hid hs
          have dxy : (x == y) = false := by simp [hxy]
          clear hx hs hn ht hu0 hv0 hy hlast hxy
          by_cases hu : u < 1
          · have hu1 : (u : Int) < (1 : Nat) := by omega
            have Hmx := Lib.hid (show runsL (l.take (j + 1 + 1)) = 1 by rw [Hs.out]; omega)
            clear hu
            go_wp2_with fail
            go_quiet (fail)
            go_wp2_with fail
            exact ⟨⟨j + 1 + 1, 1, 1, _, by omega, by go_num, rfl, rfl, Hmx.out, Hn.out, rfl⟩, by simp [intOf] <;> omega⟩
          · have hu1 : ¬ (u : Int) < (1 : Nat) := by omega
            have Hmx := Lib.hid (show runsL (l.take (j + 1 + 1)) = u by rw [Hs.out]; omega)
            clear hu
            go_wp2_with fail
            go_quiet (fail)
            go_wp2_with fail
            exact ⟨⟨j + 1 + 1, u, 1, _, by omega, by go_num, rfl, rfl, Hmx.out, Hn.out, rfl⟩, by simp [intOf] <;> omega⟩
    · obtain rfl : k = l.length := by omega
      rw [List.take_length] at hu0
      subst hu0
      go_wp2_with fail
      go_ret
      exact ⟨rfl, dq, rfl⟩

section
variable {w : World} {A : Option Addr} {l : List Int} {n : Nat} (c : Nat)
theorem refStuff_at (hn : l.length = n) (h : Row .i64 w w.heap.size A l) (hr : rightB l = true) (hm : n ≤ 10000) {r : List Int} (hR : stuffL l = r) {m : Nat} (hl : r.length = m) :
    Calls Try.prog 17 #[.slice A n c] w fun e w' => ∃ A' c', e = .returned (.slice A' m c') ∧ Row .i64 w' w'.heap.size A' r ∧ Below w.heap.size w w' := by
  subst hn hR
  refine (refStuff_any l A c w h hr hm).mono ?_
  rintro e w' ⟨A', c', m', h1, h2, h3, h4⟩
  obtain rfl : m' = m := by omega
  exact ⟨A', c', h1, Row.own h3, h4⟩
theorem refStrip_at (hn : l.length = n) (h : Row .i64 w w.heap.size A l) (hm : n ≤ 10000) {r : List Int} {p : Option Nat} (hR : stripL l = (r, p)) {m : Nat} (hl : r.length = m) {v : Int} (hv : placeI p = v) :
    Calls Try.prog 14 #[.slice A n c] w fun e w' => ∃ A' c', e = .returned (.tuple #[.slice A' m c', .int .i64 v]) ∧ Row .i64 w' w'.heap.size A' r ∧ Below w.heap.size w w' := by
  subst hn hv
  have := refStrip_any l A c w h hm
  rw [hR] at this
  refine this.mono ?_
  rintro e w' ⟨A', c', m', h1, h2, h3, h4⟩
  simp only at h2
  obtain rfl : m' = m := by omega
  exact ⟨A', c', h1, Row.own h3, h4⟩
theorem refRuns_at (hn : l.length = n) (h : Row .i64 w w.heap.size A l) (hm : n ≤ 10000) {v : Nat} (hv : runsL l = v) :
    Calls Try.prog 19 #[.slice A n c] w fun e w' => e = .returned (.int .i64 v) ∧ Below w.heap.size w w' := by
  subst hn hv
  refine (refRuns_any l A c w h hm).mono ?_
  rintro e w' ⟨h1, q, rfl⟩
  exact ⟨h1, below_drewN0 w q⟩
end

end Go.Proofs.Ytlbefdonpnignaa
