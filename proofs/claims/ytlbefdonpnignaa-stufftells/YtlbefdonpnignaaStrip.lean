/-
  stuff.Strip.
-/
import Derived.Test.YtlbefdonpnignaaStuff
import Derived.WalkMore
namespace Go.Proofs.Ytlbefdonpnignaa
open Go.RowKit

def stripL (l : List Int) : List Int × Option Nat := stripF (0, 0) l
/-- What is left to be done at place k, with the bits o appended and the run s. -/
def Left (l o : List Int) (s : Int × Nat) (k : Nat) : Prop := stripL l = (o ++ (stripF s (l.drop k)).1, (stripF s (l.drop k)).2.map (· + k))
theorem Left.start (l : List Int) : Left l [] (0, 0) 0 := by
  unfold Left stripL
  simp
theorem Left.fault {l o : List Int} {s : Int × Nat} {k : Nat} {x : Int} (h : Left l o s k) (hx : l[k]? = some x) (h6 : 5 < (tick s x).2) : stripL l = (o, some k) := by
  unfold Left at h
  rw [drop_at hx] at h
  simpa [stripF, h6] using h
theorem Left.keep {l o : List Int} {s : Int × Nat} {k : Nat} {x : Int} (h : Left l o s k) (hx : l[k]? = some x) (h6 : (tick s x).2 ≤ 5) (h5 : s.2 < 5) : Left l (o ++ [x]) (tick s x) (k + 1) := by
  unfold Left at h ⊢
  rw [drop_at hx] at h
  rw [h]
  simp only [stripF, if_neg (Nat.not_lt.2 h6), if_pos h5, Option.map_map]
  refine Prod.ext (by simp) ?_
  show Option.map _ _ = Option.map _ _
  congr 1
  funext p
  simp; omega
theorem Left.skip {l o : List Int} {s : Int × Nat} {k : Nat} {x : Int} (h : Left l o s k) (hx : l[k]? = some x) (h6 : (tick s x).2 ≤ 5) (h5 : ¬ s.2 < 5) : Left l o (tick s x) (k + 1) := by
  unfold Left at h ⊢
  rw [drop_at hx] at h
  rw [h]
  simp only [stripF, if_neg (Nat.not_lt.2 h6), if_neg h5, Option.map_map]
  refine Prod.ext rfl ?_
  show Option.map _ _ = Option.map _ _
  congr 1
  funext p
  simp; omega
theorem Left.done {l o : List Int} {s : Int × Nat} (h : Left l o s l.length) : stripL l = (o, if s.2 = 5 then some l.length else none) := by
  unfold Left at h
  rw [h]
  simp only [List.drop_length, stripF, List.append_nil]
  split <;> simp

set_option maxRecDepth 100000 in
set_option maxHeartbeats 2000000 in
theorem strip_any (l : List Int) (A : Option Addr) (c : Nat) (w : World) (h : Row .i64 w w.heap.size A l) (hm : l.length ≤ 100000) :
    Calls Try.prog 13 #[.slice A l.length c] w fun e w' => ∃ cap, e = .returned (.tuple #[.slice (some ⟨w.heap.size, 0, none⟩) (stripL l).1.length cap, .int .i64 (placeI (stripL l).2)]) ∧
      w'.ownsRow w.heap.size 3 1 (.slice (some ⟨w.heap.size, 0, none⟩) (stripL l).1.length cap) (stripL l).1.length ((stripL l).1.map (Value.int .i64)) ∧ Below w.heap.size w w' := by
  obtain ⟨i0, hi, hz0, hz1, hz2⟩ := info_parts Try.infoInt
  obtain ⟨R, hR⟩ : ∃ R, stripL l = R := ⟨_, rfl⟩
  have HR := Lib.hid hR
  rw [hR]
  clear hR
  go_enter Try.func13, Try.ntmps13
  go_wp2_with fail
  go_step3
  go_wp2_with (first
    | (at_make; refine wpList_make_own _ rfl _ _ 22 rfl w.heap.size 3 i0 (.int .i64 0) 1 Try.underlying22 hi hz0 hz1 _ _ _ l.length rfl rfl (by go_num) (by rw [hz2]; omega) (by unfold maxLen; omega) (Nat.le_refl _) ?_; intro w0 hown0 hgrow0)
    | (go_at_call 21; refine (follow_any _).mono ?_; rintro e w1 ⟨rfl, hrun, hB1, hz⟩))
  go_step3
  go_wp2_with fail
  have hg0 := (hown0.lt w.heap.size rfl).2
  have hB0 : Below w.heap.size w w1 := ((Below.refl _ _).grown hgrow0 (Nat.le_refl _) (fun k h => by cases h)).trans (hB1.mono hgrow0.size)
  have hown1 := own_to hown0 hB1
  clear hB1 hgrow0 hown0
  go_loopw [4, 6, 7, 17] (fun o b f i wr => ∃ (k m sm : Nat) (sv : Int) (os : List Int), k ≤ l.length ∧ i = .int .i64 k ∧ b = .int .i64 sm ∧ f = .int .i64 (-1) ∧ os.length = m ∧ m ≤ k ∧ sm ≤ 5 ∧ o = .slice (some ⟨w.heap.size, 0, none⟩) m l.length ∧
      wr.ownsRow w.heap.size 3 1 (.slice (some ⟨w.heap.size, 0, none⟩) m l.length) m (os.map (Value.int .i64)) ∧ Run2 wr w0.heap.size (sv, sm) ∧ Below w.heap.size w wr ∧ Left l os (sv, sm) k)
    (fun _ _ _ i _ => l.length - (intOf i).toNat)
  case atStart => exact ⟨0, 0, 0, 0, [], Nat.zero_le _, rfl, rfl, rfl, rfl, Nat.le_refl _, by omega, rfl, hown1, hrun, hB0, Left.start l⟩
  case round =>
    clear hown1 hrun hB0 hz
    obtain ⟨k, m, sm, sv, os, hk, rfl, rfl, rfl, hml, hmk, hs5, rfl, hown, hrun, hB, hL⟩ := hrel
    have hsz := hB.size
    by_cases hlt : k < l.length
    · obtain ⟨ad, x, rfl, hx, hc⟩ := (h.below hB).get_ hlt
      have hs62 : sm < 4611686018427387904 := by omega
      have hq1 := tick_le (sv, sm) x
      obtain ⟨q, hq⟩ : ∃ q, tick (sv, sm) x = (x, q) := ⟨_, rfl⟩
      rw [hq] at hq1
      simp only at hq1
      by_cases h6 : 5 < q
      · have hF := hL.fault hx (by rw [hq]; exact h6)
        rw [HR.out] at hF
        subst hF
        subst hml
        have Hq := Lib.hid hq
        have d6 : decide (5 < (q : Int)) = true := by simp; omega
        clear hq hL hx HR
        go_wp2_with (go_at_call 25; refine (follow1_at x q Hq.out hrun hs62).mono ?_; rintro e w3 ⟨rfl, hrun3, hO3⟩)
        go_ret2
        exact ⟨_, rfl, hO3.own hown (by omega) (by omega), hB.trans (hO3.below.mono (by omega))⟩
      · have d6 : decide (5 < (q : Int)) = false := by simp; omega
        by_cases h5 : sm < 5
        · have hK := hL.keep hx (by rw [hq]; simp only; omega) h5
          rw [hq] at hK
          have Hq := Lib.hid hq
          have HK := Lib.hid hK
          have Hml := Lib.hid hml
          have d5 : decide ((sm : Int) < 5) = true := by simp; omega
          clear hq hL hx hK hml
          go_wp2_with (first
            | (go_at_call 25; refine (follow1_at x q Hq.out hrun hs62).mono ?_; rintro e w3 ⟨rfl, hrun3, hO3⟩; have hown3 := hO3.own hown (by omega) (by omega))
            | (at_builtin; refine wpList_append_fits _ rfl _ _ 22 rfl w.heap.size 3 i0 1 Try.underlying22 hi hz1 w.heap.size m l.length _ rfl (hown3.alloc _) ⟨w3.heap.size, 0, none⟩ 1 1 [.int .i64 x] rfl rfl (cell_one_new _ _ _) (by simp [Value.oneCell']) (by omega) ?_; intro w4 hown4 hgrow4; have hrun4 := hrun3.fits hgrow4 (by omega) (by omega)))
          have hB3 := hB.trans (hO3.below.mono (by omega))
          have hBB := hB3.trans (below_fits hgrow4 hB3.size (Nat.le_refl _))
          exact ⟨⟨k + 1, m + 1, q, x, os ++ [x], by omega, by go_num, rfl, rfl, by rw [List.length_append, Hml.out]; rfl, by omega, by omega, rfl, by rw [List.map_append]; exact hown4, hrun4, hBB, HK.out⟩, by simp [intOf]; omega⟩
        · have hK := hL.skip hx (by rw [hq]; simp only; omega) h5
          rw [hq] at hK
          have Hq := Lib.hid hq
          have HK := Lib.hid hK
          have Hml := Lib.hid hml
          have d5 : decide ((sm : Int) < 5) = false := by simp; omega
          clear hq hL hx hK hml
          go_wp2_with (go_at_call 25; refine (follow1_at x q Hq.out hrun hs62).mono ?_; rintro e w3 ⟨rfl, hrun3, hO3⟩; have hown3 := hO3.own hown (by omega) (by omega))
          have hB3 := hB.trans (hO3.below.mono (by omega))
          exact ⟨⟨k + 1, m, q, x, os, by omega, by go_num, rfl, rfl, Hml.out, by omega, by omega, rfl, hown3, hrun3, hB3, HK.out⟩, by simp [intOf]; omega⟩
    · obtain rfl : k = l.length := by omega
      have hF := hL.done
      rw [HR.out] at hF
      clear HR hL
      by_cases h5 : sm = 5
      · subst h5
        rw [if_pos rfl] at hF
        subst hF
        subst hml
        go_wp2
        first | go_ret2 | (rw [Exit.noGoto_ret]; go_ret2)
        exact ⟨_, rfl, hown, hB⟩
      · have d5 : ((sm : Int) == 5) = false := by simp; omega
        rw [if_neg h5] at hF
        subst hF
        subst hml
        go_wp2
        first | go_ret2 | (rw [Exit.noGoto_ret]; go_ret2)
        exact ⟨_, rfl, hown, hB⟩

end Go.Proofs.Ytlbefdonpnignaa
