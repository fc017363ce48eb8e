/-
  stuff.Stuff and stuff.Strip.
-/
import Derived.Test.YtmapkjjglhpamaaFollow
namespace Go.Proofs.Ytmapkjjglhpamaa
open Go.RowKit

theorem drop_at {l : List Int} {k : Nat} {x : Int} (hx : l[k]? = some x) : l.drop k = x :: l.drop (k + 1) := by
  obtain ⟨h1, h2⟩ := List.getElem?_eq_some_iff.1 hx
  rw [List.drop_eq_getElem_cons h1, h2]
/-- Behind an append that fits: the follower's boxes lie as they lay. -/
theorem Run2.fits {W w1 : World} {B g : Nat} {s : Int × Nat} {o : Obj} (h : Run2 W B s) (hg : (W.alloc o).grownBy w1 (some g)) (h0 : g ≠ B) (h1 : g ≠ B + 1) : Run2 w1 B s :=
  ⟨(h.1.alloc o).kept hg (fun e => h0 (by cases e; rfl)), (h.2.alloc o).kept hg (fun e => h1 (by cases e; rfl))⟩
theorem below_fits {W w1 : World} {n g : Nat} {o : Obj} (hg : (W.alloc o).grownBy w1 (some g)) (hn : n ≤ W.heap.size) (h : n ≤ g) : Below n W w1 :=
  ((Below.refl n W).alloc hn o).grown hg (by simp; omega) (fun k e => by cases e; exact h)

theorem stuffF_snoc {l : List Int} {k : Nat} {x : Int} (hx : l[k]? = some x) (s : Int × Nat) : stuffF s (l.take (k + 1)) = stuffF s (l.take k) ++ stuffF (stuffS s (l.take k)) [x] := by rw [take_snoc hx, stuffF_append]
theorem stuffS_snoc {l : List Int} {k : Nat} {x : Int} (hx : l[k]? = some x) (s : Int × Nat) : stuffS s (l.take (k + 1)) = stuffS (stuffS s (l.take k)) [x] := by rw [take_snoc hx, stuffS_append]
theorem stuffL_take_len (l : List Int) (k : Nat) (hk : k ≤ l.length) : (stuffL (l.take k)).length ≤ k + k / 4 := by
  have := stuffL_len (l.take k)
  rw [List.length_take, Nat.min_eq_left hk] at this
  omega

set_option maxRecDepth 100000 in
set_option maxHeartbeats 2000000 in
theorem stuff_any (l : List Int) (A : Option Addr) (c : Nat) (w : World) (h : Row .i64 w w.heap.size A l) (hr : rightB l = true) (hm : l.length ≤ 100000) :
    Calls Try.prog 38 #[.slice A l.length c] w fun e w' => ∃ cap, e = .returned (.slice (some ⟨w.heap.size, 0, none⟩) (stuffL l).length cap) ∧
      w'.ownsRow w.heap.size 3 1 (.slice (some ⟨w.heap.size, 0, none⟩) (stuffL l).length cap) (stuffL l).length ((stuffL l).map (Value.int .i64)) ∧ Below w.heap.size w w' := by
  obtain ⟨i0, hi, hz0, hz1, hz2⟩ := info_parts Try.infoInt
  have HR := Lib.hid hr
  clear hr
  go_enter Try.func38, Try.ntmps38
  go_wp2_with (first
    | (at_make; refine wpList_make_own _ rfl _ _ 25 rfl w.heap.size 3 i0 (.int .i64 0) 1 Try.underlying25 hi hz0 hz1 _ _ _ (l.length + l.length / 4) rfl rfl (by go_num) (by rw [hz2]; omega) (by unfold maxLen; omega) (Nat.le_refl _) ?_; intro w0 hown0 hgrow0)
    | (go_at_call 65; refine (follow_any _).mono ?_; rintro e w1 ⟨rfl, hrun, hB1, hz⟩))
  have hg0 := (hown0.lt w.heap.size rfl).2
  have hB0 : Below w.heap.size w w1 := ((Below.refl _ _).grown hgrow0 (Nat.le_refl _) (fun k h => by cases h)).trans (hB1.mono hgrow0.size)
  have hown1 := own_to hown0 hB1
  clear hB1 hgrow0 hown0
  go_loopw [3, 18] (fun o i wr => ∃ (k m : Nat), k ≤ l.length ∧ i = .int .i64 k ∧ (stuffL (l.take k)).length = m ∧ o = .slice (some ⟨w.heap.size, 0, none⟩) m (l.length + l.length / 4) ∧
      wr.ownsRow w.heap.size 3 1 (.slice (some ⟨w.heap.size, 0, none⟩) m (l.length + l.length / 4)) m ((stuffL (l.take k)).map (Value.int .i64)) ∧ Run2 wr w0.heap.size (stuffS (0, 0) (l.take k)) ∧ Below w.heap.size w wr)
    (fun _ i _ => l.length - (intOf i).toNat)
  case atStart => exact ⟨0, 0, Nat.zero_le _, rfl, rfl, rfl, hown1, hrun, hB0⟩
  case round =>
    clear hown1 hrun hB0 hz
    obtain ⟨k, m, hk, rfl, hml, rfl, hown, hrun, hB⟩ := hrel
    have hsz := hB.size
    by_cases hlt : k < l.length
    · obtain ⟨ad, x, rfl, hx, hc⟩ := (h.below hB).get_ hlt
      have hb := rightB_at HR.out hx
      have hfit : m ≤ k + k / 4 := by rw [← hml]; exact stuffL_take_len l k hk
      have hfit2 : (stuffL (l.take (k + 1))).length ≤ k + 1 + (k + 1) / 4 := stuffL_take_len l (k + 1) (by omega)
      have hs4 := stuffS_le (l.take k) (0, 0) (by simp)
      have e1 := stuffF_snoc hx (0, 0)
      have e2 := stuffS_snoc hx (0, 0)
      obtain ⟨s, hs⟩ : ∃ s, stuffS (0, 0) (l.take k) = s := ⟨_, rfl⟩
      rw [hs] at e1 e2 hs4 hrun
      clear hs
      have hs62 : s.2 < 4611686018427387904 := by omega
      obtain ⟨q, hq⟩ : ∃ q, tick s x = (x, q) := ⟨_, rfl⟩
      have HB := Lib.hid hb
      have Hq := Lib.hid hq
      have Hml := Lib.hid hml
      clear hb hml
      by_cases h5 : q = 5
      · subst h5
        have e1' : stuffL (l.take (k + 1)) = stuffL (l.take k) ++ [x, 1 - x] := by
          show stuffF _ _ = stuffF _ _ ++ _
          rw [e1]; simp [stuffF, hq]
        have e2' : stuffS (0, 0) (l.take (k + 1)) = (1 - x, 1) := by rw [e2]; simp [stuffS, hq]
        have l2 : (stuffL (l.take (k + 1))).length = m + 1 + 1 := by rw [e1', List.length_append, Hml.out]; rfl
        rw [l2] at hfit2
        have ht2 : tick (x, 5) (1 - x) = (1 - x, 1) := tick_other (by simp; omega)
        have Ht2 := Lib.hid ht2
        have E1 := Lib.hid e1'
        have E2 := Lib.hid e2'
        have L2 := Lib.hid l2
        clear hx e1 e2 e1' e2' hq l2 ht2
        go_wp2_with (first
          | (at_builtin; have hq_ := hown3; clear hq_; refine wpList_append_fits _ rfl _ _ 25 rfl w.heap.size 3 i0 1 Try.underlying25 hi hz1 w.heap.size (m + 1) (l.length + l.length / 4) _ rfl (hown3.alloc _) ⟨w3.heap.size, 0, none⟩ 1 1 [.int .i64 (1 - x)] rfl rfl (cell_one_new _ _ _) (by simp [Value.oneCell']) (by omega) ?_; intro w4 hown4 hgrow4; have hrun4 := hrun3.fits hgrow4 (by omega) (by omega))
          | (at_builtin; refine wpList_append_fits _ rfl _ _ 25 rfl w.heap.size 3 i0 1 Try.underlying25 hi hz1 w.heap.size m (l.length + l.length / 4) _ rfl (hown.alloc _) ⟨wr.heap.size, 0, none⟩ 1 1 [.int .i64 x] rfl rfl (cell_one_new _ _ _) (by simp [Value.oneCell']) (by omega) ?_; intro w2 hown2 hgrow2; have hrun2 := hrun.fits hgrow2 (by omega) (by omega); have hB2 := below_fits hgrow2 hsz (Nat.le_refl _))
          | (go_at_call 79; have hq_ := hrun4; clear hq_; refine (follow1_at (1 - x) 1 Ht2.out hrun4 (by simp)).mono ?_; rintro e w5 ⟨rfl, hrun5, hO5⟩)
          | (go_at_call 79; refine (follow1_at x 5 Hq.out hrun2 hs62).mono ?_; rintro e w3 ⟨rfl, hrun3, hO3⟩; have hown3 := hO3.own hown2 (by omega) (by omega))
          | (go_at_call 66; refine (opposite_any x HB.out _).mono ?_; rintro e w3' ⟨rfl, rfl⟩))
        have hB3 := hB2.trans (hO3.below.mono (by omega))
        have hB4 := hB3.trans (below_fits hgrow4 (by rw [hO3.size]; have := hB2.size; omega) (Nat.le_refl _))
        have hBB := hB.trans (hB4.trans (hO5.below.mono (by omega)))
        have hown5 := hO5.own hown4 (by omega) (by omega)
        refine ⟨⟨k + 1, m + 1 + 1, by omega, by go_num, L2.out, rfl, ?_, ?_, hBB⟩, by simp [intOf]; omega⟩
        · rw [E1.out, List.map_append]
          simpa using hown5
        · rw [E2.out]; exact hrun5
      · have e1' : stuffL (l.take (k + 1)) = stuffL (l.take k) ++ [x] := by
          show stuffF _ _ = stuffF _ _ ++ _
          rw [e1]; simp [stuffF, hq, h5]
        have e2' : stuffS (0, 0) (l.take (k + 1)) = (x, q) := by rw [e2]; simp [stuffS, hq, h5]
        have l2 : (stuffL (l.take (k + 1))).length = m + 1 := by rw [e1', List.length_append, Hml.out]; rfl
        rw [l2] at hfit2
        have d5 : ((q : Int) == 5) = false := by simp; omega
        have E1 := Lib.hid e1'
        have E2 := Lib.hid e2'
        have L2 := Lib.hid l2
        clear hx e1 e2 e1' e2' hq l2
        go_wp2_with (first
          | (at_builtin; refine wpList_append_fits _ rfl _ _ 25 rfl w.heap.size 3 i0 1 Try.underlying25 hi hz1 w.heap.size m (l.length + l.length / 4) _ rfl (hown.alloc _) ⟨wr.heap.size, 0, none⟩ 1 1 [.int .i64 x] rfl rfl (cell_one_new _ _ _) (by simp [Value.oneCell']) (by omega) ?_; intro w2 hown2 hgrow2; have hrun2 := hrun.fits hgrow2 (by omega) (by omega); have hB2 := below_fits hgrow2 hsz (Nat.le_refl _))
          | (go_at_call 79; refine (follow1_at x q Hq.out hrun2 hs62).mono ?_; rintro e w3 ⟨rfl, hrun3, hO3⟩; have hown3 := hO3.own hown2 (by omega) (by omega)))
        have hBB := hB.trans (hB2.trans (hO3.below.mono (by omega)))
        refine ⟨⟨k + 1, m + 1, by omega, by go_num, L2.out, rfl, ?_, ?_, hBB⟩, by simp [intOf]; omega⟩
        · rw [E1.out, List.map_append]
          exact hown3
        · rw [E2.out]; exact hrun3
    · obtain rfl : k = l.length := by omega
      rw [List.take_length] at hml hown
      subst hml
      go_wp2
      go_ret
      exact ⟨_, rfl, hown, hB⟩

end Go.Proofs.Ytmapkjjglhpamaa
