/-
  The first of the least frames: the program's comparing closure, firstLeast, nextAt; the document's place.
-/
import Derived.Test.YtlbgilbigcnleaaNdM
import Derived.Test.YtlbgilbigcnleaaNdS
namespace Go.Proofs.Ytlbgilbigcnleaa
open Go.RowKit
set_option linter.unusedVariables false
set_option linter.unusedSimpArgs false

theorem fsl_getD {w : World} {P : Nat → Prop} {A : Option Addr} {n c : Nat} {Fs : List FC} (h : FSl w P A n c Fs) {k : Nat} (hk : k < n) : ∃ ad f, A = some ad ∧ FAt w (ad.add (k * 5)) f ∧ FIs w P f (Fs.getD k zeroF) ∧ Fs.getD k zeroF ∈ Fs := by
  obtain ⟨ad, f, F, e, hF, ha, hf⟩ := h.at_ hk
  have : Fs.getD k zeroF = F := by simp [List.getD, hF]
  rw [this]
  exact ⟨ad, f, e, ha, hf, List.mem_of_getElem? hF⟩
set_option maxRecDepth 100000 in
set_option maxHeartbeats 2000000 in
theorem next1_c {w : World} {P P' : Nat → Prop} {f g : FV} {F G : FC} (hf : FIs w P f F) (hg : FIs w P' g G) (hF : okC F) (hG : okC G) (q : Bool) (hq : lessC F G = q) :
    Calls Try.prog 68 #[f.v, g.v] w fun e w' => ∃ z : Int, e = .returned (.int .i64 z) ∧ decide (z < 0) = q ∧ Below w.heap.size w w' := by
  obtain ⟨n, hn⟩ : ∃ n, (rankC F).length = n := ⟨_, rfl⟩
  obtain ⟨m, hm⟩ : ∃ m, (rankC G).length = m := ⟨_, rfl⟩
  have hn2 := rankC_le F
  have hm2 := rankC_le G
  rw [hn] at hn2
  rw [hm] at hm2
  have Hn := Lib.hid hn
  have Hm := Lib.hid hm
  have Hq := Lib.hid hq
  clear hn hm hq
  obtain ⟨w0, hw0⟩ : ∃ w0, ((w.alloc (.cells #[.bool f.x, .int .i64 f.i, .bool f.r, .int .i64 f.n, .slice f.a f.m f.c] 30)).alloc (.cells #[.bool g.x, .int .i64 g.i, .bool g.r, .int .i64 g.n, .slice g.a g.m g.c] 30)) = w0 := ⟨_, rfl⟩
  have hT0 : Below w.heap.size w w0 := by rw [← hw0]; exact below_then (below_alloc1 _ _) (below_alloc1 _ _)
  have hf0 : w0.heap[w.heap.size]? = some (.cells #[.bool f.x, .int .i64 f.i, .bool f.r, .int .i64 f.n, .slice f.a f.m f.c] 30) := by rw [← hw0]; exact block_below (below_alloc1 _ _) (World.alloc_heap_new _ _)
  have hg0 : w0.heap[(w.heap.size + 1)]? = some (.cells #[.bool g.x, .int .i64 g.i, .bool g.r, .int .i64 g.n, .slice g.a g.m g.c] 30) := by rw [← hw0]; exact alloc_at _ _ (by simp)
  have hs0 : w0.heap.size = w.heap.size + 2 := by rw [← hw0]; simp
  have Hs0 := Lib.hid hs0
  clear hs0
  obtain ⟨fc0, fc1, fc2, fc3, fc4⟩ := cells5' hf0
  obtain ⟨gc0, gc1, gc2, gc3, gc4⟩ := cells5' hg0
  go_enter Try.func68, Try.ntmps68
  go_wp2_with fail
  clear fc0 fc1 fc2 fc3 fc4 gc0 gc1 gc2 gc3 gc4
  clear hw0
  have hx0 := hf.to hT0
  have hy0 := hg.to hT0
  refine wp_region_held_drew (S := fun W => (W.cell? ⟨w.heap.size, 0, none⟩ = some (.bool f.x) ∧ W.cell? ⟨w.heap.size, 1, none⟩ = some (.int .i64 f.i) ∧ W.cell? ⟨w.heap.size, 2, none⟩ = some (.bool f.r) ∧ W.cell? ⟨w.heap.size, 3, none⟩ = some (.int .i64 f.n) ∧ W.cell? ⟨w.heap.size, 4, none⟩ = some (.slice f.a f.m f.c)) ∧ (W.cell? ⟨(w.heap.size + 1), 0, none⟩ = some (.bool g.x) ∧ W.cell? ⟨(w.heap.size + 1), 1, none⟩ = some (.int .i64 g.i) ∧ W.cell? ⟨(w.heap.size + 1), 2, none⟩ = some (.bool g.r) ∧ W.cell? ⟨(w.heap.size + 1), 3, none⟩ = some (.int .i64 g.n) ∧ W.cell? ⟨(w.heap.size + 1), 4, none⟩ = some (.slice g.a g.m g.c))) (by kernel_rfl) (by exact ⟨cells5' (block_below (below_drew1 _) hf0), cells5' (block_below (below_drew1 _) hg0)⟩) (fun hHeld_ => ?_)
  refine wpAnyH_take' (i := 0) (v := ?v0_t1) 5 rfl rfl (by kernel_rfl) (by kernel_rfl) (by kernel_rfl) (fun _ _ _ h => h) (Or.inl ⟨by kernel_rfl, ?hy0_t1⟩) (by assumption) ?rest0_t1
  case hy0_t1 => (intro W_ hS_; (try dsimp only at hS_); go_simp; (try (with_reducible rfl)))
  try simp only [Act.put, List.setIfInBounds_toArray, List.set_cons_zero, List.set_cons_succ]
  refine wpAnyH_take' (i := 2) (v := ?v2_t1) 7 rfl rfl (by kernel_rfl) (by kernel_rfl) (by kernel_rfl) (fun _ _ _ h => h) (Or.inl ⟨by kernel_rfl, ?hy2_t1⟩) (by assumption) ?rest2_t1
  case hy2_t1 => (intro W_ hS_; (try dsimp only at hS_); go_simp; (try (with_reducible rfl)))
  try simp only [Act.put, List.setIfInBounds_toArray, List.set_cons_zero, List.set_cons_succ]
  refine wpAnyH_ready (rs := [1]) (by kernel_rfl) (by simp) ?_
  refine AllReadyH.cons rfl (fun K_ hK_ => ?_) AllReadyH.nil
  go_simp
  refine (rank_c (FIs.to hx0 (below_drew1 _)) hF n Hn.out).mono ?_; rintro e wr1 ⟨A1, c1, rfl, hr1_, hc1, hBr1⟩
  go_wp2_with fail
  refine hK_.out _ _ (by exact ⟨cells5' (block_below hBr1 (block_below (below_drew1 _) hf0)), cells5' (block_below hBr1 (block_below (below_drew1 _) hg0))⟩) (fun hHeld_1 => ?_)
  clear hK_
  try simp only [Act.put, List.setIfInBounds_toArray, List.set_cons_zero, List.set_cons_succ]
  refine wpAnyH_ready (rs := [3]) (by kernel_rfl) (by simp) ?_
  refine AllReadyH.cons rfl (fun K_ hK_ => ?_) AllReadyH.nil
  go_simp
  refine (rank_c (FIs.to (FIs.to hy0 (below_drew1 _)) hBr1) hG m Hm.out).mono ?_; rintro e wr3 ⟨A2, c2, rfl, hr2_, hc2, hBr3⟩
  go_wp2_with fail
  refine hK_.out _ _ (by exact ⟨cells5' (block_below hBr3 (block_below hBr1 (block_below (below_drew1 _) hf0))), cells5' (block_below hBr3 (block_below hBr1 (block_below (below_drew1 _) hg0)))⟩) (fun hHeld_3 => ?_)
  clear hK_
  try simp only [Act.put, List.setIfInBounds_toArray, List.set_cons_zero, List.set_cons_succ]
  refine wpAnyH_ready (rs := [4]) (by kernel_rfl) (by simp) ?_
  refine AllReadyH.cons rfl (fun K_ hK_ => ?_) AllReadyH.nil
  go_simp
  refine (compare_any (rankC F) (rankC G) n m Hn.out Hm.out A1 A2 c1 c2 _ (Row.to hr1_ hBr3) hr2_ (by omega) (by omega) q Hq.out).mono ?_; rintro e wr4 ⟨z, rfl, hz, hBr4⟩
  go_wp2_with fail
  refine hK_.out _ _ (by exact ⟨cells5' (block_below hBr4 (block_below hBr3 (block_below hBr1 (block_below (below_drew1 _) hf0)))), cells5' (block_below hBr4 (block_below hBr3 (block_below hBr1 (block_below (below_drew1 _) hg0))))⟩) (fun hHeld_4 => ?_)
  clear hK_
  try simp only [Act.put, List.setIfInBounds_toArray, List.set_cons_zero, List.set_cons_succ]
  refine wpAnyH_take' (i := 5) (v := ?v5_t1) 4 rfl rfl (by kernel_rfl) (by kernel_rfl) (by kernel_rfl) (fun _ _ _ h => h) (Or.inl ⟨by kernel_rfl, ?hy5_t1⟩) (by assumption) ?rest5_t1
  case hy5_t1 => (intro W_ hS_; (try dsimp only at hS_); go_simp; (try (with_reducible rfl)))
  try simp only [Act.put, List.setIfInBounds_toArray, List.set_cons_zero, List.set_cons_succ]
  refine wpAnyH_done (by kernel_rfl) ?_ _
  go_wp2_with fail
  go_ret
  exact ⟨z, rfl, hz, below_then hT0 (below_then (below_then (below_then (below_drew1 _) hBr1) hBr3) hBr4)⟩

set_option maxRecDepth 100000 in
set_option maxHeartbeats 2000000 in
theorem firstLeast_c {w : World} {P : Nat → Prop} {A : Option Addr} {n c : Nat} {Fs : List FC} (h : FSl w P A n c Fs) (hok : ∀ F ∈ Fs, okC F) (h0 : 0 < n) (hm : n ≤ 1000) :
    Calls Try.prog 71 #[.slice A n c, fnv 68] w fun e w' => e = .returned (.int .i64 (leastTo Fs n : Nat)) ∧ Below w.heap.size w w' := by
  have Hok := Lib.hid hok
  clear hok
  go_enter Try.func71, Try.ntmps71
  go_wp2_with fail
  go_loopw [5, 9] (fun a i wr => ∃ k j : Nat, k ≤ n ∧ j < n ∧ i = .int .i64 k ∧ a = .int .i64 j ∧ Hid (leastTo Fs k = j) ∧ Below w.heap.size w wr) (fun _ i _ => n - (intOf i).toNat)
  case atStart => exact ⟨0, 0, Nat.zero_le _, h0, rfl, rfl, Lib.hid rfl, Below.refl _ _⟩
  case round =>
    obtain ⟨k, j, hk, hj, rfl, rfl, Hj, hB⟩ := hrel
    by_cases hlt : k < n
    · obtain ⟨ad, f, rfl, ⟨a0, a1, a2, a3, a4⟩, hf, hF⟩ := fsl_getD (h.to hB) hlt
      obtain ⟨ad', g, hae, ⟨b0, b1, b2, b3, b4⟩, hg, hG⟩ := fsl_getD (h.to hB) hj
      obtain rfl := Option.some.inj hae
      clear hae
      have HF := Lib.hid (Hok.out _ hF)
      have HG := Lib.hid (Hok.out _ hG)
      clear hF hG
      obtain ⟨q, hq⟩ : ∃ q, lessC (Fs.getD k zeroF) (Fs.getD j zeroF) = q := ⟨_, rfl⟩
      have Hq := Lib.hid hq
      clear hq
      have Hnx := Lib.hid (show leastTo Fs (k + 1) = if q then k else j by rw [leastTo, Hj.out, Hq.out])
      have i1 : (k : Int) < (n : Int) := by omega
      have i2 : (j : Int) < (n : Int) := by omega
      cases q
      · go_wp2_with fail
        go_region_with (first
          | (go_at_call 68; refine (next1_c (hf.to (below_drew1 _)) (hg.to (below_drew1 _)) HF.out HG.out false Hq.out).mono ?_; rintro e w2 ⟨z, rfl, hz, hB2⟩)
          | fail)
        all_goals
          go_wp2_with fail
          go_round
          case measure => simp [intOf]; omega
          exact ⟨k + 1, j, by omega, hj, by go_num, rfl, Lib.hid (by rw [Hnx.out]; rfl), below_then hB (below_then (below_drew1 _) hB2)⟩
      · go_wp2_with fail
        go_region_with (first
          | (go_at_call 68; refine (next1_c (hf.to (below_drew1 _)) (hg.to (below_drew1 _)) HF.out HG.out true Hq.out).mono ?_; rintro e w2 ⟨z, rfl, hz, hB2⟩)
          | fail)
        all_goals
          go_wp2_with fail
          go_round
          case measure => simp [intOf]; omega
          exact ⟨k + 1, k, by omega, hlt, by go_num, rfl, Lib.hid (by rw [Hnx.out]; rfl), below_then hB (below_then (below_drew1 _) hB2)⟩
    · obtain rfl : k = n := by omega
      go_wp2_with fail
      go_ret
      exact ⟨ret_int (by rw [Hj.out]), hB⟩


end Go.Proofs.Ytlbgilbigcnleaa
